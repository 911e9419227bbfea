/- Texts that the proof of the law stands on: MJ. -/
import Derived.Test.YtmceophmdkcgcaaPartC
/- MarksFollow: the walk. -/
namespace Go.Proofs.Ytmceophmdkcgcaa
open Go.ChangeShapes Go.WideShapes Go.ChangeAt Go.RowKit Go.Maps Go.MapKept
set_option linter.unusedVariables false
set_option linter.unusedSimpArgs false
/-- What holds ahead of the round i. -/
structure Fo (w : World) (t b : Nat) (mine : Int) (v : Value) (L : List Int) (f : Mf) (i : Nat) (W : World) : Prop where
  mm : Mk t b f W
  kp : Kp w W
  hb : w.heap.size ≤ b
  tx : Tx w.heap.size v L W
  inn : In mine L f
  bd : Bd (2147483647 * ((i : Int) + 1)) f
theorem in_start {n q : Nat} (h : q < n) (f : Mf) (hf : f 120 = some ((q : Int) + 1)) : In (q : Int) (tg n) f := by
  intro p
  rw [tg_at, hf]
  split
  · simp only [Option.some.injEq]; omega
  · simp only [reduceCtorEq, Option.some.injEq, false_iff]; omega
theorem Fo.bl {w W : World} {t b : Nat} {mine : Int} {v : Value} {L : List Int} {f : Mf} {i : Nat} (h : Fo w t b mine v L f i W) : Bl w t b f v L (.slice none 0 0) [] W := ⟨h.mm, h.kp, h.hb, h.tx, World.ownsRow_nil _ _ _ _, .inl rfl⟩
def wh (F : Mf) (k : Nat) : Int := match F 120 with | some c => if c ≤ k then c else 0 | none => 0
section
variable {F : Mf} {k : Nat} {mine M : Int} {O : List Int}
theorem wh_zero (hB : Bd M F) : wh F 0 = 0 := by
  unfold wh
  split
  · rename_i c hc; have := (hB _ _ hc).1; rw [if_neg (by omega)]
  · rfl
theorem wh_hit (h : In mine O F) (hk : O[k]? = some mine) : wh F (k + 1) = (k : Int) + 1 := by
  unfold wh
  rw [(h k).1 hk]
  show (if (k : Int) + 1 ≤ ((k + 1 : Nat) : Int) then (k : Int) + 1 else 0) = _
  rw [if_pos (by omega)]
theorem wh_miss (h : In mine O F) (hk : O[k]? ≠ some mine) : wh F (k + 1) = wh F k := by
  unfold wh
  split
  · rename_i c hc
    have : c ≠ (k : Int) + 1 := fun q => hk ((h k).2 (by rw [hc, q]))
    split <;> split <;> omega
  · rfl
theorem wh_end (h : In mine O F) (hB : Bd M F) : wh F O.length = (F 120).getD 0 := by
  unfold wh
  split
  · rename_i c hc; have := h.at_ hB hc; rw [if_pos (by omega), hc]; rfl
  · rename_i hc; rw [hc]; rfl
end
theorem max0 (x : Int) : 0 ≤ max x 0 := by omega
theorem tmod_nat {x : Int} (hx : 0 ≤ x) {n : Nat} (hn : 0 < n) : ∃ p : Nat, Int.tmod x (n : Int) = (p : Int) ∧ p < n := by
  refine ⟨(Int.tmod x n).toNat, ?_, ?_⟩
  · rw [Int.toNat_of_nonneg]; exact Int.tmod_nonneg _ hx
  · have := Int.tmod_lt_of_pos x (show (0 : Int) < n by omega)
    have := Int.tmod_nonneg (n : Int) hx
    omega
set_option maxHeartbeats 64000000 in
set_option maxRecDepth 100000 in
theorem follow_walk (x : Nat) (hx : x < 256) (y : Nat) (hy : y < 256) {v : Value} {l : List Op5} {w : World} (h : Opl v l w) (hok : ∀ t ∈ l, t.ok) : Calls Try.prog 6 #[.int .u8 x, .int .u8 y, v] w fun e w' => e = .returned (.bool true) ∧ Kp w w' := by
  obtain ⟨va, cap, rfl, k1, k2, k3⟩ := h.at_
  obtain ⟨N, hN⟩ : ∃ N, l.length = N := ⟨_, rfl⟩
  have HC : Hid (∀ i, i < N → ∃ B o kd a b0 c, kd < 256 ∧ va = some ⟨B, o, none⟩ ∧ w.cell? ⟨B, o + i * 5, none⟩ = some (.int .u8 ((kd : Nat) : Int)) ∧ w.cell? ⟨B, o + i * 5 + 2, none⟩ = some (.int .i64 a) ∧ w.cell? ⟨B, o + i * 5 + 3, none⟩ = some (.int .i64 b0) ∧ w.cell? ⟨B, o + i * 5 + 4, none⟩ = some (.int .i64 c)) := fun i hi => by
    obtain ⟨B, o, e, c0, c1, c2, c3, c4⟩ := k3 i (by omega)
    have ho := hok _ (List.getElem_mem (by omega : i < l.length))
    exact ⟨B, o, _, _, _, _, ho.kd, e, c0, c2, c3, c4⟩
  rw [hN] at k1 ⊢
  unfold maxLen at k2
  clear k3 hN h hok
  by_cases h60 : 30 < N
  · have d1 : decide ((N : Int) > 30) = true := decide_eq_true (by omega)
    have d2 : decide ((30 : Int) < (N : Int)) = true := decide_eq_true (by omega)
    have d3 : decide (30 < N) = true := decide_eq_true (by omega)
    clear HC h60
    go_enter Try.func6, Try.ntmps6
    go_wp2_with fail
    refine Calls.mono (kknown_any w) ?_
    rintro e w2 ⟨rfl, kk⟩
    have HK : Hid (Kp w w2) := kk
    clear kk
    go_wp2_with fail
    go_ret
    exact ⟨rfl, HK.out⟩
  · have d1 : decide ((N : Int) > 30) = false := decide_eq_false (by omega)
    have d2 : decide ((30 : Int) < (N : Int)) = false := decide_eq_false (by omega)
    have d3 : decide (30 < N) = false := decide_eq_false (by omega)
    have h60' : N ≤ 30 := by omega
    obtain ⟨p, hp, hp50⟩ := tmod_nat (x := (x : Int)) (by omega) (show 0 < 50 by omega)
    have hp' : Int.tmod (x : Int) 50 = (p : Int) := hp
    obtain ⟨n0, hn0⟩ : ∃ n0, n0 = p + 1 := ⟨_, rfl⟩
    have u0 : 1 + (p : Int) = (n0 : Int) := by omega
    have n050 : n0 ≤ 50 := by omega
    have n01 : 1 ≤ n0 := by omega
    obtain ⟨mi, hmi, hmi0⟩ := tmod_nat (x := (y : Int)) (by omega) (show 0 < n0 by omega)
    clear h60 hn0 hp
    go_enter Try.func6, Try.ntmps6
    go_wp2_with fail
    refine Calls.mono (kknown_any w) ?_
    rintro e w2 ⟨rfl, kk⟩
    have HK : Hid (Kp w w2) := kk
    clear kk
    go_wp2_with fail
    refine Calls.mono (tagged_any n0 n050 w2) ?_
    rintro e w3 ⟨v3, rfl, h3⟩
    obtain ⟨ga0, cap0, rfl, hc1, hc2⟩ := h3.out.1.form
    rw [tg_len] at h3 hc1 ⊢
    unfold maxLen at hc2
    have H3 : Hid (Tx w.heap.size (.slice ga0 n0 cap0) (tg n0) w3 ∧ Kp w w3) := ⟨row_lift h3.out.1 (fun j hj => by have := (World.ownsRow.lt h3.out.1 j hj).1; have := HK.out.size; omega), kp_trans HK.out h3.out.2⟩
    clear h3 HK
    go_wp2_with fail
    refine Calls.mono (new_any w3) ?_
    rintro e w4 ⟨t, b, rfl, h4, k4, ht, hb⟩
    have H4 : Hid (Mk t b (fun _ => none) w4 ∧ Tx w.heap.size (.slice ga0 n0 cap0) (tg n0) w4 ∧ Kp w w4 ∧ w.heap.size ≤ b) := ⟨h4, H3.out.1.kp k4, kp_trans H3.out.2 k4, by have := H3.out.2.size; omega⟩
    clear h4 k4 ht hb H3
    go_wp2_with fail
    refine Calls.mono (set_any H4.out.1 (x := 120) (by omega) (by omega) ((mi : Int) + 1)) ?_
    rintro e w5 ⟨rfl, hm5, hf5⟩
    have H5 : Hid (Fo w t b mi (.slice ga0 n0 cap0) (tg n0) (setF (fun _ => none) 120 ((mi : Int) + 1)) 0 w5) := by
      refine ⟨hm5, Fr.kpn (n := 0) H4.out.2.2.1 hf5 H4.out.2.2.2, H4.out.2.2.2, row_fr H4.out.2.1 hf5 (fun j hj q => tx_map H4.out.2.1 H4.out.1.map (by rw [hj, q])), in_start hmi0 _ ?_, setF_bd (bd_none _) (by omega) _ _⟩
      have e0 : setE 120 ((mi : Int) + 1) = 0 := by unfold setE; rw [if_neg (by omega), if_neg (by omega)]
      unfold setF
      rw [if_pos e0]
      unfold setM
      rw [if_pos rfl]
    clear hm5 hf5 H4 hmi hp' u0
    go_wp2_with fail
    go_loopw [7, 10] (fun v7 v10 wr => ∃ (i n : Nat) (ga : Option Addr) (cp : Nat) (L : List Int) (f : Mf), i ≤ N ∧ v10 = .int .i64 i ∧ v7 = .slice ga n cp ∧ n ≤ cp ∧ cp ≤ 2 ^ 63 - 1 ∧ n ≤ 50 + 4 * i ∧ Hid (L.length = n ∧ Fo w t b mi (.slice ga n cp) L f i wr)) (fun _ v10 _ => N - (intOf v10).toNat)
    case atStart => exact ⟨0, n0, ga0, cap0, tg n0, _, Nat.zero_le _, rfl, rfl, hc1, hc2, by omega, tg_len _, H5.out⟩
    case round =>
      obtain ⟨i, n, ga, cp, L, f, hi, rfl, rfl, hcp1, hcp2, hn50, HI⟩ := hrel
      clear H5 hc1 hc2 n050 n01
      by_cases hlt : i < N
      · have g1 : decide ((i : Int) < (N : Int)) = true := decide_eq_true (by omega)
        have g2 : decide (i < N) = true := decide_eq_true (by omega)
        obtain ⟨B, o, kd, xa, xb, xc, hkd, rfl, e0, e2, e3, e4⟩ := HC.out i hlt
        replace e0 := kp_cell HI.out.2.kp e0
        replace e2 := kp_cell HI.out.2.kp e2
        replace e3 := kp_cell HI.out.2.kp e3
        replace e4 := kp_cell HI.out.2.kp e4
        have hn170 : n ≤ 170 := by omega
        obtain ⟨n1, hn1⟩ : ∃ n1, n1 = n + 1 := ⟨_, rfl⟩
        obtain ⟨pa, hpa, hpan⟩ := tmod_nat (max0 xa) (show 0 < n1 by omega)
        obtain ⟨a, haa⟩ : ∃ a, a = pa + 1 := ⟨_, rfl⟩
        obtain ⟨s, hs⟩ : ∃ s, s + a = n + 2 := ⟨n + 2 - a, by omega⟩
        obtain ⟨D, hD⟩ : ∃ D, (n : Int) - (a : Int) = D := ⟨_, rfl⟩
        obtain ⟨bb, hbb, hbbs⟩ := tmod_nat (max0 xb) (show 0 < s by omega)
        have v1 : (n : Int) + 1 = (n1 : Int) := by omega
        have v2 : 1 + (pa : Int) = (a : Int) := by omega
        have v3 : (a : Int) - 1 = (pa : Int) := by omega
        have v4 : D + 2 = (s : Int) := by omega
        have bD : -1 ≤ D ∧ D ≤ 200 := by omega
        have bD1 : -1 ≤ D := bD.1
        have bD2 : D ≤ 200 := bD.2
        have ba : a ≤ 200 := by omega
        have bbb : bb ≤ 200 := by omega
        have bs : s ≤ 200 := by omega
        have bs1 : 1 ≤ s := by omega
        have bn1 : n1 ≤ 200 := by omega
        have bn11 : 1 ≤ n1 := by omega
        have HNN : Hid (n1 = n + 1 ∧ a = pa + 1 ∧ s + a = n + 2 ∧ bb < s ∧ pa + bb ≤ n) := ⟨hn1, haa, hs, hbbs, by omega⟩
        clear hn1 haa hs hbbs hpan bD HC
        by_cases hk2 : kd % 2 = 0
        · have w1 : Int.tmod (kd : Int) 2 = 0 := by rw [Int.tmod_eq_emod_of_nonneg (by omega)]; omega
          obtain ⟨c, hc, hc5⟩ := tmod_nat (max0 xc) (show 0 < 5 by omega)
          have hc' : Int.tmod (max xc 0) 5 = (c : Int) := hc
          clear hc hk2
          have hpn : pa ≤ n := by have := HNN.out.2.2.2.2; omega
          have HB : Hid (Bl w t b f (.slice ga n cp) L (.slice none 0 0) [] wr) := HI.out.2.bl
          as_aux_lemma =>
            go_wp2_with (at_builtin; refine wpl_app rfl (.tmp 92) (.tmp 96) rfl HB.out rfl rfl rfl (L.take pa) (by rw [List.length_take, HI.out.1]; omega) (fun q => by have := HI.out.2.tx; rw [q] at this; have := this.none; omega) (tx_take HI.out.2.tx pa) (by simp; omega) ?_; intro go1 cp1 W1 O1 hO1 hO1l hc1 hc1' hB1)
            simp only [List.nil_append, List.length_nil, Nat.zero_add] at hO1 hO1l hc1 hB1
            have HB1 : Hid (Bl w t b f (.slice ga n cp) L (.slice go1 pa cp1) O1 W1 ∧ O1.length = pa ∧ Tld (spG L a bb c) O1) := by
              refine ⟨hB1, hO1l, ?_⟩
              subst hO1
              intro j hj
              rw [hO1l] at hj
              have := HNN.out.2.1
              unfold spG
              rw [List.getElem?_take_of_lt hj, if_pos (by omega)]
            clear hB1 hO1 hO1l HB
            obtain ⟨ee, hee⟩ : ∃ ee, ee = pa + bb := ⟨_, rfl⟩
            have v6 : (pa : Int) + (bb : Int) = (ee : Int) := by omega
            have heen : ee ≤ n := by have := HNN.out.2.2.2.2; omega
            have HEE : Hid (ee = pa + bb) := hee
            clear hpa hbb hc' e0 e2 e3 e4 w1 hee
            go_loopw [14, 16] (fun v14 v16 wq => ∃ (k : Nat) (go : Option Addr) (cq : Nat) (O : List Int), k ≤ c ∧ v16 = .int .i64 k ∧ v14 = .slice go (pa + k) cq ∧ pa + k ≤ cq ∧ cq ≤ 2 ^ 63 - 1 ∧ Hid (Bl w t b f (.slice ga n cp) L (.slice go (pa + k) cq) O wq ∧ O.length = pa + k ∧ Tld (spG L a bb c) O)) (fun _ v16 _ => c - (intOf v16).toNat)
            case atStart => exact ⟨0, go1, cp1, O1, Nat.zero_le _, rfl, rfl, hc1, hc1', HB1.out⟩
            case round =>
              obtain ⟨k, go, cq, O, hk, rfl, rfl, hq1, hq2, HQ⟩ := hrel
              clear HB1
              by_cases hkc : k < c
              · have y1 : decide ((k : Int) < (c : Int)) = true := decide_eq_true (by omega)
                have y2 : decide (k < c) = true := decide_eq_true (by omega)
                by_cases hkb : k < bb
                · have y3 : decide ((k : Int) < (bb : Int)) = true := decide_eq_true (by omega)
                  have y4 : decide (k < bb) = true := decide_eq_true (by omega)
                  obtain ⟨r, hr⟩ : ∃ r, r = pa + k := ⟨_, rfl⟩
                  have v5 : (pa : Int) + (k : Int) = (r : Int) := by omega
                  have hrn : r < n := by omega
                  obtain ⟨z, hz⟩ : ∃ z, L[r]? = some z := ⟨_, List.getElem?_eq_getElem (by rw [HI.out.1]; exact hrn)⟩
                  obtain ⟨g, rfl, cz⟩ := HQ.out.1.tx.at_ hz
                  have HA : Hid (Bl w t b f (.slice (some ⟨g, 0, none⟩) n cp) L (.slice go (pa + k) cq) O (wr.alloc (.cells #[.int .i64 z] 3)) ∧ O.length = pa + k) := ⟨HQ.out.1.kp_ (kp_alloc _ _), HQ.out.2.1⟩
                  have HT : Hid (Tld (spG L a bb c) (O ++ [z])) := by
                    refine HQ.out.2.2.app (fun j hj => ?_)
                    obtain rfl : j = 0 := by simpa using hj
                    have := HNN.out.2.1
                    unfold spG
                    rw [HQ.out.2.1, if_neg (by omega), if_pos (by omega), if_pos (by omega), Nat.add_zero, ← hr, hz]
                    rfl
                  clear HQ HI hr hz
                  go_wp2_with (at_builtin; refine wpl_app rfl (.tmp 106) (.tmp 114) rfl HA.out.1 HA.out.2 rfl rfl [z] rfl (fun q => by cases q) (tx_new z wr) (by omega) ?_; intro go2 cq2 W2 O2 hO2 hO2l hc2 hc2' hB2)
                  have HX : Hid (Bl w t b f (.slice (some ⟨g, 0, none⟩) n cp) L (.slice go2 (pa + (k + 1)) cq2) O2 W2 ∧ O2.length = pa + (k + 1) ∧ Tld (spG L a bb c) O2) := ⟨hB2, hO2l, by subst hO2; exact HT.out⟩
                  clear hB2 hO2 hO2l HA HT cz
                  go_roundw
                  case rel => exact ⟨k + 1, go2, cq2, O2, by omega, by go_num, rfl, hc2, hc2', HX.out⟩
                  case measure => simp only [intOf]; omega
                · have y3 : decide ((k : Int) < (bb : Int)) = false := decide_eq_false (by omega)
                  have y4 : decide (k < bb) = false := decide_eq_false (by omega)
                  have HA : Hid (Bl w t b f (.slice ga n cp) L (.slice go (pa + k) cq) O (wr.alloc (.cells #[.int .i64 (-1)] 3)) ∧ O.length = pa + k) := ⟨HQ.out.1.kp_ (kp_alloc _ _), HQ.out.2.1⟩
                  have HT : Hid (Tld (spG L a bb c) (O ++ [-1])) := by
                    refine HQ.out.2.2.app (fun j hj => ?_)
                    obtain rfl : j = 0 := by simpa using hj
                    have := HNN.out.2.1
                    unfold spG
                    rw [HQ.out.2.1, if_neg (by omega), if_pos (by omega), if_neg (by omega)]
                    rfl
                  clear HQ HI
                  go_wp2_with (at_builtin; refine wpl_app rfl (.tmp 116) (.tmp 117) rfl HA.out.1 HA.out.2 rfl rfl [-1] rfl (fun q => by cases q) (tx_new (-1) wr) (by omega) ?_; intro go2 cq2 W2 O2 hO2 hO2l hc2 hc2' hB2)
                  have HX : Hid (Bl w t b f (.slice ga n cp) L (.slice go2 (pa + (k + 1)) cq2) O2 W2 ∧ O2.length = pa + (k + 1) ∧ Tld (spG L a bb c) O2) := ⟨hB2, hO2l, by subst hO2; exact HT.out⟩
                  clear hB2 hO2 hO2l HA HT
                  go_roundw
                  case rel => exact ⟨k + 1, go2, cq2, O2, by omega, by go_num, rfl, hc2, hc2', HX.out⟩
                  case measure => simp only [intOf]; omega
              · obtain rfl : k = c := by omega
                have y1 : decide ((k : Int) < (k : Int)) = false := by simp
                obtain ⟨sa, hsa⟩ : ∃ sa, (if cp = ee then ga else Option.map (fun x => x.add ee) ga) = sa := ⟨_, rfl⟩
                obtain ⟨m, hm⟩ : ∃ m, n - ee = m := ⟨_, rfl⟩
                obtain ⟨nn, hnn0⟩ : ∃ nn, pa + k + m = nn := ⟨_, rfl⟩
                have HSA : Hid ((sa = none → m = 0 ∧ cp - ee = 0) ∧ ∀ ad, sa = some ad → ∀ j u, (zs ((L.drop ee).take m))[j]? = some u → wr.cell? (ad.add j) = some u) := by
                  subst hm hsa
                  refine ⟨fun q => ?_, tx_sub HQ.out.1.tx HI.out.1.symm hcp1 ee (n - ee)⟩
                  by_cases q2 : cp = ee
                  · omega
                  · rw [if_neg q2, Option.map_eq_none_iff] at q
                    have h9 := HQ.out.1.tx
                    rw [q] at h9
                    have := h9.none
                    omega
                have hnn : nn ≤ 50 + 4 * (i + 1) := by omega
                have hsm : pa + k + m ≤ 10000 := by omega
                have HTT : Hid (Tld (spG L a bb k) (O ++ (L.drop ee).take m) ∧ ((L.drop ee).take m).length = m ∧ nn = n - bb + k ∧ pa + bb ≤ n) := by
                  have h1 := HNN.out
                  have h2 := HEE.out
                  refine ⟨HQ.out.2.2.app (fun j hj => ?_), by rw [List.length_take, List.length_drop, HI.out.1]; omega, by omega, by omega⟩
                  rw [List.length_take] at hj
                  rw [List.getElem?_take_of_lt (by omega), List.getElem?_drop]
                  unfold spG
                  rw [HQ.out.2.1, if_neg (by omega), if_neg (by omega)]
                  congr 1
                  omega
                go_wp2_with (at_builtin; refine wpl_app rfl (.tmp 119) (.tmp 125) rfl HQ.out.1 HQ.out.2.1 rfl rfl ((L.drop ee).take m) HTT.out.2.1 HSA.out.1 HSA.out.2 hsm ?_; intro go3 cq3 W3 O3 hO3 hO3l hq31 hq32 hB3)
                have HB3 : Hid (Bl w t b f (.slice ga n cp) L (.slice go3 nn cq3) O3 W3 ∧ O3.length = nn ∧ Tld (spG L a bb k) O3 ∧ nn = n - bb + k ∧ pa + bb ≤ n) := by
                  rw [hnn0] at hB3 hO3l
                  exact ⟨hB3, hO3l, by rw [hO3]; exact HTT.out.1, HTT.out.2.2⟩
                rw [hnn0] at hq31
                clear hB3 hO3l hO3 HSA HTT HQ hm hsa
                have HSP : Hid (Calls Try.prog 15 #[.pointer (some ⟨t, 0, none⟩), .int .i64 (a : Int), .int .i64 (bb : Int), .int .i64 (k : Int)] W3 fun e W4 => e = .returned (.tuple #[]) ∧ Hid (∃ F, O3.length = nn ∧ Fo w t b mi (.slice go3 nn cq3) O3 F (i + 1) W4)) := by
                  refine (splice_any HB3.out.1.mm HI.out.2.bd (by omega) a bb k).mono ?_
                  rintro e W4 ⟨he, hm4, hf4⟩
                  have h5 := HB3.out.1.onM hm4 hf4
                  have h1 := HNN.out
                  refine ⟨he, _, HB3.out.2.1, h5.mm, h5.kp, h5.hb, h5.out, HI.out.2.inn.splice (by omega) HI.out.2.bd (by omega) (by rw [HI.out.1]; omega) (by rw [HI.out.1]; omega) (by omega) (by rw [HB3.out.2.1, HI.out.1]; exact HB3.out.2.2.2.1) HB3.out.2.2.1, ?_⟩
                  have := spF_bd HI.out.2.bd (a : Int) (bb : Int) (k : Int)
                  exact this.mono (by omega)
                go_wp2_with fail
                refine Calls.mono HSP.out ?_
                rintro e W4 ⟨rfl, HFF⟩
                clear HSP HB3 HI HNN HEE
                obtain ⟨F, HF⟩ := HFF.out
                clear HFF
                obtain ⟨P, hP⟩ : ∃ P, (F 120).getD 0 = P := ⟨_, rfl⟩
                obtain ⟨QQ, hQ, hPQ⟩ : ∃ QQ : Int, (if (F 120).isSome then (0 : Int) else 100) = QQ ∧ (P = 0 ∧ QQ = 100 ∨ 1 ≤ P ∧ QQ = 0) := by
                  refine ⟨_, rfl, ?_⟩
                  cases hf : F 120 with
                  | none => left; rw [hf] at hP; exact ⟨hP.symm, rfl⟩
                  | some c => right; rw [hf] at hP; have := (HF.2.bd _ _ hf).1; simp only [Option.getD_some] at hP; exact ⟨by omega, rfl⟩
                have HG := get_any HF.2.mm (x := 120) (by omega) (by omega)
                rw [hP, hQ] at HG
                have HGG : Hid _ := HG
                have HE : Hid (wh F nn = P) := by show wh F nn = P; rw [← HF.1, wh_end HF.2.inn HF.2.bd, hP]
                have HFo : Hid (O3.length = nn ∧ Fo w t b mi (.slice go3 nn cq3) O3 F (i + 1) W4) := HF
                clear HG hP hQ HF
                go_wp2_with fail
                go_loopw [20, 21] (fun v20 v21 wq => ∃ (kk : Nat) (r : Int), kk ≤ nn ∧ v21 = .int .i64 kk ∧ v20 = .int .i64 r ∧ wq = W4 ∧ Hid (wh F kk = r)) (fun _ v21 _ => nn - (intOf v21).toNat)
                case atStart => exact ⟨0, 0, Nat.zero_le _, rfl, rfl, rfl, wh_zero HFo.out.2.bd⟩
                case round =>
                  obtain ⟨kk, r, hkk, rfl, rfl, rfl, HW⟩ := hrel
                  by_cases hkn : kk < nn
                  · have y1 : decide ((kk : Int) < (nn : Int)) = true := decide_eq_true (by omega)
                    have y2 : decide (kk < nn) = true := decide_eq_true (by omega)
                    obtain ⟨z, hz⟩ : ∃ z, O3[kk]? = some z := ⟨_, List.getElem?_eq_getElem (by rw [HFo.out.1]; exact hkn)⟩
                    obtain ⟨g, rfl, cz⟩ := HFo.out.2.tx.at_ hz
                    by_cases hzm : z = (mi : Int)
                    · subst hzm
                      have HW2 : Hid (wh F (kk + 1) = (kk : Int) + 1) := wh_hit HFo.out.2.inn hz
                      clear HW hz HGG HE HFo hPQ
                      go_wp2_with fail
                      exact ⟨⟨kk + 1, (kk : Int) + 1, by omega, by go_num, rfl, by trivial, HW2.out⟩, by simp only [intOf]; omega⟩
                    · have y3 : (z == (mi : Int)) = false := by simpa using hzm
                      have HW2 : Hid (wh F (kk + 1) = r) := by rw [← HW.out]; exact wh_miss HFo.out.2.inn (by rw [hz]; simpa using hzm)
                      clear HW hz HGG HE HFo hPQ
                      go_wp2_with fail
                      exact ⟨⟨kk + 1, r, by omega, by go_num, rfl, by trivial, HW2.out⟩, by simp only [intOf]; omega⟩
                  · obtain rfl : kk = nn := by omega
                    have y1 : decide ((kk : Int) < (kk : Int)) = false := by simp
                    obtain rfl : P = r := by rw [← HE.out, HW.out]
                    clear HW HE hkn
                    go_wp2_with fail
                    refine Calls.mono HGG.out ?_
                    rintro e w9 ⟨rfl, rfl⟩
                    clear HGG
                    rcases hPQ with ⟨rfl, rfl⟩ | ⟨hP1, rfl⟩
                    · go_wp2_with fail
                      exact ⟨⟨i + 1, kk, go3, cq3, O3, F, by omega, by go_num, rfl, hq31, hq32, hnn, HFo.out⟩, by simp only [intOf]; omega⟩
                    · have y5 : decide (P > 0) = true := decide_eq_true (by omega)
                      have y6 : decide (0 < P) = true := decide_eq_true (by omega)
                      go_wp2_with fail
                      exact ⟨⟨i + 1, kk, go3, cq3, O3, F, by omega, by go_num, rfl, hq31, hq32, hnn, HFo.out⟩, by simp only [intOf]; omega⟩
        · have w1 : Int.tmod (kd : Int) 2 = 1 := by rw [Int.tmod_eq_emod_of_nonneg (by omega)]; omega
          clear hk2
          as_aux_lemma =>
            obtain ⟨z, hz⟩ : ∃ z, z = pa + bb := ⟨_, rfl⟩
            obtain ⟨z1, hz1⟩ : ∃ z1, z1 = a + bb := ⟨_, rfl⟩
            have v5 : (a : Int) + (bb : Int) = (z1 : Int) := by omega
            have v6 : (z1 : Int) - 1 = (z : Int) := by have := HNN.out.2.1; omega
            have hz1b : z1 ≤ 400 := by omega
            have hzn : z ≤ n := by have := HNN.out.2.2.2.2; omega
            have HEE : Hid (z = pa + bb ∧ a = pa + 1) := ⟨hz, HNN.out.2.1⟩
            clear hz hz1
            by_cases hb0 : bb = 0
            · have y0 : decide ((bb : Int) > (0 : Int)) = false := decide_eq_false (by omega)
              have y1 : decide ((0 : Int) < (bb : Int)) = false := decide_eq_false (by omega)
              have y2 : decide (0 < bb) = false := decide_eq_false (by omega)
              have HX : Hid (L.length = n ∧ Fo w t b mi (.slice ga n cp) L f (i + 1) wr) := ⟨HI.out.1, HI.out.2.mm, HI.out.2.kp, HI.out.2.hb, HI.out.2.tx, HI.out.2.inn, HI.out.2.bd.mono (by omega)⟩
              clear HI HNN
              go_wp2_with fail
              exact ⟨⟨i + 1, n, ga, cp, L, f, by omega, by go_num, rfl, hcp1, hcp2, by omega, HX.out⟩, by simp only [intOf]; omega⟩
            · have y0 : decide ((bb : Int) > (0 : Int)) = true := decide_eq_true (by omega)
              have y1 : decide ((0 : Int) < (bb : Int)) = true := decide_eq_true (by omega)
              have y2 : decide (0 < bb) = true := decide_eq_true (by omega)
              have hn0 : 0 < n := by have := HNN.out.2.2.2.2; omega
              have yn0 : decide ((n : Int) > (0 : Int)) = true := decide_eq_true (by omega)
              have yn1 : decide ((0 : Int) < (n : Int)) = true := decide_eq_true (by omega)
              have yn2 : decide (0 < n) = true := decide_eq_true (by omega)
              obtain ⟨d, hd, hdn⟩ := tmod_nat (max0 xc) (show 0 < n1 by omega)
              have hdn' : d ≤ n := by have := HNN.out.1; omega
              by_cases hcont : a ≤ d ∧ d < z
              · have ya0 : decide ((d : Int) ≥ (a : Int)) = true := decide_eq_true (by omega)
                have ya1 : decide ((a : Int) ≤ (d : Int)) = true := decide_eq_true (by omega)
                have ya2 : decide (a ≤ d) = true := decide_eq_true (by omega)
                have yb0 : decide ((d : Int) < (z : Int)) = true := decide_eq_true (by omega)
                have yb1 : decide (d < z) = true := decide_eq_true (by omega)
                have HX : Hid (L.length = n ∧ Fo w t b mi (.slice ga n cp) L f (i + 1) wr) := ⟨HI.out.1, HI.out.2.mm, HI.out.2.kp, HI.out.2.hb, HI.out.2.tx, HI.out.2.inn, HI.out.2.bd.mono (by omega)⟩
                clear HI HNN
                go_wp2_with fail
                exact ⟨⟨i + 1, n, ga, cp, L, f, by omega, by go_num, rfl, hcp1, hcp2, by omega, HX.out⟩, by simp only [intOf]; omega⟩
              · have HZ : Hid (1 ≤ a ∧ a ≤ z ∧ ¬ (a ≤ d ∧ d < z)) := ⟨by have := HEE.out; omega, by have := HEE.out; omega, hcont⟩
                go_upto_region 30 with fail
                go_cut [158] from 151 to 158 (fun v wx => v = .bool false ∧ wx = wr)
                case first =>
                  by_cases c0 : d < a
                  · have ya0 : decide ((d : Int) ≥ (a : Int)) = false := decide_eq_false (by omega)
                    have ya1 : decide ((a : Int) ≤ (d : Int)) = false := decide_eq_false (by omega)
                    have ya2 : decide (a ≤ d) = false := decide_eq_false (by omega)
                    go_wp2_with fail
                    go_meet
                    case rel => exact ⟨rfl, by trivial⟩
                  · have ya0 : decide ((d : Int) ≥ (a : Int)) = true := decide_eq_true (by omega)
                    have ya1 : decide ((a : Int) ≤ (d : Int)) = true := decide_eq_true (by omega)
                    have ya2 : decide (a ≤ d) = true := decide_eq_true (by omega)
                    have yb0 : decide ((d : Int) < (z : Int)) = false := decide_eq_false (by omega)
                    have yb1 : decide (d < z) = false := decide_eq_false (by omega)
                    go_wp2_with fail
                    go_meet
                    case rel => exact ⟨rfl, by trivial⟩
                case rest =>
                  obtain ⟨rfl, rfl⟩ := hcut
                  have HB : Hid (Bl w t b f (.slice ga n cp) L (.slice none 0 0) [] wc) := HI.out.2.bl
                  clear hpa hbb hd e0 e2 e3 e4 w1 hcont
                  go_wp2_with fail
                  go_loopw [14, 19] (fun v14 v19 wq => ∃ (k K : Nat) (go : Option Addr) (cq : Nat) (O : List Int), k ≤ n + 1 ∧ v19 = .int .i64 k ∧ v14 = .slice go K cq ∧ K ≤ cq ∧ cq ≤ 2 ^ 63 - 1 ∧ K ≤ 1000 ∧ Hid (K = mlen a z d k ∧ Bl w t b f (.slice ga n cp) L (.slice go K cq) O wq ∧ O.length = K ∧ Tld (mvG L a z d) O)) (fun _ v19 _ => n + 1 - (intOf v19).toNat)
                  case atStart => exact ⟨0, 0, none, 0, [], Nat.zero_le _, rfl, rfl, Nat.le_refl _, by omega, by omega, (mlen_zero HZ.out.1 HZ.out.2.1).symm, HB.out, rfl, tld_nil _⟩
                  case round =>
                    obtain ⟨k, K, go, cq, O, hk, rfl, rfl, hq1, hq2, hK1, HQ⟩ := hrel
                    clear HB
                    have HZ1 := HZ.out.1
                    have HZ2 := HZ.out.2.1
                    by_cases hkn : k ≤ n
                    · have x0 : decide ((k : Int) ≤ (n : Int)) = true := decide_eq_true (by omega)
                      have x1 : decide (k ≤ n) = true := decide_eq_true (by omega)
                      obtain ⟨u, hu0⟩ : ∃ u, decide (0 < k ∧ (k < a ∨ z < k)) = u := ⟨_, rfl⟩
                      have HU0 : Hid (decide (0 < k ∧ (k < a ∨ z < k)) = u) := hu0
                      clear hu0
                      go_upto_region 34 with fail
                      go_cut [175] from 164 to 175 (fun v wx => v = .bool u ∧ wx = wr)
                      case first =>
                        by_cases c0 : k = 0
                        · have y0 : decide ((k : Int) > (0 : Int)) = false := decide_eq_false (by omega)
                          have y1 : decide ((0 : Int) < (k : Int)) = false := decide_eq_false (by omega)
                          have y2 : decide (0 < k) = false := decide_eq_false (by omega)
                          have hv : u = false := by rw [← HU0.out]; exact decide_eq_false (by omega)
                          subst hv
                          go_wp2_with fail
                          go_meet
                          case rel => exact ⟨rfl, by trivial⟩
                        · have y0 : decide ((k : Int) > (0 : Int)) = true := decide_eq_true (by omega)
                          have y1 : decide ((0 : Int) < (k : Int)) = true := decide_eq_true (by omega)
                          have y2 : decide (0 < k) = true := decide_eq_true (by omega)
                          by_cases c1 : k < a
                          · have ya0 : decide ((k : Int) < (a : Int)) = true := decide_eq_true (by omega)
                            have ya1 : decide (k < a) = true := decide_eq_true (by omega)
                            have hv : u = true := by rw [← HU0.out]; exact decide_eq_true (by omega)
                            subst hv
                            go_wp2_with fail
                            go_meet
                            case rel => exact ⟨rfl, by trivial⟩
                          · have ya0 : decide ((k : Int) < (a : Int)) = false := decide_eq_false (by omega)
                            have ya1 : decide (k < a) = false := decide_eq_false (by omega)
                            by_cases c2 : k ≤ z
                            · have yb0 : decide ((k : Int) > (z : Int)) = false := decide_eq_false (by omega)
                              have yb1 : decide ((z : Int) < (k : Int)) = false := decide_eq_false (by omega)
                              have yb2 : decide (z < k) = false := decide_eq_false (by omega)
                              have hv : u = false := by rw [← HU0.out]; exact decide_eq_false (by omega)
                              subst hv
                              go_wp2_with fail
                              go_meet
                              case rel => exact ⟨rfl, by trivial⟩
                            · have yb0 : decide ((k : Int) > (z : Int)) = true := decide_eq_true (by omega)
                              have yb1 : decide ((z : Int) < (k : Int)) = true := decide_eq_true (by omega)
                              have yb2 : decide (z < k) = true := decide_eq_true (by omega)
                              have hv : u = true := by rw [← HU0.out]; exact decide_eq_true (by omega)
                              subst hv
                              go_wp2_with fail
                              go_meet
                              case rel => exact ⟨rfl, by trivial⟩
                      case rest =>
                        obtain ⟨rfl, rfl⟩ := hcut
                        cases u with
                        | true =>
                          have hu : 0 < k ∧ (k < a ∨ z < k) := of_decide_eq_true HU0.out
                          have hu9 : Hid (0 < k ∧ (k < a ∨ z < k)) := hu
                          clear HU0
                          obtain ⟨r, hr⟩ : ∃ r, k = r + 1 := ⟨k - 1, by omega⟩
                          have v7 : (k : Int) - 1 = (r : Int) := by omega
                          have hrn : r < n := by omega
                          obtain ⟨q0, hq0⟩ : ∃ q0, L[r]? = some q0 := ⟨_, List.getElem?_eq_getElem (by rw [HI.out.1]; exact hrn)⟩
                          have HCZ := HQ.out.2.1.tx.at_ hq0
                          obtain ⟨g, hg9, cz⟩ := HCZ
                          subst hg9
                          have HA : Hid (Bl w t b f (.slice (some ⟨g, 0, none⟩) n cp) L (.slice go K cq) O (wc.alloc (.cells #[.int .i64 q0] 3)) ∧ O.length = K) := ⟨HQ.out.2.1.kp_ (kp_alloc _ _), HQ.out.2.2.1⟩
                          have HT : Hid (Tld (mvG L a z d) (O ++ [q0]) ∧ K + 1 = mlen a z d k + fst1 a z k) := by
                            obtain ⟨n1', n2', n3'⟩ := HZ.out
                            refine ⟨HQ.out.2.2.2.app (fun j hj => ?_), ?_⟩
                            · obtain rfl : j = 0 := by simpa using hj
                              have := mv_one (L := L) (k := k) n1' n2' n3' hu.1 hu.2
                              rw [HQ.out.2.2.1, HQ.out.1, Nat.add_zero, this, show k - 1 = r by omega, hq0]
                              rfl
                            · unfold fst1; rw [if_pos hu, HQ.out.1]
                          have hk9 : K + 1 ≤ 1000 := by
                            obtain ⟨n1', n2', n3'⟩ := HZ.out
                            have := mlen_le (k := k) n1' n2' hzn n3' (by omega)
                            have := HT.out.2
                            omega
                          clear hr hq0 hu
                          go_upto_region 36 with (at_builtin; refine wpl_app rfl (.tmp 176) (.tmp 182) rfl HA.out.1 HA.out.2 rfl rfl [q0] rfl (fun q => by cases q) (tx_new q0 wc) (by omega) ?_; intro go2 cq2 W2 O2 hO2 hO2l hc2 hc2' hB2)
                          have HR : Hid (K + 1 = mlen a z d k + fst1 a z k ∧ Bl w t b f (.slice (some ⟨g, 0, none⟩) n cp) L (.slice go2 (K + 1) cq2) O2 W2 ∧ O2.length = K + 1 ∧ Tld (mvG L a z d) O2) := ⟨HT.out.2, hB2, hO2l, by subst hO2; exact HT.out.1⟩
                          have HU := hu9
                          clear hB2 hO2 hO2l HA HT cz HQ hu9
                          have hu := HU.out
                          obtain ⟨hzz, hpaa⟩ := HEE.out
                          by_cases c1 : k = d
                          · subst c1
                            by_cases c2 : k = z
                            · subst c2
                              exfalso
                              omega
                            · have y0 : decide ((k : Int) = (z : Int)) = false := decide_eq_false (by omega)
                              have y1 : decide (k = z) = false := decide_eq_false (by omega)
                              have yb0 : ((k : Int) == (z : Int)) = false := by simp; omega
                              have yb1 : (k == z) = false := by simp; omega
                              as_aux_lemma =>
                                have hcpa : ¬ cp = pa := by omega
                                obtain ⟨m, hm⟩ : ∃ m, z - pa = m := ⟨_, rfl⟩
                                have hsa : True := trivial
                                have HSA : Hid ((some (⟨g, pa, none⟩ : Addr) = none → m = 0 ∧ cp - pa = 0) ∧ ∀ ad, some (⟨g, pa, none⟩ : Addr) = some ad → ∀ j u, (zs ((L.drop pa).take m))[j]? = some u → W2.cell? (ad.add j) = some u) := by
                                  subst hm
                                  refine ⟨fun q => (by cases q), fun ad ha => ?_⟩
                                  refine tx_sub HR.out.2.1.tx HI.out.1.symm hcp1 pa (z - pa) ad ?_
                                  rw [if_neg hcpa, ← ha]
                                  show some ((⟨g, 0, none⟩ : Addr).add pa) = _
                                  rw [addr_add]
                                have hm200 : m ≤ 200 := by omega
                                have HTT : Hid (Tld (mvG L a z k) (O2 ++ (L.drop pa).take m) ∧ ((L.drop pa).take m).length = m ∧ (K + 1) + m = mlen a z k (k + 1) ∧ (K + 1) + m ≤ n + 1) := by
                                  obtain ⟨n1', n2', n3'⟩ := HZ.out
                                  have hxx : (k = k ∧ k ≠ z) ∨ (k = a - 1 ∧ k = z) := by omega
                                  have hms : (K + 1) + m = mlen a z k (k + 1) := by
                                    rw [mlen_succ n1' n2' n3', ← HR.out.1]
                                    unfold snd1
                                    rw [if_pos hxx]
                                    omega
                                  refine ⟨HR.out.2.2.2.app (fun j hj => ?_), by rw [List.length_take, List.length_drop, HI.out.1]; omega, hms, ?_⟩
                                  · rw [List.length_take] at hj
                                    have := mv_blk (L := L) (k := k) n1' n2' n3' hxx (j := j) (by omega)
                                    rw [List.getElem?_take_of_lt (by omega), List.getElem?_drop, HR.out.2.2.1, HR.out.1, this, show a - 1 = pa by omega]
                                  · have := mlen_le (k := k + 1) n1' n2' hzn n3' (by omega)
                                    omega
                                clear hzz hpaa HEE HU
                                go_wp2_with (at_builtin; refine wpl_app rfl (.tmp 217) (.tmp 222) rfl HR.out.2.1 HR.out.2.2.1 rfl rfl ((L.drop pa).take m) HTT.out.2.1 HSA.out.1 HSA.out.2 (by omega) ?_; intro go5 cq5 W5 O5 hO5 hO5l hc5 hc5' hB5)
                                have HX : Hid ((K + 1) + m = mlen a z k (k + 1) ∧ Bl w t b f (.slice (some ⟨g, 0, none⟩) n cp) L (.slice go5 ((K + 1) + m) cq5) O5 W5 ∧ O5.length = (K + 1) + m ∧ Tld (mvG L a z k) O5) := ⟨HTT.out.2.2.1, hB5, hO5l, by subst hO5; exact HTT.out.1⟩
                                have hle9 : (K + 1) + m ≤ 1000 := by have := HTT.out.2.2.2; omega
                                clear hB5 hO5 hO5l HTT HSA HR hsa hm
                                go_roundw
                                case rel => exact ⟨k + 1, (K + 1) + m, go5, cq5, O5, by omega, by go_num, rfl, hc5, hc5', hle9, HX.out⟩
                                case measure => simp only [intOf]; omega
                          · have y0 : decide ((k : Int) = (d : Int)) = false := decide_eq_false (by omega)
                            have y1 : decide (k = d) = false := decide_eq_false (by omega)
                            have yb0 : ((k : Int) == (d : Int)) = false := by simp; omega
                            have yb1 : (k == d) = false := by simp; omega
                            by_cases c2 : k = pa
                            · by_cases c3 : d = z
                              · subst c2
                                subst c3
                                as_aux_lemma =>
                                  have hcpa : ¬ cp = k := by omega
                                  obtain ⟨m, hm⟩ : ∃ m, d - k = m := ⟨_, rfl⟩
                                  have hsa : True := trivial
                                  have HSA : Hid ((some (⟨g, k, none⟩ : Addr) = none → m = 0 ∧ cp - k = 0) ∧ ∀ ad, some (⟨g, k, none⟩ : Addr) = some ad → ∀ j u, (zs ((L.drop k).take m))[j]? = some u → W2.cell? (ad.add j) = some u) := by
                                    subst hm
                                    refine ⟨fun q => (by cases q), fun ad ha => ?_⟩
                                    refine tx_sub HR.out.2.1.tx HI.out.1.symm hcp1 k (d - k) ad ?_
                                    rw [if_neg hcpa, ← ha]
                                    show some ((⟨g, 0, none⟩ : Addr).add k) = _
                                    rw [addr_add]
                                  have hm200 : m ≤ 200 := by omega
                                  have HTT : Hid (Tld (mvG L a d d) (O2 ++ (L.drop k).take m) ∧ ((L.drop k).take m).length = m ∧ (K + 1) + m = mlen a d d (k + 1) ∧ (K + 1) + m ≤ n + 1) := by
                                    obtain ⟨n1', n2', n3'⟩ := HZ.out
                                    have hxx : (k = d ∧ d ≠ d) ∨ (k = a - 1 ∧ d = d) := by omega
                                    have hms : (K + 1) + m = mlen a d d (k + 1) := by
                                      rw [mlen_succ n1' n2' n3', ← HR.out.1]
                                      unfold snd1
                                      rw [if_pos hxx]
                                      omega
                                    refine ⟨HR.out.2.2.2.app (fun j hj => ?_), by rw [List.length_take, List.length_drop, HI.out.1]; omega, hms, ?_⟩
                                    · rw [List.length_take] at hj
                                      have := mv_blk (L := L) (k := k) n1' n2' n3' hxx (j := j) (by omega)
                                      rw [List.getElem?_take_of_lt (by omega), List.getElem?_drop, HR.out.2.2.1, HR.out.1, this, show a - 1 = k by omega]
                                    · have := mlen_le (k := k + 1) n1' n2' hzn n3' (by omega)
                                      omega
                                  clear hzz hpaa HEE HU
                                  go_wp2_with (at_builtin; refine wpl_app rfl (.tmp 217) (.tmp 222) rfl HR.out.2.1 HR.out.2.2.1 rfl rfl ((L.drop k).take m) HTT.out.2.1 HSA.out.1 HSA.out.2 (by omega) ?_; intro go5 cq5 W5 O5 hO5 hO5l hc5 hc5' hB5)
                                  have HX : Hid ((K + 1) + m = mlen a d d (k + 1) ∧ Bl w t b f (.slice (some ⟨g, 0, none⟩) n cp) L (.slice go5 ((K + 1) + m) cq5) O5 W5 ∧ O5.length = (K + 1) + m ∧ Tld (mvG L a d d) O5) := ⟨HTT.out.2.2.1, hB5, hO5l, by subst hO5; exact HTT.out.1⟩
                                  have hle9 : (K + 1) + m ≤ 1000 := by have := HTT.out.2.2.2; omega
                                  clear hB5 hO5 hO5l HTT HSA HR hsa hm
                                  go_roundw
                                  case rel => exact ⟨k + 1, (K + 1) + m, go5, cq5, O5, by omega, by go_num, rfl, hc5, hc5', hle9, HX.out⟩
                                  case measure => simp only [intOf]; omega
                              · subst c2
                                have yc0 : decide ((d : Int) = (z : Int)) = false := decide_eq_false (by omega)
                                have yc1 : decide (d = z) = false := decide_eq_false (by omega)
                                have ycb0 : ((d : Int) == (z : Int)) = false := by simp; omega
                                have ycb1 : (d == z) = false := by simp; omega
                                as_aux_lemma =>
                                  have HX : Hid ((K + 1) = mlen a z d (k + 1) ∧ Bl w t b f (.slice (some ⟨g, 0, none⟩) n cp) L (.slice go2 (K + 1) cq2) O2 W2 ∧ O2.length = (K + 1) ∧ Tld (mvG L a z d) O2) := by
                                    obtain ⟨n1', n2', n3'⟩ := HZ.out
                                    obtain ⟨h1, h2⟩ := HR.out
                                    refine ⟨?_, h2⟩
                                    rw [mlen_succ n1' n2' n3', h1]
                                    unfold snd1
                                    rw [if_neg (by omega), Nat.add_zero]
                                  clear HR HI hzz hpaa HEE HU
                                  go_wp2_with fail
                                  exact ⟨⟨k + 1, (K + 1), go2, cq2, O2, by omega, by go_num, rfl, hc2, hc2', hk9, HX.out⟩, by simp only [intOf]; omega⟩
                            · have yb0 : decide ((k : Int) = (pa : Int)) = false := decide_eq_false (by omega)
                              have yb1 : decide (k = pa) = false := decide_eq_false (by omega)
                              have ybb0 : ((k : Int) == (pa : Int)) = false := by simp; omega
                              have ybb1 : (k == pa) = false := by simp; omega
                              as_aux_lemma =>
                                have HX : Hid ((K + 1) = mlen a z d (k + 1) ∧ Bl w t b f (.slice (some ⟨g, 0, none⟩) n cp) L (.slice go2 (K + 1) cq2) O2 W2 ∧ O2.length = (K + 1) ∧ Tld (mvG L a z d) O2) := by
                                  obtain ⟨n1', n2', n3'⟩ := HZ.out
                                  obtain ⟨h1, h2⟩ := HR.out
                                  refine ⟨?_, h2⟩
                                  rw [mlen_succ n1' n2' n3', h1]
                                  unfold snd1
                                  rw [if_neg (by omega), Nat.add_zero]
                                clear HR HI hzz hpaa HEE HU
                                go_wp2_with fail
                                exact ⟨⟨k + 1, (K + 1), go2, cq2, O2, by omega, by go_num, rfl, hc2, hc2', hk9, HX.out⟩, by simp only [intOf]; omega⟩
                        | false =>
                          have hu : ¬ (0 < k ∧ (k < a ∨ z < k)) := of_decide_eq_false HU0.out
                          have hu9 : Hid (¬ (0 < k ∧ (k < a ∨ z < k))) := hu
                          clear HU0
                          have HR : Hid (K = mlen a z d k + fst1 a z k ∧ Bl w t b f (.slice ga n cp) L (.slice go K cq) O wc ∧ O.length = K ∧ Tld (mvG L a z d) O) := ⟨by unfold fst1; rw [if_neg hu, Nat.add_zero]; exact HQ.out.1, HQ.out.2⟩
                          clear hu
                          go_upto_region 36 with fail
                          have HU := hu9
                          clear HQ hu9
                          have hu := HU.out
                          obtain ⟨hzz, hpaa⟩ := HEE.out
                          by_cases c1 : k = d
                          · subst c1
                            by_cases c2 : k = z
                            · subst c2
                              have y0 : decide ((k : Int) = (pa : Int)) = false := decide_eq_false (by omega)
                              have y1 : decide (k = pa) = false := decide_eq_false (by omega)
                              have yb0 : ((k : Int) == (pa : Int)) = false := by simp; omega
                              have yb1 : (k == pa) = false := by simp; omega
                              as_aux_lemma =>
                                have HX : Hid (K = mlen a k k (k + 1) ∧ Bl w t b f (.slice ga n cp) L (.slice go K cq) O wc ∧ O.length = K ∧ Tld (mvG L a k k) O) := by
                                  obtain ⟨n1', n2', n3'⟩ := HZ.out
                                  obtain ⟨h1, h2⟩ := HR.out
                                  refine ⟨?_, h2⟩
                                  rw [mlen_succ n1' n2' n3', h1]
                                  unfold snd1
                                  rw [if_neg (by omega), Nat.add_zero]
                                clear HR HI hzz hpaa HEE HU
                                go_wp2_with fail
                                exact ⟨⟨k + 1, K, go, cq, O, by omega, by go_num, rfl, hq1, hq2, hK1, HX.out⟩, by simp only [intOf]; omega⟩
                            · have y0 : decide ((k : Int) = (z : Int)) = false := decide_eq_false (by omega)
                              have y1 : decide (k = z) = false := decide_eq_false (by omega)
                              have yb0 : ((k : Int) == (z : Int)) = false := by simp; omega
                              have yb1 : (k == z) = false := by simp; omega
                              as_aux_lemma =>
                                obtain ⟨sa, hsa⟩ : ∃ sa, (if cp = pa then ga else Option.map (fun x => x.add pa) ga) = sa := ⟨_, rfl⟩
                                obtain ⟨m, hm⟩ : ∃ m, z - pa = m := ⟨_, rfl⟩
                                have HSA : Hid ((sa = none → m = 0 ∧ cp - pa = 0) ∧ ∀ ad, sa = some ad → ∀ j u, (zs ((L.drop pa).take m))[j]? = some u → wc.cell? (ad.add j) = some u) := by
                                  subst hm hsa
                                  refine ⟨fun q => ?_, tx_sub HR.out.2.1.tx HI.out.1.symm hcp1 pa (z - pa)⟩
                                  by_cases q2 : cp = pa
                                  · omega
                                  · rw [if_neg q2, Option.map_eq_none_iff] at q
                                    have h9 := HR.out.2.1.tx
                                    rw [q] at h9
                                    have := h9.none
                                    omega
                                have hm200 : m ≤ 200 := by omega
                                have HTT : Hid (Tld (mvG L a z k) (O ++ (L.drop pa).take m) ∧ ((L.drop pa).take m).length = m ∧ K + m = mlen a z k (k + 1) ∧ K + m ≤ n + 1) := by
                                  obtain ⟨n1', n2', n3'⟩ := HZ.out
                                  have hxx : (k = k ∧ k ≠ z) ∨ (k = a - 1 ∧ k = z) := by omega
                                  have hms : K + m = mlen a z k (k + 1) := by
                                    rw [mlen_succ n1' n2' n3', ← HR.out.1]
                                    unfold snd1
                                    rw [if_pos hxx]
                                    omega
                                  refine ⟨HR.out.2.2.2.app (fun j hj => ?_), by rw [List.length_take, List.length_drop, HI.out.1]; omega, hms, ?_⟩
                                  · rw [List.length_take] at hj
                                    have := mv_blk (L := L) (k := k) n1' n2' n3' hxx (j := j) (by omega)
                                    rw [List.getElem?_take_of_lt (by omega), List.getElem?_drop, HR.out.2.2.1, HR.out.1, this, show a - 1 = pa by omega]
                                  · have := mlen_le (k := k + 1) n1' n2' hzn n3' (by omega)
                                    omega
                                clear hzz hpaa HEE HU
                                go_wp2_with (at_builtin; refine wpl_app rfl (.tmp 217) (.tmp 222) rfl HR.out.2.1 HR.out.2.2.1 rfl rfl ((L.drop pa).take m) HTT.out.2.1 HSA.out.1 HSA.out.2 (by omega) ?_; intro go5 cq5 W5 O5 hO5 hO5l hc5 hc5' hB5)
                                have HX : Hid (K + m = mlen a z k (k + 1) ∧ Bl w t b f (.slice ga n cp) L (.slice go5 (K + m) cq5) O5 W5 ∧ O5.length = K + m ∧ Tld (mvG L a z k) O5) := ⟨HTT.out.2.2.1, hB5, hO5l, by subst hO5; exact HTT.out.1⟩
                                have hle9 : K + m ≤ 1000 := by have := HTT.out.2.2.2; omega
                                clear hB5 hO5 hO5l HTT HSA HR hsa hm
                                go_roundw
                                case rel => exact ⟨k + 1, K + m, go5, cq5, O5, by omega, by go_num, rfl, hc5, hc5', hle9, HX.out⟩
                                case measure => simp only [intOf]; omega
                          · have y0 : decide ((k : Int) = (d : Int)) = false := decide_eq_false (by omega)
                            have y1 : decide (k = d) = false := decide_eq_false (by omega)
                            have yb0 : ((k : Int) == (d : Int)) = false := by simp; omega
                            have yb1 : (k == d) = false := by simp; omega
                            by_cases c2 : k = pa
                            · by_cases c3 : d = z
                              · subst c2
                                subst c3
                                as_aux_lemma =>
                                  obtain ⟨sa, hsa⟩ : ∃ sa, (if cp = k then ga else Option.map (fun x => x.add k) ga) = sa := ⟨_, rfl⟩
                                  obtain ⟨m, hm⟩ : ∃ m, d - k = m := ⟨_, rfl⟩
                                  have HSA : Hid ((sa = none → m = 0 ∧ cp - k = 0) ∧ ∀ ad, sa = some ad → ∀ j u, (zs ((L.drop k).take m))[j]? = some u → wc.cell? (ad.add j) = some u) := by
                                    subst hm hsa
                                    refine ⟨fun q => ?_, tx_sub HR.out.2.1.tx HI.out.1.symm hcp1 k (d - k)⟩
                                    by_cases q2 : cp = k
                                    · omega
                                    · rw [if_neg q2, Option.map_eq_none_iff] at q
                                      have h9 := HR.out.2.1.tx
                                      rw [q] at h9
                                      have := h9.none
                                      omega
                                  have hm200 : m ≤ 200 := by omega
                                  have HTT : Hid (Tld (mvG L a d d) (O ++ (L.drop k).take m) ∧ ((L.drop k).take m).length = m ∧ K + m = mlen a d d (k + 1) ∧ K + m ≤ n + 1) := by
                                    obtain ⟨n1', n2', n3'⟩ := HZ.out
                                    have hxx : (k = d ∧ d ≠ d) ∨ (k = a - 1 ∧ d = d) := by omega
                                    have hms : K + m = mlen a d d (k + 1) := by
                                      rw [mlen_succ n1' n2' n3', ← HR.out.1]
                                      unfold snd1
                                      rw [if_pos hxx]
                                      omega
                                    refine ⟨HR.out.2.2.2.app (fun j hj => ?_), by rw [List.length_take, List.length_drop, HI.out.1]; omega, hms, ?_⟩
                                    · rw [List.length_take] at hj
                                      have := mv_blk (L := L) (k := k) n1' n2' n3' hxx (j := j) (by omega)
                                      rw [List.getElem?_take_of_lt (by omega), List.getElem?_drop, HR.out.2.2.1, HR.out.1, this, show a - 1 = k by omega]
                                    · have := mlen_le (k := k + 1) n1' n2' hzn n3' (by omega)
                                      omega
                                  clear hzz hpaa HEE HU
                                  go_wp2_with (at_builtin; refine wpl_app rfl (.tmp 217) (.tmp 222) rfl HR.out.2.1 HR.out.2.2.1 rfl rfl ((L.drop k).take m) HTT.out.2.1 HSA.out.1 HSA.out.2 (by omega) ?_; intro go5 cq5 W5 O5 hO5 hO5l hc5 hc5' hB5)
                                  have HX : Hid (K + m = mlen a d d (k + 1) ∧ Bl w t b f (.slice ga n cp) L (.slice go5 (K + m) cq5) O5 W5 ∧ O5.length = K + m ∧ Tld (mvG L a d d) O5) := ⟨HTT.out.2.2.1, hB5, hO5l, by subst hO5; exact HTT.out.1⟩
                                  have hle9 : K + m ≤ 1000 := by have := HTT.out.2.2.2; omega
                                  clear hB5 hO5 hO5l HTT HSA HR hsa hm
                                  go_roundw
                                  case rel => exact ⟨k + 1, K + m, go5, cq5, O5, by omega, by go_num, rfl, hc5, hc5', hle9, HX.out⟩
                                  case measure => simp only [intOf]; omega
                              · subst c2
                                have yc0 : decide ((d : Int) = (z : Int)) = false := decide_eq_false (by omega)
                                have yc1 : decide (d = z) = false := decide_eq_false (by omega)
                                have ycb0 : ((d : Int) == (z : Int)) = false := by simp; omega
                                have ycb1 : (d == z) = false := by simp; omega
                                as_aux_lemma =>
                                  have HX : Hid (K = mlen a z d (k + 1) ∧ Bl w t b f (.slice ga n cp) L (.slice go K cq) O wc ∧ O.length = K ∧ Tld (mvG L a z d) O) := by
                                    obtain ⟨n1', n2', n3'⟩ := HZ.out
                                    obtain ⟨h1, h2⟩ := HR.out
                                    refine ⟨?_, h2⟩
                                    rw [mlen_succ n1' n2' n3', h1]
                                    unfold snd1
                                    rw [if_neg (by omega), Nat.add_zero]
                                  clear HR HI hzz hpaa HEE HU
                                  go_wp2_with fail
                                  exact ⟨⟨k + 1, K, go, cq, O, by omega, by go_num, rfl, hq1, hq2, hK1, HX.out⟩, by simp only [intOf]; omega⟩
                            · have yb0 : decide ((k : Int) = (pa : Int)) = false := decide_eq_false (by omega)
                              have yb1 : decide (k = pa) = false := decide_eq_false (by omega)
                              have ybb0 : ((k : Int) == (pa : Int)) = false := by simp; omega
                              have ybb1 : (k == pa) = false := by simp; omega
                              as_aux_lemma =>
                                have HX : Hid (K = mlen a z d (k + 1) ∧ Bl w t b f (.slice ga n cp) L (.slice go K cq) O wc ∧ O.length = K ∧ Tld (mvG L a z d) O) := by
                                  obtain ⟨n1', n2', n3'⟩ := HZ.out
                                  obtain ⟨h1, h2⟩ := HR.out
                                  refine ⟨?_, h2⟩
                                  rw [mlen_succ n1' n2' n3', h1]
                                  unfold snd1
                                  rw [if_neg (by omega), Nat.add_zero]
                                clear HR HI hzz hpaa HEE HU
                                go_wp2_with fail
                                exact ⟨⟨k + 1, K, go, cq, O, by omega, by go_num, rfl, hq1, hq2, hK1, HX.out⟩, by simp only [intOf]; omega⟩
                    · obtain rfl : k = n + 1 := by omega
                      have x0 : decide (((n + 1 : Nat) : Int) ≤ (n : Int)) = false := decide_eq_false (by omega)
                      have x1 : decide ((n + 1 : Nat) ≤ n) = false := decide_eq_false (by omega)
                      have hKn : n = K := by rw [HQ.out.1]; exact (mlen_end HZ.out.1 HZ.out.2.1 hzn hdn' HZ.out.2.2).symm
                      subst hKn
                      have hnn : n ≤ 50 + 4 * (i + 1) := by omega
                      have HMV : Hid (Calls Try.prog 12 #[.pointer (some ⟨t, 0, none⟩), .int .i64 (a : Int), .int .i64 (z : Int), .int .i64 (d : Int)] wr fun e W4 => e = .returned (.tuple #[]) ∧ Hid (∃ F, O.length = n ∧ Fo w t b mi (.slice go n cq) O F (i + 1) W4)) := by
                        refine (move_any HQ.out.2.1.mm HI.out.2.bd (by omega) a z d).mono ?_
                        rintro e W4 ⟨he, hm4, hf4⟩
                        have h5 := HQ.out.2.1.onM hm4 hf4
                        refine ⟨he, _, HQ.out.2.2.1, h5.mm, h5.kp, h5.hb, h5.out, HI.out.2.inn.move HI.out.2.bd HZ.out.1 HZ.out.2.1 (by rw [HI.out.1]; exact hzn) (by rw [HI.out.1]; exact hdn') (by rw [HI.out.1]; omega) (by rw [HQ.out.2.2.1, HI.out.1]) HQ.out.2.2.2, ?_⟩
                        have := mvF_bd HI.out.2.bd (by omega) (a : Int) (z : Int) (d : Int)
                        exact this.mono (by omega)
                      go_wp2_with fail
                      refine Calls.mono HMV.out ?_
                      rintro e W4 ⟨rfl, HFF⟩
                      clear HMV HQ HI HNN HEE HZ
                      as_aux_lemma =>
                        obtain ⟨F, HF⟩ := HFF.out
                        clear HFF
                        obtain ⟨P, hP⟩ : ∃ P, (F 120).getD 0 = P := ⟨_, rfl⟩
                        obtain ⟨QQ, hQ, hPQ⟩ : ∃ QQ : Int, (if (F 120).isSome then (0 : Int) else 100) = QQ ∧ (P = 0 ∧ QQ = 100 ∨ 1 ≤ P ∧ QQ = 0) := by
                          refine ⟨_, rfl, ?_⟩
                          cases hf : F 120 with
                          | none => left; rw [hf] at hP; exact ⟨hP.symm, rfl⟩
                          | some c => right; rw [hf] at hP; have := (HF.2.bd _ _ hf).1; simp only [Option.getD_some] at hP; exact ⟨by omega, rfl⟩
                        have HG := get_any HF.2.mm (x := 120) (by omega) (by omega)
                        rw [hP, hQ] at HG
                        have HGG : Hid _ := HG
                        have HE : Hid (wh F n = P) := by show wh F n = P; rw [← HF.1, wh_end HF.2.inn HF.2.bd, hP]
                        have HFo : Hid (O.length = n ∧ Fo w t b mi (.slice go n cq) O F (i + 1) W4) := HF
                        clear HG hP hQ HF
                        go_wp2_with fail
                        go_loopw [20, 21] (fun v20 v21 wq => ∃ (kk : Nat) (r : Int), kk ≤ n ∧ v21 = .int .i64 kk ∧ v20 = .int .i64 r ∧ wq = W4 ∧ Hid (wh F kk = r)) (fun _ v21 _ => n - (intOf v21).toNat)
                        case atStart => exact ⟨0, 0, Nat.zero_le _, rfl, rfl, rfl, wh_zero HFo.out.2.bd⟩
                        case round =>
                          obtain ⟨kk, r, hkk, rfl, rfl, rfl, HW⟩ := hrel
                          by_cases hkn : kk < n
                          · have y1 : decide ((kk : Int) < (n : Int)) = true := decide_eq_true (by omega)
                            have y2 : decide (kk < n) = true := decide_eq_true (by omega)
                            obtain ⟨z, hz⟩ : ∃ z, O[kk]? = some z := ⟨_, List.getElem?_eq_getElem (by rw [HFo.out.1]; exact hkn)⟩
                            obtain ⟨g, rfl, cz⟩ := HFo.out.2.tx.at_ hz
                            by_cases hzm : z = (mi : Int)
                            · subst hzm
                              have HW2 : Hid (wh F (kk + 1) = (kk : Int) + 1) := wh_hit HFo.out.2.inn hz
                              clear HW hz HGG HE HFo hPQ
                              go_wp2_with fail
                              exact ⟨⟨kk + 1, (kk : Int) + 1, by omega, by go_num, rfl, by trivial, HW2.out⟩, by simp only [intOf]; omega⟩
                            · have y3 : (z == (mi : Int)) = false := by simpa using hzm
                              have HW2 : Hid (wh F (kk + 1) = r) := by rw [← HW.out]; exact wh_miss HFo.out.2.inn (by rw [hz]; simpa using hzm)
                              clear HW hz HGG HE HFo hPQ
                              go_wp2_with fail
                              exact ⟨⟨kk + 1, r, by omega, by go_num, rfl, by trivial, HW2.out⟩, by simp only [intOf]; omega⟩
                          · obtain rfl : kk = n := by omega
                            have y1 : decide ((kk : Int) < (kk : Int)) = false := by simp
                            obtain rfl : P = r := by rw [← HE.out, HW.out]
                            clear HW HE hkn
                            go_wp2_with fail
                            refine Calls.mono HGG.out ?_
                            rintro e w9 ⟨rfl, rfl⟩
                            clear HGG
                            rcases hPQ with ⟨rfl, rfl⟩ | ⟨hP1, rfl⟩
                            · go_wp2_with fail
                              exact ⟨⟨i + 1, kk, go, cq, O, F, by omega, by go_num, rfl, hq1, hq2, hnn, HFo.out⟩, by simp only [intOf]; omega⟩
                            · have y5 : decide (P > 0) = true := decide_eq_true (by omega)
                              have y6 : decide (0 < P) = true := decide_eq_true (by omega)
                              go_wp2_with fail
                              exact ⟨⟨i + 1, kk, go, cq, O, F, by omega, by go_num, rfl, hq1, hq2, hnn, HFo.out⟩, by simp only [intOf]; omega⟩
      · obtain rfl : i = N := by omega
        have g1 : decide ((i : Int) < (i : Int)) = false := by simp
        clear HC hlt
        go_wp2_with fail
        go_ret
        exact ⟨rfl, HI.out.2.kp⟩
end Go.Proofs.Ytmceophmdkcgcaa
