/- Texts that the proof of the law stands on: YP, YL. -/
import Derived.Test.YtbeaoonddlfcgaaPartB
/- The document's Parse and Same. -/
namespace Go.Proofs.Ytbeaoonddlfcgaa
open Go.ChangeShapes Go.WideShapes Go.ChangeAt Go.RowKit Go.Shelf
set_option linter.unusedVariables false
set_option linter.unusedSimpArgs false
theorem kp_fr {B : Nat} {v : Value} {l : List Tm} {w W W1 : World} (hB : w.heap.size = B) (k : Kp w W) (h : Rw B v l W) (f : Fr (fun k => v.ownBlock = some k) W W1) : Kp w W1 :=
  k.trans (f.below k.size fun j hj q => by have := (World.ownsRow.lt h j q).1; omega)
set_option maxHeartbeats 4000000 in
set_option maxRecDepth 100000 in
theorem yparse_any (S : ByteArray) (hS : S.size ≤ 2000) (w : World) : Calls Try.prog 11 #[.string S] w fun e w' => ∃ a cap, e = .returned (.slice a (parseF S.data.toList).length cap) ∧ Tms (.slice a (parseF S.data.toList).length cap) (parseF S.data.toList) w' ∧ Kp w w' ∧ (parseF S.data.toList).length ≤ cap ∧ cap ≤ maxLen := by
  obtain ⟨i9, hi9, z0, z1, z2⟩ := info_parts infoTm
  obtain ⟨N, hN⟩ : ∃ N, S.size = N := ⟨_, rfl⟩
  have HN : Hid (S.size = N) := hN
  obtain ⟨B, hB⟩ : ∃ B, w.heap.size = B := ⟨_, rfl⟩
  have HB : Hid (w.heap.size = B) := hB
  clear hB
  go_enter Try.func11, Try.ntmps11
  go_wp2_with fail
  go_loopw [3, 4] (fun v3 v4 wr => ∃ (k : Nat) (pre : List (UInt8 × Bool)) (a : Option Addr) (n cap : Nat), k ≤ N ∧ v4 = .int .i64 k ∧ v3 = .slice a n cap ∧ Hid (Rd7 S pre k ∧ Rw B (.slice a n cap) (layF (parL pre).2 (parL pre).1) wr ∧ Kp w wr)) (fun _ v4 _ => N - (intOf v4).toNat)
  case atStart => exact ⟨0, [], none, 0, 0, Nat.zero_le _, rfl, rfl, by unfold Rd7; simp, World.ownsRow_nil _ _ _ _, Below.refl _ _⟩
  case round =>
    obtain ⟨k, pre, a, n, cap, hk, rfl, rfl, HJ⟩ := hrel
    have HM : Hid ((parL pre).1.length ≤ 2000 ∧ (parL pre).2.length ≤ 2000) := by
      have h1 := parL_len pre
      have h2 := HJ.out.1.len
      have h3 := HN.out
      exact ⟨by omega, by omega⟩
    have HLe : Hid (B ≤ wr.heap.size) := by
      have := HJ.out.2.2.size
      rw [HB.out] at this
      exact this
    have HGo : Hid (∀ p k' e w', k' ≤ N → Rd7 S (pre ++ [p]) k' → RetT B (.slice a n cap) (layF (stepP (parL pre) p).2 (stepP (parL pre) p).1) wr e w' → ∃ a' n' cap', e = .returned (.slice a' n' cap') ∧ Hid (Rd7 S (pre ++ [p]) k' ∧ Rw B (.slice a' n' cap') (layF (parL (pre ++ [p])).2 (parL (pre ++ [p])).1) w' ∧ Kp w w')) := by
      rintro p k' e w' hk' h1 ⟨a', n', cap', rfl, h2, h3⟩
      rw [← parL_snoc] at h2
      exact ⟨a', n', cap', rfl, h1, h2, kp_fr HB.out HJ.out.2.2 HJ.out.2.1 h3⟩
    by_cases hlt : k < N
    · have hkS : k < S.size := by rw [hN]; exact hlt
      have d0 : decide ((k : Int) < (N : Int)) = true := decide_eq_true (by omega)
      obtain ⟨c, hc⟩ : ∃ c, S[k]'hkS = c := ⟨_, rfl⟩
      have hc256 : c.toNat < 256 := c.toNat_lt
      by_cases hesc : c = 92 ∧ k + 1 < N
      · obtain ⟨rfl, hk1⟩ := hesc
        have hk1S : k + 1 < S.size := by rw [hN]; exact hk1
        obtain ⟨d, hd⟩ : ∃ d, S[k + 1]'hk1S = d := ⟨_, rfl⟩
        have HT : Hid (Rd7 S (pre ++ [(d, true)]) (k + 1 + 1)) := by
          have := HJ.out.1.esc hk1S hc
          rw [hd] at this
          exact this
        have d1 : decide ((k : Int) + 1 < (N : Int)) = true := decide_eq_true (by omega)
        have hc' : (S[k]'hkS).toNat = 92 := by rw [hc]; rfl
        have HC : Hid _ := slash_any (d := d) HJ.out.2.1 HLe.out HM.out (shut_par pre)
        go_wp2_with fail
        refine Calls.mono HC.out ?_
        intro e w1 hr
        obtain ⟨a', n', cap', rfl, HF⟩ := HGo.out _ _ _ _ (by omega) HT.out hr
        clear hr
        go_wp2_with fail
        go_roundw
        case rel => exact ⟨k + 1 + 1, _, _, _, _, by omega, by go_num, rfl, HF⟩
        case measure => simp only [intOf]; omega
      · have HT : Hid (Rd7 S (pre ++ [(c, false)]) (k + 1)) := by
          have := HJ.out.1.one hkS (by
            rw [hc, hN]
            by_cases q : c = 92
            · exact .inr fun q2 => hesc ⟨q, q2⟩
            · exact .inl q)
          rw [hc] at this
          exact this
        have sl := sub_one hkS c hc
        have HC : Hid (c ≠ 38 → Calls Try.prog 20 #[.slice a n cap, .string ⟨#[c]⟩] wr (RetT B (.slice a n cap) (layF (stepP (parL pre) (c, false)).2 (stepP (parL pre) (c, false)).1) wr)) := fun h38 => by
          have e : layF (stepP (parL pre) (c, false)).2 (stepP (parL pre) (c, false)).1 = layF ((parL pre).2 ++ [c]) (parL pre).1 := by simp [stepP, pieceF, byteF, h38]
          rw [e]
          have := HM.out
          exact text_any (s := [c]) HJ.out.2.1 HLe.out (by omega) (by simp; omega) (shut_par pre) (by simp)
        by_cases h9 : c = 92
        · subst h9
          have hc' : (S[k]'hkS).toNat = 92 := by rw [hc]; rfl
          have d1 : decide ((k : Int) + 1 < (N : Int)) = false := decide_eq_false (by have : ¬ (k + 1 < N) := fun h => hesc ⟨rfl, h⟩
                                                                                      omega)
          clear hesc
          go_wp2_with fail
          refine Calls.mono (HC.out (by decide)) ?_
          intro e w1 hr
          obtain ⟨a', n', cap', rfl, HF⟩ := HGo.out _ _ _ _ (by omega) HT.out hr
          clear hr
          go_wp2_with fail
          go_roundw
          case rel => exact ⟨k + 1, _, _, _, _, by omega, by go_num, rfl, HF⟩
          case measure => simp only [intOf]; omega
        · have h9' : c.toNat ≠ 92 := fun h => h9 (UInt8.toNat_inj.1 h)
          have e9 : ((c.toNat : Int) == 92) = false := by simp; omega
          clear hesc h9
          by_cases h6 : c = 38
          · have hc' : (S[k]'hkS).toNat = 38 := by rw [hc, h6]; rfl
            have hstep : layF (stepP (parL pre) (c, false)).2 (stepP (parL pre) (c, false)).1 = layF (parL pre).2 (parL pre).1 ++ [⟨2, [], 0, 0⟩] := by simp [stepP, pieceF, h6, layF]
            obtain ⟨l, hl⟩ : ∃ l, layF (parL pre).2 (parL pre).1 = l := ⟨_, rfl⟩
            have hlen : l.length ≤ 10000 := by
              have h1 := layF_len (parL pre).2 (parL pre).1
              have h2 := HM.out
              rw [hl] at h1
              split at h1 <;> omega
            have hrw := HJ.out.2.1
            rw [hl] at hrw
            have hrw2 := hrw
            unfold Rw at hrw2
            obtain ⟨a2, c2, e2, q1, q2⟩ := owns_form hrw2
            injection e2 with e3 e4 e5
            subst e5
            have hn : l.length = n := e4.symm
            rw [hn] at hrw2 hlen
            have HR : Hid ((wr.alloc (.cells #[.int .u8 2, .string ⟨#[]⟩, .int .i64 0, .int .u8 0] 27)).ownsRow B 27 4 (.slice a n cap) n (flatT l)) := row_kp hrw2 (kp_alloc _ _)
            have HB2 : Hid (B ≤ (wr.alloc (.cells #[.int .u8 2, .string ⟨#[]⟩, .int .i64 0, .int .u8 0] 27)).heap.size) := by rw [alloc_size]; exact Nat.le_succ_of_le HLe.out
            have HC2 : Hid (∀ j u, (Tm.cells ⟨2, [], 0, 0⟩)[j]? = some u → (wr.alloc (.cells #[.int .u8 2, .string ⟨#[]⟩, .int .i64 0, .int .u8 0] 27)).cell? ((⟨wr.heap.size, 0, none⟩ : Addr).add j) = some u) :=
              tm_news (t := ⟨2, [], 0, 0⟩) (alloc_new wr (.cells #[.int .u8 2, .string ⟨#[]⟩, .int .i64 0, .int .u8 0] 27))
            have HT2 : Hid _ := tm_one ⟨2, [], 0, 0⟩
            have HE : Hid (∀ g cp w1, w1.ownsRow B 27 4 (.slice (some ⟨g, 0, none⟩) (n + 1) cp) (n + 1) (flatT l ++ Tm.cells ⟨2, [], 0, 0⟩) → (wr.alloc (.cells #[.int .u8 2, .string ⟨#[]⟩, .int .i64 0, .int .u8 0] 27)).grownBy w1 (Value.slice a n cap).ownBlock → Hid (Rd7 S (pre ++ [(c, false)]) (k + 1) ∧ Rw B (.slice (some ⟨g, 0, none⟩) (n + 1) cp) (layF (parL (pre ++ [(c, false)])).2 (parL (pre ++ [(c, false)])).1) w1 ∧ Kp w w1)) := by
              intro g cp w1 r1 r2
              have hr := push_ret hn r1 r2
              rw [← hl, ← hstep] at hr
              obtain ⟨a', n', cap', e, HF⟩ := HGo.out _ _ _ _ (by omega) HT.out hr
              injection e with e
              injection e with e1 e2 e3
              subst e1 e2 e3
              exact HF
            clear hrw hrw2 e3 e4 hn hl hstep e9 h9' HC q1 q2
            go_wp2_with (at_builtin; refine wpList_append_lies _ rfl (.tmp 33) (.tmp 35) 23 rfl B 27 i9 _ 4 40 Try.underlying23 hi9 z0 z1 z2 rfl (by decide) (.slice a n cap) n (flatT l) rfl HR.out ⟨wr.heap.size, 0, none⟩ 1 1 (Tm.cells ⟨2, [], 0, 0⟩) rfl rfl HC2.out HT2.out (by omega) (by unfold maxLen; omega) (by omega) HB2.out (wr.heap.size + 1) (alloc_size _ _) ?_; intro g cp w1 r1 r2 r3 r4; have HF := HE.out g cp w1 r1 r2; clear r1 r2 r3 r4)
            go_roundw
            case rel => exact ⟨k + 1, _, _, _, _, by omega, by go_num, rfl, HF⟩
            case measure => simp only [intOf]; omega
          · have h6' : c.toNat ≠ 38 := fun h => h6 (UInt8.toNat_inj.1 h)
            have e6 : ((c.toNat : Int) == 38) = false := by simp; omega
            have HC2 : Hid _ := HC.out h6
            clear h6 h6' h9' HC
            go_wp2_with fail
            refine Calls.mono HC2.out ?_
            intro e w1 hr
            obtain ⟨a', n', cap', rfl, HF⟩ := HGo.out _ _ _ _ (by omega) HT.out hr
            clear hr
            go_wp2_with fail
            go_roundw
            case rel => exact ⟨k + 1, _, _, _, _, by omega, by go_num, rfl, HF⟩
            case measure => simp only [intOf]; omega
    · obtain rfl : k = N := by omega
      have d0 : decide ((k : Int) < (k : Int)) = false := by simp
      have HF : Hid (∃ cp, Value.slice a n cap = .slice a (parseF S.data.toList).length cp ∧ Tms (.slice a (parseF S.data.toList).length cp) (parseF S.data.toList) wr ∧ Kp w wr ∧ (parseF S.data.toList).length ≤ cp ∧ cp ≤ maxLen) := by
        obtain ⟨h1, h2, h3⟩ := HJ.out
        rw [← hN] at h1
        rw [← h1.fin] at h2
        obtain ⟨a2, c2, e2, q1, q2⟩ := owns_form h2
        injection e2 with e3 e4 e5
        subst e3 e4 e5
        exact ⟨cap, rfl, ⟨B, h2⟩, h3, q1, q2⟩
      go_wp2_with fail
      obtain ⟨cp, e, q1, q2, q3, q4⟩ := HF.out
      rw [e]
      go_ret
      exact ⟨a, cp, rfl, q1, q2, q3, q4⟩
set_option maxHeartbeats 4000000 in
theorem ysame_any {a b : Option Addr} {n c1 c2 : Nat} {l : List Tm} {w : World} (hl : l.length = n) (ha : Tms (.slice a n c1) l w) (hb : Tms (.slice b n c2) l w) (h1 : n ≤ c1 ∧ c1 ≤ maxLen) (h2 : n ≤ c2 ∧ c2 ≤ maxLen) :
    Calls Try.prog 10 #[.slice a n c1, .slice b n c2] w fun e w' => e = .returned (.bool true) ∧ Kp w w' := by
  have HA : Hid (Tms (.slice a n c1) l w ∧ Tms (.slice b n c2) l w ∧ l.length = n) := ⟨ha, hb, hl⟩
  unfold maxLen at h1 h2
  clear ha hb hl
  go_enter Try.func10, Try.ntmps10
  go_wp2_with fail
  go_loopw [5] (fun v5 wr => ∃ i : Nat, i ≤ n ∧ v5 = .int .i64 i ∧ Hid (Kp w wr)) (fun v5 _ => n - (intOf v5).toNat)
  case atStart => exact ⟨0, Nat.zero_le _, rfl, Below.refl _ _⟩
  case round =>
    obtain ⟨i, hi, rfl, HW⟩ := hrel
    by_cases hlt : i < n
    · have dl : decide ((i : Int) < (n : Int)) = true := decide_eq_true (by omega)
      have hil : i < l.length := by rw [HA.out.2.2]; exact hlt
      obtain ⟨t, ht⟩ : ∃ t, l[i]'hil = t := ⟨_, rfl⟩
      have hti : l[i]? = some t := by rw [List.getElem?_eq_getElem hil, ht]
      obtain ⟨g, rfl, c0, c1', c2', c3⟩ := (HA.out.1.kp HW.out).at hti
      obtain ⟨g', rfl, y0, y1, y2, y3⟩ := (HA.out.2.1.kp HW.out).at hti
      obtain ⟨kd, tx, nn, cc⟩ := t
      obtain ⟨X, hX⟩ : ∃ X : ByteArray, (⟨tx.toArray⟩ : ByteArray) = X := ⟨_, rfl⟩
      simp only [hX] at c0 c1' c2' c3 y0 y1 y2 y3
      clear hX ht hti
      go_upto_region 6 with fail
      go_quiet (fail)
      go_wp2_with fail
      go_roundw
      case rel => exact ⟨i + 1, by omega, by go_num, by first | exact HW.out | exact kp_trans HW.out (kp_drew _) | exact kp_trans HW.out (kp_drewN _ _)⟩
      case measure => simp only [intOf]; omega
    · obtain rfl : i = n := by omega
      have dl : decide ((i : Int) < (i : Int)) = false := by simp
      go_wp2_with fail
      go_ret
      exact ⟨rfl, HW.out⟩
end Go.Proofs.Ytbeaoonddlfcgaa
/- TmplParses: the walk. -/
namespace Go.Proofs.Ytbeaoonddlfcgaa
open Go.ChangeShapes Go.WideShapes Go.ChangeAt Go.RowKit Go.Shelf
set_option linter.unusedVariables false
set_option linter.unusedSimpArgs false
set_option maxHeartbeats 4000000 in
set_option maxRecDepth 100000 in
theorem parses_walk (S L : ByteArray) (w : World) : Calls Try.prog 4 #[.string S, .string L] w fun e w' => e = .returned (.bool true) ∧ Kp w w' := by
  obtain ⟨n, hn⟩ : ∃ n, S.size = n := ⟨_, rfl⟩
  obtain ⟨m, hm⟩ : ∃ m, L.size = m := ⟨_, rfl⟩
  by_cases hbig : 1500 < n
  · have d1 : decide ((n : Int) > 1500) = true := decide_eq_true (by omega)
    have d1' : decide ((1500 : Int) < (n : Int)) = true := decide_eq_true (by omega)
    go_enter Try.func4, Try.ntmps4
    go_wp2_with fail
    refine Calls.mono (known_any w) ?_
    rintro e w1 ⟨rfl, k1⟩
    go_wp2_with fail
    go_ret
    exact ⟨rfl, k1⟩
  have d1 : decide ((n : Int) > 1500) = false := decide_eq_false (by omega)
  have d1' : decide ((1500 : Int) < (n : Int)) = false := decide_eq_false (by omega)
  by_cases hbig2 : 500 < m
  · have d2 : decide ((m : Int) > 500) = true := decide_eq_true (by omega)
    have d2' : decide ((500 : Int) < (m : Int)) = true := decide_eq_true (by omega)
    go_enter Try.func4, Try.ntmps4
    go_wp2_with fail
    refine Calls.mono (known_any w) ?_
    rintro e w1 ⟨rfl, k1⟩
    go_wp2_with fail
    go_ret
    exact ⟨rfl, k1⟩
  have d2 : decide ((m : Int) > 500) = false := decide_eq_false (by omega)
  have d2' : decide ((500 : Int) < (m : Int)) = false := decide_eq_false (by omega)
  obtain ⟨l, hl⟩ : ∃ l, parseF S.data.toList = l := ⟨_, rfl⟩
  have HP : Hid (∀ w, Calls Try.prog 9 #[.string S] w fun e w' => ∃ a cap, e = .returned (.slice a l.length cap) ∧ Tms (.slice a l.length cap) l w' ∧ Kp w w' ∧ l.length ≤ cap ∧ cap ≤ maxLen) := fun w => parse_tms S (by omega) l hl w
  have HQ : Hid (∀ w, Calls Try.prog 11 #[.string S] w fun e w' => ∃ a cap, e = .returned (.slice a l.length cap) ∧ Tms (.slice a l.length cap) l w' ∧ Kp w w' ∧ l.length ≤ cap ∧ cap ≤ maxLen) := fun w => by rw [← hl]; exact yparse_any S (by omega) w
  obtain ⟨Z, hZ⟩ : ∃ Z : ByteArray, (⟨(resF S.data.toList L.data.toList).toArray⟩ : ByteArray) = Z := ⟨_, rfl⟩
  have HR : Hid (∀ w, (Calls Try.prog 12 #[.string S, .string L] w fun e w' => e = .returned (.string Z) ∧ Kp w w') ∧ (Calls Try.prog 13 #[.string S, .string L] w fun e w' => e = .returned (.string Z) ∧ w' = w)) := fun w => by
    rw [← hZ]
    exact ⟨resolve_any S L (by omega) (by omega) w, yresolve_any S L (by omega) (by omega) w⟩
  clear hl hZ
  go_enter Try.func4, Try.ntmps4
  go_wp2_with fail
  refine Calls.mono (known_any w) ?_
  rintro e w1 ⟨rfl, k1⟩
  have HK : Hid (Kp w w1) := k1
  clear k1
  go_wp2_with fail
  refine Calls.mono (HP.out w1) ?_
  rintro e w2 ⟨a, cap, rfl, hT, k2, q1, q2⟩
  have H2 : Hid (Tms (.slice a l.length cap) l w2 ∧ Kp w w2 ∧ l.length ≤ cap ∧ cap ≤ maxLen) := ⟨hT, kp_trans HK.out k2, q1, q2⟩
  clear hT k2 q1 q2 HK
  go_wp2_with fail
  refine Calls.mono (HQ.out w2) ?_
  rintro e w3 ⟨b, cap2, rfl, hT, k3, q1, q2⟩
  have H3 : Hid _ := ysame_any rfl (H2.out.1.kp k3) hT H2.out.2.2 ⟨q1, q2⟩
  have HK3 : Hid (Kp w w3) := kp_trans H2.out.2.1 k3
  clear hT k3 q1 q2
  go_wp2_with fail
  refine Calls.mono H3.out ?_
  rintro e w4 ⟨rfl, k4⟩
  have HK4 : Hid (Kp w w4) := kp_trans HK3.out k4
  clear k4
  go_wp2_with fail
  refine Calls.mono (HR.out w4).1 ?_
  rintro e w5 ⟨rfl, k5⟩
  have HK5 : Hid (Kp w w5) := kp_trans HK4.out k5
  clear k5
  go_wp2_with fail
  refine Calls.mono (HR.out w5).2 ?_
  rintro e w6 ⟨rfl, hw⟩
  subst hw
  go_wp2_with fail
  go_ret
  exact ⟨rfl, HK5.out⟩
end Go.Proofs.Ytbeaoonddlfcgaa
