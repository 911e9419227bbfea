/- Texts that the proof of the law stands on: XD, TF, TH, TI, TJ, XB, TG, TL. -/
import Derived.Test.YtbkhhgaihhbhjaaPartG
import Derived.Test.YtbkhhgaihhbhjaaPartF
import Derived.Deep.CutBlock
/- UndoDoes: the walk. -/
namespace Go.Proofs.Ytbkhhgaihhbhjaa
open Go.ChangeShapes Go.WideShapes Go.ChangeAt Go.RowKit Go.Maps Go.MapKept
set_option linter.unusedVariables false
set_option linter.unusedSimpArgs false
set_option maxRecDepth 100000
theorem eqlR (ad : Addr) (w : World) : Sem.run Try.prog (binOp BinOp.eql 41 (.pointer (some ad)) (.pointer none)) w = .ok (.bool false) w := by kernel_rfl
theorem eqlR0 (w : World) : Sem.run Try.prog (binOp BinOp.eql 41 (.pointer none) (.pointer none)) w = .ok (.bool true) w := by kernel_rfl
set_option maxHeartbeats 4000000 in
theorem rnew_none {most : Int} (h : most < 1 ∨ 200 < most) (w : World) : Calls Try.prog 22 #[.int .i64 most] w fun e w' => e = .returned (.pointer none) ∧ w' = w := by
  by_cases q : most < 1
  · have d1 : decide (most < 1) = true := decide_eq_true q
    go_enter Try.func22, Try.ntmps22
    go_wp2
    go_ret
    exact ⟨rfl, rfl⟩
  · have d1 : decide (most < 1) = false := decide_eq_false q
    have d2 : decide (most > 200) = true := decide_eq_true (by omega)
    have d3 : decide (200 < most) = true := decide_eq_true (by omega)
    go_enter Try.func22, Try.ntmps22
    go_wp2
    go_ret
    exact ⟨rfl, rfl⟩
/-- The laws' loop of does, whatever room. -/
def LpE (B t r i : Nat) (W w : World) : Prop := ∃ C m, Bt B C t r m w ∧ (1 ≤ m.most ∧ m.most ≤ 200) ∧ (m.L.length : Int) ≤ m.most ∧ m.next ≤ 1 + i ∧ Below B W w
theorem lpE_first {most : Int} (h1 : 1 ≤ most) (h2 : most ≤ 200) {W w w1 w2 : World} {t r : Nat} (k : Kp W w) (q1 : Tw w.heap.size w.heap.size t (first most) w1) (k1 : Kp w w1) (q2 : Rw w1.heap.size w1.heap.size r (first most) w2) (k2 : Kp w1 w2) : LpE W.heap.size t r 0 W w2 := by
  have z1 := k.size
  have z2 := k1.size
  have z3 := k2.size
  refine ⟨w1.heap.size, first most, ⟨((q1.low z1).kp k2).up z2, q2.low (Nat.le_trans z1 z2), inw_first most, by omega, by omega, by simp [first], by show (1 : Int) ≤ 9000; decide⟩, ⟨h1, h2⟩, by show (1 : Int) ≤ most; exact h1, by show (1 : Int) ≤ 1 + 0; decide, ?_⟩
  exact (kp_trans (kp_trans k k1) k2)
theorem lpE_step {W w w' : World} {B t r i : Nat} {m : Tr} (h1 : 1 ≤ m.most ∧ m.most ≤ 200) (h3 : m.next ≤ 1 + i) (hb : Below B W w) (h : DneE B t r m w w') : LpE B t r (i + 1) W w' := by
  obtain ⟨C, m', bt, st, bl⟩ := h
  have := st.nx
  exact ⟨C, m', bt, by rw [st.mo]; exact h1, by rw [st.mo]; exact st.len, by omega, hb.trans bl⟩
set_option maxHeartbeats 32000000 in
theorem udoes_walk {v : Value} {l : List Op12} {W : World} {most : Int} (hL : OpL W.heap.size v l W) (hok : ∀ o ∈ l, o.kd < 256 ∧ -9223372036854775808 ≤ o.n ∧ o.n < 9223372036854775808) (hw : wO l ≤ 1048576) :
    Calls Try.prog 6 #[.int .i64 most, v] W fun e w' => e = .returned (.bool true) ∧ Below W.heap.size W w' := by
  obtain ⟨a, cap, rfl, hc1, hc2⟩ : ∃ a cap, v = .slice a l.length cap ∧ l.length ≤ cap ∧ cap ≤ maxLen := by obtain ⟨a, cap, h1, h2, h3, _⟩ := hL; exact ⟨a, cap, h1, h2, h3⟩
  obtain ⟨N, hN⟩ : ∃ N, l.length = N := ⟨_, rfl⟩
  have HV : Hid _ := heavy_any hL.q (by omega)
  rw [hN] at HV hL hc1 ⊢
  have HA : Hid (OpL W.heap.size (.slice a N cap) l W ∧ (∀ o ∈ l, o.kd < 256 ∧ -9223372036854775808 ≤ o.n ∧ o.n < 9223372036854775808) ∧ l.length = N) := ⟨hL, hok, hN⟩
  have HFl : Hid (hvO l = false → l.length ≤ 120 ∧ ∀ o ∈ l, Few 2000 o.ds) := fun h => ⟨len_hv h, fun o ho => few_wO h ho⟩
  unfold maxLen at hc2
  generalize hvO l = h1 at HV HFl
  have he := eqlT
  have he0 := eqlT0
  have hr := eqlR
  have hr0 := eqlR0
  clear hL hok hN hw
  go_enter Try.func6, Try.ntmps6
  go_wp2_with fail
  refine Calls.mono HV.out ?_
  rintro e w1 ⟨rfl, k1, rfl⟩
  cases h1 with
  | true =>
    have HK : Hid _ := known_any (W.drewN k1)
    clear HV HFl
    go_wp2_with fail
    refine Calls.mono HK.out ?_
    rintro e w2 ⟨rfl, k2⟩
    have H2 : Hid (Kp W w2) := kp_trans (kp_drewN _ _) k2
    clear HK k2
    go_wp2_with fail
    go_ret
    exact ⟨rfl, H2.out⟩
  | false =>
    have HK : Hid _ := known_any (W.drewN k1)
    have HFo : Hid (∀ o ∈ l, Few 2000 o.ds) := (HFl.out (by trivial)).2
    have hN2 : N ≤ 120 := by have := (HFl.out (by trivial)).1; rw [HA.out.2.2] at this; exact this
    clear HV HFl
    go_wp2_with fail
    refine Calls.mono HK.out ?_
    rintro e w3 ⟨rfl, k3⟩
    have H3 : Hid (Kp W w3) := kp_trans (kp_drewN _ _) k3
    clear HK k3
    by_cases hm : most < 1 ∨ 200 < most
    · have HT : Hid _ := new_none hm w3
      have HR : Hid _ := rnew_none hm w3
      clear hm
      go_wp2_with fail
      refine Calls.mono HT.out ?_
      rintro e w4 ⟨rfl, rfl⟩
      clear HT
      go_wp2_with fail
      refine Calls.mono HR.out ?_
      rintro e w5 ⟨rfl, rfl⟩
      clear HR
      go_wp2_with fail
      go_ret
      exact ⟨rfl, H3.out⟩
    · have hm1 : 1 ≤ most ∧ most ≤ 200 := by omega
      have HT : Hid _ := new_any hm1.1 hm1.2 w3
      have HM1 : Hid (1 ≤ most ∧ most ≤ 200) := hm1
      clear hm hm1
      go_wp2_with fail
      refine Calls.mono HT.out ?_
      rintro e w4 ⟨t, rfl, t4, k4⟩
      have H4 : Hid (Tw w3.heap.size w3.heap.size t (first most) w4 ∧ Kp w3 w4) := ⟨t4, k4⟩
      have HR : Hid _ := rnew_any HM1.out.1 HM1.out.2 w4
      clear HT t4 k4
      go_wp2_with fail
      refine Calls.mono HR.out ?_
      rintro e w5 ⟨r, rfl, r5, k5⟩
      have H5 : Hid (LpE W.heap.size t r 0 W w5) := lpE_first HM1.out.1 HM1.out.2 H3.out H4.out.1 H4.out.2 r5 k5
      clear HR r5 k5 H3 H4
      go_wp2_with fail
      go_loopw [7] (fun v7 wr => ∃ i : Nat, i ≤ N ∧ v7 = .int .i64 i ∧ Hid (LpE W.heap.size t r i W wr)) (fun v7 _ => N - (intOf v7).toNat)
      case atStart => exact ⟨0, Nat.zero_le _, by go_num, H5.out⟩
      case round =>
        clear H5
        obtain ⟨i, hi, rfl, HI⟩ := hrel
        by_cases q : i < N
        · have g1 : decide ((i : Int) < (N : Int)) = true := decide_eq_true (by omega)
          have g2 : decide (i < N) = true := decide_eq_true (by omega)
          obtain ⟨C, m, bt, e1, e2, e3, bl⟩ := HI.out
          have hol := HA.out.1.below bl
          obtain ⟨o, ho⟩ : ∃ o, l[i]? = some o := ⟨_, List.getElem?_eq_getElem (by rw [HA.out.2.2]; exact q)⟩
          obtain ⟨a', cap', e, _, _, hcs⟩ := hol
          cases e
          obtain ⟨g, off, rfl, _, c0, c1, c2, hda⟩ := hcs i o ho
          have hom : o ∈ l := List.mem_of_getElem? ho
          obtain ⟨hk1, hn0, hn1⟩ := HA.out.2.1 o hom
          have HD : Hid _ := does_ev bt e1 (by omega) e2 (kd := (o.kd : Int)) (n := o.n) (by omega) (by omega) ⟨hn0, hn1⟩ hda (HFo.out o hom)
          have HM : Hid ((1 ≤ m.most ∧ m.most ≤ 200) ∧ m.next ≤ 1 + i ∧ Below W.heap.size W wr) := ⟨e1, e3, bl⟩
          obtain ⟨oa, on, oc, hov⟩ : ∃ a n c, o.v = .slice a n c := by obtain ⟨a, c, q, _⟩ := hda.form; exact ⟨a, _, c, q⟩
          rw [hov] at c2 HD
          obtain ⟨kd, hkd⟩ : ∃ k : Int, k = (o.kd : Int) := ⟨_, rfl⟩
          obtain ⟨on', hon⟩ : ∃ k : Int, k = o.n := ⟨_, rfl⟩
          rw [← hkd] at c0 HD
          rw [← hon] at c1 HD
          clear HI bt e1 e2 e3 bl hcs hda hom ho hk1 hn0 hn1 hov hkd hon
          go_wp2_with fail
          refine Calls.mono HD.out ?_
          rintro e w6 ⟨rfl, q6⟩
          have H6 : Hid (LpE W.heap.size t r (i + 1) W w6) := lpE_step HM.out.1 HM.out.2.1 HM.out.2.2 q6
          clear HD HM q6 c0 c1 c2
          obtain ⟨C2, m2, bt, e1, e2, e3, bl⟩ := H6.out
          have cA : w6.cell? ⟨r, 2, none⟩ = some (.int .i64 m2.now) := by obtain ⟨v, vs, h⟩ := bt.rw; exact h.box.at (j := 2) rfl
          have dN : (m2.now != m2.now) = false := by simp
          have I := bt.inw.inv
          have HN : Hid (∀ z, Kp w6 z → Calls Try.prog 14 #[.pointer (some ⟨t, 0, none⟩)] z fun e w' => e = .returned (.int .i64 m2.now) ∧ w' = z) := fun z kz => now_any (bt.tw.kp kz)
          have HS1 : Hid (∀ z, Kp w6 z → Calls Try.prog 25 #[.pointer (some ⟨t, 0, none⟩)] z fun e w' => ∃ a n c, e = .returned (.slice a n c) ∧ Hid (Sr 0 (.slice a n c) m2.L w' ∧ Kp w6 w')) := fun z kz => (states_any (bt.tw.kp kz) I.fam (by omega) (by have := bt.few; omega) I.sq).mono (by
            rintro e w' ⟨v, rfl, s1, s2⟩
            obtain ⟨a, c, rfl, _⟩ := owns_form s1
            exact ⟨a, _, c, rfl, row_lift s1 fun _ _ => Nat.zero_le _, kp_trans kz s2⟩)
          have HS2 : Hid (∀ z v1, Kp w6 z → Sr 0 v1 m2.L z → Calls Try.prog 26 #[.pointer (some ⟨r, 0, none⟩)] z fun e w' => ∃ a n c, e = .returned (.slice a n c) ∧ Hid (Kp w6 w' ∧ ∀ z2, Kp w' z2 → Calls Try.prog 24 #[v1, .slice a n c] z2 fun e w2 => e = .returned (.bool true) ∧ Hid (Kp w6 w2))) := fun z v1 kz s1 => (rstates_any (bt.rw.kp kz) (by have := bt.few; omega)).mono (by
            rintro e w' ⟨v, rfl, s3, s4⟩
            obtain ⟨a, c, rfl, _⟩ := owns_form s3
            refine ⟨a, _, c, rfl, kp_trans kz s4, fun z2 kz2 => (alike_eq (row_kp (row_kp s1 s4) kz2) (row_kp s3 kz2)).mono ?_⟩
            rintro e w2 ⟨rfl, q, rfl⟩
            exact ⟨rfl, kp_trans (kp_trans kz s4) (kp_trans kz2 (kp_drewN _ _))⟩)
          have HE : Hid (∀ z, Kp w6 z → LpE W.heap.size t r (i + 1) W z) := fun z kz => by
            obtain ⟨C2, m2, bt, e1, e2, e3, bl⟩ := H6.out
            exact ⟨C2, m2, bt.kp kz, e1, e2, e3, bl.trans (kz.mono bt.hB)⟩
          clear bt e1 e2 e3 bl I H6
          go_upto_region 11 with fail
          go_region_with (first | (go_at_call 14; refine Calls.mono (HN.out _ (by first | exact Below.refl _ _ | exact kp_drew _)) ?_; rintro e w7 ⟨rfl, rfl⟩) | (go_at_call 25; refine Calls.mono (HS1.out _ (by first | exact Below.refl _ _ | exact kp_drew _)) ?_; rintro e w7 ⟨sa, sn, sc, rfl, HX⟩; have HS3 : Hid _ := HS2.out _ _ HX.out.2 HX.out.1; clear HX) | (go_at_call 26; refine Calls.mono HS3.out ?_; rintro e w8 ⟨ta, tn, tc, rfl, HY⟩; have HS4 : Hid _ := HY.out.2 _ (by first | exact Below.refl _ _ | exact kp_drew _); clear HY) | (go_at_call 24; refine Calls.mono HS4.out ?_; rintro e w9 ⟨rfl, HZ⟩))
          all_goals
            have HZ2 : Hid _ := HE.out _ HZ.out
            clear HZ HE HN HS1 HS2 cA dN
            go_wp2_with fail
            go_roundw
            case rel => exact ⟨i + 1, by omega, by go_num, HZ2.out⟩
            case measure => simp only [intOf]; omega
        · obtain rfl : i = N := by omega
          have g1 : decide ((i : Int) < (i : Int)) = false := by simp
          have HX : Hid (Below W.heap.size W wr) := by obtain ⟨C, m, bt, e1, e2, e3, bl⟩ := HI.out; exact bl
          clear HI
          go_wp2_with fail
          go_ret
          exact ⟨rfl, HX.out⟩
theorem udoes_law (most : Int) (_ : -9223372036854775808 ≤ most ∧ most < 9223372036854775808) {v : Value} {l : List Op12} {W : World} (hL : OpL W.heap.size v l W) (hok : ∀ o ∈ l, o.kd < 256 ∧ -9223372036854775808 ≤ o.n ∧ o.n < 9223372036854775808) (hw : wO l ≤ 1048576) :
    Calls Try.prog 6 #[.int .i64 most, v] W fun e w' => e = .returned (.bool true) ∧ Below W.heap.size W w' := udoes_walk hL hok hw
end Go.Proofs.Ytbkhhgaihhbhjaa
/- What UndoTexts keeps of its loop. -/
namespace Go.Proofs.Ytbkhhgaihhbhjaa
open Go.ChangeShapes Go.WideShapes Go.ChangeAt Go.RowKit Go.Maps Go.MapKept
set_option linter.unusedVariables false
set_option linter.unusedSimpArgs false
set_option maxRecDepth 100000
/-- A text: handed in, or an own row. -/
def Txv (B : Nat) (v : Value) (ls : List ByteArray) (w : World) : Prop := Sl (fun k => k < B) v ls w ∨ Row B v ls w
/-- Numbers from k on, a text at each. -/
def flatX : Nat → List Value → List Value
  | _, [] => []
  | k, v :: vs => .int .i64 k :: v :: flatX (k + 1) vs
theorem flatX_len : ∀ (k : Nat) (vs : List Value), (flatX k vs).length = vs.length * 2
  | _, [] => rfl
  | k, v :: vs => by simp only [flatX, List.length_cons, flatX_len (k + 1) vs]; omega
theorem flatX_at : ∀ {k : Nat} {vs : List Value} {i : Nat} {v : Value}, vs[i]? = some v → (flatX k vs)[i * 2]? = some (.int .i64 ((k + i : Nat) : Int)) ∧ (flatX k vs)[i * 2 + 1]? = some v
  | k, [], i, v, h => by simp at h
  | k, u :: vs, 0, v, h => by simp at h; subst h; exact ⟨rfl, rfl⟩
  | k, u :: vs, i + 1, v, h => by
    have q := flatX_at (k := k + 1) (by simpa using h)
    rw [show (i + 1) * 2 = i * 2 + 1 + 1 by omega, show k + (i + 1) = k + 1 + i by omega]
    exact q
theorem flatX_snoc : ∀ (k : Nat) (vs : List Value) (v : Value), flatX k (vs ++ [v]) = flatX k vs ++ [.int .i64 ((k + vs.length : Nat) : Int), v]
  | k, [], v => rfl
  | k, u :: vs, v => by
    have := flatX_snoc (k + 1) vs v
    simp only [List.cons_append, flatX, this, List.length_cons]
    rw [show k + 1 + vs.length = k + (vs.length + 1) by omega]
theorem infoVer : (Try.prog.info? 57).map (fun i => (i.zero, i.size, i.bytes)) = some (some (.agg #[.int .i64 0, .slice none 0 0]), 2, 32) := by kernel_rfl
section
variable {B C t : Nat} {m m' : Tr} {T : Int → List ByteArray} {w w1 : World} {v : Value} {ls : List ByteArray}
theorem Txv.kp (h : Txv B v ls w) (k : Kp w w1) : Txv B v ls w1 := by
  rcases h with h | h
  · exact .inl (h.kp k)
  · exact .inr (row_kp h k)
theorem Txv.ff (h : Txv B v ls w) (k : Ff TP B w w1) : Txv B v ls w1 := by
  rcases h with h | h
  · exact .inl (h.fr k fun g hg q => by obtain ⟨q, _⟩ := q; omega)
  · exact .inr (row_ff h k tp_str)
theorem Txv.sl (h : Txv B v ls w) : Sl (fun _ => True) v ls w := by
  rcases h with h | h
  · exact h.mono fun _ _ _ => trivial
  · exact (Row.sl h).mono fun _ _ _ => trivial
/-- Where the loop of UndoTexts stands: the tree, its states' texts, the one that is, all of them. -/
structure LpT (B C t i : Nat) (m : Tr) (T : Int → List ByteArray) (vs : List Value) (tv av : Value) (W w : World) : Prop where
  st : StT B C t m T w
  nx : m.next = (vs.length : Int)
  ln : vs.length ≤ 1 + i
  tv : Txv B tv (T m.now) w
  vs_ : ∀ (k : Nat) (u : Value), vs[k]? = some u → Txv B u (T k) w
  bd : ∀ x, (T x).length ≤ 50 + 2000 * i
  row : w.ownsRow B 57 2 av vs.length (flatX 0 vs)
  bl : Below B W w
theorem tp_ver (cur : Array Value) (fr : Nat × Nat) : ¬ TP (.cells cur 57 fr) := fun q => by rcases q with q | q <;> exact absurd q (by decide)
theorem LpT.kp {i : Nat} {vs : List Value} {tv av : Value} {W : World} (h : LpT B C t i m T vs tv av W w) (k : Kp w w1) : LpT B C t i m T vs tv av W w1 :=
  ⟨h.st.kp k, h.nx, h.ln, h.tv.kp k, fun j u hj => (h.vs_ j u hj).kp k, h.bd, row_kp h.row k, h.bl.trans (k.mono h.st.hB)⟩
theorem LpT.up {i : Nat} {vs : List Value} {tv av : Value} {W : World} (h : LpT B C t i m T vs tv av W w) : LpT B C t (i + 1) m T vs tv av W w :=
  ⟨h.st, h.nx, by have := h.ln; omega, h.tv, h.vs_, fun x => by have := h.bd x; omega, h.row, h.bl⟩
/-- Behind a call that goes elsewhere. -/
theorem LpT.trv {i : Nat} {vs : List Value} {tv av : Value} {W : World} (h : LpT B C t i m T vs tv av W w) (f : Ff TP B w w1) (s : StT B C t m' T w1) (hn : m'.next = m.next) : ∀ tv', Txv B tv' (T m'.now) w1 → LpT B C t i m' T vs tv' av W w1 := fun tv' ht =>
  ⟨s, hn.trans h.nx, h.ln, ht, fun j u hj => (h.vs_ j u hj).ff f, h.bd, row_ff h.row f tp_ver, h.bl.trans (f.below h.st.hB)⟩
end
end Go.Proofs.Ytbkhhgaihhbhjaa
/- Behind Add, in UndoTexts. -/
namespace Go.Proofs.Ytbkhhgaihhbhjaa
open Go.ChangeShapes Go.WideShapes Go.ChangeAt Go.RowKit Go.Maps Go.MapKept
set_option linter.unusedVariables false
set_option linter.unusedSimpArgs false
set_option maxRecDepth 100000
/-- A version's cells. -/
def TV : Obj → Prop
  | .cells _ e _ => e = 57
  | _ => False
theorem tv_of {e : TypeId} (h : e ≠ 57) (cur : Array Value) (fr : Nat × Nat) : ¬ TV (.cells cur e fr) := h
section
variable {B C D t i : Nat} {m m' : Tr} {T : Int → List ByteArray} {w wa w5 w6 W : World} {vs : List Value} {tv av tv' av' : Value} {lf : List ByteArray} {ds : List Dl}
theorem Tw.ffv (h : Tw B C t m w) (k : Ff TV D w wa) : Tw B C t m wa := by
  obtain ⟨b, q, h⟩ := h
  obtain ⟨es, c, hb, hrest⟩ := h.map
  refine ⟨b, q, h.lt, h.lb, h.box.ff k (tv_of (by decide)), ⟨es, c, k.keep hb (fun q => q), hrest⟩, fun x s hx => ?_, h.inj⟩
  obtain ⟨h1, v, h2, h3, h4⟩ := h.st x s hx
  exact ⟨h1, v, h2.ff k (tv_of (by decide)), h3.ff k (tv_of (by decide)) (tv_of (by decide)), h4⟩
theorem Txv.ffv {v : Value} {ls : List ByteArray} (h : Txv B v ls w) (k : Ff TV B w wa) : Txv B v ls wa := by
  rcases h with h | h
  · exact .inl (h.fr k fun g hg q => by obtain ⟨q, _⟩ := q; omega)
  · exact .inr (row_ff h k (tv_of (by decide)))
theorem Trv.form {v : Value} {err : Int} (h : Trv B C t m T w v err wa) : ∃ a n c, v = .slice a n c := by
  obtain ⟨_, _, _, ⟨_, h, _⟩ | ⟨_, ds, m', h, _⟩⟩ := h
  · exact ⟨_, _, _, h⟩
  · obtain ⟨a, c, e, _⟩ := h.form; exact ⟨a, _, c, e⟩
theorem LpT.added (h : LpT B C t i m T vs tv av W w) (hi : i ≤ 120) (ka : Kp w wa) (ht : Row B tv' lf wa) (ha : apps (T m.now) ds = some lf) (hd : ds.length ≤ 1 ∧ ∀ d ∈ ds, d.old.length ≤ 2 ∧ d.nw.length ≤ 2000) (hf : Few 2000 ds) (hlf : lf.length ≤ 50 + 2000 * (i + 1))
    (h5 : Tw B w5.heap.size t (addE m ds) w5) (f5 : Ff TP B wa w5)
    (hr : w6.ownsRow B 57 2 av' (vs.length + 1) (flatX 0 vs ++ [.int .i64 m.next, tv'])) (hg : (w5.alloc (.cells #[.int .i64 m.next, tv'] 57)).grownBy w6 av.ownBlock) :
    LpT B w5.heap.size t (i + 1) (addE m ds) (putT T m.next lf) (vs ++ [tv']) tv' av' W w6 := by
  have h0 := h.kp ka
  have hrow : (w5.alloc (.cells #[.int .i64 m.next, tv'] 57)).ownsRow B 57 2 av vs.length (flatX 0 vs) := row_kp (row_ff h0.row f5 tp_ver) (kp_alloc _ _)
  have k5 := kp_alloc w5 (.cells #[.int .i64 m.next, tv'] 57)
  have fv : Ff TV B (w5.alloc (.cells #[.int .i64 m.next, tv'] 57)) w6 := Fr.mono (fr_grown hg) fun k _ e => by
    rcases hrow.2 with ⟨z, _⟩ | ⟨g, c, cur, z, hb, hgg, _⟩
    · rw [z] at e; cases e
    · rw [z] at e; simp only [Value.ownBlock, Option.some.injEq] at e; subst e; exact ⟨hb, _, hgg, rfl⟩
  have z5 := k5.size
  have z6 := fv.size
  have hB5 : B ≤ w5.heap.size := Nat.le_trans h0.st.hB f5.size
  obtain ⟨e1, e2, e3⟩ := addE_parts m ds
  have I := h.st.inw
  have hnx := h.nx
  have hln := h.ln
  have htv0 : Txv B tv' lf wa := .inr ht
  have htv : Txv B tv' lf w6 := ((htv0.ff f5).kp k5).ffv fv
  have hne : ∀ k : Nat, k < vs.length → (k : Int) ≠ m.next := fun k hk => by omega
  refine ⟨⟨(h5.kp k5).ffv fv, by omega, by omega, addE_inw I hf h.st.mo.1, by rw [e3]; exact h.st.mo, by rw [e3]; exact (addE_len I hf h.st.mo.1 h.st.ln).1, by rw [e2]; omega, h.st.tx.addE I hf h.st.mo.1 ha, h.st.sm.addE I hf h.st.mo.1 hd⟩, ?_, ?_, ?_, fun k u hk => ?_, fun x => ?_, ?_, ?_⟩
  · rw [e2, List.length_append, List.length_singleton]; omega
  · rw [List.length_append, List.length_singleton]; omega
  · rw [e1]; unfold putT; rw [if_pos rfl]; exact htv
  · unfold putT
    by_cases q : k < vs.length
    · rw [List.getElem?_append_left q] at hk
      rw [if_neg (hne k q)]
      exact (((h0.vs_ k u hk).ff f5).kp k5).ffv fv
    · have hl := (List.getElem?_eq_some_iff.1 hk).1
      simp only [List.length_append, List.length_singleton] at hl
      obtain rfl : k = vs.length := by omega
      rw [List.getElem?_append_right (Nat.le_refl _), Nat.sub_self] at hk
      cases hk
      rw [if_pos hnx.symm]; exact htv
  · unfold putT
    split
    · exact hlf
    · have := h.bd x; omega
  · rw [flatX_snoc, List.length_append, List.length_singleton, Nat.zero_add, ← hnx]; exact hr
  · exact ((h0.bl.trans (f5.below h0.st.hB)).trans (k5.mono hB5)).trans (fv.below (Nat.le_trans hB5 z5))
end
end Go.Proofs.Ytbkhhgaihhbhjaa
/- A version's cells; behind a travel, in UndoTexts. -/
namespace Go.Proofs.Ytbkhhgaihhbhjaa
open Go.ChangeShapes Go.WideShapes Go.ChangeAt Go.RowKit Go.Maps Go.MapKept
set_option linter.unusedVariables false
set_option linter.unusedSimpArgs false
set_option maxRecDepth 100000
section
variable {B C t i : Nat} {m m' : Tr} {T : Int → List ByteArray} {w w1 w2 W : World} {vs : List Value} {tv av : Value}
theorem ver_cells {a : Option Addr} {n c : Nat} (h : w.ownsRow B 57 2 (.slice a n c) vs.length (flatX 0 vs)) {k : Nat} {u : Value} (hk : vs[k]? = some u) : ∃ g o, a = some ⟨g, o, none⟩ ∧ w.cell? ⟨g, o + k * 2, none⟩ = some (.int .i64 k) ∧ w.cell? ⟨g, o + k * 2 + 1, none⟩ = some u := by
  have hl := (List.getElem?_eq_some_iff.1 hk).1
  rcases h.2 with ⟨e, h0⟩ | ⟨g, cap, cur, e, hb, hg, p1, p2, p3, p4⟩
  · omega
  · cases e
    have q := flatX_at (k := 0) hk
    rw [Nat.zero_add] at q
    refine ⟨g, 0, rfl, ?_, ?_⟩
    · have q1 := q.1
      rw [cell_at hg, Nat.zero_add, ← Array.getElem?_toList]
      rw [← p4, List.getElem?_take, if_pos (by omega)] at q1
      exact q1
    · have q2 := q.2
      rw [cell_at hg, Nat.zero_add, ← Array.getElem?_toList]
      rw [← p4, List.getElem?_take, if_pos (by omega)] at q2
      exact q2
theorem Txv.form {v : Value} {ls : List ByteArray} (h : Txv B v ls w) : ∃ a c, v = .slice a ls.length c ∧ ls.length ≤ c ∧ c ≤ maxLen := by
  rcases h with h | h
  · obtain ⟨a, c, e, h1, h2, _⟩ := h.form; exact ⟨a, c, e, h1, h2⟩
  · exact Row.form h
/-- Elsewhere, and the text made. -/
theorem LpT.made {tv' : Value} {D : Nat} (h : LpT B C t i m T vs tv av W w) (f : Ff TP B w w1) (s : StT B C t m' T w1) (hn : m'.next = m.next) (k : Kp w1 w2) (hr : Row D tv' (T m'.now) w2) (hD : B ≤ D) : LpT B C t (i + 1) m' T vs tv' av W w2 :=
  (h.trv (f.trans (Ff.kp k)) (s.kp k) hn tv' (.inr (row_lift hr fun j hj => Nat.le_trans hD (hr.lt j hj).1))).up
theorem same_quiet {P Q : Nat → Prop} {v1 v2 : Value} {l : List ByteArray} (h1 : Sl P v1 l w) (h2 : Sl Q v2 l w) (a n : Nat) : Calls Try.prog 30 #[v1, v2] (w.drewN (a + n)) fun e w'' => e = .returned (.bool true) ∧ ∃ m, w'' = w.drewN (a + m) :=
  (o2same_eq (h1.kp (kp_drewN w (a + n))) (h2.kp (kp_drewN w (a + n)))).mono (by
    rintro e w' ⟨rfl, q, rfl⟩
    exact ⟨rfl, n + q, by rw [drew2, Nat.add_assoc]⟩)
end
end Go.Proofs.Ytbkhhgaihhbhjaa
/- Of Add, in UndoTexts: the one change that it is told. -/
namespace Go.Proofs.Ytbkhhgaihhbhjaa
open Go.ChangeShapes Go.WideShapes Go.ChangeAt Go.RowKit Go.Maps Go.MapKept
set_option linter.unusedVariables false
set_option linter.unusedSimpArgs false
set_option maxRecDepth 100000
theorem apps_one {l put : List ByteArray} {A K : Nat} (h : A + K ≤ l.length) : apps l [⟨(A : Int), (l.drop A).take K, put⟩] = some (l.take A ++ put ++ l.drop (A + K)) := by
  have hl : ((l.drop A).take K).length = K := by rw [List.length_take, List.length_drop]; omega
  show (app1 l _).bind _ = _
  unfold app1
  simp only [Int.toNat_natCast]
  rw [if_pos ⟨by omega, by omega, by rw [hl]; omega, by rw [hl]⟩, hl]
  rfl
theorem one_len {l put : List ByteArray} {A K : Nat} (h : A + K ≤ l.length) : (l.take A ++ put ++ l.drop (A + K)).length ≤ l.length + put.length := by
  rw [List.length_append, List.length_append, List.length_take, List.length_drop]; omega
theorem nw_hv {l : List Op12} (h : hvO l = false) {o : Op12} (ho : o ∈ l) {d : Dl} (hd : d ∈ o.ds) : d.nw.length ≤ 2000 := by
  unfold hvO at h
  simp only [Bool.or_eq_false_iff, decide_eq_false_iff_not] at h
  have h1 := sum_mem (fun o : Op12 => (o.ds.map wD).sum) ho
  have h2 := sum_mem wD hd
  have h3 : wD d = 1 + d.old.length + d.nw.length := rfl
  unfold wO at h
  omega
theorem wN_one (d : Dl) : wN [d] = d.nw.length := by simp [wN]
end Go.Proofs.Ytbkhhgaihhbhjaa
/- UndoBounds: the walk. -/
namespace Go.Proofs.Ytbkhhgaihhbhjaa
open Go.ChangeShapes Go.WideShapes Go.ChangeAt Go.RowKit Go.Maps Go.MapKept
set_option linter.unusedVariables false
set_option linter.unusedSimpArgs false
set_option maxRecDepth 100000
theorem quiet_plus {f : FuncId} {args : Array Value} {w : World} {a n : Nat} {v : Value} (h : Calls Try.prog f args (w.drewN (a + n)) fun e w' => e = .returned v ∧ w' = w.drewN (a + n)) : Calls Try.prog f args (w.drewN (a + n)) fun e w'' => e = .returned v ∧ ∃ m, w'' = w.drewN (a + m) := h.mono fun _ _ ⟨he, hm⟩ => ⟨he, n, hm⟩
/-- The loop of does, with so many at most. -/
def LpB (B t r i : Nat) (n : Int) (W w : World) : Prop := ∃ C m, Bt B C t r m w ∧ m.most = n ∧ (m.L.length : Int) ≤ n ∧ m.next ≤ 1 + i ∧ Below B W w
theorem lpB_first {most : Int} (h1 : 1 ≤ most) (h2 : most ≤ 200) {W w w1 w2 : World} {t r : Nat} (k : Kp W w) (q1 : Tw w.heap.size w.heap.size t (first most) w1) (k1 : Kp w w1) (q2 : Rw w1.heap.size w1.heap.size r (first most) w2) (k2 : Kp w1 w2) : LpB W.heap.size t r 0 most W w2 := by
  have z1 := k.size
  have z2 := k1.size
  have z3 := k2.size
  refine ⟨w1.heap.size, first most, ⟨((q1.low z1).kp k2).up z2, q2.low (Nat.le_trans z1 z2), inw_first most, by omega, by omega, by simp [first], by show (1 : Int) ≤ 9000; decide⟩, rfl, by show (1 : Int) ≤ most; exact h1, by show (1 : Int) ≤ 1 + 0; decide, ?_⟩
  exact (kp_trans (kp_trans k k1) k2)
/-- What the states of a tree are: the first one is made from none, each other one from one ahead of it; the one that is is among them. -/
structure Lay (L : List St) (now : Int) (kn : Nat) : Prop where
  pos : 0 < L.length
  knl : kn < L.length
  at_ : ∀ (k : Nat) (s : St), L[k]? = some s → (s.seq = now ↔ k = kn)
  root : ∀ s, L[0]? = some s → s.fr = -1
  par : ∀ (k : Nat) (s : St), 0 < k → L[k]? = some s → s.fr ≠ -1 ∧ ∃ p, p < k ∧ ∀ (j : Nat) (s' : St), L[j]? = some s' → (s'.seq = s.fr ↔ j = p)
  sq : ∀ (j k : Nat) (s s' : St), j < k → L[j]? = some s → L[k]? = some s' → s.seq < s'.seq
theorem lay_of {m : Tr} (I : Inw m) : ∃ kn, Lay m.L m.now kn := by
  have hs := I.inv.sq
  have F := I.inv.fam
  have sq : ∀ (j k : Nat) (s s' : St), j < k → m.L[j]? = some s → m.L[k]? = some s' → s.seq < s'.seq := fun j k s s' hj h1 h2 => by
    have q1 : (m.L.map St.seq)[j]? = some s.seq := by rw [List.getElem?_map, h1]; rfl
    have q2 : (m.L.map St.seq)[k]? = some s'.seq := by rw [List.getElem?_map, h2]; rfl
    obtain ⟨l1, e1⟩ := List.getElem?_eq_some_iff.1 q1
    obtain ⟨l2, e2⟩ := List.getElem?_eq_some_iff.1 q2
    rw [← e1, ← e2]
    exact List.pairwise_iff_getElem.1 hs j k l1 l2 hj
  have uniq : ∀ (x : Int) (p : Nat) (sp : St), m.L[p]? = some sp → sp.seq = x → ∀ (j : Nat) (s' : St), m.L[j]? = some s' → (s'.seq = x ↔ j = p) := fun x p sp hp e j s' h => by
    constructor
    · intro e'
      rcases Nat.lt_trichotomy j p with q | q | q
      · have := sq _ _ _ _ q h hp; omega
      · exact q
      · have := sq _ _ _ _ q hp h; omega
    · rintro rfl; rw [hp] at h; cases h; exact e
  obtain ⟨sn, hsn⟩ := Option.ne_none_iff_exists'.1 I.inv.nw
  obtain ⟨kn, hkn⟩ := List.getElem?_of_mem (look_mem hsn)
  have hknl := (List.getElem?_eq_some_iff.1 hkn).1
  obtain ⟨r, M, hL⟩ : ∃ r M, m.L = r :: M := by
    cases e : m.L with
    | nil => rw [e] at hkn; cases hkn
    | cons r M => exact ⟨r, M, rfl⟩
  have F2 := F
  have hs2 := hs
  rw [hL] at F2 hs2
  obtain ⟨r1, r2, r3⟩ := root_first F2 hs2
  rw [← hL] at r1 r3
  have h0 : m.L[0]? = some r := by rw [hL]; rfl
  refine ⟨kn, by omega, hknl, uniq _ _ _ hkn (look_seq hsn), fun s h => by rw [h0] at h; cases h; exact r2, fun k s hk h => ?_, sq⟩
  have hl := look_at hs h
  have hfr : s.fr ≠ -1 := fun e => by
    have := r3 _ _ hl e
    have := sq _ _ _ _ hk h0 h
    omega
  obtain ⟨sp, hsp⟩ := Option.ne_none_iff_exists'.1 (F.from_there hl hfr)
  obtain ⟨p, hp⟩ := List.getElem?_of_mem (look_mem hsp)
  have hlt := F.fr _ _ hl
  refine ⟨hfr, p, ?_, uniq _ _ _ hp (look_seq hsp)⟩
  rcases Nat.lt_trichotomy p k with q | q | q
  · exact q
  · subst q; rw [hp] at h; cases h; rw [look_seq hsp] at hlt; omega
  · have := sq _ _ _ _ q h hp; rw [look_seq hsp] at this; omega
set_option maxHeartbeats 64000000 in
theorem bounds_walk {v : Value} {l : List Op12} {W : World} {most : Int} (h0 : 0 ≤ most) (h1 : most < 256) (hL : OpL W.heap.size v l W) (hok : ∀ o ∈ l, o.kd < 256 ∧ -9223372036854775808 ≤ o.n ∧ o.n < 9223372036854775808) (hw : wO l ≤ 1048576) :
    Calls Try.prog 9 #[.int .u8 most, v] W fun e w' => e = .returned (.bool true) ∧ Below W.heap.size W w' := by
  obtain ⟨a, cap, rfl, hc1, hc2⟩ : ∃ a cap, v = .slice a l.length cap ∧ l.length ≤ cap ∧ cap ≤ maxLen := by obtain ⟨a, cap, h1, h2, h3, _⟩ := hL; exact ⟨a, cap, h1, h2, h3⟩
  obtain ⟨N, hN⟩ : ∃ N, l.length = N := ⟨_, rfl⟩
  have HV : Hid _ := heavy_any hL.q (by omega)
  rw [hN] at HV hL hc1 ⊢
  have HA : Hid (OpL W.heap.size (.slice a N cap) l W ∧ (∀ o ∈ l, o.kd < 256 ∧ -9223372036854775808 ≤ o.n ∧ o.n < 9223372036854775808) ∧ l.length = N) := ⟨hL, hok, hN⟩
  have HFl : Hid (hvO l = false → l.length ≤ 120 ∧ ∀ o ∈ l, Few 2000 o.ds) := fun h => ⟨len_hv h, fun o ho => few_wO h ho⟩
  unfold maxLen at hc2
  generalize hvO l = h1 at HV HFl
  have he := eqlT
  clear hL hok hN hw
  go_enter Try.func9, Try.ntmps9
  go_wp2_with fail
  refine Calls.mono HV.out ?_
  rintro e w1 ⟨rfl, k1, rfl⟩
  cases h1 with
  | true =>
    have HK : Hid _ := known_any (W.drewN k1)
    clear HV HFl
    go_wp2_with fail
    refine Calls.mono HK.out ?_
    rintro e w2 ⟨rfl, k2⟩
    have H2 : Hid (Kp W w2) := kp_trans (kp_drewN _ _) k2
    clear HK k2
    go_wp2_with fail
    go_ret
    exact ⟨rfl, H2.out⟩
  | false =>
    have HK : Hid _ := known_any (W.drewN k1)
    have HFo : Hid (∀ o ∈ l, Few 2000 o.ds) := (HFl.out (by trivial)).2
    have hN2 : N ≤ 120 := by have := (HFl.out (by trivial)).1; rw [HA.out.2.2] at this; exact this
    clear HV HFl
    go_wp2_with fail
    refine Calls.mono HK.out ?_
    rintro e w3 ⟨rfl, k3⟩
    have H3 : Hid (Kp W w3) := kp_trans (kp_drewN _ _) k3
    clear HK k3
    go_upto_region 4 with fail
    obtain ⟨n, hn⟩ : ∃ n, 1 + most % 200 = n := ⟨_, rfl⟩
    have hn1 : 1 ≤ n ∧ n ≤ 200 := by omega
    rw [hn]
    have HM1 : Hid (1 ≤ n ∧ n ≤ 200) := hn1
    have HT : Hid _ := new_any hn1.1 hn1.2 w3
    clear hn
    go_wp2_with fail
    refine Calls.mono HT.out ?_
    rintro e w4 ⟨t, rfl, t4, k4⟩
    have H4 : Hid (Tw w3.heap.size w3.heap.size t (first n) w4 ∧ Kp w3 w4) := ⟨t4, k4⟩
    have HR : Hid _ := rnew_any HM1.out.1 HM1.out.2 w4
    clear HT t4 k4
    go_wp2_with fail
    refine Calls.mono HR.out ?_
    rintro e w5 ⟨r, rfl, r5, k5⟩
    have H5 : Hid (LpB W.heap.size t r 0 n W w5) := lpB_first HM1.out.1 HM1.out.2 H3.out H4.out.1 H4.out.2 r5 k5
    clear HR r5 k5 H3 H4
    go_wp2_with fail
    go_loopw [8] (fun v8 wr => ∃ i : Nat, i ≤ N ∧ v8 = .int .i64 i ∧ Hid (LpB W.heap.size t r i n W wr)) (fun v8 _ => N - (intOf v8).toNat)
    case atStart => exact ⟨0, Nat.zero_le _, by go_num, H5.out⟩
    case round =>
      clear H5
      obtain ⟨i, hi, rfl, HI⟩ := hrel
      by_cases q : i < N
      · have g1 : decide ((i : Int) < (N : Int)) = true := decide_eq_true (by omega)
        have g2 : decide (i < N) = true := decide_eq_true (by omega)
        obtain ⟨C, m, bt, e1, e2, e3, bl⟩ := HI.out
        have hol := HA.out.1.below bl
        obtain ⟨o, ho⟩ : ∃ o, l[i]? = some o := ⟨_, List.getElem?_eq_getElem (by rw [HA.out.2.2]; exact q)⟩
        obtain ⟨a', cap', e, _, _, hcs⟩ := hol
        cases e
        obtain ⟨g, off, rfl, _, c0, c1, c2, hda⟩ := hcs i o ho
        have hom : o ∈ l := List.mem_of_getElem? ho
        obtain ⟨hk1, hn0, hn1'⟩ := HA.out.2.1 o hom
        have HD : Hid _ := does_ev bt (by rw [e1]; exact HM1.out) (by omega) (by rw [e1]; exact e2) (kd := (o.kd : Int)) (n := o.n) (by omega) (by omega) ⟨hn0, hn1'⟩ hda (HFo.out o hom)
        have HM : Hid (m.most = n ∧ m.next ≤ 1 + i ∧ Below W.heap.size W wr) := ⟨e1, e3, bl⟩
        obtain ⟨oa, on, oc, hov⟩ : ∃ a n c, o.v = .slice a n c := by obtain ⟨a, c, q, _⟩ := hda.form; exact ⟨a, _, c, q⟩
        rw [hov] at c2 HD
        obtain ⟨kd, hkd⟩ : ∃ k : Int, k = (o.kd : Int) := ⟨_, rfl⟩
        obtain ⟨on', hon⟩ : ∃ k : Int, k = o.n := ⟨_, rfl⟩
        rw [← hkd] at c0 HD
        rw [← hon] at c1 HD
        clear HI bt e1 e2 e3 bl hcs hda hom ho hk1 hn0 hn1' hov hkd hon
        go_wp2_with fail
        refine Calls.mono HD.out ?_
        rintro e w6 ⟨rfl, C2, m2, bt, st, bl⟩
        have I := bt.inw
        have hmm : m2.most = n := st.mo.trans HM.out.1
        have hll : (m2.L.length : Int) ≤ n := by have := st.len; rw [HM.out.1] at this; exact this
        obtain ⟨kn, hlay⟩ := lay_of I
        have HS1 : Hid (Calls Try.prog 25 #[.pointer (some ⟨t, 0, none⟩)] w6 fun e w' => ∃ v, e = .returned v ∧ Hid (Sr w6.heap.size v m2.L w' ∧ LpB W.heap.size t r (i + 1) n W w' ∧ ∀ z, Kp w' z → Calls Try.prog 14 #[.pointer (some ⟨t, 0, none⟩)] z fun e w2 => e = .returned (.int .i64 m2.now) ∧ w2 = z)) := (states_any bt.tw I.inv.fam (by have := bt.nx; omega) (by have := bt.few; omega) I.inv.sq).mono (by
          rintro e w' ⟨v, rfl, s1, s2⟩
          refine ⟨v, rfl, s1, ⟨C2, m2, bt.kp s2, hmm, hll, by have := st.nx; have := HM.out.2.1; omega, (HM.out.2.2.trans bl).trans (s2.mono bt.hB)⟩, fun z kz => now_any ((bt.kp s2).tw.kp kz)⟩)
        have HLY : Hid (Lay m2.L m2.now kn ∧ (m2.L.length : Int) ≤ n) := ⟨hlay, hll⟩
        clear HD HM bt st bl I hmm hll hlay c0 c1 c2
        go_wp2_with fail
        refine Calls.mono HS1.out ?_
        rintro e w7 ⟨v7, rfl, H7⟩
        obtain ⟨sr, hlp, hnw⟩ := H7.out
        obtain ⟨N2, hN2'⟩ : ∃ N2, m2.L.length = N2 := ⟨_, rfl⟩
        obtain ⟨sa, sc, hv7, _⟩ := owns_form sr
        have hpos := HLY.out.1.pos
        obtain ⟨gs, hgs⟩ : ∃ gs, sa = some ⟨gs, 0, none⟩ := by
          rcases sr.2 with ⟨_, e0⟩ | ⟨g', c', cur, e0, _⟩
          · omega
          · rw [hv7] at e0; simp only [Value.slice.injEq] at e0; exact ⟨g', e0.1⟩
        subst hgs
        subst hv7
        have HCL : Hid (∀ (j : Nat) (s : St), m2.L[j]? = some s → w7.cell? ⟨gs, j * 2, none⟩ = some (.int .i64 s.seq) ∧ w7.cell? ⟨gs, j * 2 + 1, none⟩ = some (.int .i64 s.fr)) := fun j s hj => sr.cell rfl hj
        have HLP : Hid (∀ z, Kp w7 z → LpB W.heap.size t r (i + 1) n W z) := fun z kz => by
          obtain ⟨C2, m2, bt, e1, e2, e3, bl⟩ := hlp
          exact ⟨C2, m2, bt.kp kz, e1, e2, e3, bl.trans (kz.mono bt.hB)⟩
        have HNW : Hid (∀ z, Kp w7 z → Calls Try.prog 14 #[.pointer (some ⟨t, 0, none⟩)] z fun e w2 => e = .returned (.int .i64 m2.now) ∧ w2 = z) := hnw
        have hN2l : (N2 : Int) ≤ n := by have := HLY.out.2; omega
        have hknN : kn < N2 := by have := HLY.out.1.knl; omega
        rw [hN2']
        have HN2 : Hid (m2.L.length = N2 ∧ 0 < N2) := ⟨hN2', by omega⟩
        clear HS1 H7 sr hlp hnw hpos hN2'
        go_wp2_with fail
        go_loopw [10, 11, 12] (fun v10 v11 v12 wr => ∃ (k q : Nat) (ρ : Int) (ν : Bool), k ≤ N2 ∧ v10 = .int .i64 ρ ∧ v11 = .bool ν ∧ v12 = .int .i64 k ∧ wr = w7.drewN q ∧ 0 ≤ ρ ∧ ρ ≤ 1 ∧ Hid ((0 < k → ρ = 1) ∧ (k = 0 → ρ = 0) ∧ ν = decide (kn < k))) (fun _ _ v12 _ => N2 - (intOf v12).toNat)
        case atStart => exact ⟨0, 0, 0, false, Nat.zero_le _, rfl, rfl, rfl, rfl, by decide, by decide, by simp, by simp, by simp⟩
        case round =>
          obtain ⟨k, qk, ρ, ν, hk, rfl, rfl, rfl, rfl, hρ0, hρ1, HR⟩ := hrel
          by_cases qq : k < N2
          · have g3 : decide ((k : Int) < (N2 : Int)) = true := decide_eq_true (by omega)
            have g4 : decide (k < N2) = true := decide_eq_true (by omega)
            have hkI : (k : Int) < (N2 : Int) := by omega
            obtain ⟨sk, hsk⟩ : ∃ s, m2.L[k]? = some s := ⟨_, List.getElem?_eq_getElem (by have := HN2.out; omega)⟩
            obtain ⟨y0, y1⟩ := HCL.out k sk hsk
            have HSK : Hid (m2.L[k]? = some sk ∧ (sk.seq = m2.now ↔ k = kn)) := ⟨hsk, HLY.out.1.at_ k sk hsk⟩
            clear hsk
            rcases Nat.eq_zero_or_pos k with p | p
            · subst p
              have hfr : sk.fr = -1 := HLY.out.1.root sk HSK.out.1
              have hρ : ρ = 0 := HR.out.2.1 rfl
              subst hρ
              rw [hfr] at y1
              have HSF : Hid (sk.fr = -1) := hfr
              have y0' : w7.cell? ⟨gs, 0, none⟩ = some (.int .i64 sk.seq) := y0
              have y1' : w7.cell? ⟨gs, 1, none⟩ = some (.int .i64 (-1)) := y1
              clear hfr
              go_wp2_with fail
              go_loopw [13, 14] (fun v13 v14 wr => v13 = .bool true ∧ v14 = .int .i64 0 ∧ wr = w7.drewN qk) (fun _ _ _ => 0)
              case atStart => exact ⟨rfl, rfl, rfl⟩
              case round =>
                obtain ⟨rfl, rfl, rfl⟩ := hrel
                go_upto_region 25 with fail
                by_cases q8 : kn < (0 : Nat)
                · have hν : ν = true := by rw [HR.out.2.2]; exact decide_eq_true q8
                  subst hν
                  have HNX : Hid (true = decide (kn < (0 : Nat) + 1)) := (decide_eq_true (by omega)).symm
                  clear HR q8
                  go_quiet (fail)
                  go_wp2_with fail
                  go_quiet (fail)
                  go_wp2_with fail
                  go_roundw
                  case rel => exact ⟨1, _, 1, true, by omega, rfl, rfl, rfl, by first | exact drew2 _ _ _ | rfl, by decide, by decide, fun _ => rfl, fun e => by omega, HNX.out⟩
                  case measure => simp only [intOf]; omega
                · have hν : ν = false := by rw [HR.out.2.2]; exact decide_eq_false q8
                  subst hν
                  by_cases q9 : (0 : Nat) = kn
                  · have e9 : sk.seq = m2.now := HSK.out.2.2 q9
                    have b9 : (sk.seq == m2.now) = true := by rw [e9]; exact beq_self_eq_true _
                    have HNX : Hid (true = decide (kn < (0 : Nat) + 1)) := (decide_eq_true (by omega)).symm
                    have HSQ : Hid (sk.seq = m2.now) := e9
                    clear HR q8 q9 e9
                    go_quiet ((go_at_call 14; exact quiet_plus (HNW.out _ (kp_drewN _ _))))
                    go_wp2_with fail
                    go_quiet (fail)
                    go_wp2_with fail
                    go_roundw
                    case rel => exact ⟨1, _, 1, true, by omega, rfl, rfl, rfl, by first | exact drew2 _ _ _ | rfl, by decide, by decide, fun _ => rfl, fun e => by omega, HNX.out⟩
                    case measure => simp only [intOf]; omega
                  · have e9 : (sk.seq == m2.now) = false := beq_eq_false_iff_ne.2 (fun e => q9 (HSK.out.2.1 e))
                    have HNX : Hid (false = decide (kn < (0 : Nat) + 1)) := (decide_eq_false (by omega)).symm
                    clear HR q8 q9
                    go_quiet ((go_at_call 14; exact quiet_plus (HNW.out _ (kp_drewN _ _))))
                    go_wp2_with fail
                    go_quiet (fail)
                    go_wp2_with fail
                    go_roundw
                    case rel => exact ⟨1, _, 1, false, by omega, rfl, rfl, rfl, by first | exact drew2 _ _ _ | rfl, by decide, by decide, fun _ => rfl, fun e => by omega, HNX.out⟩
                    case measure => simp only [intOf]; omega
            · have hfr := HLY.out.1.par k sk p HSK.out.1
              obtain ⟨hf1, pf, hpf, hpf2⟩ := hfr
              have d5 : (sk.fr == -1) = false := by simpa using hf1
              have HPF : Hid (∀ (j : Nat) (s' : St), m2.L[j]? = some s' → (s'.seq = sk.fr ↔ j = pf)) := hpf2
              have hρ : ρ = 1 := HR.out.1 p
              subst hρ
              clear hf1 hpf2
              go_wp2_with fail
              go_loopw [13, 14] (fun v13 v14 wr => ∃ (j qj : Nat), j ≤ k ∧ v13 = .bool (decide (pf < j)) ∧ v14 = .int .i64 j ∧ wr = w7.drewN qj) (fun _ v14 _ => k - (intOf v14).toNat)
              case atStart => exact ⟨0, qk, Nat.zero_le _, by simp, rfl, rfl⟩
              case round =>
                obtain ⟨j, qj, hj, rfl, rfl, rfl⟩ := hrel
                by_cases q6 : j < k
                · have g5 : decide ((j : Int) < (k : Int)) = true := decide_eq_true (by omega)
                  have g6 : decide (j < k) = true := decide_eq_true q6
                  have hjI : (j : Int) < (N2 : Int) := by omega
                  obtain ⟨sj, hsj⟩ : ∃ s, m2.L[j]? = some s := ⟨_, List.getElem?_eq_getElem (by have := HN2.out; omega)⟩
                  obtain ⟨z0, z1⟩ := HCL.out j sj hsj
                  have hiff := HPF.out j sj hsj
                  rcases Nat.lt_trichotomy pf j with q7 | q7 | q7
                  · have b1 : decide (pf < j) = true := decide_eq_true q7
                    have b2 : decide (pf < j + 1) = true := decide_eq_true (by omega)
                    clear hiff hsj
                    rw [b1]
                    go_upto_region 24 with fail
                    go_quiet (fail)
                    go_wp2_with fail
                    go_roundw
                    case rel => exact ⟨j + 1, qj + nq, by omega, by rw [b2], by go_num, by first | exact drew2 _ _ _ | rfl⟩
                    case measure => simp only [intOf]; omega
                  · subst q7
                    have b1 : decide (pf < pf) = false := by simp
                    have b2 : decide (pf < pf + 1) = true := decide_eq_true (by omega)
                    have e7 : sj.seq = sk.fr := hiff.2 rfl
                    rw [e7] at z0
                    have b3 : (sk.fr == sk.fr) = true := beq_self_eq_true _
                    clear hiff hsj e7
                    rw [b1]
                    go_upto_region 24 with fail
                    go_quiet (fail)
                    go_wp2_with fail
                    go_roundw
                    case rel => exact ⟨pf + 1, qj + nq, by omega, by rw [b2], by go_num, by first | exact drew2 _ _ _ | rfl⟩
                    case measure => simp only [intOf]; omega
                  · have b1 : decide (pf < j) = false := decide_eq_false (by omega)
                    have b2 : decide (pf < j + 1) = false := decide_eq_false (by omega)
                    have b3 : (sj.seq == sk.fr) = false := beq_eq_false_iff_ne.2 (fun e => by have := hiff.1 e; omega)
                    clear hiff hsj
                    rw [b1]
                    go_upto_region 24 with fail
                    go_quiet (fail)
                    go_wp2_with fail
                    go_roundw
                    case rel => exact ⟨j + 1, qj + nq, by omega, by rw [b2], by go_num, by first | exact drew2 _ _ _ | rfl⟩
                    case measure => simp only [intOf]; omega
                · obtain rfl : j = k := by omega
                  have g5 : decide ((j : Int) < (j : Int)) = false := by simp
                  have b1 : decide (pf < j) = true := decide_eq_true hpf
                  obtain ⟨j', rfl⟩ : ∃ j', j = j' + 1 := ⟨j - 1, by omega⟩
                  obtain ⟨sp, hsp⟩ : ∃ s, m2.L[j']? = some s := ⟨_, List.getElem?_eq_getElem (by have := HN2.out; omega)⟩
                  obtain ⟨x0, _⟩ := HCL.out j' sp hsp
                  have hsq := HLY.out.1.sq j' (j' + 1) sp sk (by omega) hsp HSK.out.1
                  have d6 : decide (sk.seq ≤ sp.seq) = false := decide_eq_false (by omega)
                  have d7 : decide ((((j' + 1 : Nat) : Int)) > 0) = true := decide_eq_true (by omega)
                  have d8 : decide ((0 : Int) < ((j' + 1 : Nat) : Int)) = true := decide_eq_true (by omega)
                  have d9 : ((j' + 1 : Nat) : Int) - 1 = (j' : Int) := by omega
                  have hjI' : (j' : Int) < (N2 : Int) := by omega
                  clear hsp hsq
                  rw [b1]
                  go_upto_region 25 with fail
                  by_cases q8 : kn < (j' + 1)
                  · have hν : ν = true := by rw [HR.out.2.2]; exact decide_eq_true q8
                    subst hν
                    have HNX : Hid (true = decide (kn < (j' + 1) + 1)) := (decide_eq_true (by omega)).symm
                    clear HR q8
                    go_quiet (fail)
                    go_wp2_with fail
                    go_quiet (fail)
                    go_wp2_with fail
                    go_roundw
                    case rel => exact ⟨(j' + 1) + 1, _, 1, true, by omega, rfl, rfl, by go_num, by first | exact drew2 _ _ _ | rfl, by decide, by decide, fun _ => rfl, fun e => by omega, HNX.out⟩
                    case measure => simp only [intOf]; omega
                  · have hν : ν = false := by rw [HR.out.2.2]; exact decide_eq_false q8
                    subst hν
                    by_cases q9 : (j' + 1) = kn
                    · have e9 : sk.seq = m2.now := HSK.out.2.2 q9
                      have b9 : (sk.seq == m2.now) = true := by rw [e9]; exact beq_self_eq_true _
                      have HNX : Hid (true = decide (kn < (j' + 1) + 1)) := (decide_eq_true (by omega)).symm
                      have HSQ : Hid (sk.seq = m2.now) := e9
                      clear HR q8 q9 e9
                      go_quiet ((go_at_call 14; exact quiet_plus (HNW.out _ (kp_drewN _ _))))
                      go_wp2_with fail
                      go_quiet (fail)
                      go_wp2_with fail
                      go_roundw
                      case rel => exact ⟨(j' + 1) + 1, _, 1, true, by omega, rfl, rfl, by go_num, by first | exact drew2 _ _ _ | rfl, by decide, by decide, fun _ => rfl, fun e => by omega, HNX.out⟩
                      case measure => simp only [intOf]; omega
                    · have e9 : (sk.seq == m2.now) = false := beq_eq_false_iff_ne.2 (fun e => q9 (HSK.out.2.1 e))
                      have HNX : Hid (false = decide (kn < (j' + 1) + 1)) := (decide_eq_false (by omega)).symm
                      clear HR q8 q9
                      go_quiet ((go_at_call 14; exact quiet_plus (HNW.out _ (kp_drewN _ _))))
                      go_wp2_with fail
                      go_quiet (fail)
                      go_wp2_with fail
                      go_roundw
                      case rel => exact ⟨(j' + 1) + 1, _, 1, false, by omega, rfl, rfl, by go_num, by first | exact drew2 _ _ _ | rfl, by decide, by decide, fun _ => rfl, fun e => by omega, HNX.out⟩
                      case measure => simp only [intOf]; omega
          · obtain rfl : k = N2 := by omega
            have g3 : decide ((k : Int) < (k : Int)) = false := by simp
            have hρ : ρ = 1 := HR.out.1 (by have := HN2.out; omega)
            subst hρ
            have hν : ν = true := by rw [HR.out.2.2]; exact decide_eq_true hknN
            subst hν
            have b1 : decide ((k : Int) > n) = false := decide_eq_false (by omega)
            have b2 : decide (n < (k : Int)) = false := decide_eq_false (by omega)
            have HX : Hid (∀ q, LpB W.heap.size t r (i + 1) n W (w7.drewN q)) := fun q => HLP.out _ (kp_drewN _ _)
            clear HR HLP HNW HCL HLY
            go_wp2_with fail
            try go_quiet (fail)
            try go_wp2_with fail
            go_roundw
            case rel => exact ⟨i + 1, by omega, by go_num, HX.out _⟩
            case measure => simp only [intOf]; omega
      · obtain rfl : i = N := by omega
        have g1 : decide ((i : Int) < (i : Int)) = false := by simp
        have HX : Hid (Below W.heap.size W wr) := by obtain ⟨C, m, bt, e1, e2, e3, bl⟩ := HI.out; exact bl
        clear HI
        go_wp2_with fail
        go_ret
        exact ⟨rfl, HX.out⟩
theorem bounds_law (n : Nat) (h : n < 256) {v : Value} {l : List Op12} {W : World} (hL : OpL W.heap.size v l W) (hok : ∀ o ∈ l, o.kd < 256 ∧ -9223372036854775808 ≤ o.n ∧ o.n < 9223372036854775808) (hw : wO l ≤ 1048576) :
    Calls Try.prog 9 #[.int .u8 n, v] W fun e w' => e = .returned (.bool true) ∧ Below W.heap.size W w' := bounds_walk (by omega) (by omega) hL hok hw
end Go.Proofs.Ytbkhhgaihhbhjaa
/- UndoTexts: the walk. -/
namespace Go.Proofs.Ytbkhhgaihhbhjaa
open Go.ChangeShapes Go.WideShapes Go.ChangeAt Go.RowKit Go.Maps Go.MapKept
set_option linter.unusedVariables false
set_option linter.unusedSimpArgs false
set_option maxRecDepth 100000
set_option maxHeartbeats 64000000 in
theorem texts_walk {v fv : Value} {l : List Op12} {fs : List ByteArray} {W : World} {most : Int} (h0 : 0 ≤ most) (h1 : most < 256) (hF : Sl (fun k => k < W.heap.size) fv fs W) (hL : OpL W.heap.size v l W) (hok : ∀ o ∈ l, o.kd < 256 ∧ -9223372036854775808 ≤ o.n ∧ o.n < 9223372036854775808) (hw : wO l ≤ 1048576) :
    Calls Try.prog 8 #[.int .u8 most, fv, v] W fun e w' => e = .returned (.bool true) ∧ Below W.heap.size W w' := by
  obtain ⟨a, cap, rfl, hc1, hc2⟩ : ∃ a cap, v = .slice a l.length cap ∧ l.length ≤ cap ∧ cap ≤ maxLen := by obtain ⟨a, cap, h1, h2, h3, _⟩ := hL; exact ⟨a, cap, h1, h2, h3⟩
  obtain ⟨fa, fc, rfl, fc1, fc2, _⟩ := hF.form
  obtain ⟨N, hN⟩ : ∃ N, l.length = N := ⟨_, rfl⟩
  obtain ⟨NF, hNF⟩ : ∃ N, fs.length = N := ⟨_, rfl⟩
  have HV : Hid _ := heavy_any hL.q (by omega)
  rw [hN] at HV hL hc1 ⊢
  rw [hNF] at hF fc1 ⊢
  have HA : Hid (OpL W.heap.size (.slice a N cap) l W ∧ (∀ o ∈ l, o.kd < 256 ∧ -9223372036854775808 ≤ o.n ∧ o.n < 9223372036854775808) ∧ l.length = N ∧ Sl (fun k => k < W.heap.size) (.slice fa NF fc) fs W ∧ fs.length = NF) := ⟨hL, hok, hN, hF, hNF⟩
  have HFl : Hid (hvO l = false → l.length ≤ 120 ∧ ∀ o ∈ l, Few 2000 o.ds) := fun h => ⟨len_hv h, fun o ho => few_wO h ho⟩
  unfold maxLen at hc2 fc2
  have HFn : Hid (hvO l = false → ∀ o ∈ l, ∀ d ∈ o.ds, d.nw.length ≤ 2000) := fun h o ho d hd => nw_hv h ho hd
  generalize hvO l = h1 at HV HFl HFn
  have he := eqlT
  clear hL hok hN hw hF hNF
  go_enter Try.func8, Try.ntmps8
  go_wp2_with fail
  refine Calls.mono HV.out ?_
  rintro e w1 ⟨rfl, k1, rfl⟩
  have HK : Hid (∀ z, Kp W z → Calls Try.prog 16 #[] z fun e w' => e = .returned (.bool true) ∧ Hid (Kp W w')) := fun z kz => (known_any z).mono (by rintro e w' ⟨rfl, k⟩; exact ⟨rfl, kp_trans kz k⟩)
  cases h1 with
  | true =>
    clear HV HFl HFn
    go_wp2_with fail
    refine Calls.mono (HK.out _ (kp_drewN _ _)) ?_
    rintro e w2 ⟨rfl, H2⟩
    clear HK
    go_wp2_with fail
    go_ret
    exact ⟨rfl, H2.out⟩
  | false =>
    have HFo : Hid (∀ o ∈ l, Few 2000 o.ds) := (HFl.out (by trivial)).2
    have hN2 : N ≤ 120 := by have := (HFl.out (by trivial)).1; rw [HA.out.2.2.1] at this; exact this
    have HFm : Hid (∀ o ∈ l, ∀ d ∈ o.ds, d.nw.length ≤ 2000) := HFn.out (by trivial)
    clear HV HFl HFn
    by_cases hf50 : 50 < NF
    · have f1 : decide ((NF : Int) > 50) = true := decide_eq_true (by omega)
      have f2 : decide ((50 : Int) < (NF : Int)) = true := decide_eq_true (by omega)
      have f3 : decide (50 < NF) = true := decide_eq_true hf50
      go_wp2_with fail
      refine Calls.mono (HK.out _ (kp_drewN _ _)) ?_
      rintro e w2 ⟨rfl, H2⟩
      clear HK
      go_wp2_with fail
      go_ret
      exact ⟨rfl, H2.out⟩
    · have f1 : decide ((NF : Int) > 50) = false := decide_eq_false (by omega)
      have f2 : decide ((50 : Int) < (NF : Int)) = false := decide_eq_false (by omega)
      have f3 : decide (50 < NF) = false := decide_eq_false hf50
      go_wp2_with fail
      refine Calls.mono (HK.out _ (kp_drewN _ _)) ?_
      rintro e w3 ⟨rfl, H3⟩
      clear HK f1 f2 f3
      obtain ⟨n, hn⟩ : ∃ n, 1 + most % 200 = n := ⟨_, rfl⟩
      have hn1 : 1 ≤ n ∧ n ≤ 200 := by omega
      have HT : Hid _ := new_any hn1.1 hn1.2 w3
      have HM1 : Hid (1 ≤ n ∧ n ≤ 200) := hn1
      clear hn1
      go_wp2_with fail
      refine Calls.mono HT.out ?_
      rintro e w4 ⟨t, rfl, t4, k4⟩
      clear hn
      have HL0 : Hid (LpT W.heap.size w4.heap.size t 0 (first n) (fun _ => fs) [.slice fa NF fc] (.slice fa NF fc) (.slice (some ⟨w4.heap.size, 0, none⟩) 1 1) W (w4.alloc (.cells #[.int .i64 0, .slice fa NF fc] 57))) := by
        have kW := kp_trans H3.out k4
        have k5 := kp_alloc w4 (.cells #[.int .i64 0, .slice fa NF fc] 57)
        have hz := alloc_size w4 (.cells #[.int .i64 0, .slice fa NF fc] 57)
        have hsl := HA.out.2.2.2.1.kp (kp_trans kW k5)
        refine ⟨⟨((t4.kp k5).low H3.out.size).up k4.size, by omega, by have := kW.size; omega, inw_first n, HM1.out, by show (1 : Int) ≤ n; exact HM1.out.1, by show (1 : Int) ≤ 200; decide, fun x s hx hf => ?_, fun x s hx => ?_⟩, rfl, Nat.le_refl _, .inl hsl, fun k u hk => ?_, fun x => by show fs.length ≤ _; rw [HA.out.2.2.2.2]; omega, ?_, kp_trans kW k5⟩
        · unfold first at hx; rw [look_cons] at hx
          split at hx
          · cases hx; exact absurd rfl hf
          · cases hx
        · unfold first at hx; rw [look_cons] at hx
          split at hx
          · cases hx; exact ⟨by simp, by simp⟩
          · cases hx
        · cases k with
          | zero => simp at hk; subst hk; exact .inl hsl
          | succ k => simp at hk
        · exact ⟨rfl, .inr ⟨w4.heap.size, 1, _, rfl, kW.size, alloc_new _ _, Nat.le_refl _, by simp [maxLen], rfl, rfl⟩⟩
      clear HT t4 k4 H3
      go_wp2_with fail
      go_loopw [8, 9, 10] (fun v8 v9 v10 wr => ∃ (i : Nat) (ta aa : Option Addr) (tn an tc ac : Nat), i ≤ N ∧ v8 = .slice ta tn tc ∧ v9 = .slice aa an ac ∧ v10 = .int .i64 i ∧ Hid (∃ C m T vs, LpT W.heap.size C t i m T vs (.slice ta tn tc) (.slice aa an ac) W wr)) (fun _ _ v10 _ => N - (intOf v10).toNat)
      case atStart => exact ⟨0, fa, _, NF, 1, fc, 1, Nat.zero_le _, rfl, rfl, rfl, _, _, _, _, HL0.out⟩
      case round =>
        obtain ⟨i, ta, aa, tn, an, tc, ac, hi, rfl, rfl, rfl, HI⟩ := hrel
        clear HL0
        by_cases q : i < N
        · have g1 : decide ((i : Int) < (N : Int)) = true := decide_eq_true (by omega)
          have g2 : decide (i < N) = true := decide_eq_true (by omega)
          obtain ⟨C, m, T, vs, lp⟩ := HI.out
          have hol := HA.out.1.below lp.bl
          obtain ⟨o, ho⟩ : ∃ o, l[i]? = some o := ⟨_, List.getElem?_eq_getElem (by rw [HA.out.2.2.1]; exact q)⟩
          obtain ⟨a', cap', e, _, _, hcs⟩ := hol
          cases e
          obtain ⟨g, off, rfl, _, c0, c1, c2, hda⟩ := hcs i o ho
          have hom : o ∈ l := List.mem_of_getElem? ho
          obtain ⟨hk1, hn0, hn1'⟩ := HA.out.2.1 o hom
          have HFw : Hid (Few 2000 o.ds) := HFo.out o hom
          have HNL : Hid (∀ d ∈ o.ds, d.nw.length ≤ 2000) := HFm.out o hom
          obtain ⟨oa, on, oc, hov⟩ : ∃ a n c, o.v = .slice a n c := by obtain ⟨a, c, q, _⟩ := hda.form; exact ⟨a, _, c, q⟩
          rw [hov] at c2 hda
          obtain ⟨kd, hkd⟩ : ∃ k : Int, k = (o.kd : Int) := ⟨_, rfl⟩
          obtain ⟨nn, hnn⟩ : ∃ k : Int, k = o.n := ⟨_, rfl⟩
          rw [← hkd] at c0
          rw [← hnn] at c1
          have hk0 : 0 ≤ kd ∧ kd < 256 := by omega
          have hnr : Rg nn := by rw [hnn]; exact ⟨hn0, hn1'⟩
          have HLP : Hid (LpT W.heap.size C t i m T vs (.slice ta tn tc) (.slice aa an ac) W wr) := lp
          have HDA : Hid (DArg W.heap.size (.slice oa on oc) o.ds wr) := hda
          have hlen : Hid ((T m.now).length = tn ∧ vs.length = an ∧ m.next = (an : Int) ∧ an ≤ 1 + i ∧ tn ≤ 50 + 2000 * i ∧ o.ds.length = on) := by
            obtain ⟨a1, c1, e1, _⟩ := lp.tv.sl.form
            obtain ⟨a2, c2, e2, _⟩ := owns_form lp.row
            obtain ⟨a3, c3, e3, _⟩ := hda.form
            simp only [Value.slice.injEq] at e1 e2 e3
            have := lp.nx; have := lp.ln; have := lp.bd m.now
            exact ⟨e1.2.1.symm, e2.2.1.symm, by rw [e2.2.1]; exact lp.nx, by omega, by omega, e3.2.1.symm⟩
          have HTR : Hid (StT W.heap.size C t m T wr) := lp.st
          clear HI lp hcs hda hom ho hov hkd hnn hk1 hn0 hn1'
          go_upto_block 2 with fail
          go_cut [8, 9, 11, 12] from 45 to 215 (fun v8 v9 v11 v12 wx => v8 = .slice ta tn tc ∧ v9 = .slice aa an ac ∧ ∃ (da : Option Addr) (dn dc : Nat) (err : Int), v11 = .slice da dn dc ∧ v12 = .int .u16 err ∧ Hid (Trv W.heap.size C t m T wr (.slice da dn dc) err wx))
          case first =>
            have hq9 : kd % 9 = 3 ∨ kd % 9 = 4 ∨ kd % 9 = 5 ∨ kd % 9 = 6 ∨ kd % 9 = 7 ∨ kd % 9 = 8 ∨ kd % 9 < 3 := by omega
            rcases hq9 with q9 | q9 | q9 | q9 | q9 | q9 | q9
            · as_aux_lemma =>
                have d3 : (kd % 9 == 3) = true := by rw [q9]; rfl
                have d4 : (kd % 9 == 4) = false := by rw [q9]; rfl
                have d5 : (kd % 9 == 5) = false := by rw [q9]; rfl
                have d6 : (kd % 9 == 6) = false := by rw [q9]; rfl
                have d7 : (kd % 9 == 7) = false := by rw [q9]; rfl
                have d8 : (kd % 9 == 8) = false := by rw [q9]; rfl
                have HT : Hid _ := trv_undo HTR.out
                clear q9 HTR
                go_wp2_with fail
                refine Calls.mono HT.out ?_
                rintro e w5 ⟨v5, err, rfl, tr⟩
                obtain ⟨da, dn, dc, rfl⟩ := tr.form
                have HX : Hid _ := tr
                clear HT tr
                go_wp2_with fail
                go_meet
                exact ⟨rfl, rfl, da, dn, dc, err, rfl, rfl, HX.out⟩
            · as_aux_lemma =>
                have d3 : (kd % 9 == 3) = false := by rw [q9]; rfl
                have d4 : (kd % 9 == 4) = true := by rw [q9]; rfl
                have d5 : (kd % 9 == 5) = false := by rw [q9]; rfl
                have d6 : (kd % 9 == 6) = false := by rw [q9]; rfl
                have d7 : (kd % 9 == 7) = false := by rw [q9]; rfl
                have d8 : (kd % 9 == 8) = false := by rw [q9]; rfl
                have HT : Hid _ := trv_redo HTR.out
                clear q9 HTR
                go_wp2_with fail
                refine Calls.mono HT.out ?_
                rintro e w5 ⟨v5, err, rfl, tr⟩
                obtain ⟨da, dn, dc, rfl⟩ := tr.form
                have HX : Hid _ := tr
                clear HT tr
                go_wp2_with fail
                go_meet
                exact ⟨rfl, rfl, da, dn, dc, err, rfl, rfl, HX.out⟩
            · as_aux_lemma =>
                have d3 : (kd % 9 == 3) = false := by rw [q9]; rfl
                have d4 : (kd % 9 == 4) = false := by rw [q9]; rfl
                have d5 : (kd % 9 == 5) = true := by rw [q9]; rfl
                have d6 : (kd % 9 == 6) = false := by rw [q9]; rfl
                have d7 : (kd % 9 == 7) = false := by rw [q9]; rfl
                have d8 : (kd % 9 == 8) = false := by rw [q9]; rfl
                obtain ⟨x, hx⟩ : ∃ x, max nn 0 % ((an : Int) + 1) = x := ⟨_, rfl⟩
                have hx0 : 0 ≤ x ∧ x < 1000 := by have := hlen.out; subst hx; have h1 := Int.emod_nonneg (max nn 0) (b := (an : Int) + 1) (by omega); have h2 := Int.emod_lt_of_pos (max nn 0) (b := (an : Int) + 1) (by omega); omega
                have hx2 : (max nn 0).tmod ((an : Int) + 1) = x := by rw [Int.tmod_eq_emod_of_nonneg (by omega)]; exact hx
                have han : (an : Int) ≤ 200 := by have := hlen.out; omega
                have HT : Hid _ := trv_go HTR.out (rg_of (x := x) ⟨hx0.1, by omega⟩)
                clear q9 HTR hx0
                go_wp2_with fail
                refine Calls.mono HT.out ?_
                rintro e w5 ⟨v5, err, rfl, tr⟩
                obtain ⟨da, dn, dc, rfl⟩ := tr.form
                have HX : Hid _ := tr
                clear HT tr
                go_wp2_with fail
                go_meet
                exact ⟨rfl, rfl, da, dn, dc, err, rfl, rfl, HX.out⟩
            · as_aux_lemma =>
                have d3 : (kd % 9 == 3) = false := by rw [q9]; rfl
                have d4 : (kd % 9 == 4) = false := by rw [q9]; rfl
                have d5 : (kd % 9 == 5) = false := by rw [q9]; rfl
                have d6 : (kd % 9 == 6) = true := by rw [q9]; rfl
                have d7 : (kd % 9 == 7) = false := by rw [q9]; rfl
                have d8 : (kd % 9 == 8) = false := by rw [q9]; rfl
                have HT : Hid _ := trv_earlier HTR.out nn
                clear q9 HTR
                go_wp2_with fail
                refine Calls.mono HT.out ?_
                rintro e w5 ⟨v5, err, rfl, tr⟩
                obtain ⟨da, dn, dc, rfl⟩ := tr.form
                have HX : Hid _ := tr
                clear HT tr
                go_wp2_with fail
                go_meet
                exact ⟨rfl, rfl, da, dn, dc, err, rfl, rfl, HX.out⟩
            · as_aux_lemma =>
                have d3 : (kd % 9 == 3) = false := by rw [q9]; rfl
                have d4 : (kd % 9 == 4) = false := by rw [q9]; rfl
                have d5 : (kd % 9 == 5) = false := by rw [q9]; rfl
                have d6 : (kd % 9 == 6) = false := by rw [q9]; rfl
                have d7 : (kd % 9 == 7) = true := by rw [q9]; rfl
                have d8 : (kd % 9 == 8) = false := by rw [q9]; rfl
                have HT : Hid _ := trv_later HTR.out nn
                clear q9 HTR
                go_wp2_with fail
                refine Calls.mono HT.out ?_
                rintro e w5 ⟨v5, err, rfl, tr⟩
                obtain ⟨da, dn, dc, rfl⟩ := tr.form
                have HX : Hid _ := tr
                clear HT tr
                go_wp2_with fail
                go_meet
                exact ⟨rfl, rfl, da, dn, dc, err, rfl, rfl, HX.out⟩
            · as_aux_lemma =>
                have d3 : (kd % 9 == 3) = false := by rw [q9]; rfl
                have d4 : (kd % 9 == 4) = false := by rw [q9]; rfl
                have d5 : (kd % 9 == 5) = false := by rw [q9]; rfl
                have d6 : (kd % 9 == 6) = false := by rw [q9]; rfl
                have d7 : (kd % 9 == 7) = false := by rw [q9]; rfl
                have d8 : (kd % 9 == 8) = true := by rw [q9]; rfl
                obtain ⟨x, hx⟩ : ∃ x, max nn 0 % ((an : Int) + 1) = x := ⟨_, rfl⟩
                have hx0 : 0 ≤ x ∧ x < 1000 := by have := hlen.out; subst hx; have h1 := Int.emod_nonneg (max nn 0) (b := (an : Int) + 1) (by omega); have h2 := Int.emod_lt_of_pos (max nn 0) (b := (an : Int) + 1) (by omega); omega
                have hx2 : (max nn 0).tmod ((an : Int) + 1) = x := by rw [Int.tmod_eq_emod_of_nonneg (by omega)]; exact hx
                have han : (an : Int) ≤ 200 := by have := hlen.out; omega
                have HT : Hid _ := trv_go HTR.out (rg_of (x := x) ⟨hx0.1, by omega⟩)
                clear q9 HTR hx0
                go_wp2_with fail
                refine Calls.mono HT.out ?_
                rintro e w5 ⟨v5, err, rfl, tr⟩
                obtain ⟨da, dn, dc, rfl⟩ := tr.form
                have HX : Hid _ := tr
                clear HT tr
                go_wp2_with fail
                go_meet
                exact ⟨rfl, rfl, da, dn, dc, err, rfl, rfl, HX.out⟩
            · have d3 : (kd % 9 == 3) = false := beq_eq_false_iff_ne.2 (by omega)
              have d4 : (kd % 9 == 4) = false := beq_eq_false_iff_ne.2 (by omega)
              have d5 : (kd % 9 == 5) = false := beq_eq_false_iff_ne.2 (by omega)
              have d6 : (kd % 9 == 6) = false := beq_eq_false_iff_ne.2 (by omega)
              have d7 : (kd % 9 == 7) = false := beq_eq_false_iff_ne.2 (by omega)
              have d8 : (kd % 9 == 8) = false := beq_eq_false_iff_ne.2 (by omega)
              obtain ⟨A, hA, hAt⟩ : ∃ A : Nat, max nn 0 % ((tn : Int) + 1) = (A : Int) ∧ A ≤ tn := by
                have h1 := Int.emod_nonneg (max nn 0) (b := (tn : Int) + 1) (by omega)
                have h2 := Int.emod_lt_of_pos (max nn 0) (b := (tn : Int) + 1) (by omega)
                exact ⟨(max nn 0 % ((tn : Int) + 1)).toNat, by omega, by omega⟩
              have hA2 : (max nn 0).tmod ((tn : Int) + 1) = (A : Int) := by rw [Int.tmod_eq_emod_of_nonneg (by omega)]; exact hA
              obtain ⟨K, hK, hK2⟩ : ∃ K : Nat, min ((tn : Int) - (A : Int)) ((on : Int) % 3) = (K : Int) ∧ K ≤ 2 ∧ A + K ≤ tn := by
                have h1 := Int.emod_nonneg (on : Int) (b := 3) (by omega)
                have h2 := Int.emod_lt_of_pos (on : Int) (b := 3) (by omega)
                exact ⟨(min ((tn : Int) - (A : Int)) ((on : Int) % 3)).toNat, by omega, by omega, by omega⟩
              have hK3 : (on : Int).tmod 3 = (on : Int) % 3 := Int.tmod_eq_emod_of_nonneg (by omega)
              have htn : (tn : Int) ≤ 240050 := by have := hlen.out; omega
              have hon : on ≤ 9223372036854775807 := by have := HDA.out.form; obtain ⟨a3, c3, e3, q1, q2, _⟩ := this; unfold maxLen at q2; have := hlen.out; omega
              go_upto_region 17 with fail
              obtain ⟨sa, hsa⟩ : ∃ sa, (if tc = A then ta else ta.map (·.add A)) = sa := ⟨_, rfl⟩
              have HS : Hid (Sl (fun _ => True) (.slice sa (A + K - A) (tc - A)) (((T m.now).drop A).take K) wr ∧ ([] : List ByteArray).length + (((T m.now).drop A).take K).length = K) := by
                have h := HLP.out.tv.sl
                have hl := hlen.out.1
                have hc : tn ≤ tc := by
                  obtain ⟨a1, c1, e1, q1, _⟩ := h.form
                  simp only [Value.slice.injEq] at e1
                  omega
                refine ⟨?_, by rw [List.length_take, List.length_drop]; simp; omega⟩
                rw [show A + K - A = K by omega]
                exact h.sub (i := A) (by omega) (by omega) hsa.symm
              have HN0 : Hid (Row wr.heap.size (.slice none 0 0) [] wr) := row_nil0 _ _
              have htc : tn ≤ tc ∧ tc ≤ 9223372036854775807 := by
                obtain ⟨a1, c1, e1, q1, q2, _⟩ := HLP.out.tv.sl.form
                simp only [Value.slice.injEq] at e1
                unfold maxLen at q2
                have hl := hlen.out.1
                omega
              have hAc : A + K ≤ tc := by omega
              go_upto_region 18 with (at_builtin; refine wpl_str rfl (.tmp 79) (.tmp 85) rfl (v := .slice none 0 0) (K := K) rfl HN0.out rfl HS.out.1 HS.out.2 (by omega) (Nat.le_refl _) ?_; intro a1 e1 w1 _ _ q1 q2)
              have k1 : Kp wr w1 := kp_nil q2
              have H1 : Hid (Row wr.heap.size (.slice a1 K e1) (((T m.now).drop A).take K) w1 ∧ Kp wr w1) := ⟨by simpa using q1, k1⟩
              have c2w := kp_cell k1 c2
              clear q1 q2 HS HN0 hsa c0 c1 hA hA2 hK hK3
              by_cases z : on = 0
              · as_aux_lemma =>
                  subst z
                  have g5 : decide ((0 : Int) > 0) = false := by decide
                  have H2 : Hid (Row wr.heap.size (.slice a1 K e1) (((T m.now).drop A).take K) w1 ∧ Row wr.heap.size (.slice none 0 0) ([] : List ByteArray) w1 ∧ Kp wr w1) := ⟨H1.out.1, row_nil0 _ _, H1.out.2⟩
                  clear H1 k1
                  have HP : Hid (Row 0 (.slice a1 K e1) (((T m.now).drop A).take K) w1 ∧ Row 0 (.slice none 0 0) ([] : List ByteArray) w1 ∧ Kp wr w1 ∧ (([] : List ByteArray) : List ByteArray).length ≤ 2000) := ⟨row_lift H2.out.1 fun j _ => Nat.zero_le j, row_lift H2.out.2.1 fun j _ => Nat.zero_le j, H2.out.2.2, by simp⟩
                  have kA := kp_alloc w1 (.cells #[.int .i64 A, .slice a1 K e1, .slice none 0 0] 35)
                  have HKA : Hid (Kp wr (w1.alloc (.cells #[.int .i64 A, .slice a1 K e1, .slice none 0 0] 35))) := kp_trans HP.out.2.2.1 kA
                  have HDR : Hid (∀ z, Kp (w1.alloc (.cells #[.int .i64 A, .slice a1 K e1, .slice none 0 0] 35)) z → Dr (fun _ => True) (Row 0) (.slice (some ⟨w1.heap.size, 0, none⟩) 1 1) [⟨(A : Int), ((T m.now).drop A).take K, ([] : List ByteArray)⟩] z) := fun z kz => (Dr.one (d := ⟨(A : Int), ((T m.now).drop A).take K, ([] : List ByteArray)⟩) (row_kp HP.out.1 kA) (row_kp HP.out.2.1 kA) (Lc.new w1 [.int .i64 A, .slice a1 K e1, .slice none 0 0] 35)).kp (okRow 0 0) kz
                  have HAK : Hid (A + K ≤ (T m.now).length) := by have := hlen.out.1; show A + K ≤ (T m.now).length; omega
                  have HMD : Hid _ := made_any (w := w1.alloc (.cells #[.int .i64 A, .slice a1 K e1, .slice none 0 0] 35)) (HLP.out.tv.sl.kp HKA.out) (okRow _ 0) (HDR.out _ (Below.refl _ _)) (apps_one HAK.out) (by rw [wN_one]; have := HP.out.2.2.2; have := hlen.out.1; show (T m.now).length + (([] : List ByteArray) : List ByteArray).length ≤ 100000000; omega) (by simp)
                  clear kA H2
                  go_wp2_with fail
                  refine Calls.mono HMD.out ?_
                  rintro e w6 ⟨v6, rfl, hrow, k6⟩
                  obtain ⟨ra, rc, rfl, _⟩ := Row.form hrow
                  obtain ⟨rn, hrn⟩ : ∃ k, ((T m.now).take A ++ ([] : List ByteArray) ++ (T m.now).drop (A + K)).length = k := ⟨_, rfl⟩
                  have hrow2 : Row (w1.alloc (.cells #[.int .i64 A, .slice a1 K e1, .slice none 0 0] 35)).heap.size (.slice ra rn rc) ((T m.now).take A ++ ([] : List ByteArray) ++ (T m.now).drop (A + K)) w6 := by rw [← hrn]; exact hrow
                  have hrn2 : rn ≤ tn + 2000 := by have q1 := one_len (put := ([] : List ByteArray)) HAK.out; have q2 := HP.out.2.2.2; have q3 := hlen.out.1; omega
                  have k6' : Kp wr w6 := kp_trans HKA.out k6
                  have st6 := HLP.out.st.kp k6'
                  have hfew : Few 2000 [⟨(A : Int), ((T m.now).drop A).take K, ([] : List ByteArray)⟩] := few_one _ (by show (((T m.now).drop A).take K).length ≤ 2000; rw [List.length_take]; omega) HP.out.2.2.2
                  have HAD : Hid _ := add_any st6.tw st6.inw (by have := st6.nx; omega) st6.ln st6.mo st6.hB (okRow 0 0) (HDR.out _ k6) hfew
                  obtain ⟨nx, hnx⟩ : ∃ z, m.next = z := ⟨_, rfl⟩
                  have hnxa : nx = (an : Int) := by have := hlen.out.2.2.1; omega
                  have han2 : an ≤ 200 := by have := hlen.out.2.2.2.1; omega
                  have HFA : Hid (Row W.heap.size (.slice ra rn rc) ((T m.now).take A ++ ([] : List ByteArray) ++ (T m.now).drop (A + K)) w6 ∧ Kp wr w6 ∧ Few 2000 [⟨(A : Int), ((T m.now).drop A).take K, ([] : List ByteArray)⟩] ∧ m.next = nx ∧ ((T m.now).take A ++ ([] : List ByteArray) ++ (T m.now).drop (A + K)).length = rn ∧ W.heap.size ≤ w6.heap.size) := ⟨row_lift hrow2 fun j hj => Nat.le_trans (Nat.le_trans HLP.out.st.hB HKA.out.size) (hrow2.lt j hj).1, k6', hfew, hnx, hrn, st6.hB⟩
                  rw [hnx] at HAD
                  rw [hrn]
                  clear HMD hrow hrow2 k6 k6' st6 hfew hrn hnx HDR
                  go_wp2_with fail
                  refine Calls.mono HAD.out ?_
                  rintro e w7 ⟨rfl, t7, f7⟩
                  have HW7 : Hid (Tw W.heap.size w7.heap.size t (addE m [⟨(A : Int), ((T m.now).drop A).take K, ([] : List ByteArray)⟩]) w7 ∧ Ff TP W.heap.size w6 w7) := ⟨t7, f7⟩
                  have HROW : Hid ((w7.alloc (.cells #[.int .i64 nx, .slice ra rn rc] 57)).ownsRow W.heap.size 57 2 (.slice aa an ac) an (flatX 0 vs)) := by
                    have q := HLP.out.row
                    rw [hlen.out.2.1] at q
                    exact row_kp (row_ff (row_kp q HFA.out.2.1) f7 tp_ver) (kp_alloc _ _)
                  have HNEW : Hid (∀ j u, ([.int .i64 nx, .slice ra rn rc] : List Value)[j]? = some u → (w7.alloc (.cells #[.int .i64 nx, .slice ra rn rc] 57)).cell? ((⟨w7.heap.size, 0, none⟩ : Addr).add j) = some u) := fun j u hj => by rw [addr_add]; exact (Lc.new w7 [.int .i64 nx, .slice ra rn rc] 57).at hj
                  have HBW : Hid (W.heap.size ≤ (w7.alloc (.cells #[.int .i64 nx, .slice ra rn rc] 57)).heap.size) := by show _ ≤ _; rw [alloc_size]; have := f7.size; have := HFA.out.2.2.2.2.2; omega
                  have HPX : Hid (∀ v8 w8, w8.ownsRow W.heap.size 57 2 v8 (an + 1) (flatX 0 vs ++ [.int .i64 nx, .slice ra rn rc]) → (w7.alloc (.cells #[.int .i64 nx, .slice ra rn rc] 57)).grownBy w8 (Value.slice aa an ac).ownBlock → ∃ a8 c8, v8 = .slice a8 (an + 1) c8 ∧ Hid (∃ C m T vs, LpT W.heap.size C t (i + 1) m T vs (.slice ra rn rc) (.slice a8 (an + 1) c8) W w8)) := fun v8 w8 x1 x2 => by
                    obtain ⟨a8, c8, rfl, _, _⟩ := owns_form x1
                    refine ⟨a8, c8, rfl, _, _, _, _, HLP.out.added (by omega) HFA.out.2.1 HFA.out.1 (apps_one HAK.out) ⟨by simp, fun d hd => ?_⟩ HFA.out.2.2.1 ?_ HW7.out.1 HW7.out.2 (by rw [HFA.out.2.2.2.1, hlen.out.2.1]; exact x1) (by rw [HFA.out.2.2.2.1]; exact x2)⟩
                    · simp only [List.mem_singleton] at hd
                      subst hd
                      exact ⟨by show (((T m.now).drop A).take K).length ≤ 2; rw [List.length_take]; omega, HP.out.2.2.2⟩
                    · rw [HFA.out.2.2.2.2.1]; have := hlen.out; omega
                  obtain ⟨i9, hi9, z0, z1, z2⟩ := info_parts infoVer
                  clear HAD t7 f7 HP HKA HAK hrn2 hnxa
                  go_wp2_with (at_builtin; refine wpList_append_own _ rfl (.tmp 115) (.tmp 121) 58 rfl W.heap.size 57 i9 _ 2 32 Try.underlying58 hi9 z0 z1 z2 rfl (by decide) (.slice aa an ac) an (flatX 0 vs) rfl HROW.out ⟨w7.heap.size, 0, none⟩ 1 1 [.int .i64 nx, .slice ra rn rc] rfl rfl HNEW.out (by simp [Value.oneCell']) (by unfold maxLen; omega) (by omega) HBW.out ?_; intro v8 w8 x1 x2 _; obtain ⟨a8, c8, rfl, H8⟩ := HPX.out v8 w8 x1 x2; clear x1 x2)
                  go_roundw
                  case rel => exact ⟨i + 1, ra, a8, rn, an + 1, rc, c8, by omega, rfl, rfl, by go_num, H8.out⟩
                  case measure => simp only [intOf]; omega
              · as_aux_lemma =>
                  have g5 : decide ((on : Int) > 0) = true := decide_eq_true (by omega)
                  have g6 : decide ((0 : Int) < (on : Int)) = true := decide_eq_true (by omega)
                  have g7 : decide (0 < on) = true := decide_eq_true (by omega)
                  obtain ⟨d0, hd0⟩ : ∃ d, o.ds[0]? = some d := ⟨_, List.getElem?_eq_getElem (by have := hlen.out; omega)⟩
                  obtain ⟨og, oo, ox, oy, rfl, _, _, _, cy, _, hy⟩ := HDA.out.at_ hd0
                  rw [Nat.zero_mul, Nat.add_zero] at cy
                  obtain ⟨ya, yc, rfl, _⟩ := hy.form
                  have hnw : d0.nw.length ≤ 2000 := HNL.out d0 (List.mem_of_getElem? hd0)
                  obtain ⟨P, hP⟩ : ∃ P, d0.nw.length = P := ⟨_, rfl⟩
                  have HY : Hid (Sl (fun k => k < W.heap.size) (.slice ya P yc) d0.nw w1 ∧ ([] : List ByteArray).length + d0.nw.length = P) := ⟨by rw [← hP]; exact hy.kp k1, by rw [← hP]; simp⟩
                  have cyw := kp_cell k1 cy
                  have HN1 : Hid (Row wr.heap.size (.slice none 0 0) [] w1 ∧ wr.heap.size ≤ w1.heap.size) := ⟨row_nil0 _ _, k1.size⟩
                  have HPP : Hid (d0.nw.length = P) := hP
                  rw [hP] at cyw hnw
                  clear hd0 hy cy k1 hP
                  go_upto_region 20 with (at_builtin; refine wpl_str rfl (.tmp 94) (.tmp 102) rfl (v := .slice none 0 0) (K := P) rfl HN1.out.1 rfl HY.out.1 HY.out.2 (by omega) HN1.out.2 ?_; intro a2 e2 w2 _ _ q1 q2)
                  have H2 : Hid (Row wr.heap.size (.slice a1 K e1) (((T m.now).drop A).take K) w2 ∧ Row wr.heap.size (.slice a2 P e2) d0.nw w2 ∧ Kp wr w2) := ⟨row_kp H1.out.1 (kp_nil q2), by simpa using q1, kp_trans H1.out.2 (kp_nil q2)⟩
                  clear q1 q2 H1 HY HN1 c2w cyw
                  have HP : Hid (Row 0 (.slice a1 K e1) (((T m.now).drop A).take K) w2 ∧ Row 0 (.slice a2 P e2) d0.nw w2 ∧ Kp wr w2 ∧ (d0.nw : List ByteArray).length ≤ 2000) := ⟨row_lift H2.out.1 fun j _ => Nat.zero_le j, row_lift H2.out.2.1 fun j _ => Nat.zero_le j, H2.out.2.2, by rw [HPP.out]; omega⟩
                  have kA := kp_alloc w2 (.cells #[.int .i64 A, .slice a1 K e1, .slice a2 P e2] 35)
                  have HKA : Hid (Kp wr (w2.alloc (.cells #[.int .i64 A, .slice a1 K e1, .slice a2 P e2] 35))) := kp_trans HP.out.2.2.1 kA
                  have HDR : Hid (∀ z, Kp (w2.alloc (.cells #[.int .i64 A, .slice a1 K e1, .slice a2 P e2] 35)) z → Dr (fun _ => True) (Row 0) (.slice (some ⟨w2.heap.size, 0, none⟩) 1 1) [⟨(A : Int), ((T m.now).drop A).take K, d0.nw⟩] z) := fun z kz => (Dr.one (d := ⟨(A : Int), ((T m.now).drop A).take K, d0.nw⟩) (row_kp HP.out.1 kA) (row_kp HP.out.2.1 kA) (Lc.new w2 [.int .i64 A, .slice a1 K e1, .slice a2 P e2] 35)).kp (okRow 0 0) kz
                  have HAK : Hid (A + K ≤ (T m.now).length) := by have := hlen.out.1; show A + K ≤ (T m.now).length; omega
                  have HMD : Hid _ := made_any (w := w2.alloc (.cells #[.int .i64 A, .slice a1 K e1, .slice a2 P e2] 35)) (HLP.out.tv.sl.kp HKA.out) (okRow _ 0) (HDR.out _ (Below.refl _ _)) (apps_one HAK.out) (by rw [wN_one]; have := HP.out.2.2.2; have := hlen.out.1; show (T m.now).length + (d0.nw : List ByteArray).length ≤ 100000000; omega) (by simp)
                  clear kA H2
                  go_wp2_with fail
                  refine Calls.mono HMD.out ?_
                  rintro e w6 ⟨v6, rfl, hrow, k6⟩
                  obtain ⟨ra, rc, rfl, _⟩ := Row.form hrow
                  obtain ⟨rn, hrn⟩ : ∃ k, ((T m.now).take A ++ d0.nw ++ (T m.now).drop (A + K)).length = k := ⟨_, rfl⟩
                  have hrow2 : Row (w2.alloc (.cells #[.int .i64 A, .slice a1 K e1, .slice a2 P e2] 35)).heap.size (.slice ra rn rc) ((T m.now).take A ++ d0.nw ++ (T m.now).drop (A + K)) w6 := by rw [← hrn]; exact hrow
                  have hrn2 : rn ≤ tn + 2000 := by have q1 := one_len (put := d0.nw) HAK.out; have q2 := HP.out.2.2.2; have q3 := hlen.out.1; omega
                  have k6' : Kp wr w6 := kp_trans HKA.out k6
                  have st6 := HLP.out.st.kp k6'
                  have hfew : Few 2000 [⟨(A : Int), ((T m.now).drop A).take K, d0.nw⟩] := few_one _ (by show (((T m.now).drop A).take K).length ≤ 2000; rw [List.length_take]; omega) HP.out.2.2.2
                  have HAD : Hid _ := add_any st6.tw st6.inw (by have := st6.nx; omega) st6.ln st6.mo st6.hB (okRow 0 0) (HDR.out _ k6) hfew
                  obtain ⟨nx, hnx⟩ : ∃ z, m.next = z := ⟨_, rfl⟩
                  have hnxa : nx = (an : Int) := by have := hlen.out.2.2.1; omega
                  have han2 : an ≤ 200 := by have := hlen.out.2.2.2.1; omega
                  have HFA : Hid (Row W.heap.size (.slice ra rn rc) ((T m.now).take A ++ d0.nw ++ (T m.now).drop (A + K)) w6 ∧ Kp wr w6 ∧ Few 2000 [⟨(A : Int), ((T m.now).drop A).take K, d0.nw⟩] ∧ m.next = nx ∧ ((T m.now).take A ++ d0.nw ++ (T m.now).drop (A + K)).length = rn ∧ W.heap.size ≤ w6.heap.size) := ⟨row_lift hrow2 fun j hj => Nat.le_trans (Nat.le_trans HLP.out.st.hB HKA.out.size) (hrow2.lt j hj).1, k6', hfew, hnx, hrn, st6.hB⟩
                  rw [hnx] at HAD
                  rw [hrn]
                  clear HMD hrow hrow2 k6 k6' st6 hfew hrn hnx HDR
                  go_wp2_with fail
                  refine Calls.mono HAD.out ?_
                  rintro e w7 ⟨rfl, t7, f7⟩
                  have HW7 : Hid (Tw W.heap.size w7.heap.size t (addE m [⟨(A : Int), ((T m.now).drop A).take K, d0.nw⟩]) w7 ∧ Ff TP W.heap.size w6 w7) := ⟨t7, f7⟩
                  have HROW : Hid ((w7.alloc (.cells #[.int .i64 nx, .slice ra rn rc] 57)).ownsRow W.heap.size 57 2 (.slice aa an ac) an (flatX 0 vs)) := by
                    have q := HLP.out.row
                    rw [hlen.out.2.1] at q
                    exact row_kp (row_ff (row_kp q HFA.out.2.1) f7 tp_ver) (kp_alloc _ _)
                  have HNEW : Hid (∀ j u, ([.int .i64 nx, .slice ra rn rc] : List Value)[j]? = some u → (w7.alloc (.cells #[.int .i64 nx, .slice ra rn rc] 57)).cell? ((⟨w7.heap.size, 0, none⟩ : Addr).add j) = some u) := fun j u hj => by rw [addr_add]; exact (Lc.new w7 [.int .i64 nx, .slice ra rn rc] 57).at hj
                  have HBW : Hid (W.heap.size ≤ (w7.alloc (.cells #[.int .i64 nx, .slice ra rn rc] 57)).heap.size) := by show _ ≤ _; rw [alloc_size]; have := f7.size; have := HFA.out.2.2.2.2.2; omega
                  have HPX : Hid (∀ v8 w8, w8.ownsRow W.heap.size 57 2 v8 (an + 1) (flatX 0 vs ++ [.int .i64 nx, .slice ra rn rc]) → (w7.alloc (.cells #[.int .i64 nx, .slice ra rn rc] 57)).grownBy w8 (Value.slice aa an ac).ownBlock → ∃ a8 c8, v8 = .slice a8 (an + 1) c8 ∧ Hid (∃ C m T vs, LpT W.heap.size C t (i + 1) m T vs (.slice ra rn rc) (.slice a8 (an + 1) c8) W w8)) := fun v8 w8 x1 x2 => by
                    obtain ⟨a8, c8, rfl, _, _⟩ := owns_form x1
                    refine ⟨a8, c8, rfl, _, _, _, _, HLP.out.added (by omega) HFA.out.2.1 HFA.out.1 (apps_one HAK.out) ⟨by simp, fun d hd => ?_⟩ HFA.out.2.2.1 ?_ HW7.out.1 HW7.out.2 (by rw [HFA.out.2.2.2.1, hlen.out.2.1]; exact x1) (by rw [HFA.out.2.2.2.1]; exact x2)⟩
                    · simp only [List.mem_singleton] at hd
                      subst hd
                      exact ⟨by show (((T m.now).drop A).take K).length ≤ 2; rw [List.length_take]; omega, HP.out.2.2.2⟩
                    · rw [HFA.out.2.2.2.2.1]; have := hlen.out; omega
                  obtain ⟨i9, hi9, z0, z1, z2⟩ := info_parts infoVer
                  clear HAD t7 f7 HP HKA HAK hrn2 hnxa
                  go_wp2_with (at_builtin; refine wpList_append_own _ rfl (.tmp 115) (.tmp 121) 58 rfl W.heap.size 57 i9 _ 2 32 Try.underlying58 hi9 z0 z1 z2 rfl (by decide) (.slice aa an ac) an (flatX 0 vs) rfl HROW.out ⟨w7.heap.size, 0, none⟩ 1 1 [.int .i64 nx, .slice ra rn rc] rfl rfl HNEW.out (by simp [Value.oneCell']) (by unfold maxLen; omega) (by omega) HBW.out ?_; intro v8 w8 x1 x2 _; obtain ⟨a8, c8, rfl, H8⟩ := HPX.out v8 w8 x1 x2; clear x1 x2)
                  go_roundw
                  case rel => exact ⟨i + 1, ra, a8, rn, an + 1, rc, c8, by omega, rfl, rfl, by go_num, H8.out⟩
                  case measure => simp only [intOf]; omega
          case rest =>
            obtain ⟨wo, rfl⟩ : ∃ z, z = wr := ⟨_, rfl⟩
            obtain ⟨rfl, rfl, da, dn, dc, err, rfl, rfl, HX⟩ := hcut
            have hnr0 : True := trivial
            clear HTR HDA HFw HNL c0 c1 c2 hnr hk0
            obtain ⟨he0, he1, hff, hor⟩ := HX.out
            rcases hor with ⟨hne, hv, hst⟩ | ⟨rfl, ds, m', hdw, hst, hap, hnx, hmo, hwn, hdl⟩
            · as_aux_lemma =>
                cases hv
                have b1 : (err != 0) = true := by simpa using hne
                have HN : Hid (∃ C m T vs, LpT W.heap.size C t (i + 1) m T vs (.slice ta tn tc) (.slice aa an ac) W wc) := ⟨C, m, T, vs, (HLP.out.trv hff hst rfl _ (HLP.out.tv.ff hff)).up⟩
                clear HX hst hff HLP hlen hne
                go_wp2_with fail
                go_roundw
                case rel => exact ⟨i + 1, ta, aa, tn, an, tc, ac, by omega, rfl, rfl, by go_num, HN.out⟩
                case measure => simp only [intOf]; omega
            · as_aux_lemma =>
                obtain ⟨kn, hkn, hka⟩ : ∃ kn : Nat, m'.now = (kn : Int) ∧ kn < an := by
                  obtain ⟨s, hs⟩ := Option.ne_none_iff_exists'.1 hst.inw.inv.nw
                  obtain ⟨_, _, q1, q2⟩ := hst.inw.inv.fam.fr _ s hs
                  have := hlen.out
                  exact ⟨m'.now.toNat, by omega, by omega⟩
                have hanb : an ≤ 200 := by have := hlen.out; omega
                have HMD : Hid _ := made_any (HLP.out.tv.ff hff).sl (okRow _ 0) hdw.dr hap (by have := HLP.out.bd m.now; have := hlen.out; omega) (by omega)
                have HKP : Hid (Ff TP W.heap.size wo wc ∧ StT W.heap.size C t m' T wc ∧ m'.next = m.next ∧ W.heap.size ≤ wc.heap.size) := ⟨hff, hst, hnx, hst.hB⟩
                clear HX hst hff hap hdw hmo hwn hdl hnx
                go_wp2_with fail
                refine Calls.mono HMD.out ?_
                rintro e w6 ⟨v6, rfl, hrow, k6⟩
                obtain ⟨ra, rc, rfl, _⟩ := Row.form hrow
                have lp' := HLP.out.made HKP.out.1 HKP.out.2.1 HKP.out.2.2.1 k6 hrow HKP.out.2.2.2
                obtain ⟨rn, hrn⟩ : ∃ k, (T m'.now).length = k := ⟨_, rfl⟩
                rw [hrn] at lp' hrow ⊢
                have HSR : Hid (Sl (fun _ => True) (.slice ra rn rc) (T m'.now) w6) := (Row.sl hrow).mono fun _ _ _ => trivial
                have HNW : Hid (∀ z, Kp w6 z → Calls Try.prog 14 #[.pointer (some ⟨t, 0, none⟩)] z fun e w' => e = .returned (.int .i64 kn) ∧ w' = z) := fun z kz => by have := now_any ((HKP.out.2.1.kp (kp_trans k6 kz)).tw); rw [hkn] at this; exact this
                have HL6 : Hid (LpT W.heap.size C t (i + 1) m' T vs (.slice ra rn rc) (.slice aa an ac) W w6) := lp'
                have HKN : Hid (m'.now = (kn : Int)) := hkn
                have HVL : Hid (vs.length = an) := hlen.out.2.1
                clear HMD HKP hrow k6 lp' HLP hlen hkn hrn
                go_wp2_with fail
                go_loopw [20, 21] (fun v20 v21 wr => ∃ (k q : Nat), k ≤ an ∧ v20 = .bool (decide (kn < k)) ∧ v21 = .int .i64 k ∧ wr = w6.drewN q) (fun _ v21 _ => an - (intOf v21).toNat)
                case atStart => exact ⟨0, 0, Nat.zero_le _, rfl, rfl, rfl⟩
                case round =>
                  obtain ⟨k, qk, hk, rfl, rfl, rfl⟩ := hrel
                  by_cases p : k < an
                  · have g3 : decide ((k : Int) < (an : Int)) = true := decide_eq_true (by omega)
                    have g4 : decide (k < an) = true := decide_eq_true p
                    have hkI : (k : Int) < (an : Int) := by omega
                    obtain ⟨u, hu⟩ : ∃ u, vs[k]? = some u := ⟨_, List.getElem?_eq_getElem (by rw [HVL.out]; exact p)⟩
                    have hrw := HL6.out.row
                    rw [HVL.out] at hrw
                    obtain ⟨ga, oa', e, x0, x1⟩ := ver_cells (vs := vs) (by rw [HVL.out]; exact hrw) hu
                    obtain ⟨ua, uc, e2, _⟩ := (HL6.out.vs_ k u hu).form
                    obtain ⟨un, hun⟩ : ∃ x, (T (k : Int)).length = x := ⟨_, rfl⟩
                    rw [hun] at e2
                    have HU : Hid (Sl (fun _ => True) (.slice ua un uc) (T (k : Int)) w6) := by rw [← e2]; exact (HL6.out.vs_ k u hu).sl
                    rw [e2] at x1
                    cases e
                    clear hu hrw e2 hun
                    by_cases q8 : k = kn
                    · have b9 : ((k : Int) == (kn : Int)) = true := by rw [q8]; exact beq_self_eq_true _
                      have HSM : Hid (∀ a n, Calls Try.prog 30 #[.slice ua un uc, .slice ra rn rc] (w6.drewN (a + n)) fun e w'' => e = .returned (.bool true) ∧ ∃ m, w'' = w6.drewN (a + m)) := fun a n => same_quiet (HU.out) (by rw [q8, ← HKN.out]; exact HSR.out) a n
                      have HNX : Hid (true = decide (kn < k + 1)) := (decide_eq_true (by omega)).symm
                      clear q8 HU
                      go_upto_region 45 with fail
                      go_quiet ((go_at_call 14; exact quiet_plus (HNW.out _ (kp_drewN _ _))))
                      go_wp2_with fail
                      refine Calls.mono (HSM.out _ _) ?_
                      rintro e w9 ⟨rfl, q9, rfl⟩
                      go_wp2_with fail
                      go_roundw
                      case rel => exact ⟨k + 1, _, by omega, by rw [← HNX.out], by go_num, by first | exact drew2 _ _ _ | rfl⟩
                      case measure => simp only [intOf]; omega
                    · have b9 : ((k : Int) == (kn : Int)) = false := beq_eq_false_iff_ne.2 (fun e => q8 (by omega))
                      have HNX : Hid (decide (kn < k) = decide (kn < k + 1)) := decide_eq_decide.2 (by omega)
                      clear q8 HU
                      generalize decide (kn < k) = fd at HNX ⊢
                      go_upto_region 45 with fail
                      go_quiet ((go_at_call 14; exact quiet_plus (HNW.out _ (kp_drewN _ _))))
                      go_wp2_with fail
                      go_roundw
                      case rel => exact ⟨k + 1, _, by omega, by rw [← HNX.out], by go_num, by first | exact drew2 _ _ _ | rfl⟩
                      case measure => simp only [intOf]; omega
                  · obtain rfl : k = an := by omega
                    have g3 : decide ((k : Int) < (k : Int)) = false := by simp
                    have g5 : decide (kn < k) = true := decide_eq_true hka
                    have HN : Hid (∃ C m T vs, LpT W.heap.size C t (i + 1) m T vs (.slice ra rn rc) (.slice aa k ac) W (w6.drewN qk)) := ⟨C, m', T, vs, HL6.out.kp (kp_drewN _ _)⟩
                    clear HL6 HNW HSR HKN HVL
                    go_wp2_with fail
                    go_roundw
                    case rel => exact ⟨i + 1, ra, aa, rn, k, rc, ac, by omega, rfl, rfl, by go_num, HN.out⟩
                    case measure => simp only [intOf]; omega
        · obtain rfl : i = N := by omega
          have g1 : decide ((i : Int) < (i : Int)) = false := by simp
          have HX : Hid (Below W.heap.size W wr) := by obtain ⟨C, m, T, vs, lp⟩ := HI.out; exact lp.bl
          clear HI
          go_wp2_with fail
          go_ret
          exact ⟨rfl, HX.out⟩
end Go.Proofs.Ytbkhhgaihhbhjaa
/- UndoTexts: lines that are handed in; the walk as the law's frame asks for it. -/
namespace Go.Proofs.Ytbkhhgaihhbhjaa
open Go.ChangeShapes Go.WideShapes Go.ChangeAt Go.RowKit
set_option linter.unusedVariables false
set_option maxRecDepth 100000
theorem strs_form {H : Type} {enc : TypeId × Value → H} {W : World} {base : Nat} {v : Value} {d : DataW H} {p : List MemPlace} (hval : Value.okWide Try.prog W .any base 33 v) (h : DataW.Trod enc Try.prog W 0 (fun _ => true) true 33 v d p) :
    ∃ ls, Sl (fun k => k < W.heap.size) v ls W ∧ ls.length + 1 ≤ Rows.uptoBulk d := by
  obtain ⟨a0, len0, cap0, rfl⟩ := okWide_slice Try.underlying33 hval
  obtain ⟨fuel, hf⟩ := h
  obtain ⟨ls, h1, h2⟩ := lines_cells hf
  exact ⟨ls, h1.mono fun k hk _ => hk, h2⟩
theorem texts_law (n : Nat) (h : n < 256) {v fv : Value} {l : List Op12} {fs : List ByteArray} {W : World} (hF : Sl (fun k => k < W.heap.size) fv fs W) (hfw : fs.length + 1 ≤ 1048576) (hL : OpL W.heap.size v l W) (hok : ∀ o ∈ l, o.kd < 256 ∧ -9223372036854775808 ≤ o.n ∧ o.n < 9223372036854775808) (hw : wO l ≤ 1048576) :
    Calls Try.prog 8 #[.int .u8 n, fv, v] W fun e w' => e = .returned (.bool true) ∧ Below W.heap.size W w' := texts_walk (by omega) (by omega) hF hL hok hw
end Go.Proofs.Ytbkhhgaihhbhjaa
