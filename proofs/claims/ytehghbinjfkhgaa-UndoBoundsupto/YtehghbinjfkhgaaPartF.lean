/- Texts that the proof of the law stands on: HI, HJ, ZP, HK, HL, ZR, HM, HN, HO, HP, HQ. -/
import Derived.Test.YtehghbinjfkhgaaPartE
import Derived.Lib.MinMax
import Derived.Test.YtehghbinjfkhgaaPartB
import Derived.Test.YtehghbinjfkhgaaPartD
/- newest, bare: what a range over all states gathers. -/
namespace Go.Proofs.Ytehghbinjfkhgaa
open Go.ChangeShapes Go.WideShapes Go.ChangeAt Go.RowKit Go.Maps Go.MapKept
set_option linter.unusedVariables false
set_option linter.unusedSimpArgs false
set_option maxRecDepth 100000
/-- The greatest of those that came by. -/
def Nst (L : List St) (left : Int → Bool) (fr f : Int) : Prop := (∀ y s, look L y = some s → left y = false → s.fr = fr → y ≤ f) ∧ (f = -1 ∨ ∃ s, look L f = some s ∧ s.fr = fr)
/-- From this one none was made, and it is not the one that is. -/
def Bare (m : Tr) (y : Int) : Prop := ∃ s, look m.L y = some s ∧ s.on = -1 ∧ y ≠ m.now
section
variable {B C t b : Nat} {q : Int → Nat} {m : Tr} {w w1 : World} {next : Int}
theorem Nst.end_ {L : List St} {left : Int → Bool} {fr f : Int} (h : Nst L left fr f) (hl : ∀ x, left x = false) (hs : (L.map St.seq).Pairwise (· < ·)) (F : ∀ y s, look L y = some s → 0 ≤ y) : f = newest L fr := by
  rcases newest_cases hs fr with ⟨e, h1⟩ | ⟨s, h1, h2, h3⟩
  · rw [e]
    rcases h.2 with q | ⟨s, q1, q2⟩
    · exact q
    · exact absurd q2 (h1 _ _ q1)
  · have g1 := h.1 _ _ h1 (hl _) h2
    have g2 := F _ _ h1
    rcases h.2 with q | ⟨s', q1, q2⟩
    · omega
    · have := h3 _ _ q1 q2; omega
theorem Nst.start (L : List St) {left : Int → Bool} (fr : Int) (hl : ∀ y, look L y ≠ none → left y = true) : Nst L left fr (-1) := ⟨fun y s h q _ => absurd q (by rw [hl y (by rw [h]; simp)]; simp), .inl rfl⟩
theorem Nst.step {L : List St} {left : Int → Bool} {fr f y : Int} {s : St} (h : Nst L left fr f) (hy : look L y = some s) :
    Nst L (fun z => left z && !decide (z = y)) fr (if s.fr = fr then max f y else f) := by
  constructor
  · intro z u hz hl hf
    simp only [Bool.and_eq_false_iff, Bool.not_eq_false', decide_eq_true_eq] at hl
    rcases hl with q | rfl
    · have := h.1 z u hz q hf
      split <;> omega
    · rw [hy] at hz; cases hz
      rw [if_pos hf]; omega
  · split
    · rename_i e
      rcases Int.le_total f y with p | p
      · rw [Int.max_eq_right p]; exact .inr ⟨s, hy, e⟩
      · rw [Int.max_eq_left p]; exact h.2
    · exact h.2
theorem ptr_some {L : List St} {q : Int → Nat} {y : Int} {v : Value} (h : ptrs L q y = some v) : ∃ s, look L y = some s ∧ v = .pointer (some ⟨q y, 0, none⟩) := by
  unfold ptrs at h
  obtain ⟨s, h1, h2⟩ := Option.map_eq_some_iff.1 h
  exact ⟨s, h1, h2.symm⟩
set_option maxHeartbeats 16000000 in
theorem newest_any (h : Tw B C t m w) (F : ∀ y s, look m.L y = some s → 0 ≤ y) (hs : (m.L.map St.seq).Pairwise (· < ·)) (fr : Int) :
    Calls Try.prog 66 #[.pointer (some ⟨t, 0, none⟩), .int .i64 fr] w fun e w' => e = .returned (.int .i64 (newest m.L fr)) ∧ Kp w w' := by
  obtain ⟨b, q, h⟩ := h
  have c0 := h.box.at (j := 0) rfl
  have hm := h.map
  have HH : Hid (Tb B C t b q m w ∧ (∀ y s, look m.L y = some s → 0 ≤ y) ∧ (m.L.map St.seq).Pairwise (· < ·)) := ⟨h, F, hs⟩
  clear h F hs
  go_enter Try.func66, Try.ntmps66
  go_wp2_with (first | (at_range; refine wpl_range rfl _ 70 67 rfl Try.underlying70 rfl hm ?_; intro w0 n0 hr0 hk0 hs0) | go_in)
  go_frame
  have G0 : Hid (Rgg b w.heap.size (ptrs m.L q) (fun x => (ptrs m.L q x).isSome) n0 w0 ∧ Kp w w0) := ⟨hr0, hk0⟩
  clear hr0 hk0 hs0 c0 hm
  go_loopw [5] (fun v5 wr => ∃ (f : Int) (left : Int → Bool) (c : Nat), v5 = .int .i64 f ∧ Hid (Rgg b w.heap.size (ptrs m.L q) left c wr ∧ Kp w wr ∧ Nst m.L left fr f)) (fun _ wr => wr.rangeLeft b w.heap.size)
  case atStart =>
    refine ⟨-1, _, n0, rfl, G0.out.1, G0.out.2, Nst.start _ _ fun y hy => ?_⟩
    obtain ⟨s, hs⟩ := Option.ne_none_iff_exists'.1 hy
    unfold ptrs; rw [hs]; rfl
  case round =>
    obtain ⟨f, left, c, rfl, HG⟩ := hrel
    clear G0
    have hrg := HG.out.1
    go_wp2_with (first | (at_next; refine wpl_next rfl _ rfl rfl hrg ?_ ?_) | go_in)
    · intro hl
      have HE : Hid (newest m.L fr = f ∧ Kp w wr) := ⟨(HG.out.2.2.end_ hl HH.out.2.2 HH.out.2.1).symm, HG.out.2.1⟩
      clear hl hrg HG
      go_wp2
      go_ret
      exact ⟨by rw [HE.out.1]; rfl, HE.out.2⟩
    · intro y v w2 c2 y0 y1 hly hy hr2 hlt2 hf2 hs2 hen
      obtain ⟨s, hls, rfl⟩ := ptr_some hy
      have k2 : Kp w w2 := HG.out.2.1.trans (hf2.below HG.out.2.1.size fun k hk e => by unfold On at e; omega)
      obtain ⟨hp, u, hb, _⟩ := HH.out.1.st y s hls
      have p0 := (hb.kp k2).at (j := 0) rfl
      have HN : Hid (Rgg b w.heap.size (ptrs m.L q) (fun z => left z && !decide (z = y)) c2 w2 ∧ Kp w w2 ∧ Nst m.L (fun z => left z && !decide (z = y)) fr (if s.fr = fr then max f y else f)) := ⟨hr2, k2, HG.out.2.2.step hls⟩
      have HME : Hid (w2.rangeLeft b w.heap.size < wr.rangeLeft b w.heap.size) := by rw [hr2.left_eq, hrg.left_eq]; exact hlt2
      clear hrg HG hly hy hr2 hlt2 hf2 hs2 hls hb hp k2
      by_cases e : s.fr = fr
      · have d1 : (s.fr == fr) = true := by simpa using e
        rw [if_pos e] at HN
        clear e
        go_wp2_with fail
        go_roundw
        case rel => exact ⟨max f y, _, c2, rfl, HN.out⟩
        case measure => exact HME.out
      · have d1 : (s.fr == fr) = false := by simpa using e
        rw [if_neg e] at HN
        clear e
        go_wp2_with fail
        go_roundw
        case rel => exact ⟨f, _, c2, rfl, HN.out⟩
        case measure => exact HME.out
end
end Go.Proofs.Ytehghbinjfkhgaa
/- bare: a heap of those that may go. -/
namespace Go.Proofs.Ytehghbinjfkhgaa
open Go.ChangeShapes Go.WideShapes Go.ChangeAt Go.RowKit Go.Maps Go.MapKept
set_option linter.unusedVariables false
set_option linter.unusedSimpArgs false
set_option maxRecDepth 100000
theorem Rgg.ff {b r c : Nat} {f : Int → Option Value} {left : Int → Bool} {w w1 : World} {D : Nat} (h : Rgg b r f left c w) (k : Ff TH D w w1) : Rgg b r f left c w1 := by
  have h0 := h
  obtain ⟨es, cl, s, q, c0, hb, _, _, hr, _⟩ := h0
  exact h.heap ((k.keep hb (fun e => e.elim)).trans hb.symm) ((k.keep hr (fun e => e.elim)).trans hr.symm)
/-- While they are gathered. -/
def Brg (m : Tr) (b r h D : Nat) (f : Int → Option Value) (left : Int → Bool) (c : Nat) (w wr : World) : Prop :=
  ∃ l ss, Rgg b r f left c wr ∧ Hw D h l wr ∧ Hmin l ∧ Cld f left ss ∧ l.length ≤ ss.length ∧ (∀ y, y ∈ l ↔ Bare m y ∧ left y = false) ∧ Kp w wr ∧ D ≤ wr.heap.size
section
variable {B C t b r : Nat} {q : Int → Nat} {m : Tr} {w w1 : World} {next : Int}
theorem box_ne {h : Nat} {l : List Int} {f : Int → Option Value} {left : Int → Bool} {c D : Nat} (hw : Hw D h l w) (hr : Rgg b r f left c w) : ∀ j cur e fr, On r j → w.heap[j]? = some (.cells cur e fr) → e ≠ 98 ∧ e ≠ 3 := fun j cur e fr ho hj => by
  unfold On at ho; subst ho
  obtain ⟨es, cl, s, q, c0, hb, _, _, hr, _⟩ := hr
  rw [hr] at hj; cases hj
theorem Hw.fr {D h : Nat} {l : List Int} {S : Nat → Prop} (hw : Hw D h l w) (k : Fr S w w1) (hS : ∀ j cur e fr, S j → w.heap[j]? = some (.cells cur e fr) → e ≠ 98 ∧ e ≠ 3) : Hw D h l w1 := by
  obtain ⟨v, hq⟩ := hw; exact ⟨v, hq.fr k hS⟩
set_option maxHeartbeats 16000000 in
theorem bare_any (h : Tw B C t m w) (F : Fam m.L m.next) (hn : m.next ≤ 10000) (hl : m.L.length ≤ 250) :
    Calls Try.prog 52 #[.pointer (some ⟨t, 0, none⟩)] w fun e w' => ∃ h l, e = .returned (.pointer (some ⟨h, 0, none⟩)) ∧ Hw w.heap.size h l w' ∧ Hmin l ∧ l.length ≤ 250 ∧ (∀ y, y ∈ l ↔ Bare m y) ∧ Kp w w' := by
  obtain ⟨b, q, h⟩ := h
  have HKF : Hid (Kfew (ptrs m.L q)) := kfew_of hl
  obtain ⟨W0, hW0⟩ : ∃ W0, w.alloc (.cells #[.slice none 0 0] 98) = W0 := ⟨_, rfl⟩
  have k0 : Kp w W0 := by rw [← hW0]; exact kp_alloc _ _
  have hw0 : Hw w.heap.size w.heap.size [] W0 := by rw [← hW0]; exact ⟨.slice none 0 0, Nat.le_refl _, Lc.new w [.slice none 0 0] 98, World.ownsRow_nil _ _ _ _⟩
  have hz0 : W0.heap.size = w.heap.size + 1 := by rw [← hW0]; exact alloc_size _ _
  have c0 := (h.kp k0).box.at (j := 0) rfl
  have hm := (h.kp k0).map
  have HH : Hid (Tb B C t b q m w ∧ Fam m.L m.next ∧ m.next ≤ 10000 ∧ Hw w.heap.size w.heap.size [] W0 ∧ Kp w W0 ∧ W0.heap.size = w.heap.size + 1) := ⟨h, F, hn, hw0, k0, hz0⟩
  have HW : Hid (_ = W0) := hW0
  clear h F hn hl k0 hw0 hz0 hW0
  go_enter Try.func52, Try.ntmps52
  go_upto_region 2 with fail
  rw [HW.out]
  go_wp2_with (first | (at_range; refine wpl_range rfl _ 70 67 rfl Try.underlying70 rfl hm ?_; intro w0 n0 hr0 hk0 hs0) | go_in)
  go_frame
  have G0 : Hid (Brg m b W0.heap.size w.heap.size w.heap.size (ptrs m.L q) (fun x => (ptrs m.L q x).isSome) n0 w w0) := by
    refine ⟨[], [], hr0, HH.out.2.2.2.1.kp hk0, (fun m hm => by cases hm), Cld.start _, Nat.le_refl _, fun y => ⟨(fun h => by cases h), fun h => ?_⟩, kp_trans HH.out.2.2.2.2.1 hk0, Nat.le_trans HH.out.2.2.2.2.1.size hk0.size⟩
    obtain ⟨⟨s, h1, _⟩, h2⟩ := h
    have h3 : (ptrs m.L q y).isSome = false := h2
    unfold ptrs at h3; rw [h1] at h3; cases h3
  have hrs : W0.heap.size = w.heap.size + 1 := HH.out.2.2.2.2.2
  rw [hrs] at G0 ⊢
  clear hr0 hk0 hs0 c0 hm hrs
  go_loopw [] (fun wr => ∃ (left : Int → Bool) (c : Nat), Hid (Brg m b (w.heap.size + 1) w.heap.size w.heap.size (ptrs m.L q) left c w wr)) (fun wr => wr.rangeLeft b (w.heap.size + 1))
  case atStart => exact ⟨_, n0, G0⟩
  case round =>
    obtain ⟨left, c, HG⟩ := hrel
    clear G0
    obtain ⟨l, ss, hrg, hwl, hmn, hcl, hln, hmem, hkp, hsz⟩ := HG.out
    have HL : Hid (Hw w.heap.size w.heap.size l wr ∧ Hmin l ∧ Cld (ptrs m.L q) left ss ∧ l.length ≤ ss.length ∧ (∀ y, y ∈ l ↔ Bare m y ∧ left y = false) ∧ Kp w wr ∧ w.heap.size ≤ wr.heap.size) := ⟨hwl, hmn, hcl, hln, hmem, hkp, hsz⟩
    clear hwl hmn hcl hln hmem hkp hsz HG
    go_wp2_with (first | (at_next; refine wpl_next rfl _ rfl rfl hrg ?_ ?_) | go_in)
    · intro hl
      have HE : Hid (∃ l, Hw w.heap.size w.heap.size l wr ∧ Hmin l ∧ l.length ≤ 250 ∧ (∀ y, y ∈ l ↔ Bare m y) ∧ Kp w wr) := by
        obtain ⟨x1, x2, x3, x4, x5, x6, x7⟩ := HL.out
        refine ⟨l, x1, x2, ?_, fun y => ?_, x6⟩
        · have := HKF.out ss x3.1 (fun y hy => ((x3.2 y).1 hy).1); omega
        · rw [x5 y]; exact ⟨fun h => h.1, fun h => ⟨h, hl y⟩⟩
      clear hl hrg HL
      go_wp2
      go_ret
      obtain ⟨l, x⟩ := HE.out
      exact ⟨_, l, rfl, x⟩
    · intro y v w2 c2 y0 y1 hly hy hr2 hlt2 hf2 hs2 hen
      obtain ⟨s, hls, rfl⟩ := ptr_some hy
      obtain ⟨x1, x2, x3, x4, x5, x6, x7⟩ := HL.out
      have k2 : Kp w w2 := x6.trans (hf2.below x6.size fun k hk e => by unfold On at e; omega)
      have hw2 := x1.fr hf2 (box_ne x1 hrg)
      have hcs := x3.step hly (by rw [hy]; simp)
      have hlen := HKF.out _ hcs.1 (fun z hz => ((hcs.2 z).1 hz).1)
      rw [List.length_append, List.length_singleton] at hlen
      have hnl : y ∉ l := fun q => by have := ((x5 y).1 q).2; rw [hly] at this; cases this
      have bx0 := (HH.out.1.kp k2).box
      have c0 := bx0.at (j := 0) rfl
      have c1 := bx0.at (j := 1) rfl
      obtain ⟨hp, u, hb, _⟩ := HH.out.1.st y s hls
      have p1 := (hb.kp k2).at (j := 1) rfl
      have HME : Hid (c2 < c) := hlt2
      have hme : wr.rangeLeft b (w.heap.size + 1) = c := hrg.left_eq
      by_cases e : s.on = -1 ∧ y ≠ m.now
      · have d1 : (s.on == -1) = true := by rw [e.1]; rfl
        have d2 : (y != m.now) = true := by simpa using e.2
        have HP : Hid _ := pushH_any hw2 (by omega) (Nat.le_trans x7 (by omega)) x2 y
        have HN : Hid (∀ w3 l', Hw w.heap.size w.heap.size l' w3 → Hmin l' → l'.length = l.length + 1 → (∀ z, z ∈ l' ↔ z = y ∨ z ∈ l) → Ff TH w.heap.size w2 w3 → Brg m b (w.heap.size + 1) w.heap.size w.heap.size (ptrs m.L q) (fun z => left z && !decide (z = y)) c2 w w3) := fun w3 l' z1 z2 z3 z4 z5 => by
          refine ⟨l', _, hr2.ff z5, z1, z2, hcs, by rw [List.length_append, List.length_singleton]; omega, fun z => ?_, k2.trans (z5.below k2.size), Nat.le_trans k2.size z5.size⟩
          rw [z4 z, x5 z]
          simp only [Bool.and_eq_false_iff, Bool.not_eq_false', decide_eq_true_eq]
          constructor
          · rintro (rfl | ⟨q1, q2⟩)
            · exact ⟨⟨s, hls, e⟩, .inr rfl⟩
            · exact ⟨q1, .inl q2⟩
          · rintro ⟨q1, q2 | rfl⟩
            · exact .inr ⟨q1, q2⟩
            · exact .inl rfl
        clear hrg hly hy hr2 hlt2 hf2 hs2 hls hb hp k2 x1 x2 x3 x4 x5 x6 x7 HL hcs hlen hnl bx0 e hw2
        go_wp2_with fail
        refine Calls.mono HP.out ?_
        rintro e w3 ⟨rfl, l', z1, z2, z3, z4, z5⟩
        have HX : Hid (Brg m b (w.heap.size + 1) w.heap.size w.heap.size (ptrs m.L q) (fun z => left z && !decide (z = y)) c2 w w3) := HN.out w3 l' z1 z2 z3 z4 z5
        clear z1 z2 z3 z4 z5 HN HP
        go_wp2_with fail
        go_roundw
        case rel => exact ⟨_, c2, HX⟩
        case measure =>
          obtain ⟨_, _, hrg, _⟩ := HX.out
          rw [hrg.left_eq, hme]; exact HME.out
      · have HX : Hid (∀ k, Brg m b (w.heap.size + 1) w.heap.size w.heap.size (ptrs m.L q) (fun z => left z && !decide (z = y)) c2 w (w2.drewN k)) := fun k => by
          refine ⟨l, _, hr2.kp (kp_drewN _ _), hw2.kp (kp_drewN _ _), x2, hcs, by rw [List.length_append, List.length_singleton]; omega, fun z => ?_, kp_trans k2 (kp_drewN _ _), Nat.le_trans k2.size (kp_drewN w2 k).size⟩
          rw [x5 z]
          simp only [Bool.and_eq_false_iff, Bool.not_eq_false', decide_eq_true_eq]
          constructor
          · rintro ⟨q1, q2⟩; exact ⟨q1, .inl q2⟩
          · rintro ⟨q1, q2 | rfl⟩
            · exact ⟨q1, q2⟩
            · obtain ⟨s', h1, h2⟩ := q1
              rw [hls] at h1; cases h1
              exact absurd h2 e
        have HD : Hid (s.on ≠ -1 ∨ (s.on = -1 ∧ y = m.now)) := by
          by_cases p : s.on = -1
          · exact .inr ⟨p, Classical.byContradiction fun n => e ⟨p, n⟩⟩
          · exact .inl p
        clear hrg hly hy hr2 hlt2 hf2 hs2 hls hb hp k2 x1 x2 x3 x4 x5 x6 x7 HL hcs hlen hnl bx0 e hw2
        rcases HD.out with p | ⟨p, p2⟩
        · have d1 : (s.on == -1) = false := by simpa using p
          clear p HD
          go_wp2_with fail
          go_roundw
          case rel => exact ⟨_, c2, HX.out 0⟩
          case measure =>
            obtain ⟨_, _, hrg, _⟩ := HX.out 0
            have := hrg.left_eq
            rw [hme]; show w2.rangeLeft b (w.heap.size + 1) < c
            rw [show w2.rangeLeft b (w.heap.size + 1) = c2 from this]; exact HME.out
        · have d1 : (s.on == -1) = true := by rw [p]; rfl
          have d2 : (y != m.now) = false := by simp [p2]
          clear p p2 HD
          go_wp2_with fail
          go_roundw
          case rel => exact ⟨_, c2, HX.out 0⟩
          case measure =>
            obtain ⟨_, _, hrg, _⟩ := HX.out 0
            have := hrg.left_eq
            rw [hme]; show w2.rangeLeft b (w.heap.size + 1) < c
            rw [show w2.rangeLeft b (w.heap.size + 1) = c2 from this]; exact HME.out
end
end Go.Proofs.Ytehghbinjfkhgaa
/- The first one goes: pure. -/
namespace Go.Proofs.Ytehghbinjfkhgaa
set_option linter.unusedVariables false
set_option linter.unusedSimpArgs false
section
variable {L : List St} {x y z a now next : Int} {s : St} {l : List Int} {m : Tr}
/-- No state but the one that is has no way on. -/
def Full (L : List St) (now : Int) : Prop := ∀ y s, look L y = some s → y ≠ now → s.on ≠ -1
/-- Then the one that is comes from each. -/
theorem below_now (F : Fam L next) (H : Full L now) : ∀ (n : Nat) (y : Int), (next - y).toNat ≤ n → look L y ≠ none → ∃ l, Up L now l y
  | 0, y, hn, hy => by
    obtain ⟨s, hs⟩ := Option.ne_none_iff_exists'.1 hy
    have := F.fr _ _ hs; omega
  | n + 1, y, hn, hy => by
    obtain ⟨s, hs⟩ := Option.ne_none_iff_exists'.1 hy
    by_cases e : y = now
    · subst e; exact ⟨[], .nil _⟩
    · obtain ⟨t, ht, hf⟩ := F.on _ _ hs (H y s hs e)
      have h1 := F.fr _ _ ht
      have h2 := F.fr _ _ hs
      obtain ⟨l, hl⟩ := below_now F H n s.on (by omega) (by rw [ht]; simp)
      exact ⟨l ++ [s.on], by have := hl.snoc ht (by rw [hf]; omega); rw [hf] at this; exact this⟩
/-- And each has one kid at most. -/
theorem one_kid (F : Fam L next) (H : Full L now) {s s' : St} (h1 : look L y = some s) (h2 : look L z = some s') (e : s.fr = s'.fr) : y = z := by
  obtain ⟨l, hl⟩ := below_now F H _ y (Nat.le_refl _) (by rw [h1]; simp)
  obtain ⟨k, hk⟩ := below_now F H _ z (Nat.le_refl _) (by rw [h2]; simp)
  have key : ∀ {y z : Int} {s s' : St} {k : List Int}, look L y = some s → look L z = some s' → s.fr = s'.fr → Up L y k z → y = z := fun h1 h2 e h => by
    cases h with
    | nil => rfl
    | cons k1 k2 k3 =>
      rw [h1] at k1; cases k1
      have := (F.up_le k3).1
      have := F.fr _ _ h2
      omega
  rcases hl.split hk with ⟨k, q, _⟩ | ⟨k, q, _⟩
  · exact key h1 h2 e q
  · exact (key h2 h1 e.symm q).symm
theorem unroot_seq (x : Int) (s : St) : (unroot x s).seq = s.seq := by unfold unroot; split <;> rfl
theorem look_root (r : St) (M : List St) (hs : ((r :: M).map St.seq).Pairwise (· < ·)) (y : Int) : look (rootT (r :: M)) y = if y = r.seq then none else (look (r :: M) y).map (unroot r.seq) := by
  show look (M.map (unroot r.seq)) y = _
  rw [look_map (unroot_seq _), look_cons]
  by_cases q : y = r.seq
  · subst q
    rw [if_pos rfl]
    have : look M r.seq = none := by
      cases e : look M r.seq with
      | none => rfl
      | some s =>
        rw [List.map_cons, List.pairwise_cons] at hs
        have := hs.1 s.seq (List.mem_map.2 ⟨s, look_mem e, rfl⟩)
        rw [look_seq e] at this; omega
    rw [this]; rfl
  · rw [if_neg q, if_neg (fun e => q e.symm)]
/-- Which one is the first. -/
theorem root_first {r : St} {M : List St} (F : Fam (r :: M) next) (hs : ((r :: M).map St.seq).Pairwise (· < ·)) : look (r :: M) r.seq = some r ∧ r.fr = -1 ∧ ∀ y s, look (r :: M) y = some s → s.fr = -1 → y = r.seq := by
  have h0 : look (r :: M) r.seq = some r := by rw [look_cons, if_pos rfl]
  obtain ⟨r0, sr, h1, h2, h3⟩ := F.rt
  have key : ∀ y s, look (r :: M) y = some s → s.fr = -1 → y = r0 := fun y s h e => by
    obtain ⟨l, hl⟩ := h3 y (by rw [h]; simp)
    cases hl with
    | nil => rfl
    | cons k1 k2 _ => rw [h] at k1; cases k1; exact absurd e k2
  have e0 : r.seq = r0 := by
    obtain ⟨l, hl⟩ := h3 r.seq (by rw [h0]; simp)
    have hle := (F.up_le hl).1
    have hm := look_mem h1
    rcases List.mem_cons.1 hm with e | hm
    · rw [← look_seq h1, e]
    · rw [List.map_cons, List.pairwise_cons] at hs
      have := hs.1 sr.seq (List.mem_map.2 ⟨sr, hm, rfl⟩)
      rw [look_seq h1] at this; omega
  rw [← e0] at h1
  rw [h0] at h1; cases h1
  exact ⟨h0, h2, fun y s h e => by rw [e0]; exact key y s h e⟩
theorem inw_root {r : St} {M : List St} (I : Inw m) (hL : m.L = r :: M) (hM : M ≠ []) (H : Full m.L m.now) :
    Inw { m with L := rootT m.L } ∧ r.seq ≠ m.now ∧ ∃ b, look m.L r.on = some b ∧ b.fr = r.seq ∧ ∀ y, look (rootT m.L) y = if y = r.seq then none else (look m.L y).map fun s => if y = r.on then { s with fr := -1, by_ := [] } else s := by
  have F := I.inv.fam
  have hs := I.inv.sq
  have hp := I.pth
  have hk := I.onk
  have hnw := I.inv.nw
  rw [hL] at F hs hp hk hnw H
  rw [hL]
  obtain ⟨h0, hr, hone⟩ := root_first F hs
  have hlk := look_root r M hs
  -- the first is not the one that is
  have hrn : r.seq ≠ m.now := by
    intro e
    obtain ⟨c, M', rfl⟩ : ∃ c M', M = c :: M' := by cases M with | nil => exact absurd rfl hM | cons c M' => exact ⟨c, M', rfl⟩
    have hc : look (r :: c :: M') c.seq = some c := mem_look hs (by simp)
    have hrc : r.seq < c.seq := by rw [List.map_cons, List.pairwise_cons] at hs; exact hs.1 _ (by simp)
    obtain ⟨l, hl⟩ := below_now F H _ c.seq (Nat.le_refl _) (by rw [hc]; simp)
    have := (F.up_le hl).1
    omega
  obtain ⟨b, hb, hbf⟩ := F.on _ _ h0 (H _ _ h0 hrn)
  have h00 := F.fr _ _ h0
  have hkid : ∀ y s, look (r :: M) y = some s → s.fr = r.seq → y = r.on := fun y s h e => one_kid F H h hb (e.trans hbf.symm)
  have hbr : r.on ≠ r.seq := fun e => by have := (F.fr _ _ hb).2.1; rw [hbf] at this; omega
  -- what becomes of each
  have new : ∀ y s0, look (r :: M) y = some s0 → y ≠ r.seq → look (rootT (r :: M)) y = some (unroot r.seq s0) := fun y s0 h q => by rw [hlk, if_neg q, h]; rfl
  have old : ∀ y s', look (rootT (r :: M)) y = some s' → y ≠ r.seq ∧ ∃ s0, look (r :: M) y = some s0 ∧ s' = unroot r.seq s0 := fun y s' h => by
    rw [hlk] at h
    by_cases q : y = r.seq
    · rw [if_pos q] at h; cases h
    · rw [if_neg q] at h
      obtain ⟨s0, h1, h2⟩ := Option.map_eq_some_iff.1 h
      exact ⟨q, s0, h1, h2.symm⟩
  have un1 : ∀ s0 : St, s0.fr ≠ r.seq → unroot r.seq s0 = s0 := fun s0 e => by unfold unroot; rw [if_neg e]
  have unon : ∀ s0 : St, (unroot r.seq s0).on = s0.on := fun s0 => by unfold unroot; split <;> rfl
  have unb : unroot r.seq b = { b with fr := -1, by_ := [] } := by unfold unroot; rw [if_pos hbf]
  have nroot : ∀ y s, look (r :: M) y = some s → y ≠ r.seq → s.fr ≠ -1 := fun y s h q e => q (hone y s h e)
  have up : ∀ (n : Nat) (y : Int), y.toNat ≤ n → look (r :: M) y ≠ none → y ≠ r.seq → ∃ l, Up (rootT (r :: M)) y l r.on := by
    intro n
    induction n with
    | zero =>
      intro y hn hy q
      obtain ⟨s, hs'⟩ := Option.ne_none_iff_exists'.1 hy
      by_cases e : s.fr = r.seq
      · rw [hkid y s hs' e]; exact ⟨[], .nil _⟩
      · have := F.fr _ _ hs'
        have := nroot y s hs' q
        omega
    | succ n ih =>
      intro y hn hy q
      obtain ⟨s, hs'⟩ := Option.ne_none_iff_exists'.1 hy
      by_cases e : s.fr = r.seq
      · rw [hkid y s hs' e]; exact ⟨[], .nil _⟩
      · have h1 := F.fr _ _ hs'
        have h2 := nroot y s hs' q
        obtain ⟨l, hl⟩ := ih s.fr (by omega) (F.from_there hs' h2) e
        exact ⟨y :: l, .cons (by rw [new y s hs' q, un1 s e]) h2 hl⟩
  refine ⟨⟨⟨⟨fun y s' h => ?_, ?_, fun y s' h hon => ?_, fun y s' h => ?_⟩, ?_, ?_⟩, ?_, fun y s' h hon z s2 hz => ?_⟩, hrn, b, hb, hbf, fun y => ?_⟩
  · obtain ⟨q, s0, h1, rfl⟩ := old y s' h
    have h2 := F.fr _ _ h1
    unfold unroot
    split
    · exact ⟨by show (-1 : Int) ≤ -1; decide, by show (-1 : Int) < y; omega, h2.2.2⟩
    · exact h2
  · refine ⟨r.on, _, new _ _ hb hbr, by rw [unb], fun y hy => ?_⟩
    obtain ⟨s2, hs2⟩ := Option.ne_none_iff_exists'.1 hy
    obtain ⟨q, s0, h1, _⟩ := old y s2 hs2
    exact up _ y (Nat.le_refl _) (by rw [h1]; simp) q
  · obtain ⟨q, s0, h1, rfl⟩ := old y s' h
    rw [unon] at hon ⊢
    obtain ⟨t, ht, hft⟩ := F.on _ _ h1 hon
    have h2 := F.fr _ _ h1
    have hne : s0.on ≠ r.seq := fun e => by rw [e, h0] at ht; cases ht; omega
    have hnf : t.fr ≠ r.seq := by rw [hft]; exact q
    exact ⟨t, by rw [new _ _ ht hne, un1 t hnf], hft⟩
  · obtain ⟨q, s0, h1, rfl⟩ := old y s' h
    unfold unroot
    split
    · exact ⟨by simp, by simp⟩
    · exact F.few _ _ h1
  · show ((M.map (unroot r.seq)).map St.seq).Pairwise _
    have e1 : (M.map (unroot r.seq)).map St.seq = M.map St.seq := by
      rw [List.map_map]
      exact List.map_congr_left fun s _ => unroot_seq _ _
    rw [e1]
    rw [List.map_cons, List.pairwise_cons] at hs
    exact hs.2
  · obtain ⟨s0, h1⟩ := Option.ne_none_iff_exists'.1 hnw
    show look (rootT (r :: M)) m.now ≠ none
    rw [new _ _ h1 (fun e => hrn e.symm)]; simp
  · have key : ∀ c, Pth (r :: M) c → c ≠ r.seq → Pth (rootT (r :: M)) c := fun c h => by
      induction h with
      | root h1 h2 => intro q; exact absurd h2 (nroot _ _ h1 q)
      | step h1 h2 h3 h4 h5 ih =>
        rename_i x s s'
        intro q
        by_cases e : s.fr = r.seq
        · exact .root (new _ _ h1 q) (by unfold unroot; rw [if_pos e])
        · exact .step (by rw [new _ _ h1 q, un1 _ e]) h2 (new _ _ h3 e) (by rw [unon]; exact h4) (ih e)
    exact key _ hp (fun e => hrn e.symm)
  · obtain ⟨q, s0, h1, rfl⟩ := old y s' h
    obtain ⟨q2, s3, h3, rfl⟩ := old z s2 hz
    rw [unon] at hon
    have h4 := hk y s0 h1 hon z s3 h3
    have h5 := F.fr _ _ h1
    unfold unroot
    split
    · show (-1 : Int) ≠ y; omega
    · exact h4
  · rw [hlk]
    by_cases q : y = r.seq
    · rw [if_pos q, if_pos q]
    · rw [if_neg q, if_neg q]
      cases e : look (r :: M) y with
      | none => rfl
      | some s0 =>
        rw [Option.map_some, Option.map_some]
        unfold unroot
        by_cases p : s0.fr = r.seq
        · rw [if_pos p, if_pos (hkid y s0 e p)]
        · rw [if_neg p, if_neg]
          rintro rfl
          rw [hb] at e; cases e; exact p hbf
end
end Go.Proofs.Ytehghbinjfkhgaa
/- drop, dropFirst. -/
namespace Go.Proofs.Ytehghbinjfkhgaa
open Go.ChangeShapes Go.WideShapes Go.ChangeAt Go.RowKit Go.Maps Go.MapKept
set_option linter.unusedVariables false
set_option linter.unusedSimpArgs false
set_option maxRecDepth 100000
/-- Taken out. -/
theorem Mp.drop {b : Nat} {f : Int → Option Value} {w : World} (h : Mp b f w) {x : Int} (h0 : -9223372036854775808 ≤ x) (h1 : x < 9223372036854775808) {t e : TypeId} (ht : Try.prog.underlying t = some (.map 3 e)) :
    ∃ w', (∀ ty, (Builtin.delete_ #[t, 3] ty #[.map (some b), .int .i64 x]).run Try.prog w = .ok (.tuple #[]) w') ∧ Mp b (upd f x none) w' ∧ Fr (On b) w w' ∧ w'.heap.size = w.heap.size := by
  have hl := h.lt
  obtain ⟨es, c, hb, S, H⟩ := h
  obtain ⟨es', hr, S', H', _⟩ := drop_who (ty := 0) hb S H h0 h1 ht
  refine ⟨_, fun ty => ?_, ⟨es', c, Go.ChangeMaps.heap_setBlock_same hb _, S', H'⟩, fr_block w b _ hl, by simp [Go.ChangeMaps.setBlock]⟩
  exact hr
section
variable {B C t b : Nat} {q : Int → Nat} {m : Tr} {w w1 : World} {x : Int} {s : St}
/-- A state is taken out. -/
theorem Tb.drop (h : Tb B C t b q m w) {x : Int} (h0 : -9223372036854775808 ≤ x) (h1 : x < 9223372036854775808) (L' : List St) (hL : ∀ y, look L' y = if y = x then none else look m.L y) :
    ∃ w', (∀ ty, (Builtin.delete_ #[70, 3] ty #[.map (some b), .int .i64 x]).run Try.prog w = .ok (.tuple #[]) w') ∧ Tb B C t b q { m with L := L' } w' ∧ Ff TP B w w' ∧ Fr (On b) w w' := by
  obtain ⟨w', hr, hm, f, hz⟩ := h.map.drop h0 h1 Try.underlying70
  obtain ⟨es, cl, hmb, _⟩ := h.map
  have e : ptrs L' q = upd (ptrs m.L q) x none := by
    funext y; unfold ptrs upd; rw [hL]
    by_cases c : y = x
    · rw [if_pos c, if_pos c]; rfl
    · rw [if_neg c, if_neg c]
  have hy0 : ∀ y s, look L' y = some s → look m.L y = some s := fun y s hy => by
    rw [hL] at hy
    by_cases c : y = x
    · rw [if_pos c] at hy; cases hy
    · rw [if_neg c] at hy; exact hy
  refine ⟨w', hr, ⟨h.lt, h.lb, h.box.fr f (h.map.ne h.box), by show Mp b (ptrs L' q) w'; rw [e]; exact hm, fun y s hy => (h.st y s (hy0 y s hy)).onMap f hmb, fun y z hy hz e => ?_⟩, Ff.on f h.lb hmb trivial, f⟩
  obtain ⟨s1, q1⟩ := Option.ne_none_iff_exists'.1 hy
  obtain ⟨s2, q2⟩ := Option.ne_none_iff_exists'.1 hz
  exact h.inj y z (by rw [hy0 _ _ q1]; simp) (by rw [hy0 _ _ q2]; simp) e
set_option maxHeartbeats 8000000 in
theorem drop_any (h : Tw B C t m w) (I : Inw m) (hn : m.next ≤ 10000) (hx : look m.L x = some s) (ho : s.on = -1) (hne : x ≠ m.now) :
    Calls Try.prog 55 #[.pointer (some ⟨t, 0, none⟩), .int .i64 x] w fun e w' => e = .returned (.tuple #[]) ∧ Tw B C t { m with L := cutT m.L x s.fr } w' ∧ Ff TP B w w' := by
  have F := I.inv.fam
  have hf := bare_fr F I.onk I.inv.nw hx ho hne
  have hxf := F.fr _ _ hx
  have hfx : s.fr ≠ x := by omega
  obtain ⟨p, hp⟩ := Option.ne_none_iff_exists'.1 (F.from_there hx hf)
  have hp2 : look (dropL m.L x) s.fr = some p := by rw [look_drop, if_neg hfx]; exact hp
  obtain ⟨b, q, h⟩ := h
  have c0 := h.box.at (j := 0) rfl
  have hk1 := h.get (x := x) (by omega) (by omega) hx w (Below.refl _ _)
  obtain ⟨_, u1, hb1, _⟩ := h.st _ _ hx
  have p0 := hb1.at (j := 0) rfl
  obtain ⟨w1, hdl, h1, f1, _⟩ := h.drop (x := x) (by omega) (by omega) (dropL m.L x) (look_drop m.L x)
  have c1 := h1.box.at (j := 0) rfl
  have hk2 := h1.get (x := s.fr) (by omega) (by omega) hp2 w1 (Below.refl _ _)
  obtain ⟨_, u2, hb2, _⟩ := h1.st _ _ hp2
  have p1 := hb2.at (j := 1) rfl
  have HN : Hid _ := newest_any (m := { m with L := dropL m.L x }) ⟨b, q, h1⟩ (fun y s' hy => by
    have hy' : look (dropL m.L x) y = some s' := hy
    rw [look_drop] at hy'
    split at hy'
    · cases hy'
    · exact (F.fr _ _ hy').2.2.1) (drop_sorted I.inv.sq x) s.fr
  have HT : Hid (Tb B C t b q { m with L := dropL m.L x } w1 ∧ Ff TP B w w1 ∧ look (dropL m.L x) s.fr = some p) := ⟨h1, f1, hp2⟩
  clear h hx hb1 h1 f1 hp2 hb2 hp I F
  go_enter Try.func55, Try.ntmps55
  by_cases e : p.on = x
  · have d1 : (p.on == x) = true := by simpa using e
    have HE : Hid (p.on = x) := e
    clear e
    go_wp2_with fail
    refine Calls.mono HN.out ?_
    rintro e w2 ⟨rfl, k2⟩
    have f2 := ((HT.out.1.kp k2).st _ _ HT.out.2.2)
    obtain ⟨_, u3, hb3, _⟩ := f2
    have g1 := hb3.fz 1
    have g2 := hb3.at (j := 1) rfl
    have HX : Hid (Tw B C t { m with L := cutT m.L x s.fr } (w2.setCell ⟨q s.fr, 1, none⟩ (.int .i64 (newest (dropL m.L x) s.fr))) ∧ Ff TP B w (w2.setCell ⟨q s.fr, 1, none⟩ (.int .i64 (newest (dropL m.L x) s.fr)))) := by
      obtain ⟨r1, r2⟩ := (HT.out.1.kp k2).on (x := s.fr) (by show look (dropL m.L x) s.fr ≠ none; rw [HT.out.2.2]; simp) (newest (dropL m.L x) s.fr)
      refine ⟨⟨b, q, ?_⟩, (HT.out.2.1.trans (Ff.kp k2)).trans r2⟩
      have e1 : cutT m.L x s.fr = setOn (dropL m.L x) s.fr (newest (dropL m.L x) s.fr) := by unfold cutT; rw [HT.out.2.2]; exact if_pos HE.out
      rw [e1]; exact r1
    clear hb3 k2 HN c0 hk1 p0 hdl c1 hk2 p1
    go_wp2_with fail
    go_end0
    exact ⟨rfl, HX.out⟩
  · have d1 : (p.on == x) = false := by simpa using e
    have HX : Hid (Tw B C t { m with L := cutT m.L x s.fr } w1 ∧ Ff TP B w w1) := by
      have e1 : cutT m.L x s.fr = dropL m.L x := by unfold cutT; rw [HT.out.2.2]; exact if_neg e
      rw [e1]; exact ⟨⟨b, q, HT.out.1⟩, HT.out.2.1⟩
    clear e HN
    go_wp2_with fail
    go_end0
    exact ⟨rfl, HX.out⟩
end
end Go.Proofs.Ytehghbinjfkhgaa
/- dropFirst, letGo. -/
namespace Go.Proofs.Ytehghbinjfkhgaa
open Go.ChangeShapes Go.WideShapes Go.ChangeAt Go.RowKit Go.Maps Go.MapKept
set_option linter.unusedVariables false
set_option linter.unusedSimpArgs false
set_option maxRecDepth 100000
theorem find_least {p : St → Bool} : ∀ {L : List St}, (L.map St.seq).Pairwise (· < ·) → ∀ {s}, L.find? p = some s → ∀ a ∈ L, p a = true → s.seq ≤ a.seq
  | [], _, _, h, _, _, _ => by cases h
  | c :: L, hs, s, h, a, ha, hp => by
    rw [List.map_cons, List.pairwise_cons] at hs
    rw [List.find?_cons] at h
    cases e : p c with
    | true =>
      rw [e] at h; cases h
      rcases List.mem_cons.1 ha with rfl | ha
      · exact Int.le_refl _
      · have := hs.1 a.seq (List.mem_map.2 ⟨a, ha, rfl⟩); omega
    | false =>
      rw [e] at h
      rcases List.mem_cons.1 ha with rfl | ha
      · rw [e] at hp; cases hp
      · exact find_least hs.2 h a ha hp
section
variable {B C t b : Nat} {q : Int → Nat} {m : Tr} {w w1 : World} {x : Int} {s : St}
/-- A state is made from none, and by nothing. -/
theorem Tb.bare (h : Tb B C t b q m w) {x : Int} (hx : look m.L x ≠ none) (L' : List St) (hL : ∀ y, look L' y = (look m.L y).map fun s => if y = x then { s with fr := -1, by_ := [] } else s) :
    Tb B C t b q { m with L := L' } ((w.setCell ⟨q x, 0, none⟩ (.int .i64 (-1))).setCell ⟨q x, 2, none⟩ (.slice none 0 0)) ∧ Ff TP B w ((w.setCell ⟨q x, 0, none⟩ (.int .i64 (-1))).setCell ⟨q x, 2, none⟩ (.slice none 0 0)) := by
  obtain ⟨s, hs⟩ := Option.ne_none_iff_exists'.1 hx
  obtain ⟨hp, v, h2, h3, h4⟩ := h.st x s hs
  have f := (fr_set (q x) 0 (.int .i64 (-1)) w).trans (fr_set (q x) 2 (.slice none 0 0) _)
  have hne : b ≠ q x := Ne.symm (h.map.ne h2)
  have ht : t ≠ q x := lc_ne h.box h2 (by decide)
  have hn : ∀ y, look L' y ≠ none → look m.L y ≠ none := fun y hy e => hy (by rw [hL, e]; rfl)
  have ep : ptrs L' q = ptrs m.L q := by
    funext y; unfold ptrs; rw [hL]
    cases look m.L y <;> rfl
  refine ⟨⟨h.lt, h.lb, h.box.fr f ht, by show Mp b (ptrs L' q) _; rw [ep]; exact h.map.fr f hne, fun z s' hz => ?_, fun a c h1 h2 h3 => h.inj a c (hn _ h1) (hn _ h2) h3⟩, Ff.on f hp h2 (.inr rfl)⟩
  have hz' : look L' z = some s' := hz
  rw [hL] at hz'
  obtain ⟨s0, hs0, rfl⟩ := Option.map_eq_some_iff.1 hz'
  by_cases e : z = x
  · subst e
    rw [if_pos rfl]
    rw [hs] at hs0; cases hs0
    exact ⟨hp, .slice none 0 0, (h2.set 0 _).set 2 _, Dx.nil _ _ _, fun j hj => by cases hj⟩
  · rw [if_neg e]
    exact (h.st z s0 hs0).on f h2 (fun e2 => e (h.inj z x (by rw [hs0]; simp) hx e2)) (by decide) (by decide)
set_option maxHeartbeats 8000000 in
theorem dropFirst_any (h : Tw B C t m w) (I : Inw m) (hn : m.next ≤ 10000) (hl : m.L.length ≤ 250) (h2 : 2 ≤ m.L.length) (H : Full m.L m.now) :
    Calls Try.prog 54 #[.pointer (some ⟨t, 0, none⟩)] w fun e w' => e = .returned (.tuple #[]) ∧ Tw B C t { m with L := rootT m.L } w' ∧ Ff TP B w w' := by
  obtain ⟨r, M, hL⟩ : ∃ r M, m.L = r :: M := by cases e : m.L with | nil => rw [e] at h2; simp at h2 | cons r M => exact ⟨r, M, rfl⟩
  have hM : M ≠ [] := by rintro rfl; rw [hL] at h2; simp at h2
  obtain ⟨_, hrn, bb, hbl, hbf, hlk⟩ := inw_root I hL hM H
  have F := I.inv.fam
  have hr : look m.L r.seq = some r := by rw [hL, look_cons, if_pos rfl]
  have g0 := F.fr _ _ hr
  have g1 := F.fr _ _ hbl
  have hne : r.on ≠ r.seq := fun e => by rw [e, hr] at hbl; cases hbl; omega
  have HN : Hid _ := numbers_any h hl I.inv.sq
  obtain ⟨b, q, h⟩ := h
  have HT : Hid (Tb B C t b q m w ∧ look m.L r.seq = some r ∧ look m.L r.on = some bb ∧ r.on ≠ r.seq ∧ ∀ y, look (rootT m.L) y = if y = r.seq then none else (look m.L y).map fun s => if y = r.on then { s with fr := -1, by_ := [] } else s) := ⟨h, hr, hbl, hne, hlk⟩
  have hr0 : -9223372036854775808 ≤ r.seq ∧ r.seq < 9223372036854775808 := by omega
  have hb0 : -9223372036854775808 ≤ r.on ∧ r.on < 9223372036854775808 := by omega
  have hz : (m.L.map St.seq)[0]? = some r.seq := by rw [hL]; rfl
  have hlen : 0 < (m.L.map St.seq).length := by rw [hL]; simp
  clear h hr hbl hlk hne F H I hL hM h2 hl hn hbf hrn g0 g1
  go_enter Try.func54, Try.ntmps54
  go_wp2_with fail
  refine Calls.mono HN.out ?_
  rintro e w1 ⟨v, rfl, hi, k1⟩
  obtain ⟨g, c, rfl, _, _, _, hcl, _⟩ := ir_cells hi (by intro e; rw [e] at hz; cases hz)
  have c1 := hcl _ _ hz
  have T1 := HT.out.1.kp k1
  have c0 := T1.box.at (j := 0) rfl
  have hk1 := fun k => T1.get hr0.1 hr0.2 HT.out.2.1 (w1.drewN k) (kp_drewN _ _)
  have hk2 := fun k => T1.get hb0.1 hb0.2 HT.out.2.2.1 (w1.drewN k) (kp_drewN _ _)
  obtain ⟨_, u1, hb1, _⟩ := T1.st _ _ HT.out.2.1
  have p1 := hb1.at (j := 1) rfl
  have HK : Hid (Kp w w1) := k1
  have hlI : (0 : Int) < ((m.L.map St.seq).length : Int) := by omega
  have HT1 : Hid (Tb B C t b q m w1) := T1
  generalize (m.L.map St.seq).length = N at hlen hlI
  clear hi hcl hz T1 hb1 k1 HN
  go_wp2_with fail
  go_quiet (fail)
  obtain ⟨W2, hW2⟩ : ∃ W2, w1.drewN nq = W2 := ⟨_, rfl⟩
  have T2 : Tb B C t b q m W2 := by rw [← hW2]; exact HT1.out.kp (kp_drewN _ _)
  have K2 : Hid (Kp w W2) := by rw [← hW2]; exact kp_trans HK.out (kp_drewN _ _)
  rw [hW2]
  obtain ⟨w3, hdl, T3, f3, _⟩ := T2.drop hr0.1 hr0.2 (dropL m.L r.seq) (look_drop _ _)
  have c0' := T2.box.at (j := 0) rfl
  have hbl3 : look (dropL m.L r.seq) r.on = some bb := by rw [look_drop, if_neg HT.out.2.2.2.1]; exact HT.out.2.2.1
  obtain ⟨_, u3, hb3, _⟩ := T3.st _ _ hbl3
  have z0 := hb3.at (j := 0) rfl
  have z2 := hb3.at (j := 2) rfl
  have y0 := hb3.fz 0
  have y2 := hb3.fz 2
  have HX : Hid (Tw B C t { m with L := rootT m.L } ((w3.setCell ⟨q r.on, 0, none⟩ (.int .i64 (-1))).setCell ⟨q r.on, 2, none⟩ (.slice none 0 0)) ∧ Ff TP B w ((w3.setCell ⟨q r.on, 0, none⟩ (.int .i64 (-1))).setCell ⟨q r.on, 2, none⟩ (.slice none 0 0))) := by
    obtain ⟨r1, r2⟩ := T3.bare (x := r.on) (by show look (dropL m.L r.seq) r.on ≠ none; rw [hbl3]; simp) (rootT m.L) (fun y => by
      show _ = (look (dropL m.L r.seq) y).map _
      rw [HT.out.2.2.2.2 y, look_drop]
      by_cases e : y = r.seq
      · rw [if_pos e, if_pos e]; rfl
      · rw [if_neg e, if_neg e])
    exact ⟨⟨b, q, r1⟩, ((Ff.kp K2.out).trans f3).trans r2⟩
  clear T2 T3 f3 hb3 hbl3 hW2 c0 c1 hk1 hk2 p1
  go_wp2_with fail
  go_end0
  exact ⟨rfl, HX.out⟩
end
end Go.Proofs.Ytehghbinjfkhgaa
/- One goes: what is kept. -/
namespace Go.Proofs.Ytehghbinjfkhgaa
set_option linter.unusedVariables false
set_option linter.unusedSimpArgs false
section
variable {L : List St} {x : Int} {m : Tr} {s : St} {ds : List Dl}
theorem drop_len (hs : (L.map St.seq).Pairwise (· < ·)) (hx : look L x ≠ none) : (dropL L x).length + 1 = L.length := by
  induction L with
  | nil => exact absurd rfl hx
  | cons s L ih =>
    rw [List.map_cons, List.pairwise_cons] at hs
    unfold dropL at ih ⊢
    rw [List.filter_cons]
    by_cases q : s.seq = x
    · rw [if_neg (by simp [q])]
      have : L.filter (fun s => !decide (s.seq = x)) = L := List.filter_eq_self.2 fun a ha => by
        have := hs.1 a.seq (List.mem_map.2 ⟨a, ha, rfl⟩)
        simp; omega
      rw [this]; rfl
    · rw [if_pos (by simp [q])]
      rw [look_cons, if_neg q] at hx
      have := ih hs.2 hx
      simp only [List.length_cons]; omega
theorem cut_len {fr : Int} : (cutT L x fr).length = (dropL L x).length := by
  have := congrArg List.length (cut_seq L x fr)
  simpa using this
theorem root_len (L : List St) : (rootT L).length = L.length - 1 := by cases L with | nil => rfl | cons r M => simp [rootT]
theorem bare_some (h : m.L.find? (bareP m) = some s) : s ∈ m.L ∧ s.on = -1 ∧ s.seq ≠ m.now := by
  have h1 := List.find?_some h
  simp only [bareP, Bool.and_eq_true, Bool.not_eq_true', decide_eq_true_eq, decide_eq_false_iff_not] at h1
  exact ⟨List.mem_of_find?_eq_some h, h1.1, h1.2⟩
theorem bare_none (h : m.L.find? (bareP m) = none) : Full m.L m.now := fun y s hy hn ho => by
  have h1 := List.find?_eq_none.1 h s (look_mem hy)
  rw [← look_seq hy] at hn
  simp [bareP, ho, hn] at h1
theorem ev_some (h : m.L.find? (bareP m) = some s) : evT m = { m with L := cutT m.L s.seq s.fr } := by unfold evT; rw [h]
theorem ev_none (h : m.L.find? (bareP m) = none) : evT m = { m with L := rootT m.L } := by unfold evT; rw [h]
theorem cons_of (h2 : 2 ≤ m.L.length) : ∃ r M, m.L = r :: M ∧ M ≠ [] := by
  match e : m.L with
  | [] => rw [e] at h2; simp at h2
  | [a] => rw [e] at h2; simp at h2
  | a :: c :: M => exact ⟨a, c :: M, rfl, by simp⟩
theorem Inw.ev (I : Inw m) (h2 : 2 ≤ m.L.length) : Inw (evT m) := by
  cases h : m.L.find? (bareP m) with
  | some s =>
    obtain ⟨h1, h3, h4⟩ := bare_some h
    rw [ev_some h]
    exact inw_cut I (mem_look I.inv.sq h1) h3 h4
  | none =>
    obtain ⟨r, M, hL, hM⟩ := cons_of h2
    rw [ev_none h]
    exact (inw_root I hL hM (bare_none h)).1
theorem ev_len (I : Inw m) (h2 : 2 ≤ m.L.length) : (evT m).L.length + 1 = m.L.length := by
  cases h : m.L.find? (bareP m) with
  | some s =>
    obtain ⟨h1, h3, h4⟩ := bare_some h
    rw [ev_some h]
    show (cutT m.L s.seq s.fr).length + 1 = _
    rw [cut_len, drop_len I.inv.sq (by rw [mem_look I.inv.sq h1]; simp)]
  | none =>
    rw [ev_none h]
    show (rootT m.L).length + 1 = _
    rw [root_len]; omega
theorem ev_now (m : Tr) : (evT m).now = m.now ∧ (evT m).next = m.next ∧ (evT m).most = m.most := by
  unfold evT; split <;> exact ⟨rfl, rfl, rfl⟩
/-- What Add leaves, whatever room there is. -/
theorem addE_inw (I : Inw m) (hf : Few 2000 ds) (hmo : 1 ≤ m.most) : Inw (addE m ds) := by
  unfold addE
  split
  · exact (I.add hf).ev (by rename_i h; omega)
  · exact I.add hf
theorem addE_parts (m : Tr) (ds : List Dl) : (addE m ds).now = m.next ∧ (addE m ds).next = m.next + 1 ∧ (addE m ds).most = m.most := by
  unfold addE
  split
  · exact ev_now _
  · exact ⟨rfl, rfl, rfl⟩
theorem addE_len (I : Inw m) (hf : Few 2000 ds) (hmo : 1 ≤ m.most) (hl : (m.L.length : Int) ≤ m.most) : ((addE m ds).L.length : Int) ≤ m.most ∧ (addE m ds).L.length ≤ m.L.length + 1 := by
  have e0 : (addT m ds).L.length = m.L.length + 1 := by
    show (setOn m.L m.now m.next ++ [_]).length = _
    rw [List.length_append, setOn_len]; rfl
  unfold addE
  split
  · rename_i h
    have := ev_len (I.add hf) (by omega)
    omega
  · rename_i h
    omega
end
end Go.Proofs.Ytehghbinjfkhgaa
/- letGo. -/
namespace Go.Proofs.Ytehghbinjfkhgaa
open Go.ChangeShapes Go.WideShapes Go.ChangeAt Go.RowKit Go.Maps Go.MapKept
set_option linter.unusedVariables false
set_option linter.unusedSimpArgs false
set_option maxRecDepth 100000
section
variable {B C t : Nat} {m : Tr} {w w1 : World}
set_option maxHeartbeats 8000000 in
theorem letGo_any (h : Tw B C t m w) (I : Inw m) (hn : m.next ≤ 10000) (hl : m.L.length ≤ 250) (h2 : 2 ≤ m.L.length) :
    Calls Try.prog 32 #[.pointer (some ⟨t, 0, none⟩)] w fun e w' => e = .returned (.tuple #[]) ∧ Tw B C t (evT m) w' ∧ Ff TP B w w' := by
  have HB : Hid _ := bare_any h I.inv.fam hn hl
  have HT : Hid (Tw B C t m w ∧ Inw m ∧ m.next ≤ 10000 ∧ m.L.length ≤ 250 ∧ 2 ≤ m.L.length) := ⟨h, I, hn, hl, h2⟩
  clear h I hn hl h2
  go_enter Try.func32, Try.ntmps32
  go_wp2_with fail
  refine Calls.mono HB.out ?_
  rintro e w1 ⟨hp, l, rfl, hw, hmin, hlen, hmem, k1⟩
  obtain ⟨v, hq⟩ := hw
  obtain ⟨a, c, rfl, _⟩ := hq.row.form
  have c0 := hq.box.at (j := 0) rfl
  have HLen : Hid _ := len_any a l.length c w1
  cases hfd : m.L.find? (bareP m) with
  | none =>
    have hfull := bare_none hfd
    have hnil : l = [] := by
      rw [List.eq_nil_iff_forall_not_mem]
      intro y hy
      obtain ⟨s, h1, h2, h3⟩ := (hmem y).1 hy
      exact hfull y s h1 h3 h2
    subst hnil
    have HD : Hid (Calls Try.prog 54 #[.pointer (some ⟨t, 0, none⟩)] w1 fun e w' => e = .returned (.tuple #[]) ∧ Tw B C t (evT m) w' ∧ Ff TP B w w') := by
      refine (dropFirst_any (HT.out.1.kp k1) HT.out.2.1 HT.out.2.2.1 HT.out.2.2.2.1 HT.out.2.2.2.2 hfull).mono ?_
      rintro e w' ⟨rfl, r1, r2⟩
      rw [ev_none hfd]
      exact ⟨rfl, r1, (Ff.kp k1).trans r2⟩
    clear HB hq hmin hlen hmem k1 hfd hfull
    go_wp2_with fail
    refine Calls.mono HLen.out ?_
    rintro e w2 ⟨rfl, rfl⟩
    clear HLen
    go_wp2_with fail
    refine Calls.mono HD.out ?_
    rintro e w2 ⟨rfl, r⟩
    have HR : Hid _ := r
    clear HD r
    go_wp2_with fail
    refine bodyPost_ret (results_none rfl _ _ _) rfl ?_
    exact ⟨rfl, HR.out⟩
  | some s =>
    obtain ⟨s1, s2, s3⟩ := bare_some hfd
    have hls := mem_look HT.out.2.1.inv.sq s1
    have hsl : s.seq ∈ l := (hmem _).2 ⟨s, hls, s2, s3⟩
    obtain ⟨n, hn⟩ : ∃ n, l.length = n + 1 := ⟨l.length - 1, by have := List.length_pos_of_mem hsl; omega⟩
    obtain ⟨m0, hm0⟩ : ∃ y, l[0]? = some y := ⟨_, List.getElem?_eq_getElem (by omega)⟩
    have e0 : m0 = s.seq := by
      have g1 := hmin m0 hm0 _ hsl
      obtain ⟨s', q1, q2, q3⟩ := (hmem m0).1 (List.mem_of_getElem? hm0)
      have g2 := find_least HT.out.2.1.inv.sq hfd s' (look_mem q1) (by rw [← look_seq q1] at q3; simp [bareP, q2, q3])
      rw [look_seq q1] at g2; omega
    subst e0
    have HP : Hid (Calls Try.prog 56 #[.iface 94 (.pointer (some ⟨hp, 0, none⟩))] w1 fun e w2 => e = .returned (.iface 3 (.int .i64 s.seq)) ∧ Hid (Calls Try.prog 55 #[.pointer (some ⟨t, 0, none⟩), .int .i64 s.seq] w2 fun e w' => e = .returned (.tuple #[]) ∧ Tw B C t (evT m) w' ∧ Ff TP B w w')) := by
      refine (popH_any ⟨_, hq⟩ (by omega) hn hm0).mono ?_
      rintro e w2 ⟨rfl, f⟩
      have k2 : Kp w w2 := k1.trans (f.below k1.size)
      refine ⟨rfl, (drop_any (HT.out.1.kp k2) HT.out.2.1 HT.out.2.2.1 hls s2 s3).mono ?_⟩
      rintro e w' ⟨rfl, r1, r2⟩
      rw [ev_some hfd]
      exact ⟨rfl, r1, (Ff.kp k2).trans r2⟩
    rw [hn] at c0 HLen
    have d1 : ((n : Int) + 1 == 0) = false := beq_eq_false_iff_ne.2 (by omega)
    have hti := asInt s.seq
    clear HB hq hmin hlen hmem k1 hfd s1 s2 s3 hls hsl hm0 hn
    go_wp2_with fail
    refine Calls.mono HLen.out ?_
    rintro e w2 ⟨rfl, rfl⟩
    clear HLen
    go_wp2_with fail
    refine Calls.mono HP.out ?_
    rintro e w2 ⟨rfl, r⟩
    have HR : Hid _ := r.out
    clear HP r
    go_wp2_with fail
    refine Calls.mono HR.out ?_
    rintro e w2 ⟨rfl, r⟩
    have HE : Hid _ := r
    clear HR r
    go_wp2_with fail
    go_end0
    exact ⟨rfl, HE.out⟩
end
end Go.Proofs.Ytehghbinjfkhgaa
/- Add, whatever room there is. -/
namespace Go.Proofs.Ytehghbinjfkhgaa
open Go.ChangeShapes Go.WideShapes Go.ChangeAt Go.RowKit Go.Maps Go.MapKept
set_option linter.unusedVariables false
set_option linter.unusedSimpArgs false
set_option maxRecDepth 100000
/-- How many lie in the tree at t. -/
def cntOf (t : Nat) (w : World) : Nat := match w.cell? ⟨t, 0, none⟩ with
  | some (.map (some b)) => (match w.heap[b]? with
    | some (.map es _) => es.size
    | _ => 0)
  | _ => 0
theorem cnt_eq {B C t : Nat} {m : Tr} {w : World} (h : Tw B C t m w) (hn : (m.L.map St.seq).Nodup) : cntOf t w = m.L.length := by
  obtain ⟨b, q, h⟩ := h
  unfold cntOf
  rw [h.box.at (j := 0) rfl]
  obtain ⟨es, c, hb, S, H⟩ := h.map
  simp only [hb]
  have hp : (es.toList.map (·.key)).Perm (m.L.map fun s => Value.int .i64 s.seq) := by
    refine (List.perm_ext_iff_of_nodup ?_ ?_).2 fun v => ?_
    · have := ((stamped_iff es c).1 S).2.2
      exact List.pairwise_map.2 this
    · have : (m.L.map fun s => Value.int .i64 s.seq) = (m.L.map St.seq).map (Value.int .i64) := by simp
      rw [this]
      exact List.pairwise_map.2 (hn.imp fun h e => h (by cases e; rfl))
    · rw [List.mem_map, List.mem_map]
      constructor
      · rintro ⟨a, ha, rfl⟩
        obtain ⟨x, hx, _, _, hv⟩ := H.on a ha
        unfold ptrs at hv
        obtain ⟨s, hs, _⟩ := Option.map_eq_some_iff.1 hv
        exact ⟨s, look_mem hs, by rw [hx, look_seq hs]⟩
      · rintro ⟨s, hs, rfl⟩
        have : look m.L s.seq ≠ none := by
          intro e
          have := List.find?_eq_none.1 e s hs
          simp at this
        obtain ⟨s', hs'⟩ := Option.ne_none_iff_exists'.1 this
        obtain ⟨a, ha, hk, _⟩ := H.at_ s.seq (.pointer (some ⟨q s.seq, 0, none⟩)) (by unfold ptrs; rw [hs']; rfl)
        exact ⟨a, ha, hk⟩
  have := hp.length_eq
  simpa using this
/-- Where the loop of Add stands. -/
def Loo (B t : Nat) (m : Tr) (ds : List Dl) (w wr : World) : Prop :=
  (Tw B wr.heap.size t (addT m ds) wr ∧ Ff TP B w wr) ∨ (m.most < ((addT m ds).L.length : Int) ∧ Tw B wr.heap.size t (evT (addT m ds)) wr ∧ Ff TP B w wr)
section
variable {B C t : Nat} {m : Tr} {w : World}
set_option maxHeartbeats 16000000 in
theorem add_any (h : Tw B C t m w) (I : Inw m) (hn : m.next ≤ 9999) (hm : (m.L.length : Int) ≤ m.most) (hmo : 1 ≤ m.most ∧ m.most ≤ 200) (hB : B ≤ w.heap.size)
    {P : Nat → Prop} {X : Xl} {D : Nat} (ok : Okx D X) {v : Value} {ds : List Dl} (hd : Dr P X v ds w) (hf : Few 2000 ds) :
    Calls Try.prog 12 #[.pointer (some ⟨t, 0, none⟩), v] w fun e w' => e = .returned (.int .i64 m.next) ∧ Tw B w'.heap.size t (addE m ds) w' ∧ Ff TP B w w' := by
  have F := I.inv.fam
  have hsq := I.inv.nodup
  have hw := I.inv.nw
  have HI : Hid (Inw m ∧ m.next ≤ 9999 ∧ (m.L.length : Int) ≤ m.most ∧ (1 ≤ m.most ∧ m.most ≤ 200) ∧ Few 2000 ds) := ⟨I, hn, hm, hmo, hf⟩
  have hxn : look m.L m.next = none := by
    cases e : look m.L m.next with
    | none => rfl
    | some s => have := F.fr _ _ e; omega
  have hnw := F.rg (by omega) hw
  have hlt : m.now < m.next ∧ 0 ≤ m.next := by
    obtain ⟨s, hs⟩ := Option.ne_none_iff_exists'.1 hw
    have := F.fr _ _ hs; omega
  obtain ⟨b, q, h⟩ := h
  have c0 := h.box.at (j := 0) rfl
  have c1 := h.box.at (j := 1) rfl
  have c2 := h.box.at (j := 2) rfl
  have HC : Hid (∀ z, Kp w z → Calls Try.prog 31 #[v] z fun e w' => ∃ v', e = .returned v' ∧ Dw 0 v' ds w' ∧ Kp w w') := fun z k => (copies_any ok (hd.kp ok k) hf (by decide)).mono (by rintro e w' ⟨v', rfl, q1, q2⟩; exact ⟨v', rfl, q1.zero, kp_trans k q2⟩)
  obtain ⟨a, n, c, rfl⟩ : ∃ a n c, v = .slice a n c := by obtain ⟨a, c, rfl, _⟩ := hd.form; exact ⟨a, _, c, rfl⟩
  -- what the map's store comes to
  have HS : Hid (∀ (v' : Value) (w3 : World), Dw 0 v' ds w3 → Kp w w3 → ∃ w5 q', (Instr.mapUpdate 70 (.map (some b)) (.int .i64 m.next) (.pointer (some ⟨w3.heap.size, 0, none⟩))).run Try.prog (w3.alloc (.cells #[.int .i64 m.now, .int .i64 (-1), v'] 69)) = .ok () w5 ∧ Tb B w5.heap.size t b q' { m with L := m.L ++ [⟨m.next, m.now, -1, ds⟩] } w5 ∧ Ff TP B w w5) := fun v' w3 d3 k3 => by
    have h4 := (h.kp k3).kp (kp_alloc w3 (.cells #[.int .i64 m.now, .int .i64 (-1), v'] 69))
    obtain ⟨w5, r1, r2, r3, _, _⟩ := h4.add (x := m.next) (fr := m.now) (by omega) (by omega) hxn (d3.kp (okRow _ _) (kp_alloc _ _)) (Lc.new w3 [.int .i64 m.now, .int .i64 (-1), v'] _) (Nat.le_trans hB k3.size) (fun y hy e => by
      obtain ⟨s, hs⟩ := Option.ne_none_iff_exists'.1 hy
      obtain ⟨_, u, hu, _⟩ := (h.kp k3).st y s hs
      have := hu.lt; omega)
    exact ⟨w5, _, r1, r2, (Ff.kp (kp_trans k3 (kp_alloc _ _))).trans r3⟩
  have HH : Hid (Fam m.L m.next ∧ (m.L.map St.seq).Nodup ∧ look m.L m.now ≠ none ∧ (m.L.length : Int) ≤ m.most ∧ look m.L m.next = none ∧ Lc 72 t [.map (some b), .int .i64 m.now, .int .i64 m.next, .int .i64 m.most] w) := ⟨F, hsq, hw, hm, hxn, h.box⟩
  clear h F hsq hw hm hxn hd hf ok I hmo
  go_enter Try.func12, Try.ntmps12
  go_upto_region 1 with fail
  refine wp_region_noPanic ?_
  refine wp_region_held_drew (S := fun z => z.cell? ⟨t, 0, none⟩ = some (.map (some b)) ∧ z.cell? ⟨t, 1, none⟩ = some (.int .i64 m.now) ∧ z.cell? ⟨t, 2, none⟩ = some (.int .i64 m.next)) (by kernel_rfl) (⟨c0, c1, c2⟩) (fun hHeld => ?_)
  refine takeAt 0 (some 5) ?_ rfl rfl (by kernel_rfl) (by kernel_rfl) (by kernel_rfl) (fun _ _ _ h => h) (Or.inl ⟨by rfl, ?_⟩) hHeld ?_
  rotate_left
  · intro w hSw
    go_simp <;> with_reducible rfl
  try simp only [Act.put, List.setIfInBounds_toArray, List.set_cons_zero, List.set_cons_succ]
  refine takeAt 1 (some 6) ?_ rfl rfl (by kernel_rfl) (by kernel_rfl) (by kernel_rfl) (fun _ _ _ h => h) (Or.inl ⟨by rfl, ?_⟩) hHeld ?_
  rotate_left
  · intro w hSw
    go_simp <;> with_reducible rfl
  try simp only [Act.put, List.setIfInBounds_toArray, List.set_cons_zero, List.set_cons_succ]
  refine takeAt 2 (some 7) ?_ rfl rfl (by kernel_rfl) (by kernel_rfl) (by kernel_rfl) (fun _ _ _ h => h) (Or.inl ⟨by rfl, ?_⟩) hHeld ?_
  rotate_left
  · intro w hSw
    go_simp <;> with_reducible rfl
  try simp only [Act.put, List.setIfInBounds_toArray, List.set_cons_zero, List.set_cons_succ]
  refine takeAt 3 (some 8) ?_ rfl rfl (by kernel_rfl) (by kernel_rfl) (by kernel_rfl) (fun _ _ _ h => h) (Or.inl ⟨by rfl, ?_⟩) hHeld ?_
  rotate_left
  · intro w hSw
    go_simp <;> with_reducible rfl
  try simp only [Act.put, List.setIfInBounds_toArray, List.set_cons_zero, List.set_cons_succ]
  refine takeAt 4 (some 9) ?_ rfl rfl (by kernel_rfl) (by kernel_rfl) (by kernel_rfl) (fun _ _ _ h => h) (Or.inl ⟨by rfl, ?_⟩) hHeld ?_
  rotate_left
  · intro w hSw
    go_simp <;> with_reducible rfl
  try simp only [Act.put, List.setIfInBounds_toArray, List.set_cons_zero, List.set_cons_succ]
  refine takeAt 5 (some 10) ?_ rfl rfl (by kernel_rfl) (by kernel_rfl) (by kernel_rfl) (fun _ _ _ h => h) (Or.inl ⟨by rfl, ?_⟩) hHeld ?_
  rotate_left
  · intro w hSw
    go_simp <;> with_reducible rfl
  try simp only [Act.put, List.setIfInBounds_toArray, List.set_cons_zero, List.set_cons_succ]
  refine takeAt 6 (some 11) ?_ rfl rfl (by kernel_rfl) (by kernel_rfl) (by kernel_rfl) (fun _ _ _ h => h) (Or.inl ⟨by rfl, ?_⟩) hHeld ?_
  rotate_left
  · intro w hSw
    go_simp <;> with_reducible rfl
  try simp only [Act.put, List.setIfInBounds_toArray, List.set_cons_zero, List.set_cons_succ]
  refine takeAt 7 (some 12) ?_ rfl rfl (by kernel_rfl) (by kernel_rfl) (by kernel_rfl) (fun _ _ _ h => h) (Or.inl ⟨by rfl, ?_⟩) hHeld ?_
  rotate_left
  · intro w hSw
    go_simp <;> with_reducible rfl
  try simp only [Act.put, List.setIfInBounds_toArray, List.set_cons_zero, List.set_cons_succ]
  refine takeAt 8 (some 13) ?_ rfl rfl (by kernel_rfl) (by kernel_rfl) (by kernel_rfl) (fun _ _ _ h => h) (Or.inl ⟨by rfl, ?_⟩) hHeld ?_
  rotate_left
  · intro w hSw
    go_simp <;> with_reducible rfl
  try simp only [Act.put, List.setIfInBounds_toArray, List.set_cons_zero, List.set_cons_succ]
  refine takeAt 9 (some 14) ?_ rfl rfl (by kernel_rfl) (by kernel_rfl) (by kernel_rfl) (fun _ _ _ h => h) (Or.inl ⟨by rfl, ?_⟩) hHeld ?_
  rotate_left
  · intro w hSw
    go_simp <;> with_reducible rfl
  try simp only [Act.put, List.setIfInBounds_toArray, List.set_cons_zero, List.set_cons_succ]
  refine takeAt 10 (some 15) ?_ rfl rfl (by kernel_rfl) (by kernel_rfl) (by kernel_rfl) (fun _ _ _ h => h) (Or.inl ⟨by rfl, ?_⟩) hHeld ?_
  rotate_left
  · intro w hSw
    go_simp <;> with_reducible rfl
  try simp only [Act.put, List.setIfInBounds_toArray, List.set_cons_zero, List.set_cons_succ]
  refine takeAt 11 (some 16) ?_ rfl rfl (by kernel_rfl) (by kernel_rfl) (by kernel_rfl) (fun _ _ _ h => h) (Or.inl ⟨by rfl, ?_⟩) hHeld ?_
  rotate_left
  · intro w hSw
    go_simp <;> with_reducible rfl
  try simp only [Act.put, List.setIfInBounds_toArray, List.set_cons_zero, List.set_cons_succ]
  refine takeAt 12 (some 17) ?_ rfl rfl (by kernel_rfl) (by kernel_rfl) (by kernel_rfl) (fun _ _ _ h => h) (Or.inl ⟨by rfl, ?_⟩) hHeld ?_
  rotate_left
  · intro w hSw
    go_simp <;> with_reducible rfl
  try simp only [Act.put, List.setIfInBounds_toArray, List.set_cons_zero, List.set_cons_succ]
  refine callAt 13 18 31 (vals := #[.slice a n c]) (by kernel_rfl) rfl rfl rfl rfl (by simp [Act.eval]) Try.func31 (by kernel_rfl) (by kernel_rfl) ?_
  refine Calls.mono (HC.out _ (by first | exact Below.refl _ _ | exact kp_drew _)) ?_
  rintro e w3 ⟨v', rfl, d3, k3⟩
  obtain ⟨w5, q', hr5, t5, f5⟩ := HS.out v' w3 d3 k3
  obtain ⟨a', n', c', rfl⟩ : ∃ a' n' c', v' = .slice a' n' c' := by obtain ⟨a', c', rfl, _⟩ := d3.form; exact ⟨a', _, c', rfl⟩
  have H5 : Hid (Tb B w5.heap.size t b q' { m with L := m.L ++ [⟨m.next, m.now, -1, ds⟩] } w5 ∧ Ff TP B w w5) := ⟨t5, f5⟩
  have K3 : Hid (Kp w w3) := k3
  clear d3 k3 t5 f5 HC HS
  refine ⟨_, rfl, ⟨kp_cell K3.out c0, kp_cell K3.out c1, kp_cell K3.out c2⟩, fun hHeld => ?_⟩
  try simp only [Act.put, List.setIfInBounds_toArray, List.set_cons_zero, List.set_cons_succ]
  refine takeAt 14 (some 19) ?_ rfl rfl (by kernel_rfl) (by kernel_rfl) (by kernel_rfl) (fun _ _ _ h => h) (Or.inl ⟨by rfl, ?_⟩) hHeld ?_
  rotate_left
  · intro w hSw
    go_simp <;> with_reducible rfl
  try simp only [Act.put, List.setIfInBounds_toArray, List.set_cons_zero, List.set_cons_succ]
  refine wpAnyH_ready (rs := [15]) (by kernel_rfl) (by simp) ?_
  refine AllReadyH.cons rfl (fun K hK => ?_) AllReadyH.nil
  go_simp
  refine hK.out _ _ (⟨kp_cell (kp_alloc _ _) hHeld.1, kp_cell (kp_alloc _ _) hHeld.2.1, kp_cell (kp_alloc _ _) hHeld.2.2⟩) (fun hHeld => ?_)
  clear hK K
  try simp only [Act.put, List.setIfInBounds_toArray, List.set_cons_zero, List.set_cons_succ]
  refine wpAnyH_ready (rs := [16]) (by kernel_rfl) (by simp) ?_
  refine AllReadyH.cons rfl (fun K hK => ?_) AllReadyH.nil
  go_simp
  refine hK.out _ _ (⟨H5.out.1.box.at (j := 0) rfl, H5.out.1.box.at (j := 1) rfl, H5.out.1.box.at (j := 2) rfl⟩) (fun hHeld => ?_)
  clear hK K
  try simp only [Act.put, List.setIfInBounds_toArray, List.set_cons_zero, List.set_cons_succ]
  clear hr5 c0 c1 c2
  refine wpAnyH_done (by kernel_rfl) ?_ _
  refine NoPanic.normal ?_
  go_upto_region 2 with fail
  have f2 : Hid (look (m.L ++ [⟨m.next, m.now, -1, ds⟩]) m.now ≠ none ∧ m.now ≠ m.next) := ⟨by rw [look_snoc HH.out.2.2.2.2.1, if_neg (by omega)]; exact HH.out.2.2.1, by omega⟩
  obtain ⟨s0, hs0⟩ := Option.ne_none_iff_exists'.1 f2.out.1
  have c0 := H5.out.1.box.at (j := 0) rfl
  have c1 := H5.out.1.box.at (j := 1) rfl
  have c2 := H5.out.1.box.at (j := 2) rfl
  have hlk := H5.out.1.get (by omega) (by omega) hs0
  have hl1 := hlk w5 (Below.refl _ _)
  have hl2 := hlk w5.drew (kp_drew _)
  obtain ⟨_, u0, hu0, _⟩ := H5.out.1.st _ _ hs0
  have g1 := hu0.fz 1
  have g0 := hu0.at (j := 1) rfl
  obtain ⟨W6, hW6⟩ : ∃ W6, (w5.setCell ⟨q' m.now, 1, none⟩ (.int .i64 m.next)).drew = W6 := ⟨_, rfl⟩
  have H6 : Hid (Tb B w5.heap.size t b q' { m with L := setOn m.L m.now m.next ++ [⟨m.next, m.now, -1, ds⟩] } W6 ∧ Ff TP B w W6) := by
    obtain ⟨r1, r2⟩ := H5.out.1.on f2.out.1 m.next
    rw [← hW6]
    refine ⟨?_, (H5.out.2.trans r2).trans (Ff.kp (kp_drew _))⟩
    have := r1.kp (kp_drew _)
    rw [on_snoc f2.out.2] at this
    exact this
  have HW6 : Hid (_ = W6) := hW6
  clear hlk hs0 hu0 hW6
  go_region
  rw [HW6.out]
  clear HW6 c0 c1 c2 hl1 hl2 g0 g1
  have c2 := H6.out.1.box.at (j := 2) rfl
  have g1 := H6.out.1.box.fz 1
  have c1 := H6.out.1.box.at (j := 1) rfl
  have g2 := H6.out.1.box.fz 2
  have H7 : Hid (Tw B ((W6.setCell ⟨t, 1, none⟩ (.int .i64 m.next)).setCell ⟨t, 2, none⟩ (.int .i64 (m.next + 1))).heap.size t (addT m ds) ((W6.setCell ⟨t, 1, none⟩ (.int .i64 m.next)).setCell ⟨t, 2, none⟩ (.int .i64 (m.next + 1))) ∧ Ff TP B w ((W6.setCell ⟨t, 1, none⟩ (.int .i64 m.next)).setCell ⟨t, 2, none⟩ (.int .i64 (m.next + 1)))) := by
    obtain ⟨r1, r2⟩ := H6.out.1.now m.next
    obtain ⟨r3, r4⟩ := r1.nxt (m.next + 1)
    exact ⟨Tw.sized ⟨b, q', r3⟩, (H6.out.2.trans r2).trans r4⟩
  go_wp2_with fail
  generalize hW7 : (W6.setCell ⟨t, 1, none⟩ (.int .i64 m.next)).setCell ⟨t, 2, none⟩ (.int .i64 (m.next + 1)) = W7 at H7 ⊢
  have IA : Hid (Inw (addT m ds)) := HI.out.1.add HI.out.2.2.2.2
  have HA : Hid ((addT m ds).L.length = m.L.length + 1) := by
    show (setOn m.L m.now m.next ++ [_]).length = _
    rw [List.length_append, setOn_len]; rfl
  clear hW7 c1 c2 g1 g2
  have H8 : Hid (Loo B t m ds w W7) := .inl H7.out
  go_loopw [] (fun wr => Hid (Loo B t m ds w wr)) (fun wr => cntOf t wr)
  case atStart => exact H8
  case round =>
    clear H8 H7
    rcases hrel.out with ⟨ht, hf⟩ | ⟨ho, ht, hf⟩
    · obtain ⟨b7, q7, t7⟩ := ht
      have c0 := t7.box.at (j := 0) rfl
      have c1' : wr.cell? ⟨t, 1, none⟩ = some (.int .i64 m.next) := t7.box.at (j := 1) rfl
      have c3 : wr.cell? ⟨t, 3, none⟩ = some (.int .i64 m.most) := t7.box.at (j := 3) rfl
      have hln := fun ty k => t7.len IA.out.inv.nodup ty (wr.drewN k) (kp_drewN _ k)
      have HT7 : Hid (Tb B wr.heap.size t b7 q7 (addT m ds) wr ∧ Ff TP B w wr) := ⟨t7, hf⟩
      clear t7 hf hrel
      by_cases hov : m.most < ((addT m ds).L.length : Int)
      · have d1 : decide (((addT m ds).L.length : Int) > m.most) = true := decide_eq_true hov
        have d2 : decide (m.most < ((addT m ds).L.length : Int)) = true := decide_eq_true hov
        have HOV : Hid (m.most < ((addT m ds).L.length : Int)) := hov
        have HG : Hid (∀ k, Calls Try.prog 32 #[.pointer (some ⟨t, 0, none⟩)] (wr.drewN k) fun e w' => e = .returned (.tuple #[]) ∧ Loo B t m ds w w' ∧ cntOf t w' < cntOf t wr) := fun k => by
          have h1 := HA.out
          have h2 := HI.out.2.2.2.1
          have h3 := HI.out.2.2.1
          have hTk : Tb B wr.heap.size t b7 q7 (addT m ds) (wr.drewN k) := HT7.out.1.kp (kp_drewN _ _)
          refine (letGo_any ⟨b7, q7, hTk⟩ IA.out (by have := HI.out.2.1; show m.next + 1 ≤ 10000; omega) (by omega) (by omega)).mono ?_
          rintro e w' ⟨rfl, r1, r2⟩
          refine ⟨rfl, .inr ⟨HOV.out, r1.sized, (HT7.out.2.trans (Ff.kp (kp_drewN _ _))).trans r2⟩, ?_⟩
          rw [cnt_eq ⟨b7, q7, HT7.out.1⟩ IA.out.inv.nodup, cnt_eq r1 (IA.out.ev (by omega)).inv.nodup]
          have := ev_len IA.out (by omega)
          omega
        clear HT7 hov
        generalize (addT m ds).L.length = K7 at hln d1 d2
        go_wp2_with fail
        go_quiet (fail)
        go_wp2_with fail
        refine Calls.mono (HG.out _) ?_
        rintro e w9 ⟨rfl, r1, r2⟩
        have H9 : Hid (Loo B t m ds w w9) := r1
        have HM9 : Hid (cntOf t w9 < cntOf t wr) := r2
        clear HG r1 r2
        go_wp2_with fail
        go_roundw
        case rel => exact H9
        case measure => exact HM9.out
      · have d1 : decide (((addT m ds).L.length : Int) > m.most) = false := decide_eq_false hov
        have d2 : decide (m.most < ((addT m ds).L.length : Int)) = false := decide_eq_false hov
        have HX : Hid (∀ k, Tw B (wr.drewN k).heap.size t (addE m ds) (wr.drewN k) ∧ Ff TP B w (wr.drewN k)) := fun k => by
          have e1 : addE m ds = addT m ds := by unfold addE; rw [if_neg hov]
          rw [e1]
          exact ⟨(Tw.kp ⟨b7, q7, HT7.out.1⟩ (kp_drewN _ _)).sized, HT7.out.2.trans (Ff.kp (kp_drewN _ _))⟩
        clear HT7 hov
        generalize (addT m ds).L.length = K7 at hln d1 d2
        go_wp2_with fail
        go_quiet (fail)
        go_wp2_with fail
        go_ret
        exact ⟨rfl, HX.out _⟩
    · obtain ⟨b7, q7, t7⟩ := ht
      have hpn := ev_now (addT m ds)
      have IE : Hid (Inw (evT (addT m ds))) := IA.out.ev (by have := HA.out; have := HI.out.2.2.2.1; omega)
      have c0 := t7.box.at (j := 0) rfl
      have c1' : wr.cell? ⟨t, 1, none⟩ = some (.int .i64 m.next) := by have := t7.box.at (j := 1) rfl; rw [hpn.1] at this; exact this
      have c3 : wr.cell? ⟨t, 3, none⟩ = some (.int .i64 m.most) := by have := t7.box.at (j := 3) rfl; rw [hpn.2.2] at this; exact this
      have hln := fun ty k => t7.len IE.out.inv.nodup ty (wr.drewN k) (kp_drewN _ k)
      have hno : ¬ m.most < ((evT (addT m ds)).L.length : Int) := by
        have := ev_len IA.out (by have := HA.out; have := HI.out.2.2.2.1; omega)
        have := HA.out
        have := HI.out.2.2.1
        omega
      have d1 : decide (((evT (addT m ds)).L.length : Int) > m.most) = false := decide_eq_false hno
      have d2 : decide (m.most < ((evT (addT m ds)).L.length : Int)) = false := decide_eq_false hno
      have HX : Hid (∀ k, Tw B (wr.drewN k).heap.size t (addE m ds) (wr.drewN k) ∧ Ff TP B w (wr.drewN k)) := fun k => by
        have e1 : addE m ds = evT (addT m ds) := by unfold addE; rw [if_pos ho]
        rw [e1]
        exact ⟨(Tw.kp ⟨b7, q7, t7⟩ (kp_drewN _ _)).sized, hf.trans (Ff.kp (kp_drewN _ _))⟩
      clear t7 hf ho hrel hno hpn
      generalize (evT (addT m ds)).L.length = K7 at hln d1 d2
      go_wp2_with fail
      go_quiet (fail)
      go_wp2_with fail
      go_ret
      exact ⟨rfl, HX.out _⟩
end
end Go.Proofs.Ytehghbinjfkhgaa
/- The document's kids, gone. -/
namespace Go.Proofs.Ytehghbinjfkhgaa
open Go.ChangeShapes Go.WideShapes Go.ChangeAt Go.RowKit Go.Maps Go.MapKept
set_option linter.unusedVariables false
set_option linter.unusedSimpArgs false
set_option maxRecDepth 100000
theorem kids_snoc (A : List St) (s : St) (x : Int) : kidsL (A ++ [s]) x = if s.fr = x then kidsL A x ++ [s] else kidsL A x := by
  unfold kidsL
  rw [List.filter_append]
  by_cases q : s.fr = x
  · rw [if_pos q]; simp [q]
  · rw [if_neg q]; simp [q]
theorem newest_snoc (A : List St) (s : St) (x : Int) : newest (A ++ [s]) x = if s.fr = x then s.seq else newest A x := by
  unfold newest
  rw [kids_snoc]
  by_cases q : s.fr = x
  · rw [if_pos q, if_pos q]; simp
  · rw [if_neg q, if_neg q]
theorem flatR_app : ∀ (A B : List St) (va vb : List Value), va.length = A.length → flatR (A ++ B) (va ++ vb) = flatR A va ++ flatR B vb
  | [], B, [], vb, _ => rfl
  | [], B, _ :: _, vb, h => by simp at h
  | s :: A, B, [], vb, h => by simp at h
  | s :: A, B, v :: va, vb, h => by
    simp only [List.length_cons, Nat.add_right_cancel_iff] at h
    have := flatR_app A B va vb h
    simp only [List.cons_append, flatR, this]
theorem drop_at_idx {L : List St} (hs : (L.map St.seq).Pairwise (· < ·)) {i : Nat} {s : St} (hi : L[i]? = some s) : dropL L s.seq = L.take i ++ L.drop (i + 1) := by
  induction L generalizing i with
  | nil => cases hi
  | cons a L ih =>
    rw [List.map_cons, List.pairwise_cons] at hs
    unfold dropL at ih ⊢
    rw [List.filter_cons]
    cases i with
    | zero =>
      simp only [List.getElem?_cons_zero, Option.some.injEq] at hi
      subst hi
      rw [if_neg (by simp)]
      show List.filter _ L = L
      exact List.filter_eq_self.2 fun b hb => by
        have := hs.1 b.seq (List.mem_map.2 ⟨b, hb, rfl⟩)
        simp; omega
    | succ i =>
      rw [List.getElem?_cons_succ] at hi
      have := hs.1 s.seq (List.mem_map.2 ⟨s, List.mem_of_getElem? hi, rfl⟩)
      rw [if_pos (by simp; omega), ih hs.2 hi]
      rfl
section
variable {B C r : Nat} {m : Tr} {w w1 : World}
set_option maxHeartbeats 8000000 in
theorem rkids_any (h : Rw B C r m w) (hl : m.L.length ≤ 250) (x : Int) :
    Calls Try.prog 71 #[.pointer (some ⟨r, 0, none⟩), .int .i64 x] w fun e w' => e = .returned (.tuple #[.int .i64 (kidsL m.L x).length, .int .i64 (newest m.L x)]) ∧ w' = w := by
  obtain ⟨v, vs, h⟩ := h
  have c1 := h.box.at (j := 1) rfl
  obtain ⟨N, hN⟩ : ∃ N, m.L.length = N := ⟨_, rfl⟩
  obtain ⟨a, c, hv, hc1, hc2⟩ := owns_form h.row
  unfold maxLen at hc2
  have HC : Hid (∀ i, i < N → ∃ g s, a = some ⟨g, 0, none⟩ ∧ w.cell? ⟨g, i * 4, none⟩ = some (.int .i64 s.seq) ∧ w.cell? ⟨g, i * 4 + 1, none⟩ = some (.int .i64 s.fr) ∧ m.L.take (i + 1) = m.L.take i ++ [s]) := fun i hi => by
    obtain ⟨s, hs⟩ : ∃ s, m.L[i]? = some s := ⟨_, List.getElem?_eq_getElem (by omega)⟩
    obtain ⟨g, c', u, e, _, _, _, _, q0, q1, _⟩ := h.cell hs
    rw [hv] at e; cases e
    exact ⟨g, s, rfl, q0, q1, take_snoc _ hs⟩
  rw [hv, hN] at c1
  have HN : Hid (m.L.take N = m.L) := by rw [← hN]; exact List.take_length
  rw [hN] at hl hc1
  clear h hN hv
  go_enter Try.func71, Try.ntmps71
  go_wp2_with fail
  go_loopw [6, 7, 8] (fun v6 v7 v8 wr => ∃ (i k : Nat) (f : Int), i ≤ N ∧ (k : Int) ≤ i ∧ v6 = .int .i64 k ∧ v7 = .int .i64 f ∧ v8 = .int .i64 i ∧ wr = w ∧ Hid ((kidsL (m.L.take i) x).length = k ∧ newest (m.L.take i) x = f)) (fun _ _ v8 _ => N - (intOf v8).toNat)
  case atStart => exact ⟨0, 0, -1, Nat.zero_le _, by omega, rfl, rfl, rfl, rfl, rfl, rfl⟩
  case round =>
    obtain ⟨i, k, f, hi, hki, rfl, rfl, rfl, rfl, HI⟩ := hrel
    rcases Nat.lt_or_ge i N with p | p
    · have d1 : decide ((i : Int) < (N : Int)) = true := decide_eq_true (by omega)
      have d2 : decide (i < N) = true := decide_eq_true p
      obtain ⟨g, s, rfl, q0, q1, q2⟩ := HC.out i p
      have HS : Hid ((kidsL (m.L.take (i + 1)) x) = (if s.fr = x then kidsL (m.L.take i) x ++ [s] else kidsL (m.L.take i) x) ∧ newest (m.L.take (i + 1)) x = if s.fr = x then s.seq else newest (m.L.take i) x) := ⟨by rw [q2, kids_snoc], by rw [q2, newest_snoc]⟩
      clear q2
      by_cases e : s.fr = x
      · have d3 : (s.fr == x) = true := by simpa using e
        have HX : Hid ((kidsL (m.L.take (i + 1)) x).length = k + 1 ∧ newest (m.L.take (i + 1)) x = s.seq) := by
          rw [HS.out.1, HS.out.2, if_pos e, if_pos e, List.length_append, HI.out.1]; exact ⟨rfl, rfl⟩
        clear HS HI e
        go_wp2_with fail
        go_roundw
        case rel => exact ⟨i + 1, k + 1, s.seq, by omega, by omega, by go_num, rfl, by go_num, trivial, HX.out⟩
        case measure => simp only [intOf]; omega
      · have d3 : (s.fr == x) = false := by simpa using e
        have HX : Hid ((kidsL (m.L.take (i + 1)) x).length = k ∧ newest (m.L.take (i + 1)) x = f) := by
          rw [HS.out.1, HS.out.2, if_neg e, if_neg e]; exact HI.out
        clear HS HI e
        go_wp2_with fail
        go_roundw
        case rel => exact ⟨i + 1, k, f, by omega, by omega, rfl, rfl, by go_num, trivial, HX.out⟩
        case measure => simp only [intOf]; omega
    · have d1 : decide ((i : Int) < (N : Int)) = false := decide_eq_false (by omega)
      have d2 : decide (i < N) = false := decide_eq_false (by omega)
      obtain rfl : i = N := by omega
      have HX : Hid ((kidsL m.L x).length = k ∧ newest m.L x = f) := by rw [← HN.out]; exact HI.out
      clear HI HC
      go_wp2_with fail
      go_ret2
      exact ⟨by rw [HX.out.1, HX.out.2]; rfl, rfl⟩
end
end Go.Proofs.Ytehghbinjfkhgaa
/- The document's gone. -/
namespace Go.Proofs.Ytehghbinjfkhgaa
open Go.ChangeShapes Go.WideShapes Go.ChangeAt Go.RowKit Go.Maps Go.MapKept
set_option linter.unusedVariables false
set_option linter.unusedSimpArgs false
set_option maxRecDepth 100000
/-- States are laid behind others. -/
theorem wpl_rs {w : World} {ops : Array Oper} {rest : List Oper} {o : Oper} {ac : Act} {Q : Exit → Act → World → Prop} (hgd : o.guard = none) (s x : Operand) (ho : o.op = .call { callee := .builtin .append, args := #[s, x], argTypes := #[46, 46] })
    {D n M : Nat} {v : Value} {xs : List Value} (hs : ac.eval s = v) (hr : w.ownsRow D 81 4 v n xs) {ad : Addr} {sa : Option Addr} {k c : Nat} {news : List Value} (hx : ac.eval x = .slice sa k c) (hsa : sa = some ad) (hl : news.length = k * 4) (hc : ∀ j u, news[j]? = some u → w.cell? (ad.add j) = some u) (h1 : ∀ u ∈ news, u.oneCell' = true) (hM : n + k = M) (hlim : M ≤ 1000) (hD : D ≤ w.heap.size)
    (K : ∀ a' c' w', M ≤ c' → c' ≤ maxLen → w'.ownsRow D 81 4 (.slice a' M c') M (xs ++ news) → w.grownBy w' v.ownBlock → Below D w w' → wpList Try.prog ops Q rest (ac.put o.dst (.slice a' M c')) w') : wpList Try.prog ops Q (o :: rest) ac w := by
  subst hM
  subst hsa
  obtain ⟨i9, hi9, z0, z1, z2⟩ := info_parts infoRS
  refine wpList_append_own w hgd s x 46 ho D 81 i9 _ 4 48 Try.underlying46 hi9 z0 z1 z2 rfl (by decide) v n xs hs hr ad k c news hx hl hc h1 (by unfold maxLen; omega) (by omega) hD ?_
  intro v' w' q1 q2 _
  obtain ⟨a', c', rfl, q3, q4⟩ := owns_form q1
  exact K a' c' w' q3 q4 q1 q2 (below_grown hr hD q2)
theorem flatR_one : ∀ (L : List St) (vs : List Value), (∀ u ∈ vs, u.oneCell' = true) → ∀ u ∈ flatR L vs, u.oneCell' = true
  | [], _, _, u, h => by cases h
  | _ :: _, [], _, u, h => by cases h
  | s :: L, v :: vs, hv, u, h => by
    simp only [flatR, List.mem_append, List.mem_cons, List.not_mem_nil, or_false] at h
    rcases h with rfl | rfl | rfl | rfl | h
    · rfl
    · rfl
    · exact hv _ (by simp)
    · rfl
    · exact flatR_one L vs (fun u hu => hv u (by simp [hu])) u h
section
variable {B C r : Nat} {m : Tr} {w w1 : World} {v : Value} {vs : List Value} {s : St}
/-- The rows of those ahead of one, and behind it. -/
theorem Rb.parts (h : Rb B C r v vs m w) (hs : (m.L.map St.seq).Pairwise (· < ·)) {i : Nat} (hi : m.L[i]? = some s) :
    flatR (dropL m.L s.seq) (vs.take i ++ vs.drop (i + 1)) = (flatR m.L vs).take (i * 4) ++ (flatR m.L vs).drop ((i + 1) * 4) ∧ Bys C (dropL m.L s.seq) (vs.take i ++ vs.drop (i + 1)) w ∧ (dropL m.L s.seq).length + 1 = m.L.length := by
  have hil := (List.getElem?_eq_some_iff.1 hi).1
  have hvl := h.bys.1
  have e0 := drop_at_idx hs hi
  have ft : (flatR m.L vs).take (i * 4) = flatR (m.L.take i) (vs.take i) := by
    have e1 : flatR m.L vs = flatR (m.L.take i) (vs.take i) ++ flatR (m.L.drop i) (vs.drop i) := by
      rw [← flatR_app _ _ _ _ (by rw [List.length_take, List.length_take]; omega), List.take_append_drop, List.take_append_drop]
    rw [e1]
    refine List.take_left' ?_
    rw [flatR_len _ _ (by rw [List.length_take, List.length_take]; omega), List.length_take]
    rw [Nat.min_eq_left (by omega)]
  have fd : (flatR m.L vs).drop ((i + 1) * 4) = flatR (m.L.drop (i + 1)) (vs.drop (i + 1)) := by
    have e1 : flatR m.L vs = flatR (m.L.take (i + 1)) (vs.take (i + 1)) ++ flatR (m.L.drop (i + 1)) (vs.drop (i + 1)) := by
      rw [← flatR_app _ _ _ _ (by rw [List.length_take, List.length_take]; omega), List.take_append_drop, List.take_append_drop]
    rw [e1]
    refine List.drop_left' ?_
    rw [flatR_len _ _ (by rw [List.length_take, List.length_take]; omega), List.length_take]
    rw [Nat.min_eq_left (by omega)]
  refine ⟨?_, ⟨?_, fun j s' u h1 h2 => ?_⟩, drop_len hs (by rw [mem_look hs (List.mem_of_getElem? hi)]; simp)⟩
  · rw [e0, ft, fd, flatR_app _ _ _ _ (by rw [List.length_take, List.length_take]; omega)]
  · rw [e0, List.length_append, List.length_append, List.length_take, List.length_take, List.length_drop, List.length_drop]; omega
  · rw [e0] at h1
    by_cases q : j < i
    · rw [List.getElem?_append_left (by rw [List.length_take]; omega), List.getElem?_take, if_pos q] at h1 h2
      exact h.bys.2 j s' u h1 h2
    · rw [List.getElem?_append_right (by rw [List.length_take]; omega), List.length_take, List.getElem?_drop] at h1 h2
      rw [Nat.min_eq_left (by omega)] at h1 h2
      exact h.bys.2 _ s' u h1 h2
/-- Another list of states is laid. -/
theorem Rb.lay (h : Rb B C r v vs m w) {v' : Value} {vs' : List Value} {L' : List St} {D : Nat} (hD : B ≤ D) (hr : w.ownsRow D 81 4 v' L'.length (flatR L' vs')) (hb : Bys C L' vs' w) : Rb B C r v' vs' { m with L := L' } (w.setCell ⟨r, 1, none⟩ v') ∧ Ff TQ B w (w.setCell ⟨r, 1, none⟩ v') := by
  have f := fr_set r 1 v' w
  have ff : Ff TQ B w (w.setCell ⟨r, 1, none⟩ v') := Ff.on f h.lr h.box (.inl rfl)
  exact ⟨⟨h.lr, h.box.set 1 _, row_fr (row_lift hr fun j hj => Nat.le_trans hD (hr.lt j hj).1) f fun j hj e => row_ne hr h.box (by decide) (by rw [hj, e]), hb.ff ff (tq_of (by decide) (by decide)) (tq_of (by decide) (by decide))⟩, ff⟩
set_option maxHeartbeats 16000000 in
theorem rgone_any (h : Rw B C r m w) (hs : (m.L.map St.seq).Pairwise (· < ·)) (hl : m.L.length ≤ 250) {i : Nat} (hi : m.L[i]? = some s) (hB : B ≤ w.heap.size) (hfr : (s.fr = -1 ∧ look m.L (-1) = none) ∨ (0 ≤ s.fr ∧ s.fr ≠ s.seq ∧ look m.L s.fr ≠ none)) :
    Calls Try.prog 72 #[.pointer (some ⟨r, 0, none⟩), .int .i64 i] w fun e w' => e = .returned (.tuple #[]) ∧ Rw B C r { m with L := cutT m.L s.seq s.fr } w' ∧ Ff TQ B w w' := by
  obtain ⟨v, vs, h⟩ := h
  have hil := (List.getElem?_eq_some_iff.1 hi).1
  obtain ⟨g, c, u, rfl, hBg, hc1, hc2, hvi, q0, q1, q2, q3, qf⟩ := h.cell hi
  have c1 := h.box.at (j := 1) rfl
  have f1 := h.box.fz 1
  obtain ⟨hfl, hby, hln⟩ := h.parts hs hi
  obtain ⟨N, hN⟩ : ∃ N, m.L.length = N := ⟨_, rfl⟩
  have HC : Hid (∀ j u, (flatR m.L vs)[j]? = some u → w.cell? ⟨g, j, none⟩ = some u) := fun j u hj => by
    rcases h.row.2 with ⟨e0, _⟩ | ⟨g', c', cur, e0, hb, hg, p1, p2, p3, p4⟩
    · cases e0
    cases e0
    have hjl := (List.getElem?_eq_some_iff.1 hj).1
    rw [flatR_len _ _ h.bys.1] at hjl
    rw [cell_at hg, ← Array.getElem?_toList]
    rw [← p4, List.getElem?_take, if_pos (by omega)] at hj
    exact hj
  have HO1 : Hid (∀ u ∈ flatR m.L vs, u.oneCell' = true) := flatR_one _ _ fun u hu => by
    obtain ⟨j, hj⟩ := List.getElem?_of_mem hu
    have hjl := (List.getElem?_eq_some_iff.1 hj).1
    have hjl2 : j < m.L.length := by have := h.bys.1; omega
    obtain ⟨a, c, rfl, _⟩ := (h.bys.2 j m.L[j] u (List.getElem?_eq_getElem (show j < m.L.length by have := h.bys.1; omega)) hj).1.form
    rfl
  obtain ⟨ua, un, uc, rfl⟩ : ∃ a n c, u = .slice a n c := by
    obtain ⟨a, c, q, _⟩ := (h.bys.2 i s u hi hvi).1.form
    exact ⟨a, _, c, q⟩
  have HH : Hid (Rb B C r (.slice (some ⟨g, 0, none⟩) m.L.length c) vs m w ∧ (m.L.map St.seq).Pairwise (· < ·) ∧ m.L[i]? = some s ∧ B ≤ w.heap.size ∧ m.L.length = N ∧ (flatR m.L vs).length = N * 4) := ⟨h, hs, hi, hB, hN, by rw [flatR_len _ _ h.bys.1, hN]⟩
  have HP : Hid (flatR (dropL m.L s.seq) (vs.take i ++ vs.drop (i + 1)) = (flatR m.L vs).take (i * 4) ++ (flatR m.L vs).drop ((i + 1) * 4) ∧ Bys C (dropL m.L s.seq) (vs.take i ++ vs.drop (i + 1)) w ∧ (dropL m.L s.seq).length + 1 = m.L.length) := ⟨hfl, hby, hln⟩
  rw [hN] at c1 hc1 hl hil
  clear h hi hfl hby hln hB hs hvi
  go_enter Try.func72, Try.ntmps72
  go_upto_region 2 with fail
  obtain ⟨W1, hW1⟩ : ∃ W1, w.alloc (.cells #[.int .i64 s.seq, .int .i64 s.fr, .slice ua un uc, .int .i64 s.on] 81) = W1 := ⟨_, rfl⟩
  rw [hW1]
  have k1 : Kp w W1 := by rw [← hW1]; exact kp_alloc _ _
  have b1 : Lc 81 w.heap.size [.int .i64 s.seq, .int .i64 s.fr, .slice ua un uc, .int .i64 s.on] W1 := by rw [← hW1]; exact Lc.new w _ _
  have HW : Hid (Kp w W1 ∧ Lc 81 w.heap.size [.int .i64 s.seq, .int .i64 s.fr, .slice ua un uc, .int .i64 s.on] W1) := ⟨k1, b1⟩
  have HT : Hid (((flatR m.L vs).take (i * 4)).length = i * 4 ∧ (∀ j u, ((flatR m.L vs).take (i * 4))[j]? = some u → W1.cell? ((⟨g, 0, none⟩ : Addr).add j) = some u) ∧ (∀ u ∈ (flatR m.L vs).take (i * 4), u.oneCell' = true) ∧ W1.heap.size ≤ W1.heap.size ∧ W1.ownsRow W1.heap.size 81 4 (.slice none 0 0) 0 []) := by
    refine ⟨by rw [List.length_take, HH.out.2.2.2.2.2]; omega, fun j u hj => ?_, fun u hu => HO1.out u (List.mem_of_mem_take hu), Nat.le_refl _, World.ownsRow_nil _ _ _ _⟩
    rw [List.getElem?_take] at hj
    by_cases q : j < i * 4
    · rw [if_pos q] at hj; rw [addr_add]; exact kp_cell k1 (HC.out j u hj)
    · rw [if_neg q] at hj; cases hj
  have c1' := kp_cell k1 c1
  have hil2 : i ≤ c := by omega
  have hiI : (i : Int) ≤ (c : Int) := by omega
  clear hW1 k1 b1 q0 q1 q2 q3 qf f1
  have hMM : i + (N - (i + 1)) = N - 1 := by omega
  go_upto_region 3 with (at_builtin; refine wpl_rs rfl (.tmp 16) (.tmp 22) rfl (D := W1.heap.size) (n := 0) (v := .slice none 0 0) (xs := []) (M := i) rfl HT.out.2.2.2.2 (ad := ⟨g, 0, none⟩) (k := i) (c := c) rfl rfl HT.out.1 HT.out.2.1 HT.out.2.2.1 (by omega) (by omega) HT.out.2.2.2.1 ?_; intro a2 c2 w2 hc2a hc2b hr2 hg2 hb2)
  have k2 : Kp w w2 := kp_trans HW.out.1 hb2
  have HR2 : Hid (w2.ownsRow W1.heap.size 81 4 (.slice a2 i c2) i ([] ++ (flatR m.L vs).take (i * 4)) ∧ Kp W1 w2) := ⟨hr2, hb2⟩
  have HT2 : Hid (((flatR m.L vs).drop ((i + 1) * 4)).length = (N - (i + 1)) * 4 ∧ (∀ j u, ((flatR m.L vs).drop ((i + 1) * 4))[j]? = some u → w2.cell? ((if c = i + 1 then ⟨g, 0, none⟩ else ⟨g, (i + 1) * 4, none⟩ : Addr).add j) = some u) ∧ (∀ u ∈ (flatR m.L vs).drop ((i + 1) * 4), u.oneCell' = true) ∧ W1.heap.size ≤ w2.heap.size) := by
    refine ⟨by rw [List.length_drop, HH.out.2.2.2.2.2]; omega, fun j u hj => ?_, fun u hu => HO1.out u (List.mem_of_mem_drop hu), hb2.size⟩
    rw [List.getElem?_drop] at hj
    have hjl := (List.getElem?_eq_some_iff.1 hj).1
    rw [HH.out.2.2.2.2.2] at hjl
    rw [if_neg (by omega), add2]; exact kp_cell k2 (HC.out _ u hj)
  have c2' := kp_cell k2 c1
  obtain ⟨sa, hsa⟩ : ∃ sa, (if c = i + 1 then some (⟨g, 0, none⟩ : Addr) else some ⟨g, (i + 1) * 4, none⟩) = sa := ⟨_, rfl⟩
  have HSA : Hid (sa = some (if c = i + 1 then ⟨g, 0, none⟩ else ⟨g, (i + 1) * 4, none⟩)) := by rw [← hsa]; split <;> rfl
  clear hr2 hg2 hb2 k2 c1' HT hc2a hc2b
  go_upto_region 4 with (at_builtin; refine wpl_rs rfl (.tmp 24) (.tmp 31) rfl (D := W1.heap.size) (n := i) (v := .slice a2 i c2) (xs := [] ++ (flatR m.L vs).take (i * 4)) (M := N - 1) rfl HR2.out.1 (ad := if c = i + 1 then ⟨g, 0, none⟩ else ⟨g, (i + 1) * 4, none⟩) (k := N - (i + 1)) (c := c - (i + 1)) rfl HSA.out HT2.out.1 HT2.out.2.1 HT2.out.2.2.1 hMM (by omega) HT2.out.2.2.2 ?_; intro a3 c3 w3 hc3a hc3b hr3 hg3 hb3)
  have k13 : Kp W1 w3 := HR2.out.2.trans hb3
  have k3 : Kp w w3 := kp_trans HW.out.1 k13
  have hlD : (dropL m.L s.seq).length = N - 1 := by have := HP.out.2.2; rw [HH.out.2.2.2.2.1] at this; omega
  have rb3 := HH.out.1.kp k3
  obtain ⟨r4, f4⟩ := rb3.lay (v' := .slice a3 (N - 1) c3) (vs' := vs.take i ++ vs.drop (i + 1)) (L' := dropL m.L s.seq) (D := W1.heap.size) (Nat.le_trans HH.out.2.2.2.1 HW.out.1.size) (by rw [hlD, HP.out.1]; exact hr3) (HP.out.2.1.kp k3)
  have hrw : r ≠ w.heap.size := by have := HH.out.1.box.lt; omega
  have b4 : Lc 81 w.heap.size [.int .i64 s.seq, .int .i64 s.fr, .slice ua un uc, .int .i64 s.on] (w3.setCell ⟨r, 1, none⟩ (.slice a3 (N - 1) c3)) := (HW.out.2.kp k13).other hrw
  have c3' := rb3.box.at (j := 1) rfl
  have f3' := rb3.box.fz 1
  rw [HH.out.2.2.2.2.1] at c3'
  obtain ⟨W4, hW4⟩ : ∃ W4, w3.setCell ⟨r, 1, none⟩ (.slice a3 (N - 1) c3) = W4 := ⟨_, rfl⟩
  rw [hW4] at r4 f4 b4
  have HW4 : Hid (_ = W4) := hW4
  have H4 : Hid (Rb B C r (.slice a3 (N - 1) c3) (vs.take i ++ vs.drop (i + 1)) { m with L := dropL m.L s.seq } W4 ∧ Ff TQ B w W4 ∧ (dropL m.L s.seq).length = N - 1 ∧ ((dropL m.L s.seq).map St.seq).Pairwise (· < ·)) := ⟨r4, (Ff.kp k3).trans f4, hlD, drop_sorted HH.out.2.1 _⟩
  have x0 := b4.at (j := 0) rfl
  have x1 := b4.at (j := 1) rfl
  have x4 := r4.box.at (j := 1) rfl
  clear hr3 hg3 hb3 k13 k3 r4 f4 b4 rb3 hlD HT2 HR2 c2' hc3a hc3b hW4
  go_upto_region 5 with fail
  rw [HW4.out]
  clear c3' f3' HW4
  rcases hfr with ⟨e1, e2⟩ | ⟨e1, e2, e3⟩
  · have d1 : decide (s.fr ≥ 0) = false := decide_eq_false (by omega)
    have d2 : decide (0 ≤ s.fr) = false := decide_eq_false (by omega)
    have hn : look (dropL m.L s.seq) s.fr = none := by rw [look_drop, e1, e2]; split <;> rfl
    have HF : Hid _ := find_none (m := { m with L := dropL m.L s.seq }) ⟨_, _, H4.out.1⟩ (by show (dropL m.L s.seq).length ≤ 250; rw [H4.out.2.2.1]; omega) hn
    have HX : Hid (∀ k, Rw B C r { m with L := cutT m.L s.seq s.fr } (W4.drewN k) ∧ Ff TQ B w (W4.drewN k)) := fun k => by
      have e9 : cutT m.L s.seq s.fr = dropL m.L s.seq := by unfold cutT; rw [hn]
      rw [e9]
      exact ⟨⟨_, _, H4.out.1.kp (kp_drewN _ _)⟩, H4.out.2.1.trans (Ff.kp (kp_drewN _ _))⟩
    clear hn H4 e1 e2 HP HH
    go_wp2_with fail
    refine Calls.mono HF.out ?_
    rintro e w5 ⟨rfl, rfl⟩
    clear HF
    go_wp2_with fail
    go_quiet (fail)
    go_wp2_with fail
    go_end0
    exact ⟨rfl, HX.out _⟩
  · have d1 : decide (s.fr ≥ 0) = true := decide_eq_true (by omega)
    have d2 : decide (0 ≤ s.fr) = true := decide_eq_true (by omega)
    have hn : look (dropL m.L s.seq) s.fr ≠ none := by rw [look_drop, if_neg e2]; exact e3
    obtain ⟨p, hp⟩ := Option.ne_none_iff_exists'.1 hn
    obtain ⟨k, hk⟩ := idx_of hn
    have hkp := at_of H4.out.2.2.2 hk hp
    have hkl := (List.getElem?_eq_some_iff.1 hkp).1
    have HF : Hid (Calls Try.prog 60 #[.pointer (some ⟨r, 0, none⟩), .int .i64 s.fr] W4 fun e w' => e = .returned (.int .i64 k) ∧ w' = W4) := find_some (m := { m with L := dropL m.L s.seq }) ⟨_, _, H4.out.1⟩ (by show (dropL m.L s.seq).length ≤ 250; rw [H4.out.2.2.1]; omega) (H4.out.2.2.2.imp fun h e => by omega) hk
    obtain ⟨g4, c4, u4, e4, hBg4, hcc1, hcc2, _, y0, _, _, y3, fz4⟩ := H4.out.1.cell hkp
    have e5 : a3 = some ⟨g4, 0, none⟩ := by simp only [Value.slice.injEq] at e4; exact e4.1
    subst e5
    rw [H4.out.2.2.1] at hkl
    have hkI : (k : Int) < ((N - 1 : Nat) : Int) := by omega
    have hk0 : decide ((k : Int) ≥ 0) = true := decide_eq_true (by omega)
    have hk00 : decide ((0 : Int) ≤ (k : Int)) = true := decide_eq_true (by omega)
    have fz := fz4 (k * 4 + 3)
    have HK : Hid ((((dropL m.L s.seq)).map St.seq)[k]? = some s.fr ∧ look (dropL m.L s.seq) s.fr = some p) := ⟨hk, hp⟩
    have HKD : Hid (∀ z, Kp W4 z → Calls Try.prog 71 #[.pointer (some ⟨r, 0, none⟩), .int .i64 s.fr] z fun e w' => e = .returned (.tuple #[.int .i64 (kidsL (dropL m.L s.seq) s.fr).length, .int .i64 (newest (dropL m.L s.seq) s.fr)]) ∧ w' = z) := fun z kz => rkids_any (m := { m with L := dropL m.L s.seq }) ⟨_, _, H4.out.1.kp kz⟩ (by show (dropL m.L s.seq).length ≤ 250; rw [H4.out.2.2.1]; omega) s.fr
    clear hn hp hk hkp e4 hcc1 hcc2 e1 e3 fz4 HP HH
    by_cases e : p.on = s.seq
    · have d3 : (p.on == s.seq) = true := by simpa using e
      have HX : Hid (∀ z, Kp W4 z → Rw B C r { m with L := cutT m.L s.seq s.fr } (z.setCell ⟨g4, k * 4 + 3, none⟩ (.int .i64 (newest (dropL m.L s.seq) s.fr))) ∧ Ff TQ B w (z.setCell ⟨g4, k * 4 + 3, none⟩ (.int .i64 (newest (dropL m.L s.seq) s.fr)))) := fun z kz => by
        have e9 : cutT m.L s.seq s.fr = setOn (dropL m.L s.seq) s.fr (newest (dropL m.L s.seq) s.fr) := by unfold cutT; rw [HK.out.2]; exact if_pos e
        rw [e9]
        obtain ⟨r1, r2⟩ := (H4.out.1.kp kz).onN (n := N - 1) (H4.out.2.2.1).symm (H4.out.2.2.2.imp fun h e => by omega) HK.out.1 (newest (dropL m.L s.seq) s.fr)
        exact ⟨⟨_, _, r1⟩, (H4.out.2.1.trans (Ff.kp kz)).trans r2⟩
      clear e
      generalize N - 1 = M1 at *
      go_wp2_with fail
      refine Calls.mono HF.out ?_
      rintro e w5 ⟨rfl, rfl⟩
      clear HF
      go_wp2_with fail
      go_quiet (fail)
      go_wp2_with fail
      refine Calls.mono (HKD.out _ (kp_drewN _ _)) ?_
      rintro e w5 ⟨rfl, rfl⟩
      clear HKD
      go_wp2_with fail
      go_end0
      exact ⟨rfl, HX.out _ (kp_drewN _ _)⟩
    · have d3 : (p.on == s.seq) = false := by simpa using e
      have HX : Hid (∀ z, Kp W4 z → Rw B C r { m with L := cutT m.L s.seq s.fr } z ∧ Ff TQ B w z) := fun z kz => by
        have e9 : cutT m.L s.seq s.fr = dropL m.L s.seq := by unfold cutT; rw [HK.out.2]; exact if_neg e
        rw [e9]
        exact ⟨⟨_, _, H4.out.1.kp kz⟩, H4.out.2.1.trans (Ff.kp kz)⟩
      clear e HKD
      generalize N - 1 = M1 at *
      go_wp2_with fail
      refine Calls.mono HF.out ?_
      rintro e w5 ⟨rfl, rfl⟩
      clear HF
      go_wp2_with fail
      go_quiet (fail)
      go_wp2_with fail
      go_end0
      exact ⟨rfl, HX.out _ (kp_drewN _ _)⟩
end
end Go.Proofs.Ytehghbinjfkhgaa
/- The document's evict. -/
namespace Go.Proofs.Ytehghbinjfkhgaa
open Go.ChangeShapes Go.WideShapes Go.ChangeAt Go.RowKit Go.Maps Go.MapKept
set_option linter.unusedVariables false
set_option linter.unusedSimpArgs false
set_option maxRecDepth 100000
theorem flatR_put : ∀ {L : List St} {vs : List Value} {i : Nat} {s : St} (fr : Int) (by_ : List Dl) (v : Value), vs.length = L.length → L[i]? = some s → flatR (L.set i { s with fr := fr, by_ := by_ }) (vs.set i v) = ((flatR L vs).set (i * 4 + 1) (.int .i64 fr)).set (i * 4 + 2) v
  | [], _, i, s, _, _, _, _, h => by simp at h
  | _ :: _, [], i, s, _, _, _, h, _ => by simp at h
  | s :: r, u :: vs, 0, s', fr, by_, v, hl, h => by
    simp only [List.getElem?_cons_zero, Option.some.injEq] at h
    subst h
    rfl
  | s :: r, u :: vs, i + 1, s', fr, by_, v, hl, h => by
    simp only [List.getElem?_cons_succ] at h
    have q := flatR_put (L := r) (vs := vs) (i := i) fr by_ v (by simpa using hl) h
    rw [show (i + 1) * 4 + 1 = (i * 4 + 1) + 1 + 1 + 1 + 1 by omega, show (i + 1) * 4 + 2 = (i * 4 + 2) + 1 + 1 + 1 + 1 by omega]
    simp only [List.set_cons_succ, flatR, q]
/-- The first i of them were looked at. -/
def undone (M : List St) (x : Int) (i : Nat) : List St := (M.take i).map (unroot x) ++ M.drop i
section
variable {B C r : Nat} {m : Tr} {w w1 : World} {v : Value} {vs : List Value} {s : St} {M : List St} {x : Int} {i : Nat}
theorem undone_zero (M : List St) (x : Int) : undone M x 0 = M := by simp [undone]
theorem undone_all (M : List St) (x : Int) : undone M x M.length = M.map (unroot x) := by simp [undone]
theorem undone_len (M : List St) (x : Int) (i : Nat) : (undone M x i).length = M.length := by
  simp only [undone, List.length_append, List.length_map, List.length_take, List.length_drop]; omega
theorem undone_at (hi : M[i]? = some s) : (undone M x i)[i]? = some s := by
  have hl := (List.getElem?_eq_some_iff.1 hi).1
  unfold undone
  rw [List.getElem?_append_right (by rw [List.length_map, List.length_take]; omega), List.length_map, List.length_take, List.getElem?_drop, Nat.min_eq_left (by omega)]
  rw [← hi]; congr 1; omega
theorem undone_step (hi : M[i]? = some s) : undone M x (i + 1) = (undone M x i).set i (unroot x s) := by
  have hl := (List.getElem?_eq_some_iff.1 hi).1
  unfold undone
  rw [take_snoc M hi, List.map_append, List.append_assoc]
  have e0 : M.drop i = s :: M.drop (i + 1) := by
    obtain ⟨h1, h2⟩ := List.getElem?_eq_some_iff.1 hi
    rw [← h2]; exact List.drop_eq_getElem_cons h1
  rw [e0, List.set_append_right _ _ (by rw [List.length_map, List.length_take]; omega)]
  rw [List.length_map, List.length_take, Nat.min_eq_left (by omega), Nat.sub_self]
  rfl
/-- One of them is made from none, by nothing. -/
theorem Rb.put {g c : Nat} (h : Rb B C r (.slice (some ⟨g, 0, none⟩) m.L.length c) vs m w) (hi : m.L[i]? = some s) :
    Rb B C r (.slice (some ⟨g, 0, none⟩) m.L.length c) (vs.set i (.slice none 0 0)) { m with L := m.L.set i { s with fr := -1, by_ := [] } } ((w.setCell ⟨g, i * 4 + 1, none⟩ (.int .i64 (-1))).setCell ⟨g, i * 4 + 2, none⟩ (.slice none 0 0)) ∧ Ff TQ B w ((w.setCell ⟨g, i * 4 + 1, none⟩ (.int .i64 (-1))).setCell ⟨g, i * 4 + 2, none⟩ (.slice none 0 0)) := by
  have f := (fr_set g (i * 4 + 1) (.int .i64 (-1)) w).trans (fr_set g (i * 4 + 2) (.slice none 0 0) _)
  have hil := (List.getElem?_eq_some_iff.1 hi).1
  rcases h.row.2 with ⟨e0, _⟩ | ⟨g', c', cur, e0, hb, hg, p1, p2, p3, p4⟩
  · cases e0
  cases e0
  have ff : Ff TQ B w ((w.setCell ⟨g, i * 4 + 1, none⟩ (.int .i64 (-1))).setCell ⟨g, i * 4 + 2, none⟩ (.slice none 0 0)) := Ff.on f hb hg (.inr rfl)
  refine ⟨⟨h.lr, h.box.fr f fun e => ?_, ?_, ?_, fun j s' u h1 h2 => ?_⟩, ff⟩
  · unfold On at e; subst e
    have := h.box; unfold Lc at this; rw [hg] at this; cases this
  · show World.ownsRow _ B _ 4 _ (m.L.set i { s with fr := -1, by_ := [] }).length (flatR (m.L.set i { s with fr := -1, by_ := [] }) (vs.set i (.slice none 0 0)))
    rw [List.length_set, flatR_put (-1) [] (.slice none 0 0) h.bys.1 hi]
    exact row_set (row_set h.row (by omega)) (by omega)
  · show (vs.set i _).length = (m.L.set i _).length
    rw [List.length_set, List.length_set]; exact h.bys.1
  · have h1' : (m.L.set i { s with fr := -1, by_ := [] })[j]? = some s' := h1
    by_cases q : i = j
    · subst q
      rw [List.getElem?_set_self hil] at h1'
      rw [List.getElem?_set_self (by rw [h.bys.1]; exact hil)] at h2
      cases h1'; cases h2
      exact ⟨Dx.nil _ _ _, fun j hj => by cases hj⟩
    · rw [List.getElem?_set_ne q] at h1' h2
      have q := h.bys.2 j s' u h1' h2
      exact ⟨q.1.ff ff (tq_of (by decide) (by decide)) (tq_of (by decide) (by decide)), q.2⟩
theorem kids_none (I : Inw m) (hx : look m.L x = some s) : (kidsL m.L x).length = 0 ↔ s.on = -1 := by
  constructor
  · intro h
    refine Classical.byContradiction fun hon => ?_
    obtain ⟨t, ht, hf⟩ := I.inv.fam.on _ _ hx hon
    have : t ∈ kidsL m.L x := List.mem_filter.2 ⟨look_mem ht, by simpa using hf⟩
    rw [List.length_eq_zero_iff.1 h] at this; cases this
  · intro h
    rw [List.length_eq_zero_iff, List.eq_nil_iff_forall_not_mem]
    intro t ht
    have h1 := List.mem_filter.1 ht
    exact I.onk x s hx h _ t (mem_look I.inv.sq h1.1) (by simpa using h1.2)
theorem find_first {p : St → Bool} : ∀ {L : List St} {i : Nat} {s : St}, L[i]? = some s → p s = true → (∀ j s', j < i → L[j]? = some s' → p s' = false) → L.find? p = some s
  | [], i, s, h, _, _ => by simp at h
  | a :: L, 0, s, h, hp, _ => by simp at h; subst h; rw [List.find?_cons, hp]
  | a :: L, i + 1, s, h, hp, hn => by
    rw [List.find?_cons, hn 0 a (by omega) rfl]
    exact find_first (by simpa using h) hp fun j s' hj h' => hn (j + 1) s' (by omega) (by simpa using h')
set_option maxHeartbeats 16000000 in
theorem revict_any (h : Rw B C r m w) (I : Inw m) (hl : m.L.length ≤ 250) (h2 : 2 ≤ m.L.length) (hB : B ≤ w.heap.size) :
    Calls Try.prog 64 #[.pointer (some ⟨r, 0, none⟩)] w fun e w' => e = .returned (.tuple #[]) ∧ Rw B C r (evT m) w' ∧ Ff TQ B w w' := by
  obtain ⟨N, hN⟩ : ∃ N, m.L.length = N := ⟨_, rfl⟩
  have HH : Hid (Rw B C r m w ∧ Inw m ∧ 2 ≤ N ∧ B ≤ w.heap.size ∧ m.L.length = N) := ⟨h, I, by omega, hB, hN⟩
  obtain ⟨v, vs, hb⟩ := h
  have c1 := hb.box.at (j := 1) rfl
  have c2 := hb.box.at (j := 2) rfl
  obtain ⟨a, c, hv, hc1, hc2⟩ := owns_form hb.row
  unfold maxLen at hc2
  have HC : Hid (∀ i, i < N → ∃ g s, a = some ⟨g, 0, none⟩ ∧ w.cell? ⟨g, i * 4, none⟩ = some (.int .i64 s.seq) ∧ w.cell? ⟨g, i * 4 + 1, none⟩ = some (.int .i64 s.fr) ∧ m.L[i]? = some s) := fun i hi => by
    obtain ⟨s, hs⟩ : ∃ s, m.L[i]? = some s := ⟨_, List.getElem?_eq_getElem (by omega)⟩
    obtain ⟨g, c', u, e, _, _, _, _, q0, q1, _⟩ := hb.cell hs
    rw [hv] at e; cases e
    exact ⟨g, s, rfl, q0, q1, hs⟩
  rw [hv, hN] at c1
  rw [hN] at hl hc1
  clear hb I hB hN hv h2
  go_enter Try.func64, Try.ntmps64
  go_wp2_with fail
  go_loopw [2] (fun v2 wr => ∃ (i k : Nat), i ≤ N ∧ v2 = .int .i64 i ∧ wr = w.drewN k ∧ Hid (∀ j s', j < i → m.L[j]? = some s' → bareP m s' = false)) (fun v2 _ => N - (intOf v2).toNat)
  case atStart => exact ⟨0, 0, Nat.zero_le _, rfl, rfl, fun j s' hj _ => by omega⟩
  case round =>
    obtain ⟨i, k, hi, rfl, rfl, HI⟩ := hrel
    have HK : Hid (∀ z, Kp (w.drewN k) z → ∀ x, Calls Try.prog 71 #[.pointer (some ⟨r, 0, none⟩), .int .i64 x] z fun e w' => e = .returned (.tuple #[.int .i64 (kidsL m.L x).length, .int .i64 (newest m.L x)]) ∧ w' = z) := fun z kz x => rkids_any (HH.out.1.kp (kp_trans (kp_drewN _ _) kz)) (by rw [HH.out.2.2.2.2]; exact hl) x
    rcases Nat.lt_or_ge i N with p | p
    · have d1 : decide ((i : Int) < (N : Int)) = true := decide_eq_true (by omega)
      have d2 : decide (i < N) = true := decide_eq_true p
      obtain ⟨g, s, rfl, q0, q1, hs⟩ := HC.out i p
      have HS : Hid (m.L[i]? = some s) := hs
      have hls : Hid (look m.L s.seq = some s) := mem_look HH.out.2.1.inv.sq (List.mem_of_getElem? hs)
      have HD : Hid (((kidsL m.L s.seq).length = 0 ∧ s.on = -1) ∨ ((kidsL m.L s.seq).length ≠ 0 ∧ s.on ≠ -1)) := by
        have := kids_none HH.out.2.1 hls.out
        by_cases e : s.on = -1
        · exact .inl ⟨this.2 e, e⟩
        · exact .inr ⟨fun q => e (this.1 q), e⟩
      have HN1 : Hid (bareP m s = false → ∀ j s', j < i + 1 → m.L[j]? = some s' → bareP m s' = false) := fun e j s' hj h' => by
        by_cases q : j = i
        · subst q; rw [HS.out] at h'; cases h'; exact e
        · exact HI.out j s' (by omega) h'
      have HKi : Hid (Calls Try.prog 71 #[.pointer (some ⟨r, 0, none⟩), .int .i64 s.seq] (w.drewN k) fun e w' => e = .returned (.tuple #[.int .i64 (kidsL m.L s.seq).length, .int .i64 (newest m.L s.seq)]) ∧ w' = w.drewN k) := HK.out _ (Below.refl _ _) _
      clear hs HK
      obtain ⟨kz, hkz⟩ : ∃ kz, (kidsL m.L s.seq).length = kz := ⟨_, rfl⟩
      rw [hkz] at HKi HD
      clear hkz
      rcases HD.out with ⟨rfl, e2⟩ | ⟨e1, e2⟩
      · by_cases e3 : s.seq = m.now
        · have d3 : (s.seq != m.now) = false := by simp [e3]
          have HNx : Hid (∀ j s', j < i + 1 → m.L[j]? = some s' → bareP m s' = false) := HN1.out (by simp [bareP, e3])
          clear e2 e3 HD HN1 HI
          go_wp2_with fail
          refine Calls.mono HKi.out ?_
          rintro e w5 ⟨rfl, rfl⟩
          clear HKi
          go_wp2_with fail
          go_quiet (fail)
          go_wp2_with fail
          go_roundw
          case rel => exact ⟨i + 1, k + nq, by omega, by go_num, by first | exact drew2 _ _ _ | rfl, HNx.out⟩
          case measure => simp only [intOf]; omega
        · have d3 : (s.seq != m.now) = true := by simpa using e3
          have HG : Hid (∀ k, Calls Try.prog 72 #[.pointer (some ⟨r, 0, none⟩), .int .i64 i] (w.drewN k) fun e w' => e = .returned (.tuple #[]) ∧ Rw B C r (evT m) w' ∧ Ff TQ B w w') := fun k => by
            have hbp : bareP m s = true := by simp [bareP, e2, e3]
            have hfd := find_first HS.out hbp HI.out
            have hfr := bare_fr HH.out.2.1.inv.fam HH.out.2.1.onk HH.out.2.1.inv.nw hls.out e2 e3
            have hxf := HH.out.2.1.inv.fam.fr _ _ hls.out
            refine (rgone_any (HH.out.1.kp (kp_drewN w k)) HH.out.2.1.inv.sq (by rw [HH.out.2.2.2.2]; exact hl) HS.out (Nat.le_trans HH.out.2.2.2.1 (kp_drewN w k).size) (.inr ⟨by omega, by omega, HH.out.2.1.inv.fam.from_there hls.out hfr⟩)).mono ?_
            rintro e w' ⟨rfl, r1, r2⟩
            rw [ev_some hfd]
            exact ⟨rfl, r1, (Ff.kp (kp_drewN _ _)).trans r2⟩
          clear e2 e3 HD HN1 HI
          go_wp2_with fail
          refine Calls.mono HKi.out ?_
          rintro e w5 ⟨rfl, rfl⟩
          clear HKi
          go_wp2_with fail
          go_quiet (fail)
          rw [drew2]
          go_wp2_with fail
          refine Calls.mono (HG.out _) ?_
          rintro e w6 ⟨rfl, r⟩
          have HX : Hid _ := r
          clear HG r
          go_wp2_with fail
          refine bodyPost_ret (results_none rfl _ _ _) rfl ?_
          exact ⟨rfl, HX.out⟩
      · have d3 : ((kz : Int) == 0) = false := beq_eq_false_iff_ne.2 (by omega)
        have d4 : (kz == 0) = false := beq_eq_false_iff_ne.2 e1
        have HNx : Hid (∀ j s', j < i + 1 → m.L[j]? = some s' → bareP m s' = false) := HN1.out (by simp [bareP, e2])
        clear e1 e2 HD HN1 HI
        go_wp2_with fail
        refine Calls.mono HKi.out ?_
        rintro e w5 ⟨rfl, rfl⟩
        clear HKi
        go_wp2_with fail
        go_quiet (fail)
        go_wp2_with fail
        go_roundw
        case rel => exact ⟨i + 1, k + nq, by omega, by go_num, by first | exact drew2 _ _ _ | rfl, HNx.out⟩
        case measure => simp only [intOf]; omega
    · have d1 : decide ((i : Int) < (N : Int)) = false := decide_eq_false (by omega)
      have d2 : decide (i < N) = false := decide_eq_false (by omega)
      obtain rfl : i = N := by omega
      have hfn : m.L.find? (bareP m) = none := List.find?_eq_none.2 fun s hs => by
        obtain ⟨j, hj⟩ := List.getElem?_of_mem hs
        have hjl := (List.getElem?_eq_some_iff.1 hj).1
        rw [HH.out.2.2.2.2] at hjl
        rw [HI.out j s hjl hj]; simp
      have HF : Hid (m.L.find? (bareP m) = none) := hfn
      obtain ⟨g, s, rfl, q0, q1, hs⟩ := HC.out 0 (by have := HH.out.2.2.1; omega)
      obtain ⟨M, hLM⟩ : ∃ M, m.L = s :: M := by
        cases e : m.L with
        | nil => rw [e] at hs; cases hs
        | cons a M => rw [e] at hs; cases hs; exact ⟨M, rfl⟩
      have FM := HH.out.2.1.inv.fam
      have SM := HH.out.2.1.inv.sq
      rw [hLM] at FM SM
      obtain ⟨_, hsf, _⟩ := root_first FM SM
      have hno1 : look m.L (-1) = none := by
        cases e : look m.L (-1) with
        | none => rfl
        | some z => have := HH.out.2.1.inv.fam.fr _ _ e; omega
      have hcut : cutT m.L s.seq s.fr = M := by
        unfold cutT
        have e1 : dropL m.L s.seq = M := by rw [drop_at_idx HH.out.2.1.inv.sq hs, hLM]; rfl
        rw [hsf, look_drop, hno1, e1]
        split
        · rename_i h; split at h <;> cases h
        · rfl
      rw [hsf] at q1
      have HM : Hid (m.L = s :: M ∧ M.length + 1 = i) := ⟨hLM, by have := HH.out.2.2.2.2; rw [hLM] at this; simpa using this⟩
      have HG : Hid (Calls Try.prog 72 #[.pointer (some ⟨r, 0, none⟩), .int .i64 0] (w.drewN k) fun e w' => e = .returned (.tuple #[]) ∧ Rw B C r { m with L := M } w' ∧ Ff TQ B w w') := by
        have := rgone_any (HH.out.1.kp (kp_drewN w k)) HH.out.2.1.inv.sq (by rw [HH.out.2.2.2.2]; exact hl) (i := 0) hs (Nat.le_trans HH.out.2.2.2.1 (kp_drewN w k).size) (.inl ⟨hsf, hno1⟩)
        refine this.mono ?_
        rintro e w' ⟨rfl, r1, r2⟩
        rw [hcut] at r1
        exact ⟨rfl, r1, (Ff.kp (kp_drewN _ _)).trans r2⟩
      have hi0 : (0 : Int) < (i : Int) := by have := HH.out.2.2.1; omega
      clear HI HC HK hfn hs hLM FM SM hsf hno1 hcut
      obtain ⟨K, hK⟩ : ∃ K, M.length = K := ⟨_, rfl⟩
      have HKL : Hid (M.length = K ∧ K + 1 = i ∧ i ≤ 250) := ⟨hK, by have := HM.out.2; omega, hl⟩
      have hK2 : (K : Int) ≤ 250 := by have := HM.out.2; omega
      have HEV : Hid (evT m = { m with L := rootT m.L } ∧ rootT m.L = undone M s.seq K) := ⟨ev_none HF.out, by rw [HM.out.1, ← hK, undone_all]; rfl⟩
      clear hK
      go_wp2_with fail
      go_loopw [5] (fun v5 wr => v5 = .int .i64 0 ∧ wr = w.drewN k) (fun _ _ => 0)
      case atStart => exact ⟨rfl, rfl⟩
      case round =>
        obtain ⟨rfl, rfl⟩ := hrel
        go_wp2_with fail
        refine Calls.mono HG.out ?_
        rintro e w6 ⟨rfl, r1, r2⟩
        have H6 : Hid (Rw B C r { m with L := M } w6 ∧ Ff TQ B w w6) := ⟨r1, r2⟩
        clear HG r1 r2 c1 c2 q0 q1
        go_wp2_with fail
        go_loopw [7] (fun v7 wr => ∃ j : Nat, j ≤ K ∧ v7 = .int .i64 j ∧ Hid (Rw B C r { m with L := undone M s.seq j } wr ∧ Ff TQ B w wr)) (fun v7 _ => K - (intOf v7).toNat)
        case atStart => exact ⟨0, Nat.zero_le _, rfl, by rw [undone_zero]; exact H6.out.1, H6.out.2⟩
        case round =>
          obtain ⟨j, hj, rfl, HJ⟩ := hrel
          clear H6
          rcases Nat.lt_or_ge j K with p | p
          · have d3 : decide ((j : Int) < (K : Int)) = true := decide_eq_true (by omega)
            have d4 : decide (j < K) = true := decide_eq_true p
            obtain ⟨⟨v', vs', hb⟩, hf⟩ := HJ.out
            obtain ⟨sj, hsj⟩ : ∃ s, M[j]? = some s := ⟨_, List.getElem?_eq_getElem (by have := HKL.out; omega)⟩
            have hat := undone_at (x := s.seq) hsj
            obtain ⟨g', c', u', rfl, hBg', hc1', hc2', _, q0, q1, q2, _, fz⟩ := hb.cell hat
            have c1 := hb.box.at (j := 1) rfl
            have hlen : (undone M s.seq j).length = K := by rw [undone_len]; exact HKL.out.1
            have hstep := undone_step (x := s.seq) hsj
            have f1 := fz (j * 4 + 1)
            have f2 := fz (j * 4 + 2)
            have hcK : K ≤ c' := by have : (undone M s.seq j).length ≤ c' := hc1'; omega
            have hpI : (j : Int) < (K : Int) := by omega
            by_cases e : sj.fr = s.seq
            · have d5 : (sj.fr == s.seq) = true := by simpa using e
              have HX : Hid (Rw B C r { m with L := undone M s.seq (j + 1) } ((wr.setCell ⟨g', j * 4 + 1, none⟩ (.int .i64 (-1))).setCell ⟨g', j * 4 + 2, none⟩ (.slice none 0 0)) ∧ Ff TQ B w ((wr.setCell ⟨g', j * 4 + 1, none⟩ (.int .i64 (-1))).setCell ⟨g', j * 4 + 2, none⟩ (.slice none 0 0))) := by
                obtain ⟨r1, r2⟩ := hb.put hat
                rw [hstep]
                have e9 : unroot s.seq sj = { sj with fr := -1, by_ := [] } := by unfold unroot; rw [if_pos e]
                rw [e9]
                exact ⟨⟨_, _, r1⟩, hf.trans r2⟩
              have hbb : r ≠ g' := fun q => by
                have h1 := row_ne hb.row hb.box (by decide)
                rw [q] at h1; exact h1 rfl
              rw [show ({ m with L := undone M s.seq j } : Tr).L.length = K from hlen] at c1
              have c1' : (wr.setCell ⟨g', j * 4 + 1, none⟩ (.int .i64 (-1))).cell? ⟨r, 1, none⟩ = some (.slice (some ⟨g', 0, none⟩) K c') := by
                have hb0 := hb.box.other (n := g') (off := j * 4 + 1) (v := .int .i64 (-1)) (Ne.symm hbb)
                have := hb0.at (j := 1) rfl
                rw [show ({ m with L := undone M s.seq j } : Tr).L.length = K from hlen] at this
                exact this
              have hbb2 : g' ≠ r := fun q => hbb q.symm
              clear hb hf hsj hat hstep fz hc1' hlen e HJ hc2'
              go_wp2_with fail
              go_roundw
              case rel => exact ⟨j + 1, by omega, by go_num, HX.out⟩
              case measure => simp only [intOf]; omega
            · have d5 : (sj.fr == s.seq) = false := by simpa using e
              have HX : Hid (Rw B C r { m with L := undone M s.seq (j + 1) } wr ∧ Ff TQ B w wr) := by
                rw [hstep]
                have e9 : unroot s.seq sj = sj := by unfold unroot; rw [if_neg e]
                rw [e9]
                have e10 : (undone M s.seq j).set j sj = undone M s.seq j := by
                  refine List.ext_getElem? fun z => ?_
                  by_cases q : j = z
                  · subst q; rw [List.getElem?_set_self (by rw [hlen]; exact p), hat]
                  · rw [List.getElem?_set_ne q]
                rw [e10]
                exact ⟨⟨_, _, hb⟩, hf⟩
              rw [show ({ m with L := undone M s.seq j } : Tr).L.length = K from hlen] at c1
              clear hb hf hsj hat hstep fz hc1' hlen e q2 HJ hc2'
              go_wp2_with fail
              go_roundw
              case rel => exact ⟨j + 1, by omega, by go_num, HX.out⟩
              case measure => simp only [intOf]; omega
          · have d3 : decide ((j : Int) < (K : Int)) = false := decide_eq_false (by omega)
            have d4 : decide (j < K) = false := decide_eq_false (by omega)
            obtain rfl : j = K := by omega
            obtain ⟨⟨v', vs', hb⟩, hf⟩ := HJ.out
            have c1 := hb.box.at (j := 1) rfl
            obtain ⟨a', cc', hv', _⟩ := owns_form hb.row
            rw [hv', show ({ m with L := undone M s.seq j } : Tr).L.length = j by show (undone M s.seq j).length = j; rw [undone_len]; exact HKL.out.1] at c1
            have HX : Hid (Rw B C r (evT m) wr ∧ Ff TQ B w wr) := by
              rw [HEV.out.1, HEV.out.2]; exact HJ.out
            clear hb hf hv' HJ
            go_wp2_with fail
            go_end0
            exact ⟨rfl, HX.out⟩
end
end Go.Proofs.Ytehghbinjfkhgaa
