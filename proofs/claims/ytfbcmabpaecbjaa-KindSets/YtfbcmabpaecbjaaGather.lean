/- gather of package kind makes just the set of the bytes for which its function says yes, and writes nothing that was there. -/
import Derived.Test.YtfbcmabpaecbjaaSets
import Derived.LoopTactic
namespace Go.Proofs.Ytfbcmabpaecbjaa
open Go.ChangeShapes Go.WideShapes Go.ChangeAt Go.RowKit

structure Open (w : World) (b : Nat) : Prop where
  f0 : w.frozen? ⟨b, 0, none⟩ = false
  f1 : w.frozen? ⟨b, 1, none⟩ = false
  f2 : w.frozen? ⟨b, 2, none⟩ = false
  f3 : w.frozen? ⟨b, 3, none⟩ = false
theorem Open.below {B : Nat} {W W' : World} {b : Nat} (h : Open W b) (hb : Below B W W') (hB : b < B) : Open W' b :=
  ⟨(hb.frozen (p := ⟨b, 0, none⟩) hB).trans h.f0, (hb.frozen (p := ⟨b, 1, none⟩) hB).trans h.f1, (hb.frozen (p := ⟨b, 2, none⟩) hB).trans h.f2, (hb.frozen (p := ⟨b, 3, none⟩) hB).trans h.f3⟩
theorem open_new (w : World) (cs : Array Value) (t : TypeId) : Open (w.alloc (.cells cs t)) w.heap.size := by
  constructor <;> go_simp
def put4 (w : World) (b : Nat) (s : S4) : World :=
  (((w.setCell ⟨b, 0, none⟩ (.int .u64 s.a)).setCell ⟨b, 1, none⟩ (.int .u64 s.b)).setCell ⟨b, 2, none⟩ (.int .u64 s.c)).setCell ⟨b, 3, none⟩ (.int .u64 s.d)
theorem far {b c i j : Nat} (h : b ≠ c ∨ i ≠ j) : (⟨b, i, none⟩ : Addr) ≠ ⟨c, j, none⟩ := by
  intro e
  simp only [Addr.mk.injEq, and_true] at e
  omega
theorem cell_put4 (w : World) (b c i : Nat) (s : S4) (h : b ≠ c) : (put4 w b s).cell? ⟨c, i, none⟩ = w.cell? ⟨c, i, none⟩ := by
  unfold put4
  rw [World.cell?_setCell_other _ _ _ _ (far (.inl h)), World.cell?_setCell_other _ _ _ _ (far (.inl h)), World.cell?_setCell_other _ _ _ _ (far (.inl h)), World.cell?_setCell_other _ _ _ _ (far (.inl h))]
theorem frozen_put4 (w : World) (b : Nat) (s : S4) (a : Addr) : (put4 w b s).frozen? a = w.frozen? a := by
  unfold put4
  simp only [World.frozen?_setCell]
theorem size_put4 (w : World) (b : Nat) (s : S4) : (put4 w b s).heap.size = w.heap.size := by
  unfold put4
  simp only [World.size_setCell]
theorem Box.put4 {w : World} {b : Nat} {t : S4} (h : Box w b t) (s : S4) : Box (put4 w b s) b s := by
  obtain ⟨h0, h1, h2, h3⟩ := h
  unfold Go.Proofs.Ytfbcmabpaecbjaa.put4
  refine ⟨?_, ?_, ?_, ?_⟩
  · rw [World.cell?_setCell_other _ _ _ _ (far (.inr (by decide))), World.cell?_setCell_other _ _ _ _ (far (.inr (by decide))), World.cell?_setCell_other _ _ _ _ (far (.inr (by decide)))]
    exact World.cell?_setCell_same _ _ _ h0
  · rw [World.cell?_setCell_other _ _ _ _ (far (.inr (by decide))), World.cell?_setCell_other _ _ _ _ (far (.inr (by decide)))]
    exact World.cell?_setCell_same _ _ _ (by rw [World.cell?_setCell_other _ _ _ _ (far (.inr (by decide)))]; exact h1)
  · rw [World.cell?_setCell_other _ _ _ _ (far (.inr (by decide)))]
    exact World.cell?_setCell_same _ _ _ (by rw [World.cell?_setCell_other _ _ _ _ (far (.inr (by decide))), World.cell?_setCell_other _ _ _ _ (far (.inr (by decide)))]; exact h2)
  · exact World.cell?_setCell_same _ _ _ (by rw [World.cell?_setCell_other _ _ _ _ (far (.inr (by decide))), World.cell?_setCell_other _ _ _ _ (far (.inr (by decide))), World.cell?_setCell_other _ _ _ _ (far (.inr (by decide)))]; exact h3)
theorem below_put4 {B : Nat} {W w : World} (h : Below B W w) {b : Nat} (hb : B ≤ b) (s : S4) : Below B W (put4 w b s) :=
  (((h.setCell (p := ⟨b, 0, none⟩) hb _).setCell (p := ⟨b, 1, none⟩) hb _).setCell (p := ⟨b, 2, none⟩) hb _).setCell (p := ⟨b, 3, none⟩) hb _
/- what holds at the head of each round: the result's box, the set's box, nothing that was there has turned -/
structure Inv (w wr : World) (s : S4) : Prop where
  s : Box wr (w.heap.size + 1) s
  r : Box wr w.heap.size zeroS
  fs : Open wr (w.heap.size + 1)
  fr : Open wr w.heap.size
  bw : Below w.heap.size w wr
  sz : w.heap.size + 2 ≤ wr.heap.size
theorem Inv.below {w wr w1 : World} {s : S4} (h : Inv w wr s) (hb : Below wr.heap.size wr w1) : Inv w w1 s :=
  ⟨h.s.below hb (by have := h.sz; omega), h.r.below hb (by have := h.sz; omega), h.fs.below hb (by have := h.sz; omega), h.fr.below hb (by have := h.sz; omega), h.bw.trans (hb.mono h.bw.size), Nat.le_trans h.sz hb.size⟩
theorem Inv.put {w wr : World} {s : S4} (h : Inv w wr s) (t : S4) : Inv w (put4 wr (w.heap.size + 1) t) t :=
  ⟨h.s.put4 t, ⟨(cell_put4 _ _ _ _ _ (by omega)).trans h.r.1, (cell_put4 _ _ _ _ _ (by omega)).trans h.r.2.1, (cell_put4 _ _ _ _ _ (by omega)).trans h.r.2.2.1, (cell_put4 _ _ _ _ _ (by omega)).trans h.r.2.2.2⟩,
    ⟨(frozen_put4 _ _ _ _).trans h.fs.f0, (frozen_put4 _ _ _ _).trans h.fs.f1, (frozen_put4 _ _ _ _).trans h.fs.f2, (frozen_put4 _ _ _ _).trans h.fs.f3⟩,
    ⟨(frozen_put4 _ _ _ _).trans h.fr.f0, (frozen_put4 _ _ _ _).trans h.fr.f1, (frozen_put4 _ _ _ _).trans h.fr.f2, (frozen_put4 _ _ _ _).trans h.fr.f3⟩,
    below_put4 h.bw (by omega) t, by rw [size_put4]; exact h.sz⟩
theorem inv_start (w : World) (t : TypeId) : Inv w ((w.alloc (.cells #[.int .u64 0, .int .u64 0, .int .u64 0, .int .u64 0] t)).alloc (.cells #[.int .u64 0, .int .u64 0, .int .u64 0, .int .u64 0] t)) zeroS := by
  have b1 := box_new w zeroS t
  have b2 := box_new (w.alloc (.cells #[.int .u64 0, .int .u64 0, .int .u64 0, .int .u64 0] t)) zeroS t
  have o1 := open_new w #[.int .u64 0, .int .u64 0, .int .u64 0, .int .u64 0] t
  have o2 := open_new (w.alloc (.cells #[.int .u64 0, .int .u64 0, .int .u64 0, .int .u64 0] t)) #[.int .u64 0, .int .u64 0, .int .u64 0, .int .u64 0] t
  rw [size_alloc] at b2 o2
  exact ⟨b2, b1.alloc (by simp only [size_alloc]; omega) _, o2, o1.below (bw_alloc (Below.refl _ _) _) (by simp only [size_alloc]; omega), bw_alloc (bw_alloc (Below.refl _ _) _) _, by simp only [size_alloc]; omega⟩
theorem fold_no {f : Int → Bool} {k : Nat} (h : f k = false) : foldS f (k + 1) = foldS f k := by simp [foldS, h]
theorem fold_yes {f : Int → Bool} {k : Nat} (h : f k = true) : foldS f (k + 1) = withS (foldS f k) k := by simp [foldS, h]

set_option maxRecDepth 100000 in
theorem gather_any (f : Int → Bool) (g : Value) (hh : Hid (∀ (c : Nat) (w : World), c < 256 → Calls Try.prog 30 #[g, .int .u8 c] w fun e w' => e = .returned (.bool (f c)) ∧ Below w.heap.size w w')) (w : World) :
    Calls Try.prog 29 #[.func (Fn.func 30) #[g] #[]] w fun e w' =>
      e = .returned (.agg #[.int .u64 (foldS f 256).a, .int .u64 (foldS f 256).b, .int .u64 (foldS f 256).c, .int .u64 (foldS f 256).d]) ∧ Below w.heap.size w w' := by
  go_enter Try.func29, Try.ntmps29
  go_wp2
  go_loopw [6] (fun i wr => ∃ k : Nat, k ≤ 256 ∧ i = .int .i64 k ∧ Inv w wr (foldS f k)) (fun i _ => 256 - (intOf i).toNat)
  case atStart => exact ⟨0, Nat.zero_le _, rfl, inv_start w 24⟩
  case round =>
    obtain ⟨k, hk, rfl, hI⟩ := hrel
    by_cases hlt : k < 256
    · cases hf : f k
      · have hF := fold_no hf
        go_wp2_with fail
        refine (hh.out k _ hlt).mono ?_
        rintro e w1 ⟨rfl, hb⟩
        have hI1 := hI.below hb
        have HF : Hid (foldS f (k + 1) = foldS f k) := hF
        clear hF
        go_wp2
        go_roundw
        case rel => exact ⟨k + 1, by omega, by go_num, by rw [HF.out]; exact hI1⟩
        case measure => simp [intOf]; omega
      · have HF : Hid (foldS f (k + 1) = withS (foldS f k) k) := fold_yes hf
        go_wp2_with fail
        refine (hh.out k _ hlt).mono ?_
        rintro e w1 ⟨rfl, hb⟩
        have hI1 := hI.below hb
        obtain ⟨c0, c1, c2, c3⟩ := hI1.s
        go_wp2_with fail
        refine (kWith_any (foldS f k) (ok_fold f k hk) k hlt _).mono ?_
        rintro e w2 ⟨rfl, hb2⟩
        have hI2 := hI1.below hb2
        obtain ⟨d0, d1, d2, d3⟩ := hI2.s
        obtain ⟨f0, f1, f2, f3⟩ := hI2.fs
        clear c0 c1 c2 c3
        go_wp2
        go_roundw
        case rel => exact ⟨k + 1, by omega, by go_num, by rw [HF.out]; exact hI2.put _⟩
        case measure => simp [intOf]; omega
    · have hk2 : k = 256 := by omega
      subst hk2
      obtain ⟨c0, c1, c2, c3⟩ := hI.s
      obtain ⟨d0, d1, d2, d3⟩ := hI.r
      obtain ⟨f0, f1, f2, f3⟩ := hI.fr
      go_wp2
      obtain ⟨r0, r1, r2, r3⟩ := hI.r.put4 (foldS f 256)
      have hbl := below_put4 hI.bw (Nat.le_refl _) (foldS f 256)
      show bodyPost _ _ _ _ _ (put4 wr w.heap.size (foldS f 256))
      generalize put4 wr w.heap.size (foldS f 256) = wz at *
      exact bodyPost_ret (v := .agg #[.int .u64 (foldS f 256).a, .int .u64 (foldS f 256).b, .int .u64 (foldS f 256).c, .int .u64 (foldS f 256).d]) (by simp [results, Try.results29, go_sem, r0, r1, r2, r3]) rfl ⟨rfl, hbl⟩

end Go.Proofs.Ytfbcmabpaecbjaa
