/- Named of package kind returns just the set of the bytes of its name (or nothing, false), and so does the document's; neither writes anything that was there. -/
import Derived.Test.YtfbcmabpaecbjaaOf
namespace Go.Proofs.Ytfbcmabpaecbjaa
open Go.ChangeShapes Go.WideShapes Go.ChangeAt Go.RowKit

/-- the test of a name -/
def nmN (l : List UInt8) : Option Nat :=
  if l = [97, 108, 112, 104, 97] then some 45 else if l = [100, 105, 103, 105, 116] then some 46 else if l = [97, 108, 110, 117, 109] then some 47 else if l = [108, 111, 119, 101, 114] then some 34 else if l = [117, 112, 112, 101, 114] then some 33 else if l = [98, 108, 97, 110, 107] then some 48 else if l = [115, 112, 97, 99, 101] then some 49 else if l = [120, 100, 105, 103, 105, 116] then some 50 else if l = [99, 110, 116, 114, 108] then some 51 else if l = [112, 117, 110, 99, 116] then some 52 else none
def nmB (l : List UInt8) (c : Int) : Bool :=
  if l = [97, 108, 112, 104, 97] then letB c else if l = [100, 105, 103, 105, 116] then digB c else if l = [97, 108, 110, 117, 109] then ladB c else if l = [108, 111, 119, 101, 114] then smlB c else if l = [117, 112, 112, 101, 114] then grtB c else if l = [98, 108, 97, 110, 107] then blkB c else if l = [115, 112, 97, 99, 101] then spcB c else if l = [120, 100, 105, 103, 105, 116] then hexB c else if l = [99, 110, 116, 114, 108] then ctlB c else if l = [112, 117, 110, 99, 116] then pctB c else false
def nmK (l : List UInt8) : Bool := (nmN l).isSome
theorem nm_some {l : List UInt8} {n : Nat} (h : nmN l = some n) : (l = [97, 108, 112, 104, 97] ∧ n = 45) ∨ (l = [100, 105, 103, 105, 116] ∧ n = 46) ∨ (l = [97, 108, 110, 117, 109] ∧ n = 47) ∨ (l = [108, 111, 119, 101, 114] ∧ n = 34) ∨ (l = [117, 112, 112, 101, 114] ∧ n = 33) ∨ (l = [98, 108, 97, 110, 107] ∧ n = 48) ∨ (l = [115, 112, 97, 99, 101] ∧ n = 49) ∨ (l = [120, 100, 105, 103, 105, 116] ∧ n = 50) ∨ (l = [99, 110, 116, 114, 108] ∧ n = 51) ∨ (l = [112, 117, 110, 99, 116] ∧ n = 52) := by
  unfold nmN at h
  by_cases h0 : l = [97, 108, 112, 104, 97]
  · rw [if_pos h0] at h
    cases h
    exact .inl ⟨h0, rfl⟩
  rw [if_neg h0] at h
  by_cases h1 : l = [100, 105, 103, 105, 116]
  · rw [if_pos h1] at h
    cases h
    exact .inr (.inl ⟨h1, rfl⟩)
  rw [if_neg h1] at h
  by_cases h2 : l = [97, 108, 110, 117, 109]
  · rw [if_pos h2] at h
    cases h
    exact .inr (.inr (.inl ⟨h2, rfl⟩))
  rw [if_neg h2] at h
  by_cases h3 : l = [108, 111, 119, 101, 114]
  · rw [if_pos h3] at h
    cases h
    exact .inr (.inr (.inr (.inl ⟨h3, rfl⟩)))
  rw [if_neg h3] at h
  by_cases h4 : l = [117, 112, 112, 101, 114]
  · rw [if_pos h4] at h
    cases h
    exact .inr (.inr (.inr (.inr (.inl ⟨h4, rfl⟩))))
  rw [if_neg h4] at h
  by_cases h5 : l = [98, 108, 97, 110, 107]
  · rw [if_pos h5] at h
    cases h
    exact .inr (.inr (.inr (.inr (.inr (.inl ⟨h5, rfl⟩)))))
  rw [if_neg h5] at h
  by_cases h6 : l = [115, 112, 97, 99, 101]
  · rw [if_pos h6] at h
    cases h
    exact .inr (.inr (.inr (.inr (.inr (.inr (.inl ⟨h6, rfl⟩))))))
  rw [if_neg h6] at h
  by_cases h7 : l = [120, 100, 105, 103, 105, 116]
  · rw [if_pos h7] at h
    cases h
    exact .inr (.inr (.inr (.inr (.inr (.inr (.inr (.inl ⟨h7, rfl⟩)))))))
  rw [if_neg h7] at h
  by_cases h8 : l = [99, 110, 116, 114, 108]
  · rw [if_pos h8] at h
    cases h
    exact .inr (.inr (.inr (.inr (.inr (.inr (.inr (.inr (.inl ⟨h8, rfl⟩))))))))
  rw [if_neg h8] at h
  by_cases h9 : l = [112, 117, 110, 99, 116]
  · rw [if_pos h9] at h
    cases h
    exact .inr (.inr (.inr (.inr (.inr (.inr (.inr (.inr (.inr (⟨h9, rfl⟩)))))))))
  rw [if_neg h9] at h
  cases h
theorem nm_none {l : List UInt8} (h : nmN l = none) : (l == [97, 108, 112, 104, 97]) = false ∧ (l == [100, 105, 103, 105, 116]) = false ∧ (l == [97, 108, 110, 117, 109]) = false ∧ (l == [108, 111, 119, 101, 114]) = false ∧ (l == [117, 112, 112, 101, 114]) = false ∧ (l == [98, 108, 97, 110, 107]) = false ∧ (l == [115, 112, 97, 99, 101]) = false ∧ (l == [120, 100, 105, 103, 105, 116]) = false ∧ (l == [99, 110, 116, 114, 108]) = false ∧ (l == [112, 117, 110, 99, 116]) = false := by
  have q : ∀ m : List UInt8, nmN m ≠ none → (l == m) = false := fun m hm => by
    rw [beq_eq_false_iff_ne]
    intro e
    rw [e] at h
    exact hm h
  exact ⟨q _ (by decide), q _ (by decide), q _ (by decide), q _ (by decide), q _ (by decide), q _ (by decide), q _ (by decide), q _ (by decide), q _ (by decide), q _ (by decide)⟩
theorem nmB_none {l : List UInt8} (h : nmN l = none) (c : Int) : nmB l c = false := by
  obtain ⟨h0, h1, h2, h3, h4, h5, h6, h7, h8, h9⟩ := nm_none h
  simp only [beq_eq_false_iff_ne, ne_eq] at h0 h1 h2 h3 h4 h5 h6 h7 h8 h9
  simp only [nmB, h0, h1, h2, h3, h4, h5, h6, h7, h8, h9, if_false]
theorem nameTest_no {s : ByteArray} (h : nmN s.toList = none) (w : World) :
    Calls Try.prog 39 #[.string s] w fun e w' => e = .returned .nilFunc ∧ w' = w := by
  obtain ⟨h0, h1, h2, h3, h4, h5, h6, h7, h8, h9⟩ := nm_none h
  clear h
  go_enter Try.func39, Try.ntmps39
  go_wp2
  go_ret
  exact ⟨rfl, rfl⟩
theorem nameTest_yes {s : ByteArray} {n : Nat} (h : nmN s.toList = some n) (w : World) :
    Calls Try.prog 39 #[.string s] w fun e w' => e = .returned (.func (Fn.func n) #[] #[]) ∧ w' = w := by
  rcases nm_some h with ⟨hs, rfl⟩ | ⟨hs, rfl⟩ | ⟨hs, rfl⟩ | ⟨hs, rfl⟩ | ⟨hs, rfl⟩ | ⟨hs, rfl⟩ | ⟨hs, rfl⟩ | ⟨hs, rfl⟩ | ⟨hs, rfl⟩ | ⟨hs, rfl⟩
  all_goals
    clear h
    go_enter Try.func39, Try.ntmps39
    go_wp2
    go_ret
    exact ⟨rfl, rfl⟩
theorem neq_nil (w : World) : Sem.run Try.prog (binOp BinOp.neq 38 Value.nilFunc Value.nilFunc) w = .ok (.bool false) w := by kernel_rfl
theorem neq_fn (n : Nat) (w : World) : Sem.run Try.prog (binOp BinOp.neq 38 (Value.func (Fn.func n) #[] #[]) Value.nilFunc) w = .ok (.bool true) w := by kernel_rfl
theorem namedGroup_no {s : ByteArray} (h : nmN s.toList = none) (w : World) :
    Calls Try.prog 28 #[.string s] w fun e w' => e = .returned (.tuple #[.agg #[.nilFunc, .bool false], .bool false]) ∧ Below w.heap.size w w' := by
  have hq := neq_nil
  go_enter Try.func28, Try.ntmps28
  go_wp2_with (go_at_call 39; refine (nameTest_no h _).mono ?_; rintro e w' ⟨rfl, rfl⟩)
  exact bodyPost_ret (v := .tuple #[.agg #[.nilFunc, .bool false], .bool false]) (by simp [results, Try.results28, go_sem]) rfl ⟨rfl, bw_alloc (Below.refl _ _) _⟩
theorem namedGroup_yes {s : ByteArray} {n : Nat} (h : nmN s.toList = some n) (w : World) :
    Calls Try.prog 28 #[.string s] w fun e w' => e = .returned (.tuple #[.agg #[.func (Fn.func n) #[] #[], .bool false], .bool true]) ∧ Below w.heap.size w w' := by
  have hq := neq_fn n
  go_enter Try.func28, Try.ntmps28
  go_wp2_with (go_at_call 39; refine (nameTest_yes h _).mono ?_; rintro e w' ⟨rfl, rfl⟩)
  exact bodyPost_ret (v := .tuple #[.agg #[.func (Fn.func n) #[] #[], .bool false], .bool true]) (by simp [results, Try.results28, go_sem]) rfl ⟨rfl, bw_alloc (Below.refl _ _) _⟩
theorem gname_any {l : List UInt8} {n : Nat} (h : nmN l = some n) (c : Int) (w : World) :
    Calls Try.prog 30 #[.agg #[.func (Fn.func n) #[] #[], .bool false], .int .u8 c] w fun e w' => e = .returned (.bool (nmB l c)) ∧ Below w.heap.size w w' := by
  rcases nm_some h with ⟨rfl, rfl⟩ | ⟨rfl, rfl⟩ | ⟨rfl, rfl⟩ | ⟨rfl, rfl⟩ | ⟨rfl, rfl⟩ | ⟨rfl, rfl⟩ | ⟨rfl, rfl⟩ | ⟨rfl, rfl⟩ | ⟨rfl, rfl⟩ | ⟨rfl, rfl⟩
  · rw [show nmB [97, 108, 112, 104, 97] c = (letB c != false) from by rw [Bool.bne_false]; rfl]
    exact ghas_isLetter false c w
  · rw [show nmB [100, 105, 103, 105, 116] c = (digB c != false) from by rw [Bool.bne_false]; rfl]
    exact ghas_isDigit false c w
  · rw [show nmB [97, 108, 110, 117, 109] c = (ladB c != false) from by rw [Bool.bne_false]; rfl]
    exact ghas_isLetterOrDigit false c w
  · rw [show nmB [108, 111, 119, 101, 114] c = (smlB c != false) from by rw [Bool.bne_false]; rfl]
    exact ghas_isSmall false c w
  · rw [show nmB [117, 112, 112, 101, 114] c = (grtB c != false) from by rw [Bool.bne_false]; rfl]
    exact ghas_isGreat false c w
  · rw [show nmB [98, 108, 97, 110, 107] c = (blkB c != false) from by rw [Bool.bne_false]; rfl]
    exact ghas_isBlank false c w
  · rw [show nmB [115, 112, 97, 99, 101] c = (spcB c != false) from by rw [Bool.bne_false]; rfl]
    exact ghas_isSpace false c w
  · rw [show nmB [120, 100, 105, 103, 105, 116] c = (hexB c != false) from by rw [Bool.bne_false]; rfl]
    exact ghas_isHex false c w
  · rw [show nmB [99, 110, 116, 114, 108] c = (ctlB c != false) from by rw [Bool.bne_false]; rfl]
    exact ghas_isControl false c w
  · rw [show nmB [112, 117, 110, 99, 116] c = (pctB c != false) from by rw [Bool.bne_false]; rfl]
    exact ghas_isPunct false c w

theorem kNamed_no {s : ByteArray} (h : nmN s.toList = none) (w : World) :
    Calls Try.prog 9 #[.string s] w fun e w' => e = .returned (.tuple #[.agg #[.int .u64 0, .int .u64 0, .int .u64 0, .int .u64 0], .bool false]) ∧ Below w.heap.size w w' := by
  go_enter Try.func9, Try.ntmps9
  go_wp2_with fail
  refine (namedGroup_no h _).mono ?_
  rintro e w1 ⟨rfl, hb1⟩
  have b1 : Box w1 w.heap.size zeroS := (box_new w zeroS 24).below hb1 (by simp only [size_alloc]; omega)
  have o1 : Open w1 w.heap.size := (open_new w _ 24).below hb1 (by simp only [size_alloc]; omega)
  have hz : w.heap.size < w1.heap.size := by have := hb1.size; rw [size_alloc] at this; omega
  have hb : Below w.heap.size w w1 := bw_trans (bw_alloc (Below.refl _ _) _) hb1
  have bz := (b1.put4 zeroS).alloc (by rw [size_put4]; exact hz) (.cells #[.nilFunc, .bool false] 40)
  obtain ⟨c0, c1, c2, c3⟩ := b1
  obtain ⟨f0, f1, f2, f3⟩ := o1
  clear hb1
  have HZ : Hid (Box ((put4 w1 w.heap.size zeroS).alloc (.cells #[.nilFunc, .bool false] 40)) w.heap.size zeroS) := bz
  clear bz
  go_wp2
  show bodyPost _ _ _ _ _ ((put4 w1 w.heap.size zeroS).alloc (.cells #[.nilFunc, .bool false] 40))
  obtain ⟨r0, r1, r2, r3⟩ := HZ.out
  have hbl := bw_alloc (below_put4 hb (Nat.le_refl _) zeroS) (.cells #[.nilFunc, .bool false] 40)
  generalize (put4 w1 w.heap.size zeroS).alloc (.cells #[.nilFunc, .bool false] 40) = wz at *
  exact bodyPost_ret (v := .tuple #[.agg #[.int .u64 zeroS.a, .int .u64 zeroS.b, .int .u64 zeroS.c, .int .u64 zeroS.d], .bool false]) (by simp [results, Try.results9, go_sem, r0, r1, r2, r3]) rfl ⟨rfl, hbl⟩
theorem kNamed_yes {s : ByteArray} {n : Nat} (h : nmN s.toList = some n) (w : World) :
    Calls Try.prog 9 #[.string s] w fun e w' =>
      e = .returned (.tuple #[.agg #[.int .u64 (foldS (nmB s.toList) 256).a, .int .u64 (foldS (nmB s.toList) 256).b, .int .u64 (foldS (nmB s.toList) 256).c, .int .u64 (foldS (nmB s.toList) 256).d], .bool true]) ∧ Below w.heap.size w w' := by
  have hh : Hid (∀ (c : Nat) (w : World), c < 256 → Calls Try.prog 30 #[.agg #[.func (Fn.func n) #[] #[], .bool false], .int .u8 c] w fun e w' => e = .returned (.bool (nmB s.toList c)) ∧ Below w.heap.size w w') :=
    fun c w _ => gname_any h c w
  generalize hl : nmB s.toList = f at *
  clear hl
  go_enter Try.func9, Try.ntmps9
  go_wp2_with fail
  refine (namedGroup_yes h _).mono ?_
  rintro e w1 ⟨rfl, hb1⟩
  have b1 : Box w1 w.heap.size zeroS := (box_new w zeroS 24).below hb1 (by simp only [size_alloc]; omega)
  have o1 : Open w1 w.heap.size := (open_new w _ 24).below hb1 (by simp only [size_alloc]; omega)
  have hz : w.heap.size < w1.heap.size := by have := hb1.size; rw [size_alloc] at this; omega
  have hb : Below w.heap.size w w1 := bw_trans (bw_alloc (Below.refl _ _) _) hb1
  clear hb1
  go_wp2_with fail
  refine (gather_any f _ hh _).mono ?_
  rintro e w2 ⟨rfl, hb2⟩
  have b2 : Box w2 w.heap.size zeroS := (b1.alloc hz _).below hb2 (by simp only [size_alloc]; omega)
  have o2 : Open w2 w.heap.size := (o1.below (bw_alloc (Below.refl _ _) _) hz).below hb2 (by simp only [size_alloc]; omega)
  have hb' : Below w.heap.size w w2 := bw_trans (bw_alloc hb _) hb2
  obtain ⟨r0, r1, r2, r3⟩ := b2.put4 (foldS f 256)
  have R0 : Hid _ := r0
  have R1 : Hid _ := r1
  have R2 : Hid _ := r2
  have R3 : Hid _ := r3
  obtain ⟨c0, c1, c2, c3⟩ := b2
  obtain ⟨f0, f1, f2, f3⟩ := o2
  clear hb2 b1 o1 hb r0 r1 r2 r3
  go_wp2
  show bodyPost _ _ _ _ _ (put4 w2 w.heap.size (foldS f 256))
  have hbl := below_put4 hb' (Nat.le_refl _) (foldS f 256)
  have r0 := R0.out
  have r1 := R1.out
  have r2 := R2.out
  have r3 := R3.out
  clear R0 R1 R2 R3
  generalize put4 w2 w.heap.size (foldS f 256) = wz at *
  generalize foldS f 256 = t at *
  exact bodyPost_ret (v := .tuple #[.agg #[.int .u64 t.a, .int .u64 t.b, .int .u64 t.c, .int .u64 t.d], .bool true]) (by simp [results, Try.results9, go_sem, r0, r1, r2, r3]) rfl ⟨rfl, hbl⟩
theorem kNamed_any (s : ByteArray) (w : World) :
    Calls Try.prog 9 #[.string s] w fun e w' =>
      e = .returned (.tuple #[.agg #[.int .u64 (foldS (nmB s.toList) 256).a, .int .u64 (foldS (nmB s.toList) 256).b, .int .u64 (foldS (nmB s.toList) 256).c, .int .u64 (foldS (nmB s.toList) 256).d], .bool (nmK s.toList)]) ∧ Below w.heap.size w w' := by
  unfold nmK
  cases h : nmN s.toList with
  | none =>
    rw [fold_none (nmB_none h) 256]
    exact kNamed_no h w
  | some n => exact kNamed_yes h w

end Go.Proofs.Ytfbcmabpaecbjaa
