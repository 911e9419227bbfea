/- The calls of package kind that ask one byte (Small, Great, Same, Known, Is) return just what plain functions of the bytes say, and write nothing that was there. -/
import Derived.Test.YtfbcmabpaecbjabRef
import Derived.BigQuiet
import Derived.Laws.EntriesVeiled
import Derived.WalkSmall
import Derived.Below
import Derived.Deep.QuietTactic
namespace Go.Proofs.Ytfbcmabpaecbjab
open Go.ChangeShapes Go.WideShapes Go.ChangeAt Go.RowKit

theorem bw_alloc {a b : World} (h : Below a.heap.size a b) (o : Obj) : Below a.heap.size a (b.alloc o) := h.alloc h.size o
theorem bw_trans {a b c : World} (h : Below a.heap.size a b) (k : Below b.heap.size b c) : Below a.heap.size a c := h.trans (k.mono h.size)

theorem kSmall_any (c : Int) (w : World) :
    Calls Try.prog 8 #[.int .u8 c] w fun e w' => e = .returned (.int .u8 (smI c)) ∧ w' = w := by
  unfold smI
  cases h : grtB c
  · go_enter Try.func8, Try.ntmps8
    go_wp2_with (go_at_call 21; refine (isGreat_any _ _).mono ?_; rintro e w' ⟨rfl, rfl⟩)
    go_ret
    exact ⟨rfl, rfl⟩
  · obtain ⟨h1, h2⟩ := grtB_iff.1 h
    go_enter Try.func8, Try.ntmps8
    go_wp2_with (go_at_call 21; refine (isGreat_any _ _).mono ?_; rintro e w' ⟨rfl, rfl⟩)
    go_ret
    exact ⟨ret_u8 (by omega), rfl⟩
theorem kGreat_any (c : Int) (w : World) :
    Calls Try.prog 10 #[.int .u8 c] w fun e w' => e = .returned (.int .u8 (grI c)) ∧ w' = w := by
  unfold grI
  cases h : smlB c
  · go_enter Try.func10, Try.ntmps10
    go_wp2_with (go_at_call 23; refine (isSmall_any _ _).mono ?_; rintro e w' ⟨rfl, rfl⟩)
    go_ret
    exact ⟨rfl, rfl⟩
  · obtain ⟨h1, h2⟩ := smlB_iff.1 h
    go_enter Try.func10, Try.ntmps10
    go_wp2_with (go_at_call 23; refine (isSmall_any _ _).mono ?_; rintro e w' ⟨rfl, rfl⟩)
    go_ret
    exact ⟨ret_u8 (by omega), rfl⟩
theorem kSame_any (a b : Int) (f : Bool) (w : World) :
    Calls Try.prog 12 #[.int .u8 a, .int .u8 b, .bool f] w fun e w' => e = .returned (.bool (a == b || f && smI a == smI b)) ∧ w' = w := by
  cases h1 : (a == b) <;> cases f
  all_goals
    go_enter Try.func12, Try.ntmps12
    go_wp2_with (go_at_call 8; refine (kSmall_any _ _).mono ?_; rintro e w' ⟨rfl, rfl⟩)
    go_ret
    exact ⟨by simp, rfl⟩

/-- the test of a class, by its small letter -/
def fnum (k : Int) : Option Nat :=
  if k = 100 then some 31 else if k = 120 then some 32 else if k = 111 then some 33 else if k = 119 then some 34 else if k = 104 then some 35
  else if k = 97 then some 36 else if k = 108 then some 23 else if k = 117 then some 21 else if k = 115 then some 37 else none
theorem fnum_some {k : Int} {n : Nat} (h : fnum k = some n) : (k = 100 ∧ n = 31) ∨ (k = 120 ∧ n = 32) ∨ (k = 111 ∧ n = 33) ∨ (k = 119 ∧ n = 34) ∨ (k = 104 ∧ n = 35) ∨ (k = 97 ∧ n = 36) ∨ (k = 108 ∧ n = 23) ∨ (k = 117 ∧ n = 21) ∨ (k = 115 ∧ n = 37) := by
  unfold fnum at h
  repeat' split at h
  all_goals simp at h
  all_goals omega
theorem fnum_none {k : Int} (h : fnum k = none) : knB k = false := by
  cases hk : knB k
  · rfl
  · rcases knB_yes hk with rfl | rfl | rfl | rfl | rfl | rfl | rfl | rfl | rfl <;> simp [fnum] at h
theorem fnum_is {k : Int} {n : Nat} (h : fnum k = some n) : knB k = true := by
  rcases fnum_some h with ⟨rfl, _⟩ | ⟨rfl, _⟩ | ⟨rfl, _⟩ | ⟨rfl, _⟩ | ⟨rfl, _⟩ | ⟨rfl, _⟩ | ⟨rfl, _⟩ | ⟨rfl, _⟩ | ⟨rfl, _⟩ <;> rfl

theorem test_yes {k : Int} {n : Nat} (h : fnum k = some n) (c : Int) (w : World) :
    Calls Try.prog n #[.int .u8 c] w fun e w' => e = .returned (.bool (clsB k c)) ∧ w' = w := by
  rcases fnum_some h with ⟨rfl, rfl⟩ | ⟨rfl, rfl⟩ | ⟨rfl, rfl⟩ | ⟨rfl, rfl⟩ | ⟨rfl, rfl⟩ | ⟨rfl, rfl⟩ | ⟨rfl, rfl⟩ | ⟨rfl, rfl⟩ | ⟨rfl, rfl⟩
  · exact isDigit_any c w
  · exact isHex_any c w
  · exact isOctal_any c w
  · exact isWord_any c w
  · exact isHead_any c w
  · exact isLetter_any c w
  · exact isSmall_any c w
  · exact isGreat_any c w
  · exact isBlank_any c w

theorem classTest_no {k : Int} (h : fnum k = none) (w : World) :
    Calls Try.prog 30 #[.int .u8 k] w fun e w' => e = .returned .nilFunc ∧ w' = w := by
  obtain ⟨h1, h2, h3, h4, h5, h6, h7, h8, h9⟩ := knB_no (fnum_none h)
  clear h
  go_enter Try.func30, Try.ntmps30
  go_wp2
  go_ret
  exact ⟨rfl, rfl⟩
theorem classTest_yes {k : Int} {n : Nat} (h : fnum k = some n) (w : World) :
    Calls Try.prog 30 #[.int .u8 k] w fun e w' => e = .returned (.func (Fn.func n) #[] #[]) ∧ w' = w := by
  rcases fnum_some h with ⟨rfl, rfl⟩ | ⟨rfl, rfl⟩ | ⟨rfl, rfl⟩ | ⟨rfl, rfl⟩ | ⟨rfl, rfl⟩ | ⟨rfl, rfl⟩ | ⟨rfl, rfl⟩ | ⟨rfl, rfl⟩ | ⟨rfl, rfl⟩
  all_goals
    clear h
    go_enter Try.func30, Try.ntmps30
    go_wp2
    go_ret
    exact ⟨rfl, rfl⟩

theorem eql_nil (w : World) : Sem.run Try.prog (binOp BinOp.eql 38 Value.nilFunc Value.nilFunc) w = .ok (.bool true) w := by kernel_rfl
theorem eql_fn (n : Nat) (w : World) : Sem.run Try.prog (binOp BinOp.eql 38 (Value.func (Fn.func n) #[] #[]) Value.nilFunc) w = .ok (.bool false) w := by kernel_rfl

theorem classOf_no {k : Int} (h : fnum (smI k) = none) (w : World) :
    Calls Try.prog 25 #[.int .u8 k] w fun e w' => e = .returned (.tuple #[.agg #[.nilFunc, .bool false], .bool false]) ∧ Below w.heap.size w w' := by
  have hq := eql_nil
  go_enter Try.func25, Try.ntmps25
  go_wp2_with (first | (go_at_call 8; refine (kSmall_any _ _).mono ?_; rintro e w' ⟨rfl, rfl⟩) | (go_at_call 30; refine (classTest_no h _).mono ?_; rintro e w' ⟨rfl, rfl⟩))
  exact bodyPost_ret (v := .tuple #[.agg #[.nilFunc, .bool false], .bool false]) (by simp [results, Try.results25, go_sem]) rfl ⟨rfl, bw_alloc (Below.refl _ _) _⟩
theorem classOf_yes {k : Int} {n : Nat} (h : fnum (smI k) = some n) (w : World) :
    Calls Try.prog 25 #[.int .u8 k] w fun e w' => e = .returned (.tuple #[.agg #[.func (Fn.func n) #[] #[], .bool (smI k != k)], .bool true]) ∧ Below w.heap.size w w' := by
  have hq := eql_fn n
  go_enter Try.func25, Try.ntmps25
  go_wp2_with (first | (go_at_call 8; refine (kSmall_any _ _).mono ?_; rintro e w' ⟨rfl, rfl⟩) | (go_at_call 30; refine (classTest_yes h _).mono ?_; rintro e w' ⟨rfl, rfl⟩))
  exact bodyPost_ret (v := .tuple #[.agg #[.func (Fn.func n) #[] #[], .bool (smI k != k)], .bool true]) (by simp [results, Try.results25, go_sem]) rfl ⟨rfl, bw_alloc (Below.refl _ _) _⟩

theorem ghas_isDigit (o : Bool) (c : Int) (w : World) :
    Calls Try.prog 27 #[.agg #[.func (Fn.func 31) #[] #[], .bool o], .int .u8 c] w fun e w' => e = .returned (.bool (digB c != o)) ∧ Below w.heap.size w w' := by
  go_enter Try.func27, Try.ntmps27
  go_wp2
  go_quiet ((go_at_call 31; exact Calls.quiet_of_same (isDigit_any _ _)))
  go_wp2
  go_ret
  exact ⟨rfl, below_drewN (bw_alloc (Below.refl _ _) _) _⟩
theorem ghas_isHex (o : Bool) (c : Int) (w : World) :
    Calls Try.prog 27 #[.agg #[.func (Fn.func 32) #[] #[], .bool o], .int .u8 c] w fun e w' => e = .returned (.bool (hexB c != o)) ∧ Below w.heap.size w w' := by
  go_enter Try.func27, Try.ntmps27
  go_wp2
  go_quiet ((go_at_call 32; exact Calls.quiet_of_same (isHex_any _ _)))
  go_wp2
  go_ret
  exact ⟨rfl, below_drewN (bw_alloc (Below.refl _ _) _) _⟩
theorem ghas_isOctal (o : Bool) (c : Int) (w : World) :
    Calls Try.prog 27 #[.agg #[.func (Fn.func 33) #[] #[], .bool o], .int .u8 c] w fun e w' => e = .returned (.bool (octB c != o)) ∧ Below w.heap.size w w' := by
  go_enter Try.func27, Try.ntmps27
  go_wp2
  go_quiet ((go_at_call 33; exact Calls.quiet_of_same (isOctal_any _ _)))
  go_wp2
  go_ret
  exact ⟨rfl, below_drewN (bw_alloc (Below.refl _ _) _) _⟩
theorem ghas_isWord (o : Bool) (c : Int) (w : World) :
    Calls Try.prog 27 #[.agg #[.func (Fn.func 34) #[] #[], .bool o], .int .u8 c] w fun e w' => e = .returned (.bool (wrdB c != o)) ∧ Below w.heap.size w w' := by
  go_enter Try.func27, Try.ntmps27
  go_wp2
  go_quiet ((go_at_call 34; exact Calls.quiet_of_same (isWord_any _ _)))
  go_wp2
  go_ret
  exact ⟨rfl, below_drewN (bw_alloc (Below.refl _ _) _) _⟩
theorem ghas_isHead (o : Bool) (c : Int) (w : World) :
    Calls Try.prog 27 #[.agg #[.func (Fn.func 35) #[] #[], .bool o], .int .u8 c] w fun e w' => e = .returned (.bool (hedB c != o)) ∧ Below w.heap.size w w' := by
  go_enter Try.func27, Try.ntmps27
  go_wp2
  go_quiet ((go_at_call 35; exact Calls.quiet_of_same (isHead_any _ _)))
  go_wp2
  go_ret
  exact ⟨rfl, below_drewN (bw_alloc (Below.refl _ _) _) _⟩
theorem ghas_isLetter (o : Bool) (c : Int) (w : World) :
    Calls Try.prog 27 #[.agg #[.func (Fn.func 36) #[] #[], .bool o], .int .u8 c] w fun e w' => e = .returned (.bool (letB c != o)) ∧ Below w.heap.size w w' := by
  go_enter Try.func27, Try.ntmps27
  go_wp2
  go_quiet ((go_at_call 36; exact Calls.quiet_of_same (isLetter_any _ _)))
  go_wp2
  go_ret
  exact ⟨rfl, below_drewN (bw_alloc (Below.refl _ _) _) _⟩
theorem ghas_isSmall (o : Bool) (c : Int) (w : World) :
    Calls Try.prog 27 #[.agg #[.func (Fn.func 23) #[] #[], .bool o], .int .u8 c] w fun e w' => e = .returned (.bool (smlB c != o)) ∧ Below w.heap.size w w' := by
  go_enter Try.func27, Try.ntmps27
  go_wp2
  go_quiet ((go_at_call 23; exact Calls.quiet_of_same (isSmall_any _ _)))
  go_wp2
  go_ret
  exact ⟨rfl, below_drewN (bw_alloc (Below.refl _ _) _) _⟩
theorem ghas_isGreat (o : Bool) (c : Int) (w : World) :
    Calls Try.prog 27 #[.agg #[.func (Fn.func 21) #[] #[], .bool o], .int .u8 c] w fun e w' => e = .returned (.bool (grtB c != o)) ∧ Below w.heap.size w w' := by
  go_enter Try.func27, Try.ntmps27
  go_wp2
  go_quiet ((go_at_call 21; exact Calls.quiet_of_same (isGreat_any _ _)))
  go_wp2
  go_ret
  exact ⟨rfl, below_drewN (bw_alloc (Below.refl _ _) _) _⟩
theorem ghas_isBlank (o : Bool) (c : Int) (w : World) :
    Calls Try.prog 27 #[.agg #[.func (Fn.func 37) #[] #[], .bool o], .int .u8 c] w fun e w' => e = .returned (.bool (blkB c != o)) ∧ Below w.heap.size w w' := by
  go_enter Try.func27, Try.ntmps27
  go_wp2
  go_quiet ((go_at_call 37; exact Calls.quiet_of_same (isBlank_any _ _)))
  go_wp2
  go_ret
  exact ⟨rfl, below_drewN (bw_alloc (Below.refl _ _) _) _⟩
theorem ghas_any {k : Int} {n : Nat} (h : fnum k = some n) (o : Bool) (c : Int) (w : World) :
    Calls Try.prog 27 #[.agg #[.func (Fn.func n) #[] #[], .bool o], .int .u8 c] w fun e w' => e = .returned (.bool (clsB k c != o)) ∧ Below w.heap.size w w' := by
  rcases fnum_some h with ⟨rfl, rfl⟩ | ⟨rfl, rfl⟩ | ⟨rfl, rfl⟩ | ⟨rfl, rfl⟩ | ⟨rfl, rfl⟩ | ⟨rfl, rfl⟩ | ⟨rfl, rfl⟩ | ⟨rfl, rfl⟩ | ⟨rfl, rfl⟩
  · exact ghas_isDigit o c w
  · exact ghas_isHex o c w
  · exact ghas_isOctal o c w
  · exact ghas_isWord o c w
  · exact ghas_isHead o c w
  · exact ghas_isLetter o c w
  · exact ghas_isSmall o c w
  · exact ghas_isGreat o c w
  · exact ghas_isBlank o c w

theorem great_is (k : Int) : (smI k != k) = grtB k := by
  unfold smI
  cases h : grtB k
  · simp
  · simp
    omega

theorem kIs_any (k c : Int) (w : World) :
    Calls Try.prog 18 #[.int .u8 k, .int .u8 c] w fun e w' => e = .returned (.bool (isB k c)) ∧ Below w.heap.size w w' := by
  unfold isB
  cases h : fnum (smI k) with
  | none =>
    rw [fnum_none h]
    go_enter Try.func18, Try.ntmps18
    go_wp2_with (go_at_call 25; refine (classOf_no h _).mono ?_; rintro e w1 ⟨rfl, hb1⟩)
    go_ret
    exact ⟨rfl, bw_alloc hb1 _⟩
  | some n =>
    rw [fnum_is h, ← great_is k, Bool.true_and]
    go_enter Try.func18, Try.ntmps18
    go_wp2_with (first | (go_at_call 25; refine (classOf_yes h _).mono ?_; rintro e w1 ⟨rfl, hb1⟩) | (go_at_call 27; refine (ghas_any h _ _ _).mono ?_; rintro e w2 ⟨rfl, hb2⟩))
    go_ret
    exact ⟨rfl, bw_trans (bw_alloc hb1 _) hb2⟩

theorem kKnown_any (k : Int) (w : World) :
    Calls Try.prog 14 #[.int .u8 k] w fun e w' => e = .returned (.bool (knB (smI k))) ∧ Below w.heap.size w w' := by
  cases h : fnum (smI k) with
  | none =>
    rw [fnum_none h]
    go_enter Try.func14, Try.ntmps14
    go_wp2_with (go_at_call 25; refine (classOf_no h _).mono ?_; rintro e w1 ⟨rfl, hb1⟩)
    go_ret
    exact ⟨rfl, bw_alloc hb1 _⟩
  | some n =>
    rw [fnum_is h]
    go_enter Try.func14, Try.ntmps14
    go_wp2_with (go_at_call 25; refine (classOf_yes h _).mono ?_; rintro e w1 ⟨rfl, hb1⟩)
    go_ret
    exact ⟨rfl, bw_alloc hb1 _⟩

theorem known_any (w : World) :
    Calls Try.prog 7 #[] w fun e w' => e = .returned (.bool true) ∧ Below w.heap.size w w' := by
  go_enter Try.func7, Try.ntmps7
  go_wp2_with fail
  refine (kIs_any _ _ _).mono ?_
  rintro e w1 ⟨rfl, hb1⟩
  rw [show isB 119 95 = true from by decide]
  go_wp2_with fail
  refine (kIs_any _ _ _).mono ?_
  rintro e w2 ⟨rfl, hb2⟩
  rw [show isB 87 95 = false from by decide]
  go_wp2_with fail
  refine (kKnown_any _ _).mono ?_
  rintro e w3 ⟨rfl, hb3⟩
  rw [show knB (smI 122) = false from by decide]
  go_wp2_with fail
  refine (kSmall_any _ _).mono ?_
  rintro e w4 ⟨rfl, rfl⟩
  rw [show smI 81 = 113 from by decide]
  go_wp2_with fail
  refine (kSame_any _ _ _ _).mono ?_
  rintro e w4 ⟨rfl, rfl⟩
  rw [show ((97 : Int) == 65 || true && smI 97 == smI 65) = true from by decide]
  go_wp2_with fail
  refine (kSame_any _ _ _ _).mono ?_
  rintro e w4 ⟨rfl, rfl⟩
  rw [show ((97 : Int) == 65 || false && smI 97 == smI 65) = false from by decide]
  go_wp2
  go_ret
  exact ⟨rfl, bw_trans (bw_trans hb1 hb2) hb3⟩

end Go.Proofs.Ytfbcmabpaecbjab
