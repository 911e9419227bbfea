/- For every byte the statement KindWords returns true: letters are heads, heads are of words, digits are of words and no heads; no condition. -/
import Derived.Test.YtfbcmabpaecbjaaCls
import Derived.ShutString
import Derived.ChangeOld
namespace Go.Proofs.Ytfbcmabpaecbjaa.kindWords
open Go.ChangeShapes Go.WideShapes Go.ChangeAt Go.RowKit
open Go.ChangeMaps (open_string shut_string)
set_option linter.unusedVariables false

theorem own : ownKnob Try.prog.godebug = none := by kernel_rfl
theorem laidOut : laidOutB Try.prog = true := by kernel_rfl

theorem ways (c : Int) :
    ((isB 97 c = true ∨ isB 97 c = false) ∧ isB 104 c = true ∧ isB 119 c = true ∧ isB 100 c = false ∧ isB 111 c = false ∧ isB 115 c = false) ∨
    (isB 97 c = false ∧ isB 104 c = false ∧ isB 119 c = true ∧ isB 100 c = true ∧ (isB 111 c = true ∨ isB 111 c = false) ∧ isB 120 c = true ∧ isB 115 c = false) ∨
    (isB 97 c = false ∧ isB 104 c = false ∧ isB 119 c = false ∧ isB 100 c = false ∧ isB 111 c = false ∧ (isB 115 c = true ∨ isB 115 c = false)) := by
  have e1 : isB 97 c = letB c := by simp [isB, smI, grtB, bt, knB, clsB]
  have e2 : isB 104 c = hedB c := by simp [isB, smI, grtB, bt, knB, clsB]
  have e3 : isB 119 c = wrdB c := by simp [isB, smI, grtB, bt, knB, clsB]
  have e4 : isB 100 c = digB c := by simp [isB, smI, grtB, bt, knB, clsB]
  have e5 : isB 111 c = octB c := by simp [isB, smI, grtB, bt, knB, clsB]
  have e6 : isB 120 c = hexB c := by simp [isB, smI, grtB, bt, knB, clsB]
  have e7 : isB 115 c = blkB c := by simp [isB, smI, grtB, bt, knB, clsB]
  rw [e1, e2, e3, e4, e5, e6, e7]
  simp only [wrdB, hedB, letB, smlB, grtB, digB, octB, hexB, blkB, bt, Bool.or_eq_true, Bool.or_eq_false_iff, decide_eq_true_eq, decide_eq_false_iff_not, beq_iff_eq, beq_eq_false_iff_ne, ne_eq]
  omega
theorem walk (a0 : Int) (w0 : (Lit.int .u8 a0).wf = true) (w : World) :
    Calls Try.prog 5 #[.int .u8 a0] w fun e w' => e = .returned (.bool true) ∧ Below w.heap.size w w' := by
  rcases ways a0 with ⟨q1 | q1, q2, q3, q4, q5, q7⟩ | ⟨q1, q2, q3, q4, q5 | q5, q6, q7⟩ | ⟨q1, q2, q3, q4, q5, q7 | q7⟩
  all_goals
    go_enter Try.func5, Try.ntmps5
    go_wp2_with fail
    refine (kIs_any _ _ _).mono ?_
    rintro e x1 ⟨rfl, hb1⟩
    go_wp2_with fail
    refine (kIs_any _ _ _).mono ?_
    rintro e x2 ⟨rfl, hb2⟩
    go_wp2_with fail
    refine (kIs_any _ _ _).mono ?_
    rintro e x3 ⟨rfl, hb3⟩
    go_wp2_with fail
    refine (kIs_any _ _ _).mono ?_
    rintro e x4 ⟨rfl, hb4⟩
    go_wp2_with fail
    refine (known_any _).mono ?_
    rintro e x5 ⟨rfl, hb5⟩
    go_wp2_with fail
    refine (kIs_any _ _ _).mono ?_
    rintro e x6 ⟨rfl, hb6⟩
    go_wp2_with fail
    have hb := bw_trans (bw_trans (bw_trans (bw_trans (bw_trans hb1 hb2) hb3) hb4) hb5) hb6
    refine (kIs_any _ _ _).mono ?_
    rintro e x7 ⟨rfl, hb7⟩
    go_wp2_with (go_at_call 14; refine (kIs_any _ _ _).mono ?_; rintro e x8 ⟨rfl, hb8⟩)
    go_ret
    first | exact ⟨rfl, bw_trans hb hb7⟩ | exact ⟨rfl, bw_trans (bw_trans hb hb7) hb8⟩

set_option maxRecDepth 100000 in
theorem lifted (os : Os) (started : os.Started) (H : Type) (enc : TypeId × Value → H) :
    ReturnsInHanded {} Try.checked os 5 .any (Rows.kindWordsSpec.pre6 enc Try.prog Try.f5 Rows.kindWordsRow.domain false) (Rows.kindWordsSpec.post enc Try.prog Try.f5 false true false false) := by
  refine returnsInHanded_of_change (C := Try.checked) own started (by kernel_rfl) Try.func5
    (ChangeSpec.witness6 (enc := enc) (C := Try.checked) false ⟨#[], #[.int .u8 0], []⟩ 8 (by kernel_rfl) (by kernel_rfl) (by kernel_rfl) (by kernel_rfl)) ?_
  intro W base args ds gs before hval0 hW hcnd _
  have hval : ∀ (j : Nat) t v, Try.f5.params[j]? = some t → args[j]? = some v → Value.okWide Try.prog W .any base t v := hval0
  have hW' := hW
  obtain ⟨p, q, hA0, hV, rfl, hfz, hnd⟩ := hW
  have hA : DataW.TrodAll enc Try.prog W 0 (fun _ => true) true Try.f5.params.toList args.toList ds p := hA0
  rw [Try.params5] at hA hval
  obtain ⟨v0, vs0, d0, ds0, p0, q0, hargs, rfl, rfl, h0, r0⟩ := trodAll_cons hA
  obtain ⟨rfl, rfl, rfl⟩ := trodAll_nil r0
  obtain rfl : args = #[v0] := by cases args; simp_all
  obtain ⟨rfl, rfl⟩ := trodVars_none hV
  obtain ⟨a0, rfl, rfl, rfl, w0⟩ := open_int Try.underlying5 (hval 0 5 v0 rfl rfl) h0
  clear hA0 hval0
  refine (walk a0 w0 W).mono fun e W' ⟨he, bel⟩ => ?_
  subst he
  exact ⟨_, rfl, _, _, _, [], _, [], hW', trodAll_mk1 (shut_bool Try.underlying4 _), (trodAll_cons_mk (shut_int Try.underlying5 w0) trodAll_mk0), rfl, bel.frame _, fun h => by cases h⟩

theorem over : Rows.kindWordsRow.holds Try.pinned (OpenSpec.ofChange Rows.kindWordsSpec) :=
  OpenClaim.holds_of_wide 5 Try.f5 rfl rfl rfl rfl rfl rfl rfl ⟨rfl, rfl, rfl, rfl, rfl⟩ rfl rfl rfl rfl rfl (by kernel_rfl) Try.func5 (by kernel_rfl)
    (of_decide_eq_true (by kernel_rfl)) (by unfold Func.isWrapper; first | (rw [if_pos (by decide +kernel)]; kernel_rfl) | (rw [if_neg (by decide +kernel)]; exact ⟨rfl, rfl⟩))
    (fun os started H enc _ => lifted os started H enc)

end Go.Proofs.Ytfbcmabpaecbjaa.kindWords
namespace Go.Proofs.Ytfbcmabpaecbjaa
theorem kindWords_holds : Rows.KindWordsSaid := kindWords.over
#print axioms kindWords_holds
end Go.Proofs.Ytfbcmabpaecbjaa
