/- Texts that the proof of the law stands on: RG, RH, RI, RJ, RK. -/
import Derived.Test.YtbnlenanfhggiaaPartC
import Derived.Deep.Cut
import Derived.Deep.CutRange
/- lay: what yanking and deleting have in common. -/
namespace Go.Proofs.Ytbnlenanfhggiaa
open Go.ChangeShapes Go.WideShapes Go.ChangeAt Go.RowKit Go.Maps Go.MapKept
set_option linter.unusedVariables false
set_option linter.unusedSimpArgs false
set_option maxRecDepth 100000
/-- What comes into a register. -/
def isR (f : Rf) (x : Int) (r : Rv) : Rv := if smI x = x then ownR r else match f (smI x) with | some q => addR q (ownR r) | none => ownR r
def layE (f : Rf) (x : Int) (r : Rv) : Int := if kwB x = false then 110 else if x = 95 then 0 else if szL (isR f x r).ls ≤ 20000 then 0 else 112
def layF (f : Rf) (x : Int) (r : Rv) : Rf := if kwB x = true ∧ x ≠ 95 ∧ szL (isR f x r).ls ≤ 20000 then setR (setR f (smI x) (some (isR f x r))) 34 (some (isR f x r)) else f
/-- It is not too much for the machine. -/
structure Fit (f : Rf) (x : Int) (r : Rv) : Prop where
  len : r.ls.length ≤ 8796093022208
  add : f (smI x) ≠ none → r.ls.length ≤ 1099511627776
  str : ∀ s ∈ r.ls, s.size ≤ 140737488355328
theorem isR_ne (f : Rf) (x : Int) (r : Rv) : (isR f x r).ls ≠ [] := by
  unfold isR; split
  · exact ownR_ne r
  · split
    · exact addR_ne (ownR_ne r)
    · exact ownR_ne r
theorem sm_in {x : Int} (h0 : 0 ≤ x) (h1 : x < 256) : 0 ≤ smI x ∧ smI x < 256 := by
  unfold smI; split
  · rename_i h; have := grtB_iff.1 h; omega
  · omega
theorem sm_nm {x : Int} (h : kwB x = true) (h1 : x ≠ 95) : nmB (smI x) = true := by
  unfold kwB at h
  unfold smI nmB
  cases q : grtB x
  · simp only [letB, q, Bool.or_false, Bool.false_eq_true, if_false] at h ⊢
    have : (x == 95) = false := by simpa using h1
    rw [this, Bool.or_false] at h
    exact h
  · rw [if_pos rfl]
    have := grtB_iff.1 q
    have h2 : smlB (x + 32) = true := smlB_iff.2 (by omega)
    rw [h2]; simp
theorem step_call {P : Program} {ops : Array Oper} {o : Oper} {a : Act} {w : World} {K : Act → World → Prop} {Q : Exit → Act → World → Prop} {E : Prop} (f : FuncId) {fn : Func} {xs : Array Operand} {ats : Array TypeId} {vals : Array Value}
    (hg : o.guard = none) (hop : o.op = .call { callee := .value (.func f), args := xs, argTypes := ats }) (hv : xs.map a.eval = vals)
    (hf : P.funcs[f]? = some fn) (hn : (fn.name == "runtime.NumGoroutine") = false) (hb : fn.body.isNone = false)
    (h : Calls P f vals w fun e w' => ∃ v, e = .returned v ∧ K (a.put o.dst v) w') : if Region.wanted o (yielded ops a.tmps) = true then Oper.wp P o a w K Q else E := by
  have hw : Region.wanted o (yielded ops a.tmps) = true := by simp [Region.wanted, hg]
  rw [if_pos hw]
  obtain ⟨dst, op, type, pos, after, guard⟩ := o
  simp only at hop hg
  subst hop; subst hg
  unfold Oper.wp
  rw [execOp_call_go, show (#[] ++ xs.map a.eval ++ #[]) = vals by simp [hv], run_callGo vals w hf hn hb]
  simp only [Oper.upon]
  refine Calls.mono h ?_
  rintro e w' ⟨v, rfl, hK⟩
  exact hK

theorem zeroR (w : World) : (zeroValue 24).run Try.prog w = .ok (.agg #[.slice none 0 0, .bool false]) w := by kernel_rfl
theorem box_sl {P : Nat → Prop} {w W : World} {b2 : Nat} {v p : Value} {y q : Bool} {aa : Option Addr} {n c : Nat} {ls : List ByteArray} (h : Lc 24 b2 [.slice aa n c, .bool y] W) (hr : Sl P v ls W) (hk : Kp w W) (hb : w.heap.size ≤ b2) :
    Lc 24 b2 [p, .bool q] ((W.setCell ⟨b2, 0, none⟩ p).setCell ⟨b2, 1, none⟩ (.bool q)) ∧ Sl P v ls ((W.setCell ⟨b2, 0, none⟩ p).setCell ⟨b2, 1, none⟩ (.bool q)) ∧ Kp w ((W.setCell ⟨b2, 0, none⟩ p).setCell ⟨b2, 1, none⟩ (.bool q)) := by
  have f : Fr (On b2) W ((W.setCell ⟨b2, 0, none⟩ p).setCell ⟨b2, 1, none⟩ (.bool q)) := (fr_set b2 0 p W).trans (fr_set b2 1 (.bool q) _)
  refine ⟨(h.set 0 p).set 1 (.bool q), hr.off h (fun i s => ?_) f, kp_new (kp_new hk hb) hb⟩
  rcases i with _ | _ | i <;> simp
theorem isR_add (f : Rf) (x : Int) (r : Rv) (h : smI x ≠ x) : isR f x r = addR ((f (smI x)).getD ⟨[], false⟩) (ownR r) := by
  unfold isR; rw [if_neg h]
  cases f (smI x) with
  | none => simp [addR]
  | some q => rfl
section
variable {t b : Nat} {f : Rf} {P Q : Nat → Prop} {w : World} {v : Value} {r : Rv}
set_option maxHeartbeats 4000000 in
theorem lay_no (x : Int) (hk : kwB x = false) (a : Option Addr) (n c : Nat) (bb : Bool) :
    Calls Try.prog 26 #[.pointer (some ⟨t, 0, none⟩), .int .u8 x, .agg #[.slice a n c, .bool bb]] w fun e w' => e = .returned (.int .u16 110) ∧ Kp w w' := by
  have HK : Hid (∀ w, Calls Try.prog 15 #[.int .u8 x] w fun e w' => e = .returned (.bool (kwB x)) ∧ Kp w w') := gknown_any x
  rw [hk] at HK
  clear hk
  go_enter Try.func26, Try.ntmps26
  go_wp2_with fail
  refine Calls.mono (HK.out _) ?_
  rintro e w1 ⟨rfl, k1⟩
  go_wp2_with fail
  go_ret
  exact ⟨rfl, kp_trans (kp_alloc _ _) k1⟩
set_option maxHeartbeats 4000000 in
theorem lay_nowhere (a : Option Addr) (n c : Nat) (bb : Bool) :
    Calls Try.prog 26 #[.pointer (some ⟨t, 0, none⟩), .int .u8 95, .agg #[.slice a n c, .bool bb]] w fun e w' => e = .returned (.int .u16 0) ∧ Kp w w' := by
  have HK : Hid (∀ w, Calls Try.prog 15 #[.int .u8 95] w fun e w' => e = .returned (.bool (kwB 95)) ∧ Kp w w') := gknown_any 95
  have hk : kwB 95 = true := by simp [kwB]
  rw [hk] at HK
  clear hk
  go_enter Try.func26, Try.ntmps26
  go_wp2_with fail
  refine Calls.mono (HK.out _) ?_
  rintro e w1 ⟨rfl, k1⟩
  go_wp2_with fail
  go_ret
  exact ⟨rfl, kp_trans (kp_alloc _ _) k1⟩
set_option maxHeartbeats 4000000 in
theorem lay_some (h : Rs t b f P w) (hP : ∀ k, w.heap.size ≤ k → P k) {x : Int} (h0 : 0 ≤ x) (h1 : x < 256) (hk : kwB x = true) (h95 : x ≠ 95) (hv : Sl Q v r.ls w) (hr : Fit f x r) :
    Calls Try.prog 26 #[.pointer (some ⟨t, 0, none⟩), .int .u8 x, .agg #[v, .bool r.wh]] w fun e w' => e = .returned (.int .u16 (if szL (isR f x r).ls ≤ 20000 then 0 else 112)) ∧ Rs t b (if szL (isR f x r).ls ≤ 20000 then setR (setR f (smI x) (some (isR f x r))) 34 (some (isR f x r)) else f) P w' ∧ Fr (On b) w w' := by
  obtain ⟨a, c, rfl, g1, g2, _⟩ := hv.form
  have HK : Hid (∀ w, Calls Try.prog 15 #[.int .u8 x] w fun e w' => e = .returned (.bool (kwB x)) ∧ Kp w w') := gknown_any x
  rw [hk] at HK
  have d1 : (x == 95) = false := by simpa using h95
  have HO : Hid (∀ X, Kp w X → Calls Try.prog 28 #[.agg #[.slice a r.ls.length c, .bool r.wh]] X fun e w' => ∃ a' n' c', e = .returned (.agg #[.slice a' n' c', .bool (ownR r).wh]) ∧ Hid (Row w.heap.size (.slice a' n' c') (ownR r).ls w' ∧ Kp X w')) := fun X k => by
    refine (own_any (hv.kp k) hr.len).mono ?_
    rintro e w' ⟨v', he, q1, q2⟩
    obtain ⟨a', c', rfl, _, _⟩ := q1.form
    exact ⟨a', _, c', he, row_lift q1 fun j hj => Nat.le_trans k.size (q1.lt j hj).1, q2⟩
  have HS : Hid (∀ X, Calls Try.prog 27 #[.int .u8 x] X fun e w' => e = .returned (.int .u8 (smI x)) ∧ w' = X) := fun X => kSmall_any x X
  obtain ⟨N, hN⟩ : ∃ N, r.ls.length = N := ⟨_, rfl⟩
  rw [hN] at HO ⊢
  obtain ⟨R, hR⟩ : ∃ R, isR f x r = R := ⟨_, rfl⟩
  obtain ⟨X0, hX0⟩ : ∃ X0, smI x = X0 := ⟨_, rfl⟩
  rw [hR, hX0]
  rw [hX0] at HS
  obtain ⟨E, hE⟩ : ∃ E : Int, (if szL R.ls ≤ 20000 then (0 : Int) else 112) = E := ⟨_, rfl⟩
  obtain ⟨F, hF⟩ : ∃ F : Rf, (if szL R.ls ≤ 20000 then setR (setR f X0 (some R)) 34 (some R) else f) = F := ⟨_, rfl⟩
  rw [hE, hF]
  have HEF : Hid ((if szL R.ls ≤ 20000 then (0 : Int) else 112) = E ∧ (if szL R.ls ≤ 20000 then setR (setR f X0 (some R)) 34 (some R) else f) = F) := ⟨hE, hF⟩
  clear hE hF
  clear g1 g2 hN hv
  have HKK : Hid (kwB x = true ∧ x ≠ 95 ∧ smI x = X0 ∧ isR f x r = R) := ⟨hk, h95, hX0, hR⟩
  clear hk h95 hX0 hR
  go_enter Try.func26, Try.ntmps26
  go_wp2_with fail
  refine Calls.mono (HK.out _) ?_
  rintro e w1 ⟨rfl, k1⟩
  have hb5 : Lc 24 w.heap.size [.slice a N c, .bool r.wh] w1 := (Lc.new w [.slice a N c, .bool r.wh] 24).kp k1
  have HW1 : Hid (Kp w w1 ∧ w.heap.size < w1.heap.size) := ⟨kp_trans (kp_alloc _ _) k1, hb5.lt⟩
  have c1 := hb5.at (j := 0) rfl
  have c2 := hb5.at (j := 1) rfl
  clear HK k1 hb5
  go_upto_region 5 with fail
  go_cut [7, 8] from 16 (fun v7 v8 wx => ∃ b8 a' n' c', v7 = .int .u8 X0 ∧ v8 = .pointer (some ⟨b8, 0, none⟩) ∧ Hid (Lc 24 b8 [.slice a' n' c', .bool (ownR r).wh] wx ∧ Row w.heap.size (.slice a' n' c') (ownR r).ls wx ∧ Kp w wx ∧ w.heap.size ≤ b8))
  case first =>
    refine wp_region_noPanic ?_
    refine wp_region_held_drew (S := fun z => z.cell? ⟨w.heap.size, 0, none⟩ = some (.slice a N c) ∧ z.cell? ⟨w.heap.size, 1, none⟩ = some (.bool r.wh)) (by kernel_rfl) (⟨c1, c2⟩) (fun hHeld => ?_)
    refine takeAt 0 (some 16) ?_ rfl rfl (by kernel_rfl) (by kernel_rfl) (by kernel_rfl) (fun _ _ _ h => h) (Or.inl ⟨by rfl, ?_⟩) hHeld ?_
    rotate_left
    · intro w hSw
      go_simp <;> with_reducible rfl
    try simp only [Act.put, List.setIfInBounds_toArray, List.set_cons_zero, List.set_cons_succ]
    refine takeAt 2 (some 18) ?_ rfl rfl (by kernel_rfl) (by kernel_rfl) (by kernel_rfl) (fun _ _ _ h => h) (Or.inl ⟨by rfl, ?_⟩) hHeld ?_
    rotate_left
    · intro w hSw
      go_simp <;> with_reducible rfl
    try simp only [Act.put, List.setIfInBounds_toArray, List.set_cons_zero, List.set_cons_succ]
    refine wpAnyH_ready (rs := [1, 4]) (by kernel_rfl) (by simp) ?_
    refine AllReadyH.cons rfl (fun K hK => ?_) (AllReadyH.cons rfl (fun K hK => ?_) AllReadyH.nil)
    · refine step_call 27 (vals := #[.int .u8 x]) rfl rfl (by simp [Act.eval]) Try.func27 (by kernel_rfl) (by kernel_rfl) ?_
      refine Calls.mono (HS.out _) ?_
      rintro e w2 ⟨rfl, e2⟩
      rw [e2]
      clear e2
      refine ⟨_, rfl, ?_⟩
      refine hK.out _ _ hHeld (fun hHeld => ?_)
      clear hK K
      try simp only [Act.put, List.setIfInBounds_toArray, List.set_cons_zero, List.set_cons_succ]
      refine wpAnyH_ready (rs := [3, 4]) (by kernel_rfl) (by simp) ?_
      refine AllReadyH.cons rfl (fun K hK => ?_) (AllReadyH.cons rfl (fun K hK => ?_) AllReadyH.nil)
      · refine step_call 28 (vals := #[.agg #[.slice a N c, .bool r.wh]]) rfl rfl (by simp [Act.eval]) Try.func28 (by kernel_rfl) (by kernel_rfl) ?_
        refine Calls.mono (HO.out (w1.drew) (kp_trans HW1.out.1 (kp_drew _))) ?_
        rintro e w3 ⟨a', n', c', rfl, q⟩
        refine ⟨_, rfl, ?_⟩
        have kx : Kp w1 w3 := kp_trans (kp_drew _) q.out.2
        have hS3 := And.intro (kp_cell kx c1) (kp_cell kx c2)
        have HQ : Hid (Lc 24 w3.heap.size [.slice a' n' c', .bool (ownR r).wh] (w3.alloc (.cells #[.slice a' n' c', .bool (ownR r).wh] 24)) ∧ Row w.heap.size (.slice a' n' c') (ownR r).ls (w3.alloc (.cells #[.slice a' n' c', .bool (ownR r).wh] 24)) ∧ Kp w (w3.alloc (.cells #[.slice a' n' c', .bool (ownR r).wh] 24)) ∧ w.heap.size ≤ w3.heap.size) := ⟨Lc.new w3 _ _, row_kp q.out.1 (kp_alloc _ _), kp_more (kp_trans HW1.out.1 kx) _, (kp_trans HW1.out.1 kx).size⟩
        clear q kx
        refine hK.out _ _ hS3 (fun hHeld => ?_)
        clear hK K
        try simp only [Act.put, List.setIfInBounds_toArray, List.set_cons_zero, List.set_cons_succ]
        refine wpAnyH_ready (rs := [4]) (by kernel_rfl) (by simp) ?_
        refine AllReadyH.cons rfl (fun K hK => ?_) AllReadyH.nil
        go_simp
        refine hK.out _ _ ⟨kp_cell (kp_alloc _ _) hHeld.1, kp_cell (kp_alloc _ _) hHeld.2⟩ (fun hHeld => ?_)
        clear hK K
        try simp only [Act.put, List.setIfInBounds_toArray, List.set_cons_zero, List.set_cons_succ]
        refine takeAt 5 (some 7) ?_ rfl rfl (by kernel_rfl) (by kernel_rfl) (by kernel_rfl) (fun _ _ _ h => h) (Or.inl ⟨by rfl, ?_⟩) hHeld ?_
        rotate_left
        · intro w hSw
          go_simp <;> with_reducible rfl
        try simp only [Act.put, List.setIfInBounds_toArray, List.set_cons_zero, List.set_cons_succ]
        refine wpAnyH_ready (rs := [6]) (by kernel_rfl) (by simp) ?_
        refine AllReadyH.cons rfl (fun K hK => ?_) AllReadyH.nil
        go_simp
        refine hK.out _ _ (⟨kp_cell (kp_alloc _ _) hS3.1, kp_cell (kp_alloc _ _) hS3.2⟩) (fun hHeld => ?_)
        clear hK K
        try simp only [Act.put, List.setIfInBounds_toArray, List.set_cons_zero, List.set_cons_succ]
        refine wpAnyH_done (by kernel_rfl) ?_ _
        refine NoPanic.normal ?_
        go_wp2_with fail
        go_meet
        exact ⟨_, a', n', c', rfl, rfl, HQ.out⟩
      · go_simp
        refine hK.out _ _ ⟨kp_cell (kp_alloc _ _) hHeld.1, kp_cell (kp_alloc _ _) hHeld.2⟩ (fun hHeld => ?_)
        clear hK K
        try simp only [Act.put, List.setIfInBounds_toArray, List.set_cons_zero, List.set_cons_succ]
        refine wpAnyH_ready (rs := [3]) (by kernel_rfl) (by simp) ?_
        refine AllReadyH.cons rfl (fun K hK => ?_) AllReadyH.nil
        refine step_call 28 (vals := #[.agg #[.slice a N c, .bool r.wh]]) rfl rfl (by simp [Act.eval]) Try.func28 (by kernel_rfl) (by kernel_rfl) ?_
        refine Calls.mono (HO.out ((w1.alloc (.cells #[.slice none 0 0, .bool false] 24)).drew) (kp_trans HW1.out.1 (kp_trans (kp_alloc _ _) (kp_drew _)))) ?_
        rintro e w3 ⟨a', n', c', rfl, q⟩
        refine ⟨_, rfl, ?_⟩
        have kx : Kp w1 w3 := kp_trans (kp_trans (kp_alloc _ _) (kp_drew _)) q.out.2
        have hS3 := And.intro (kp_cell kx c1) (kp_cell kx c2)
        have b8 : Lc 24 w1.heap.size [.slice none 0 0, .bool false] w3 := ((Lc.new w1 _ 24).kp (kp_drew _)).kp q.out.2
        have y3 := b8.at (j := 0) rfl
        have y4 := b8.at (j := 1) rfl
        have y5 := b8.fz 0
        have y6 := b8.fz 1
        have HQ : Hid _ := box_put b8 q.out.1 (kp_trans HW1.out.1 kx) HW1.out.1.size (.slice a' n' c') (.bool (ownR r).wh)
        clear b8
        clear q kx
        refine hK.out _ _ hS3 (fun hHeld => ?_)
        clear hK K
        try simp only [Act.put, List.setIfInBounds_toArray, List.set_cons_zero, List.set_cons_succ]
        refine takeAt 5 (some 7) ?_ rfl rfl (by kernel_rfl) (by kernel_rfl) (by kernel_rfl) (fun _ _ _ h => h) (Or.inl ⟨by rfl, ?_⟩) hHeld ?_
        rotate_left
        · intro w hSw
          go_simp <;> with_reducible rfl
        try simp only [Act.put, List.setIfInBounds_toArray, List.set_cons_zero, List.set_cons_succ]
        refine wpAnyH_ready (rs := [6]) (by kernel_rfl) (by simp) ?_
        refine AllReadyH.cons rfl (fun K hK => ?_) AllReadyH.nil
        go_simp
        refine hK.out _ _ (⟨by rw [cell_so (by show w.heap.size ≠ _; have := HW1.out.2; omega), cell_so (by show w.heap.size ≠ _; have := HW1.out.2; omega)]; exact hS3.1, by rw [cell_so (by show w.heap.size ≠ _; have := HW1.out.2; omega), cell_so (by show w.heap.size ≠ _; have := HW1.out.2; omega)]; exact hS3.2⟩) (fun hHeld => ?_)
        clear hK K
        try simp only [Act.put, List.setIfInBounds_toArray, List.set_cons_zero, List.set_cons_succ]
        refine wpAnyH_done (by kernel_rfl) ?_ _
        refine NoPanic.normal ?_
        go_wp2_with fail
        go_meet
        exact ⟨_, a', n', c', rfl, rfl, HQ.out.1, HQ.out.2.1, HQ.out.2.2, HW1.out.1.size⟩
    · go_simp
      refine hK.out _ _ ⟨kp_cell (kp_alloc _ _) hHeld.1, kp_cell (kp_alloc _ _) hHeld.2⟩ (fun hHeld => ?_)
      clear hK K
      try simp only [Act.put, List.setIfInBounds_toArray, List.set_cons_zero, List.set_cons_succ]
      refine wpAnyH_ready (rs := [1]) (by kernel_rfl) (by simp) ?_
      refine AllReadyH.cons rfl (fun K hK => ?_) AllReadyH.nil
      refine step_call 27 (vals := #[.int .u8 x]) rfl rfl (by simp [Act.eval]) Try.func27 (by kernel_rfl) (by kernel_rfl) ?_
      refine Calls.mono (HS.out _) ?_
      rintro e w2 ⟨rfl, e2⟩
      rw [e2]
      clear e2
      refine ⟨_, rfl, ?_⟩
      refine hK.out _ _ hHeld (fun hHeld => ?_)
      clear hK K
      try simp only [Act.put, List.setIfInBounds_toArray, List.set_cons_zero, List.set_cons_succ]
      refine wpAnyH_ready (rs := [3]) (by kernel_rfl) (by simp) ?_
      refine AllReadyH.cons rfl (fun K hK => ?_) AllReadyH.nil
      refine step_call 28 (vals := #[.agg #[.slice a N c, .bool r.wh]]) rfl rfl (by simp [Act.eval]) Try.func28 (by kernel_rfl) (by kernel_rfl) ?_
      refine Calls.mono (HO.out ((w1.alloc (.cells #[.slice none 0 0, .bool false] 24)).drew) (kp_trans HW1.out.1 (kp_trans (kp_alloc _ _) (kp_drew _)))) ?_
      rintro e w3 ⟨a', n', c', rfl, q⟩
      refine ⟨_, rfl, ?_⟩
      have kx : Kp w1 w3 := kp_trans (kp_trans (kp_alloc _ _) (kp_drew _)) q.out.2
      have hS3 := And.intro (kp_cell kx c1) (kp_cell kx c2)
      have b8 : Lc 24 w1.heap.size [.slice none 0 0, .bool false] w3 := ((Lc.new w1 _ 24).kp (kp_drew _)).kp q.out.2
      have y3 := b8.at (j := 0) rfl
      have y4 := b8.at (j := 1) rfl
      have y5 := b8.fz 0
      have y6 := b8.fz 1
      have HQ : Hid _ := box_put b8 q.out.1 (kp_trans HW1.out.1 kx) HW1.out.1.size (.slice a' n' c') (.bool (ownR r).wh)
      clear b8
      clear q kx
      refine hK.out _ _ hS3 (fun hHeld => ?_)
      clear hK K
      try simp only [Act.put, List.setIfInBounds_toArray, List.set_cons_zero, List.set_cons_succ]
      refine takeAt 5 (some 7) ?_ rfl rfl (by kernel_rfl) (by kernel_rfl) (by kernel_rfl) (fun _ _ _ h => h) (Or.inl ⟨by rfl, ?_⟩) hHeld ?_
      rotate_left
      · intro w hSw
        go_simp <;> with_reducible rfl
      try simp only [Act.put, List.setIfInBounds_toArray, List.set_cons_zero, List.set_cons_succ]
      refine wpAnyH_ready (rs := [6]) (by kernel_rfl) (by simp) ?_
      refine AllReadyH.cons rfl (fun K hK => ?_) AllReadyH.nil
      go_simp
      refine hK.out _ _ (⟨by rw [cell_so (by show w.heap.size ≠ _; have := HW1.out.2; omega), cell_so (by show w.heap.size ≠ _; have := HW1.out.2; omega)]; exact hS3.1, by rw [cell_so (by show w.heap.size ≠ _; have := HW1.out.2; omega), cell_so (by show w.heap.size ≠ _; have := HW1.out.2; omega)]; exact hS3.2⟩) (fun hHeld => ?_)
      clear hK K
      try simp only [Act.put, List.setIfInBounds_toArray, List.set_cons_zero, List.set_cons_succ]
      refine wpAnyH_done (by kernel_rfl) ?_ _
      refine NoPanic.normal ?_
      go_wp2_with fail
      go_meet
      exact ⟨_, a', n', c', rfl, rfl, HQ.out.1, HQ.out.2.1, HQ.out.2.2, HW1.out.1.size⟩
  case rest =>
    obtain ⟨b8, a', n', c', rfl, rfl, H8⟩ := hcut
    clear HS HO c1 c2 HW1 d1
    obtain ⟨hk, h95, hX0, hR⟩ := HKK.out
    clear HKK
    have HNE : Hid (R.ls ≠ [] ∧ nmB X0 = true ∧ 0 ≤ X0 ∧ X0 < 256) := by rw [← hX0]; exact ⟨by rw [← hR]; exact isR_ne f x r, sm_nm hk h95, sm_in h0 h1⟩
    have HH : Hid (Rs t b f P w ∧ (∀ k, w.heap.size ≤ k → P k)) := ⟨h, hP⟩
    by_cases hsx : smI x = x
    · have d2 : (X0 != x) = false := by rw [← hX0]; simp [hsx]
      have HX : Hid (Lc 24 b8 [.slice a' n' c', .bool R.wh] wc ∧ Sl P (.slice a' n' c') R.ls wc ∧ Kp w wc ∧ w.heap.size ≤ b8 ∧ R.ls.length ≤ 8796093022208) := by
        have e : ownR r = R := by rw [← hR]; unfold isR; rw [if_pos hsx]
        have h8 := H8.out
        rw [e] at h8
        refine ⟨h8.1, (Sl.of_row h8.2.1).mono fun j _ hj => hP j hj, h8.2.2.1, h8.2.2.2, ?_⟩
        rw [← e]; unfold ownR; split
        · simp
        · exact hr.len
      clear H8 hsx hR h hP hr h0 h1 hk h95 hX0
      have ff1 := HX.out.1.at (j := 0) rfl
      have ff2 := HX.out.1.at (j := 1) rfl
      have HF : Hid (Calls Try.prog 40 #[.agg #[.slice a' n' c', .bool R.wh]] wc fun e w' => e = .returned (.bool (decide (szL R.ls ≤ 20000))) ∧ Kp wc w') := fits_any (r := R) HX.out.2.1 HX.out.2.2.2.2
      go_wp2_with fail
      refine Calls.mono HF.out ?_
      rintro e x1 ⟨rfl, kx1⟩
      replace HX : Hid (Lc 24 b8 [.slice a' n' c', .bool R.wh] x1 ∧ Sl P (.slice a' n' c') R.ls x1 ∧ Kp w x1) := ⟨HX.out.1.kp kx1, HX.out.2.1.kp kx1, kp_trans HX.out.2.2.1 kx1⟩
      clear HF ff1 ff2 kx1
      by_cases hz : szL R.ls ≤ 20000
      · have e1 : decide (szL R.ls ≤ 20000) = true := decide_eq_true hz
        rw [e1]
        have HV : Hid (E = 0) := by rw [← HEF.out.1]; exact if_pos hz
        have hx := HX.out
        have hRs : Rs t b f P x1.drew := (HH.out.1.kp hx.2.2).kp (kp_drew _)
        obtain ⟨m1, hm1, hv1⟩ := hRs.map
        obtain ⟨x2, hr2, hm2, hf2, hs2⟩ := hm1.store HNE.out.2.2.1 HNE.out.2.2.2 Try.underlying54 (.agg #[.slice a' n' c', .bool R.wh])
        have hsl1 : Sl P (.slice a' n' c') R.ls x1.drew := hx.2.1.kp (kp_drew _)
        have hRs2 := hRs.store (r := R) hm1 hv1 hm2 hf2 (.inr ⟨_, R, rfl, rfl, hsl1⟩) HNE.out.2.1 ⟨HNE.out.1, hz⟩
        have hb2 : Lc 24 b8 [.slice a' n' c', .bool R.wh] x2 := (hx.1.kp (kp_drew _)).fr hf2 (hm1.ne (hx.1.kp (kp_drew _)))
        have hsl2 : Sl P (.slice a' n' c') R.ls x2.drew := (hsl1.onMap hm1 hf2).kp (kp_drew _)
        have hRs2d := hRs2.kp (kp_drew _)
        obtain ⟨m3, hm3, hv3⟩ := hRs2d.map
        obtain ⟨x4, hr4, hm4, hf4, hs4⟩ := hm3.store (x := 34) (by omega) (by omega) Try.underlying54 (.agg #[.slice a' n' c', .bool R.wh])
        have hRs4 := hRs2d.store (r := R) hm3 hv3 hm4 hf4 (.inr ⟨_, R, rfl, rfl, hsl2⟩) (by simp [nmB]) ⟨HNE.out.1, hz⟩
        have HE : Hid (Rs t b F P x4 ∧ Fr (On b) w x4) := ⟨by rw [← HEF.out.2, if_pos hz]; exact hRs4, (((Fr.of_below hx.2.2).trans (Fr.of_below (kp_drew _))).trans hf2).trans ((Fr.of_below (kp_drew _)).trans hf4)⟩
        have y0 := hRs.box.at (j := 0) rfl
        have y1 := (hx.1.kp (kp_drew _)).at (j := 0) rfl
        have y2 := (hx.1.kp (kp_drew _)).at (j := 1) rfl
        have z0 := hRs2.box.at (j := 0) rfl
        have z1 := hb2.at (j := 0) rfl
        have z2 := hb2.at (j := 1) rfl
        have u0 := hRs4.box.at (j := 0) rfl
        have u1 := ((hb2.kp (kp_drew _)).fr hf4 (hm3.ne (hb2.kp (kp_drew _)))).at (j := 0) rfl
        have u2 := ((hb2.kp (kp_drew _)).fr hf4 (hm3.ne (hb2.kp (kp_drew _)))).at (j := 1) rfl
        clear hx hRs hm1 hv1 hm2 hf2 hs2 hsl1 hRs2 hb2 hsl2 hRs2d hm3 hv3 hm4 hf4 hs4 hRs4 HX HH HNE e1 hz HEF
        go_upto_region 10 with fail
        refine wp_region_noPanic ?_
        refine wp_region_held_drew (S := fun z => z.cell? ⟨t, 0, none⟩ = some (.map (some b)) ∧ z.cell? ⟨b8, 0, none⟩ = some (.slice a' n' c') ∧ z.cell? ⟨b8, 1, none⟩ = some (.bool R.wh)) (by kernel_rfl) (⟨y0, y1, y2⟩) (fun hHeld => ?_)
        refine takeAt 0 (some 34) ?_ rfl rfl (by kernel_rfl) (by kernel_rfl) (by kernel_rfl) (fun _ _ _ h => h) (Or.inl ⟨by rfl, ?_⟩) hHeld ?_
        rotate_left
        · intro w hSw
          go_simp <;> with_reducible rfl
        try simp only [Act.put, List.setIfInBounds_toArray, List.set_cons_zero, List.set_cons_succ]
        refine takeAt 1 (some 35) ?_ rfl rfl (by kernel_rfl) (by kernel_rfl) (by kernel_rfl) (fun _ _ _ h => h) (Or.inl ⟨by rfl, ?_⟩) hHeld ?_
        rotate_left
        · intro w hSw
          go_simp <;> with_reducible rfl
        try simp only [Act.put, List.setIfInBounds_toArray, List.set_cons_zero, List.set_cons_succ]
        refine takeAt 2 (some 36) ?_ rfl rfl (by kernel_rfl) (by kernel_rfl) (by kernel_rfl) (fun _ _ _ h => h) (Or.inl ⟨by rfl, ?_⟩) hHeld ?_
        rotate_left
        · intro w hSw
          go_simp <;> with_reducible rfl
        try simp only [Act.put, List.setIfInBounds_toArray, List.set_cons_zero, List.set_cons_succ]
        refine takeAt 3 (some 37) ?_ rfl rfl (by kernel_rfl) (by kernel_rfl) (by kernel_rfl) (fun _ _ _ h => h) (Or.inl ⟨by rfl, ?_⟩) hHeld ?_
        rotate_left
        · intro w hSw
          go_simp <;> with_reducible rfl
        try simp only [Act.put, List.setIfInBounds_toArray, List.set_cons_zero, List.set_cons_succ]
        refine takeAt 4 (some 38) ?_ rfl rfl (by kernel_rfl) (by kernel_rfl) (by kernel_rfl) (fun _ _ _ h => h) (Or.inl ⟨by rfl, ?_⟩) hHeld ?_
        rotate_left
        · intro w hSw
          go_simp <;> with_reducible rfl
        try simp only [Act.put, List.setIfInBounds_toArray, List.set_cons_zero, List.set_cons_succ]
        refine takeAt 5 (some 39) ?_ rfl rfl (by kernel_rfl) (by kernel_rfl) (by kernel_rfl) (fun _ _ _ h => h) (Or.inl ⟨by rfl, ?_⟩) hHeld ?_
        rotate_left
        · intro w hSw
          go_simp <;> with_reducible rfl
        try simp only [Act.put, List.setIfInBounds_toArray, List.set_cons_zero, List.set_cons_succ]
        refine wpAnyH_ready (rs := [6]) (by kernel_rfl) (by simp) ?_
        refine AllReadyH.cons rfl (fun K hK => ?_) AllReadyH.nil
        go_simp
        refine hK.out _ _ (⟨z0, z1, z2⟩) (fun hHeld => ?_)
        clear hK K
        try simp only [Act.put, List.setIfInBounds_toArray, List.set_cons_zero, List.set_cons_succ]
        refine wpAnyH_done (by kernel_rfl) ?_ _
        refine NoPanic.normal ?_
        go_upto_region 11 with fail
        refine wp_region_noPanic ?_
        refine wp_region_held_drew (S := fun z => z.cell? ⟨t, 0, none⟩ = some (.map (some b)) ∧ z.cell? ⟨b8, 0, none⟩ = some (.slice a' n' c') ∧ z.cell? ⟨b8, 1, none⟩ = some (.bool R.wh)) (by kernel_rfl) (⟨z0, z1, z2⟩) (fun hHeld => ?_)
        refine takeAt 0 (some 40) ?_ rfl rfl (by kernel_rfl) (by kernel_rfl) (by kernel_rfl) (fun _ _ _ h => h) (Or.inl ⟨by rfl, ?_⟩) hHeld ?_
        rotate_left
        · intro w hSw
          go_simp <;> with_reducible rfl
        try simp only [Act.put, List.setIfInBounds_toArray, List.set_cons_zero, List.set_cons_succ]
        refine takeAt 1 (some 41) ?_ rfl rfl (by kernel_rfl) (by kernel_rfl) (by kernel_rfl) (fun _ _ _ h => h) (Or.inl ⟨by rfl, ?_⟩) hHeld ?_
        rotate_left
        · intro w hSw
          go_simp <;> with_reducible rfl
        try simp only [Act.put, List.setIfInBounds_toArray, List.set_cons_zero, List.set_cons_succ]
        refine takeAt 2 (some 42) ?_ rfl rfl (by kernel_rfl) (by kernel_rfl) (by kernel_rfl) (fun _ _ _ h => h) (Or.inl ⟨by rfl, ?_⟩) hHeld ?_
        rotate_left
        · intro w hSw
          go_simp <;> with_reducible rfl
        try simp only [Act.put, List.setIfInBounds_toArray, List.set_cons_zero, List.set_cons_succ]
        refine takeAt 3 (some 43) ?_ rfl rfl (by kernel_rfl) (by kernel_rfl) (by kernel_rfl) (fun _ _ _ h => h) (Or.inl ⟨by rfl, ?_⟩) hHeld ?_
        rotate_left
        · intro w hSw
          go_simp <;> with_reducible rfl
        try simp only [Act.put, List.setIfInBounds_toArray, List.set_cons_zero, List.set_cons_succ]
        refine takeAt 4 (some 44) ?_ rfl rfl (by kernel_rfl) (by kernel_rfl) (by kernel_rfl) (fun _ _ _ h => h) (Or.inl ⟨by rfl, ?_⟩) hHeld ?_
        rotate_left
        · intro w hSw
          go_simp <;> with_reducible rfl
        try simp only [Act.put, List.setIfInBounds_toArray, List.set_cons_zero, List.set_cons_succ]
        refine wpAnyH_ready (rs := [5]) (by kernel_rfl) (by simp) ?_
        refine AllReadyH.cons rfl (fun K hK => ?_) AllReadyH.nil
        go_simp
        refine hK.out _ _ (⟨u0, u1, u2⟩) (fun hHeld => ?_)
        clear hK K
        try simp only [Act.put, List.setIfInBounds_toArray, List.set_cons_zero, List.set_cons_succ]
        refine wpAnyH_done (by kernel_rfl) ?_ _
        refine NoPanic.normal ?_
        go_wp2_with fail
        go_ret
        exact ⟨by rw [HV.out]; rfl, HE.out⟩
      · have e1 : decide (szL R.ls ≤ 20000) = false := decide_eq_false hz
        rw [e1]
        have HV : Hid (E = 112) := by rw [← HEF.out.1]; exact if_neg hz
        have HE : Hid (Rs t b F P x1 ∧ Fr (On b) w x1) := ⟨by rw [← HEF.out.2, if_neg hz]; exact HH.out.1.kp HX.out.2.2, Fr.of_below HX.out.2.2⟩
        clear e1 hz HX HH HNE HEF
        go_wp2_with fail
        go_ret
        exact ⟨by rw [HV.out]; rfl, HE.out⟩
    · have d2 : (X0 != x) = true := by rw [← hX0]; simp [hsx]
      obtain ⟨m, hm, hv⟩ := h.map
      have hlk : ∀ z, Kp w z → (Instr.lookup 54 (.map (some b)) (.int .u8 (smI x)) false).run Try.prog z = .ok ((m (smI x)).getD (.agg #[.slice none 0 0, .bool false])) z := fun z k => by
        have := (hm.kp k).look (sm_in h0 h1).1 (sm_in h0 h1).2 Try.underlying54 (zeroR z) false
        simpa using this
      obtain ⟨aa, na, ca, hU, hA⟩ : ∃ aa na ca, (m (smI x)).getD (.agg #[.slice none 0 0, .bool false]) = .agg #[.slice aa na ca, .bool ((f (smI x)).getD ⟨[], false⟩).wh] ∧ Sl P (.slice aa na ca) ((f (smI x)).getD ⟨[], false⟩).ls w := by
        rcases hv (smI x) with ⟨q1, q2⟩ | ⟨v', q, q1, q2, q3⟩
        · rw [q1, q2]; exact ⟨none, 0, 0, rfl, Sl.nil _ _⟩
        · obtain ⟨a2, c2, rfl, _⟩ := q3.form
          rw [q1, q2]; exact ⟨a2, _, c2, rfl, q3⟩
      rw [hU] at hlk
      have hRR : addR ((f (smI x)).getD ⟨[], false⟩) (ownR r) = R := by rw [← isR_add f x r hsx]; exact hR
      have hol : (ownR r).ls.length ≤ 8796093022208 ∧ (f (smI x) ≠ none → (ownR r).ls.length ≤ 1099511627776) := by
        unfold ownR; split
        · simp
        · exact ⟨hr.len, hr.add⟩
      have hq0 : ((f (smI x)).getD ⟨[], false⟩).ls.length ≤ 20000 ∧ (f (smI x) = none → ((f (smI x)).getD ⟨[], false⟩).ls.length = 0) ∧ szL ((f (smI x)).getD ⟨[], false⟩).ls ≤ 20000 := by
        cases q : f (smI x) with
        | none => simp [szL]
        | some z =>
          have := (h.ok _ _ q).2
          have h2 := szL_len z.ls
          exact ⟨by show z.ls.length ≤ _; omega, (fun e => by cases e), this⟩
      have hlen : ((f (smI x)).getD ⟨[], false⟩).ls.length + (ownR r).ls.length ≤ 8796093022208 := by
        by_cases q : f (smI x) = none
        · have := hq0.2.1 q; omega
        · have := hol.2 q; omega
      generalize ((f (smI x)).getD ⟨[], false⟩) = q0 at *
      have hsz : (q0.ls[q0.ls.length - 1]?.getD emp).size + ((ownR r).ls[0]?.getD emp).size ≤ 9223372036854775807 := by
        have e1 : (q0.ls[q0.ls.length - 1]?.getD emp).size ≤ 20000 := by
          cases q : q0.ls[q0.ls.length - 1]? with
          | none => simp [emp, ByteArray.size]
          | some s0 =>
            have := szL_take q0.ls q
            have h2 := szL_le q0.ls (q0.ls.length - 1 + 1)
            show s0.size ≤ _
            omega
        have e2 : ((ownR r).ls[0]?.getD emp).size ≤ 140737488355328 := by
          unfold ownR
          split
          · simp [emp, ByteArray.size]
          · cases q : r.ls[0]? with
            | none => simp [emp, ByteArray.size]
            | some s0 => exact hr.str s0 (List.mem_of_getElem? q)
        omega
      have HAD : Hid (∀ X, Kp w X → Sl P (.slice a' n' c') (ownR r).ls X → Calls Try.prog 39 #[.agg #[.slice aa na ca, .bool q0.wh], .agg #[.slice a' n' c', .bool (ownR r).wh]] X fun e w' => ∃ a2 n2 c2, e = .returned (.agg #[.slice a2 n2 c2, .bool R.wh]) ∧ Hid (Sl P (.slice a2 n2 c2) R.ls w' ∧ Kp X w')) := fun X k hx => by
        refine (added_any (hA.kp k) hx (fun j hj => hP j (Nat.le_trans k.size hj)) (ownR_ne r) hlen hsz).mono ?_
        rintro e w' ⟨v', he, q1, q2⟩
        rw [hRR] at he q1
        obtain ⟨a2, c2, rfl, _⟩ := q1.form
        exact ⟨a2, _, c2, he, q1, q2⟩
      have HRL : Hid (R.ls.length ≤ 8796093022208) := by
        show _ ≤ _
        rw [← hRR]; unfold addR
        split
        · omega
        · split
          · show (q0.ls ++ (ownR r).ls).length ≤ _
            rw [List.length_append]; omega
          · rename_i hne _
            have := List.length_pos_iff.2 hne
            show (q0.ls.take (q0.ls.length - 1) ++ (seam q0.ls (ownR r).ls :: (ownR r).ls.drop 1)).length ≤ _
            simp; omega
      have r1 : ∀ z, Kp w z → z.cell? ⟨t, 0, none⟩ = some (.map (some b)) := fun z k => (h.box.kp k).at (j := 0) rfl
      have cc1 := H8.out.1.at (j := 0) rfl
      have cc2 := H8.out.1.at (j := 1) rfl
      have HSL : Hid (Sl P (.slice a' n' c') (ownR r).ls wc) := (Sl.of_row H8.out.2.1).mono fun j _ hj => hP j hj
      have hkw : Kp w wc.drew := kp_trans H8.out.2.2.1 (kp_drew _)
      have H8' : Hid (Lc 24 b8 [.slice a' n' c', .bool (ownR r).wh] wc.drew ∧ w.heap.size ≤ b8) := ⟨H8.out.1.kp (kp_drew _), H8.out.2.2.2⟩
      rw [hX0] at hlk
      clear H8 hsx hR h hP hr h0 h1 hk h95 hm hv hU hA hRR hol hq0 hlen hsz hX0
      go_upto_region 7 with fail
      refine wp_region_noPanic ?_
      refine wp_region_held_drew (S := fun z => Kp w z) (by kernel_rfl) (hkw) (fun hHeld => ?_)
      refine takeAt 0 (some 23) ?_ rfl rfl (by kernel_rfl) (by kernel_rfl) (by kernel_rfl) (fun _ _ _ h => h) (Or.inl ⟨by rfl, ?_⟩) hHeld ?_
      rotate_left
      · intro w hSw
        go_simp <;> with_reducible rfl
      try simp only [Act.put, List.setIfInBounds_toArray, List.set_cons_zero, List.set_cons_succ]
      refine takeAt 1 (some 24) ?_ rfl rfl (by kernel_rfl) (by kernel_rfl) (by kernel_rfl) (fun _ _ _ h => h) (Or.inl ⟨by rfl, ?_⟩) hHeld ?_
      rotate_left
      · intro w hSw
        go_simp <;> with_reducible rfl
      try simp only [Act.put, List.setIfInBounds_toArray, List.set_cons_zero, List.set_cons_succ]
      refine takeAt 2 (some 25) ?_ rfl rfl (by kernel_rfl) (by kernel_rfl) (by kernel_rfl) (fun _ _ _ h => h) (Or.inl ⟨by rfl, ?_⟩) hHeld ?_
      rotate_left
      · intro w hSw
        go_simp <;> with_reducible rfl
      try simp only [Act.put, List.setIfInBounds_toArray, List.set_cons_zero, List.set_cons_succ]
      refine takeAt 3 (some 26) ?_ rfl rfl (by kernel_rfl) (by kernel_rfl) (by kernel_rfl) (fun _ _ _ h => h) (Or.inl ⟨by rfl, ?_⟩) hHeld ?_
      rotate_left
      · intro w hSw
        go_simp <;> with_reducible rfl
      try simp only [Act.put, List.setIfInBounds_toArray, List.set_cons_zero, List.set_cons_succ]
      refine takeAt 4 (some 27) ?_ rfl rfl (by kernel_rfl) (by kernel_rfl) (by kernel_rfl) (fun _ _ _ h => h) (Or.inl ⟨by rfl, ?_⟩) hHeld ?_
      rotate_left
      · intro w hSw
        go_simp <;> with_reducible rfl
      try simp only [Act.put, List.setIfInBounds_toArray, List.set_cons_zero, List.set_cons_succ]
      refine takeAt 5 (some 28) ?_ rfl rfl (by kernel_rfl) (by kernel_rfl) (by kernel_rfl) (fun _ _ _ h => h) (Or.inl ⟨by rfl, ?_⟩) hHeld ?_
      rotate_left
      · intro w hSw
        go_simp <;> with_reducible rfl
      try simp only [Act.put, List.setIfInBounds_toArray, List.set_cons_zero, List.set_cons_succ]
      refine wpAnyH_ready (rs := [6]) (by kernel_rfl) (by simp) ?_
      refine AllReadyH.cons rfl (fun K hK => ?_) AllReadyH.nil
      go_simp
      refine hK.out _ _ (hHeld) (fun hHeld => ?_)
      clear hK K
      try simp only [Act.put, List.setIfInBounds_toArray, List.set_cons_zero, List.set_cons_succ]
      refine callAt 7 30 39 (vals := #[.agg #[.slice aa na ca, .bool q0.wh], .agg #[.slice a' n' c', .bool (ownR r).wh]]) (by kernel_rfl) rfl rfl rfl rfl (by simp [Act.eval]) Try.func39 (by kernel_rfl) (by kernel_rfl) ?_
      refine Calls.mono (HAD.out wc.drew hkw (HSL.out.kp (kp_drew _))) ?_
      rintro e w4 ⟨a2, n2, c2, rfl, q⟩
      have b9 := H8'.out.1.kp q.out.2
      have hk4 : Kp w w4 := kp_trans hkw q.out.2
      have HX0 : Hid _ := box_sl (p := .slice a2 n2 c2) (q := R.wh) b9 q.out.1 hk4 H8'.out.2
      have y3 := b9.at (j := 0) rfl
      have y4 := b9.at (j := 1) rfl
      have y5 := b9.fz 0
      have y6 := b9.fz 1
      clear q b9 HAD HSL
      refine ⟨_, rfl, hk4, fun hHeld => ?_⟩
      try simp only [Act.put, List.setIfInBounds_toArray, List.set_cons_zero, List.set_cons_succ]
      refine wpAnyH_ready (rs := [8]) (by kernel_rfl) (by simp) ?_
      refine AllReadyH.cons rfl (fun K hK => ?_) AllReadyH.nil
      go_simp
      refine hK.out _ _ (HX0.out.2.2) (fun hHeld => ?_)
      clear hK K
      try simp only [Act.put, List.setIfInBounds_toArray, List.set_cons_zero, List.set_cons_succ]
      refine wpAnyH_done (by kernel_rfl) ?_ _
      refine NoPanic.normal ?_
      generalize hx9 : (w4.setCell ⟨b8, 0, none⟩ (.slice a2 n2 c2)).setCell ⟨b8, 1, none⟩ (.bool R.wh) = x9 at HX0 ⊢
      have HX : Hid (Lc 24 b8 [.slice a2 n2 c2, .bool R.wh] x9 ∧ Sl P (.slice a2 n2 c2) R.ls x9 ∧ Kp w x9 ∧ w.heap.size ≤ b8 ∧ R.ls.length ≤ 8796093022208) := ⟨HX0.out.1, HX0.out.2.1, HX0.out.2.2, H8'.out.2, HRL.out⟩
      clear hx9 HX0 H8' HRL y3 y4 y5 y6 hk4 hkw cc1 cc2 r1 hlk
      have ff1 := HX.out.1.at (j := 0) rfl
      have ff2 := HX.out.1.at (j := 1) rfl
      have HF : Hid (Calls Try.prog 40 #[.agg #[.slice a2 n2 c2, .bool R.wh]] x9 fun e w' => e = .returned (.bool (decide (szL R.ls ≤ 20000))) ∧ Kp x9 w') := fits_any (r := R) HX.out.2.1 HX.out.2.2.2.2
      go_wp2_with fail
      refine Calls.mono HF.out ?_
      rintro e x1 ⟨rfl, kx1⟩
      replace HX : Hid (Lc 24 b8 [.slice a2 n2 c2, .bool R.wh] x1 ∧ Sl P (.slice a2 n2 c2) R.ls x1 ∧ Kp w x1) := ⟨HX.out.1.kp kx1, HX.out.2.1.kp kx1, kp_trans HX.out.2.2.1 kx1⟩
      clear HF ff1 ff2 kx1
      by_cases hz : szL R.ls ≤ 20000
      · have e1 : decide (szL R.ls ≤ 20000) = true := decide_eq_true hz
        rw [e1]
        have HV : Hid (E = 0) := by rw [← HEF.out.1]; exact if_pos hz
        have hx := HX.out
        have hRs : Rs t b f P x1.drew := (HH.out.1.kp hx.2.2).kp (kp_drew _)
        obtain ⟨m1, hm1, hv1⟩ := hRs.map
        obtain ⟨x2, hr2, hm2, hf2, hs2⟩ := hm1.store HNE.out.2.2.1 HNE.out.2.2.2 Try.underlying54 (.agg #[.slice a2 n2 c2, .bool R.wh])
        have hsl1 : Sl P (.slice a2 n2 c2) R.ls x1.drew := hx.2.1.kp (kp_drew _)
        have hRs2 := hRs.store (r := R) hm1 hv1 hm2 hf2 (.inr ⟨_, R, rfl, rfl, hsl1⟩) HNE.out.2.1 ⟨HNE.out.1, hz⟩
        have hb2 : Lc 24 b8 [.slice a2 n2 c2, .bool R.wh] x2 := (hx.1.kp (kp_drew _)).fr hf2 (hm1.ne (hx.1.kp (kp_drew _)))
        have hsl2 : Sl P (.slice a2 n2 c2) R.ls x2.drew := (hsl1.onMap hm1 hf2).kp (kp_drew _)
        have hRs2d := hRs2.kp (kp_drew _)
        obtain ⟨m3, hm3, hv3⟩ := hRs2d.map
        obtain ⟨x4, hr4, hm4, hf4, hs4⟩ := hm3.store (x := 34) (by omega) (by omega) Try.underlying54 (.agg #[.slice a2 n2 c2, .bool R.wh])
        have hRs4 := hRs2d.store (r := R) hm3 hv3 hm4 hf4 (.inr ⟨_, R, rfl, rfl, hsl2⟩) (by simp [nmB]) ⟨HNE.out.1, hz⟩
        have HE : Hid (Rs t b F P x4 ∧ Fr (On b) w x4) := ⟨by rw [← HEF.out.2, if_pos hz]; exact hRs4, (((Fr.of_below hx.2.2).trans (Fr.of_below (kp_drew _))).trans hf2).trans ((Fr.of_below (kp_drew _)).trans hf4)⟩
        have y0 := hRs.box.at (j := 0) rfl
        have y1 := (hx.1.kp (kp_drew _)).at (j := 0) rfl
        have y2 := (hx.1.kp (kp_drew _)).at (j := 1) rfl
        have z0 := hRs2.box.at (j := 0) rfl
        have z1 := hb2.at (j := 0) rfl
        have z2 := hb2.at (j := 1) rfl
        have u0 := hRs4.box.at (j := 0) rfl
        have u1 := ((hb2.kp (kp_drew _)).fr hf4 (hm3.ne (hb2.kp (kp_drew _)))).at (j := 0) rfl
        have u2 := ((hb2.kp (kp_drew _)).fr hf4 (hm3.ne (hb2.kp (kp_drew _)))).at (j := 1) rfl
        clear hx hRs hm1 hv1 hm2 hf2 hs2 hsl1 hRs2 hb2 hsl2 hRs2d hm3 hv3 hm4 hf4 hs4 hRs4 HX HH HNE e1 hz HEF
        go_upto_region 10 with fail
        refine wp_region_noPanic ?_
        refine wp_region_held_drew (S := fun z => z.cell? ⟨t, 0, none⟩ = some (.map (some b)) ∧ z.cell? ⟨b8, 0, none⟩ = some (.slice a2 n2 c2) ∧ z.cell? ⟨b8, 1, none⟩ = some (.bool R.wh)) (by kernel_rfl) (⟨y0, y1, y2⟩) (fun hHeld => ?_)
        refine takeAt 0 (some 34) ?_ rfl rfl (by kernel_rfl) (by kernel_rfl) (by kernel_rfl) (fun _ _ _ h => h) (Or.inl ⟨by rfl, ?_⟩) hHeld ?_
        rotate_left
        · intro w hSw
          go_simp <;> with_reducible rfl
        try simp only [Act.put, List.setIfInBounds_toArray, List.set_cons_zero, List.set_cons_succ]
        refine takeAt 1 (some 35) ?_ rfl rfl (by kernel_rfl) (by kernel_rfl) (by kernel_rfl) (fun _ _ _ h => h) (Or.inl ⟨by rfl, ?_⟩) hHeld ?_
        rotate_left
        · intro w hSw
          go_simp <;> with_reducible rfl
        try simp only [Act.put, List.setIfInBounds_toArray, List.set_cons_zero, List.set_cons_succ]
        refine takeAt 2 (some 36) ?_ rfl rfl (by kernel_rfl) (by kernel_rfl) (by kernel_rfl) (fun _ _ _ h => h) (Or.inl ⟨by rfl, ?_⟩) hHeld ?_
        rotate_left
        · intro w hSw
          go_simp <;> with_reducible rfl
        try simp only [Act.put, List.setIfInBounds_toArray, List.set_cons_zero, List.set_cons_succ]
        refine takeAt 3 (some 37) ?_ rfl rfl (by kernel_rfl) (by kernel_rfl) (by kernel_rfl) (fun _ _ _ h => h) (Or.inl ⟨by rfl, ?_⟩) hHeld ?_
        rotate_left
        · intro w hSw
          go_simp <;> with_reducible rfl
        try simp only [Act.put, List.setIfInBounds_toArray, List.set_cons_zero, List.set_cons_succ]
        refine takeAt 4 (some 38) ?_ rfl rfl (by kernel_rfl) (by kernel_rfl) (by kernel_rfl) (fun _ _ _ h => h) (Or.inl ⟨by rfl, ?_⟩) hHeld ?_
        rotate_left
        · intro w hSw
          go_simp <;> with_reducible rfl
        try simp only [Act.put, List.setIfInBounds_toArray, List.set_cons_zero, List.set_cons_succ]
        refine takeAt 5 (some 39) ?_ rfl rfl (by kernel_rfl) (by kernel_rfl) (by kernel_rfl) (fun _ _ _ h => h) (Or.inl ⟨by rfl, ?_⟩) hHeld ?_
        rotate_left
        · intro w hSw
          go_simp <;> with_reducible rfl
        try simp only [Act.put, List.setIfInBounds_toArray, List.set_cons_zero, List.set_cons_succ]
        refine wpAnyH_ready (rs := [6]) (by kernel_rfl) (by simp) ?_
        refine AllReadyH.cons rfl (fun K hK => ?_) AllReadyH.nil
        go_simp
        refine hK.out _ _ (⟨z0, z1, z2⟩) (fun hHeld => ?_)
        clear hK K
        try simp only [Act.put, List.setIfInBounds_toArray, List.set_cons_zero, List.set_cons_succ]
        refine wpAnyH_done (by kernel_rfl) ?_ _
        refine NoPanic.normal ?_
        go_upto_region 11 with fail
        refine wp_region_noPanic ?_
        refine wp_region_held_drew (S := fun z => z.cell? ⟨t, 0, none⟩ = some (.map (some b)) ∧ z.cell? ⟨b8, 0, none⟩ = some (.slice a2 n2 c2) ∧ z.cell? ⟨b8, 1, none⟩ = some (.bool R.wh)) (by kernel_rfl) (⟨z0, z1, z2⟩) (fun hHeld => ?_)
        refine takeAt 0 (some 40) ?_ rfl rfl (by kernel_rfl) (by kernel_rfl) (by kernel_rfl) (fun _ _ _ h => h) (Or.inl ⟨by rfl, ?_⟩) hHeld ?_
        rotate_left
        · intro w hSw
          go_simp <;> with_reducible rfl
        try simp only [Act.put, List.setIfInBounds_toArray, List.set_cons_zero, List.set_cons_succ]
        refine takeAt 1 (some 41) ?_ rfl rfl (by kernel_rfl) (by kernel_rfl) (by kernel_rfl) (fun _ _ _ h => h) (Or.inl ⟨by rfl, ?_⟩) hHeld ?_
        rotate_left
        · intro w hSw
          go_simp <;> with_reducible rfl
        try simp only [Act.put, List.setIfInBounds_toArray, List.set_cons_zero, List.set_cons_succ]
        refine takeAt 2 (some 42) ?_ rfl rfl (by kernel_rfl) (by kernel_rfl) (by kernel_rfl) (fun _ _ _ h => h) (Or.inl ⟨by rfl, ?_⟩) hHeld ?_
        rotate_left
        · intro w hSw
          go_simp <;> with_reducible rfl
        try simp only [Act.put, List.setIfInBounds_toArray, List.set_cons_zero, List.set_cons_succ]
        refine takeAt 3 (some 43) ?_ rfl rfl (by kernel_rfl) (by kernel_rfl) (by kernel_rfl) (fun _ _ _ h => h) (Or.inl ⟨by rfl, ?_⟩) hHeld ?_
        rotate_left
        · intro w hSw
          go_simp <;> with_reducible rfl
        try simp only [Act.put, List.setIfInBounds_toArray, List.set_cons_zero, List.set_cons_succ]
        refine takeAt 4 (some 44) ?_ rfl rfl (by kernel_rfl) (by kernel_rfl) (by kernel_rfl) (fun _ _ _ h => h) (Or.inl ⟨by rfl, ?_⟩) hHeld ?_
        rotate_left
        · intro w hSw
          go_simp <;> with_reducible rfl
        try simp only [Act.put, List.setIfInBounds_toArray, List.set_cons_zero, List.set_cons_succ]
        refine wpAnyH_ready (rs := [5]) (by kernel_rfl) (by simp) ?_
        refine AllReadyH.cons rfl (fun K hK => ?_) AllReadyH.nil
        go_simp
        refine hK.out _ _ (⟨u0, u1, u2⟩) (fun hHeld => ?_)
        clear hK K
        try simp only [Act.put, List.setIfInBounds_toArray, List.set_cons_zero, List.set_cons_succ]
        refine wpAnyH_done (by kernel_rfl) ?_ _
        refine NoPanic.normal ?_
        go_wp2_with fail
        go_ret
        exact ⟨by rw [HV.out]; rfl, HE.out⟩
      · have e1 : decide (szL R.ls ≤ 20000) = false := decide_eq_false hz
        rw [e1]
        have HV : Hid (E = 112) := by rw [← HEF.out.1]; exact if_neg hz
        have HE : Hid (Rs t b F P x1 ∧ Fr (On b) w x1) := ⟨by rw [← HEF.out.2, if_neg hz]; exact HH.out.1.kp HX.out.2.2, Fr.of_below HX.out.2.2⟩
        clear e1 hz HX HH HNE HEF
        go_wp2_with fail
        go_ret
        exact ⟨by rw [HV.out]; rfl, HE.out⟩
theorem lay_any (h : Rs t b f P w) (hP : ∀ k, w.heap.size ≤ k → P k) {x : Int} (h0 : 0 ≤ x) (h1 : x < 256) (hv : Sl Q v r.ls w) (hr : Fit f x r) :
    Calls Try.prog 26 #[.pointer (some ⟨t, 0, none⟩), .int .u8 x, .agg #[v, .bool r.wh]] w fun e w' => e = .returned (.int .u16 (layE f x r)) ∧ Rs t b (layF f x r) P w' ∧ Fr (On b) w w' := by
  unfold layE layF
  by_cases hk : kwB x = true
  · by_cases h9 : x = 95
    · subst h9
      obtain ⟨a, c, rfl, _⟩ := hv.form
      refine (lay_nowhere (t := t) (w := w) a _ c r.wh).mono ?_
      rintro e w' ⟨he, k⟩
      rw [if_neg (by rw [hk]; simp), if_pos rfl, if_neg (by simp)]
      exact ⟨he, h.kp k, Fr.of_below k⟩
    · rw [if_neg (by rw [hk]; simp), if_neg h9]
      refine (lay_some h hP h0 h1 hk h9 hv hr).mono ?_
      rintro e w' ⟨he, k1, k2⟩
      refine ⟨he, ?_, k2⟩
      by_cases q : szL (isR f x r).ls ≤ 20000
      · rw [if_pos ⟨hk, h9, q⟩]; rw [if_pos q] at k1; exact k1
      · rw [if_neg fun e => q e.2.2]; rw [if_neg q] at k1; exact k1
  · have hk' : kwB x = false := by cases e : kwB x <;> simp_all
    obtain ⟨a, c, rfl, _⟩ := hv.form
    refine (lay_no (t := t) (w := w) x hk' a _ c r.wh).mono ?_
    rintro e w' ⟨he, k⟩
    rw [if_pos hk', if_neg fun e => hk e.1]
    exact ⟨he, h.kp k, Fr.of_below k⟩
end
end Go.Proofs.Ytbnlenanfhggiaa
/- age, Yank, Cut, Get. -/
namespace Go.Proofs.Ytbnlenanfhggiaa
open Go.ChangeShapes Go.WideShapes Go.ChangeAt Go.RowKit Go.Maps Go.MapKept
open Go.ChangeMaps (setBlock heap_setBlock_same heap_setBlock_other modify_eq_set)
set_option linter.unusedVariables false
set_option linter.unusedSimpArgs false
set_option maxRecDepth 100000
theorem Mp.drop {b : Nat} {m : Int → Option Value} {w : World} (h : Mp b m w) {x : Int} (h0 : 0 ≤ x) (h1 : x < 256) {t e ty : TypeId} (ht : Try.prog.underlying t = some (.map 5 e)) :
    ∃ w', (Builtin.delete_ #[t, 5] ty #[.map (some b), .int .u8 x]).run Try.prog w = .ok (.tuple #[]) w' ∧ Mp b (upd m x none) w' ∧ Fr (On b) w w' ∧ w'.heap.size = w.heap.size := by
  have hl := h.lt
  obtain ⟨es, c, hb, S, H⟩ := h
  obtain ⟨es', hr, S', H', _⟩ := drop_who (ty := ty) hb S H h0 h1 ht
  exact ⟨_, hr, ⟨es', c, heap_setBlock_same hb _, S', H'⟩, fr_block w b _ hl, by simp [setBlock]⟩
theorem wpl_del {b : Nat} {m : Int → Option Value} {w : World} {ops : Array Oper} {rest : List Oper} {o : Oper} {a : Act} {Q : Exit → Act → World → Prop} (hg : o.guard = none) (x y : Operand) (T E : TypeId) (hop : o.op = Op.call { callee := Callee.builtin Builtin.delete, args := #[x, y], argTypes := #[T, 5] }) (ht : Try.prog.underlying T = some (.map 5 E)) (hm : a.eval x = .map (some b)) (h : Mp b m w)
    {k : Int} (hy : a.eval y = .int .u8 k) (k0 : 0 ≤ k) (k1 : k < 256)
    (hK : ∀ w', Mp b (upd m k none) w' → Fr (On b) w w' → w'.heap.size = w.heap.size → wpList Try.prog ops Q rest (a.put o.dst (.tuple #[])) w') :
    wpList Try.prog ops Q (o :: rest) a w := by
  refine wpList_plain hg fun K' hK' => ?_
  obtain ⟨w', hrun, r1, r2, r3⟩ := h.drop (ty := o.type) k0 k1 ht
  unfold Oper.wp
  simp [execOp, hop, resolve, invoke, builtin, hm, hy, hrun, Result.andThen]
  exact hK' _ _ (hK w' r1 r2 r3)
/-- What was deleted goes one number on, as far as c. -/
def ageC (f : Rf) (c : Nat) : Rf := fun x => if (c : Int) < x ∧ x ≤ 57 then f (x - 1) else f x
def ageF (f : Rf) : Rf := ageC f 49
theorem ageC_start (f : Rf) : ageC f 57 = f := by
  funext x; unfold ageC; rw [if_neg]; omega
theorem ageC_step (f : Rf) (d : Nat) (hd : d < 57) : setR (ageC f (d + 1)) ((d + 1 : Nat) : Int) (ageC f (d + 1) (d : Int)) = ageC f d := by
  funext x; unfold setR ageC
  by_cases q : x = ((d + 1 : Nat) : Int)
  · subst q
    rw [if_pos rfl, if_neg (by omega), if_pos (by omega)]
    congr 1; omega
  · rw [if_neg q]
    by_cases p : ((d + 1 : Nat) : Int) < x ∧ x ≤ 57
    · rw [if_pos p, if_pos (by omega)]
    · rw [if_neg p, if_neg (by omega)]
theorem dig_nm {c : Nat} (h0 : 48 ≤ c) (h1 : c ≤ 57) : nmB (c : Int) = true := by
  have : digB (c : Int) = true := by unfold digB; exact bt_yes (by omega) (by omega)
  simp [nmB, this]
section
variable {t b : Nat} {f : Rf} {P Q : Nat → Prop} {w : World} {v : Value} {r : Rv}
set_option maxHeartbeats 4000000 in
theorem age_any (h : Rs t b f P w) :
    Calls Try.prog 29 #[.pointer (some ⟨t, 0, none⟩)] w fun e w' => e = .returned (.tuple #[]) ∧ Rs t b (ageF f) P w' ∧ Fr (On b) w w' := by
  have H0 : Hid (Rs t b (ageC f 57) P w) := by rw [ageC_start]; exact h
  clear h
  go_enter Try.func29, Try.ntmps29
  go_wp2_with fail
  go_loopw [2] (fun v2 wr => ∃ c : Nat, 49 ≤ c ∧ c ≤ 57 ∧ v2 = .int .u8 (c : Int) ∧ Hid (Rs t b (ageC f c) P wr ∧ Fr (On b) w wr)) (fun v2 _ => (intOf v2).toNat)
  case atStart => exact ⟨57, by omega, by omega, rfl, H0.out, Fr.refl _ _⟩
  case round =>
    obtain ⟨c, hc0, hc1, rfl, HI⟩ := hrel
    clear H0
    by_cases q : c = 49
    · subst q
      have HE : Hid (Rs t b (ageF f) P wr ∧ Fr (On b) w wr) := HI.out
      clear HI hc0 hc1
      go_wp2_with fail
      go_end0
      exact ⟨rfl, HE.out⟩
    · obtain ⟨d, rfl⟩ : ∃ d, c = d + 1 := ⟨c - 1, by omega⟩
      have hd : 49 ≤ d ∧ d < 57 := by omega
      obtain ⟨m, hm, hv⟩ := HI.out.1.map
      have y0 := HI.out.1.box.at (j := 0) rfl
      have d1 : decide (((d + 1 : Nat) : Int) > 49) = true := decide_eq_true (by omega)
      have d2 : decide (49 < ((d + 1 : Nat) : Int)) = true := decide_eq_true (by omega)
      have hlk := hm.look (x := (d : Int)) (by omega) (by omega) Try.underlying54 (zeroR wr) true
      simp only [if_true] at hlk
      have hw1 : IntKind.u8.wrap (((d + 1 : Nat) : Int) - 1) = (d : Int) := by
        have : (((d + 1 : Nat) : Int) - 1) = (d : Int) := by omega
        rw [this, IntKind.wrap_u8]; omega
      obtain ⟨cN, hcN⟩ : ∃ cN, d + 1 = cN := ⟨_, rfl⟩
      rw [hcN] at d1 d2 hw1 HI hv ⊢
      have HST : Hid (setR (ageC f cN) (cN : Int) (ageC f cN (d : Int)) = ageC f d) := by rw [← hcN]; exact ageC_step f d hd.2
      have hn1 : (cN : Int) - 1 = (d : Int) := by omega
      have hn2 : 49 < cN ∧ cN ≤ 57 ∧ d < cN := by omega
      clear hcN q hc0 hc1
      rcases hv (d : Int) with ⟨q1, q2⟩ | ⟨v', q, q1, q2, q3⟩
      · rw [q1] at hlk
        rw [q2] at HST
        simp only [Option.getD_none, Option.isSome_none] at hlk
        have y1 := kp_cell (kp_alloc wr (.cells #[.slice none 0 0, .bool false] 24)) y0
        have HM : Hid (Mp b m (wr.alloc (.cells #[.slice none 0 0, .bool false] 24))) := hm.kp (kp_alloc _ _)
        have HX : Hid (∀ w4, Mp b (upd m (cN : Int) none) w4 → Fr (On b) (wr.alloc (.cells #[.slice none 0 0, .bool false] 24)) w4 → Rs t b (ageC f d) P w4 ∧ Fr (On b) w w4) := fun w4 r1 r2 => by
          have k := kp_alloc wr (.cells #[.slice none 0 0, .bool false] 24)
          have h4 := (HI.out.1.kp k).drop (hm.kp k) (fun y => (hv y).kp k) r1 r2
          rw [HST.out] at h4
          exact ⟨h4, (HI.out.2.trans (Fr.of_below k)).trans r2⟩
        clear hm hv HI HST q1 q2
        go_wp2_with (at_delete; refine wpl_del rfl _ _ 54 24 rfl Try.underlying54 rfl HM.out rfl (by omega) (by omega) ?_; intro w4 r1 r2 r3; have HY : Hid _ := HX.out w4 r1 r2; clear r1 r2 r3)
        clear HX HM y0 y1 hlk
        go_roundw
        case rel => exact ⟨d, by omega, by omega, rfl, HY.out⟩
        case measure => simp only [intOf]; omega
      · rw [q1] at hlk
        rw [q2] at HST
        obtain ⟨a', c', rfl, _⟩ := q3.form
        obtain ⟨n', hn'⟩ : ∃ n', q.ls.length = n' := ⟨_, rfl⟩
        rw [hn'] at q3 hlk q1
        simp only [Option.getD_some, Option.isSome_some] at hlk
        obtain ⟨W2, hW2⟩ : ∃ W2, wr.alloc (.cells #[.slice a' n' c', .bool q.wh] 24) = W2 := ⟨_, rfl⟩
        have k : Kp wr W2 := by rw [← hW2]; exact kp_alloc _ _
        have b3 : Lc 24 wr.heap.size [.slice a' n' c', .bool q.wh] W2.drew := by rw [← hW2]; exact (Lc.new wr _ 24).kp (kp_drew _)
        have kd : Kp wr W2.drew := kp_trans k (kp_drew _)
        have hR2 := HI.out.1.kp kd
        obtain ⟨x2, hr2, hm2, hf2, hs2⟩ := (hm.kp kd).store (x := (cN : Int)) (by omega) (by omega) Try.underlying54 (.agg #[.slice a' n' c', .bool q.wh])
        have hR4 := hR2.store (r := q) (hm.kp kd) (fun y => (hv y).kp kd) hm2 hf2 (.inr ⟨_, q, rfl, rfl, q3.kp kd⟩) (dig_nm (by omega) (by omega)) (HI.out.1.ok _ _ q2)
        rw [HST.out] at hR4
        have HY : Hid (Rs t b (ageC f d) P x2 ∧ Fr (On b) w x2) := ⟨hR4, (HI.out.2.trans (Fr.of_below kd)).trans hf2⟩
        have b4 := b3.fr hf2 ((hm.kp kd).ne b3)
        have y1 := hR2.box.at (j := 0) rfl
        have y2 := b3.at (j := 0) rfl
        have y3 := b3.at (j := 1) rfl
        have z1 := hR4.box.at (j := 0) rfl
        have z2 := b4.at (j := 0) rfl
        have z3 := b4.at (j := 1) rfl
        have HW : Hid (_ = W2) := hW2
        clear hm hv HI HST q1 q2 q3 hn' hW2 k b3 kd hR2 hm2 hf2 hs2 hR4 b4
        go_upto_region 5 with fail
        rw [HW.out]
        clear HW
        refine wp_region_noPanic ?_
        refine wp_region_held_drew (S := fun z => z.cell? ⟨t, 0, none⟩ = some (.map (some b)) ∧ z.cell? ⟨wr.heap.size, 0, none⟩ = some (.slice a' n' c') ∧ z.cell? ⟨wr.heap.size, 1, none⟩ = some (.bool q.wh)) (by kernel_rfl) (⟨y1, y2, y3⟩) (fun hHeld => ?_)
        refine takeAt 0 (some 20) ?_ rfl rfl (by kernel_rfl) (by kernel_rfl) (by kernel_rfl) (fun _ _ _ h => h) (Or.inl ⟨by rfl, ?_⟩) hHeld ?_
        rotate_left
        · intro w hSw
          go_simp <;> with_reducible rfl
        try simp only [Act.put, List.setIfInBounds_toArray, List.set_cons_zero, List.set_cons_succ]
        refine takeAt 1 (some 21) ?_ rfl rfl (by kernel_rfl) (by kernel_rfl) (by kernel_rfl) (fun _ _ _ h => h) (Or.inl ⟨by rfl, ?_⟩) hHeld ?_
        rotate_left
        · intro w hSw
          go_simp <;> with_reducible rfl
        try simp only [Act.put, List.setIfInBounds_toArray, List.set_cons_zero, List.set_cons_succ]
        refine takeAt 2 (some 22) ?_ rfl rfl (by kernel_rfl) (by kernel_rfl) (by kernel_rfl) (fun _ _ _ h => h) (Or.inl ⟨by rfl, ?_⟩) hHeld ?_
        rotate_left
        · intro w hSw
          go_simp <;> with_reducible rfl
        try simp only [Act.put, List.setIfInBounds_toArray, List.set_cons_zero, List.set_cons_succ]
        refine takeAt 3 (some 23) ?_ rfl rfl (by kernel_rfl) (by kernel_rfl) (by kernel_rfl) (fun _ _ _ h => h) (Or.inl ⟨by rfl, ?_⟩) hHeld ?_
        rotate_left
        · intro w hSw
          go_simp <;> with_reducible rfl
        try simp only [Act.put, List.setIfInBounds_toArray, List.set_cons_zero, List.set_cons_succ]
        refine takeAt 4 (some 24) ?_ rfl rfl (by kernel_rfl) (by kernel_rfl) (by kernel_rfl) (fun _ _ _ h => h) (Or.inl ⟨by rfl, ?_⟩) hHeld ?_
        rotate_left
        · intro w hSw
          go_simp <;> with_reducible rfl
        try simp only [Act.put, List.setIfInBounds_toArray, List.set_cons_zero, List.set_cons_succ]
        refine takeAt 5 (some 25) ?_ rfl rfl (by kernel_rfl) (by kernel_rfl) (by kernel_rfl) (fun _ _ _ h => h) (Or.inl ⟨by rfl, ?_⟩) hHeld ?_
        rotate_left
        · intro w hSw
          go_simp <;> with_reducible rfl
        try simp only [Act.put, List.setIfInBounds_toArray, List.set_cons_zero, List.set_cons_succ]
        refine wpAnyH_ready (rs := [6]) (by kernel_rfl) (by simp) ?_
        refine AllReadyH.cons rfl (fun K hK => ?_) AllReadyH.nil
        go_simp
        refine hK.out _ _ (⟨z1, z2, z3⟩) (fun hHeld => ?_)
        clear hK K
        try simp only [Act.put, List.setIfInBounds_toArray, List.set_cons_zero, List.set_cons_succ]
        refine wpAnyH_done (by kernel_rfl) ?_ _
        refine NoPanic.normal ?_
        clear y0 y1 y2 y3 z1 z2 z3 hr2 hlk
        go_wp2_with fail
        go_roundw
        case rel => exact ⟨d, by omega, by omega, rfl, HY.out⟩
        case measure => simp only [intOf]; omega
end
end Go.Proofs.Ytbnlenanfhggiaa
/- Yank, Cut, Get. -/
namespace Go.Proofs.Ytbnlenanfhggiaa
open Go.ChangeShapes Go.WideShapes Go.ChangeAt Go.RowKit Go.Maps Go.MapKept
set_option linter.unusedVariables false
set_option linter.unusedSimpArgs false
set_option maxRecDepth 100000
def yankF (f : Rf) (x : Int) (r : Rv) : Rf := if layE f x r = 0 ∧ x = 34 then setR (layF f x r) 48 (some (ownR r)) else layF f x r
def cutF (f : Rf) (x : Int) (r : Rv) : Rf := if layE f x r = 0 ∧ x = 34 then setR (ageF (layF f x r)) 49 (some (ownR r)) else layF f x r
def getR (f : Rf) (x : Int) : Rv := if kwB x = true then (f (smI x)).getD ⟨[], false⟩ else ⟨[], false⟩
def getE (f : Rf) (x : Int) : Int := if kwB x = true then (if (f (smI x)).isSome then 0 else 111) else 110
theorem sm34 : smI 34 = 34 := by simp [smI, grtB, bt]
/-- Laid in the nameless one. -/
theorem lay_34 (f : Rf) (r : Rv) (h : layE f 34 r = 0) : layF f 34 r 34 = some (ownR r) ∧ (ownR r).ls ≠ [] ∧ szL (ownR r).ls ≤ 20000 := by
  have e : isR f 34 r = ownR r := by unfold isR; rw [if_pos sm34]
  have hk : kwB 34 = true := by simp [kwB]
  have hz : szL (ownR r).ls ≤ 20000 := by
    unfold layE at h
    rw [if_neg (by rw [hk]; simp), if_neg (by omega), e] at h
    by_cases q : szL (ownR r).ls ≤ 20000
    · exact q
    · rw [if_neg q] at h; cases h
  refine ⟨?_, ownR_ne r, hz⟩
  unfold layF
  rw [if_pos ⟨hk, by omega, by rw [e]; exact hz⟩, e]
  unfold setR
  rw [if_pos rfl]
theorem lay_range (f : Rf) (x : Int) (r : Rv) : layE f x r = 110 ∨ layE f x r = 0 ∨ layE f x r = 112 := by
  unfold layE
  split
  · exact .inl rfl
  · split
    · exact .inr (.inl rfl)
    · split
      · exact .inr (.inl rfl)
      · exact .inr (.inr rfl)
section
variable {t b : Nat} {f : Rf} {P Q : Nat → Prop} {w : World} {v : Value} {r : Rv}
/-- Of a register that has something: what it is in memory. -/
theorem Rs.has (h : Rs t b f P w) {x : Int} {q : Rv} (hx : f x = some q) (x0 : 0 ≤ x) (x1 : x < 256) : ∃ m a n c, Mp b m w ∧ (∀ y, Hv P w (m y) (f y)) ∧ Sl P (.slice a n c) q.ls w ∧ (Instr.lookup 54 (.map (some b)) (.int .u8 x) false).run Try.prog w = .ok (.agg #[.slice a n c, .bool q.wh]) w := by
  obtain ⟨m, hm, hv⟩ := h.map
  rcases hv x with ⟨_, q2⟩ | ⟨v', q', q1, q2, q3⟩
  · rw [hx] at q2; cases q2
  · rw [hx] at q2; cases q2
    obtain ⟨a, c, rfl, _⟩ := q3.form
    refine ⟨m, a, _, c, hm, hv, q3, ?_⟩
    have := hm.look x0 x1 Try.underlying54 (zeroR w) false
    rw [q1] at this
    simpa using this
set_option maxHeartbeats 4000000 in
theorem yank_any (h : Rs t b f P w) (hP : ∀ k, w.heap.size ≤ k → P k) {x : Int} (h0 : 0 ≤ x) (h1 : x < 256) (hv : Sl Q v r.ls w) (hr : Fit f x r) :
    Calls Try.prog 12 #[.pointer (some ⟨t, 0, none⟩), .int .u8 x, .agg #[v, .bool r.wh]] w fun e w' => e = .returned (.int .u16 (layE f x r)) ∧ Rs t b (yankF f x r) P w' ∧ Fr (On b) w w' := by
  obtain ⟨a, c, rfl, _⟩ := hv.form
  have HL : Hid (∀ X, Kp w X → Calls Try.prog 26 #[.pointer (some ⟨t, 0, none⟩), .int .u8 x, .agg #[.slice a r.ls.length c, .bool r.wh]] X fun e w' => e = .returned (.int .u16 (layE f x r)) ∧ Hid (Rs t b (layF f x r) P w' ∧ Fr (On b) w w')) := fun X k => by
    refine (lay_any (h.kp k) (fun j hj => hP j (Nat.le_trans k.size hj)) h0 h1 (hv.kp k) hr).mono ?_
    rintro e w' ⟨he, q1, q2⟩
    exact ⟨he, q1, (Fr.of_below k).trans q2⟩
  obtain ⟨N, hN⟩ : ∃ N, r.ls.length = N := ⟨_, rfl⟩
  rw [hN] at HL ⊢
  have HK : Hid (Kp w (w.alloc (.cells #[.slice a N c, .bool r.wh] 24))) := kp_alloc _ _
  clear h hv hr hN
  by_cases hx : layE f x r = 0 ∧ x = 34
  · obtain ⟨hE, rfl⟩ := hx
    have HF : Hid (setR (layF f 34 r) 48 (some (ownR r)) = yankF f 34 r) := by show _ = _; unfold yankF; rw [if_pos ⟨hE, rfl⟩]
    obtain ⟨l1, l2, l3⟩ := lay_34 f r hE
    rw [hE] at HL ⊢
    clear hE
    go_enter Try.func12, Try.ntmps12
    go_wp2_with fail
    refine Calls.mono (HL.out _ HK.out) ?_
    rintro e x1 ⟨rfl, H1⟩
    clear HL HK
    have H2 : Hid _ := H1.out
    have l1' := l1
    obtain ⟨x2, hx2⟩ : ∃ x2, x1 = x2 := ⟨_, rfl⟩
    subst hx2
    clear H1
    generalize hG : layF f 34 r = G at H2 HF l1'
    clear hG
    have hR := H2.out.1.kp (kp_drew _)
    obtain ⟨m, aa, nn, cc, hm, hvv, hsl, hlk⟩ := hR.has l1' (by omega) (by omega)
    obtain ⟨x4, hr4, hm4, hf4, hs4⟩ := hm.store (x := 48) (by omega) (by omega) Try.underlying54 (.agg #[.slice aa nn cc, .bool (ownR r).wh])
    have hR4 := hR.store (r := ownR r) hm hvv hm4 hf4 (.inr ⟨_, ownR r, rfl, rfl, hsl⟩) (by simp [nmB, digB, bt]) ⟨l2, l3⟩
    have HE : Hid (Rs t b (yankF f 34 r) P x4 ∧ Fr (On b) w x4) := ⟨by rw [← HF.out]; exact hR4, (H2.out.2.trans (Fr.of_below (kp_drew _))).trans hf4⟩
    have y0 := hR.box.at (j := 0) rfl
    have z0 := hR4.box.at (j := 0) rfl
    clear hR hm hvv hsl hm4 hf4 hs4 hR4 H2 HF l1 l2 l3 l1'
    go_upto_region 3 with fail
    refine wp_region_noPanic ?_
    refine wp_region_held_drew (S := fun z => z.cell? ⟨t, 0, none⟩ = some (.map (some b))) (by kernel_rfl) (y0) (fun hHeld => ?_)
    refine takeAt 0 (some 18) ?_ rfl rfl (by kernel_rfl) (by kernel_rfl) (by kernel_rfl) (fun _ _ _ h => h) (Or.inl ⟨by rfl, ?_⟩) hHeld ?_
    rotate_left
    · intro w hSw
      go_simp <;> with_reducible rfl
    try simp only [Act.put, List.setIfInBounds_toArray, List.set_cons_zero, List.set_cons_succ]
    refine takeAt 1 (some 19) ?_ rfl rfl (by kernel_rfl) (by kernel_rfl) (by kernel_rfl) (fun _ _ _ h => h) (Or.inl ⟨by rfl, ?_⟩) hHeld ?_
    rotate_left
    · intro w hSw
      go_simp <;> with_reducible rfl
    try simp only [Act.put, List.setIfInBounds_toArray, List.set_cons_zero, List.set_cons_succ]
    refine takeAt 2 (some 20) ?_ rfl rfl (by kernel_rfl) (by kernel_rfl) (by kernel_rfl) (fun _ _ _ h => h) (Or.inl ⟨by rfl, ?_⟩) hHeld ?_
    rotate_left
    · intro w hSw
      go_simp <;> with_reducible rfl
    try simp only [Act.put, List.setIfInBounds_toArray, List.set_cons_zero, List.set_cons_succ]
    refine takeAt 3 (some 21) ?_ rfl rfl (by kernel_rfl) (by kernel_rfl) (by kernel_rfl) (fun _ _ _ h => h) (Or.inl ⟨by rfl, ?_⟩) hHeld ?_
    rotate_left
    · intro w hSw
      go_simp <;> with_reducible rfl
    try simp only [Act.put, List.setIfInBounds_toArray, List.set_cons_zero, List.set_cons_succ]
    refine takeAt 4 (some 22) ?_ rfl rfl (by kernel_rfl) (by kernel_rfl) (by kernel_rfl) (fun _ _ _ h => h) (Or.inl ⟨by rfl, ?_⟩) hHeld ?_
    rotate_left
    · intro w hSw
      go_simp <;> with_reducible rfl
    try simp only [Act.put, List.setIfInBounds_toArray, List.set_cons_zero, List.set_cons_succ]
    refine takeAt 5 (some 23) ?_ rfl rfl (by kernel_rfl) (by kernel_rfl) (by kernel_rfl) (fun _ _ _ h => h) (Or.inl ⟨by rfl, ?_⟩) hHeld ?_
    rotate_left
    · intro w hSw
      go_simp <;> with_reducible rfl
    try simp only [Act.put, List.setIfInBounds_toArray, List.set_cons_zero, List.set_cons_succ]
    refine takeAt 6 (some 24) ?_ rfl rfl (by kernel_rfl) (by kernel_rfl) (by kernel_rfl) (fun _ _ _ h => h) (Or.inl ⟨by rfl, ?_⟩) hHeld ?_
    rotate_left
    · intro w hSw
      go_simp <;> with_reducible rfl
    try simp only [Act.put, List.setIfInBounds_toArray, List.set_cons_zero, List.set_cons_succ]
    refine takeAt 7 (some 25) ?_ rfl rfl (by kernel_rfl) (by kernel_rfl) (by kernel_rfl) (fun _ _ _ h => h) (Or.inl ⟨by rfl, ?_⟩) hHeld ?_
    rotate_left
    · intro w hSw
      go_simp <;> with_reducible rfl
    try simp only [Act.put, List.setIfInBounds_toArray, List.set_cons_zero, List.set_cons_succ]
    refine wpAnyH_ready (rs := [8]) (by kernel_rfl) (by simp) ?_
    refine AllReadyH.cons rfl (fun K hK => ?_) AllReadyH.nil
    go_simp
    refine hK.out _ _ (y0) (fun hHeld => ?_)
    clear hK K
    try simp only [Act.put, List.setIfInBounds_toArray, List.set_cons_zero, List.set_cons_succ]
    refine wpAnyH_ready (rs := [9]) (by kernel_rfl) (by simp) ?_
    refine AllReadyH.cons rfl (fun K hK => ?_) AllReadyH.nil
    go_simp
    refine hK.out _ _ (z0) (fun hHeld => ?_)
    clear hK K
    try simp only [Act.put, List.setIfInBounds_toArray, List.set_cons_zero, List.set_cons_succ]
    refine wpAnyH_done (by kernel_rfl) ?_ _
    refine NoPanic.normal ?_
    go_wp2_with fail
    go_ret
    exact ⟨rfl, HE.out⟩
  · have hF : yankF f x r = layF f x r := by unfold yankF; rw [if_neg hx]
    rw [hF]
    clear hF
    obtain ⟨E, hE⟩ : ∃ E, layE f x r = E := ⟨_, rfl⟩
    rw [hE] at HL hx ⊢
    clear hE
    by_cases h00 : E = 0
    · subst h00
      have d1 : (x == 34) = false := by simp; omega
      clear hx
      go_enter Try.func12, Try.ntmps12
      go_wp2_with fail
      refine Calls.mono (HL.out _ HK.out) ?_
      rintro e x1 ⟨rfl, H1⟩
      clear HL HK
      go_wp2_with fail
      go_ret
      exact ⟨rfl, H1.out⟩
    · have d1 : (E == 0) = false := by simpa using h00
      clear hx h00
      go_enter Try.func12, Try.ntmps12
      go_wp2_with fail
      refine Calls.mono (HL.out _ HK.out) ?_
      rintro e x1 ⟨rfl, H1⟩
      clear HL HK
      go_wp2_with fail
      go_ret
      exact ⟨rfl, H1.out⟩
set_option maxHeartbeats 4000000 in
theorem cut_any (h : Rs t b f P w) (hP : ∀ k, w.heap.size ≤ k → P k) {x : Int} (h0 : 0 ≤ x) (h1 : x < 256) (hv : Sl Q v r.ls w) (hr : Fit f x r) :
    Calls Try.prog 14 #[.pointer (some ⟨t, 0, none⟩), .int .u8 x, .agg #[v, .bool r.wh]] w fun e w' => e = .returned (.int .u16 (layE f x r)) ∧ Rs t b (cutF f x r) P w' ∧ Fr (On b) w w' := by
  obtain ⟨a, c, rfl, _⟩ := hv.form
  have HL : Hid (∀ X, Kp w X → Calls Try.prog 26 #[.pointer (some ⟨t, 0, none⟩), .int .u8 x, .agg #[.slice a r.ls.length c, .bool r.wh]] X fun e w' => e = .returned (.int .u16 (layE f x r)) ∧ Hid (Rs t b (layF f x r) P w' ∧ Fr (On b) w w')) := fun X k => by
    refine (lay_any (h.kp k) (fun j hj => hP j (Nat.le_trans k.size hj)) h0 h1 (hv.kp k) hr).mono ?_
    rintro e w' ⟨he, q1, q2⟩
    exact ⟨he, q1, (Fr.of_below k).trans q2⟩
  obtain ⟨N, hN⟩ : ∃ N, r.ls.length = N := ⟨_, rfl⟩
  rw [hN] at HL ⊢
  have HK : Hid (Kp w (w.alloc (.cells #[.slice a N c, .bool r.wh] 24))) := kp_alloc _ _
  clear h hv hr hN
  by_cases hx : layE f x r = 0 ∧ x = 34
  · obtain ⟨hE, rfl⟩ := hx
    have HF : Hid (setR (ageF (layF f 34 r)) 49 (some (ownR r)) = cutF f 34 r) := by show _ = _; unfold cutF; rw [if_pos ⟨hE, rfl⟩]
    obtain ⟨l1, l2, l3⟩ := lay_34 f r hE
    rw [hE] at HL ⊢
    clear hE
    go_enter Try.func14, Try.ntmps14
    go_wp2_with fail
    refine Calls.mono (HL.out _ HK.out) ?_
    rintro e x1 ⟨rfl, H1⟩
    clear HL HK
    have HA : Hid (Calls Try.prog 29 #[.pointer (some ⟨t, 0, none⟩)] x1 fun e w' => e = .returned (.tuple #[]) ∧ Hid (Rs t b (ageF (layF f 34 r)) P w' ∧ Fr (On b) w w')) := by
      refine (age_any H1.out.1).mono ?_
      rintro e w' ⟨he, q1, q2⟩
      exact ⟨he, q1, H1.out.2.trans q2⟩
    have l1' : ageF (layF f 34 r) 34 = some (ownR r) := by unfold ageF ageC; rw [if_neg (by omega)]; exact l1
    clear H1
    go_wp2_with fail
    refine Calls.mono HA.out ?_
    rintro e x2 ⟨rfl, H2⟩
    clear HA
    generalize hG : ageF (layF f 34 r) = G at H2 HF l1'
    clear hG
    have hR := H2.out.1.kp (kp_drew _)
    obtain ⟨m, aa, nn, cc, hm, hvv, hsl, hlk⟩ := hR.has l1' (by omega) (by omega)
    obtain ⟨x4, hr4, hm4, hf4, hs4⟩ := hm.store (x := 49) (by omega) (by omega) Try.underlying54 (.agg #[.slice aa nn cc, .bool (ownR r).wh])
    have hR4 := hR.store (r := ownR r) hm hvv hm4 hf4 (.inr ⟨_, ownR r, rfl, rfl, hsl⟩) (by simp [nmB, digB, bt]) ⟨l2, l3⟩
    have HE : Hid (Rs t b (cutF f 34 r) P x4 ∧ Fr (On b) w x4) := ⟨by rw [← HF.out]; exact hR4, (H2.out.2.trans (Fr.of_below (kp_drew _))).trans hf4⟩
    have y0 := hR.box.at (j := 0) rfl
    have z0 := hR4.box.at (j := 0) rfl
    clear hR hm hvv hsl hm4 hf4 hs4 hR4 H2 HF l1 l2 l3 l1'
    go_upto_region 4 with fail
    refine wp_region_noPanic ?_
    refine wp_region_held_drew (S := fun z => z.cell? ⟨t, 0, none⟩ = some (.map (some b))) (by kernel_rfl) (y0) (fun hHeld => ?_)
    refine takeAt 0 (some 20) ?_ rfl rfl (by kernel_rfl) (by kernel_rfl) (by kernel_rfl) (fun _ _ _ h => h) (Or.inl ⟨by rfl, ?_⟩) hHeld ?_
    rotate_left
    · intro w hSw
      go_simp <;> with_reducible rfl
    try simp only [Act.put, List.setIfInBounds_toArray, List.set_cons_zero, List.set_cons_succ]
    refine takeAt 1 (some 21) ?_ rfl rfl (by kernel_rfl) (by kernel_rfl) (by kernel_rfl) (fun _ _ _ h => h) (Or.inl ⟨by rfl, ?_⟩) hHeld ?_
    rotate_left
    · intro w hSw
      go_simp <;> with_reducible rfl
    try simp only [Act.put, List.setIfInBounds_toArray, List.set_cons_zero, List.set_cons_succ]
    refine takeAt 2 (some 22) ?_ rfl rfl (by kernel_rfl) (by kernel_rfl) (by kernel_rfl) (fun _ _ _ h => h) (Or.inl ⟨by rfl, ?_⟩) hHeld ?_
    rotate_left
    · intro w hSw
      go_simp <;> with_reducible rfl
    try simp only [Act.put, List.setIfInBounds_toArray, List.set_cons_zero, List.set_cons_succ]
    refine takeAt 3 (some 23) ?_ rfl rfl (by kernel_rfl) (by kernel_rfl) (by kernel_rfl) (fun _ _ _ h => h) (Or.inl ⟨by rfl, ?_⟩) hHeld ?_
    rotate_left
    · intro w hSw
      go_simp <;> with_reducible rfl
    try simp only [Act.put, List.setIfInBounds_toArray, List.set_cons_zero, List.set_cons_succ]
    refine takeAt 4 (some 24) ?_ rfl rfl (by kernel_rfl) (by kernel_rfl) (by kernel_rfl) (fun _ _ _ h => h) (Or.inl ⟨by rfl, ?_⟩) hHeld ?_
    rotate_left
    · intro w hSw
      go_simp <;> with_reducible rfl
    try simp only [Act.put, List.setIfInBounds_toArray, List.set_cons_zero, List.set_cons_succ]
    refine takeAt 5 (some 25) ?_ rfl rfl (by kernel_rfl) (by kernel_rfl) (by kernel_rfl) (fun _ _ _ h => h) (Or.inl ⟨by rfl, ?_⟩) hHeld ?_
    rotate_left
    · intro w hSw
      go_simp <;> with_reducible rfl
    try simp only [Act.put, List.setIfInBounds_toArray, List.set_cons_zero, List.set_cons_succ]
    refine takeAt 6 (some 26) ?_ rfl rfl (by kernel_rfl) (by kernel_rfl) (by kernel_rfl) (fun _ _ _ h => h) (Or.inl ⟨by rfl, ?_⟩) hHeld ?_
    rotate_left
    · intro w hSw
      go_simp <;> with_reducible rfl
    try simp only [Act.put, List.setIfInBounds_toArray, List.set_cons_zero, List.set_cons_succ]
    refine takeAt 7 (some 27) ?_ rfl rfl (by kernel_rfl) (by kernel_rfl) (by kernel_rfl) (fun _ _ _ h => h) (Or.inl ⟨by rfl, ?_⟩) hHeld ?_
    rotate_left
    · intro w hSw
      go_simp <;> with_reducible rfl
    try simp only [Act.put, List.setIfInBounds_toArray, List.set_cons_zero, List.set_cons_succ]
    refine wpAnyH_ready (rs := [8]) (by kernel_rfl) (by simp) ?_
    refine AllReadyH.cons rfl (fun K hK => ?_) AllReadyH.nil
    go_simp
    refine hK.out _ _ (y0) (fun hHeld => ?_)
    clear hK K
    try simp only [Act.put, List.setIfInBounds_toArray, List.set_cons_zero, List.set_cons_succ]
    refine wpAnyH_ready (rs := [9]) (by kernel_rfl) (by simp) ?_
    refine AllReadyH.cons rfl (fun K hK => ?_) AllReadyH.nil
    go_simp
    refine hK.out _ _ (z0) (fun hHeld => ?_)
    clear hK K
    try simp only [Act.put, List.setIfInBounds_toArray, List.set_cons_zero, List.set_cons_succ]
    refine wpAnyH_done (by kernel_rfl) ?_ _
    refine NoPanic.normal ?_
    go_wp2_with fail
    go_ret
    exact ⟨rfl, HE.out⟩
  · have hF : cutF f x r = layF f x r := by unfold cutF; rw [if_neg hx]
    rw [hF]
    clear hF
    obtain ⟨E, hE⟩ : ∃ E, layE f x r = E := ⟨_, rfl⟩
    rw [hE] at HL hx ⊢
    clear hE
    by_cases h00 : E = 0
    · subst h00
      have d1 : (x == 34) = false := by simp; omega
      clear hx
      go_enter Try.func14, Try.ntmps14
      go_wp2_with fail
      refine Calls.mono (HL.out _ HK.out) ?_
      rintro e x1 ⟨rfl, H1⟩
      clear HL HK
      go_wp2_with fail
      go_ret
      exact ⟨rfl, H1.out⟩
    · have d1 : (E == 0) = false := by simpa using h00
      clear hx h00
      go_enter Try.func14, Try.ntmps14
      go_wp2_with fail
      refine Calls.mono (HL.out _ HK.out) ?_
      rintro e x1 ⟨rfl, H1⟩
      clear HL HK
      go_wp2_with fail
      go_ret
      exact ⟨rfl, H1.out⟩
set_option maxHeartbeats 4000000 in
theorem get_any (h : Rs t b f P w) {x : Int} (h0 : 0 ≤ x) (h1 : x < 256) :
    Calls Try.prog 13 #[.pointer (some ⟨t, 0, none⟩), .int .u8 x] w fun e w' => ∃ v', e = .returned (.tuple #[.agg #[v', .bool (getR f x).wh], .int .u16 (getE f x)]) ∧ Row w.heap.size v' (getR f x).ls w' ∧ Kp w w' := by
  have HKn : Hid (∀ X, Calls Try.prog 15 #[.int .u8 x] X fun e w' => e = .returned (.bool (kwB x)) ∧ Kp X w') := gknown_any x
  have NB : Hid (∀ X : World, w.heap.size ≤ X.heap.size → Row w.heap.size (.slice none 0 0) [] X) := fun X _ => World.ownsRow_nil _ _ _ _
  unfold getR getE
  cases hk : kwB x
  · rw [if_neg (by simp), if_neg (by simp)]
    rw [hk] at HKn
    clear h hk
    go_enter Try.func13, Try.ntmps13
    go_wp2_with fail
    refine Calls.mono (HKn.out _) ?_
    rintro e x1 ⟨rfl, k1⟩
    have b4 := (Lc.new w [.slice none 0 0, .bool false] 24).kp k1
    have kk : Kp w x1 := kp_trans (kp_alloc _ _) k1
    have HQ : Hid _ := box_put b4 (NB.out x1 kk.size) kk (Nat.le_refl _) (.slice none 0 0) (.bool false)
    have y3 := b4.at (j := 0) rfl
    have y4 := b4.at (j := 1) rfl
    have y5 := b4.fz 0
    have y6 := b4.fz 1
    clear b4 kk k1 HKn NB
    go_wp2_with fail
    refine bodyPost_ret (results_box2 rfl rfl HQ.out.1 Try.underlying24 rfl (by kernel_rfl)) rfl ?_
    exact ⟨_, rfl, HQ.out.2⟩
  · rw [if_pos rfl, if_pos rfl]
    rw [hk] at HKn
    obtain ⟨X0, hX0⟩ : ∃ X0, smI x = X0 := ⟨_, rfl⟩
    have HS : Hid (∀ X, Calls Try.prog 27 #[.int .u8 x] X fun e w' => e = .returned (.int .u8 X0) ∧ w' = X) := fun X => by rw [← hX0]; exact kSmall_any x X
    have hx0 : 0 ≤ X0 ∧ X0 < 256 := by rw [← hX0]; exact sm_in h0 h1
    rw [hX0]
    clear hX0 hk h0 h1
    obtain ⟨m, hm, hv⟩ := h.map
    obtain ⟨U, K, hlk, hU⟩ : ∃ U K, (∀ z, Kp w z → (Instr.lookup 54 (.map (some b)) (.int .u8 X0) true).run Try.prog z = .ok (.tuple #[U, .bool K]) z) ∧ ((K = false ∧ f X0 = none ∧ U = .agg #[.slice none 0 0, .bool false]) ∨ ∃ a n c q, K = true ∧ f X0 = some q ∧ U = .agg #[.slice a n c, .bool q.wh] ∧ Sl P (.slice a n c) q.ls w) := by
      refine ⟨(m X0).getD (.agg #[.slice none 0 0, .bool false]), (m X0).isSome, fun z k => ?_, ?_⟩
      · have := (hm.kp k).look hx0.1 hx0.2 Try.underlying54 (zeroR z) true
        simpa using this
      · rcases hv X0 with ⟨q1, q2⟩ | ⟨v', q, q1, q2, q3⟩
        · rw [q1, q2]; exact .inl ⟨rfl, rfl, rfl⟩
        · obtain ⟨a, c, rfl, _⟩ := q3.form
          rw [q1, q2]; exact .inr ⟨a, _, c, q, rfl, rfl, rfl, q3⟩
    have r1 : ∀ z, Kp w z → z.cell? ⟨t, 0, none⟩ = some (.map (some b)) := fun z k => (h.box.kp k).at (j := 0) rfl
    have HU : Hid (∀ X0 q, f X0 = some q → q.ls ≠ [] ∧ q.ls.length ≤ 8796093022208) := fun y q hy => by
      have := h.ok y q hy
      have h2 := szL_len q.ls
      exact ⟨this.1, by omega⟩
    clear hm hv h
    rcases hU with ⟨rfl, hf, rfl⟩ | ⟨a, n, c, q, rfl, hf, rfl, hsl⟩
    · rw [hf]
      simp only [Option.getD_none, Option.isSome_none, Bool.false_eq_true, if_false]
      clear HU
      go_enter Try.func13, Try.ntmps13
      go_wp2_with fail
      refine Calls.mono (HKn.out _) ?_
      rintro e x1 ⟨rfl, k1⟩
      have b4 := (Lc.new w [.slice none 0 0, .bool false] 24).kp k1
      have kk : Kp w x1 := kp_trans (kp_alloc _ _) k1
      have hkd : Kp w x1.drew := kp_trans kk (kp_drew _)
      clear HKn k1
      go_upto_region 3 with fail
      refine wp_region_noPanic ?_
      refine wp_region_held_drew (S := fun z => Kp w z) (by kernel_rfl) (hkd) (fun hHeld => ?_)
      refine takeAt 0 (some 13) ?_ rfl rfl (by kernel_rfl) (by kernel_rfl) (by kernel_rfl) (fun _ _ _ h => h) (Or.inl ⟨by rfl, ?_⟩) hHeld ?_
      rotate_left
      · intro w hSw
        go_simp <;> with_reducible rfl
      try simp only [Act.put, List.setIfInBounds_toArray, List.set_cons_zero, List.set_cons_succ]
      refine takeAt 1 (some 14) ?_ rfl rfl (by kernel_rfl) (by kernel_rfl) (by kernel_rfl) (fun _ _ _ h => h) (Or.inl ⟨by rfl, ?_⟩) hHeld ?_
      rotate_left
      · intro w hSw
        go_simp <;> with_reducible rfl
      try simp only [Act.put, List.setIfInBounds_toArray, List.set_cons_zero, List.set_cons_succ]
      refine takeAt 2 (some 15) ?_ rfl rfl (by kernel_rfl) (by kernel_rfl) (by kernel_rfl) (fun _ _ _ h => h) (Or.inl ⟨by rfl, ?_⟩) hHeld ?_
      rotate_left
      · intro w hSw
        go_simp <;> with_reducible rfl
      try simp only [Act.put, List.setIfInBounds_toArray, List.set_cons_zero, List.set_cons_succ]
      refine takeAt 3 (some 16) ?_ rfl rfl (by kernel_rfl) (by kernel_rfl) (by kernel_rfl) (fun _ _ _ h => h) (Or.inl ⟨by rfl, ?_⟩) hHeld ?_
      rotate_left
      · intro w hSw
        go_simp <;> with_reducible rfl
      try simp only [Act.put, List.setIfInBounds_toArray, List.set_cons_zero, List.set_cons_succ]
      refine takeAt 4 (some 17) ?_ rfl rfl (by kernel_rfl) (by kernel_rfl) (by kernel_rfl) (fun _ _ _ h => h) (Or.inl ⟨by rfl, ?_⟩) hHeld ?_
      rotate_left
      · intro w hSw
        go_simp <;> with_reducible rfl
      try simp only [Act.put, List.setIfInBounds_toArray, List.set_cons_zero, List.set_cons_succ]
      refine wpAnyH_ready (rs := [5, 10]) (by kernel_rfl) (by simp) ?_
      refine AllReadyH.cons rfl (fun K hK => ?_) (AllReadyH.cons rfl (fun K hK => ?_) AllReadyH.nil)
      · refine step_call 27 (vals := #[.int .u8 x]) rfl rfl (by simp [Act.eval]) Try.func27 (by kernel_rfl) (by kernel_rfl) ?_
        refine Calls.mono (HS.out _) ?_
        rintro e w2 ⟨rfl, e2⟩
        rw [e2]
        clear e2
        refine ⟨_, rfl, ?_⟩
        refine hK.out _ _ hHeld (fun hHeld => ?_)
        clear hK K
        try simp only [Act.put, List.setIfInBounds_toArray, List.set_cons_zero, List.set_cons_succ]
        refine takeAt 6 (some 19) ?_ rfl rfl (by kernel_rfl) (by kernel_rfl) (by kernel_rfl) (fun _ _ _ h => h) (Or.inl ⟨by rfl, ?_⟩) hHeld ?_
        rotate_left
        · intro w hSw
          go_simp <;> with_reducible rfl
        try simp only [Act.put, List.setIfInBounds_toArray, List.set_cons_zero, List.set_cons_succ]
        refine takeAt 7 (some 12) ?_ rfl rfl (by kernel_rfl) (by kernel_rfl) (by kernel_rfl) (fun _ _ _ h => h) (Or.inl ⟨by rfl, ?_⟩) hHeld ?_
        rotate_left
        · intro w hSw
          go_simp <;> with_reducible rfl
        try simp only [Act.put, List.setIfInBounds_toArray, List.set_cons_zero, List.set_cons_succ]
        refine takeAt 8 (some 20) ?_ rfl rfl (by kernel_rfl) (by kernel_rfl) (by kernel_rfl) (fun _ _ _ h => h) (Or.inl ⟨by rfl, ?_⟩) hHeld ?_
        rotate_left
        · intro w hSw
          go_simp <;> with_reducible rfl
        try simp only [Act.put, List.setIfInBounds_toArray, List.set_cons_zero, List.set_cons_succ]
        refine takeAt 9 (some 21) ?_ rfl rfl (by kernel_rfl) (by kernel_rfl) (by kernel_rfl) (fun _ _ _ h => h) (Or.inl ⟨by rfl, ?_⟩) hHeld ?_
        rotate_left
        · intro w hSw
          go_simp <;> with_reducible rfl
        try simp only [Act.put, List.setIfInBounds_toArray, List.set_cons_zero, List.set_cons_succ]
        refine wpAnyH_ready (rs := [10]) (by kernel_rfl) (by simp) ?_
        refine AllReadyH.cons rfl (fun K hK => ?_) AllReadyH.nil
        go_simp
        refine hK.out _ _ (kp_more hHeld _) (fun hHeld => ?_)
        clear hK K
        try simp only [Act.put, List.setIfInBounds_toArray, List.set_cons_zero, List.set_cons_succ]
        refine wpAnyH_ready (rs := [11]) (by kernel_rfl) (by simp) ?_
        refine AllReadyH.cons rfl (fun K hK => ?_) AllReadyH.nil
        go_simp
        refine hK.out _ _ (kp_more hkd _) (fun hHeld => ?_)
        clear hK K
        try simp only [Act.put, List.setIfInBounds_toArray, List.set_cons_zero, List.set_cons_succ]
        refine takeAt 12 (some 7) ?_ rfl rfl (by kernel_rfl) (by kernel_rfl) (by kernel_rfl) (fun _ _ _ h => h) (Or.inl ⟨by rfl, ?_⟩) hHeld ?_
        rotate_left
        · intro w hSw
          go_simp <;> with_reducible rfl
        try simp only [Act.put, List.setIfInBounds_toArray, List.set_cons_zero, List.set_cons_succ]
        refine wpAnyH_done (by kernel_rfl) ?_ _
        refine NoPanic.normal ?_
        have kx : Kp x1 (x1.alloc (.cells #[.slice none 0 0, .bool false] 24)).drew := kp_trans (kp_alloc _ _) (kp_drew _)
        generalize (x1.alloc (.cells #[.slice none 0 0, .bool false] 24)).drew = x9 at kx ⊢
        have b5 := b4.kp kx
        have k9 := kp_trans kk kx
        have HQ : Hid _ := box_put b5 (NB.out x9 k9.size) k9 (Nat.le_refl _) (.slice none 0 0) (.bool false)
        have y3 := b5.at (j := 0) rfl
        have y4 := b5.at (j := 1) rfl
        have y5 := b5.fz 0
        have y6 := b5.fz 1
        clear b4 b5 k9 kx kk NB hlk r1 HS
        go_wp2_with fail
        refine bodyPost_ret (results_box2 rfl rfl HQ.out.1 Try.underlying24 rfl (by kernel_rfl)) rfl ?_
        exact ⟨_, rfl, HQ.out.2⟩
      · go_simp
        refine hK.out _ _ (kp_more hHeld _) (fun hHeld => ?_)
        clear hK K
        try simp only [Act.put, List.setIfInBounds_toArray, List.set_cons_zero, List.set_cons_succ]
        refine wpAnyH_ready (rs := [5]) (by kernel_rfl) (by simp) ?_
        refine AllReadyH.cons rfl (fun K hK => ?_) AllReadyH.nil
        refine step_call 27 (vals := #[.int .u8 x]) rfl rfl (by simp [Act.eval]) Try.func27 (by kernel_rfl) (by kernel_rfl) ?_
        refine Calls.mono (HS.out _) ?_
        rintro e w2 ⟨rfl, e2⟩
        rw [e2]
        clear e2
        refine ⟨_, rfl, ?_⟩
        refine hK.out _ _ hHeld (fun hHeld => ?_)
        clear hK K
        try simp only [Act.put, List.setIfInBounds_toArray, List.set_cons_zero, List.set_cons_succ]
        refine takeAt 6 (some 19) ?_ rfl rfl (by kernel_rfl) (by kernel_rfl) (by kernel_rfl) (fun _ _ _ h => h) (Or.inl ⟨by rfl, ?_⟩) hHeld ?_
        rotate_left
        · intro w hSw
          go_simp <;> with_reducible rfl
        try simp only [Act.put, List.setIfInBounds_toArray, List.set_cons_zero, List.set_cons_succ]
        refine takeAt 7 (some 12) ?_ rfl rfl (by kernel_rfl) (by kernel_rfl) (by kernel_rfl) (fun _ _ _ h => h) (Or.inl ⟨by rfl, ?_⟩) hHeld ?_
        rotate_left
        · intro w hSw
          go_simp <;> with_reducible rfl
        try simp only [Act.put, List.setIfInBounds_toArray, List.set_cons_zero, List.set_cons_succ]
        refine takeAt 8 (some 20) ?_ rfl rfl (by kernel_rfl) (by kernel_rfl) (by kernel_rfl) (fun _ _ _ h => h) (Or.inl ⟨by rfl, ?_⟩) hHeld ?_
        rotate_left
        · intro w hSw
          go_simp <;> with_reducible rfl
        try simp only [Act.put, List.setIfInBounds_toArray, List.set_cons_zero, List.set_cons_succ]
        refine takeAt 9 (some 21) ?_ rfl rfl (by kernel_rfl) (by kernel_rfl) (by kernel_rfl) (fun _ _ _ h => h) (Or.inl ⟨by rfl, ?_⟩) hHeld ?_
        rotate_left
        · intro w hSw
          go_simp <;> with_reducible rfl
        try simp only [Act.put, List.setIfInBounds_toArray, List.set_cons_zero, List.set_cons_succ]
        refine wpAnyH_ready (rs := [11]) (by kernel_rfl) (by simp) ?_
        refine AllReadyH.cons rfl (fun K hK => ?_) AllReadyH.nil
        go_simp
        refine hK.out _ _ (kp_more hkd _) (fun hHeld => ?_)
        clear hK K
        try simp only [Act.put, List.setIfInBounds_toArray, List.set_cons_zero, List.set_cons_succ]
        refine takeAt 12 (some 7) ?_ rfl rfl (by kernel_rfl) (by kernel_rfl) (by kernel_rfl) (fun _ _ _ h => h) (Or.inl ⟨by rfl, ?_⟩) hHeld ?_
        rotate_left
        · intro w hSw
          go_simp <;> with_reducible rfl
        try simp only [Act.put, List.setIfInBounds_toArray, List.set_cons_zero, List.set_cons_succ]
        refine wpAnyH_done (by kernel_rfl) ?_ _
        refine NoPanic.normal ?_
        have kx : Kp x1 (x1.alloc (.cells #[.slice none 0 0, .bool false] 24)).drew := kp_trans (kp_alloc _ _) (kp_drew _)
        generalize (x1.alloc (.cells #[.slice none 0 0, .bool false] 24)).drew = x9 at kx ⊢
        have b5 := b4.kp kx
        have k9 := kp_trans kk kx
        have HQ : Hid _ := box_put b5 (NB.out x9 k9.size) k9 (Nat.le_refl _) (.slice none 0 0) (.bool false)
        have y3 := b5.at (j := 0) rfl
        have y4 := b5.at (j := 1) rfl
        have y5 := b5.fz 0
        have y6 := b5.fz 1
        clear b4 b5 k9 kx kk NB hlk r1 HS
        go_wp2_with fail
        refine bodyPost_ret (results_box2 rfl rfl HQ.out.1 Try.underlying24 rfl (by kernel_rfl)) rfl ?_
        exact ⟨_, rfl, HQ.out.2⟩
    · rw [hf]
      simp only [Option.getD_some, Option.isSome_some, if_true]
      have hq := HU.out X0 q hf
      have HO : Hid (∀ X, Kp w X → Calls Try.prog 28 #[.agg #[.slice a n c, .bool q.wh]] X fun e w' => ∃ a' n' c', e = .returned (.agg #[.slice a' n' c', .bool q.wh]) ∧ Hid (Row w.heap.size (.slice a' n' c') q.ls w' ∧ Kp X w')) := fun X k => by
        refine (own_any (hsl.kp k) hq.2).mono ?_
        rintro e w' ⟨v', he, q1, q2⟩
        rw [ownR_idem hq.1] at he q1
        obtain ⟨a', c', rfl, _, _⟩ := q1.form
        exact ⟨a', _, c', he, row_lift q1 fun j hj => Nat.le_trans k.size (q1.lt j hj).1, q2⟩
      clear HU hf hsl hq NB
      go_enter Try.func13, Try.ntmps13
      go_wp2_with fail
      refine Calls.mono (HKn.out _) ?_
      rintro e x1 ⟨rfl, k1⟩
      have b4 := (Lc.new w [.slice none 0 0, .bool false] 24).kp k1
      have kk : Kp w x1 := kp_trans (kp_alloc _ _) k1
      have hkd : Kp w x1.drew := kp_trans kk (kp_drew _)
      clear HKn k1
      go_upto_region 3 with fail
      refine wp_region_noPanic ?_
      refine wp_region_held_drew (S := fun z => Kp w z) (by kernel_rfl) (hkd) (fun hHeld => ?_)
      refine takeAt 0 (some 13) ?_ rfl rfl (by kernel_rfl) (by kernel_rfl) (by kernel_rfl) (fun _ _ _ h => h) (Or.inl ⟨by rfl, ?_⟩) hHeld ?_
      rotate_left
      · intro w hSw
        go_simp <;> with_reducible rfl
      try simp only [Act.put, List.setIfInBounds_toArray, List.set_cons_zero, List.set_cons_succ]
      refine takeAt 1 (some 14) ?_ rfl rfl (by kernel_rfl) (by kernel_rfl) (by kernel_rfl) (fun _ _ _ h => h) (Or.inl ⟨by rfl, ?_⟩) hHeld ?_
      rotate_left
      · intro w hSw
        go_simp <;> with_reducible rfl
      try simp only [Act.put, List.setIfInBounds_toArray, List.set_cons_zero, List.set_cons_succ]
      refine takeAt 2 (some 15) ?_ rfl rfl (by kernel_rfl) (by kernel_rfl) (by kernel_rfl) (fun _ _ _ h => h) (Or.inl ⟨by rfl, ?_⟩) hHeld ?_
      rotate_left
      · intro w hSw
        go_simp <;> with_reducible rfl
      try simp only [Act.put, List.setIfInBounds_toArray, List.set_cons_zero, List.set_cons_succ]
      refine takeAt 3 (some 16) ?_ rfl rfl (by kernel_rfl) (by kernel_rfl) (by kernel_rfl) (fun _ _ _ h => h) (Or.inl ⟨by rfl, ?_⟩) hHeld ?_
      rotate_left
      · intro w hSw
        go_simp <;> with_reducible rfl
      try simp only [Act.put, List.setIfInBounds_toArray, List.set_cons_zero, List.set_cons_succ]
      refine takeAt 4 (some 17) ?_ rfl rfl (by kernel_rfl) (by kernel_rfl) (by kernel_rfl) (fun _ _ _ h => h) (Or.inl ⟨by rfl, ?_⟩) hHeld ?_
      rotate_left
      · intro w hSw
        go_simp <;> with_reducible rfl
      try simp only [Act.put, List.setIfInBounds_toArray, List.set_cons_zero, List.set_cons_succ]
      refine wpAnyH_ready (rs := [5, 10]) (by kernel_rfl) (by simp) ?_
      refine AllReadyH.cons rfl (fun K hK => ?_) (AllReadyH.cons rfl (fun K hK => ?_) AllReadyH.nil)
      · refine step_call 27 (vals := #[.int .u8 x]) rfl rfl (by simp [Act.eval]) Try.func27 (by kernel_rfl) (by kernel_rfl) ?_
        refine Calls.mono (HS.out _) ?_
        rintro e w2 ⟨rfl, e2⟩
        rw [e2]
        clear e2
        refine ⟨_, rfl, ?_⟩
        refine hK.out _ _ hHeld (fun hHeld => ?_)
        clear hK K
        try simp only [Act.put, List.setIfInBounds_toArray, List.set_cons_zero, List.set_cons_succ]
        refine takeAt 6 (some 19) ?_ rfl rfl (by kernel_rfl) (by kernel_rfl) (by kernel_rfl) (fun _ _ _ h => h) (Or.inl ⟨by rfl, ?_⟩) hHeld ?_
        rotate_left
        · intro w hSw
          go_simp <;> with_reducible rfl
        try simp only [Act.put, List.setIfInBounds_toArray, List.set_cons_zero, List.set_cons_succ]
        refine takeAt 7 (some 12) ?_ rfl rfl (by kernel_rfl) (by kernel_rfl) (by kernel_rfl) (fun _ _ _ h => h) (Or.inl ⟨by rfl, ?_⟩) hHeld ?_
        rotate_left
        · intro w hSw
          go_simp <;> with_reducible rfl
        try simp only [Act.put, List.setIfInBounds_toArray, List.set_cons_zero, List.set_cons_succ]
        refine takeAt 8 (some 20) ?_ rfl rfl (by kernel_rfl) (by kernel_rfl) (by kernel_rfl) (fun _ _ _ h => h) (Or.inl ⟨by rfl, ?_⟩) hHeld ?_
        rotate_left
        · intro w hSw
          go_simp <;> with_reducible rfl
        try simp only [Act.put, List.setIfInBounds_toArray, List.set_cons_zero, List.set_cons_succ]
        refine takeAt 9 (some 21) ?_ rfl rfl (by kernel_rfl) (by kernel_rfl) (by kernel_rfl) (fun _ _ _ h => h) (Or.inl ⟨by rfl, ?_⟩) hHeld ?_
        rotate_left
        · intro w hSw
          go_simp <;> with_reducible rfl
        try simp only [Act.put, List.setIfInBounds_toArray, List.set_cons_zero, List.set_cons_succ]
        refine wpAnyH_ready (rs := [10]) (by kernel_rfl) (by simp) ?_
        refine AllReadyH.cons rfl (fun K hK => ?_) AllReadyH.nil
        go_simp
        refine hK.out _ _ (kp_more hHeld _) (fun hHeld => ?_)
        clear hK K
        try simp only [Act.put, List.setIfInBounds_toArray, List.set_cons_zero, List.set_cons_succ]
        refine wpAnyH_ready (rs := [11]) (by kernel_rfl) (by simp) ?_
        refine AllReadyH.cons rfl (fun K hK => ?_) AllReadyH.nil
        go_simp
        refine hK.out _ _ (kp_more hkd _) (fun hHeld => ?_)
        clear hK K
        try simp only [Act.put, List.setIfInBounds_toArray, List.set_cons_zero, List.set_cons_succ]
        refine takeAt 12 (some 7) ?_ rfl rfl (by kernel_rfl) (by kernel_rfl) (by kernel_rfl) (fun _ _ _ h => h) (Or.inl ⟨by rfl, ?_⟩) hHeld ?_
        rotate_left
        · intro w hSw
          go_simp <;> with_reducible rfl
        try simp only [Act.put, List.setIfInBounds_toArray, List.set_cons_zero, List.set_cons_succ]
        refine wpAnyH_done (by kernel_rfl) ?_ _
        refine NoPanic.normal ?_
        have kx : Kp x1 (x1.alloc (.cells #[.slice a n c, .bool q.wh] 24)).drew := kp_trans (kp_alloc _ _) (kp_drew _)
        have b6 : Lc 24 x1.heap.size [.slice a n c, .bool q.wh] (x1.alloc (.cells #[.slice a n c, .bool q.wh] 24)).drew := (Lc.new x1 _ 24).kp (kp_drew _)
        generalize (x1.alloc (.cells #[.slice a n c, .bool q.wh] 24)).drew = x9 at kx b6 ⊢
        have b5 := b4.kp kx
        have k9 := kp_trans kk kx
        have y1 := b6.at (j := 0) rfl
        have y2 := b6.at (j := 1) rfl
        clear b6 b4 kx kk hlk r1 HS
        go_wp2_with fail
        refine Calls.mono (HO.out x9 k9) ?_
        rintro e x2 ⟨a', n', c', rfl, H2⟩
        have b7 := b5.kp H2.out.2
        have HQ : Hid _ := box_put b7 H2.out.1 (kp_trans k9 H2.out.2) (Nat.le_refl _) (.slice a' n' c') (.bool q.wh)
        have y3 := b7.at (j := 0) rfl
        have y4 := b7.at (j := 1) rfl
        have y5 := b7.fz 0
        have y6 := b7.fz 1
        clear b5 b7 k9 H2 HO y1 y2
        go_wp2_with fail
        refine bodyPost_ret (results_box2 rfl rfl HQ.out.1 Try.underlying24 rfl (by kernel_rfl)) rfl ?_
        exact ⟨_, rfl, HQ.out.2⟩
      · go_simp
        refine hK.out _ _ (kp_more hHeld _) (fun hHeld => ?_)
        clear hK K
        try simp only [Act.put, List.setIfInBounds_toArray, List.set_cons_zero, List.set_cons_succ]
        refine wpAnyH_ready (rs := [5]) (by kernel_rfl) (by simp) ?_
        refine AllReadyH.cons rfl (fun K hK => ?_) AllReadyH.nil
        refine step_call 27 (vals := #[.int .u8 x]) rfl rfl (by simp [Act.eval]) Try.func27 (by kernel_rfl) (by kernel_rfl) ?_
        refine Calls.mono (HS.out _) ?_
        rintro e w2 ⟨rfl, e2⟩
        rw [e2]
        clear e2
        refine ⟨_, rfl, ?_⟩
        refine hK.out _ _ hHeld (fun hHeld => ?_)
        clear hK K
        try simp only [Act.put, List.setIfInBounds_toArray, List.set_cons_zero, List.set_cons_succ]
        refine takeAt 6 (some 19) ?_ rfl rfl (by kernel_rfl) (by kernel_rfl) (by kernel_rfl) (fun _ _ _ h => h) (Or.inl ⟨by rfl, ?_⟩) hHeld ?_
        rotate_left
        · intro w hSw
          go_simp <;> with_reducible rfl
        try simp only [Act.put, List.setIfInBounds_toArray, List.set_cons_zero, List.set_cons_succ]
        refine takeAt 7 (some 12) ?_ rfl rfl (by kernel_rfl) (by kernel_rfl) (by kernel_rfl) (fun _ _ _ h => h) (Or.inl ⟨by rfl, ?_⟩) hHeld ?_
        rotate_left
        · intro w hSw
          go_simp <;> with_reducible rfl
        try simp only [Act.put, List.setIfInBounds_toArray, List.set_cons_zero, List.set_cons_succ]
        refine takeAt 8 (some 20) ?_ rfl rfl (by kernel_rfl) (by kernel_rfl) (by kernel_rfl) (fun _ _ _ h => h) (Or.inl ⟨by rfl, ?_⟩) hHeld ?_
        rotate_left
        · intro w hSw
          go_simp <;> with_reducible rfl
        try simp only [Act.put, List.setIfInBounds_toArray, List.set_cons_zero, List.set_cons_succ]
        refine takeAt 9 (some 21) ?_ rfl rfl (by kernel_rfl) (by kernel_rfl) (by kernel_rfl) (fun _ _ _ h => h) (Or.inl ⟨by rfl, ?_⟩) hHeld ?_
        rotate_left
        · intro w hSw
          go_simp <;> with_reducible rfl
        try simp only [Act.put, List.setIfInBounds_toArray, List.set_cons_zero, List.set_cons_succ]
        refine wpAnyH_ready (rs := [11]) (by kernel_rfl) (by simp) ?_
        refine AllReadyH.cons rfl (fun K hK => ?_) AllReadyH.nil
        go_simp
        refine hK.out _ _ (kp_more hkd _) (fun hHeld => ?_)
        clear hK K
        try simp only [Act.put, List.setIfInBounds_toArray, List.set_cons_zero, List.set_cons_succ]
        refine takeAt 12 (some 7) ?_ rfl rfl (by kernel_rfl) (by kernel_rfl) (by kernel_rfl) (fun _ _ _ h => h) (Or.inl ⟨by rfl, ?_⟩) hHeld ?_
        rotate_left
        · intro w hSw
          go_simp <;> with_reducible rfl
        try simp only [Act.put, List.setIfInBounds_toArray, List.set_cons_zero, List.set_cons_succ]
        refine wpAnyH_done (by kernel_rfl) ?_ _
        refine NoPanic.normal ?_
        have kx : Kp x1 (x1.alloc (.cells #[.slice a n c, .bool q.wh] 24)).drew := kp_trans (kp_alloc _ _) (kp_drew _)
        have b6 : Lc 24 x1.heap.size [.slice a n c, .bool q.wh] (x1.alloc (.cells #[.slice a n c, .bool q.wh] 24)).drew := (Lc.new x1 _ 24).kp (kp_drew _)
        generalize (x1.alloc (.cells #[.slice a n c, .bool q.wh] 24)).drew = x9 at kx b6 ⊢
        have b5 := b4.kp kx
        have k9 := kp_trans kk kx
        have y1 := b6.at (j := 0) rfl
        have y2 := b6.at (j := 1) rfl
        clear b6 b4 kx kk hlk r1 HS
        go_wp2_with fail
        refine Calls.mono (HO.out x9 k9) ?_
        rintro e x2 ⟨a', n', c', rfl, H2⟩
        have b7 := b5.kp H2.out.2
        have HQ : Hid _ := box_put b7 H2.out.1 (kp_trans k9 H2.out.2) (Nat.le_refl _) (.slice a' n' c') (.bool q.wh)
        have y3 := b7.at (j := 0) rfl
        have y4 := b7.at (j := 1) rfl
        have y5 := b7.fz 0
        have y6 := b7.fz 1
        clear b5 b7 k9 H2 HO y1 y2
        go_wp2_with fail
        refine bodyPost_ret (results_box2 rfl rfl HQ.out.1 Try.underlying24 rfl (by kernel_rfl)) rfl ?_
        exact ⟨_, rfl, HQ.out.2⟩
end
end Go.Proofs.Ytbnlenanfhggiaa
/- Names, Copy. -/
namespace Go.Proofs.Ytbnlenanfhggiaa
open Go.ChangeShapes Go.WideShapes Go.ChangeAt Go.RowKit Go.Maps Go.MapKept
set_option linter.unusedVariables false
set_option linter.unusedSimpArgs false
set_option maxRecDepth 100000
theorem eq_rising : ∀ {l₁ l₂ : List Int}, l₁.Pairwise (· < ·) → l₂.Pairwise (· < ·) → (∀ x, x ∈ l₁ ↔ x ∈ l₂) → l₁ = l₂
  | [], [], _, _, _ => rfl
  | [], b :: s, _, _, h => by have := (h b).2 (by simp); simp at this
  | a :: r, [], _, _, h => by have := (h a).1 (by simp); simp at this
  | a :: r, b :: s, h1, h2, h => by
    obtain ⟨p1, q1⟩ := List.pairwise_cons.1 h1
    obtain ⟨p2, q2⟩ := List.pairwise_cons.1 h2
    have hab : a = b := by
      rcases List.mem_cons.1 ((h a).1 (by simp)) with e | e
      · exact e
      · rcases List.mem_cons.1 ((h b).2 (by simp)) with e' | e'
        · exact e'.symm
        · have := p1 b e'; have := p2 a e; omega
    subst hab
    rw [eq_rising q1 q2 fun x => ?_]
    constructor
    · intro hx
      rcases List.mem_cons.1 ((h x).1 (by simp [hx])) with e | e
      · subst e; have := p1 x hx; omega
      · exact e
    · intro hx
      rcases List.mem_cons.1 ((h x).2 (by simp [hx])) with e | e
      · subst e; have := p2 x hx; omega
      · exact e
/-- The names of those in which something is, rising. -/
def namesF (f : Rf) : List Int := ((List.range 256).map Int.ofNat).filter fun x => (f x).isSome
theorem nm_in {x : Int} (h : nmB x = true) : 0 ≤ x ∧ x < 256 := by
  unfold nmB at h
  simp only [Bool.or_eq_true, beq_iff_eq, digB, smlB, bt, decide_eq_true_eq] at h
  omega
theorem nm_all {x : Int} (h : nmB x = true) : x = 34 ∨ (48 ≤ x ∧ x ≤ 57) ∨ (97 ≤ x ∧ x ≤ 122) := by
  unfold nmB at h
  simp only [Bool.or_eq_true, beq_iff_eq, digB, smlB, bt, decide_eq_true_eq] at h
  omega
theorem names_rising (f : Rf) : (namesF f).Pairwise (· < ·) := by
  unfold namesF
  refine List.Pairwise.filter _ (List.pairwise_map.2 ?_)
  exact List.pairwise_lt_range.imp fun h => by show Int.ofNat _ < Int.ofNat _; simp; exact h
theorem names_mem {f : Rf} (hd : ∀ x r, f x = some r → nmB x = true) (x : Int) : x ∈ namesF f ↔ f x ≠ none := by
  unfold namesF
  rw [List.mem_filter, List.mem_map]
  constructor
  · rintro ⟨_, h⟩ e; rw [e] at h; cases h
  · intro h
    cases q : f x with
    | none => exact absurd q h
    | some r =>
      have := nm_in (hd x r q)
      exact ⟨⟨x.toNat, by simp; omega, by show ((x.toNat : Nat) : Int) = x; omega⟩, rfl⟩
theorem kfew_nm {m : Int → Option Value} (hd : ∀ x, m x ≠ none → nmB x = true) : Kfew m := fun ss h1 h2 => by
  have hl : ss.length = (ss.map fun x : Int => if x = 34 then (0 : Int) else if x ≤ 57 then x - 47 else x - 86).length := by simp
  rw [hl]
  refine nodup_len 40 0 _ ?_ ?_
  · refine List.pairwise_map.2 (h1.imp_of_mem ?_)
    intro a b ha hb hab
    have pa := nm_all (hd a (h2 a ha))
    have pb := nm_all (hd b (h2 b hb))
    repeat' split
    all_goals omega
  · intro y hy
    obtain ⟨x, hx, rfl⟩ := List.mem_map.1 hy
    have px := nm_all (hd x (h2 x hx))
    show 0 ≤ (if x = 34 then (0 : Int) else if x ≤ 57 then x - 47 else x - 86) ∧ (if x = 34 then (0 : Int) else if x ≤ 57 then x - 47 else x - 86) < 0 + ((40 : Nat) : Int)
    repeat' split
    all_goals omega
section
variable {t b : Nat} {f : Rf} {P Q : Nat → Prop} {w w1 : World} {v : Value} {r : Rv}
theorem Rs.keys (h : Rs t b f P w) : ∃ m, Mp b m w ∧ (∀ x, Hv P w (m x) (f x)) ∧ (∀ x, m x ≠ none ↔ f x ≠ none) ∧ Kfew m := by
  obtain ⟨m, hm, hv⟩ := h.map
  have e : ∀ x, m x ≠ none ↔ f x ≠ none := fun x => by
    rcases hv x with ⟨q1, q2⟩ | ⟨v, q, q1, q2, _⟩
    · rw [q1, q2]; simp
    · rw [q1, q2]; simp
  refine ⟨m, hm, hv, e, kfew_nm fun x hx => ?_⟩
  cases q : f x with
  | none => exact absurd q ((e x).1 hx)
  | some z => exact h.dom x z q
set_option maxHeartbeats 4000000 in
theorem gnames_any (h : Rs t b f P w) : Calls Try.prog 16 #[.pointer (some ⟨t, 0, none⟩)] w fun e w' => ∃ v, e = .returned v ∧ Hid (Zl v (namesF f) w' ∧ Kp w w') := by
  obtain ⟨m, hm, hv, hk, hfew⟩ := h.keys
  have c0 := h.box.at (j := 0) rfl
  have HKY : Hid _ := keys_any b w
  have HC : Hid (Calls Try.prog 31 #[.func (.func 47) #[] #[.pointer (some ⟨w.heap.size, 0, none⟩)]] (w.alloc (.cells #[.map (some b)] 54)) fun e w' => ∃ v, e = .returned v ∧ Hid (Zl v (namesF f) w' ∧ Kp w w')) := by
    refine (sorted_any (Lc.new w [.map (some b)] 54) (hm.kp (kp_alloc _ _)) hfew).mono ?_
    rintro e w' ⟨v, ss, he, HH⟩
    have : ss = namesF f := eq_rising HH.out.1.1 (names_rising f) fun x => by rw [HH.out.1.2 x, names_mem h.dom x, hk x]
    subst this
    exact ⟨v, he, HH.out.2.1, kp_trans (kp_alloc _ _) HH.out.2.2⟩
  clear h hm hv hk hfew
  go_enter Try.func16, Try.ntmps16
  go_wp2_with fail
  refine Calls.mono HKY.out ?_
  rintro e w1 ⟨rfl, e1⟩
  rw [e1]
  clear e1 HKY
  go_wp2_with fail
  refine Calls.mono HC.out ?_
  rintro e w2 ⟨v, rfl, H2⟩
  clear HC
  go_wp2_with fail
  go_ret
  exact ⟨_, rfl, H2.out⟩
/-- What is copied so far. -/
def part (f : Rf) (left : Int → Bool) : Rf := fun x => if left x then none else f x
theorem Sl.offIter {ls : List ByteArray} {m : Nat} (h : Sl P v ls w) (hm : ∀ c e g, w.heap[m]? ≠ some (.cells c e g)) (k : Fr (On m) w w1) : Sl P v ls w1 := by
  have h' : Sl (fun g => P g ∧ g ≠ m) v ls w := by
    obtain ⟨a, cap, rfl, h1, h2, h3, h4⟩ := h
    refine ⟨a, cap, rfl, h1, h2, h3, fun i s hi => ?_⟩
    obtain ⟨g, o, e, q, c⟩ := h4 i s hi
    refine ⟨g, o, e, ⟨q, ?_⟩, c⟩
    rintro rfl
    unfold World.cell? at c
    cases hg : w.heap[g]? with
    | none => simp [hg] at c
    | some ob =>
      cases ob with
      | cells cs e fr => exact hm cs e fr hg
      | _ => simp [hg] at c
  exact (h'.fr k fun g q e => q.2 e).mono fun _ _ q => q.1
theorem Rs.offIter {m : Nat} (h : Rs t b f P w) (hm : ∀ c e g, w.heap[m]? ≠ some (.cells c e g)) (hb : b ≠ m) (k : Fr (On m) w w1) : Rs t b f P w1 := by
  obtain ⟨mm, hmm, hv⟩ := h.map
  refine ⟨h.box.fr k (fun e => ?_), ⟨mm, hmm.fr k hb, fun x => ?_⟩, h.dom, h.ok⟩
  · unfold On at e; subst e; exact hm _ _ _ h.box
  · rcases hv x with q | ⟨v, q, h1, h2, h3⟩
    · exact .inl q
    · exact .inr ⟨v, q, h1, h2, h3.offIter hm k⟩
/-- A copy under way. -/
structure Cpy (w : World) (b t2 b2 : Nat) (f : Rf) (P : Nat → Prop) (m : Int → Option Value) (left : Int → Bool) (c r : Nat) (wr : World) : Prop where
  rg : Rgg b r m left c wr
  cp : Rs t2 b2 (part f left) P wr
  kp : Kp w wr
  hr : w.heap.size ≤ r
  hb : w.heap.size ≤ b2
theorem Rgg.iter {r c : Nat} {m : Int → Option Value} {left : Int → Bool} (h : Rgg b r m left c w) : ∀ c e g, w.heap[r]? ≠ some (.cells c e g) := by
  obtain ⟨es, cl, s, q, c0, h1, h2, h3, h4, rest⟩ := h
  intro c e g q; rw [h4] at q; cases q
theorem Rgg.off_map {r c b2 : Nat} {m m2 : Int → Option Value} {left : Int → Bool} (h : Rgg b r m left c w) (h2 : Mp b2 m2 w) : b2 ≠ r := by
  obtain ⟨es, cl, s, q, c0, h1, _, h3, h4, rest⟩ := h
  rintro rfl
  obtain ⟨es2, c2, hb, _⟩ := h2
  rw [h4] at hb; cases hb
theorem Rgg.frm {r c b2 : Nat} {m m2 : Int → Option Value} {left : Int → Bool} (h : Rgg b r m left c w) (h2 : Mp b2 m2 w) (hb : b ≠ b2) (k : Fr (On b2) w w1) : Rgg b r m left c w1 :=
  h.heap (k.block b h.map.lt fun e => hb e) (k.block r h.lt fun e => h.off_map h2 e.symm)
theorem part_start (f : Rf) {m : Int → Option Value} (hk : ∀ x, m x ≠ none ↔ f x ≠ none) : part f (fun x => (m x).isSome) = fun _ => none := by
  funext x; unfold part
  cases q : m x with
  | none =>
    have : f x = none := by
      cases p : f x with
      | none => rfl
      | some z => exact absurd q ((hk x).2 (by rw [p]; simp))
    simp [this]
  | some z => simp [q]
theorem part_end (f : Rf) {left : Int → Bool} (h : ∀ x, left x = false) : part f left = f := by
  funext x; unfold part; rw [h]; simp
theorem part_step (f : Rf) {left : Int → Bool} {y : Int} {q : Rv} (h : f y = some q) : part f (fun z => left z && !decide (z = y)) = setR (part f left) y (some q) := by
  funext x; unfold part setR
  by_cases e : x = y
  · subst e; simp [h]
  · simp [e]
set_option maxHeartbeats 4000000 in
theorem gcopy_any (h : Rs t b f P w) (hP : ∀ k, w.heap.size ≤ k → Q k) : Calls Try.prog 23 #[.pointer (some ⟨t, 0, none⟩)] w fun e w' => ∃ t2 b2, e = .returned (.pointer (some ⟨t2, 0, none⟩)) ∧ Rs t2 b2 f Q w' ∧ Kp w w' ∧ w.heap.size ≤ t2 ∧ w.heap.size ≤ b2 := by
  obtain ⟨m, hm, hv, hk, _⟩ := h.keys
  have c0 := h.box.at (j := 0) rfl
  have HN : Hid (Calls Try.prog 11 #[] w fun e w' => ∃ t2 b2, e = .returned (.pointer (some ⟨t2, 0, none⟩)) ∧ Hid (Rs t2 b2 (fun _ => none) Q w' ∧ Kp w w' ∧ w.heap.size ≤ t2 ∧ w.heap.size ≤ b2)) := by
    refine (gnew_any (P := Q) w).mono ?_
    rintro e w' ⟨t2, b2, he, q⟩
    exact ⟨t2, b2, he, q⟩
  have HV : Hid ((∀ x, Hv P w (m x) (f x)) ∧ (∀ x, m x ≠ none ↔ f x ≠ none) ∧ b < w.heap.size ∧ (∀ x q, f x = some q → nmB x = true ∧ q.ls ≠ [] ∧ szL q.ls ≤ 20000)) := ⟨hv, hk, hm.lt, fun x q hx => ⟨h.dom x q hx, h.ok x q hx⟩⟩
  have HM : Hid (Mp b m w) := hm
  have HP : Hid (∀ k, w.heap.size ≤ k → Q k) := hP
  clear h hm hv hk hP
  go_enter Try.func23, Try.ntmps23
  go_wp2_with fail
  refine Calls.mono HN.out ?_
  rintro e w1 ⟨t2, b2, rfl, H1⟩
  have c1 := kp_cell H1.out.2.1 c0
  have hm1 := HM.out.kp H1.out.2.1
  clear HN c0
  go_wp2_with (first | (at_range; refine wpl_range rfl _ 54 24 rfl Try.underlying54 rfl hm1 ?_; intro w2 n2 hr2 hk2 hs2) | go_in)
  go_frame
  have G0 : Hid (Cpy w b t2 b2 f Q m (fun x => (m x).isSome) n2 w1.heap.size w2) := ⟨hr2, by rw [part_start f HV.out.2.1]; exact H1.out.1.kp hk2, kp_trans H1.out.2.1 hk2, H1.out.2.1.size, H1.out.2.2.2⟩
  have HT : Hid (w.heap.size ≤ t2 ∧ w.heap.size ≤ b2) := H1.out.2.2
  clear hr2 hk2 hs2 c1 hm1 H1
  obtain ⟨rr, hrr⟩ : ∃ rr, w1.heap.size = rr := ⟨_, rfl⟩
  rw [hrr] at G0 ⊢
  clear hrr
  go_loopw [4] (fun _ wr => ∃ left c, Hid (Cpy w b t2 b2 f Q m left c rr wr)) (fun _ wr => wr.rangeLeft b rr)
  case atStart => exact ⟨_, _, G0⟩
  case round =>
    obtain ⟨left, c, HG⟩ := hrel
    have hrg := HG.out.rg
    clear G0
    go_wp2_with (first | (at_next; refine wpl_next rfl _ rfl rfl hrg ?_ ?_) | go_in)
    · intro hl
      have HE : Hid (Rs t2 b2 f Q wr ∧ Kp w wr ∧ w.heap.size ≤ t2 ∧ w.heap.size ≤ b2) := by
        have := HG.out.cp
        rw [part_end f hl] at this
        exact ⟨this, HG.out.kp, HT.out⟩
      clear hl hrg HG HV HM HP HT
      go_wp2
      go_ret
      exact ⟨_, _, rfl, HE.out⟩
    · intro y v w3 c3 y0 y1 hly hy hr3 hlt3 hf3 hs3 hen
      obtain ⟨a, n, cc, q, rfl, hfy, hsl⟩ : ∃ a n cc q, v = .agg #[.slice a n cc, .bool q.wh] ∧ f y = some q ∧ Sl P (.slice a n cc) q.ls w := by
        rcases HV.out.1 y with ⟨q1, _⟩ | ⟨v', q, q1, q2, q3⟩
        · rw [hy] at q1; cases q1
        · obtain ⟨a, cc, rfl, _⟩ := q3.form
          rw [hy] at q1; cases q1
          exact ⟨a, _, cc, q, rfl, q2, q3⟩
      have hq := HV.out.2.2.2 y q hfy
      have hcp := HG.out.cp.offIter hrg.iter (by obtain ⟨m2, hm2, _⟩ := HG.out.cp.map; exact hrg.off_map hm2) hf3
      have kw3 : Kp w w3 := HG.out.kp.trans (hf3.below HG.out.kp.size fun k hk e => by unfold On at e; have := HG.out.hr; omega)
      obtain ⟨W4, hW4⟩ : ∃ W4, w3.alloc (.cells #[.slice a n cc, .bool q.wh] 24) = W4 := ⟨_, rfl⟩
      have k4 : Kp w3 W4 := by rw [← hW4]; exact kp_alloc _ _
      have k4d : Kp w3 W4.drew := kp_trans k4 (kp_drew _)
      have b5 : Lc 24 w3.heap.size [.slice a n cc, .bool q.wh] W4.drew := by rw [← hW4]; exact (Lc.new w3 _ 24).kp (kp_drew _)
      have HO : Hid (Calls Try.prog 28 #[.agg #[.slice a n cc, .bool q.wh]] W4.drew fun e w' => ∃ a' n' c', e = .returned (.agg #[.slice a' n' c', .bool q.wh]) ∧ Hid (Row w.heap.size (.slice a' n' c') q.ls w' ∧ Kp W4.drew w')) := by
        have k := kp_trans kw3 k4d
        have hle := szL_len q.ls
        refine (own_any (hsl.kp k) (by have := hq.2.2; omega)).mono ?_
        rintro e w' ⟨v', he, q1, q2⟩
        rw [ownR_idem hq.2.1] at he q1
        obtain ⟨a', c', rfl, _, _⟩ := q1.form
        exact ⟨a', _, c', he, row_lift q1 fun j hj => Nat.le_trans k.size (q1.lt j hj).1, q2⟩
      have HZ : Hid (∀ x5 a' n' c', Row w.heap.size (.slice a' n' c') q.ls x5 → Kp W4.drew x5 → ∃ x6, (Instr.mapUpdate 54 (.map (some b2)) (.int .u8 y) (.agg #[.slice a' n' c', .bool q.wh])).run Try.prog x5 = .ok () x6 ∧ x6.cell? ⟨t2, 0, none⟩ = some (.map (some b2)) ∧ (x6.cell? ⟨w3.heap.size, 0, none⟩ = some (.slice a n cc) ∧ x6.cell? ⟨w3.heap.size, 1, none⟩ = some (.bool q.wh)) ∧ Hid (Cpy w b t2 b2 f Q m (fun z => left z && !decide (z = y)) c3 rr x6 ∧ x6.rangeLeft b rr < wr.rangeLeft b rr)) := fun x5 a' n' c' r1 k5 => by
        have kk : Kp w3 x5 := kp_trans k4d k5
        have hc5 := hcp.kp kk
        obtain ⟨m2, hm2, hv2⟩ := hc5.map
        obtain ⟨x6, e6, hm6, hf6, hs6⟩ := hm2.store y0 y1 Try.underlying54 (.agg #[.slice a' n' c', .bool q.wh])
        have hsl5 : Sl Q (.slice a' n' c') q.ls x5 := (Sl.of_row r1).mono fun j _ hj => HP.out j hj
        have h6 := hc5.store (r := q) hm2 hv2 hm6 hf6 (.inr ⟨_, q, rfl, rfl, hsl5⟩) hq.1 hq.2
        rw [← part_step f hfy] at h6
        have bn : b ≠ b2 := by have := HV.out.2.2.1; have := HT.out.2; omega
        have rg6 := (hr3.kp kk).frm hm2 bn hf6
        have b56 := (b5.kp k5).fr hf6 (hm2.ne (b5.kp k5))
        refine ⟨x6, e6, h6.box.at (j := 0) rfl, ⟨b56.at (j := 0) rfl, b56.at (j := 1) rfl⟩, ⟨rg6, h6, ?_, HG.out.hr, HT.out.2⟩, ?_⟩
        · exact (kp_trans kw3 kk).trans (hf6.below (kp_trans kw3 kk).size fun k hk e => by unfold On at e; have := HT.out.2; omega)
        · rw [rg6.left_eq, hrg.left_eq]; exact hlt3
      have y2 := (hcp.kp k4d).box.at (j := 0) rfl
      have y3 := b5.at (j := 0) rfl
      have y4 := b5.at (j := 1) rfl
      have HW : Hid (_ = W4) := hW4
      have HB5 : Hid (Lc 24 w3.heap.size [.slice a n cc, .bool q.wh] W4.drew ∧ Rs t2 b2 (part f left) Q W4.drew) := ⟨b5, hcp.kp k4d⟩
      clear hlt3 hf3 hs3 hrg HG hy hfy hsl hq hcp kw3 hW4 k4 k4d b5 hr3 hly HV HM HP HT
      go_upto_region 5 with fail
      rw [HW.out]
      clear HW
      refine wp_region_noPanic ?_
      refine wp_region_held_drew (S := fun z => z.cell? ⟨t2, 0, none⟩ = some (.map (some b2)) ∧ z.cell? ⟨w3.heap.size, 0, none⟩ = some (.slice a n cc) ∧ z.cell? ⟨w3.heap.size, 1, none⟩ = some (.bool q.wh)) (by kernel_rfl) (⟨y2, y3, y4⟩) (fun hHeld => ?_)
      refine takeAt 0 (some 17) ?_ rfl rfl (by kernel_rfl) (by kernel_rfl) (by kernel_rfl) (fun _ _ _ h => h) (Or.inl ⟨by rfl, ?_⟩) hHeld ?_
      rotate_left
      · intro w hSw
        go_simp <;> with_reducible rfl
      try simp only [Act.put, List.setIfInBounds_toArray, List.set_cons_zero, List.set_cons_succ]
      refine takeAt 1 (some 18) ?_ rfl rfl (by kernel_rfl) (by kernel_rfl) (by kernel_rfl) (fun _ _ _ h => h) (Or.inl ⟨by rfl, ?_⟩) hHeld ?_
      rotate_left
      · intro w hSw
        go_simp <;> with_reducible rfl
      try simp only [Act.put, List.setIfInBounds_toArray, List.set_cons_zero, List.set_cons_succ]
      refine takeAt 2 (some 19) ?_ rfl rfl (by kernel_rfl) (by kernel_rfl) (by kernel_rfl) (fun _ _ _ h => h) (Or.inl ⟨by rfl, ?_⟩) hHeld ?_
      rotate_left
      · intro w hSw
        go_simp <;> with_reducible rfl
      try simp only [Act.put, List.setIfInBounds_toArray, List.set_cons_zero, List.set_cons_succ]
      refine takeAt 3 (some 20) ?_ rfl rfl (by kernel_rfl) (by kernel_rfl) (by kernel_rfl) (fun _ _ _ h => h) (Or.inl ⟨by rfl, ?_⟩) hHeld ?_
      rotate_left
      · intro w hSw
        go_simp <;> with_reducible rfl
      try simp only [Act.put, List.setIfInBounds_toArray, List.set_cons_zero, List.set_cons_succ]
      refine takeAt 4 (some 21) ?_ rfl rfl (by kernel_rfl) (by kernel_rfl) (by kernel_rfl) (fun _ _ _ h => h) (Or.inl ⟨by rfl, ?_⟩) hHeld ?_
      rotate_left
      · intro w hSw
        go_simp <;> with_reducible rfl
      try simp only [Act.put, List.setIfInBounds_toArray, List.set_cons_zero, List.set_cons_succ]
      refine takeAt 5 (some 22) ?_ rfl rfl (by kernel_rfl) (by kernel_rfl) (by kernel_rfl) (fun _ _ _ h => h) (Or.inl ⟨by rfl, ?_⟩) hHeld ?_
      rotate_left
      · intro w hSw
        go_simp <;> with_reducible rfl
      try simp only [Act.put, List.setIfInBounds_toArray, List.set_cons_zero, List.set_cons_succ]
      refine callAt 6 23 28 (vals := #[.agg #[.slice a n cc, .bool q.wh]]) (by kernel_rfl) rfl rfl rfl rfl (by simp [Act.eval]) Try.func28 (by kernel_rfl) (by kernel_rfl) ?_
      refine Calls.mono (HO.out) ?_
      rintro e x5 ⟨a', n', c', rfl, H5⟩
      obtain ⟨x6, e6, u0, u1, HX⟩ := HZ.out x5 a' n' c' H5.out.1 H5.out.2
      have hS5 := And.intro (HB5.out.2.kp H5.out.2 |>.box.at (j := 0) rfl) (And.intro ((HB5.out.1.kp H5.out.2).at (j := 0) rfl) ((HB5.out.1.kp H5.out.2).at (j := 1) rfl))
      clear H5 HO HZ
      refine ⟨_, rfl, hS5, fun hHeld => ?_⟩
      try simp only [Act.put, List.setIfInBounds_toArray, List.set_cons_zero, List.set_cons_succ]
      refine wpAnyH_ready (rs := [7]) (by kernel_rfl) (by simp) ?_
      refine AllReadyH.cons rfl (fun K hK => ?_) AllReadyH.nil
      go_simp
      refine hK.out _ _ (⟨u0, u1⟩) (fun hHeld => ?_)
      clear hK K
      try simp only [Act.put, List.setIfInBounds_toArray, List.set_cons_zero, List.set_cons_succ]
      refine wpAnyH_done (by kernel_rfl) ?_ _
      refine NoPanic.normal ?_
      clear u0 u1 e6 hS5 y2 y3 y4 HB5 hen
      go_wp2_with fail
      go_roundw
      case rel => exact ⟨_, _, HX.out.1⟩
      case measure => exact HX.out.2
end
end Go.Proofs.Ytbnlenanfhggiaa
/- What the law's own calls come to: known. -/
namespace Go.Proofs.Ytbnlenanfhggiaa
open Go.ChangeShapes Go.WideShapes Go.ChangeAt Go.RowKit Go.Maps Go.MapKept
set_option linter.unusedVariables false
set_option linter.unusedSimpArgs false
set_option maxRecDepth 100000
/-- Any place. -/
def Anyw (_ : Nat) : Prop := True
theorem anyw (n : Nat) : ∀ k, n ≤ k → Anyw k := fun _ _ => trivial
theorem kp_fr {w X X1 : World} {b : Nat} (k : Kp w X) (f : Fr (On b) X X1) (hb : w.heap.size ≤ b) : Kp w X1 := k.trans (f.below k.size fun j hj e => by unfold On at e; omega)
section
variable {t b : Nat} {f : Rf} {P Q : Nat → Prop} {w w1 X : World} {v : Value} {r : Rv}
/-- What lies elsewhere is as it was. -/
theorem Rs.box_off (h : Rs t b f P w) {T : TypeId} {m : Nat} {l : List Value} (hm : Lc T m l w) (k : Fr (On b) w w1) : Lc T m l w1 := by
  obtain ⟨mm, hmm, _⟩ := h.map
  exact hm.fr k (hmm.ne hm)
theorem Rs.sl_off (h : Rs t b f P w) {ls : List ByteArray} (hs : Sl Q v ls w) (k : Fr (On b) w w1) : Sl Q v ls w1 := by
  obtain ⟨mm, hmm, _⟩ := h.map
  exact hs.onMap hmm k
def s1 (c : UInt8) : ByteArray := ⟨#[c]⟩
theorem fit_one (f : Rf) (x : Int) (c : UInt8) (wh : Bool) : Fit f x ⟨[s1 c], wh⟩ := ⟨by simp, (fun _ => by simp), fun s hs => by
  simp only [List.mem_singleton] at hs; subst hs; show 1 ≤ _; omega⟩
/-- Yank of a text of one letter, out of a new list. -/
theorem yank_one (h : Rs t b f Anyw X) {x : Int} (h0 : 0 ≤ x) (h1 : x < 256) (c : UInt8) (wh : Bool) {H : Nat} (hH : X.heap.size = H) :
    Calls Try.prog 12 #[.pointer (some ⟨t, 0, none⟩), .int .u8 x, .agg #[.slice (some ⟨H, 0, none⟩) 1 1, .bool wh]] (X.alloc (.cells #[.string (s1 c)] 9)) fun e w' => ∃ n, e = .returned n ∧ Hid (Rs t b (yankF f x ⟨[s1 c], wh⟩) Anyw w' ∧ Fr (On b) X w') := by
  subst hH
  have k := kp_alloc X (.cells #[.string (s1 c)] 9)
  refine (yank_any (r := ⟨[s1 c], wh⟩) (h.kp k) (anyw _) h0 h1 (Sl.str (P := Anyw) (s1 c) X (anyw _)) (fit_one f x c wh)).mono ?_
  rintro e w' ⟨he, q1, q2⟩
  exact ⟨_, he, q1, (Fr.of_below k).trans q2⟩
theorem cut_one (h : Rs t b f Anyw X) {x : Int} (h0 : 0 ≤ x) (h1 : x < 256) (c : UInt8) (wh : Bool) {H : Nat} (hH : X.heap.size = H) :
    Calls Try.prog 14 #[.pointer (some ⟨t, 0, none⟩), .int .u8 x, .agg #[.slice (some ⟨H, 0, none⟩) 1 1, .bool wh]] (X.alloc (.cells #[.string (s1 c)] 9)) fun e w' => ∃ n, e = .returned n ∧ Hid (Rs t b (cutF f x ⟨[s1 c], wh⟩) Anyw w' ∧ Fr (On b) X w') := by
  subst hH
  have k := kp_alloc X (.cells #[.string (s1 c)] 9)
  refine (cut_any (r := ⟨[s1 c], wh⟩) (h.kp k) (anyw _) h0 h1 (Sl.str (P := Anyw) (s1 c) X (anyw _)) (fit_one f x c wh)).mono ?_
  rintro e w' ⟨he, q1, q2⟩
  exact ⟨_, he, q1, (Fr.of_below k).trans q2⟩
theorem get_some (h : Rs t b f P X) {x : Int} (h0 : 0 ≤ x) (h1 : x < 256) {q : Rv} {E : Int} (hq : getR f x = q) (hE : getE f x = E) :
    Calls Try.prog 13 #[.pointer (some ⟨t, 0, none⟩), .int .u8 x] X fun e w' => ∃ a n c, e = .returned (.tuple #[.agg #[.slice a n c, .bool q.wh], .int .u16 E]) ∧ n = q.ls.length ∧ n ≤ c ∧ c ≤ 9223372036854775807 ∧ Hid (Row X.heap.size (.slice a n c) q.ls w' ∧ Kp X w') := by
  subst hq; subst hE
  refine (get_any h h0 h1).mono ?_
  rintro e w' ⟨v', he, q1, q2⟩
  obtain ⟨a, c, rfl, h3, h4⟩ := q1.form
  exact ⟨a, _, c, he, rfl, h3, h4, q1, q2⟩
end
def kF1 : Rf := yankF (fun _ => none) 97 ⟨[s1 120], true⟩
def kF2 : Rf := yankF kF1 65 ⟨[s1 121], true⟩
def kF3 : Rf := cutF kF2 34 ⟨[s1 112], false⟩
def kF4 : Rf := cutF kF3 34 ⟨[s1 113], false⟩
theorem kp1 : getR kF2 97 = ⟨[s1 120, s1 121], true⟩ := by kernel_rfl
theorem kp2 : getE kF2 97 = 0 := by kernel_rfl
theorem kp3 : getR kF4 50 = ⟨[s1 112], false⟩ := by kernel_rfl
theorem kp4 : getE kF4 50 = 0 := by kernel_rfl
theorem kp5 : getR kF4 51 = ⟨[], false⟩ := by kernel_rfl
theorem kp6 : getE kF4 51 = 111 := by kernel_rfl
end Go.Proofs.Ytbnlenanfhggiaa
