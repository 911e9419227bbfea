/- Texts that the proof of the law stands on: Prn2, Prn3, Prn4, Kn0, Kn1, Eval0, Eval1, Eval4, PLast. -/
import Derived.Test.YthloemacfdgjjaaGreatDoorPartG
import Derived.Test.YthloemacfdgjjaaGreatDoorPartF
/- The printer's node. -/
namespace Go.Proofs.YthloemacfdgjjaaGreatDoor
open Go.ChangeShapes Go.WideShapes Go.ChangeAt Go.RowKit
set_option linter.unusedVariables false
set_option linter.unusedSimpArgs false
def pushP (d : Nq) : List Part :=
  if d.op = 5 then listP [40] [] [41] d.kids else if d.op = 6 then listP [40] [124] [41] d.kids else if d.op = 7 then listP (timesT d) [] [] d.kids else if d.op = 8 then listP ([60] ++ Lib.itoa d.n) [] [62] d.kids else []
def inner (op : Nat) : Bool := op == 5 || op == 6 || op == 7 || op == 8
def sayP (d : Nq) : List UInt8 := if inner d.op then [] else leafT d
/-- Numbers of a node that memory can hold. -/
structure Nok (d : Nq) : Prop where
  c : d.c < 256
  set : d.set.ok
  mn : Sm d.mn
  mx : Sm d.mx
  n : Sm d.n
theorem leafT_len {d : Nq} (h : Nok d) : (leafT d).length ≤ 200 := by
  unfold leafT
  have h1 := hexT_len d.c 2 (by omega)
  have h2 := itoa_len h.n
  have h3 : (setT d.set).length ≤ 140 := by
    have l1 := hexT_len d.set.a 16 (by omega)
    have l2 := hexT_len d.set.b 16 (by omega)
    have l3 := hexT_len d.set.c 16 (by omega)
    have l4 := hexT_len d.set.d 16 (by omega)
    unfold setT
    simp only [List.length_append, List.length_cons, List.length_nil]; omega
  repeat' split
  all_goals first | omega | (simp only [List.length_append, List.length_cons, List.length_nil]; omega)
section
variable {w0 w w1 : World} {pb : Nat} {v kv : Value} {root G : Int} {cs : Nat} {l : List UInt8} {ps : List Part}
theorem NqBox.nk {n : Nat} {d : Nq} {kv : Value} (h : NqBox n d kv w) (k : Nk 38 w w1) : NqBox n d kv w1 := k n _ h
set_option maxHeartbeats 4000000 in
set_option maxRecDepth 100000 in
theorem node_any (h : Pws w0 pb v root G cs l ps w) (g : Gl w0) (d : Nq) (hd : Nok d) (hk : Ks w0 kv d.kids) (hi : inner d.op = true → d.kids ≠ []) (hlen : ps.length + d.kids.length ≤ 900000) (hl : l.length ≤ 900000) :
    Calls Tryz.prog 42 #[.pointer (some ⟨pb, 0, none⟩), d.val kv] w fun e w' => e = .returned (.tuple #[]) ∧ Pws w0 pb v root G cs (l ++ sayP d) (ps ++ pushP d) w' := by
  have hkp : Kp w0 w := by obtain ⟨_, _, _, z⟩ := h; exact z.kp
  have HQ : Hid (Nok d ∧ Ks w0 kv d.kids ∧ (inner d.op = true → d.kids ≠ []) ∧ ps.length + d.kids.length ≤ 900000 ∧ Gl w ∧ Kp w0 w ∧ l.length ≤ 900000) := ⟨hd, hk, hi, hlen, g.kp hkp, hkp, hl⟩
  have HP : Hid (Pws w0 pb v root G cs l ps w) := h
  have HA : Hid (∀ ob, Kp w (w.alloc ob) ∧ Pws w0 pb v root G cs l ps (w.alloc ob)) := fun ob => ⟨kp_alloc w ob, h.kp (kp_alloc w ob)⟩
  have HD : Hid (∀ ob, Kp w (w.alloc ob).drew ∧ Pws w0 pb v root G cs l ps (w.alloc ob).drew) := fun ob => ⟨kp_trans (kp_alloc w ob) (kp_drew _), h.kp (kp_trans (kp_alloc w ob) (kp_drew _))⟩
  obtain ⟨an, han⟩ : ∃ a, [60] ++ Lib.itoa d.n = a := ⟨_, rfl⟩
  have hAn := cat_run han (by rw [← han, List.length_append]; have := itoa_len hd.n; simp; omega)
  obtain ⟨op, hop⟩ : ∃ op, d.op = op := ⟨_, rfl⟩
  have HT : Hid (∀ x, Gl x → Calls Tryz.prog 58 #[d.val kv] x fun e w' => e = .returned (str (timesT d)) ∧ Kp x w') := fun x hx => timesText_any d kv hd.mn hd.mx hx
  have HL : Hid (∀ x, Gl x → Calls Tryz.prog 59 #[d.val kv] x fun e w' => e = .returned (str (leafT d)) ∧ Kp x w') := fun x hx => leafText_any d kv hd.n hd.set hd.c hx
  have HO : Hid (d.op = op ∧ [60] ++ Lib.itoa d.n = an) := ⟨hop, han⟩
  obtain ⟨sy, hsy⟩ : ∃ s, sayP d = s := ⟨_, rfl⟩
  obtain ⟨pu, hpu⟩ : ∃ s, pushP d = s := ⟨_, rfl⟩
  rw [hsy, hpu]
  have HS : Hid (sayP d = sy ∧ pushP d = pu) := ⟨hsy, hpu⟩
  have HB : Hid (NqBox w.heap.size d kv (w.alloc (.cells #[.int .u8 op, .int .u8 d.c, .int .u64 d.set.a, .int .u64 d.set.b, .int .u64 d.set.c, .int .u64 d.set.d, .int .i64 d.mn, .int .i64 d.mx, .bool d.lz, .int .i64 d.n, kv] 38)).drew) := by
    unfold NqBox Nq.cells
    rw [hop]
    exact alloc_new w _
  have rl0 : ∀ w', NqBox w.heap.size d kv w' → w'.cell? ⟨w.heap.size, 0, none⟩ = some (.int .u8 op) := fun _ h => by rw [← hop]; exact h.cell rfl
  have rl1 : ∀ w', NqBox w.heap.size d kv w' → w'.cell? ⟨w.heap.size, 1, none⟩ = some (.int .u8 d.c) := fun _ h => h.cell rfl
  have rl2 : ∀ w', NqBox w.heap.size d kv w' → w'.cell? ⟨w.heap.size, 2, none⟩ = some (.int .u64 d.set.a) := fun _ h => h.cell rfl
  have rl3 : ∀ w', NqBox w.heap.size d kv w' → w'.cell? ⟨w.heap.size, 3, none⟩ = some (.int .u64 d.set.b) := fun _ h => h.cell rfl
  have rl4 : ∀ w', NqBox w.heap.size d kv w' → w'.cell? ⟨w.heap.size, 4, none⟩ = some (.int .u64 d.set.c) := fun _ h => h.cell rfl
  have rl5 : ∀ w', NqBox w.heap.size d kv w' → w'.cell? ⟨w.heap.size, 5, none⟩ = some (.int .u64 d.set.d) := fun _ h => h.cell rfl
  have rl6 : ∀ w', NqBox w.heap.size d kv w' → w'.cell? ⟨w.heap.size, 6, none⟩ = some (.int .i64 d.mn) := fun _ h => h.cell rfl
  have rl7 : ∀ w', NqBox w.heap.size d kv w' → w'.cell? ⟨w.heap.size, 7, none⟩ = some (.int .i64 d.mx) := fun _ h => h.cell rfl
  have rl8 : ∀ w', NqBox w.heap.size d kv w' → w'.cell? ⟨w.heap.size, 8, none⟩ = some (.bool d.lz) := fun _ h => h.cell rfl
  have rl9 : ∀ w', NqBox w.heap.size d kv w' → w'.cell? ⟨w.heap.size, 9, none⟩ = some (.int .i64 d.n) := fun _ h => h.cell rfl
  have rl10 : ∀ w', NqBox w.heap.size d kv w' → w'.cell? ⟨w.heap.size, 10, none⟩ = some (kv) := fun _ h => h.cell rfl
  unfold Nq.val at HT HL ⊢
  rw [hop] at HT HL ⊢
  obtain ⟨ka, kc, rfl, _, _, _⟩ := id hk
  clear h g hd hk hi hlen hkp hop han hsy hpu hl
  by_cases h5 : op = 5
  · subst h5
    have hs : sy = [] := by rw [← HS.out.1]; simp [sayP, inner, HO.out.1]
    have hp : pu = listP [40] [] [41] d.kids := by rw [← HS.out.2]; simp [pushP, HO.out.1]
    subst hs
    subst hp
    rw [List.append_nil]
    have hne : d.kids ≠ [] := HQ.out.2.2.1 (by rw [HO.out.1]; rfl)
    have HNE : Hid (d.kids ≠ []) := hne
    clear hne
    go_enter Tryz.func42, Tryz.ntmps42
    go_wp2_with fail
    refine Calls.mono (list_any (HA.out _).2 [40] [] [41] HQ.out.2.1 HNE.out HQ.out.2.2.2.1) ?_
    rintro e w9 ⟨rfl, q, _⟩
    have HZ : Hid _ := q
    clear q
    go_wp2_with fail
    go_end0
    exact ⟨rfl, HZ.out⟩
  have d5 : ((op : Int) == 5) = false := by simp; omega
  by_cases h6 : op = 6
  · subst h6
    have hs : sy = [] := by rw [← HS.out.1]; simp [sayP, inner, HO.out.1]
    have hp : pu = listP [40] [124] [41] d.kids := by rw [← HS.out.2]; simp [pushP, HO.out.1]
    subst hs
    subst hp
    rw [List.append_nil]
    have hne : d.kids ≠ [] := HQ.out.2.2.1 (by rw [HO.out.1]; rfl)
    have HNE : Hid (d.kids ≠ []) := hne
    clear hne
    go_enter Tryz.func42, Tryz.ntmps42
    go_wp2_with fail
    refine Calls.mono (list_any (HA.out _).2 [40] [124] [41] HQ.out.2.1 HNE.out HQ.out.2.2.2.1) ?_
    rintro e w9 ⟨rfl, q, _⟩
    have HZ : Hid _ := q
    clear q
    go_wp2_with fail
    go_end0
    exact ⟨rfl, HZ.out⟩
  have d6 : ((op : Int) == 6) = false := by simp; omega
  by_cases h7 : op = 7
  · subst h7
    have hs : sy = [] := by rw [← HS.out.1]; simp [sayP, inner, HO.out.1]
    have hp : pu = listP (timesT d) [] [] d.kids := by rw [← HS.out.2]; simp [pushP, HO.out.1]
    subst hs
    subst hp
    rw [List.append_nil]
    have hne : d.kids ≠ [] := HQ.out.2.2.1 (by rw [HO.out.1]; rfl)
    have HNE : Hid (d.kids ≠ []) := hne
    clear hne
    go_enter Tryz.func42, Tryz.ntmps42
    go_wp2_with fail
    refine wp_region_noPanic ?_
    refine wp_region_held_drew (S := NqBox w.heap.size d (.slice ka d.kids.length kc)) (by kernel_rfl) (HB.out) (fun hHeld => ?_)
    refine takeAt 0 (some 26) ?_ rfl rfl (by kernel_rfl) (by kernel_rfl) (by kernel_rfl) (fun _ _ _ h => h) (Or.inl ⟨by rfl, ?_⟩) hHeld ?_
    rotate_left
    · intro w hSw
      go_simp <;> with_reducible rfl
    try simp only [Act.put, List.setIfInBounds_toArray, List.set_cons_zero, List.set_cons_succ]
    refine takeAt 1 (some 27) ?_ rfl rfl (by kernel_rfl) (by kernel_rfl) (by kernel_rfl) (fun _ _ _ h => h) (Or.inl ⟨by rfl, ?_⟩) hHeld ?_
    rotate_left
    · intro w hSw
      go_simp <;> with_reducible rfl
    try simp only [Act.put, List.setIfInBounds_toArray, List.set_cons_zero, List.set_cons_succ]
    refine takeAt 3 (some 29) ?_ rfl rfl (by kernel_rfl) (by kernel_rfl) (by kernel_rfl) (fun _ _ _ h => h) (Or.inl ⟨by rfl, ?_⟩) hHeld ?_
    rotate_left
    · intro w hSw
      go_simp <;> with_reducible rfl
    try simp only [Act.put, List.setIfInBounds_toArray, List.set_cons_zero, List.set_cons_succ]
    refine takeAt 4 (some 30) ?_ rfl rfl (by kernel_rfl) (by kernel_rfl) (by kernel_rfl) (fun _ _ _ h => h) (Or.inl ⟨by rfl, ?_⟩) hHeld ?_
    rotate_left
    · intro w hSw
      go_simp <;> with_reducible rfl
    try simp only [Act.put, List.setIfInBounds_toArray, List.set_cons_zero, List.set_cons_succ]
    refine callAt 2 28 58 (vals := #[.agg #[.int .u8 (7 : Nat), .int .u8 d.c, .int .u64 d.set.a, .int .u64 d.set.b, .int .u64 d.set.c, .int .u64 d.set.d, .int .i64 d.mn, .int .i64 d.mx, .bool d.lz, .int .i64 d.n, .slice ka d.kids.length kc]]) (by kernel_rfl) rfl rfl rfl rfl (by simp [Act.eval]) Tryz.func58 (by kernel_rfl) (by kernel_rfl) ?_
    refine Calls.mono (HT.out _ (HQ.out.2.2.2.2.1.kp (HD.out _).1)) ?_
    rintro e w2 ⟨rfl, q⟩
    have H2 : Hid (NqBox w.heap.size d (.slice ka d.kids.length kc) w2 ∧ Pws w0 pb v root G cs l ps w2) := ⟨HB.out.kp q, (HD.out _).2.kp q⟩
    clear q
    refine ⟨_, rfl, H2.out.1, fun hHeld => ?_⟩
    try simp only [Act.put, List.setIfInBounds_toArray, List.set_cons_zero, List.set_cons_succ]
    refine callAt 5 31 57 (vals := #[.pointer (some ⟨pb, 0, none⟩), str (timesT d), str [], str [], .slice ka d.kids.length kc]) (by kernel_rfl) rfl rfl rfl rfl (by simp [Act.eval]) Tryz.func57 (by kernel_rfl) (by kernel_rfl) ?_
    refine Calls.mono (list_any H2.out.2 (timesT d) [] [] HQ.out.2.1 HNE.out HQ.out.2.2.2.1) ?_
    rintro e w9 ⟨rfl, q, qn⟩
    have HZ : Hid (Pws w0 pb v root G cs l (ps ++ listP (timesT d) [] [] d.kids) w9 ∧ NqBox w.heap.size d (.slice ka d.kids.length kc) w9) := ⟨q, H2.out.1.nk (qn _ (by decide) (by decide))⟩
    clear q qn
    refine ⟨_, rfl, HZ.out.2, fun hHeld => ?_⟩
    try simp only [Act.put, List.setIfInBounds_toArray, List.set_cons_zero, List.set_cons_succ]
    refine wpAnyH_done (by kernel_rfl) ?_ _
    refine NoPanic.normal ?_
    go_wp2_with fail
    go_end0
    exact ⟨rfl, HZ.out.1⟩
  have d7 : ((op : Int) == 7) = false := by simp; omega
  by_cases h8 : op = 8
  · subst h8
    have hs : sy = [] := by rw [← HS.out.1]; simp [sayP, inner, HO.out.1]
    have hp : pu = listP ([60] ++ Lib.itoa d.n) [] [62] d.kids := by rw [← HS.out.2]; simp [pushP, HO.out.1]
    subst hs
    subst hp
    rw [List.append_nil]
    have hne : d.kids ≠ [] := HQ.out.2.2.1 (by rw [HO.out.1]; rfl)
    have HNE : Hid (d.kids ≠ []) := hne
    clear hne
    rw [HO.out.2]
    go_enter Tryz.func42, Tryz.ntmps42
    go_wp2_with fail
    refine wp_region_noPanic ?_
    refine wp_region_held_drew (S := NqBox w.heap.size d (.slice ka d.kids.length kc)) (by kernel_rfl) (HB.out) (fun hHeld => ?_)
    refine takeAt 0 (some 34) ?_ rfl rfl (by kernel_rfl) (by kernel_rfl) (by kernel_rfl) (fun _ _ _ h => h) (Or.inl ⟨by rfl, ?_⟩) hHeld ?_
    rotate_left
    · intro w hSw
      go_simp <;> with_reducible rfl
    try simp only [Act.put, List.setIfInBounds_toArray, List.set_cons_zero, List.set_cons_succ]
    refine takeAt 1 (some 35) ?_ rfl rfl (by kernel_rfl) (by kernel_rfl) (by kernel_rfl) (fun _ _ _ h => h) (Or.inl ⟨by rfl, ?_⟩) hHeld ?_
    rotate_left
    · intro w hSw
      go_simp <;> with_reducible rfl
    try simp only [Act.put, List.setIfInBounds_toArray, List.set_cons_zero, List.set_cons_succ]
    refine takeAt 2 (some 36) ?_ rfl rfl (by kernel_rfl) (by kernel_rfl) (by kernel_rfl) (fun _ _ _ h => h) (Or.inl ⟨by rfl, ?_⟩) hHeld ?_
    rotate_left
    · intro w hSw
      go_simp <;> with_reducible rfl
    try simp only [Act.put, List.setIfInBounds_toArray, List.set_cons_zero, List.set_cons_succ]
    refine takeAt 5 (some 39) ?_ rfl rfl (by kernel_rfl) (by kernel_rfl) (by kernel_rfl) (fun _ _ _ h => h) (Or.inl ⟨by rfl, ?_⟩) hHeld ?_
    rotate_left
    · intro w hSw
      go_simp <;> with_reducible rfl
    try simp only [Act.put, List.setIfInBounds_toArray, List.set_cons_zero, List.set_cons_succ]
    refine takeAt 6 (some 40) ?_ rfl rfl (by kernel_rfl) (by kernel_rfl) (by kernel_rfl) (fun _ _ _ h => h) (Or.inl ⟨by rfl, ?_⟩) hHeld ?_
    rotate_left
    · intro w hSw
      go_simp <;> with_reducible rfl
    try simp only [Act.put, List.setIfInBounds_toArray, List.set_cons_zero, List.set_cons_succ]
    refine callAt 3 37 39 (vals := #[.int .i64 d.n]) (by kernel_rfl) rfl rfl rfl rfl (by simp [Act.eval]) Tryz.func39 (by kernel_rfl) (by kernel_rfl) ?_
    refine Calls.mono (itoa_any d.n HQ.out.1.n.1 HQ.out.1.n.2 (HQ.out.2.2.2.2.1.kp (HD.out _).1)) ?_
    rintro e w2 ⟨rfl, q⟩
    have H2 : Hid (NqBox w.heap.size d (.slice ka d.kids.length kc) w2 ∧ Pws w0 pb v root G cs l ps w2) := ⟨HB.out.kp q, (HD.out _).2.kp q⟩
    clear q
    refine ⟨_, rfl, H2.out.1, fun hHeld => ?_⟩
    try simp only [Act.put, List.setIfInBounds_toArray, List.set_cons_zero, List.set_cons_succ]
    refine takeAt 4 (some 38) ?_ rfl rfl (by kernel_rfl) (by kernel_rfl) (by kernel_rfl) (fun _ _ _ h => h) (Or.inl ⟨by rfl, ?_⟩) hHeld ?_
    rotate_left
    · intro w hSw
      go_simp <;> with_reducible rfl
    try simp only [Act.put, List.setIfInBounds_toArray, List.set_cons_zero, List.set_cons_succ]
    refine callAt 7 41 57 (vals := #[.pointer (some ⟨pb, 0, none⟩), str an, str [], str [62], .slice ka d.kids.length kc]) (by kernel_rfl) rfl rfl rfl rfl (by simp [Act.eval]) Tryz.func57 (by kernel_rfl) (by kernel_rfl) ?_
    refine Calls.mono (list_any H2.out.2 an [] [62] HQ.out.2.1 HNE.out HQ.out.2.2.2.1) ?_
    rintro e w9 ⟨rfl, q, qn⟩
    have HZ : Hid (Pws w0 pb v root G cs l (ps ++ listP an [] [62] d.kids) w9 ∧ NqBox w.heap.size d (.slice ka d.kids.length kc) w9) := ⟨q, H2.out.1.nk (qn _ (by decide) (by decide))⟩
    clear q qn
    refine ⟨_, rfl, HZ.out.2, fun hHeld => ?_⟩
    try simp only [Act.put, List.setIfInBounds_toArray, List.set_cons_zero, List.set_cons_succ]
    refine wpAnyH_done (by kernel_rfl) ?_ _
    refine NoPanic.normal ?_
    go_wp2_with fail
    go_end0
    exact ⟨rfl, HZ.out.1⟩
  have d8 : ((op : Int) == 8) = false := by simp; omega
  have hs : sy = leafT d := by rw [← HS.out.1]; simp [sayP, inner, HO.out.1, h5, h6, h7, h8]
  have hp : pu = [] := by rw [← HS.out.2]; simp [pushP, HO.out.1, h5, h6, h7, h8]
  subst hs
  subst hp
  rw [List.append_nil]
  go_enter Tryz.func42, Tryz.ntmps42
  go_wp2_with fail
  refine wp_region_noPanic ?_
  refine wp_region_held_drew (S := NqBox w.heap.size d (.slice ka d.kids.length kc)) (by kernel_rfl) (HB.out) (fun hHeld => ?_)
  refine takeAt 0 (some 6) ?_ rfl rfl (by kernel_rfl) (by kernel_rfl) (by kernel_rfl) (fun _ _ _ h => h) (Or.inl ⟨by rfl, ?_⟩) hHeld ?_
  rotate_left
  · intro w hSw
    go_simp <;> with_reducible rfl
  try simp only [Act.put, List.setIfInBounds_toArray, List.set_cons_zero, List.set_cons_succ]
  refine takeAt 1 (some 7) ?_ rfl rfl (by kernel_rfl) (by kernel_rfl) (by kernel_rfl) (fun _ _ _ h => h) (Or.inl ⟨by rfl, ?_⟩) hHeld ?_
  rotate_left
  · intro w hSw
    go_simp <;> with_reducible rfl
  try simp only [Act.put, List.setIfInBounds_toArray, List.set_cons_zero, List.set_cons_succ]
  refine takeAt 2 (some 8) ?_ rfl rfl (by kernel_rfl) (by kernel_rfl) (by kernel_rfl) (fun _ _ _ h => h) (Or.inl ⟨by rfl, ?_⟩) hHeld ?_
  rotate_left
  · intro w hSw
    go_simp <;> with_reducible rfl
  try simp only [Act.put, List.setIfInBounds_toArray, List.set_cons_zero, List.set_cons_succ]
  refine takeAt 3 (some 9) ?_ rfl rfl (by kernel_rfl) (by kernel_rfl) (by kernel_rfl) (fun _ _ _ h => h) (Or.inl ⟨by rfl, ?_⟩) hHeld ?_
  rotate_left
  · intro w hSw
    go_simp <;> with_reducible rfl
  try simp only [Act.put, List.setIfInBounds_toArray, List.set_cons_zero, List.set_cons_succ]
  refine callAt 4 10 59 (vals := #[.agg #[.int .u8 op, .int .u8 d.c, .int .u64 d.set.a, .int .u64 d.set.b, .int .u64 d.set.c, .int .u64 d.set.d, .int .i64 d.mn, .int .i64 d.mx, .bool d.lz, .int .i64 d.n, .slice ka d.kids.length kc]]) (by kernel_rfl) rfl rfl rfl rfl (by simp [Act.eval]) Tryz.func59 (by kernel_rfl) (by kernel_rfl) ?_
  refine Calls.mono (HL.out _ (HQ.out.2.2.2.2.1.kp (HD.out _).1)) ?_
  rintro e w2 ⟨rfl, q⟩
  have H2 : Hid (NqBox w.heap.size d (.slice ka d.kids.length kc) w2 ∧ Pws w0 pb v root G cs l ps w2) := ⟨HB.out.kp q, (HD.out _).2.kp q⟩
  clear q
  refine ⟨_, rfl, H2.out.1, fun hHeld => ?_⟩
  try simp only [Act.put, List.setIfInBounds_toArray, List.set_cons_zero, List.set_cons_succ]
  refine callAt 5 11 41 (vals := #[.pointer (some ⟨pb, 4, none⟩), str (leafT d)]) (by kernel_rfl) rfl rfl rfl rfl (by simp [Act.eval]) Tryz.func41 (by kernel_rfl) (by kernel_rfl) ?_
  refine Calls.mono (write_any H2.out.2 (leafT d) (by have := leafT_len HQ.out.1; have := HQ.out.2.2.2.2.2.2; omega)) ?_
  rintro e w9 ⟨rfl, q, qn⟩
  have HZ : Hid (Pws w0 pb v root G cs (l ++ leafT d) ps w9 ∧ NqBox w.heap.size d (.slice ka d.kids.length kc) w9) := ⟨q, H2.out.1.nk (qn _ (by decide) (by decide))⟩
  clear q qn
  refine ⟨_, rfl, HZ.out.2, fun hHeld => ?_⟩
  try simp only [Act.put, List.setIfInBounds_toArray, List.set_cons_zero, List.set_cons_succ]
  refine wpAnyH_done (by kernel_rfl) ?_ _
  refine NoPanic.normal ?_
  go_wp2_with fail
  go_end0
  exact ⟨rfl, HZ.out.1⟩
end
end Go.Proofs.YthloemacfdgjjaaGreatDoor
/- The printer's print. -/
namespace Go.Proofs.YthloemacfdgjjaaGreatDoor
open Go.ChangeShapes Go.WideShapes Go.ChangeAt Go.RowKit
set_option linter.unusedVariables false
set_option linter.unusedSimpArgs false
def okP (L : List Nq) (a : Int) (k : Nat) : Bool := hasB L a && (!(inner (nodeAt L a).op) || !(nodeAt L a).kids.isEmpty) && decide (k + (nodeAt L a).kids.length ≤ 900000)
/-- What is written, of all that waits. -/
def prF (L : List Nq) : Nat → List Part → List UInt8 → Option (List UInt8)
  | 0, _, _ => none
  | n + 1, ps, l =>
    match ps.getLast? with
    | none => some l
    | some (t, a) =>
      if 800000 < l.length + t.length ∨ 800000 < ps.length then none
      else if a = -1 then prF L n ps.dropLast (l ++ t)
      else if okP L a ps.dropLast.length then prF L n (ps.dropLast ++ pushP (nodeAt L a)) (l ++ t ++ sayP (nodeAt L a))
      else none
theorem exists_least {p : Nat → Prop} (h : ∃ n, p n) : ∃ m, p m ∧ ∀ k, p k → m ≤ k := by
  obtain ⟨n, hn⟩ := h
  induction n using Nat.strongRecOn with
  | ind n ih =>
    by_cases q : ∃ k, k < n ∧ p k
    · obtain ⟨k, h1, h2⟩ := q; exact ih k h1 h2
    · exact ⟨n, hn, fun k hk => by
        rcases Nat.lt_or_ge k n with z | z
        · exact absurd ⟨k, z, hk⟩ q
        · exact z⟩
open Classical in
noncomputable def least (p : Nat → Prop) : Nat := if h : ∃ n, p n then Classical.choose (exists_least h) else 0
theorem least_le {p : Nat → Prop} {n : Nat} (h : p n) : least p ≤ n := by
  unfold least
  rw [dif_pos ⟨n, h⟩]
  exact (Classical.choose_spec (exists_least ⟨n, h⟩)).2 n h
theorem least_has {p : Nat → Prop} {n : Nat} (h : p n) : p (least p) := by
  unfold least
  rw [dif_pos ⟨n, h⟩]
  exact (Classical.choose_spec (exists_least ⟨n, h⟩)).1
theorem parts_pop {B : Nat} {v : Value} {ps : List Part} {x : Part} {w : World} (h : w.ownsRow B 94 2 v (ps ++ [x]).length (flatP (ps ++ [x]))) : ∃ g cap, v = .slice (some ⟨g, 0, none⟩) (ps.length + 1) cap ∧ ps.length + 1 ≤ cap ∧ cap ≤ maxLen ∧ B ≤ g ∧ w.cell? ⟨g, ps.length * 2, none⟩ = some (str x.1) ∧ w.cell? ⟨g, ps.length * 2 + 1, none⟩ = some (.int .i64 x.2) ∧ w.ownsRow B 94 2 (.slice (some ⟨g, 0, none⟩) ps.length cap) ps.length (flatP ps) := by
  have hl : (ps ++ [x]).length = ps.length + 1 := by simp
  have hfl := flatP_len ps
  rw [hl, flatP_snoc] at h
  rcases h.2 with ⟨_, q⟩ | ⟨g, c, cur, e, hb, hg, h1, h2, h3, h4⟩
  · omega
  · have hget : ∀ j, j < 2 → w.cell? ⟨g, ps.length * 2 + j, none⟩ = x.cells[j]? := fun j hj => by
      rw [cell_at hg, ← Array.getElem?_toList]
      have : (flatP ps ++ x.cells)[ps.length * 2 + j]? = x.cells[j]? := by
        rw [List.getElem?_append_right (by omega), hfl, Nat.add_sub_cancel_left]
      rw [← h4, List.getElem?_take, if_pos (by omega)] at this
      exact this
    refine ⟨g, c, e, h1, h2, hb, hget 0 (by omega), hget 1 (by omega), hfl, .inr ⟨g, c, cur, rfl, hb, hg, by omega, h2, h3, ?_⟩⟩
    have : (cur.toList.take ((ps.length + 1) * 2)).take (ps.length * 2) = (flatP ps ++ x.cells).take (ps.length * 2) := by rw [h4]
    rw [List.take_take, Nat.min_eq_left (by omega), List.take_append_of_le_length (by omega)] at this
    rw [this]
    exact List.take_of_length_le (by omega)
section
variable {w0 w w1 : World} {pb : Nat} {v kv : Value} {root G : Int} {cs : Nat} {l : List UInt8} {ps : List Part} {L : List Nq}
def Sp (pb g k cap : Nat) (t : List UInt8) (a : Int) (w : World) : Prop := w.cell? ⟨pb, 6, none⟩ = some (.slice (some ⟨g, 0, none⟩) (k + 1) cap) ∧ w.cell? ⟨g, k * 2, none⟩ = some (str t) ∧ w.cell? ⟨g, k * 2 + 1, none⟩ = some (.int .i64 a)
def Pc (pb : Nat) (root G : Int) (cs : Nat) (w : World) : Prop := w.cell? ⟨pb, 1, none⟩ = some (.int .i64 root) ∧ w.cell? ⟨pb, 2, none⟩ = some (.int .i64 G) ∧ w.cell? ⟨pb, 3, none⟩ = some (.int .u8 cs)
theorem Pws.pc (h : Pws w0 pb v root G cs l ps w) : Pc pb root G cs w := by
  obtain ⟨p, bv, wv, h⟩ := h
  obtain ⟨_, c1, c2, c3, _⟩ := h.pr.cells
  exact ⟨c1, c2, c3⟩
def headT (G : Int) (cs : Nat) : List UInt8 := Lib.itoa G ++ caseL cs ++ [58]
set_option maxHeartbeats 4000000 in
set_option maxRecDepth 100000 in
theorem print_any (h : Pws w0 pb v root G cs [] [] w) (hv : Pt w0 v L) (g : Gl w0) (hG : Sm G) (hL : ∀ d ∈ L, Nok d) {X : List UInt8} {n : Nat} (hX : prF L n [(headT G cs, root)] [] = some X) (hne : X ≠ []) :
    Calls Tryz.prog 26 #[.pointer (some ⟨pb, 0, none⟩)] w fun e w' => e = .returned (str X) ∧ Kp w0 w' := by
  have hkp : Kp w0 w := by obtain ⟨_, _, _, z⟩ := h; exact z.kp
  have HQ : Hid (Pt w0 v L ∧ Gl w0 ∧ Sm G ∧ (∀ d ∈ L, Nok d) ∧ prF L n [(headT G cs, root)] [] = some X ∧ X ≠ [] ∧ Kp w0 w) := ⟨hv, g, hG, hL, hX, hne, hkp⟩
  have HP : Hid (Pws w0 pb v root G cs [] [] w) := h
  obtain ⟨a1, ha1⟩ : ∃ a, Lib.itoa G ++ caseL cs = a := ⟨_, rfl⟩
  obtain ⟨a2, ha2⟩ : ∃ a, a1 ++ [58] = a := ⟨_, rfl⟩
  have e1 : a1.length ≤ 22 := by
    have := itoa_len hG
    rw [← ha1, List.length_append]
    have : (caseL cs).length = 1 := by unfold caseL; repeat' split
                                       all_goals rfl
    omega
  have hA1 := cat_run ha1 (by omega)
  have hA2 := cat_run ha2 (by rw [← ha2, List.length_append]; simp; omega)
  have HH : Hid (headT G cs = a2) := by unfold headT; rw [ha1, ha2]; rfl
  have HD : Hid (Pws w0 pb v root G cs [] [] w.drew ∧ Gl w.drew ∧ Kp w0 w.drew) := ⟨h.kp (kp_drew _), g.kp (kp_trans hkp (kp_drew _)), kp_trans hkp (kp_drew _)⟩
  have rl1 : ∀ w', Pc pb root G cs w' → w'.cell? ⟨pb, 1, none⟩ = some (.int .i64 root) := fun _ h => h.1
  have rl2 : ∀ w', Pc pb root G cs w' → w'.cell? ⟨pb, 2, none⟩ = some (.int .i64 G) := fun _ h => h.2.1
  have rl3 : ∀ w', Pc pb root G cs w' → w'.cell? ⟨pb, 3, none⟩ = some (.int .u8 cs) := fun _ h => h.2.2
  clear h hv g hG hL hX hne hkp ha1 ha2 e1
  go_enter Tryz.func26, Tryz.ntmps26
  go_wp2_with fail
  refine wp_region_noPanic ?_
  refine wp_region_held_drew (S := Pc pb root G cs) (by kernel_rfl) (HD.out.1.pc) (fun hHeld => ?_)
  refine takeAt 0 (some 4) ?_ rfl rfl (by kernel_rfl) (by kernel_rfl) (by kernel_rfl) (fun _ _ _ h => h) (Or.inl ⟨by rfl, ?_⟩) hHeld ?_
  rotate_left
  · intro w hSw
    go_simp <;> with_reducible rfl
  try simp only [Act.put, List.setIfInBounds_toArray, List.set_cons_zero, List.set_cons_succ]
  refine takeAt 1 (some 5) ?_ rfl rfl (by kernel_rfl) (by kernel_rfl) (by kernel_rfl) (fun _ _ _ h => h) (Or.inl ⟨by rfl, ?_⟩) hHeld ?_
  rotate_left
  · intro w hSw
    go_simp <;> with_reducible rfl
  try simp only [Act.put, List.setIfInBounds_toArray, List.set_cons_zero, List.set_cons_succ]
  refine takeAt 2 (some 6) ?_ rfl rfl (by kernel_rfl) (by kernel_rfl) (by kernel_rfl) (fun _ _ _ h => h) (Or.inl ⟨by rfl, ?_⟩) hHeld ?_
  rotate_left
  · intro w hSw
    go_simp <;> with_reducible rfl
  try simp only [Act.put, List.setIfInBounds_toArray, List.set_cons_zero, List.set_cons_succ]
  refine takeAt 3 (some 7) ?_ rfl rfl (by kernel_rfl) (by kernel_rfl) (by kernel_rfl) (fun _ _ _ h => h) (Or.inl ⟨by rfl, ?_⟩) hHeld ?_
  rotate_left
  · intro w hSw
    go_simp <;> with_reducible rfl
  try simp only [Act.put, List.setIfInBounds_toArray, List.set_cons_zero, List.set_cons_succ]
  refine takeAt 4 (some 8) ?_ rfl rfl (by kernel_rfl) (by kernel_rfl) (by kernel_rfl) (fun _ _ _ h => h) (Or.inl ⟨by rfl, ?_⟩) hHeld ?_
  rotate_left
  · intro w hSw
    go_simp <;> with_reducible rfl
  try simp only [Act.put, List.setIfInBounds_toArray, List.set_cons_zero, List.set_cons_succ]
  refine takeAt 5 (some 9) ?_ rfl rfl (by kernel_rfl) (by kernel_rfl) (by kernel_rfl) (fun _ _ _ h => h) (Or.inl ⟨by rfl, ?_⟩) hHeld ?_
  rotate_left
  · intro w hSw
    go_simp <;> with_reducible rfl
  try simp only [Act.put, List.setIfInBounds_toArray, List.set_cons_zero, List.set_cons_succ]
  refine takeAt 7 (some 11) ?_ rfl rfl (by kernel_rfl) (by kernel_rfl) (by kernel_rfl) (fun _ _ _ h => h) (Or.inl ⟨by rfl, ?_⟩) hHeld ?_
  rotate_left
  · intro w hSw
    go_simp <;> with_reducible rfl
  try simp only [Act.put, List.setIfInBounds_toArray, List.set_cons_zero, List.set_cons_succ]
  refine takeAt 8 (some 12) ?_ rfl rfl (by kernel_rfl) (by kernel_rfl) (by kernel_rfl) (fun _ _ _ h => h) (Or.inl ⟨by rfl, ?_⟩) hHeld ?_
  rotate_left
  · intro w hSw
    go_simp <;> with_reducible rfl
  try simp only [Act.put, List.setIfInBounds_toArray, List.set_cons_zero, List.set_cons_succ]
  refine takeAt 9 (some 13) ?_ rfl rfl (by kernel_rfl) (by kernel_rfl) (by kernel_rfl) (fun _ _ _ h => h) (Or.inl ⟨by rfl, ?_⟩) hHeld ?_
  rotate_left
  · intro w hSw
    go_simp <;> with_reducible rfl
  try simp only [Act.put, List.setIfInBounds_toArray, List.set_cons_zero, List.set_cons_succ]
  refine takeAt 10 (some 14) ?_ rfl rfl (by kernel_rfl) (by kernel_rfl) (by kernel_rfl) (fun _ _ _ h => h) (Or.inl ⟨by rfl, ?_⟩) hHeld ?_
  rotate_left
  · intro w hSw
    go_simp <;> with_reducible rfl
  try simp only [Act.put, List.setIfInBounds_toArray, List.set_cons_zero, List.set_cons_succ]
  refine takeAt 11 (some 15) ?_ rfl rfl (by kernel_rfl) (by kernel_rfl) (by kernel_rfl) (fun _ _ _ h => h) (Or.inl ⟨by rfl, ?_⟩) hHeld ?_
  rotate_left
  · intro w hSw
    go_simp <;> with_reducible rfl
  try simp only [Act.put, List.setIfInBounds_toArray, List.set_cons_zero, List.set_cons_succ]
  refine takeAt 15 (some 19) ?_ rfl rfl (by kernel_rfl) (by kernel_rfl) (by kernel_rfl) (fun _ _ _ h => h) (Or.inl ⟨by rfl, ?_⟩) hHeld ?_
  rotate_left
  · intro w hSw
    go_simp <;> with_reducible rfl
  try simp only [Act.put, List.setIfInBounds_toArray, List.set_cons_zero, List.set_cons_succ]
  refine takeAt 16 (some 20) ?_ rfl rfl (by kernel_rfl) (by kernel_rfl) (by kernel_rfl) (fun _ _ _ h => h) (Or.inl ⟨by rfl, ?_⟩) hHeld ?_
  rotate_left
  · intro w hSw
    go_simp <;> with_reducible rfl
  try simp only [Act.put, List.setIfInBounds_toArray, List.set_cons_zero, List.set_cons_succ]
  refine takeAt 17 (some 21) ?_ rfl rfl (by kernel_rfl) (by kernel_rfl) (by kernel_rfl) (fun _ _ _ h => h) (Or.inl ⟨by rfl, ?_⟩) hHeld ?_
  rotate_left
  · intro w hSw
    go_simp <;> with_reducible rfl
  try simp only [Act.put, List.setIfInBounds_toArray, List.set_cons_zero, List.set_cons_succ]
  refine takeAt 18 (some 22) ?_ rfl rfl (by kernel_rfl) (by kernel_rfl) (by kernel_rfl) (fun _ _ _ h => h) (Or.inl ⟨by rfl, ?_⟩) hHeld ?_
  rotate_left
  · intro w hSw
    go_simp <;> with_reducible rfl
  try simp only [Act.put, List.setIfInBounds_toArray, List.set_cons_zero, List.set_cons_succ]
  refine takeAt 19 (some 23) ?_ rfl rfl (by kernel_rfl) (by kernel_rfl) (by kernel_rfl) (fun _ _ _ h => h) (Or.inl ⟨by rfl, ?_⟩) hHeld ?_
  rotate_left
  · intro w hSw
    go_simp <;> with_reducible rfl
  try simp only [Act.put, List.setIfInBounds_toArray, List.set_cons_zero, List.set_cons_succ]
  refine callAt 6 10 39 (vals := #[.int .i64 G]) (by kernel_rfl) rfl rfl rfl rfl (by simp [Act.eval]) Tryz.func39 (by kernel_rfl) (by kernel_rfl) ?_
  refine Calls.mono (itoa_any G HQ.out.2.2.1.1 HQ.out.2.2.1.2 HD.out.2.1) ?_
  rintro e w2 ⟨rfl, q⟩
  have H2 : Hid (Pws w0 pb v root G cs [] [] w2) := HD.out.1.kp q
  clear q
  refine ⟨_, rfl, H2.out.pc, fun hHeld => ?_⟩
  try simp only [Act.put, List.setIfInBounds_toArray, List.set_cons_zero, List.set_cons_succ]
  refine callAt 12 16 40 (vals := #[.int .u8 cs]) (by kernel_rfl) rfl rfl rfl rfl (by simp [Act.eval]) Tryz.func40 (by kernel_rfl) (by kernel_rfl) ?_
  refine Calls.mono (caseLetter_any cs) ?_
  rintro e w3 ⟨rfl, rfl⟩
  refine ⟨_, rfl, H2.out.pc, fun hHeld => ?_⟩
  try simp only [Act.put, List.setIfInBounds_toArray, List.set_cons_zero, List.set_cons_succ]
  refine takeAt 13 (some 17) ?_ rfl rfl (by kernel_rfl) (by kernel_rfl) (by kernel_rfl) (fun _ _ _ h => h) (Or.inl ⟨by rfl, ?_⟩) hHeld ?_
  rotate_left
  · intro w hSw
    go_simp <;> with_reducible rfl
  try simp only [Act.put, List.setIfInBounds_toArray, List.set_cons_zero, List.set_cons_succ]
  refine takeAt 14 (some 18) ?_ rfl rfl (by kernel_rfl) (by kernel_rfl) (by kernel_rfl) (fun _ _ _ h => h) (Or.inl ⟨by rfl, ?_⟩) hHeld ?_
  rotate_left
  · intro w hSw
    go_simp <;> with_reducible rfl
  try simp only [Act.put, List.setIfInBounds_toArray, List.set_cons_zero, List.set_cons_succ]
  refine callAt 20 24 38 (vals := #[.pointer (some ⟨pb, 0, none⟩), str a2, .int .i64 root]) (by kernel_rfl) rfl rfl rfl rfl (by simp [Act.eval]) Tryz.func38 (by kernel_rfl) (by kernel_rfl) ?_
  refine Calls.mono (wait_any H2.out a2 root (by simp)) ?_
  rintro e w4 ⟨rfl, q, _⟩
  have H4 : Hid (Pws w0 pb v root G cs [] [(a2, root)] w4) := q
  clear q
  refine ⟨_, rfl, H4.out.pc, fun hHeld => ?_⟩
  try simp only [Act.put, List.setIfInBounds_toArray, List.set_cons_zero, List.set_cons_succ]
  refine wpAnyH_done (by kernel_rfl) ?_ _
  refine NoPanic.normal ?_
  have hX2 := HQ.out.2.2.2.2.1
  rw [HH.out] at hX2
  have HX : Hid (prF L n [(a2, root)] [] = some X) := hX2
  clear hX2 hHeld
  go_wp2_with fail
  go_loopw [3] (fun v3 wr => ∃ (f : Nat) (l : List UInt8) (ps : List Part), prF L f ps l = some X ∧ Pws w0 pb v root G cs l ps wr) (fun _ wr => least fun f => ∃ (l : List UInt8) (ps : List Part), prF L f ps l = some X ∧ Pws w0 pb v root G cs l ps wr)
  case atStart => exact ⟨n, [], [(a2, root)], HX.out, H4.out⟩
  case round =>
    obtain ⟨f0, l0, ps0, hF0, hP0⟩ := hrel
    obtain ⟨m, hm⟩ : ∃ m, (least fun f => ∃ (l : List UInt8) (ps : List Part), prF L f ps l = some X ∧ Pws w0 pb v root G cs l ps wr) = m := ⟨_, rfl⟩
    obtain ⟨l, ps, hF, hP⟩ := least_has (p := fun f => ∃ (l : List UInt8) (ps : List Part), prF L f ps l = some X ∧ Pws w0 pb v root G cs l ps wr) ⟨l0, ps0, hF0, hP0⟩
    rw [hm] at hF
    have HM : Hid ((least fun f => ∃ (l : List UInt8) (ps : List Part), prF L f ps l = some X ∧ Pws w0 pb v root G cs l ps wr) = m) := hm
    clear hF0 hP0 hm
    obtain ⟨p, bv, wv, hW⟩ := hP
    cases m with
    | zero => simp [prF] at hF
    | succ m =>
    obtain ⟨_, _, _, _, _, _, c6⟩ := hW.pr.cells
    rcases List.eq_nil_or_concat ps with rfl | ⟨qs, ⟨t, a⟩, rfl⟩
    · have hXl : X = l := by simp [prF] at hF; exact hF.symm
      subst hXl
      obtain ⟨sa, sc, rfl, _, _⟩ := owns_form hW.wt
      have HW : Hid (Pws w0 pb v root G cs X [] wr) := ⟨_, _, _, hW⟩
      clear hW hF HX
      simp only [List.length_nil] at c6 ⊢
      go_wp2_with fail
      refine Calls.mono (bstring_any HW.out HQ.out.2.2.2.2.2.1) ?_
      rintro e w5 ⟨rfl, q⟩
      have HZ : Hid _ := q
      clear q
      go_wp2_with fail
      go_ret
      exact ⟨rfl, HZ.out⟩
    · rw [List.concat_eq_append] at hF hW
      obtain ⟨k, hk⟩ : ∃ k, qs.length = k := ⟨_, rfl⟩
      obtain ⟨g, cap, rfl, k1, k2, k3, kc0, kc1, hpop⟩ := parts_pop hW.wt
      rw [hk] at k1 kc0 kc1 hpop c6
      have hstep : ¬ (800000 < l.length + t.length ∨ 800000 < k + 1) ∧ (if a = -1 then prF L m qs (l ++ t) else if okP L a k then prF L m (qs ++ pushP (nodeAt L a)) (l ++ t ++ sayP (nodeAt L a)) else none) = some X := by
        unfold prF at hF
        simp only [List.getLast?_concat, List.dropLast_concat, List.length_append, List.length_cons, List.length_nil, Nat.zero_add, hk] at hF
        split at hF
        · cases hF
        · rename_i hb
          exact ⟨hb, hF⟩
      have hgne : g ≠ pb := fun z => hW.wne (by simp only [Value.ownBlock]; rw [z])
      have hglt : g < wr.heap.size := (hpop.lt g rfl).2
      have hY : ∀ ob, Pws w0 pb v root G cs l qs ((wr.alloc ob).setCell ⟨pb, 6, none⟩ (.slice (some ⟨g, 0, none⟩) k cap)) := fun ob => by
        have hW := hW.kp' (kp_alloc wr ob)
        have hpop := row_kp hpop (kp_alloc wr ob)
        have hsz := alloc_size wr ob
        have f := fr_set pb 6 (.slice (some ⟨g, 0, none⟩) k cap) (wr.alloc ob)
        refine ⟨p, bv, .slice (some ⟨g, 0, none⟩) k cap, kp_new hW.kp f hW.far, hW.far, hW.pr.set6 _, hW.ptr, row_heap hW.buf fun j hj => ?_, ?_⟩
        · exact f.block j (hW.buf.lt j hj).2 fun z => hW.bne (by unfold On at z; rw [← z]; exact hj)
        · rw [hk]
          refine row_heap hpop fun j hj => ?_
          simp only [Value.ownBlock, Option.some.injEq] at hj
          exact f.block j (by omega) fun z => hgne (by unfold On at z; omega)
      have hplt := hW.pr.lt
      have HW5 : Hid (Pws w0 pb v root G cs l qs ((wr.alloc (.cells #[str t, .int .i64 a] 94)).setCell ⟨pb, 6, none⟩ (.slice (some ⟨g, 0, none⟩) k cap)).drew.drew ∧ ((wr.alloc (.cells #[str t, .int .i64 a] 94)).setCell ⟨pb, 6, none⟩ (.slice (some ⟨g, 0, none⟩) k cap)).drew.drew.heap[wr.heap.size]? = some (.cells #[str t, .int .i64 a] 94 (0, 0))) := by
        refine ⟨(hY _).kp (kp_trans (kp_drew _) (kp_drew _)), ?_⟩
        show ((wr.alloc (.cells #[str t, .int .i64 a] 94)).setCell ⟨pb, 6, none⟩ (.slice (some ⟨g, 0, none⟩) k cap)).heap[wr.heap.size]? = _
        rw [heap_setCell_other (by omega)]
        exact alloc_new wr _
      have HST : Hid (¬ (800000 < l.length + t.length ∨ 800000 < k + 1) ∧ (if a = -1 then prF L m qs (l ++ t) else if okP L a k then prF L m (qs ++ pushP (nodeAt L a)) (l ++ t ++ sayP (nodeAt L a)) else none) = some X ∧ qs.length = k) := ⟨hstep.1, hstep.2, hk⟩
      have c6a : ∀ ob, (wr.alloc ob).cell? ⟨pb, 6, none⟩ = some (.slice (some ⟨g, 0, none⟩) (k + 1) cap) := fun ob => kp_cell (kp_alloc _ _) c6
      have f6a : ∀ ob, (wr.alloc ob).frozen? ⟨pb, 6, none⟩ = false := fun ob => (hW.kp' (kp_alloc wr ob)).pr.fz 6
      have HS0 : Hid (∀ x, Kp wr x → Sp pb g k cap t a x) := fun x q => ⟨kp_cell q c6, kp_cell q kc0, kp_cell q kc1⟩
      have rs6 : ∀ w', Sp pb g k cap t a w' → w'.cell? ⟨pb, 6, none⟩ = some (.slice (some ⟨g, 0, none⟩) (k + 1) cap) := fun _ h => h.1
      have rs0 : ∀ w', Sp pb g k cap t a w' → w'.cell? ⟨g, k * 2, none⟩ = some (str t) := fun _ h => h.2.1
      have rs1 : ∀ w', Sp pb g k cap t a w' → w'.cell? ⟨g, k * 2 + 1, none⟩ = some (.int .i64 a) := fun _ h => h.2.2
      have hk8 : k ≤ 800000 := by have := hstep.1; omega
      have hwk : IntKind.i64.wrap (k : Int) = (k : Int) := by rw [IntKind.wrap_i64]; omega
      have hkk : ((k : Int) < (k : Int) + 1) := by omega
      unfold maxLen at k2
      clear hF hW hY hstep hgne hglt hplt hpop hk kc0 kc1 rl1 rl2 rl3
      go_wp2_with fail
      refine wp_region_noPanic ?_
      refine wp_region_held_drew (S := Sp pb g k cap t a) (by kernel_rfl) (HS0.out _ (kp_drew _)) (fun hHeld => ?_)
      refine takeAt 0 (some 31) ?_ rfl rfl (by kernel_rfl) (by kernel_rfl) (by kernel_rfl) (fun _ _ _ h => h) (Or.inl ⟨by rfl, ?_⟩) hHeld ?_
      rotate_left
      · intro w hSw
        go_simp <;> with_reducible rfl
      try simp only [Act.put, List.setIfInBounds_toArray, List.set_cons_zero, List.set_cons_succ]
      refine takeAt 1 (some 32) ?_ rfl rfl (by kernel_rfl) (by kernel_rfl) (by kernel_rfl) (fun _ _ _ h => h) (Or.inl ⟨by rfl, ?_⟩) hHeld ?_
      rotate_left
      · intro w hSw
        go_simp <;> with_reducible rfl
      try simp only [Act.put, List.setIfInBounds_toArray, List.set_cons_zero, List.set_cons_succ]
      refine takeAt 2 (some 33) ?_ rfl rfl (by kernel_rfl) (by kernel_rfl) (by kernel_rfl) (fun _ _ _ h => h) (Or.inl ⟨by rfl, ?_⟩) hHeld ?_
      rotate_left
      · intro w hSw
        go_simp <;> with_reducible rfl
      try simp only [Act.put, List.setIfInBounds_toArray, List.set_cons_zero, List.set_cons_succ]
      refine takeAt 3 (some 34) ?_ rfl rfl (by kernel_rfl) (by kernel_rfl) (by kernel_rfl) (fun _ _ _ h => h) (Or.inl ⟨by rfl, ?_⟩) hHeld ?_
      rotate_left
      · intro w hSw
        go_simp <;> with_reducible rfl
      try simp only [Act.put, List.setIfInBounds_toArray, List.set_cons_zero, List.set_cons_succ]
      refine takeAt 4 (some 35) ?_ rfl rfl (by kernel_rfl) (by kernel_rfl) (by kernel_rfl) (fun _ _ _ h => h) (Or.inl ⟨by rfl, ?_⟩) hHeld ?_
      rotate_left
      · intro w hSw
        go_simp <;> with_reducible rfl
      try simp only [Act.put, List.setIfInBounds_toArray, List.set_cons_zero, List.set_cons_succ]
      refine takeAt 5 (some 36) ?_ rfl rfl (by kernel_rfl) (by kernel_rfl) (by kernel_rfl) (fun _ _ _ h => h) (Or.inl ⟨by rfl, ?_⟩) hHeld ?_
      rotate_left
      · intro w hSw
        go_simp <;> with_reducible rfl
      try simp only [Act.put, List.setIfInBounds_toArray, List.set_cons_zero, List.set_cons_succ]
      refine takeAt 6 (some 37) ?_ rfl rfl (by kernel_rfl) (by kernel_rfl) (by kernel_rfl) (fun _ _ _ h => h) (Or.inl ⟨by rfl, ?_⟩) hHeld ?_
      rotate_left
      · intro w hSw
        go_simp <;> with_reducible rfl
      try simp only [Act.put, List.setIfInBounds_toArray, List.set_cons_zero, List.set_cons_succ]
      refine takeAt 7 (some 38) ?_ rfl rfl (by kernel_rfl) (by kernel_rfl) (by kernel_rfl) (fun _ _ _ h => h) (Or.inl ⟨by rfl, ?_⟩) hHeld ?_
      rotate_left
      · intro w hSw
        go_simp <;> with_reducible rfl
      try simp only [Act.put, List.setIfInBounds_toArray, List.set_cons_zero, List.set_cons_succ]
      refine takeAt 8 (some 39) ?_ rfl rfl (by kernel_rfl) (by kernel_rfl) (by kernel_rfl) (fun _ _ _ h => h) (Or.inl ⟨by rfl, ?_⟩) hHeld ?_
      rotate_left
      · intro w hSw
        go_simp <;> with_reducible rfl
      try simp only [Act.put, List.setIfInBounds_toArray, List.set_cons_zero, List.set_cons_succ]
      refine takeAt 9 (some 40) ?_ rfl rfl (by kernel_rfl) (by kernel_rfl) (by kernel_rfl) (fun _ _ _ h => h) (Or.inl ⟨by rfl, ?_⟩) hHeld ?_
      rotate_left
      · intro w hSw
        go_simp <;> with_reducible rfl
      try simp only [Act.put, List.setIfInBounds_toArray, List.set_cons_zero, List.set_cons_succ]
      refine takeAt 10 (some 41) ?_ rfl rfl (by kernel_rfl) (by kernel_rfl) (by kernel_rfl) (fun _ _ _ h => h) (Or.inl ⟨by rfl, ?_⟩) hHeld ?_
      rotate_left
      · intro w hSw
        go_simp <;> with_reducible rfl
      try simp only [Act.put, List.setIfInBounds_toArray, List.set_cons_zero, List.set_cons_succ]
      refine takeAt 11 (some 42) ?_ rfl rfl (by kernel_rfl) (by kernel_rfl) (by kernel_rfl) (fun _ _ _ h => h) (Or.inl ⟨by rfl, ?_⟩) hHeld ?_
      rotate_left
      · intro w hSw
        go_simp <;> with_reducible rfl
      try simp only [Act.put, List.setIfInBounds_toArray, List.set_cons_zero, List.set_cons_succ]
      refine wpAnyH_ready (rs := [12]) (by kernel_rfl) (by simp) ?_
      refine AllReadyH.cons rfl (fun K hK => ?_) AllReadyH.nil
      go_simp
      refine hK.out _ _ (HS0.out _ (kp_trans (kp_alloc _ _) (kp_drew _))) (fun hHeld => ?_)
      clear hK K
      try simp only [Act.put, List.setIfInBounds_toArray, List.set_cons_zero, List.set_cons_succ]
      refine wpAnyH_ready (rs := [13]) (by kernel_rfl) (by simp) ?_
      refine AllReadyH.cons rfl (fun K hK => ?_) AllReadyH.nil
      go_simp
      refine hK.out _ _ (HS0.out _ (kp_trans (kp_alloc _ _) (kp_drew _))) (fun hHeld => ?_)
      clear hK K
      try simp only [Act.put, List.setIfInBounds_toArray, List.set_cons_zero, List.set_cons_succ]
      refine wpAnyH_done (by kernel_rfl) ?_ _
      refine NoPanic.normal ?_
      go_wp2_with fail
      go_region
      go_wp2_with fail
      generalize ((wr.alloc (.cells #[str t, .int .i64 a] 94)).setCell ⟨pb, 6, none⟩ (.slice (some ⟨g, 0, none⟩) k cap)).drew.drew = W at HW5 ⊢
      have cb0 : W.cell? ⟨wr.heap.size, 0, none⟩ = some (str t) := by rw [cell_at HW5.out.2]; rfl
      clear c6a f6a c6 rs6 rs0 rs1 hHeld HS0
      have HW6 : Hid (Calls Tryz.prog 41 #[.pointer (some ⟨pb, 4, none⟩), str t] W.drew fun e w' => e = .returned (.tuple #[.int .i64 t.length, .nilIface]) ∧ Pws w0 pb v root G cs (l ++ t) qs w' ∧ w'.heap[wr.heap.size]? = some (.cells #[str t, .int .i64 a] 94 (0, 0))) :=
        (write_any (HW5.out.1.kp (kp_drew W)) t (by have := HST.out.1; omega)).mono fun e w' q => ⟨q.1, q.2.1, q.2.2 _ (by decide) (by decide) _ _ HW5.out.2⟩
      go_region_with (go_at_call 41; refine Calls.mono HW6.out ?_; rintro e w5 ⟨rfl, q5, b5⟩)
      have HP5 : Hid (Pws w0 pb v root G cs (l ++ t) qs w5 ∧ w5.heap[wr.heap.size]? = some (.cells #[str t, .int .i64 a] 94 (0, 0))) := ⟨q5, b5⟩
      have cb1 : w5.cell? ⟨wr.heap.size, 1, none⟩ = some (.int .i64 a) := by rw [cell_at b5]; rfl
      clear q5 b5 cb0 HW6
      by_cases ha : a = -1
      · subst ha
        go_wp2_with fail
        have hs : prF L m qs (l ++ t) = some X := by have := HST.out.2.1; simpa using this
        refine ⟨⟨m, l ++ t, qs, hs, HP5.out.1⟩, ?_⟩
        rw [HM.out]
        exact Nat.lt_succ_of_le (least_le ⟨l ++ t, qs, hs, HP5.out.1⟩)
      · have hda : (a == -1) = false := by simpa using ha
        have hst := HST.out.2.1
        rw [if_neg ha] at hst
        have hok : okP L a k = true := by
          cases hq : okP L a k with
          | true => rfl
          | false => rw [hq] at hst; cases hst
        rw [hok, if_pos rfl] at hst
        have HSt : Hid (prF L m (qs ++ pushP (nodeAt L a)) (l ++ t ++ sayP (nodeAt L a)) = some X) := hst
        clear hst
        unfold okP at hok
        simp only [Bool.and_eq_true, Bool.or_eq_true, Bool.not_eq_true', decide_eq_true_eq] at hok
        obtain ⟨⟨hhas, hinn⟩, hlen⟩ := hok
        obtain ⟨va, vc, rfl, _, vcc, _⟩ := id HQ.out.1
        obtain ⟨na, nb, no, kv, rfl, hna, rfl, hcs, hks⟩ := HQ.out.1.node hhas
        obtain ⟨d, hd⟩ : ∃ d, nodeAt L na = d := ⟨_, rfl⟩
        have hdm : d ∈ L := by
          rw [← hd]; unfold nodeAt
          rw [Int.toNat_natCast, List.getElem?_eq_getElem hna]
          exact List.getElem_mem hna
        rw [hd] at hcs hks hinn hlen
        have HSt2 : Hid (prF L m (qs ++ pushP d) (l ++ t ++ sayP d) = some X) := by have := HSt.out; rw [hd] at this; exact this
        have k5 : Kp w0 w5 := by obtain ⟨_, _, _, z⟩ := HP5.out.1; exact z.kp
        have HN7 : Hid (Calls Tryz.prog 42 #[.pointer (some ⟨pb, 0, none⟩), d.val kv] w5.drew fun e w' => e = .returned (.tuple #[]) ∧ Pws w0 pb (.slice (some ⟨nb, no, none⟩) L.length vc) root G cs (l ++ t ++ sayP d) (qs ++ pushP d) w') :=
          node_any (HP5.out.1.kp (kp_drew w5)) HQ.out.2.1 d (HQ.out.2.2.2.1 d hdm) hks (fun z => by
            rcases hinn with y | y
            · rw [z] at y; cases y
            · intro e; rw [e] at y; cases y) (by rw [HST.out.2.2]; omega) (by rw [List.length_append]; have := HST.out.1; omega)
        unfold Nq.val at HN7
        have n0 : w5.cell? ⟨nb, no + na * 11, none⟩ = some (.int .u8 d.op) := kp_cell k5 (hcs 0 _ rfl)
        have n1 := kp_cell k5 (hcs 1 _ rfl)
        have n2 := kp_cell k5 (hcs 2 _ rfl)
        have n3 := kp_cell k5 (hcs 3 _ rfl)
        have n4 := kp_cell k5 (hcs 4 _ rfl)
        have n5 := kp_cell k5 (hcs 5 _ rfl)
        have n6 := kp_cell k5 (hcs 6 _ rfl)
        have n7 := kp_cell k5 (hcs 7 _ rfl)
        have n8 := kp_cell k5 (hcs 8 _ rfl)
        have n9 := kp_cell k5 (hcs 9 _ rfl)
        have n10 := kp_cell k5 (hcs 10 _ rfl)
        obtain ⟨ka, kc, rfl, _, _, _⟩ := id hks
        have p0 : w5.cell? ⟨pb, 0, none⟩ = some (.slice (some ⟨nb, no, none⟩) L.length vc) := by
          obtain ⟨_, _, _, z⟩ := HP5.out.1
          exact z.pr.cells.1
        unfold maxLen at vcc
        clear hcs hks hinn hlen hhas hdm k5 hd
        go_wp2_with fail
        go_region_with (go_at_call 42; refine Calls.mono HN7.out ?_; rintro e w7 ⟨rfl, q7⟩)
        all_goals
          have HP7 : Hid _ := q7
          clear q7
          go_wp2_with fail
          refine ⟨⟨m, _, _, HSt2.out, HP7.out⟩, ?_⟩
          rw [HM.out]
          exact Nat.lt_succ_of_le (least_le ⟨_, _, HSt2.out, HP7.out⟩)
end
end Go.Proofs.YthloemacfdgjjaaGreatDoor
/- Print. -/
namespace Go.Proofs.YthloemacfdgjjaaGreatDoor
open Go.ChangeShapes Go.WideShapes Go.ChangeAt Go.RowKit
set_option linter.unusedVariables false
set_option linter.unusedSimpArgs false
section
variable {w : World} {v : Value} {root G : Int} {cs : Nat} {L : List Nq}
set_option maxHeartbeats 4000000 in
set_option maxRecDepth 100000 in
theorem pprint_any {K : Nat} (hv : Pt w v L) (hK : ∀ d ∈ L, d.kids.length ≤ K) (hM : K * L.length ≤ 10000000) (hLl : L.length ≤ 10000000) (g : Gl w) (hG : Sm G) (hL : ∀ d ∈ L, Nok d) (hs : soundF L root G = true) {X : List UInt8} {n : Nat} (hX : prF L n [(headT G cs, root)] [] = some X) (hne : X ≠ []) :
    Calls Tryz.prog 17 #[.agg #[v, .int .i64 root, .int .i64 G, .int .u8 cs]] w fun e w' => e = .returned (str X) ∧ Kp w w' := by
  have HS : Hid (∀ x, Kp w x → Calls Tryz.prog 12 #[.agg #[v, .int .i64 root, .int .i64 G, .int .u8 cs]] x fun e w' => e = .returned (.bool true) ∧ Kp x w') := fun x k => by
    have := sound_any (hv.kp k) root G cs hK hM hLl
    rw [hs] at this
    exact this
  have HP : Hid (∀ x pb, Kp w x → w.heap.size ≤ pb → Pr pb v root G cs (.pointer none) (.slice none 0 0) (.slice none 0 0) x → Calls Tryz.prog 26 #[.pointer (some ⟨pb, 0, none⟩)] x fun e w' => e = .returned (str X) ∧ Kp w w') := fun x pb k hb hp =>
    print_any ⟨_, _, _, k, hb, hp, .inl rfl, World.ownsRow_nil _ _ _ _, World.ownsRow_nil _ _ _ _⟩ hv g hG hL hX hne
  obtain ⟨va, vc, rfl, _, _, _⟩ := id hv
  clear hv hK hM hLl g hG hL hs hX hne
  go_enter Tryz.func17, Tryz.ntmps17
  go_wp2_with fail
  refine Calls.mono (HS.out _ (kp_alloc _ _)) ?_
  rintro e w1 ⟨rfl, q⟩
  have k1 : Kp w w1 := kp_trans (kp_alloc _ _) q
  have hb : PBox w.heap.size (.slice va L.length vc) root G cs w1 := (show PBox _ _ _ _ _ (w.alloc _) from alloc_new w _).kp q
  obtain ⟨c0, c1, c2, c3⟩ := hb.cells
  have HK : Hid (Kp w w1) := k1
  clear q k1 hb
  go_wp2_with fail
  refine Calls.mono (HP.out _ _ (kp_trans HK.out (kp_alloc _ _)) HK.out.size (alloc_new w1 _)) ?_
  rintro e w2 ⟨rfl, q⟩
  have HZ : Hid _ := q
  clear q
  go_wp2_with fail
  go_ret
  exact ⟨rfl, HZ.out⟩
end
end Go.Proofs.YthloemacfdgjjaaGreatDoor
/- The chapter's examples, read and written by the models. -/
namespace Go.Proofs.YthloemacfdgjjaaGreatDoor
open Go.ChangeShapes Go.WideShapes Go.ChangeAt Go.RowKit
set_option linter.unusedVariables false
set_option linter.unusedSimpArgs false
set_option maxRecDepth 100000
/-- What is told of a pattern that was read. -/
def see (R : Except (Nat × Nat) (Nat × RS)) : Except (Nat × Nat) (Nat × Nat × Nat × List Nd) :=
  match R with
  | .ok (i, r) => .ok (i, r.g, r.cs, r.nds)
  | .error x => .error x
def L1 : List Nd := [{ op := 2, c := 97 }, { op := 7, mn := 0, mx := -1, kids := [0] }]
def L2 : List Nd := [{ op := 2, c := 97 }, { op := 2, c := 98 }, { op := 8, n := 1, kids := [1] }, { op := 7, mn := 1, mx := -1, kids := [2] }, { op := 6, kids := [0, 3] }]
theorem kn1 : see (parF ⟨#[97, 42]⟩ ⟨#[]⟩) = .ok (1, 0, 0, L1) := by kernel_rfl
theorem kn2 : see (parF ⟨#[92, 118, 97, 124, 40, 98, 41, 43]⟩ ⟨#[]⟩) = .ok (4, 1, 0, L2) := by kernel_rfl
theorem kn3 : see (parF ⟨#[97, 92, 43, 92, 43]⟩ ⟨#[]⟩) = .error (32, 3) := by kernel_rfl
theorem ks1 : soundF (L1.map Nd.q) 1 0 = true := by kernel_rfl
theorem ks2 : soundF (L2.map Nd.q) 4 1 = true := by kernel_rfl
def T1 : List UInt8 := [48, 97, 58, 123, 48, 44, 45, 49, 125, 98, 54, 49]
def T2 : List UInt8 := [49, 97, 58, 40, 98, 54, 49, 124, 123, 49, 44, 45, 49, 125, 60, 49, 98, 54, 50, 62, 41]
theorem kp1 : prF (L1.map Nd.q) 20 [(headT 0 0, 1)] [] = some T1 := by kernel_rfl
theorem kp2 : prF (L2.map Nd.q) 40 [(headT 1 0, 4)] [] = some T2 := by kernel_rfl
end Go.Proofs.YthloemacfdgjjaaGreatDoor
/- The law's known. -/
namespace Go.Proofs.YthloemacfdgjjaaGreatDoor
open Go.ChangeShapes Go.WideShapes Go.ChangeAt Go.RowKit
set_option linter.unusedVariables false
set_option linter.unusedSimpArgs false
section
variable {w w1 : World}
/-- Parse, told by what is seen. -/
theorem parse_ok (s last : ByteArray) (g : Gl w) {i gs cs : Nat} {nds : List Nd} (h : see (parF s last) = .ok (i, gs, cs, nds)) :
    Calls Tryz.prog 9 #[.string s, .string last] w fun e w' => ∃ va vc, e = .returned (.tuple #[.agg #[.slice va nds.length vc, .int .i64 i, .int .i64 gs, .int .u8 cs], .int .u16 0, .int .i64 0]) ∧ Pt w' (.slice va nds.length vc) (nds.map Nd.q) ∧ Kp w w' := by
  obtain ⟨m, hm⟩ := g.max
  have := parse_any s last g.big hm
  cases hR : parF s last with
  | error x => rw [hR] at h; cases h
  | ok x =>
    obtain ⟨j, r⟩ := x
    rw [hR] at h this
    simp only [see, Except.ok.injEq, Prod.mk.injEq] at h
    obtain ⟨rfl, rfl, rfl, rfl⟩ := h
    refine this.mono ?_
    rintro e w' ⟨v, rfl, q1, q2⟩
    obtain ⟨va, vc, e, _⟩ := id q1
    rw [List.length_map] at e
    subst e
    exact ⟨va, vc, rfl, q1, q2⟩
theorem parse_no (s last : ByteArray) (g : Gl w) {n p : Nat} (h : see (parF s last) = .error (n, p)) :
    Calls Tryz.prog 9 #[.string s, .string last] w fun e w' => e = .returned (.tuple #[.agg #[.slice none 0 0, .int .i64 0, .int .i64 0, .int .u8 0], .int .u16 n, .int .i64 p]) ∧ Kp w w' := by
  obtain ⟨m, hm⟩ := g.max
  have := parse_any s last g.big hm
  cases hR : parF s last with
  | error x =>
    rw [hR] at h this
    simp only [see, Except.error.injEq] at h
    subst h
    exact this
  | ok x => rw [hR] at h; cases h
theorem nok1 : ∀ d ∈ L1.map Nd.q, Nok d := by
  intro d hd
  simp only [L1, List.map_cons, List.map_nil, List.mem_cons, List.not_mem_nil, or_false] at hd
  rcases hd with rfl | rfl <;> exact ⟨by decide, ⟨by decide, by decide, by decide, by decide⟩, by unfold Sm; decide, by unfold Sm; decide, by unfold Sm; decide⟩
theorem nok2 : ∀ d ∈ L2.map Nd.q, Nok d := by
  intro d hd
  simp only [L2, List.map_cons, List.map_nil, List.mem_cons, List.not_mem_nil, or_false] at hd
  rcases hd with rfl | rfl | rfl | rfl | rfl <;> exact ⟨by decide, ⟨by decide, by decide, by decide, by decide⟩, by unfold Sm; decide, by unfold Sm; decide, by unfold Sm; decide⟩
set_option maxHeartbeats 4000000 in
set_option maxRecDepth 100000 in
theorem known_any (g : Gl w) : Calls Tryz.prog 10 #[] w fun e w' => e = .returned (.bool true) ∧ Kp w w' := by
  have HG : Hid (Gl w) := g
  clear g
  go_enter Tryz.func10, Tryz.ntmps10
  go_wp2_with fail
  refine Calls.mono (parse_ok ⟨#[97, 42]⟩ ⟨#[]⟩ HG.out kn1) ?_
  rintro e w1 ⟨va1, vc1, rfl, q1, q2⟩
  have H1 : Hid (Pt w1 (.slice va1 2 vc1) (L1.map Nd.q) ∧ Kp w w1) := ⟨q1, q2⟩
  simp only [show L1.length = 2 from rfl]
  clear q1 q2
  go_wp2_with fail
  refine Calls.mono (parse_ok ⟨#[92, 118, 97, 124, 40, 98, 41, 43]⟩ ⟨#[]⟩ (HG.out.kp (kp_trans H1.out.2 (kp_alloc _ _))) kn2) ?_
  rintro e w2 ⟨va2, vc2, rfl, q1, q2⟩
  have H2 : Hid (Pt w2 (.slice va2 5 vc2) (L2.map Nd.q) ∧ Kp w w2 ∧ Kp w1 w2 ∧ PBox w1.heap.size (.slice va1 2 vc1) 1 0 0 w2) := ⟨q1, kp_trans (kp_trans H1.out.2 (kp_alloc _ _)) q2, kp_trans (kp_alloc _ _) q2, (show PBox _ _ _ _ _ (w1.alloc _) from alloc_new w1 _).kp q2⟩
  simp only [show L2.length = 5 from rfl]
  clear q1 q2
  go_wp2_with fail
  refine Calls.mono (parse_no ⟨#[97, 92, 43, 92, 43]⟩ ⟨#[]⟩ (HG.out.kp (kp_trans H2.out.2.1 (kp_alloc _ _))) kn3) ?_
  rintro e w3 ⟨rfl, q⟩
  have H3 : Hid (Kp w w3 ∧ Pt w3 (.slice va1 2 vc1) (L1.map Nd.q) ∧ Pt w3 (.slice va2 5 vc2) (L2.map Nd.q) ∧ PBox w1.heap.size (.slice va1 2 vc1) 1 0 0 w3 ∧ PBox w2.heap.size (.slice va2 5 vc2) 4 1 0 w3) :=
    ⟨kp_trans (kp_trans H2.out.2.1 (kp_alloc _ _)) q, (H1.out.1.kp H2.out.2.2.1).kp (kp_trans (kp_alloc _ _) q), H2.out.1.kp (kp_trans (kp_alloc _ _) q), H2.out.2.2.2.kp (kp_trans (kp_alloc _ _) q), (show PBox _ _ _ _ _ (w2.alloc _) from alloc_new w2 _).kp q⟩
  clear q
  have HA : Hid (∀ ob, PBox w1.heap.size (.slice va1 2 vc1) 1 0 0 (w3.alloc ob)) := fun ob => H3.out.2.2.2.1.kp (kp_alloc _ _)
  have y0 := fun ob => (HA.out ob).cells.1
  have y1 := fun ob => (HA.out ob).cells.2.1
  have y2 := fun ob => (HA.out ob).cells.2.2.1
  have y3 := fun ob => (HA.out ob).cells.2.2.2
  go_wp2_with fail
  refine Calls.mono (pprint_any (K := 2) (H3.out.2.1.kp (kp_alloc _ _)) (by decide) (by decide) (by decide) (HG.out.kp (kp_trans H3.out.1 (kp_alloc _ _))) (by unfold Sm; decide) nok1 ks1 kp1 (by decide)) ?_
  rintro e w4 ⟨rfl, q⟩
  have H4 : Hid (Kp w w4 ∧ Pt w4 (.slice va2 5 vc2) (L2.map Nd.q) ∧ PBox w2.heap.size (.slice va2 5 vc2) 4 1 0 w4) := ⟨kp_trans (kp_trans H3.out.1 (kp_alloc _ _)) q, H3.out.2.2.1.kp (kp_trans (kp_alloc _ _) q), H3.out.2.2.2.2.kp (kp_trans (kp_alloc _ _) q)⟩
  clear q y0 y1 y2 y3 HA
  obtain ⟨y0, y1, y2, y3⟩ := H4.out.2.2.cells
  unfold T1
  go_wp2_with fail
  refine Calls.mono (pprint_any (K := 2) H4.out.2.1 (by decide) (by decide) (by decide) (HG.out.kp H4.out.1) (by unfold Sm; decide) nok2 ks2 kp2 (by decide)) ?_
  rintro e w5 ⟨rfl, q⟩
  have H5 : Hid (Kp w w5) := kp_trans H4.out.1 q
  clear q y0 y1 y2 y3
  unfold T2
  go_wp2_with fail
  go_ret
  exact ⟨rfl, H5.out⟩
end
end Go.Proofs.YthloemacfdgjjaaGreatDoor
/- Bounds in braces: what is read of a byte and what stands in braces behind it. -/
namespace Go.Proofs.YthloemacfdgjjaaGreatDoor
open Go.ChangeShapes Go.WideShapes Go.ChangeAt Go.RowKit
set_option linter.unusedVariables false
set_option linter.unusedSimpArgs false
theorem byteAt_list (l : List UInt8) (k : Nat) : byteAt ⟨l.toArray⟩ k = ((l[k]?).map UInt8.toNat).getD 0 := rfl
theorem size_list (l : List UInt8) : (⟨l.toArray⟩ : ByteArray).size = l.length := by rw [Lib.size_eq]
section
variable (X : List UInt8)
theorem brace_next0 : nextF ⟨([97, 92, 123] ++ X).toArray⟩ ((⟨([97, 92, 123] ++ X).toArray⟩ : ByteArray).size + 1) 0 mdM 0 = .ok (⟨1, 97, 0⟩, 1, mdM, 0) := by
  rw [nextF]
  have ha : amo 97 mdM = false := by decide
  simp [tokOf, byteAt_list, size_list, ha]
theorem brace_next1 : nextF ⟨([97, 92, 123] ++ X).toArray⟩ ((⟨([97, 92, 123] ++ X).toArray⟩ : ByteArray).size + 1) 1 mdM 0 = .ok (⟨2, 123, 1⟩, 3, mdM, 0) := by
  rw [nextF]
  have ha : amo 123 mdM = false := by decide
  have hb : amo 123 mdV = true := by decide
  simp [tokOf, escTok, byteAt_list, size_list, ha, hb]
theorem next_end (s md : ByteArray) (cs : Nat) : nextF s (s.size + 1) s.size md cs = .ok (⟨0, 0, s.size⟩, s.size, md, cs) := by
  rw [nextF]
  simp [tokOf]
theorem brace_no (hX : X.length ≤ 200) (h : bndF ⟨([97, 92, 123] ++ X).toArray⟩ 3 = none) : see (parF ⟨([97, 92, 123] ++ X).toArray⟩ ⟨#[]⟩) = .error (32, 1) := by
  have hsz := size_list ([97, 92, 123] ++ X)
  have h0 := brace_next0 X
  have h1 := brace_next1 X
  generalize hs : (⟨([97, 92, 123] ++ X).toArray⟩ : ByteArray) = s at *
  obtain ⟨f, hf⟩ : ∃ f, s.size + 1 = f + 1 + 1 := ⟨s.size - 1, by rw [hsz]; simp⟩
  have hbr : ∀ P, (∀ r, P ⟨1, 97, 0⟩ true r = .ok (plF ⟨1, 97, 0⟩ r)) → brF P s (f + 1 + 1) rs0 [] = .error (32, 1) := fun P hP => by
    rw [brF]
    simp only [rs0, h0]
    rw [if_neg (by decide), if_neg (by decide)]
    simp only [List.isEmpty_nil, hP, plF, addN, List.length_nil, List.nil_append]
    rw [brF]
    simp only [h1]
    rw [if_neg (by decide), if_pos (by decide)]
    simp [manyF, opOf, repB, timesF, h]
  unfold parF patF
  rw [if_neg (by have e0 : (⟨#[]⟩ : ByteArray).size = 0 := rfl; rw [hsz, e0]; simp; omega), brsF, hf, brsL, hbr _ (fun r => by simp [pieceF])]
  rfl
theorem brace_ok (hX : X.length ≤ 200) {n : Nat} {mx : Int} {lz : Bool} (h : bndF ⟨([97, 92, 123] ++ X).toArray⟩ 3 = some (n, mx, lz, X.length + 3)) : see (parF ⟨([97, 92, 123] ++ X).toArray⟩ ⟨#[]⟩) = .ok (1, 0, 0, [{ op := 2, c := 97 }, { op := 7, mn := n, mx := mx, lz := lz, kids := [0] }]) := by
  have hsz := size_list ([97, 92, 123] ++ X)
  have h0 := brace_next0 X
  have h1 := brace_next1 X
  generalize hs : (⟨([97, 92, 123] ++ X).toArray⟩ : ByteArray) = s at *
  have hsz' : X.length + 3 = s.size := by rw [hsz]; simp
  rw [hsz'] at h
  have h2 := next_end s mdM 0
  obtain ⟨f, hf⟩ : ∃ f, s.size + 1 = f + 1 + 1 + 1 := ⟨s.size - 2, by rw [← hsz']; omega⟩
  have hbr : ∀ P, (∀ r, P ⟨1, 97, 0⟩ true r = .ok (plF ⟨1, 97, 0⟩ r)) → brF P s (f + 1 + 1 + 1) rs0 [] = .ok (1, ⟨0, 0, s.size⟩, { rs0 with k := s.size, nds := [{ op := 2, c := 97 }, { op := 7, mn := n, mx := mx, lz := lz, kids := [0] }] }) := fun P hP => by
    rw [brF]
    simp only [rs0, h0]
    rw [if_neg (by decide), if_neg (by decide)]
    simp only [List.isEmpty_nil, hP, plF, addN, List.length_nil, List.nil_append]
    rw [brF]
    simp only [h1]
    rw [if_neg (by decide), if_pos (by decide)]
    simp only [manyF, opOf, repB, timesF, h]
    simp
    rw [brF]
    simp only [h2]
    rw [if_pos (by rfl)]
    rfl
  unfold parF patF
  rw [if_neg (by have e0 : (⟨#[]⟩ : ByteArray).size = 0 := rfl; rw [hsz, e0]; simp; omega), brsF, hf, brsL, hbr _ (fun r => by simp [pieceF])]
  simp [joinF, see, rs0]
end
end Go.Proofs.YthloemacfdgjjaaGreatDoor
/- Numbers in braces. -/
namespace Go.Proofs.YthloemacfdgjjaaGreatDoor
open Go.ChangeShapes Go.WideShapes Go.ChangeAt Go.RowKit
set_option linter.unusedVariables false
set_option linter.unusedSimpArgs false
/-- A number at a text's head: it, and by how many digits. -/
def nL : List UInt8 → Nat → Nat → Option (Nat × Nat)
  | [], cnt, n => some (n, cnt)
  | b :: r, cnt, n => if digB b.toNat then (if 60 < 10 * n + (b.toNat - 48) ∨ 3 < cnt + 1 then none else nL r (cnt + 1) (10 * n + (b.toNat - 48))) else some (n, cnt)
theorem nL_app {c : UInt8} (hc : digB c.toNat = false) (r : List UInt8) : ∀ (x : List UInt8) (cnt n : Nat), nL (x ++ c :: r) cnt n = nL x cnt n := by
  intro x
  induction x with
  | nil => intro cnt n; simp [nL, hc]
  | cons b x ih =>
    intro cnt n
    rw [List.cons_append, nL, nL]
    split
    · split
      · rfl
      · exact ih _ _
    · rfl
theorem numG_list {s : ByteArray} {fr : Nat} : ∀ (f k n cnt : Nat), fr + cnt = k → s.size + 1 - k ≤ f → k ≤ s.size → numG s fr f k n = (nL (s.data.toList.drop k) cnt n).map (fun x => (x.1, fr + x.2)) := by
  intro f
  induction f with
  | zero => intro k n cnt _ h1 h2; omega
  | succ f ih =>
    intro k n cnt hc h1 h2
    have hsl : s.data.toList.length = s.size := (Lib.size_eq s).symm
    rw [numG]
    by_cases hk : k < s.size
    · rw [if_pos hk, List.drop_eq_getElem_cons (by rw [hsl]; exact hk), nL]
      have hb : byteAt s k = (s.data.toList[k]'(by rw [hsl]; exact hk)).toNat := by
        unfold byteAt; rw [List.getElem?_eq_getElem (by rw [hsl]; exact hk)]; rfl
      rw [← hb]
      split
      · rw [show k + 1 - fr = cnt + 1 by omega]
        split
        · rfl
        · exact ih (k + 1) _ (cnt + 1) (by omega) (by omega) (by omega)
      · simp [hc]
    · rw [if_neg hk, List.drop_eq_nil_of_le (by rw [hsl]; omega), nL]
      simp [hc]
theorem numF_list {l : List UInt8} {k : Nat} (hk : k ≤ l.length) : numF ⟨l.toArray⟩ k = (nL (l.drop k) 0 0).map (fun x => (x.1, k + x.2)) := by
  unfold numF
  exact numG_list _ k 0 0 (by omega) (by omega) (by rw [size_list]; exact hk)
def dR : Nat → Nat → List UInt8
  | 0, _ => []
  | f + 1, n => if n < 10 then [(48 + n).toUInt8] else dR f (n / 10) ++ dR f (n % 10)
def dG (n : Nat) : List UInt8 := dR 4 n
def dChk (n : Nat) : Bool := (match nL (dG n) 0 0 with | some (v, c) => decide (n ≤ 60) && v == n && c == (dG n).length | none => decide (60 < n)) && decide (1 ≤ (dG n).length ∧ (dG n).length ≤ 4) && (dG n).head? != some 45
theorem dChk_all : ∀ n : Fin 1200, dChk n.val = true := by decide +kernel
theorem dG_len {n : Nat} (h : n < 1200) : 1 ≤ (dG n).length ∧ (dG n).length ≤ 4 := by
  have := dChk_all ⟨n, h⟩
  simp only [dChk, Bool.and_eq_true, decide_eq_true_eq] at this
  exact this.1.2
theorem dG_head {n : Nat} (h : n < 1200) : (dG n).head? ≠ some 45 := by
  have := dChk_all ⟨n, h⟩
  simp only [dChk, Bool.and_eq_true, bne_iff_ne] at this
  exact this.2
theorem dG_num {n : Nat} (h : n < 1200) : nL (dG n) 0 0 = if n ≤ 60 then some (n, (dG n).length) else none := by
  have := dChk_all ⟨n, h⟩
  simp only [dChk, Bool.and_eq_true, decide_eq_true_eq] at this
  have h1 := this.1.1
  cases hq : nL (dG n) 0 0 with
  | none =>
    rw [hq] at h1
    simp only [decide_eq_true_eq] at h1
    rw [if_neg (by omega)]
  | some x =>
    obtain ⟨v, c⟩ := x
    rw [hq] at h1
    simp only [Bool.and_eq_true, decide_eq_true_eq, beq_iff_eq] at h1
    obtain ⟨⟨a, rfl⟩, rfl⟩ := h1
    rw [if_pos a]
/-- A number at a place, what is no digit behind it. -/
theorem num_at {l pre r : List UInt8} {c : UInt8} {n k : Nat} (hl : l = pre ++ (dG n ++ c :: r)) (hk : pre.length = k) (hn : n < 1200) (hc : digB c.toNat = false) : numF ⟨l.toArray⟩ k = if n ≤ 60 then some (n, k + (dG n).length) else none := by
  subst hl
  subst hk
  rw [numF_list (by simp), List.drop_left, nL_app hc, dG_num hn]
  split <;> rfl
theorem pfx_at {l pre r t : List UInt8} {k : Nat} (hl : l = pre ++ r) (hk : pre.length = k) : pfx ⟨l.toArray⟩ k ⟨t.toArray⟩ = Lib.hasPrefix r t := by
  subst hl
  subst hk
  show Lib.hasPrefix (List.drop pre.length (pre ++ r)) t = _
  rw [List.drop_left]
end Go.Proofs.YthloemacfdgjjaaGreatDoor
/- What ~ is read as. -/
namespace Go.Proofs.YthloemacfdgjjaaGreatDoor
open Go.ChangeShapes Go.WideShapes Go.ChangeAt Go.RowKit
set_option linter.unusedVariables false
set_option linter.unusedSimpArgs false
/-- The nodes of ~, and the root. -/
def tilN (l : List UInt8) : List Nd := if l.length = 0 then [{ op := 1 }] else if l.length = 1 then bytesN l else bytesN l ++ [{ op := 5, kids := List.range l.length }]
def tilR (l : List UInt8) : Nat := if l.length ≤ 1 then 0 else l.length
theorem again_til (l : List UInt8) : againF ⟨l.toArray⟩ { rs0 with k := 1 } = (tilR l, { rs0 with k := 1, nds := tilN l }) := by
  unfold againF
  rw [if_neg (by simp [rs0]), size_list]
  have e : ({ rs0 with k := 1 } : RS).nds.length = 0 := rfl
  rw [e]
  have e2 : (List.range l.length).map (0 + ·) = List.range l.length := by simp
  rw [e2]
  show joinF 5 (List.range l.length) { rs0 with k := 1, nds := [] ++ bytesN l } = _
  rw [List.nil_append]
  by_cases h0 : l.length = 0
  · have : l = [] := List.eq_nil_of_length_eq_zero h0
    subst this; rfl
  by_cases h1 : l.length = 1
  · have e3 : tilN l = bytesN l := by unfold tilN; rw [if_neg h0, if_pos h1]
    have e4 : tilR l = 0 := by unfold tilR; rw [if_pos (by omega)]
    rw [e3, e4, h1]; rfl
  obtain ⟨n, hn⟩ : ∃ n, l.length = n + 2 := ⟨l.length - 2, by omega⟩
  have e3 : tilN l = bytesN l ++ [{ op := 5, kids := List.range l.length }] := by unfold tilN; rw [if_neg h0, if_neg h1]
  have e4 : tilR l = l.length := by unfold tilR; rw [if_neg (by omega)]
  have e5 : List.range l.length = 0 :: 1 :: (List.range n).map (· + 2) := by
    rw [hn, List.range_succ_eq_map, List.range_succ_eq_map]; simp [Function.comp_def]
  have e6 : (bytesN l).length = l.length := by simp [bytesN]
  rw [e3, e4, e5]
  show addN { op := 5, kids := 0 :: 1 :: (List.range n).map (· + 2) } _ = _
  unfold addN
  simp only [e6]
theorem til_read {l : List UInt8} (hl : l.length ≤ 300) : see (parF ⟨#[126]⟩ ⟨l.toArray⟩) = .ok (tilR l, 0, 0, tilN l) := by
  have hn : nextF ⟨#[126]⟩ 2 0 mdM 0 = .ok (⟨2, 126, 0⟩, 1, mdM, 0) := by kernel_rfl
  have h2 : nextF ⟨#[126]⟩ 2 1 mdM 0 = .ok (⟨0, 0, 1⟩, 1, mdM, 0) := by kernel_rfl
  have hpc : ∀ G r, pieceF G ⟨#[126]⟩ ⟨l.toArray⟩ ⟨2, 126, 0⟩ true r = .ok (againF ⟨l.toArray⟩ r) := fun G r => by simp [pieceF, signF]
  have hbr : ∀ G, brF (pieceF G ⟨#[126]⟩ ⟨l.toArray⟩) ⟨#[126]⟩ 2 rs0 [] = .ok (tilR l, ⟨0, 0, 1⟩, { rs0 with k := 1, nds := tilN l }) := fun G => by
    rw [brF]
    have hn' : nextF ⟨#[126]⟩ ((⟨#[126]⟩ : ByteArray).size + 1) rs0.k rs0.md rs0.cs = .ok (⟨2, 126, 0⟩, 1, mdM, 0) := hn
    simp only [hn']
    rw [if_neg (by decide), if_neg (by decide)]
    simp only [List.isEmpty_nil, hpc]
    have ha : againF ⟨l.toArray⟩ { rs0 with k := 1, md := mdM, cs := 0 } = (tilR l, { rs0 with k := 1, nds := tilN l }) := again_til l
    rw [ha, brF]
    have h2' : nextF ⟨#[126]⟩ ((⟨#[126]⟩ : ByteArray).size + 1) 1 rs0.md rs0.cs = .ok (⟨0, 0, 1⟩, 1, mdM, 0) := h2
    simp only [h2']
    rw [if_pos (by rfl)]
    rfl
  have hlen : (tilN l).length ≤ 301 := by
    unfold tilN
    split
    · simp
    · split
      · simp [bytesN]; omega
      · simp [bytesN]; omega
  unfold parF patF
  have e0 : (⟨#[126]⟩ : ByteArray).size = 1 := rfl
  have e1 : (⟨l.toArray⟩ : ByteArray).size = l.length := size_list l
  rw [if_neg (by rw [e0, e1]; omega), brsF]
  show see (match brsL (fun r => brF (pieceF (groupF (brsF ⟨#[126]⟩ ⟨l.toArray⟩ 9)) ⟨#[126]⟩ ⟨l.toArray⟩) ⟨#[126]⟩ 2 r []) 2 rs0 [] with
    | .error e => .error e
    | .ok (i, t, r') => if t.kd ≠ 0 then .error (31, t.pl) else if 400 < r'.nds.length then .error (33, 0) else .ok (i, r')) = _
  rw [brsL, hbr]
  simp only [joinF, List.nil_append]
  rw [if_neg (by decide)]
  simp only
  rw [if_neg (by decide), if_neg (by show ¬ 400 < (tilN l).length; omega)]
  rfl
/-- Leaves that are asked for from the last on. -/
theorem tree_leaves {L : List Nq} {G : Int} : ∀ (k f : Nat) (asked : List Bool), k < f → k ≤ L.length → asked.length = L.length → (∀ i, i < k → ∃ c, L[i]? = some { op := 2, c := c }) → (∀ i, i < k → asked.getD i false = false) → treeF L G f ((List.range k).map fun (n : Nat) => (n : Int)) asked = true := by
  intro k
  induction k with
  | zero =>
    intro f asked hf _ _ _ _
    obtain ⟨f, rfl⟩ : ∃ f', f = f' + 1 := ⟨f - 1, by omega⟩
    simp [treeF]
  | succ k ih =>
    intro f asked hf hk hl hL hA
    obtain ⟨f, rfl⟩ : ∃ f', f = f' + 1 := ⟨f - 1, by omega⟩
    obtain ⟨c, hc⟩ := hL k (by omega)
    have hn : nodeAt L (k : Int) = { op := 2, c := c } := by unfold nodeAt; rw [Int.toNat_natCast, hc]; rfl
    have hh : hasB L (k : Int) = true := decide_eq_true ⟨by omega, by omega⟩
    rw [treeF, List.range_succ, List.map_append]
    simp only [List.map_cons, List.map_nil, List.getLast?_concat, List.dropLast_concat, hn, hh, Int.toNat_natCast, hA k (by omega)]
    rw [if_pos (by simp [fitB, leafB]), List.append_nil]
    refine ih f (asked.set k true) (by omega) (by omega) (by simp [hl]) (fun i hi => hL i (by omega)) (fun i hi => ?_)
    have := hA i (by omega)
    simp only [List.getD_eq_getElem?_getD, List.getElem?_set_ne (by omega : k ≠ i)] at this ⊢
    exact this
end Go.Proofs.YthloemacfdgjjaaGreatDoor
/- PatLast: the walk. -/
namespace Go.Proofs.YthloemacfdgjjaaGreatDoor
open Go.ChangeShapes Go.WideShapes Go.ChangeAt Go.RowKit
set_option linter.unusedVariables false
set_option linter.unusedSimpArgs false
section
variable {w w1 : World}
theorem til_len (l : List UInt8) : (tilN l).length = if l.length ≤ 1 then 1 else l.length + 1 := by
  unfold tilN
  by_cases h0 : l.length = 0
  · rw [if_pos h0, if_pos (by omega)]; rfl
  by_cases h1 : l.length = 1
  · rw [if_neg h0, if_pos h1, if_pos (by omega)]; simp [bytesN, h1]
  · rw [if_neg h0, if_neg h1, if_neg (by omega)]; simp [bytesN]
theorem til_byte {l : List UInt8} {i : Nat} (hi : i < l.length) : (tilN l)[i]? = some { op := 2, c := (l[i]).toNat } := by
  have hb : (bytesN l)[i]? = some { op := 2, c := (l[i]).toNat } := by simp [bytesN, hi]
  unfold tilN
  rw [if_neg (by omega)]
  split
  · exact hb
  · rw [List.getElem?_append_left (by simp [bytesN]; exact hi)]; exact hb
theorem til_root {l : List UInt8} (hl : 2 ≤ l.length) : (tilN l)[l.length]? = some { op := 5, kids := List.range l.length } := by
  unfold tilN
  rw [if_neg (by omega), if_neg (by omega), List.getElem?_append_right (by simp [bytesN])]
  simp [bytesN]
theorem til_op (l : List UInt8) : ∀ d ∈ (tilN l).map Nd.q, (d.op = 1 ∨ d.op = 2 ∨ d.op = 5) ∧ d.kids.length ≤ l.length := by
  intro d hd
  unfold tilN at hd
  split at hd
  · simp at hd; subst hd; exact ⟨.inl rfl, Nat.zero_le _⟩
  · have hb : ∀ d ∈ (bytesN l).map Nd.q, (d.op = 1 ∨ d.op = 2 ∨ d.op = 5) ∧ d.kids.length ≤ l.length := by
      intro d hd
      simp only [bytesN, List.map_map, List.mem_map, Function.comp] at hd
      obtain ⟨b, _, rfl⟩ := hd
      exact ⟨.inr (.inl rfl), Nat.zero_le _⟩
    split at hd
    · exact hb d hd
    · rw [List.map_append, List.mem_append] at hd
      rcases hd with hd | hd
      · exact hb d hd
      · simp only [List.map_cons, List.map_nil, List.mem_singleton] at hd
        subst hd
        exact ⟨.inr (.inr rfl), by simp [Nd.q]⟩
theorem til_sound {l : List UInt8} (hl : l.length ≤ 300) : soundF ((tilN l).map Nd.q) (tilR l) 0 = true := by
  unfold soundF
  rw [decide_eq_true (by omega), Bool.true_and]
  have hlen := til_len l
  have hleaf : ∀ i, i < l.length → ∃ c, ((tilN l).map Nd.q)[i]? = some { op := 2, c := c } := fun i hi => ⟨(l[i]).toNat, by rw [List.getElem?_map, til_byte hi]; rfl⟩
  have hrep : ∀ (n i : Nat), (List.replicate n false).getD i false = false := fun n i => by
    simp only [List.getD_eq_getElem?_getD]
    cases h : (List.replicate n false)[i]? with
    | none => rfl
    | some b => have := List.mem_of_getElem? h; simp at this; exact this.2
  by_cases h0 : l.length = 0
  · have : l = [] := List.eq_nil_of_length_eq_zero h0
    subst this; rfl
  by_cases h1 : l.length = 1
  · have e4 : tilR l = 0 := by unfold tilR; rw [if_pos (by omega)]
    rw [e4]
    exact tree_leaves 1 _ _ (by rw [List.length_map, hlen, if_pos (by omega)]; omega) (by rw [List.length_map, hlen, if_pos (by omega)]; omega) (by simp) (fun i hi => hleaf i (by omega)) (fun i _ => hrep _ i)
  have e4 : tilR l = l.length := by unfold tilR; rw [if_neg (by omega)]
  rw [if_neg (by omega)] at hlen
  have hroot : nodeAt ((tilN l).map Nd.q) (l.length : Int) = { op := 5, kids := (List.range l.length).map fun (n : Nat) => (n : Int) } := by
    unfold nodeAt
    rw [Int.toNat_natCast, List.getElem?_map, til_root (by omega)]; rfl
  have hh : hasB ((tilN l).map Nd.q) (l.length : Int) = true := decide_eq_true ⟨by omega, by rw [List.length_map, hlen]; omega⟩
  rw [e4, treeF]
  simp only [List.getLast?_singleton, List.dropLast_singleton, hroot, hh, hrep, Int.toNat_natCast, List.nil_append]
  rw [if_pos (by simp [fitB, leafB]; omega)]
  refine tree_leaves l.length _ _ (by rw [List.length_map, hlen]; omega) (by rw [List.length_map, hlen]; omega) (by simp) hleaf (fun i hi => ?_)
  simp only [List.getD_eq_getElem?_getD, List.getElem?_set_ne (by omega : l.length ≠ i)]
  have := hrep ((tilN l).map Nd.q).length i
  simp only [List.getD_eq_getElem?_getD] at this
  exact this
set_option maxHeartbeats 4000000 in
set_option maxRecDepth 100000 in
theorem last_law (last : ByteArray) (g : Gl w) : Calls Tryz.prog 5 #[.string last] w fun e w' => e = .returned (.bool true) ∧ Kp w w' := by
  obtain ⟨l, rfl⟩ : ∃ l : List UInt8, last = ⟨l.toArray⟩ := ⟨last.data.toList, by cases last; simp⟩
  have HG : Hid (Gl w) := g
  clear g
  obtain ⟨n, hn⟩ : ∃ n, l.length = n := ⟨_, rfl⟩
  have hsz : (⟨l.toArray⟩ : ByteArray).size = n := by rw [size_list]; exact hn
  have HN : Hid (l.length = n) := hn
  clear hn
  by_cases hbig : 300 < n
  · have d1 : decide ((300 : Int) < (n : Int)) = true := decide_eq_true (by omega)
    go_enter Tryz.func5, Tryz.ntmps5
    go_wp2_with fail
    refine Calls.mono (known_any HG.out) ?_
    rintro e w1 ⟨rfl, q⟩
    have H1 : Hid (Kp w w1) := q
    clear q
    go_wp2_with fail
    go_ret
    exact ⟨rfl, H1.out⟩
  have d1 : decide ((300 : Int) < (n : Int)) = false := decide_eq_false (by omega)
  have d2 : decide ((399 : Int) < (n : Int)) = false := decide_eq_false (by omega)
  go_enter Tryz.func5, Tryz.ntmps5
  go_wp2_with fail
  refine Calls.mono (known_any HG.out) ?_
  rintro e w1 ⟨rfl, q⟩
  have H1 : Hid (Kp w w1) := q
  clear q
  go_wp2_with fail
  refine Calls.mono (parse_ok ⟨#[126]⟩ ⟨l.toArray⟩ (HG.out.kp H1.out) (til_read (by rw [HN.out]; omega))) ?_
  rintro e w2 ⟨va, vc, rfl, q1, q2⟩
  obtain ⟨N, hN⟩ : ∃ N, (tilN l).length = N := ⟨_, rfl⟩
  obtain ⟨R, hR⟩ : ∃ R, tilR l = R := ⟨_, rfl⟩
  rw [hN] at q1 ⊢
  rw [hR]
  have H2 : Hid (Pt w2 (.slice va N vc) ((tilN l).map Nd.q) ∧ Kp w w2 ∧ (tilN l).length = N ∧ tilR l = R ∧ N ≤ 301) := ⟨q1, kp_trans H1.out q2, hN, hR, by rw [← hN, til_len, HN.out]; split <;> omega⟩
  have hN3 : N ≤ 301 := H2.out.2.2.2.2
  clear q1 q2 hN hR
  go_wp2_with fail
  obtain ⟨wa, hwa⟩ : ∃ wa, w2.alloc (.cells #[.slice va N vc, .int .i64 R, .int .i64 0, .int .u8 0] 24) = wa := ⟨_, rfl⟩
  have HA : Hid (PBox w2.heap.size (.slice va N vc) R 0 0 wa ∧ Pt wa (.slice va N vc) ((tilN l).map Nd.q) ∧ Kp w wa) := by
    rw [← hwa]
    exact ⟨alloc_new w2 _, H2.out.1.kp (kp_alloc _ _), kp_trans H2.out.2.1 (kp_alloc _ _)⟩
  rw [hwa]
  clear hwa
  go_loopw [6] (fun v6 wr => ∃ i : Nat, i ≤ N ∧ v6 = .int .i64 i ∧ Kp wa wr) (fun v6 _ => N - (intOf v6).toNat)
  case atStart => exact ⟨0, Nat.zero_le _, rfl, Below.refl _ _⟩
  case round =>
    obtain ⟨i, hi, rfl, hK⟩ := hrel
    have HK : Hid (Kp wa wr) := hK
    obtain ⟨y0, y1, y2, y3⟩ := (HA.out.1.kp hK).cells
    clear hK
    by_cases hlt : i < N
    · have dl : decide ((i : Int) < (N : Int)) = true := decide_eq_true (by omega)
      obtain ⟨a', cap', ea, _, vcc, hns⟩ := HA.out.2.1.kp HK.out
      injection ea with ea e2 e3
      subst ea
      clear e2 e3 vcc
      have hx : ((tilN l).map Nd.q)[i]? = some (((tilN l).map Nd.q)[i]'(by rw [List.length_map, H2.out.2.2.1]; exact hlt)) := List.getElem?_eq_getElem _
      obtain ⟨d, hd⟩ : ∃ d, ((tilN l).map Nd.q)[i]'(by rw [List.length_map, H2.out.2.2.1]; exact hlt) = d := ⟨_, rfl⟩
      rw [hd] at hx
      have hop := (til_op l d (List.mem_of_getElem? hx)).1
      obtain ⟨b, o, kv, rfl, hcs, hks⟩ := hns i d hx
      obtain ⟨ka, kc, rfl, _, _, _⟩ := id hks
      obtain ⟨op, hop2⟩ : ∃ op, d.op = op := ⟨_, rfl⟩
      have n0 : wr.cell? ⟨b, o + i * 11, none⟩ = some (.int .u8 op) := by rw [← hop2]; exact hcs 0 _ rfl
      rw [hop2] at hop
      have n1 := hcs 1 _ rfl
      have n2 := hcs 2 _ rfl
      have n3 := hcs 3 _ rfl
      have n4 := hcs 4 _ rfl
      have n5 := hcs 5 _ rfl
      have n6 := hcs 6 _ rfl
      have n7 := hcs 7 _ rfl
      have n8 := hcs 8 _ rfl
      have n9 := hcs 9 _ rfl
      have n10 := hcs 10 _ rfl
      clear hcs hks hns hx hd y1 y2 y3 hop2
      rcases hop with rfl | rfl | rfl
      all_goals
        go_wp2_with fail
        go_roundw
        case rel => exact ⟨i + 1, by omega, by go_num, kp_trans HK.out (kp_alloc _ _)⟩
        case measure => simp [intOf]; omega
    · obtain rfl : i = N := by omega
      have dl : decide ((i : Int) < (i : Int)) = false := by simp
      go_wp2_with fail
      refine Calls.mono (sound_any (K := 300) (HA.out.2.1.kp HK.out) (R : Int) 0 0 (fun d hd => Nat.le_trans (til_op l d hd).2 (by rw [HN.out]; omega)) (by rw [List.length_map, H2.out.2.2.1]; omega) (by rw [List.length_map, H2.out.2.2.1]; omega)) ?_
      rintro e w3 ⟨rfl, q⟩
      have hS : soundF ((tilN l).map Nd.q) (R : Int) 0 = true := by rw [← H2.out.2.2.2.1]; exact til_sound (by rw [HN.out]; omega)
      rw [hS]
      have H3 : Hid (Kp wa w3) := kp_trans HK.out q
      obtain ⟨z0, z1, z2, z3⟩ := (HA.out.1.kp H3.out).cells
      clear q hS y0 y1 y2 y3 z2 z3
      by_cases hone : 1 < n
      · have d3 : decide ((1 : Int) < (n : Int)) = true := decide_eq_true (by omega)
        have hR : n = R := by rw [← H2.out.2.2.2.1, ← HN.out]; unfold tilR; rw [if_neg (by rw [HN.out]; omega)]
        subst hR
        have hi2 : i = n + 1 := by rw [← H2.out.2.2.1, til_len, HN.out, if_neg (by omega)]
        have dn : decide ((n : Int) < (i : Int)) = true := decide_eq_true (by omega)
        obtain ⟨a', cap', ea, _, vcc, hns⟩ := HA.out.2.1.kp H3.out
        injection ea with ea e2 e3
        subst ea
        clear e2 e3 vcc
        obtain ⟨b, o, kv, rfl, hcs, hks⟩ := hns n _ (by rw [List.getElem?_map, ← HN.out, til_root (by rw [HN.out]; omega)]; rfl)
        obtain ⟨ka, kc, rfl, k1, k2, _⟩ := id hks
        have HKs : Hid (Ks w3 (.slice ka n kc) ((List.range l.length).map fun (k : Nat) => (k : Int))) := by
          have e4 : (Nd.q { op := 5, kids := List.range l.length }).kids.length = n := by simp [Nd.q, HN.out]
          rw [e4] at hks
          exact hks
        have n10 := hcs 10 _ rfl
        have e4 : (Nd.q { op := 5, kids := List.range l.length }).kids.length = n := by simp [Nd.q, HN.out]
        rw [e4] at n10 k1
        clear hcs hks hns e4
        go_wp2_with fail
        clear HK z0 z1 n10 k1 k2
        go_loopw [8, 10] (fun v8 v10 wr => ∃ j : Nat, j ≤ n ∧ v10 = .int .i64 j ∧ v8 = str (l.take j) ∧ Kp w3 wr) (fun _ v10 _ => n - (intOf v10).toNat)
        case atStart => exact ⟨0, Nat.zero_le _, rfl, rfl, Below.refl _ _⟩
        case round =>
          obtain ⟨j, hj, rfl, rfl, hK⟩ := hrel
          have HK : Hid (Kp w3 wr) := hK
          clear hK
          by_cases hlt : j < n
          · have dl2 : decide ((j : Int) < (n : Int)) = true := decide_eq_true (by omega)
            have dl3 : decide ((j : Int) < (i : Int)) = true := decide_eq_true (by omega)
            obtain ⟨y0, _, _, _⟩ := (HA.out.1.kp (kp_trans H3.out HK.out)).cells
            obtain ⟨kb, ko, k, rfl, hk, hc⟩ := (HKs.out.kp HK.out).get hlt
            have hkj : k = (j : Int) := by
              rw [List.getElem?_map, List.getElem?_range (by rw [HN.out]; exact hlt)] at hk
              simpa using hk.symm
            subst hkj
            have hjl : j < l.length := by rw [HN.out]; exact hlt
            obtain ⟨a', cap', ea, _, _, hns⟩ := HA.out.2.1.kp (kp_trans H3.out HK.out)
            injection ea with ea e2 e3
            obtain ⟨b', o', kv, eb, hcs, hku⟩ := hns j _ (by rw [List.getElem?_map, til_byte hjl]; rfl)
            rw [eb] at ea
            injection ea with ea
            injection ea with eb1 eb2
            subst eb1 eb2
            have n1 := hcs 1 _ rfl
            obtain ⟨cb, hcb⟩ : ∃ c, l[j] = c := ⟨_, rfl⟩
            rw [hcb] at n1
            obtain ⟨cx, hcx⟩ : ∃ cx : Int, (cb.toNat : Int) = cx := ⟨_, rfl⟩
            have n1' : wr.cell? ⟨b, o + j * 11 + 1, none⟩ = some (.int .u8 cx) := by rw [← hcx]; exact n1
            have hcv : (convert 40 9 (.slice (some ⟨wr.heap.size, 0, none⟩) 1 1)).run Tryz.prog (wr.alloc (.cells #[.int .u8 cx] 5)).drew = .ok (str [cb]) (wr.alloc (.cells #[.int .u8 cx] 5)).drew :=
              run_convert_bytes_back (P := Tryz.prog) _ 40 9 5 ⟨wr.heap.size, 0, none⟩ 1 [cb] Tryz.underlying40 Tryz.underlying5 Tryz.underlying9 (fun j hj => by
                have hj0 : j = 0 := by simpa using hj
                subst hj0
                rw [Addr.add_lit]
                show (wr.alloc (.cells #[.int .u8 cx] 5)).cell? _ = _
                rw [cell_at (alloc_new wr _)]
                show some (Value.int .u8 cx) = some (Value.int .u8 (cb.toNat : Int))
                rw [hcx])
            obtain ⟨x, hxx⟩ : ∃ x, l.take j = x := ⟨_, rfl⟩
            have hcat := cat_run (show x ++ [cb] = l.take (j + 1) from by rw [← hxx, ← hcb, List.take_succ_eq_append_getElem hjl]) (by rw [List.length_take]; omega)
            obtain ⟨y, hyy⟩ : ∃ y, l.take (j + 1) = y := ⟨_, rfl⟩
            rw [hyy] at hcat
            rw [hxx]
            have HY : Hid (l.take (j + 1) = y) := hyy
            clear hk eb e2 e3 hns hcs hku n1 hcb hcx hxx hyy
            clear hjl
            go_wp2_with fail
            go_region
            go_wp2_with fail
            go_roundw
            case rel => exact ⟨j + 1, by omega, by go_num, by rw [HY.out], kp_trans HK.out (kp_trans (kp_alloc _ _) (kp_drew _))⟩
            case measure => simp [intOf]; omega
          · obtain rfl : j = n := by omega
            have dl2 : decide ((j : Int) < (j : Int)) = false := by simp
            have ht : l.take j = l := List.take_of_length_le (by rw [HN.out]; omega)
            rw [ht]
            clear ht
            go_wp2_with fail
            go_ret
            exact ⟨by simp, kp_trans (kp_trans HA.out.2.2 H3.out) HK.out⟩
      · have d3 : decide ((1 : Int) < (n : Int)) = false := decide_eq_false (by omega)
        have hR : R = 0 := by rw [← H2.out.2.2.2.1]; unfold tilR; rw [if_pos (by rw [HN.out]; omega)]
        subst hR
        have hi2 : i = 1 := by rw [← H2.out.2.2.1, til_len, HN.out, if_pos (by omega)]
        subst hi2
        have hk := kp_trans HA.out.2.2 H3.out
        have HW : Hid (Kp w w3) := hk
        clear hk
        obtain ⟨a', cap', ea, _, vcc, hns⟩ := HA.out.2.1.kp H3.out
        injection ea with ea e2 e3
        subst ea
        clear e2 e3 vcc
        by_cases hz : n = 0
        · subst hz
          have hl : l = [] := List.eq_nil_of_length_eq_zero HN.out
          subst hl
          obtain ⟨b, o, kv, rfl, hcs, _⟩ := hns 0 _ rfl
          have n0 : w3.cell? ⟨b, o, none⟩ = some (.int .u8 1) := hcs 0 _ rfl
          clear hcs hns
          go_wp2_with fail
          go_quiet (fail)
          go_wp2_with fail
          go_ret
          exact ⟨rfl, kp_trans HW.out (kp_drewN _ _)⟩
        · obtain ⟨c, hl⟩ : ∃ c, l = [c] := List.length_eq_one_iff.1 (by rw [HN.out]; omega)
          subst hl
          obtain rfl : n = 1 := by rw [← HN.out]; rfl
          obtain ⟨b, o, kv, rfl, hcs, _⟩ := hns 0 _ rfl
          have n0 : w3.cell? ⟨b, o, none⟩ = some (.int .u8 2) := hcs 0 _ rfl
          have n1 : w3.cell? ⟨b, o + 1, none⟩ = some (.int .u8 c.toNat) := hcs 1 _ rfl
          clear hcs hns
          go_wp2_with fail
          go_quiet (fail)
          go_wp2_with fail
          go_ret
          exact ⟨by have : ((⟨#[c]⟩ : ByteArray)[0]).toNat = c.toNat := rfl
                    simp [this], kp_trans HW.out (kp_drewN _ _)⟩
end
end Go.Proofs.YthloemacfdgjjaaGreatDoor
