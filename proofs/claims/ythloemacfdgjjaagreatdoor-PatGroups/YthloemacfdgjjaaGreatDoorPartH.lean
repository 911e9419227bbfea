/- Texts that the proof of the law stands on: Prn2, Prn3, Prn4, Kn0, Kn1, PGroups. -/
import Derived.Test.YthloemacfdgjjaaGreatDoorPartG
import Derived.Test.YthloemacfdgjjaaGreatDoorPartF
/- The printer's node. -/
namespace Go.Proofs.YthloemacfdgjjaaGreatDoor
open Go.ChangeShapes Go.WideShapes Go.ChangeAt Go.RowKit
set_option linter.unusedVariables false
set_option linter.unusedSimpArgs false
def pushP (d : Nq) : List Part :=
  if d.op = 5 then listP [40] [] [41] d.kids else if d.op = 6 then listP [40] [124] [41] d.kids else if d.op = 7 then listP (timesT d) [] [] d.kids else if d.op = 8 then listP ([60] ++ Lib.itoa d.n) [] [62] d.kids else []
def inner (op : Nat) : Bool := op == 5 || op == 6 || op == 7 || op == 8
def sayP (d : Nq) : List UInt8 := if inner d.op then [] else leafT d
/-- Numbers of a node that memory can hold. -/
structure Nok (d : Nq) : Prop where
  c : d.c < 256
  set : d.set.ok
  mn : Sm d.mn
  mx : Sm d.mx
  n : Sm d.n
theorem leafT_len {d : Nq} (h : Nok d) : (leafT d).length ≤ 200 := by
  unfold leafT
  have h1 := hexT_len d.c 2 (by omega)
  have h2 := itoa_len h.n
  have h3 : (setT d.set).length ≤ 140 := by
    have l1 := hexT_len d.set.a 16 (by omega)
    have l2 := hexT_len d.set.b 16 (by omega)
    have l3 := hexT_len d.set.c 16 (by omega)
    have l4 := hexT_len d.set.d 16 (by omega)
    unfold setT
    simp only [List.length_append, List.length_cons, List.length_nil]; omega
  repeat' split
  all_goals first | omega | (simp only [List.length_append, List.length_cons, List.length_nil]; omega)
section
variable {w0 w w1 : World} {pb : Nat} {v kv : Value} {root G : Int} {cs : Nat} {l : List UInt8} {ps : List Part}
theorem NqBox.nk {n : Nat} {d : Nq} {kv : Value} (h : NqBox n d kv w) (k : Nk 38 w w1) : NqBox n d kv w1 := k n _ h
set_option maxHeartbeats 4000000 in
set_option maxRecDepth 100000 in
theorem node_any (h : Pws w0 pb v root G cs l ps w) (g : Gl w0) (d : Nq) (hd : Nok d) (hk : Ks w0 kv d.kids) (hi : inner d.op = true → d.kids ≠ []) (hlen : ps.length + d.kids.length ≤ 900000) (hl : l.length ≤ 900000) :
    Calls Tryz.prog 42 #[.pointer (some ⟨pb, 0, none⟩), d.val kv] w fun e w' => e = .returned (.tuple #[]) ∧ Pws w0 pb v root G cs (l ++ sayP d) (ps ++ pushP d) w' := by
  have hkp : Kp w0 w := by obtain ⟨_, _, _, z⟩ := h; exact z.kp
  have HQ : Hid (Nok d ∧ Ks w0 kv d.kids ∧ (inner d.op = true → d.kids ≠ []) ∧ ps.length + d.kids.length ≤ 900000 ∧ Gl w ∧ Kp w0 w ∧ l.length ≤ 900000) := ⟨hd, hk, hi, hlen, g.kp hkp, hkp, hl⟩
  have HP : Hid (Pws w0 pb v root G cs l ps w) := h
  have HA : Hid (∀ ob, Kp w (w.alloc ob) ∧ Pws w0 pb v root G cs l ps (w.alloc ob)) := fun ob => ⟨kp_alloc w ob, h.kp (kp_alloc w ob)⟩
  have HD : Hid (∀ ob, Kp w (w.alloc ob).drew ∧ Pws w0 pb v root G cs l ps (w.alloc ob).drew) := fun ob => ⟨kp_trans (kp_alloc w ob) (kp_drew _), h.kp (kp_trans (kp_alloc w ob) (kp_drew _))⟩
  obtain ⟨an, han⟩ : ∃ a, [60] ++ Lib.itoa d.n = a := ⟨_, rfl⟩
  have hAn := cat_run han (by rw [← han, List.length_append]; have := itoa_len hd.n; simp; omega)
  obtain ⟨op, hop⟩ : ∃ op, d.op = op := ⟨_, rfl⟩
  have HT : Hid (∀ x, Gl x → Calls Tryz.prog 58 #[d.val kv] x fun e w' => e = .returned (str (timesT d)) ∧ Kp x w') := fun x hx => timesText_any d kv hd.mn hd.mx hx
  have HL : Hid (∀ x, Gl x → Calls Tryz.prog 59 #[d.val kv] x fun e w' => e = .returned (str (leafT d)) ∧ Kp x w') := fun x hx => leafText_any d kv hd.n hd.set hd.c hx
  have HO : Hid (d.op = op ∧ [60] ++ Lib.itoa d.n = an) := ⟨hop, han⟩
  obtain ⟨sy, hsy⟩ : ∃ s, sayP d = s := ⟨_, rfl⟩
  obtain ⟨pu, hpu⟩ : ∃ s, pushP d = s := ⟨_, rfl⟩
  rw [hsy, hpu]
  have HS : Hid (sayP d = sy ∧ pushP d = pu) := ⟨hsy, hpu⟩
  have HB : Hid (NqBox w.heap.size d kv (w.alloc (.cells #[.int .u8 op, .int .u8 d.c, .int .u64 d.set.a, .int .u64 d.set.b, .int .u64 d.set.c, .int .u64 d.set.d, .int .i64 d.mn, .int .i64 d.mx, .bool d.lz, .int .i64 d.n, kv] 38)).drew) := by
    unfold NqBox Nq.cells
    rw [hop]
    exact alloc_new w _
  have rl0 : ∀ w', NqBox w.heap.size d kv w' → w'.cell? ⟨w.heap.size, 0, none⟩ = some (.int .u8 op) := fun _ h => by rw [← hop]; exact h.cell rfl
  have rl1 : ∀ w', NqBox w.heap.size d kv w' → w'.cell? ⟨w.heap.size, 1, none⟩ = some (.int .u8 d.c) := fun _ h => h.cell rfl
  have rl2 : ∀ w', NqBox w.heap.size d kv w' → w'.cell? ⟨w.heap.size, 2, none⟩ = some (.int .u64 d.set.a) := fun _ h => h.cell rfl
  have rl3 : ∀ w', NqBox w.heap.size d kv w' → w'.cell? ⟨w.heap.size, 3, none⟩ = some (.int .u64 d.set.b) := fun _ h => h.cell rfl
  have rl4 : ∀ w', NqBox w.heap.size d kv w' → w'.cell? ⟨w.heap.size, 4, none⟩ = some (.int .u64 d.set.c) := fun _ h => h.cell rfl
  have rl5 : ∀ w', NqBox w.heap.size d kv w' → w'.cell? ⟨w.heap.size, 5, none⟩ = some (.int .u64 d.set.d) := fun _ h => h.cell rfl
  have rl6 : ∀ w', NqBox w.heap.size d kv w' → w'.cell? ⟨w.heap.size, 6, none⟩ = some (.int .i64 d.mn) := fun _ h => h.cell rfl
  have rl7 : ∀ w', NqBox w.heap.size d kv w' → w'.cell? ⟨w.heap.size, 7, none⟩ = some (.int .i64 d.mx) := fun _ h => h.cell rfl
  have rl8 : ∀ w', NqBox w.heap.size d kv w' → w'.cell? ⟨w.heap.size, 8, none⟩ = some (.bool d.lz) := fun _ h => h.cell rfl
  have rl9 : ∀ w', NqBox w.heap.size d kv w' → w'.cell? ⟨w.heap.size, 9, none⟩ = some (.int .i64 d.n) := fun _ h => h.cell rfl
  have rl10 : ∀ w', NqBox w.heap.size d kv w' → w'.cell? ⟨w.heap.size, 10, none⟩ = some (kv) := fun _ h => h.cell rfl
  unfold Nq.val at HT HL ⊢
  rw [hop] at HT HL ⊢
  obtain ⟨ka, kc, rfl, _, _, _⟩ := id hk
  clear h g hd hk hi hlen hkp hop han hsy hpu hl
  by_cases h5 : op = 5
  · subst h5
    have hs : sy = [] := by rw [← HS.out.1]; simp [sayP, inner, HO.out.1]
    have hp : pu = listP [40] [] [41] d.kids := by rw [← HS.out.2]; simp [pushP, HO.out.1]
    subst hs
    subst hp
    rw [List.append_nil]
    have hne : d.kids ≠ [] := HQ.out.2.2.1 (by rw [HO.out.1]; rfl)
    have HNE : Hid (d.kids ≠ []) := hne
    clear hne
    go_enter Tryz.func42, Tryz.ntmps42
    go_wp2_with fail
    refine Calls.mono (list_any (HA.out _).2 [40] [] [41] HQ.out.2.1 HNE.out HQ.out.2.2.2.1) ?_
    rintro e w9 ⟨rfl, q, _⟩
    have HZ : Hid _ := q
    clear q
    go_wp2_with fail
    go_end0
    exact ⟨rfl, HZ.out⟩
  have d5 : ((op : Int) == 5) = false := by simp; omega
  by_cases h6 : op = 6
  · subst h6
    have hs : sy = [] := by rw [← HS.out.1]; simp [sayP, inner, HO.out.1]
    have hp : pu = listP [40] [124] [41] d.kids := by rw [← HS.out.2]; simp [pushP, HO.out.1]
    subst hs
    subst hp
    rw [List.append_nil]
    have hne : d.kids ≠ [] := HQ.out.2.2.1 (by rw [HO.out.1]; rfl)
    have HNE : Hid (d.kids ≠ []) := hne
    clear hne
    go_enter Tryz.func42, Tryz.ntmps42
    go_wp2_with fail
    refine Calls.mono (list_any (HA.out _).2 [40] [124] [41] HQ.out.2.1 HNE.out HQ.out.2.2.2.1) ?_
    rintro e w9 ⟨rfl, q, _⟩
    have HZ : Hid _ := q
    clear q
    go_wp2_with fail
    go_end0
    exact ⟨rfl, HZ.out⟩
  have d6 : ((op : Int) == 6) = false := by simp; omega
  by_cases h7 : op = 7
  · subst h7
    have hs : sy = [] := by rw [← HS.out.1]; simp [sayP, inner, HO.out.1]
    have hp : pu = listP (timesT d) [] [] d.kids := by rw [← HS.out.2]; simp [pushP, HO.out.1]
    subst hs
    subst hp
    rw [List.append_nil]
    have hne : d.kids ≠ [] := HQ.out.2.2.1 (by rw [HO.out.1]; rfl)
    have HNE : Hid (d.kids ≠ []) := hne
    clear hne
    go_enter Tryz.func42, Tryz.ntmps42
    go_wp2_with fail
    refine wp_region_noPanic ?_
    refine wp_region_held_drew (S := NqBox w.heap.size d (.slice ka d.kids.length kc)) (by kernel_rfl) (HB.out) (fun hHeld => ?_)
    refine takeAt 0 (some 26) ?_ rfl rfl (by kernel_rfl) (by kernel_rfl) (by kernel_rfl) (fun _ _ _ h => h) (Or.inl ⟨by rfl, ?_⟩) hHeld ?_
    rotate_left
    · intro w hSw
      go_simp <;> with_reducible rfl
    try simp only [Act.put, List.setIfInBounds_toArray, List.set_cons_zero, List.set_cons_succ]
    refine takeAt 1 (some 27) ?_ rfl rfl (by kernel_rfl) (by kernel_rfl) (by kernel_rfl) (fun _ _ _ h => h) (Or.inl ⟨by rfl, ?_⟩) hHeld ?_
    rotate_left
    · intro w hSw
      go_simp <;> with_reducible rfl
    try simp only [Act.put, List.setIfInBounds_toArray, List.set_cons_zero, List.set_cons_succ]
    refine takeAt 3 (some 29) ?_ rfl rfl (by kernel_rfl) (by kernel_rfl) (by kernel_rfl) (fun _ _ _ h => h) (Or.inl ⟨by rfl, ?_⟩) hHeld ?_
    rotate_left
    · intro w hSw
      go_simp <;> with_reducible rfl
    try simp only [Act.put, List.setIfInBounds_toArray, List.set_cons_zero, List.set_cons_succ]
    refine takeAt 4 (some 30) ?_ rfl rfl (by kernel_rfl) (by kernel_rfl) (by kernel_rfl) (fun _ _ _ h => h) (Or.inl ⟨by rfl, ?_⟩) hHeld ?_
    rotate_left
    · intro w hSw
      go_simp <;> with_reducible rfl
    try simp only [Act.put, List.setIfInBounds_toArray, List.set_cons_zero, List.set_cons_succ]
    refine callAt 2 28 58 (vals := #[.agg #[.int .u8 (7 : Nat), .int .u8 d.c, .int .u64 d.set.a, .int .u64 d.set.b, .int .u64 d.set.c, .int .u64 d.set.d, .int .i64 d.mn, .int .i64 d.mx, .bool d.lz, .int .i64 d.n, .slice ka d.kids.length kc]]) (by kernel_rfl) rfl rfl rfl rfl (by simp [Act.eval]) Tryz.func58 (by kernel_rfl) (by kernel_rfl) ?_
    refine Calls.mono (HT.out _ (HQ.out.2.2.2.2.1.kp (HD.out _).1)) ?_
    rintro e w2 ⟨rfl, q⟩
    have H2 : Hid (NqBox w.heap.size d (.slice ka d.kids.length kc) w2 ∧ Pws w0 pb v root G cs l ps w2) := ⟨HB.out.kp q, (HD.out _).2.kp q⟩
    clear q
    refine ⟨_, rfl, H2.out.1, fun hHeld => ?_⟩
    try simp only [Act.put, List.setIfInBounds_toArray, List.set_cons_zero, List.set_cons_succ]
    refine callAt 5 31 57 (vals := #[.pointer (some ⟨pb, 0, none⟩), str (timesT d), str [], str [], .slice ka d.kids.length kc]) (by kernel_rfl) rfl rfl rfl rfl (by simp [Act.eval]) Tryz.func57 (by kernel_rfl) (by kernel_rfl) ?_
    refine Calls.mono (list_any H2.out.2 (timesT d) [] [] HQ.out.2.1 HNE.out HQ.out.2.2.2.1) ?_
    rintro e w9 ⟨rfl, q, qn⟩
    have HZ : Hid (Pws w0 pb v root G cs l (ps ++ listP (timesT d) [] [] d.kids) w9 ∧ NqBox w.heap.size d (.slice ka d.kids.length kc) w9) := ⟨q, H2.out.1.nk (qn _ (by decide) (by decide))⟩
    clear q qn
    refine ⟨_, rfl, HZ.out.2, fun hHeld => ?_⟩
    try simp only [Act.put, List.setIfInBounds_toArray, List.set_cons_zero, List.set_cons_succ]
    refine wpAnyH_done (by kernel_rfl) ?_ _
    refine NoPanic.normal ?_
    go_wp2_with fail
    go_end0
    exact ⟨rfl, HZ.out.1⟩
  have d7 : ((op : Int) == 7) = false := by simp; omega
  by_cases h8 : op = 8
  · subst h8
    have hs : sy = [] := by rw [← HS.out.1]; simp [sayP, inner, HO.out.1]
    have hp : pu = listP ([60] ++ Lib.itoa d.n) [] [62] d.kids := by rw [← HS.out.2]; simp [pushP, HO.out.1]
    subst hs
    subst hp
    rw [List.append_nil]
    have hne : d.kids ≠ [] := HQ.out.2.2.1 (by rw [HO.out.1]; rfl)
    have HNE : Hid (d.kids ≠ []) := hne
    clear hne
    rw [HO.out.2]
    go_enter Tryz.func42, Tryz.ntmps42
    go_wp2_with fail
    refine wp_region_noPanic ?_
    refine wp_region_held_drew (S := NqBox w.heap.size d (.slice ka d.kids.length kc)) (by kernel_rfl) (HB.out) (fun hHeld => ?_)
    refine takeAt 0 (some 34) ?_ rfl rfl (by kernel_rfl) (by kernel_rfl) (by kernel_rfl) (fun _ _ _ h => h) (Or.inl ⟨by rfl, ?_⟩) hHeld ?_
    rotate_left
    · intro w hSw
      go_simp <;> with_reducible rfl
    try simp only [Act.put, List.setIfInBounds_toArray, List.set_cons_zero, List.set_cons_succ]
    refine takeAt 1 (some 35) ?_ rfl rfl (by kernel_rfl) (by kernel_rfl) (by kernel_rfl) (fun _ _ _ h => h) (Or.inl ⟨by rfl, ?_⟩) hHeld ?_
    rotate_left
    · intro w hSw
      go_simp <;> with_reducible rfl
    try simp only [Act.put, List.setIfInBounds_toArray, List.set_cons_zero, List.set_cons_succ]
    refine takeAt 2 (some 36) ?_ rfl rfl (by kernel_rfl) (by kernel_rfl) (by kernel_rfl) (fun _ _ _ h => h) (Or.inl ⟨by rfl, ?_⟩) hHeld ?_
    rotate_left
    · intro w hSw
      go_simp <;> with_reducible rfl
    try simp only [Act.put, List.setIfInBounds_toArray, List.set_cons_zero, List.set_cons_succ]
    refine takeAt 5 (some 39) ?_ rfl rfl (by kernel_rfl) (by kernel_rfl) (by kernel_rfl) (fun _ _ _ h => h) (Or.inl ⟨by rfl, ?_⟩) hHeld ?_
    rotate_left
    · intro w hSw
      go_simp <;> with_reducible rfl
    try simp only [Act.put, List.setIfInBounds_toArray, List.set_cons_zero, List.set_cons_succ]
    refine takeAt 6 (some 40) ?_ rfl rfl (by kernel_rfl) (by kernel_rfl) (by kernel_rfl) (fun _ _ _ h => h) (Or.inl ⟨by rfl, ?_⟩) hHeld ?_
    rotate_left
    · intro w hSw
      go_simp <;> with_reducible rfl
    try simp only [Act.put, List.setIfInBounds_toArray, List.set_cons_zero, List.set_cons_succ]
    refine callAt 3 37 39 (vals := #[.int .i64 d.n]) (by kernel_rfl) rfl rfl rfl rfl (by simp [Act.eval]) Tryz.func39 (by kernel_rfl) (by kernel_rfl) ?_
    refine Calls.mono (itoa_any d.n HQ.out.1.n.1 HQ.out.1.n.2 (HQ.out.2.2.2.2.1.kp (HD.out _).1)) ?_
    rintro e w2 ⟨rfl, q⟩
    have H2 : Hid (NqBox w.heap.size d (.slice ka d.kids.length kc) w2 ∧ Pws w0 pb v root G cs l ps w2) := ⟨HB.out.kp q, (HD.out _).2.kp q⟩
    clear q
    refine ⟨_, rfl, H2.out.1, fun hHeld => ?_⟩
    try simp only [Act.put, List.setIfInBounds_toArray, List.set_cons_zero, List.set_cons_succ]
    refine takeAt 4 (some 38) ?_ rfl rfl (by kernel_rfl) (by kernel_rfl) (by kernel_rfl) (fun _ _ _ h => h) (Or.inl ⟨by rfl, ?_⟩) hHeld ?_
    rotate_left
    · intro w hSw
      go_simp <;> with_reducible rfl
    try simp only [Act.put, List.setIfInBounds_toArray, List.set_cons_zero, List.set_cons_succ]
    refine callAt 7 41 57 (vals := #[.pointer (some ⟨pb, 0, none⟩), str an, str [], str [62], .slice ka d.kids.length kc]) (by kernel_rfl) rfl rfl rfl rfl (by simp [Act.eval]) Tryz.func57 (by kernel_rfl) (by kernel_rfl) ?_
    refine Calls.mono (list_any H2.out.2 an [] [62] HQ.out.2.1 HNE.out HQ.out.2.2.2.1) ?_
    rintro e w9 ⟨rfl, q, qn⟩
    have HZ : Hid (Pws w0 pb v root G cs l (ps ++ listP an [] [62] d.kids) w9 ∧ NqBox w.heap.size d (.slice ka d.kids.length kc) w9) := ⟨q, H2.out.1.nk (qn _ (by decide) (by decide))⟩
    clear q qn
    refine ⟨_, rfl, HZ.out.2, fun hHeld => ?_⟩
    try simp only [Act.put, List.setIfInBounds_toArray, List.set_cons_zero, List.set_cons_succ]
    refine wpAnyH_done (by kernel_rfl) ?_ _
    refine NoPanic.normal ?_
    go_wp2_with fail
    go_end0
    exact ⟨rfl, HZ.out.1⟩
  have d8 : ((op : Int) == 8) = false := by simp; omega
  have hs : sy = leafT d := by rw [← HS.out.1]; simp [sayP, inner, HO.out.1, h5, h6, h7, h8]
  have hp : pu = [] := by rw [← HS.out.2]; simp [pushP, HO.out.1, h5, h6, h7, h8]
  subst hs
  subst hp
  rw [List.append_nil]
  go_enter Tryz.func42, Tryz.ntmps42
  go_wp2_with fail
  refine wp_region_noPanic ?_
  refine wp_region_held_drew (S := NqBox w.heap.size d (.slice ka d.kids.length kc)) (by kernel_rfl) (HB.out) (fun hHeld => ?_)
  refine takeAt 0 (some 6) ?_ rfl rfl (by kernel_rfl) (by kernel_rfl) (by kernel_rfl) (fun _ _ _ h => h) (Or.inl ⟨by rfl, ?_⟩) hHeld ?_
  rotate_left
  · intro w hSw
    go_simp <;> with_reducible rfl
  try simp only [Act.put, List.setIfInBounds_toArray, List.set_cons_zero, List.set_cons_succ]
  refine takeAt 1 (some 7) ?_ rfl rfl (by kernel_rfl) (by kernel_rfl) (by kernel_rfl) (fun _ _ _ h => h) (Or.inl ⟨by rfl, ?_⟩) hHeld ?_
  rotate_left
  · intro w hSw
    go_simp <;> with_reducible rfl
  try simp only [Act.put, List.setIfInBounds_toArray, List.set_cons_zero, List.set_cons_succ]
  refine takeAt 2 (some 8) ?_ rfl rfl (by kernel_rfl) (by kernel_rfl) (by kernel_rfl) (fun _ _ _ h => h) (Or.inl ⟨by rfl, ?_⟩) hHeld ?_
  rotate_left
  · intro w hSw
    go_simp <;> with_reducible rfl
  try simp only [Act.put, List.setIfInBounds_toArray, List.set_cons_zero, List.set_cons_succ]
  refine takeAt 3 (some 9) ?_ rfl rfl (by kernel_rfl) (by kernel_rfl) (by kernel_rfl) (fun _ _ _ h => h) (Or.inl ⟨by rfl, ?_⟩) hHeld ?_
  rotate_left
  · intro w hSw
    go_simp <;> with_reducible rfl
  try simp only [Act.put, List.setIfInBounds_toArray, List.set_cons_zero, List.set_cons_succ]
  refine callAt 4 10 59 (vals := #[.agg #[.int .u8 op, .int .u8 d.c, .int .u64 d.set.a, .int .u64 d.set.b, .int .u64 d.set.c, .int .u64 d.set.d, .int .i64 d.mn, .int .i64 d.mx, .bool d.lz, .int .i64 d.n, .slice ka d.kids.length kc]]) (by kernel_rfl) rfl rfl rfl rfl (by simp [Act.eval]) Tryz.func59 (by kernel_rfl) (by kernel_rfl) ?_
  refine Calls.mono (HL.out _ (HQ.out.2.2.2.2.1.kp (HD.out _).1)) ?_
  rintro e w2 ⟨rfl, q⟩
  have H2 : Hid (NqBox w.heap.size d (.slice ka d.kids.length kc) w2 ∧ Pws w0 pb v root G cs l ps w2) := ⟨HB.out.kp q, (HD.out _).2.kp q⟩
  clear q
  refine ⟨_, rfl, H2.out.1, fun hHeld => ?_⟩
  try simp only [Act.put, List.setIfInBounds_toArray, List.set_cons_zero, List.set_cons_succ]
  refine callAt 5 11 41 (vals := #[.pointer (some ⟨pb, 4, none⟩), str (leafT d)]) (by kernel_rfl) rfl rfl rfl rfl (by simp [Act.eval]) Tryz.func41 (by kernel_rfl) (by kernel_rfl) ?_
  refine Calls.mono (write_any H2.out.2 (leafT d) (by have := leafT_len HQ.out.1; have := HQ.out.2.2.2.2.2.2; omega)) ?_
  rintro e w9 ⟨rfl, q, qn⟩
  have HZ : Hid (Pws w0 pb v root G cs (l ++ leafT d) ps w9 ∧ NqBox w.heap.size d (.slice ka d.kids.length kc) w9) := ⟨q, H2.out.1.nk (qn _ (by decide) (by decide))⟩
  clear q qn
  refine ⟨_, rfl, HZ.out.2, fun hHeld => ?_⟩
  try simp only [Act.put, List.setIfInBounds_toArray, List.set_cons_zero, List.set_cons_succ]
  refine wpAnyH_done (by kernel_rfl) ?_ _
  refine NoPanic.normal ?_
  go_wp2_with fail
  go_end0
  exact ⟨rfl, HZ.out.1⟩
end
end Go.Proofs.YthloemacfdgjjaaGreatDoor
/- The printer's print. -/
namespace Go.Proofs.YthloemacfdgjjaaGreatDoor
open Go.ChangeShapes Go.WideShapes Go.ChangeAt Go.RowKit
set_option linter.unusedVariables false
set_option linter.unusedSimpArgs false
def okP (L : List Nq) (a : Int) (k : Nat) : Bool := hasB L a && (!(inner (nodeAt L a).op) || !(nodeAt L a).kids.isEmpty) && decide (k + (nodeAt L a).kids.length ≤ 900000)
/-- What is written, of all that waits. -/
def prF (L : List Nq) : Nat → List Part → List UInt8 → Option (List UInt8)
  | 0, _, _ => none
  | n + 1, ps, l =>
    match ps.getLast? with
    | none => some l
    | some (t, a) =>
      if 800000 < l.length + t.length ∨ 800000 < ps.length then none
      else if a = -1 then prF L n ps.dropLast (l ++ t)
      else if okP L a ps.dropLast.length then prF L n (ps.dropLast ++ pushP (nodeAt L a)) (l ++ t ++ sayP (nodeAt L a))
      else none
theorem exists_least {p : Nat → Prop} (h : ∃ n, p n) : ∃ m, p m ∧ ∀ k, p k → m ≤ k := by
  obtain ⟨n, hn⟩ := h
  induction n using Nat.strongRecOn with
  | ind n ih =>
    by_cases q : ∃ k, k < n ∧ p k
    · obtain ⟨k, h1, h2⟩ := q; exact ih k h1 h2
    · exact ⟨n, hn, fun k hk => by
        rcases Nat.lt_or_ge k n with z | z
        · exact absurd ⟨k, z, hk⟩ q
        · exact z⟩
open Classical in
noncomputable def least (p : Nat → Prop) : Nat := if h : ∃ n, p n then Classical.choose (exists_least h) else 0
theorem least_le {p : Nat → Prop} {n : Nat} (h : p n) : least p ≤ n := by
  unfold least
  rw [dif_pos ⟨n, h⟩]
  exact (Classical.choose_spec (exists_least ⟨n, h⟩)).2 n h
theorem least_has {p : Nat → Prop} {n : Nat} (h : p n) : p (least p) := by
  unfold least
  rw [dif_pos ⟨n, h⟩]
  exact (Classical.choose_spec (exists_least ⟨n, h⟩)).1
theorem parts_pop {B : Nat} {v : Value} {ps : List Part} {x : Part} {w : World} (h : w.ownsRow B 94 2 v (ps ++ [x]).length (flatP (ps ++ [x]))) : ∃ g cap, v = .slice (some ⟨g, 0, none⟩) (ps.length + 1) cap ∧ ps.length + 1 ≤ cap ∧ cap ≤ maxLen ∧ B ≤ g ∧ w.cell? ⟨g, ps.length * 2, none⟩ = some (str x.1) ∧ w.cell? ⟨g, ps.length * 2 + 1, none⟩ = some (.int .i64 x.2) ∧ w.ownsRow B 94 2 (.slice (some ⟨g, 0, none⟩) ps.length cap) ps.length (flatP ps) := by
  have hl : (ps ++ [x]).length = ps.length + 1 := by simp
  have hfl := flatP_len ps
  rw [hl, flatP_snoc] at h
  rcases h.2 with ⟨_, q⟩ | ⟨g, c, cur, e, hb, hg, h1, h2, h3, h4⟩
  · omega
  · have hget : ∀ j, j < 2 → w.cell? ⟨g, ps.length * 2 + j, none⟩ = x.cells[j]? := fun j hj => by
      rw [cell_at hg, ← Array.getElem?_toList]
      have : (flatP ps ++ x.cells)[ps.length * 2 + j]? = x.cells[j]? := by
        rw [List.getElem?_append_right (by omega), hfl, Nat.add_sub_cancel_left]
      rw [← h4, List.getElem?_take, if_pos (by omega)] at this
      exact this
    refine ⟨g, c, e, h1, h2, hb, hget 0 (by omega), hget 1 (by omega), hfl, .inr ⟨g, c, cur, rfl, hb, hg, by omega, h2, h3, ?_⟩⟩
    have : (cur.toList.take ((ps.length + 1) * 2)).take (ps.length * 2) = (flatP ps ++ x.cells).take (ps.length * 2) := by rw [h4]
    rw [List.take_take, Nat.min_eq_left (by omega), List.take_append_of_le_length (by omega)] at this
    rw [this]
    exact List.take_of_length_le (by omega)
section
variable {w0 w w1 : World} {pb : Nat} {v kv : Value} {root G : Int} {cs : Nat} {l : List UInt8} {ps : List Part} {L : List Nq}
def Sp (pb g k cap : Nat) (t : List UInt8) (a : Int) (w : World) : Prop := w.cell? ⟨pb, 6, none⟩ = some (.slice (some ⟨g, 0, none⟩) (k + 1) cap) ∧ w.cell? ⟨g, k * 2, none⟩ = some (str t) ∧ w.cell? ⟨g, k * 2 + 1, none⟩ = some (.int .i64 a)
def Pc (pb : Nat) (root G : Int) (cs : Nat) (w : World) : Prop := w.cell? ⟨pb, 1, none⟩ = some (.int .i64 root) ∧ w.cell? ⟨pb, 2, none⟩ = some (.int .i64 G) ∧ w.cell? ⟨pb, 3, none⟩ = some (.int .u8 cs)
theorem Pws.pc (h : Pws w0 pb v root G cs l ps w) : Pc pb root G cs w := by
  obtain ⟨p, bv, wv, h⟩ := h
  obtain ⟨_, c1, c2, c3, _⟩ := h.pr.cells
  exact ⟨c1, c2, c3⟩
def headT (G : Int) (cs : Nat) : List UInt8 := Lib.itoa G ++ caseL cs ++ [58]
set_option maxHeartbeats 4000000 in
set_option maxRecDepth 100000 in
theorem print_any (h : Pws w0 pb v root G cs [] [] w) (hv : Pt w0 v L) (g : Gl w0) (hG : Sm G) (hL : ∀ d ∈ L, Nok d) {X : List UInt8} {n : Nat} (hX : prF L n [(headT G cs, root)] [] = some X) (hne : X ≠ []) :
    Calls Tryz.prog 26 #[.pointer (some ⟨pb, 0, none⟩)] w fun e w' => e = .returned (str X) ∧ Kp w0 w' := by
  have hkp : Kp w0 w := by obtain ⟨_, _, _, z⟩ := h; exact z.kp
  have HQ : Hid (Pt w0 v L ∧ Gl w0 ∧ Sm G ∧ (∀ d ∈ L, Nok d) ∧ prF L n [(headT G cs, root)] [] = some X ∧ X ≠ [] ∧ Kp w0 w) := ⟨hv, g, hG, hL, hX, hne, hkp⟩
  have HP : Hid (Pws w0 pb v root G cs [] [] w) := h
  obtain ⟨a1, ha1⟩ : ∃ a, Lib.itoa G ++ caseL cs = a := ⟨_, rfl⟩
  obtain ⟨a2, ha2⟩ : ∃ a, a1 ++ [58] = a := ⟨_, rfl⟩
  have e1 : a1.length ≤ 22 := by
    have := itoa_len hG
    rw [← ha1, List.length_append]
    have : (caseL cs).length = 1 := by unfold caseL; repeat' split
                                       all_goals rfl
    omega
  have hA1 := cat_run ha1 (by omega)
  have hA2 := cat_run ha2 (by rw [← ha2, List.length_append]; simp; omega)
  have HH : Hid (headT G cs = a2) := by unfold headT; rw [ha1, ha2]; rfl
  have HD : Hid (Pws w0 pb v root G cs [] [] w.drew ∧ Gl w.drew ∧ Kp w0 w.drew) := ⟨h.kp (kp_drew _), g.kp (kp_trans hkp (kp_drew _)), kp_trans hkp (kp_drew _)⟩
  have rl1 : ∀ w', Pc pb root G cs w' → w'.cell? ⟨pb, 1, none⟩ = some (.int .i64 root) := fun _ h => h.1
  have rl2 : ∀ w', Pc pb root G cs w' → w'.cell? ⟨pb, 2, none⟩ = some (.int .i64 G) := fun _ h => h.2.1
  have rl3 : ∀ w', Pc pb root G cs w' → w'.cell? ⟨pb, 3, none⟩ = some (.int .u8 cs) := fun _ h => h.2.2
  clear h hv g hG hL hX hne hkp ha1 ha2 e1
  go_enter Tryz.func26, Tryz.ntmps26
  go_wp2_with fail
  refine wp_region_noPanic ?_
  refine wp_region_held_drew (S := Pc pb root G cs) (by kernel_rfl) (HD.out.1.pc) (fun hHeld => ?_)
  refine takeAt 0 (some 4) ?_ rfl rfl (by kernel_rfl) (by kernel_rfl) (by kernel_rfl) (fun _ _ _ h => h) (Or.inl ⟨by rfl, ?_⟩) hHeld ?_
  rotate_left
  · intro w hSw
    go_simp <;> with_reducible rfl
  try simp only [Act.put, List.setIfInBounds_toArray, List.set_cons_zero, List.set_cons_succ]
  refine takeAt 1 (some 5) ?_ rfl rfl (by kernel_rfl) (by kernel_rfl) (by kernel_rfl) (fun _ _ _ h => h) (Or.inl ⟨by rfl, ?_⟩) hHeld ?_
  rotate_left
  · intro w hSw
    go_simp <;> with_reducible rfl
  try simp only [Act.put, List.setIfInBounds_toArray, List.set_cons_zero, List.set_cons_succ]
  refine takeAt 2 (some 6) ?_ rfl rfl (by kernel_rfl) (by kernel_rfl) (by kernel_rfl) (fun _ _ _ h => h) (Or.inl ⟨by rfl, ?_⟩) hHeld ?_
  rotate_left
  · intro w hSw
    go_simp <;> with_reducible rfl
  try simp only [Act.put, List.setIfInBounds_toArray, List.set_cons_zero, List.set_cons_succ]
  refine takeAt 3 (some 7) ?_ rfl rfl (by kernel_rfl) (by kernel_rfl) (by kernel_rfl) (fun _ _ _ h => h) (Or.inl ⟨by rfl, ?_⟩) hHeld ?_
  rotate_left
  · intro w hSw
    go_simp <;> with_reducible rfl
  try simp only [Act.put, List.setIfInBounds_toArray, List.set_cons_zero, List.set_cons_succ]
  refine takeAt 4 (some 8) ?_ rfl rfl (by kernel_rfl) (by kernel_rfl) (by kernel_rfl) (fun _ _ _ h => h) (Or.inl ⟨by rfl, ?_⟩) hHeld ?_
  rotate_left
  · intro w hSw
    go_simp <;> with_reducible rfl
  try simp only [Act.put, List.setIfInBounds_toArray, List.set_cons_zero, List.set_cons_succ]
  refine takeAt 5 (some 9) ?_ rfl rfl (by kernel_rfl) (by kernel_rfl) (by kernel_rfl) (fun _ _ _ h => h) (Or.inl ⟨by rfl, ?_⟩) hHeld ?_
  rotate_left
  · intro w hSw
    go_simp <;> with_reducible rfl
  try simp only [Act.put, List.setIfInBounds_toArray, List.set_cons_zero, List.set_cons_succ]
  refine takeAt 7 (some 11) ?_ rfl rfl (by kernel_rfl) (by kernel_rfl) (by kernel_rfl) (fun _ _ _ h => h) (Or.inl ⟨by rfl, ?_⟩) hHeld ?_
  rotate_left
  · intro w hSw
    go_simp <;> with_reducible rfl
  try simp only [Act.put, List.setIfInBounds_toArray, List.set_cons_zero, List.set_cons_succ]
  refine takeAt 8 (some 12) ?_ rfl rfl (by kernel_rfl) (by kernel_rfl) (by kernel_rfl) (fun _ _ _ h => h) (Or.inl ⟨by rfl, ?_⟩) hHeld ?_
  rotate_left
  · intro w hSw
    go_simp <;> with_reducible rfl
  try simp only [Act.put, List.setIfInBounds_toArray, List.set_cons_zero, List.set_cons_succ]
  refine takeAt 9 (some 13) ?_ rfl rfl (by kernel_rfl) (by kernel_rfl) (by kernel_rfl) (fun _ _ _ h => h) (Or.inl ⟨by rfl, ?_⟩) hHeld ?_
  rotate_left
  · intro w hSw
    go_simp <;> with_reducible rfl
  try simp only [Act.put, List.setIfInBounds_toArray, List.set_cons_zero, List.set_cons_succ]
  refine takeAt 10 (some 14) ?_ rfl rfl (by kernel_rfl) (by kernel_rfl) (by kernel_rfl) (fun _ _ _ h => h) (Or.inl ⟨by rfl, ?_⟩) hHeld ?_
  rotate_left
  · intro w hSw
    go_simp <;> with_reducible rfl
  try simp only [Act.put, List.setIfInBounds_toArray, List.set_cons_zero, List.set_cons_succ]
  refine takeAt 11 (some 15) ?_ rfl rfl (by kernel_rfl) (by kernel_rfl) (by kernel_rfl) (fun _ _ _ h => h) (Or.inl ⟨by rfl, ?_⟩) hHeld ?_
  rotate_left
  · intro w hSw
    go_simp <;> with_reducible rfl
  try simp only [Act.put, List.setIfInBounds_toArray, List.set_cons_zero, List.set_cons_succ]
  refine takeAt 15 (some 19) ?_ rfl rfl (by kernel_rfl) (by kernel_rfl) (by kernel_rfl) (fun _ _ _ h => h) (Or.inl ⟨by rfl, ?_⟩) hHeld ?_
  rotate_left
  · intro w hSw
    go_simp <;> with_reducible rfl
  try simp only [Act.put, List.setIfInBounds_toArray, List.set_cons_zero, List.set_cons_succ]
  refine takeAt 16 (some 20) ?_ rfl rfl (by kernel_rfl) (by kernel_rfl) (by kernel_rfl) (fun _ _ _ h => h) (Or.inl ⟨by rfl, ?_⟩) hHeld ?_
  rotate_left
  · intro w hSw
    go_simp <;> with_reducible rfl
  try simp only [Act.put, List.setIfInBounds_toArray, List.set_cons_zero, List.set_cons_succ]
  refine takeAt 17 (some 21) ?_ rfl rfl (by kernel_rfl) (by kernel_rfl) (by kernel_rfl) (fun _ _ _ h => h) (Or.inl ⟨by rfl, ?_⟩) hHeld ?_
  rotate_left
  · intro w hSw
    go_simp <;> with_reducible rfl
  try simp only [Act.put, List.setIfInBounds_toArray, List.set_cons_zero, List.set_cons_succ]
  refine takeAt 18 (some 22) ?_ rfl rfl (by kernel_rfl) (by kernel_rfl) (by kernel_rfl) (fun _ _ _ h => h) (Or.inl ⟨by rfl, ?_⟩) hHeld ?_
  rotate_left
  · intro w hSw
    go_simp <;> with_reducible rfl
  try simp only [Act.put, List.setIfInBounds_toArray, List.set_cons_zero, List.set_cons_succ]
  refine takeAt 19 (some 23) ?_ rfl rfl (by kernel_rfl) (by kernel_rfl) (by kernel_rfl) (fun _ _ _ h => h) (Or.inl ⟨by rfl, ?_⟩) hHeld ?_
  rotate_left
  · intro w hSw
    go_simp <;> with_reducible rfl
  try simp only [Act.put, List.setIfInBounds_toArray, List.set_cons_zero, List.set_cons_succ]
  refine callAt 6 10 39 (vals := #[.int .i64 G]) (by kernel_rfl) rfl rfl rfl rfl (by simp [Act.eval]) Tryz.func39 (by kernel_rfl) (by kernel_rfl) ?_
  refine Calls.mono (itoa_any G HQ.out.2.2.1.1 HQ.out.2.2.1.2 HD.out.2.1) ?_
  rintro e w2 ⟨rfl, q⟩
  have H2 : Hid (Pws w0 pb v root G cs [] [] w2) := HD.out.1.kp q
  clear q
  refine ⟨_, rfl, H2.out.pc, fun hHeld => ?_⟩
  try simp only [Act.put, List.setIfInBounds_toArray, List.set_cons_zero, List.set_cons_succ]
  refine callAt 12 16 40 (vals := #[.int .u8 cs]) (by kernel_rfl) rfl rfl rfl rfl (by simp [Act.eval]) Tryz.func40 (by kernel_rfl) (by kernel_rfl) ?_
  refine Calls.mono (caseLetter_any cs) ?_
  rintro e w3 ⟨rfl, rfl⟩
  refine ⟨_, rfl, H2.out.pc, fun hHeld => ?_⟩
  try simp only [Act.put, List.setIfInBounds_toArray, List.set_cons_zero, List.set_cons_succ]
  refine takeAt 13 (some 17) ?_ rfl rfl (by kernel_rfl) (by kernel_rfl) (by kernel_rfl) (fun _ _ _ h => h) (Or.inl ⟨by rfl, ?_⟩) hHeld ?_
  rotate_left
  · intro w hSw
    go_simp <;> with_reducible rfl
  try simp only [Act.put, List.setIfInBounds_toArray, List.set_cons_zero, List.set_cons_succ]
  refine takeAt 14 (some 18) ?_ rfl rfl (by kernel_rfl) (by kernel_rfl) (by kernel_rfl) (fun _ _ _ h => h) (Or.inl ⟨by rfl, ?_⟩) hHeld ?_
  rotate_left
  · intro w hSw
    go_simp <;> with_reducible rfl
  try simp only [Act.put, List.setIfInBounds_toArray, List.set_cons_zero, List.set_cons_succ]
  refine callAt 20 24 38 (vals := #[.pointer (some ⟨pb, 0, none⟩), str a2, .int .i64 root]) (by kernel_rfl) rfl rfl rfl rfl (by simp [Act.eval]) Tryz.func38 (by kernel_rfl) (by kernel_rfl) ?_
  refine Calls.mono (wait_any H2.out a2 root (by simp)) ?_
  rintro e w4 ⟨rfl, q, _⟩
  have H4 : Hid (Pws w0 pb v root G cs [] [(a2, root)] w4) := q
  clear q
  refine ⟨_, rfl, H4.out.pc, fun hHeld => ?_⟩
  try simp only [Act.put, List.setIfInBounds_toArray, List.set_cons_zero, List.set_cons_succ]
  refine wpAnyH_done (by kernel_rfl) ?_ _
  refine NoPanic.normal ?_
  have hX2 := HQ.out.2.2.2.2.1
  rw [HH.out] at hX2
  have HX : Hid (prF L n [(a2, root)] [] = some X) := hX2
  clear hX2 hHeld
  go_wp2_with fail
  go_loopw [3] (fun v3 wr => ∃ (f : Nat) (l : List UInt8) (ps : List Part), prF L f ps l = some X ∧ Pws w0 pb v root G cs l ps wr) (fun _ wr => least fun f => ∃ (l : List UInt8) (ps : List Part), prF L f ps l = some X ∧ Pws w0 pb v root G cs l ps wr)
  case atStart => exact ⟨n, [], [(a2, root)], HX.out, H4.out⟩
  case round =>
    obtain ⟨f0, l0, ps0, hF0, hP0⟩ := hrel
    obtain ⟨m, hm⟩ : ∃ m, (least fun f => ∃ (l : List UInt8) (ps : List Part), prF L f ps l = some X ∧ Pws w0 pb v root G cs l ps wr) = m := ⟨_, rfl⟩
    obtain ⟨l, ps, hF, hP⟩ := least_has (p := fun f => ∃ (l : List UInt8) (ps : List Part), prF L f ps l = some X ∧ Pws w0 pb v root G cs l ps wr) ⟨l0, ps0, hF0, hP0⟩
    rw [hm] at hF
    have HM : Hid ((least fun f => ∃ (l : List UInt8) (ps : List Part), prF L f ps l = some X ∧ Pws w0 pb v root G cs l ps wr) = m) := hm
    clear hF0 hP0 hm
    obtain ⟨p, bv, wv, hW⟩ := hP
    cases m with
    | zero => simp [prF] at hF
    | succ m =>
    obtain ⟨_, _, _, _, _, _, c6⟩ := hW.pr.cells
    rcases List.eq_nil_or_concat ps with rfl | ⟨qs, ⟨t, a⟩, rfl⟩
    · have hXl : X = l := by simp [prF] at hF; exact hF.symm
      subst hXl
      obtain ⟨sa, sc, rfl, _, _⟩ := owns_form hW.wt
      have HW : Hid (Pws w0 pb v root G cs X [] wr) := ⟨_, _, _, hW⟩
      clear hW hF HX
      simp only [List.length_nil] at c6 ⊢
      go_wp2_with fail
      refine Calls.mono (bstring_any HW.out HQ.out.2.2.2.2.2.1) ?_
      rintro e w5 ⟨rfl, q⟩
      have HZ : Hid _ := q
      clear q
      go_wp2_with fail
      go_ret
      exact ⟨rfl, HZ.out⟩
    · rw [List.concat_eq_append] at hF hW
      obtain ⟨k, hk⟩ : ∃ k, qs.length = k := ⟨_, rfl⟩
      obtain ⟨g, cap, rfl, k1, k2, k3, kc0, kc1, hpop⟩ := parts_pop hW.wt
      rw [hk] at k1 kc0 kc1 hpop c6
      have hstep : ¬ (800000 < l.length + t.length ∨ 800000 < k + 1) ∧ (if a = -1 then prF L m qs (l ++ t) else if okP L a k then prF L m (qs ++ pushP (nodeAt L a)) (l ++ t ++ sayP (nodeAt L a)) else none) = some X := by
        unfold prF at hF
        simp only [List.getLast?_concat, List.dropLast_concat, List.length_append, List.length_cons, List.length_nil, Nat.zero_add, hk] at hF
        split at hF
        · cases hF
        · rename_i hb
          exact ⟨hb, hF⟩
      have hgne : g ≠ pb := fun z => hW.wne (by simp only [Value.ownBlock]; rw [z])
      have hglt : g < wr.heap.size := (hpop.lt g rfl).2
      have hY : ∀ ob, Pws w0 pb v root G cs l qs ((wr.alloc ob).setCell ⟨pb, 6, none⟩ (.slice (some ⟨g, 0, none⟩) k cap)) := fun ob => by
        have hW := hW.kp' (kp_alloc wr ob)
        have hpop := row_kp hpop (kp_alloc wr ob)
        have hsz := alloc_size wr ob
        have f := fr_set pb 6 (.slice (some ⟨g, 0, none⟩) k cap) (wr.alloc ob)
        refine ⟨p, bv, .slice (some ⟨g, 0, none⟩) k cap, kp_new hW.kp f hW.far, hW.far, hW.pr.set6 _, hW.ptr, row_heap hW.buf fun j hj => ?_, ?_⟩
        · exact f.block j (hW.buf.lt j hj).2 fun z => hW.bne (by unfold On at z; rw [← z]; exact hj)
        · rw [hk]
          refine row_heap hpop fun j hj => ?_
          simp only [Value.ownBlock, Option.some.injEq] at hj
          exact f.block j (by omega) fun z => hgne (by unfold On at z; omega)
      have hplt := hW.pr.lt
      have HW5 : Hid (Pws w0 pb v root G cs l qs ((wr.alloc (.cells #[str t, .int .i64 a] 94)).setCell ⟨pb, 6, none⟩ (.slice (some ⟨g, 0, none⟩) k cap)).drew.drew ∧ ((wr.alloc (.cells #[str t, .int .i64 a] 94)).setCell ⟨pb, 6, none⟩ (.slice (some ⟨g, 0, none⟩) k cap)).drew.drew.heap[wr.heap.size]? = some (.cells #[str t, .int .i64 a] 94 (0, 0))) := by
        refine ⟨(hY _).kp (kp_trans (kp_drew _) (kp_drew _)), ?_⟩
        show ((wr.alloc (.cells #[str t, .int .i64 a] 94)).setCell ⟨pb, 6, none⟩ (.slice (some ⟨g, 0, none⟩) k cap)).heap[wr.heap.size]? = _
        rw [heap_setCell_other (by omega)]
        exact alloc_new wr _
      have HST : Hid (¬ (800000 < l.length + t.length ∨ 800000 < k + 1) ∧ (if a = -1 then prF L m qs (l ++ t) else if okP L a k then prF L m (qs ++ pushP (nodeAt L a)) (l ++ t ++ sayP (nodeAt L a)) else none) = some X ∧ qs.length = k) := ⟨hstep.1, hstep.2, hk⟩
      have c6a : ∀ ob, (wr.alloc ob).cell? ⟨pb, 6, none⟩ = some (.slice (some ⟨g, 0, none⟩) (k + 1) cap) := fun ob => kp_cell (kp_alloc _ _) c6
      have f6a : ∀ ob, (wr.alloc ob).frozen? ⟨pb, 6, none⟩ = false := fun ob => (hW.kp' (kp_alloc wr ob)).pr.fz 6
      have HS0 : Hid (∀ x, Kp wr x → Sp pb g k cap t a x) := fun x q => ⟨kp_cell q c6, kp_cell q kc0, kp_cell q kc1⟩
      have rs6 : ∀ w', Sp pb g k cap t a w' → w'.cell? ⟨pb, 6, none⟩ = some (.slice (some ⟨g, 0, none⟩) (k + 1) cap) := fun _ h => h.1
      have rs0 : ∀ w', Sp pb g k cap t a w' → w'.cell? ⟨g, k * 2, none⟩ = some (str t) := fun _ h => h.2.1
      have rs1 : ∀ w', Sp pb g k cap t a w' → w'.cell? ⟨g, k * 2 + 1, none⟩ = some (.int .i64 a) := fun _ h => h.2.2
      have hk8 : k ≤ 800000 := by have := hstep.1; omega
      have hwk : IntKind.i64.wrap (k : Int) = (k : Int) := by rw [IntKind.wrap_i64]; omega
      have hkk : ((k : Int) < (k : Int) + 1) := by omega
      unfold maxLen at k2
      clear hF hW hY hstep hgne hglt hplt hpop hk kc0 kc1 rl1 rl2 rl3
      go_wp2_with fail
      refine wp_region_noPanic ?_
      refine wp_region_held_drew (S := Sp pb g k cap t a) (by kernel_rfl) (HS0.out _ (kp_drew _)) (fun hHeld => ?_)
      refine takeAt 0 (some 31) ?_ rfl rfl (by kernel_rfl) (by kernel_rfl) (by kernel_rfl) (fun _ _ _ h => h) (Or.inl ⟨by rfl, ?_⟩) hHeld ?_
      rotate_left
      · intro w hSw
        go_simp <;> with_reducible rfl
      try simp only [Act.put, List.setIfInBounds_toArray, List.set_cons_zero, List.set_cons_succ]
      refine takeAt 1 (some 32) ?_ rfl rfl (by kernel_rfl) (by kernel_rfl) (by kernel_rfl) (fun _ _ _ h => h) (Or.inl ⟨by rfl, ?_⟩) hHeld ?_
      rotate_left
      · intro w hSw
        go_simp <;> with_reducible rfl
      try simp only [Act.put, List.setIfInBounds_toArray, List.set_cons_zero, List.set_cons_succ]
      refine takeAt 2 (some 33) ?_ rfl rfl (by kernel_rfl) (by kernel_rfl) (by kernel_rfl) (fun _ _ _ h => h) (Or.inl ⟨by rfl, ?_⟩) hHeld ?_
      rotate_left
      · intro w hSw
        go_simp <;> with_reducible rfl
      try simp only [Act.put, List.setIfInBounds_toArray, List.set_cons_zero, List.set_cons_succ]
      refine takeAt 3 (some 34) ?_ rfl rfl (by kernel_rfl) (by kernel_rfl) (by kernel_rfl) (fun _ _ _ h => h) (Or.inl ⟨by rfl, ?_⟩) hHeld ?_
      rotate_left
      · intro w hSw
        go_simp <;> with_reducible rfl
      try simp only [Act.put, List.setIfInBounds_toArray, List.set_cons_zero, List.set_cons_succ]
      refine takeAt 4 (some 35) ?_ rfl rfl (by kernel_rfl) (by kernel_rfl) (by kernel_rfl) (fun _ _ _ h => h) (Or.inl ⟨by rfl, ?_⟩) hHeld ?_
      rotate_left
      · intro w hSw
        go_simp <;> with_reducible rfl
      try simp only [Act.put, List.setIfInBounds_toArray, List.set_cons_zero, List.set_cons_succ]
      refine takeAt 5 (some 36) ?_ rfl rfl (by kernel_rfl) (by kernel_rfl) (by kernel_rfl) (fun _ _ _ h => h) (Or.inl ⟨by rfl, ?_⟩) hHeld ?_
      rotate_left
      · intro w hSw
        go_simp <;> with_reducible rfl
      try simp only [Act.put, List.setIfInBounds_toArray, List.set_cons_zero, List.set_cons_succ]
      refine takeAt 6 (some 37) ?_ rfl rfl (by kernel_rfl) (by kernel_rfl) (by kernel_rfl) (fun _ _ _ h => h) (Or.inl ⟨by rfl, ?_⟩) hHeld ?_
      rotate_left
      · intro w hSw
        go_simp <;> with_reducible rfl
      try simp only [Act.put, List.setIfInBounds_toArray, List.set_cons_zero, List.set_cons_succ]
      refine takeAt 7 (some 38) ?_ rfl rfl (by kernel_rfl) (by kernel_rfl) (by kernel_rfl) (fun _ _ _ h => h) (Or.inl ⟨by rfl, ?_⟩) hHeld ?_
      rotate_left
      · intro w hSw
        go_simp <;> with_reducible rfl
      try simp only [Act.put, List.setIfInBounds_toArray, List.set_cons_zero, List.set_cons_succ]
      refine takeAt 8 (some 39) ?_ rfl rfl (by kernel_rfl) (by kernel_rfl) (by kernel_rfl) (fun _ _ _ h => h) (Or.inl ⟨by rfl, ?_⟩) hHeld ?_
      rotate_left
      · intro w hSw
        go_simp <;> with_reducible rfl
      try simp only [Act.put, List.setIfInBounds_toArray, List.set_cons_zero, List.set_cons_succ]
      refine takeAt 9 (some 40) ?_ rfl rfl (by kernel_rfl) (by kernel_rfl) (by kernel_rfl) (fun _ _ _ h => h) (Or.inl ⟨by rfl, ?_⟩) hHeld ?_
      rotate_left
      · intro w hSw
        go_simp <;> with_reducible rfl
      try simp only [Act.put, List.setIfInBounds_toArray, List.set_cons_zero, List.set_cons_succ]
      refine takeAt 10 (some 41) ?_ rfl rfl (by kernel_rfl) (by kernel_rfl) (by kernel_rfl) (fun _ _ _ h => h) (Or.inl ⟨by rfl, ?_⟩) hHeld ?_
      rotate_left
      · intro w hSw
        go_simp <;> with_reducible rfl
      try simp only [Act.put, List.setIfInBounds_toArray, List.set_cons_zero, List.set_cons_succ]
      refine takeAt 11 (some 42) ?_ rfl rfl (by kernel_rfl) (by kernel_rfl) (by kernel_rfl) (fun _ _ _ h => h) (Or.inl ⟨by rfl, ?_⟩) hHeld ?_
      rotate_left
      · intro w hSw
        go_simp <;> with_reducible rfl
      try simp only [Act.put, List.setIfInBounds_toArray, List.set_cons_zero, List.set_cons_succ]
      refine wpAnyH_ready (rs := [12]) (by kernel_rfl) (by simp) ?_
      refine AllReadyH.cons rfl (fun K hK => ?_) AllReadyH.nil
      go_simp
      refine hK.out _ _ (HS0.out _ (kp_trans (kp_alloc _ _) (kp_drew _))) (fun hHeld => ?_)
      clear hK K
      try simp only [Act.put, List.setIfInBounds_toArray, List.set_cons_zero, List.set_cons_succ]
      refine wpAnyH_ready (rs := [13]) (by kernel_rfl) (by simp) ?_
      refine AllReadyH.cons rfl (fun K hK => ?_) AllReadyH.nil
      go_simp
      refine hK.out _ _ (HS0.out _ (kp_trans (kp_alloc _ _) (kp_drew _))) (fun hHeld => ?_)
      clear hK K
      try simp only [Act.put, List.setIfInBounds_toArray, List.set_cons_zero, List.set_cons_succ]
      refine wpAnyH_done (by kernel_rfl) ?_ _
      refine NoPanic.normal ?_
      go_wp2_with fail
      go_region
      go_wp2_with fail
      generalize ((wr.alloc (.cells #[str t, .int .i64 a] 94)).setCell ⟨pb, 6, none⟩ (.slice (some ⟨g, 0, none⟩) k cap)).drew.drew = W at HW5 ⊢
      have cb0 : W.cell? ⟨wr.heap.size, 0, none⟩ = some (str t) := by rw [cell_at HW5.out.2]; rfl
      clear c6a f6a c6 rs6 rs0 rs1 hHeld HS0
      have HW6 : Hid (Calls Tryz.prog 41 #[.pointer (some ⟨pb, 4, none⟩), str t] W.drew fun e w' => e = .returned (.tuple #[.int .i64 t.length, .nilIface]) ∧ Pws w0 pb v root G cs (l ++ t) qs w' ∧ w'.heap[wr.heap.size]? = some (.cells #[str t, .int .i64 a] 94 (0, 0))) :=
        (write_any (HW5.out.1.kp (kp_drew W)) t (by have := HST.out.1; omega)).mono fun e w' q => ⟨q.1, q.2.1, q.2.2 _ (by decide) (by decide) _ _ HW5.out.2⟩
      go_region_with (go_at_call 41; refine Calls.mono HW6.out ?_; rintro e w5 ⟨rfl, q5, b5⟩)
      have HP5 : Hid (Pws w0 pb v root G cs (l ++ t) qs w5 ∧ w5.heap[wr.heap.size]? = some (.cells #[str t, .int .i64 a] 94 (0, 0))) := ⟨q5, b5⟩
      have cb1 : w5.cell? ⟨wr.heap.size, 1, none⟩ = some (.int .i64 a) := by rw [cell_at b5]; rfl
      clear q5 b5 cb0 HW6
      by_cases ha : a = -1
      · subst ha
        go_wp2_with fail
        have hs : prF L m qs (l ++ t) = some X := by have := HST.out.2.1; simpa using this
        refine ⟨⟨m, l ++ t, qs, hs, HP5.out.1⟩, ?_⟩
        rw [HM.out]
        exact Nat.lt_succ_of_le (least_le ⟨l ++ t, qs, hs, HP5.out.1⟩)
      · have hda : (a == -1) = false := by simpa using ha
        have hst := HST.out.2.1
        rw [if_neg ha] at hst
        have hok : okP L a k = true := by
          cases hq : okP L a k with
          | true => rfl
          | false => rw [hq] at hst; cases hst
        rw [hok, if_pos rfl] at hst
        have HSt : Hid (prF L m (qs ++ pushP (nodeAt L a)) (l ++ t ++ sayP (nodeAt L a)) = some X) := hst
        clear hst
        unfold okP at hok
        simp only [Bool.and_eq_true, Bool.or_eq_true, Bool.not_eq_true', decide_eq_true_eq] at hok
        obtain ⟨⟨hhas, hinn⟩, hlen⟩ := hok
        obtain ⟨va, vc, rfl, _, vcc, _⟩ := id HQ.out.1
        obtain ⟨na, nb, no, kv, rfl, hna, rfl, hcs, hks⟩ := HQ.out.1.node hhas
        obtain ⟨d, hd⟩ : ∃ d, nodeAt L na = d := ⟨_, rfl⟩
        have hdm : d ∈ L := by
          rw [← hd]; unfold nodeAt
          rw [Int.toNat_natCast, List.getElem?_eq_getElem hna]
          exact List.getElem_mem hna
        rw [hd] at hcs hks hinn hlen
        have HSt2 : Hid (prF L m (qs ++ pushP d) (l ++ t ++ sayP d) = some X) := by have := HSt.out; rw [hd] at this; exact this
        have k5 : Kp w0 w5 := by obtain ⟨_, _, _, z⟩ := HP5.out.1; exact z.kp
        have HN7 : Hid (Calls Tryz.prog 42 #[.pointer (some ⟨pb, 0, none⟩), d.val kv] w5.drew fun e w' => e = .returned (.tuple #[]) ∧ Pws w0 pb (.slice (some ⟨nb, no, none⟩) L.length vc) root G cs (l ++ t ++ sayP d) (qs ++ pushP d) w') :=
          node_any (HP5.out.1.kp (kp_drew w5)) HQ.out.2.1 d (HQ.out.2.2.2.1 d hdm) hks (fun z => by
            rcases hinn with y | y
            · rw [z] at y; cases y
            · intro e; rw [e] at y; cases y) (by rw [HST.out.2.2]; omega) (by rw [List.length_append]; have := HST.out.1; omega)
        unfold Nq.val at HN7
        have n0 : w5.cell? ⟨nb, no + na * 11, none⟩ = some (.int .u8 d.op) := kp_cell k5 (hcs 0 _ rfl)
        have n1 := kp_cell k5 (hcs 1 _ rfl)
        have n2 := kp_cell k5 (hcs 2 _ rfl)
        have n3 := kp_cell k5 (hcs 3 _ rfl)
        have n4 := kp_cell k5 (hcs 4 _ rfl)
        have n5 := kp_cell k5 (hcs 5 _ rfl)
        have n6 := kp_cell k5 (hcs 6 _ rfl)
        have n7 := kp_cell k5 (hcs 7 _ rfl)
        have n8 := kp_cell k5 (hcs 8 _ rfl)
        have n9 := kp_cell k5 (hcs 9 _ rfl)
        have n10 := kp_cell k5 (hcs 10 _ rfl)
        obtain ⟨ka, kc, rfl, _, _, _⟩ := id hks
        have p0 : w5.cell? ⟨pb, 0, none⟩ = some (.slice (some ⟨nb, no, none⟩) L.length vc) := by
          obtain ⟨_, _, _, z⟩ := HP5.out.1
          exact z.pr.cells.1
        unfold maxLen at vcc
        clear hcs hks hinn hlen hhas hdm k5 hd
        go_wp2_with fail
        go_region_with (go_at_call 42; refine Calls.mono HN7.out ?_; rintro e w7 ⟨rfl, q7⟩)
        all_goals
          have HP7 : Hid _ := q7
          clear q7
          go_wp2_with fail
          refine ⟨⟨m, _, _, HSt2.out, HP7.out⟩, ?_⟩
          rw [HM.out]
          exact Nat.lt_succ_of_le (least_le ⟨_, _, HSt2.out, HP7.out⟩)
end
end Go.Proofs.YthloemacfdgjjaaGreatDoor
/- Print. -/
namespace Go.Proofs.YthloemacfdgjjaaGreatDoor
open Go.ChangeShapes Go.WideShapes Go.ChangeAt Go.RowKit
set_option linter.unusedVariables false
set_option linter.unusedSimpArgs false
section
variable {w : World} {v : Value} {root G : Int} {cs : Nat} {L : List Nq}
set_option maxHeartbeats 4000000 in
set_option maxRecDepth 100000 in
theorem pprint_any {K : Nat} (hv : Pt w v L) (hK : ∀ d ∈ L, d.kids.length ≤ K) (hM : K * L.length ≤ 10000000) (hLl : L.length ≤ 10000000) (g : Gl w) (hG : Sm G) (hL : ∀ d ∈ L, Nok d) (hs : soundF L root G = true) {X : List UInt8} {n : Nat} (hX : prF L n [(headT G cs, root)] [] = some X) (hne : X ≠ []) :
    Calls Tryz.prog 17 #[.agg #[v, .int .i64 root, .int .i64 G, .int .u8 cs]] w fun e w' => e = .returned (str X) ∧ Kp w w' := by
  have HS : Hid (∀ x, Kp w x → Calls Tryz.prog 12 #[.agg #[v, .int .i64 root, .int .i64 G, .int .u8 cs]] x fun e w' => e = .returned (.bool true) ∧ Kp x w') := fun x k => by
    have := sound_any (hv.kp k) root G cs hK hM hLl
    rw [hs] at this
    exact this
  have HP : Hid (∀ x pb, Kp w x → w.heap.size ≤ pb → Pr pb v root G cs (.pointer none) (.slice none 0 0) (.slice none 0 0) x → Calls Tryz.prog 26 #[.pointer (some ⟨pb, 0, none⟩)] x fun e w' => e = .returned (str X) ∧ Kp w w') := fun x pb k hb hp =>
    print_any ⟨_, _, _, k, hb, hp, .inl rfl, World.ownsRow_nil _ _ _ _, World.ownsRow_nil _ _ _ _⟩ hv g hG hL hX hne
  obtain ⟨va, vc, rfl, _, _, _⟩ := id hv
  clear hv hK hM hLl g hG hL hs hX hne
  go_enter Tryz.func17, Tryz.ntmps17
  go_wp2_with fail
  refine Calls.mono (HS.out _ (kp_alloc _ _)) ?_
  rintro e w1 ⟨rfl, q⟩
  have k1 : Kp w w1 := kp_trans (kp_alloc _ _) q
  have hb : PBox w.heap.size (.slice va L.length vc) root G cs w1 := (show PBox _ _ _ _ _ (w.alloc _) from alloc_new w _).kp q
  obtain ⟨c0, c1, c2, c3⟩ := hb.cells
  have HK : Hid (Kp w w1) := k1
  clear q k1 hb
  go_wp2_with fail
  refine Calls.mono (HP.out _ _ (kp_trans HK.out (kp_alloc _ _)) HK.out.size (alloc_new w1 _)) ?_
  rintro e w2 ⟨rfl, q⟩
  have HZ : Hid _ := q
  clear q
  go_wp2_with fail
  go_ret
  exact ⟨rfl, HZ.out⟩
end
end Go.Proofs.YthloemacfdgjjaaGreatDoor
/- The chapter's examples, read and written by the models. -/
namespace Go.Proofs.YthloemacfdgjjaaGreatDoor
open Go.ChangeShapes Go.WideShapes Go.ChangeAt Go.RowKit
set_option linter.unusedVariables false
set_option linter.unusedSimpArgs false
set_option maxRecDepth 100000
/-- What is told of a pattern that was read. -/
def see (R : Except (Nat × Nat) (Nat × RS)) : Except (Nat × Nat) (Nat × Nat × Nat × List Nd) :=
  match R with
  | .ok (i, r) => .ok (i, r.g, r.cs, r.nds)
  | .error x => .error x
def L1 : List Nd := [{ op := 2, c := 97 }, { op := 7, mn := 0, mx := -1, kids := [0] }]
def L2 : List Nd := [{ op := 2, c := 97 }, { op := 2, c := 98 }, { op := 8, n := 1, kids := [1] }, { op := 7, mn := 1, mx := -1, kids := [2] }, { op := 6, kids := [0, 3] }]
theorem kn1 : see (parF ⟨#[97, 42]⟩ ⟨#[]⟩) = .ok (1, 0, 0, L1) := by kernel_rfl
theorem kn2 : see (parF ⟨#[92, 118, 97, 124, 40, 98, 41, 43]⟩ ⟨#[]⟩) = .ok (4, 1, 0, L2) := by kernel_rfl
theorem kn3 : see (parF ⟨#[97, 92, 43, 92, 43]⟩ ⟨#[]⟩) = .error (32, 3) := by kernel_rfl
theorem ks1 : soundF (L1.map Nd.q) 1 0 = true := by kernel_rfl
theorem ks2 : soundF (L2.map Nd.q) 4 1 = true := by kernel_rfl
def T1 : List UInt8 := [48, 97, 58, 123, 48, 44, 45, 49, 125, 98, 54, 49]
def T2 : List UInt8 := [49, 97, 58, 40, 98, 54, 49, 124, 123, 49, 44, 45, 49, 125, 60, 49, 98, 54, 50, 62, 41]
theorem kp1 : prF (L1.map Nd.q) 20 [(headT 0 0, 1)] [] = some T1 := by kernel_rfl
theorem kp2 : prF (L2.map Nd.q) 40 [(headT 1 0, 4)] [] = some T2 := by kernel_rfl
end Go.Proofs.YthloemacfdgjjaaGreatDoor
/- The law's known. -/
namespace Go.Proofs.YthloemacfdgjjaaGreatDoor
open Go.ChangeShapes Go.WideShapes Go.ChangeAt Go.RowKit
set_option linter.unusedVariables false
set_option linter.unusedSimpArgs false
section
variable {w w1 : World}
/-- Parse, told by what is seen. -/
theorem parse_ok (s last : ByteArray) (g : Gl w) {i gs cs : Nat} {nds : List Nd} (h : see (parF s last) = .ok (i, gs, cs, nds)) :
    Calls Tryz.prog 9 #[.string s, .string last] w fun e w' => ∃ va vc, e = .returned (.tuple #[.agg #[.slice va nds.length vc, .int .i64 i, .int .i64 gs, .int .u8 cs], .int .u16 0, .int .i64 0]) ∧ Pt w' (.slice va nds.length vc) (nds.map Nd.q) ∧ Kp w w' := by
  obtain ⟨m, hm⟩ := g.max
  have := parse_any s last g.big hm
  cases hR : parF s last with
  | error x => rw [hR] at h; cases h
  | ok x =>
    obtain ⟨j, r⟩ := x
    rw [hR] at h this
    simp only [see, Except.ok.injEq, Prod.mk.injEq] at h
    obtain ⟨rfl, rfl, rfl, rfl⟩ := h
    refine this.mono ?_
    rintro e w' ⟨v, rfl, q1, q2⟩
    obtain ⟨va, vc, e, _⟩ := id q1
    rw [List.length_map] at e
    subst e
    exact ⟨va, vc, rfl, q1, q2⟩
theorem parse_no (s last : ByteArray) (g : Gl w) {n p : Nat} (h : see (parF s last) = .error (n, p)) :
    Calls Tryz.prog 9 #[.string s, .string last] w fun e w' => e = .returned (.tuple #[.agg #[.slice none 0 0, .int .i64 0, .int .i64 0, .int .u8 0], .int .u16 n, .int .i64 p]) ∧ Kp w w' := by
  obtain ⟨m, hm⟩ := g.max
  have := parse_any s last g.big hm
  cases hR : parF s last with
  | error x =>
    rw [hR] at h this
    simp only [see, Except.error.injEq] at h
    subst h
    exact this
  | ok x => rw [hR] at h; cases h
theorem nok1 : ∀ d ∈ L1.map Nd.q, Nok d := by
  intro d hd
  simp only [L1, List.map_cons, List.map_nil, List.mem_cons, List.not_mem_nil, or_false] at hd
  rcases hd with rfl | rfl <;> exact ⟨by decide, ⟨by decide, by decide, by decide, by decide⟩, by unfold Sm; decide, by unfold Sm; decide, by unfold Sm; decide⟩
theorem nok2 : ∀ d ∈ L2.map Nd.q, Nok d := by
  intro d hd
  simp only [L2, List.map_cons, List.map_nil, List.mem_cons, List.not_mem_nil, or_false] at hd
  rcases hd with rfl | rfl | rfl | rfl | rfl <;> exact ⟨by decide, ⟨by decide, by decide, by decide, by decide⟩, by unfold Sm; decide, by unfold Sm; decide, by unfold Sm; decide⟩
set_option maxHeartbeats 4000000 in
set_option maxRecDepth 100000 in
theorem known_any (g : Gl w) : Calls Tryz.prog 10 #[] w fun e w' => e = .returned (.bool true) ∧ Kp w w' := by
  have HG : Hid (Gl w) := g
  clear g
  go_enter Tryz.func10, Tryz.ntmps10
  go_wp2_with fail
  refine Calls.mono (parse_ok ⟨#[97, 42]⟩ ⟨#[]⟩ HG.out kn1) ?_
  rintro e w1 ⟨va1, vc1, rfl, q1, q2⟩
  have H1 : Hid (Pt w1 (.slice va1 2 vc1) (L1.map Nd.q) ∧ Kp w w1) := ⟨q1, q2⟩
  simp only [show L1.length = 2 from rfl]
  clear q1 q2
  go_wp2_with fail
  refine Calls.mono (parse_ok ⟨#[92, 118, 97, 124, 40, 98, 41, 43]⟩ ⟨#[]⟩ (HG.out.kp (kp_trans H1.out.2 (kp_alloc _ _))) kn2) ?_
  rintro e w2 ⟨va2, vc2, rfl, q1, q2⟩
  have H2 : Hid (Pt w2 (.slice va2 5 vc2) (L2.map Nd.q) ∧ Kp w w2 ∧ Kp w1 w2 ∧ PBox w1.heap.size (.slice va1 2 vc1) 1 0 0 w2) := ⟨q1, kp_trans (kp_trans H1.out.2 (kp_alloc _ _)) q2, kp_trans (kp_alloc _ _) q2, (show PBox _ _ _ _ _ (w1.alloc _) from alloc_new w1 _).kp q2⟩
  simp only [show L2.length = 5 from rfl]
  clear q1 q2
  go_wp2_with fail
  refine Calls.mono (parse_no ⟨#[97, 92, 43, 92, 43]⟩ ⟨#[]⟩ (HG.out.kp (kp_trans H2.out.2.1 (kp_alloc _ _))) kn3) ?_
  rintro e w3 ⟨rfl, q⟩
  have H3 : Hid (Kp w w3 ∧ Pt w3 (.slice va1 2 vc1) (L1.map Nd.q) ∧ Pt w3 (.slice va2 5 vc2) (L2.map Nd.q) ∧ PBox w1.heap.size (.slice va1 2 vc1) 1 0 0 w3 ∧ PBox w2.heap.size (.slice va2 5 vc2) 4 1 0 w3) :=
    ⟨kp_trans (kp_trans H2.out.2.1 (kp_alloc _ _)) q, (H1.out.1.kp H2.out.2.2.1).kp (kp_trans (kp_alloc _ _) q), H2.out.1.kp (kp_trans (kp_alloc _ _) q), H2.out.2.2.2.kp (kp_trans (kp_alloc _ _) q), (show PBox _ _ _ _ _ (w2.alloc _) from alloc_new w2 _).kp q⟩
  clear q
  have HA : Hid (∀ ob, PBox w1.heap.size (.slice va1 2 vc1) 1 0 0 (w3.alloc ob)) := fun ob => H3.out.2.2.2.1.kp (kp_alloc _ _)
  have y0 := fun ob => (HA.out ob).cells.1
  have y1 := fun ob => (HA.out ob).cells.2.1
  have y2 := fun ob => (HA.out ob).cells.2.2.1
  have y3 := fun ob => (HA.out ob).cells.2.2.2
  go_wp2_with fail
  refine Calls.mono (pprint_any (K := 2) (H3.out.2.1.kp (kp_alloc _ _)) (by decide) (by decide) (by decide) (HG.out.kp (kp_trans H3.out.1 (kp_alloc _ _))) (by unfold Sm; decide) nok1 ks1 kp1 (by decide)) ?_
  rintro e w4 ⟨rfl, q⟩
  have H4 : Hid (Kp w w4 ∧ Pt w4 (.slice va2 5 vc2) (L2.map Nd.q) ∧ PBox w2.heap.size (.slice va2 5 vc2) 4 1 0 w4) := ⟨kp_trans (kp_trans H3.out.1 (kp_alloc _ _)) q, H3.out.2.2.1.kp (kp_trans (kp_alloc _ _) q), H3.out.2.2.2.2.kp (kp_trans (kp_alloc _ _) q)⟩
  clear q y0 y1 y2 y3 HA
  obtain ⟨y0, y1, y2, y3⟩ := H4.out.2.2.cells
  unfold T1
  go_wp2_with fail
  refine Calls.mono (pprint_any (K := 2) H4.out.2.1 (by decide) (by decide) (by decide) (HG.out.kp H4.out.1) (by unfold Sm; decide) nok2 ks2 kp2 (by decide)) ?_
  rintro e w5 ⟨rfl, q⟩
  have H5 : Hid (Kp w w5) := kp_trans H4.out.1 q
  clear q y0 y1 y2 y3
  unfold T2
  go_wp2_with fail
  go_ret
  exact ⟨rfl, H5.out⟩
end
end Go.Proofs.YthloemacfdgjjaaGreatDoor
/- PatGroups: the walk. -/
namespace Go.Proofs.YthloemacfdgjjaaGreatDoor
open Go.ChangeShapes Go.WideShapes Go.ChangeAt Go.RowKit
set_option linter.unusedVariables false
set_option linter.unusedSimpArgs false
def rp (x : List UInt8) : Nat → List UInt8
  | 0 => []
  | i + 1 => rp x i ++ x
theorem rp_len (x : List UInt8) (i : Nat) : (rp x i).length = i * x.length := by
  induction i with
  | zero => simp [rp]
  | succ i ih => rw [rp, List.length_append, ih, Nat.succ_mul]
def sG (b : Bool) (i : Nat) : List UInt8 := if b then rp [92, 40, 97] i else rp [92, 40, 97, 92, 41] i
def eG (b : Bool) (i : Nat) : List UInt8 := if b then rp [92, 41] i else []
def chG (b : Bool) (m : Nat) : Bool :=
  match see (parF ⟨(sG b m ++ eG b m).toArray⟩ ⟨#[]⟩) with
  | .ok (_, g, _, _) => decide (m ≤ 9) && g == m
  | .error (n, p) => decide (9 < m) && n == 31 && p == (if b then 27 else 45)
theorem chG_all : ∀ (b : Bool) (m : Fin 12), chG b m.val = true := by decide +kernel
section
variable {w w1 : World}
set_option maxHeartbeats 4000000 in
set_option maxRecDepth 100000 in
theorem groups_law (n : Nat) (hn : n < 256) (b : Bool) (g : Gl w) : Calls Tryz.prog 3 #[.int .u8 n, .bool b] w fun e w' => e = .returned (.bool true) ∧ Kp w w' := by
  obtain ⟨M, hM⟩ : ∃ M, n % 12 = M := ⟨_, rfl⟩
  have hm : (n : Int) % 12 = (M : Int) := by omega
  have hM11 : M ≤ 11 := by omega
  have HG : Hid (Gl w) := g
  clear g hM
  cases b
  · go_enter Tryz.func3, Tryz.ntmps3
    go_wp2_with fail
    go_loopw [6, 7, 8] (fun v6 v7 v8 wr => ∃ i : Nat, i ≤ M ∧ v8 = .int .i64 i ∧ v6 = str (sG false i) ∧ v7 = str (eG false i) ∧ wr = w) (fun _ _ v8 _ => M - (intOf v8).toNat)
    case atStart => exact ⟨0, Nat.zero_le _, rfl, rfl, rfl, rfl⟩
    case round =>
      obtain ⟨i, hi, rfl, rfl, rfl, rfl⟩ := hrel
      by_cases hlt : i < M
      · have dl : decide ((i : Int) < (M : Int)) = true := decide_eq_true (by omega)
        obtain ⟨y, hy⟩ : ∃ y, sG false i ++ [92, 40, 97] = y := ⟨_, rfl⟩
        have hA1 := cat_run hy (by rw [← hy]; simp [sG, rp_len]; omega)
        have hA2 := cat_run (show y ++ [92, 41] = sG false (i + 1) from by rw [← hy]; simp [sG, rp]) (by simp [sG, rp_len]; omega)
        clear hy
        go_wp2_with fail
        go_roundw
        case rel => exact ⟨i + 1, by omega, by go_num, rfl, rfl, by simp⟩
        case measure => simp [intOf]; omega
      · obtain rfl : i = M := by omega
        have dl : decide ((i : Int) < (i : Int)) = false := by simp
        have HC : Hid (chG false i = true ∧ i ≤ 11) := ⟨chG_all false ⟨i, by omega⟩, hM11⟩
        obtain ⟨z, hz⟩ : ∃ z, sG false i ++ eG false i = z := ⟨_, rfl⟩
        have hA := cat_run hz (by rw [← hz]; simp [sG, eG, rp_len]; omega)
        have HZ : Hid (sG false i ++ eG false i = z) := hz
        clear hz
        cases hR : see (parF ⟨z.toArray⟩ ⟨#[]⟩) with
        | ok x =>
          obtain ⟨r, gs, cs, nds⟩ := x
          have hc := HC.out.1
          unfold chG at hc
          rw [HZ.out, hR] at hc
          simp at hc
          obtain ⟨h9, rfl⟩ := hc
          have d9 : decide ((gs : Int) ≤ 9) = true := decide_eq_true (by omega)
          have HR : Hid (see (parF ⟨z.toArray⟩ ⟨#[]⟩) = .ok (r, gs, cs, nds)) := hR
          clear hR
          go_wp2_with fail
          refine Calls.mono (parse_ok ⟨z.toArray⟩ ⟨#[]⟩ HG.out HR.out) ?_
          rintro e w1 ⟨va, vc, rfl, q1, q2⟩
          have H1 : Hid (Kp wr w1) := q2
          clear q1 q2
          go_wp2_with fail
          refine Calls.mono (known_any (HG.out.kp (kp_trans H1.out (kp_alloc _ _)))) ?_
          rintro e w2 ⟨rfl, q2⟩
          have hb : PBox w1.heap.size (.slice va nds.length vc) r gs cs w2 := (show PBox _ _ _ _ _ (w1.alloc _) from alloc_new w1 _).kp q2
          obtain ⟨y0, y1, y2, y3⟩ := hb.cells
          have H2 : Hid (Kp wr w2) := kp_trans (kp_trans H1.out (kp_alloc _ _)) q2
          clear q2 hb
          go_wp2_with fail
          go_ret
          exact ⟨by simp, H2.out⟩
        | error x =>
          obtain ⟨en, ep⟩ := x
          have hc := HC.out.1
          unfold chG at hc
          rw [HZ.out, hR] at hc
          simp at hc
          obtain ⟨⟨h9, rfl⟩, rfl⟩ := hc
          have d9 : decide ((i : Int) ≤ 9) = false := decide_eq_false (by omega)
          have HR : Hid (see (parF ⟨z.toArray⟩ ⟨#[]⟩) = .error (31, 45)) := hR
          clear hR
          go_wp2_with fail
          refine Calls.mono (parse_no ⟨z.toArray⟩ ⟨#[]⟩ HG.out HR.out) ?_
          rintro e w1 ⟨rfl, q2⟩
          have H1 : Hid (Kp wr w1) := q2
          clear q2
          go_wp2_with fail
          refine Calls.mono (known_any (HG.out.kp (kp_trans H1.out (kp_alloc _ _)))) ?_
          rintro e w2 ⟨rfl, q2⟩
          have H2 : Hid (Kp wr w2) := kp_trans (kp_trans H1.out (kp_alloc _ _)) q2
          clear q2
          go_wp2_with fail
          go_ret
          exact ⟨by simp, H2.out⟩
  · go_enter Tryz.func3, Tryz.ntmps3
    go_wp2_with fail
    go_loopw [6, 7, 8] (fun v6 v7 v8 wr => ∃ i : Nat, i ≤ M ∧ v8 = .int .i64 i ∧ v6 = str (sG true i) ∧ v7 = str (eG true i) ∧ wr = w) (fun _ _ v8 _ => M - (intOf v8).toNat)
    case atStart => exact ⟨0, Nat.zero_le _, rfl, rfl, rfl, rfl⟩
    case round =>
      obtain ⟨i, hi, rfl, rfl, rfl, rfl⟩ := hrel
      by_cases hlt : i < M
      · have dl : decide ((i : Int) < (M : Int)) = true := decide_eq_true (by omega)
        have hA1 := cat_run (show sG true i ++ [92, 40, 97] = sG true (i + 1) from rfl) (by simp [sG, rp_len]; omega)
        have hA2 := cat_run (show eG true i ++ [92, 41] = eG true (i + 1) from rfl) (by simp [eG, rp_len]; omega)
        go_wp2_with fail
        go_roundw
        case rel => exact ⟨i + 1, by omega, by go_num, rfl, rfl, by simp⟩
        case measure => simp [intOf]; omega
      · obtain rfl : i = M := by omega
        have dl : decide ((i : Int) < (i : Int)) = false := by simp
        have HC : Hid (chG true i = true ∧ i ≤ 11) := ⟨chG_all true ⟨i, by omega⟩, hM11⟩
        obtain ⟨z, hz⟩ : ∃ z, sG true i ++ eG true i = z := ⟨_, rfl⟩
        have hA := cat_run hz (by rw [← hz]; simp [sG, eG, rp_len]; omega)
        have HZ : Hid (sG true i ++ eG true i = z) := hz
        clear hz
        cases hR : see (parF ⟨z.toArray⟩ ⟨#[]⟩) with
        | ok x =>
          obtain ⟨r, gs, cs, nds⟩ := x
          have hc := HC.out.1
          unfold chG at hc
          rw [HZ.out, hR] at hc
          simp at hc
          obtain ⟨h9, rfl⟩ := hc
          have d9 : decide ((gs : Int) ≤ 9) = true := decide_eq_true (by omega)
          have HR : Hid (see (parF ⟨z.toArray⟩ ⟨#[]⟩) = .ok (r, gs, cs, nds)) := hR
          clear hR
          go_wp2_with fail
          refine Calls.mono (parse_ok ⟨z.toArray⟩ ⟨#[]⟩ HG.out HR.out) ?_
          rintro e w1 ⟨va, vc, rfl, q1, q2⟩
          have H1 : Hid (Kp wr w1) := q2
          clear q1 q2
          go_wp2_with fail
          refine Calls.mono (known_any (HG.out.kp (kp_trans H1.out (kp_alloc _ _)))) ?_
          rintro e w2 ⟨rfl, q2⟩
          have hb : PBox w1.heap.size (.slice va nds.length vc) r gs cs w2 := (show PBox _ _ _ _ _ (w1.alloc _) from alloc_new w1 _).kp q2
          obtain ⟨y0, y1, y2, y3⟩ := hb.cells
          have H2 : Hid (Kp wr w2) := kp_trans (kp_trans H1.out (kp_alloc _ _)) q2
          clear q2 hb
          go_wp2_with fail
          go_ret
          exact ⟨by simp, H2.out⟩
        | error x =>
          obtain ⟨en, ep⟩ := x
          have hc := HC.out.1
          unfold chG at hc
          rw [HZ.out, hR] at hc
          simp at hc
          obtain ⟨⟨h9, rfl⟩, rfl⟩ := hc
          have d9 : decide ((i : Int) ≤ 9) = false := decide_eq_false (by omega)
          have HR : Hid (see (parF ⟨z.toArray⟩ ⟨#[]⟩) = .error (31, 27)) := hR
          clear hR
          go_wp2_with fail
          refine Calls.mono (parse_no ⟨z.toArray⟩ ⟨#[]⟩ HG.out HR.out) ?_
          rintro e w1 ⟨rfl, q2⟩
          have H1 : Hid (Kp wr w1) := q2
          clear q2
          go_wp2_with fail
          refine Calls.mono (known_any (HG.out.kp (kp_trans H1.out (kp_alloc _ _)))) ?_
          rintro e w2 ⟨rfl, q2⟩
          have H2 : Hid (Kp wr w2) := kp_trans (kp_trans H1.out (kp_alloc _ _)) q2
          clear q2
          go_wp2_with fail
          go_ret
          exact ⟨by simp, H2.out⟩
end
end Go.Proofs.YthloemacfdgjjaaGreatDoor
