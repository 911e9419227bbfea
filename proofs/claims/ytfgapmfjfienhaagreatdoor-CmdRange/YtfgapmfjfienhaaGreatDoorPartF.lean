/- Texts that the proof of the law stands on: SM, SO, QT, QU, QV, QW, QX, QM, QN, QP. -/
import Derived.Test.YtfgapmfjfienhaaGreatDoorPartA
import Derived.Test.YtfgapmfjfienhaaGreatDoorPartE
import Derived.Great.Walk
import Derived.Maps.RangeWalk
/- A map whose keys are texts, as a function from a text to what stands at it; a range over one that is under way. -/
namespace Go.Proofs.YtfgapmfjfienhaaGreatDoor
open Go.ChangeShapes Go.WideShapes Go.ChangeAt Go.RowKit Go.Maps Go.MapKept
open Go.ChangeMaps (setBlock heap_setBlock_same heap_setBlock_other modify_eq_set)
set_option linter.unusedVariables false
set_option linter.unusedSimpArgs false
theorem keyI : Keyed Tryz.prog 9 := string_keyed Tryz.underlying9
theorem keyB {x : ByteArray} (h0 : x.size ≤ maxLen) (h1 : 0 ≤ x.size) : keyOf Tryz.prog 9 (.string x) = some (.string x.data.toList) := WideMaps.keyOf_string_mk Tryz.underlying9 h0
/-- The entries say f. -/
structure Hld (es : Array MapEntry) (f : ByteArray → Option Value) : Prop where
  on : ∀ e ∈ es.toList, ∃ x, e.key = .string x ∧ x.size ≤ maxLen ∧ 0 ≤ x.size ∧ f x = some e.val
  at_ : ∀ x v, f x = some v → ∃ e ∈ es.toList, e.key = .string x ∧ e.val = v
/-- At block b lies a map that says f. -/
def Mp (b : Nat) (f : ByteArray → Option Value) (w : World) : Prop := ∃ es clock, w.heap[b]? = some (.map es clock) ∧ Stamped es clock ∧ Hld es f
def upd (f : ByteArray → Option Value) (x : ByteArray) (v : Option Value) : ByteArray → Option Value := fun y => if y = x then v else f y
section
variable {b r : Nat} {f : ByteArray → Option Value} {w w1 : World}
theorem Mp.lt (h : Mp b f w) : b < w.heap.size := by obtain ⟨es, c, h, _⟩ := h; exact (Array.getElem?_eq_some_iff.1 h).1
theorem Mp.heap (h : Mp b f w) (he : w1.heap[b]? = w.heap[b]?) : Mp b f w1 := by obtain ⟨es, c, h, r⟩ := h; exact ⟨es, c, he.trans h, r⟩
theorem Mp.kp (h : Mp b f w) (k : Kp w w1) : Mp b f w1 := h.heap (k.block b h.lt)
theorem Mp.fr {S : Nat → Prop} (h : Mp b f w) (k : Fr S w w1) (hn : ¬ S b) : Mp b f w1 := h.heap (k.block b h.lt hn)
theorem Mp.ne {T : TypeId} {t : Nat} {l : List Value} (h : Mp b f w) (k : Lc T t l w) : t ≠ b := by
  rintro rfl; obtain ⟨es, c, h, _⟩ := h; unfold Lc at k; rw [k] at h; cases h
theorem Mp.range (h : Mp b f w) {x : ByteArray} {v : Value} (hx : f x = some v) : x.size ≤ maxLen ∧ 0 ≤ x.size := by
  obtain ⟨es, c, _, _, H⟩ := h
  obtain ⟨e, he, hk, _⟩ := H.at_ x v hx
  obtain ⟨y, hy, h0, h1, _⟩ := H.on e he
  rw [hk] at hy; cases hy; exact ⟨h0, h1⟩
theorem Hld.one {es : Array MapEntry} {clock : Nat} (H : Hld es f) (S : Stamped es clock) {e e' : MapEntry} (h : e ∈ es.toList) (h' : e' ∈ es.toList) (hk : e.key = e'.key) : e = e' := entry_eq_of_key ((stamped_iff es clock).1 S).2.2 h h' hk
theorem at_key {es : Array MapEntry} {c : Nat} (S : Stamped es c) {i j : Nat} {e e' : MapEntry} (hi : es.toList[i]? = some e) (hj : es.toList[j]? = some e') (hk : e.key = e'.key) : i = j := by
  have hp := ((stamped_iff es c).1 S).2.2
  rw [List.pairwise_iff_getElem] at hp
  obtain ⟨li, rfl⟩ := List.getElem?_eq_some_iff.1 hi
  obtain ⟨lj, rfl⟩ := List.getElem?_eq_some_iff.1 hj
  rcases Nat.lt_trichotomy i j with q | q | q
  · exact absurd hk (hp i j li lj q)
  · exact q
  · exact absurd hk.symm (hp j i lj li q)
theorem Hld.keys {es : Array MapEntry} (H : Hld es f) : ∀ e ∈ es.toList, ∃ l, keyOf Tryz.prog 9 e.key = some l := fun e he => by
  obtain ⟨x, hx, h0, h1, _⟩ := H.on e he
  exact ⟨_, by rw [hx]; exact keyB h0 h1⟩
theorem fr_block (w : World) (b : Nat) (o : Obj) (hb : b < w.heap.size) : Fr (On b) w (setBlock w b o) :=
  ⟨rfl, rfl, rfl, by simp [setBlock], fun k hk hn => by unfold On at hn; simp [setBlock, Array.getElem?_setIfInBounds, Ne.symm hn]⟩
/-- Looked up. -/
theorem Mp.look (h : Mp b f w) {x : ByteArray} (h0 : x.size ≤ maxLen) (h1 : 0 ≤ x.size) {t e : TypeId} (ht : Tryz.prog.underlying t = some (.map 9 e)) {z : Value} (hz : (zeroValue e).run Tryz.prog w = .ok z w) (ok : Bool) :
    (Instr.lookup t (.map (some b)) (.string x) ok).run Tryz.prog w = .ok (if ok then .tuple #[(f x).getD z, .bool (f x).isSome] else (f x).getD z) w := by
  obtain ⟨es, c, hb, S, H⟩ := h
  rcases keyI.find w (keyB h0 h1) es.toList H.keys with ⟨h2, h3⟩ | ⟨j, e0, h2, h3, h4⟩
  · have hn : f x = none := by
      cases q : f x with
      | none => rfl
      | some v => obtain ⟨e, he, hk, _⟩ := H.at_ x v q; exact absurd hk (h3 e he)
    simp [Instr.lookup, run_underlying ht, MapKept.run_getObj_map hb, keyI.check w _ (keyB h0 h1), h2, hz, Result.andThen, hn]
  · have hs : f x = some e0.val := by
      obtain ⟨y, hy, _, _, hv⟩ := H.on e0 (List.mem_of_getElem? h3)
      rw [h4] at hy; cases hy; exact hv
    simp [Instr.lookup, run_underlying ht, MapKept.run_getObj_map hb, keyI.check w _ (keyB h0 h1), h2, Result.andThen, hs]
/-- Stored: the entries behind it, and what has become of each. -/
theorem store_who {es : Array MapEntry} {c : Nat} (hb : w.heap[b]? = some (.map es c)) (S : Stamped es c) (H : Hld es f) {x : ByteArray} (h0 : x.size ≤ maxLen) (h1 : 0 ≤ x.size) {t e : TypeId} (ht : Tryz.prog.underlying t = some (.map 9 e)) (v : Value) :
    ∃ es' c', (Instr.mapUpdate t (.map (some b)) (.string x) v).run Tryz.prog w = .ok () (setBlock w b (.map es' c')) ∧ Stamped es' c' ∧ Hld es' (upd f x (some v)) ∧
      (f x ≠ none → c' = c ∧ es'.toList.map (·.born) = es.toList.map (·.born) ∧ es'.toList.map (·.key) = es.toList.map (·.key)) := by
  rcases keyI.find w (keyB h0 h1) es.toList H.keys with ⟨h2, h3⟩ | ⟨j, e0, h2, h3, h4⟩
  · refine ⟨es.push ⟨.string x, v, c⟩, c + 1, ?_, stamped_push S h3, ⟨fun e he => ?_, fun y u hy => ?_⟩, fun hn => ?_⟩
    · simp [Instr.mapUpdate, run_underlying ht, MapKept.run_getObj_map hb, keyI.check w false (keyB h0 h1), h2, MapKept.run_setObj_map _ hb, Result.andThen, setBlock]
    · simp only [Array.toList_push, List.mem_append, List.mem_singleton] at he
      rcases he with he | rfl
      · obtain ⟨y, hy, y0, y1, hv⟩ := H.on e he
        have : y ≠ x := fun q => h3 e he (by rw [hy, q])
        exact ⟨y, hy, y0, y1, by unfold upd; rw [if_neg this]; exact hv⟩
      · exact ⟨x, rfl, h0, h1, by unfold upd; rw [if_pos rfl]⟩
    · unfold upd at hy
      split at hy
      · rename_i q; subst q; cases hy
        exact ⟨⟨.string y, v, c⟩, by simp, rfl, rfl⟩
      · obtain ⟨e, he, r⟩ := H.at_ y u hy
        exact ⟨e, by simp [he], r⟩
    · exfalso
      cases q : f x with
      | none => exact hn q
      | some u => obtain ⟨e, he, hk, _⟩ := H.at_ x u q; exact h3 e he hk
  · have hj : es[j]? = some e0 := by simpa using h3
    have hjl : j < es.toList.length := (List.getElem?_eq_some_iff.1 h3).1
    have hm0 : e0 ∈ es.toList := List.mem_of_getElem? h3
    have hlist : (es.modify j (fun e' => { e' with key := .string x, val := v })).toList = es.toList.set j { e0 with key := .string x, val := v } := by rw [Array.toList_modify, modify_eq_set _ _ _ _ h3]
    refine ⟨es.modify j (fun e' => { e' with key := .string x, val := v }), c, ?_, stamped_modify S j _ (fun _ _ => rfl) (fun e' _ he' => by rw [hj] at he'; cases he'; exact h4.symm), ⟨fun e he => ?_, fun y u hy => ?_⟩, fun _ => ⟨rfl, ?_, ?_⟩⟩
    · have hk : (Instr.keyThatStays e0.key (.string x)).run Tryz.prog w = .ok (.string x) w := by rw [h4]; exact keyI.stays w (keyB h0 h1)
      simp [Instr.mapUpdate, run_underlying ht, MapKept.run_getObj_map hb, keyI.check w false (keyB h0 h1), h2, hj, hk, MapKept.run_setObj_map _ hb, Result.andThen, setBlock]
    · rw [hlist] at he
      obtain ⟨i, hi⟩ := List.getElem?_of_mem he
      by_cases q : i = j
      · subst q
        rw [List.getElem?_set_self hjl] at hi
        cases hi
        exact ⟨x, rfl, h0, h1, by unfold upd; rw [if_pos rfl]⟩
      · rw [List.getElem?_set_ne (Ne.symm q)] at hi
        obtain ⟨y, hy, y0, y1, hv⟩ := H.on e (List.mem_of_getElem? hi)
        have : y ≠ x := fun p => q (at_key S hi h3 (by rw [hy, h4, p]))
        exact ⟨y, hy, y0, y1, by unfold upd; rw [if_neg this]; exact hv⟩
    · rw [hlist]
      unfold upd at hy
      split at hy
      · rename_i q; subst q; cases hy
        exact ⟨{ e0 with key := .string y, val := v }, List.mem_of_getElem? (List.getElem?_set_self hjl), rfl, rfl⟩
      · rename_i q
        obtain ⟨e, he, hk, hu⟩ := H.at_ y u hy
        obtain ⟨i, hi⟩ := List.getElem?_of_mem he
        have hij : i ≠ j := fun p => by
          subst p; rw [h3] at hi; cases hi; rw [h4] at hk; cases hk; exact q rfl
        exact ⟨e, List.mem_of_getElem? (by rw [List.getElem?_set_ne (Ne.symm hij)]; exact hi), hk, hu⟩
    · rw [hlist, List.map_set]
      refine List.ext_getElem? fun i => ?_
      by_cases q : i = j
      · subst q; rw [List.getElem?_set_self (by simpa using hjl), List.getElem?_map, h3]; rfl
      · rw [List.getElem?_set_ne (Ne.symm q)]
    · rw [hlist, List.map_set]
      refine List.ext_getElem? fun i => ?_
      by_cases q : i = j
      · subst q; rw [List.getElem?_set_self (by simpa using hjl), List.getElem?_map, h3, Option.map_some, h4]
      · rw [List.getElem?_set_ne (Ne.symm q)]
/-- Stored. -/
theorem Mp.store (h : Mp b f w) {x : ByteArray} (h0 : x.size ≤ maxLen) (h1 : 0 ≤ x.size) {t e : TypeId} (ht : Tryz.prog.underlying t = some (.map 9 e)) (v : Value) :
    ∃ w', (Instr.mapUpdate t (.map (some b)) (.string x) v).run Tryz.prog w = .ok () w' ∧ Mp b (upd f x (some v)) w' ∧ Fr (On b) w w' ∧ w'.heap.size = w.heap.size := by
  have hl := h.lt
  obtain ⟨es, c, hb, S, H⟩ := h
  obtain ⟨es', c', hr, S', H', _⟩ := store_who hb S H h0 h1 ht v
  exact ⟨_, hr, ⟨es', c', heap_setBlock_same hb _, S', H'⟩, fr_block w b _ hl, by simp [setBlock]⟩
/-- Taken out: who is left. -/
theorem drop_who {es : Array MapEntry} {c : Nat} (hb : w.heap[b]? = some (.map es c)) (S : Stamped es c) (H : Hld es f) {x : ByteArray} (h0 : x.size ≤ maxLen) (h1 : 0 ≤ x.size) {t e ty : TypeId} (ht : Tryz.prog.underlying t = some (.map 9 e)) :
    ∃ es', (Builtin.delete_ #[t, 9] ty #[.map (some b), .string x]).run Tryz.prog w = .ok (.tuple #[]) (setBlock w b (.map es' c)) ∧ Stamped es' c ∧ Hld es' (upd f x none) ∧ es'.toList.Sublist es.toList := by
  rcases keyI.find w (keyB h0 h1) es.toList H.keys with ⟨h2, h3⟩ | ⟨j, e0, h2, h3, h4⟩
  · refine ⟨es, ?_, S, ⟨fun e he => ?_, fun y u hy => ?_⟩, List.Sublist.refl _⟩
    · simp [Builtin.delete_, run_underlying ht, MapKept.run_getObj_map hb, keyI.check w _ (keyB h0 h1), h2, MapKept.run_setObj_map _ hb, Result.andThen, setBlock]
    · obtain ⟨y, hy, y0, y1, hv⟩ := H.on e he
      have : y ≠ x := fun q => h3 e he (by rw [hy, q])
      exact ⟨y, hy, y0, y1, by unfold upd; rw [if_neg this]; exact hv⟩
    · unfold upd at hy
      split at hy
      · cases hy
      · exact H.at_ y u hy
  · have hjl : j < es.toList.length := (List.getElem?_eq_some_iff.1 h3).1
    have hjs : j < es.size := by simpa using hjl
    have hsub : (es.eraseIdxIfInBounds j).toList = es.toList.eraseIdx j := by
      unfold Array.eraseIdxIfInBounds
      rw [dif_pos hjs]
      simp
    refine ⟨es.eraseIdxIfInBounds j, ?_, stamped_erase S j, ⟨fun e he => ?_, fun y u hy => ?_⟩, by rw [hsub]; exact List.eraseIdx_sublist _ _⟩
    · simp [Builtin.delete_, run_underlying ht, MapKept.run_getObj_map hb, keyI.check w _ (keyB h0 h1), h2, MapKept.run_setObj_map _ hb, Result.andThen, setBlock]
    · rw [hsub, List.mem_eraseIdx_iff_getElem?] at he
      obtain ⟨i, hne, hi⟩ := he
      obtain ⟨y, hy, y0, y1, hv⟩ := H.on e (List.mem_of_getElem? hi)
      have : y ≠ x := fun p => hne (at_key S hi h3 (by rw [hy, h4, p]))
      exact ⟨y, hy, y0, y1, by unfold upd; rw [if_neg this]; exact hv⟩
    · unfold upd at hy
      split at hy
      · cases hy
      · rename_i q
        obtain ⟨e, he, hk, hu⟩ := H.at_ y u hy
        obtain ⟨i, hi⟩ := List.getElem?_of_mem he
        have hij : i ≠ j := fun p => by
          subst p; rw [h3] at hi; cases hi; rw [h4] at hk; cases hk; exact q rfl
        exact ⟨e, by rw [hsub, List.mem_eraseIdx_iff_getElem?]; exact ⟨i, hij, hi⟩, hk, hu⟩
/-- A range over the map at b is under way, its iterator at r: 'left' are the keys that are still to come, c of them. -/
def Rgg (b r : Nat) (f : ByteArray → Option Value) (left : ByteArray → Bool) (c : Nat) (w : World) : Prop :=
  ∃ es clock since seen c0, w.heap[b]? = some (.map es clock) ∧ Stamped es clock ∧ Hld es f ∧ w.heap[r]? = some (.mapIter (some b) since seen c0) ∧ (∀ x ∈ es.toList, x.born < since) ∧ (leftOf es seen).size = c ∧
    (∀ e ∈ es.toList, ∀ x, e.key = .string x → left x = !seen.contains e.born) ∧ (∀ x, left x = true → f x ≠ none) ∧ since ≤ c0 ∧ since ≤ clock
variable {left : ByteArray → Bool} {c : Nat}
theorem Rgg.map (h : Rgg b r f left c w) : Mp b f w := by obtain ⟨es, cl, _, _, _, hb, S, H, _⟩ := h; exact ⟨es, cl, hb, S, H⟩
theorem Rgg.ne (h : Rgg b r f left c w) : r ≠ b := by
  obtain ⟨es, cl, s, q, c0, hb, _, _, hr, _⟩ := h
  intro e; rw [e, hb] at hr; cases hr
theorem Rgg.lt (h : Rgg b r f left c w) : r < w.heap.size := by obtain ⟨es, cl, s, q, c0, hb, _, _, hr, _⟩ := h; exact (Array.getElem?_eq_some_iff.1 hr).1
theorem Rgg.heap (h : Rgg b r f left c w) (hb : w1.heap[b]? = w.heap[b]?) (hr : w1.heap[r]? = w.heap[r]?) : Rgg b r f left c w1 := by
  obtain ⟨es, cl, s, q, c0, h1, h2, h3, h4, rest⟩ := h
  exact ⟨es, cl, s, q, c0, hb.trans h1, h2, h3, hr.trans h4, rest⟩
theorem Rgg.kp (h : Rgg b r f left c w) (k : Kp w w1) : Rgg b r f left c w1 := h.heap (k.block b h.map.lt) (k.block r h.lt)
theorem Rgg.left_eq (h : Rgg b r f left c w) : w.rangeLeft b r = c := by
  obtain ⟨es, cl, s, q, c0, hb, _, _, hr, _, hc, _⟩ := h
  simp only [World.rangeLeft, hb, hr]
  exact hc
/-- A range begins. -/
theorem Mp.ranged (h : Mp b f w) {t e : TypeId} (ht : Tryz.prog.underlying t = some (.map 9 e)) :
    ∃ w' c, (Instr.range t (.map (some b))).run Tryz.prog w = .ok (.pointer (some ⟨w.heap.size, 0, none⟩)) w' ∧ Rgg b w.heap.size f (fun x => (f x).isSome) c w' ∧ Kp w w' ∧ w'.heap.size = w.heap.size + 1 := by
  have hlt := h.lt
  obtain ⟨es, cl, hb, S, H⟩ := h
  refine ⟨_, _, run_range_map w t 9 e b es cl ht hb, ⟨es, cl, cl, #[], cl, (alloc_old _ _ b hlt).trans hb, S, H, alloc_new _ _, ((stamped_iff es cl).1 S).1, rfl, fun e he x hx => ?_, fun x hx => ?_, Nat.le_refl _, Nat.le_refl _⟩, kp_alloc _ _, by rw [alloc_size]⟩
  · obtain ⟨y, hy, _, _, hv⟩ := H.on e he
    rw [hx] at hy; cases hy
    simp [hv]
  · intro q; simp [q] at hx
/-- One more comes, or none is left. -/
theorem Rgg.next (h : Rgg b r f left c w) (ty : TypeId) :
    ((∀ x, left x = false) ∧ (Instr.next (.pointer (some ⟨r, 0, none⟩)) false ty).run Tryz.prog w = .ok (.tuple #[.bool false]) w) ∨
    ∃ x v w' c', x.size ≤ maxLen ∧ 0 ≤ x.size ∧ left x = true ∧ f x = some v ∧ (Instr.next (.pointer (some ⟨r, 0, none⟩)) false ty).run Tryz.prog w = .ok (.tuple #[.bool true, .string x, v]) w' ∧
      Rgg b r f (fun y => left y && !decide (y = x)) c' w' ∧ c' < c ∧ Fr (On r) w w' ∧ w'.heap.size = w.heap.size ∧ (Instr.entry (.pointer (some ⟨r, 0, none⟩))).run Tryz.prog w' = .ok (.tuple #[.string x, v]) w' := by
  have hne := h.ne
  have hrl := h.lt
  obtain ⟨es, cl, since, seen, c0, hb, S, H, hr, hold, rfl, hl1, hl2, hsc, hsk⟩ := h
  rcases run_next_at (P := Tryz.prog) w ty r b since c0 seen es cl hr hb hold hsc with ⟨h0, hrun⟩ | ⟨e, he, w1, hal, hrun⟩
  · refine Or.inl ⟨fun x => ?_, hrun⟩
    cases hx : left x with
    | false => rfl
    | true =>
      cases q : f x with
      | none => exact absurd q (hl2 x hx)
      | some v =>
        obtain ⟨e, he, hk, _⟩ := H.at_ x v q
        rw [hl1 e he x hk, all_seen es seen h0 e he] at hx; cases hx
  · obtain ⟨hem, hes⟩ := mem_left he
    obtain ⟨x, hx, x0, x1, hv⟩ := H.on e hem
    have hr1 : w1.heap[r]? = some (.mapIter (some b) since seen c0) := by rcases hal with rfl | rfl <;> exact hr
    have hb1 : w1.heap[b]? = some (.map es cl) := by rcases hal with rfl | rfl <;> exact hb
    have hset := heap_set (o' := .mapIter (some b) since (seen.push e.born) cl) hr1
    have hb' : (setBlock w1 r (.mapIter (some b) since (seen.push e.born) cl)).heap[b]? = some (.map es cl) := (hset.2 b (fun e1 => hne e1.symm)).trans hb1
    rw [hx] at hrun
    refine Or.inr ⟨x, e.val, _, _, x0, x1, by rw [hl1 e hem x hx, hes]; rfl, hv, hrun, ⟨es, cl, since, seen.push e.born, cl, hb', S, H, hset.1, hold, rfl, fun e' he' y hy => ?_, fun y hy => hl2 y (by simp at hy; exact hy.1), hsk, hsk⟩, left_shrinks es seen e he, ?_, ?_, ?_⟩
    · show (left y && !decide (y = x)) = _
      rw [hl1 e' he' y hy, contains_push]
      by_cases q : y = x
      · subst q
        obtain rfl := H.one S he' hem (by rw [hy, hx])
        simp
      · have : (e'.born == e.born) = false := by
          simp only [beq_eq_false_iff_ne]
          intro p
          obtain rfl := born_inj ((stamped_iff es cl).1 S).2.1 he' hem p
          rw [hy] at hx; cases hx; exact q rfl
        simp [q, this]
    · rcases hal with rfl | rfl <;> exact ⟨rfl, rfl, rfl, by simp [setBlock], fun i _ hi => hset.2 i (fun e1 => hi (by rw [e1]; rfl))⟩
    · rcases hal with rfl | rfl <;> simp [setBlock]
    · have := run_entry_at (P := Tryz.prog) _ r b since seen es cl e hset.1 hb' hem ((stamped_iff es cl).1 S).2.1
      rw [hx] at this
      exact this
/-- Of a key that is there another value is stored. -/
theorem Rgg.store (h : Rgg b r f left c w) {x : ByteArray} (h0 : x.size ≤ maxLen) (h1 : 0 ≤ x.size) (hx : f x ≠ none) {t e : TypeId} (ht : Tryz.prog.underlying t = some (.map 9 e)) (v : Value) :
    ∃ w', (Instr.mapUpdate t (.map (some b)) (.string x) v).run Tryz.prog w = .ok () w' ∧ Rgg b r (upd f x (some v)) left c w' ∧ Fr (On b) w w' ∧ w'.heap.size = w.heap.size := by
  have hl := h.map.lt
  have hne := h.ne
  obtain ⟨es, cl, since, seen, c0, hb, S, H, hr, hold, rfl, hl1, hl2, hsc, hsk⟩ := h
  obtain ⟨es', c', hrun, S', H', hw⟩ := store_who hb S H h0 h1 ht v
  obtain ⟨rfl, hbn, hks⟩ := hw hx
  have hat : ∀ e' ∈ es'.toList, ∃ e ∈ es.toList, e.key = e'.key ∧ e.born = e'.born := by
    intro e' he'
    obtain ⟨i, hi⟩ := List.getElem?_of_mem he'
    have q1 := congrArg (fun l => l[i]?) hbn
    have q2 := congrArg (fun l => l[i]?) hks
    simp only [List.getElem?_map, hi, Option.map_some] at q1 q2
    cases q : es.toList[i]? with
    | none => rw [q] at q1; cases q1
    | some e => rw [q] at q1 q2; simp only [Option.map_some, Option.some.injEq] at q1 q2; exact ⟨e, List.mem_of_getElem? q, q2.symm, q1.symm⟩
  refine ⟨_, hrun, ⟨es', c', since, seen, c0, heap_setBlock_same hb _, S', H', (heap_setBlock_other hb _ hne).trans hr, fun e' he' => ?_, ?_, fun e' he' y hy => ?_, fun y hy => ?_, hsc, hsk⟩, fr_block w b _ hl, by simp [setBlock]⟩
  · obtain ⟨e, he, _, q⟩ := hat e' he'; rw [← q]; exact hold e he
  · have e1 : ∀ a : Array MapEntry, (leftOf a seen).size = ((a.toList.map (·.born)).filter fun n => !seen.contains n).length := fun a => by
      unfold leftOf
      rw [List.filter_map, List.length_map, ← Array.length_toList, Array.toList_filter]
      rfl
    rw [e1, e1, hbn]
  · obtain ⟨e, he, q1, q2⟩ := hat e' he'
    rw [← q2]; exact hl1 e he y (by rw [q1]; exact hy)
  · unfold upd; split
    · simp
    · exact hl2 y hy
/-- A key that is no longer to come is taken out. -/
theorem Rgg.drop (h : Rgg b r f left c w) {x : ByteArray} (h0 : x.size ≤ maxLen) (h1 : 0 ≤ x.size) (hx : left x = false) {t e : TypeId} (ht : Tryz.prog.underlying t = some (.map 9 e)) (ty : TypeId) :
    ∃ w' c', (Builtin.delete_ #[t, 9] ty #[.map (some b), .string x]).run Tryz.prog w = .ok (.tuple #[]) w' ∧ Rgg b r (upd f x none) left c' w' ∧ c' ≤ c ∧ Fr (On b) w w' ∧ w'.heap.size = w.heap.size := by
  have hl := h.map.lt
  have hne := h.ne
  obtain ⟨es, cl, since, seen, c0, hb, S, H, hr, hold, rfl, hl1, hl2, hsc, hsk⟩ := h
  obtain ⟨es', hrun, S', H', hsub⟩ := drop_who (ty := ty) hb S H h0 h1 ht
  refine ⟨_, _, hrun, ⟨es', cl, since, seen, c0, heap_setBlock_same hb _, S', H', (heap_setBlock_other hb _ hne).trans hr, fun e' he' => hold e' (hsub.subset he'), rfl, fun e' he' y hy => hl1 e' (hsub.subset he') y hy, fun y hy => ?_, hsc, hsk⟩, ?_, fr_block w b _ hl, by simp [setBlock]⟩
  · unfold upd; split
    · rename_i q; subst q; rw [hx] at hy; cases hy
    · exact hl2 y hy
  · have e1 : ∀ a : Array MapEntry, (leftOf a seen).size = (a.toList.filter fun e => !seen.contains e.born).length := fun a => by
      unfold leftOf
      rw [← Array.toList_filter, Array.length_toList]
    rw [e1, e1]
    exact (hsub.filter _).length_le
end
end Go.Proofs.YtfgapmfjfienhaaGreatDoor
/- What a range over a map, a store and a deletion within it do: for the walk. -/
namespace Go.Proofs.YtfgapmfjfienhaaGreatDoor
open Go.ChangeShapes Go.WideShapes Go.ChangeAt Go.RowKit Go.Maps Go.MapKept
set_option linter.unusedVariables false
set_option linter.unusedSimpArgs false
section
variable {b : Nat} {w w1 : World}
section
variable {r c : Nat} {m : ByteArray → Option Value} {left : ByteArray → Bool} {ops : Array Oper} {rest : List Oper} {o : Oper} {a : Act} {Q : Exit → Act → World → Prop}
theorem wpl_range (hg : o.guard = none) (x : Operand) (T E : TypeId) (hop : o.op = Op.range T x) (ht : Tryz.prog.underlying T = some (.map 9 E)) (hm : a.eval x = .map (some b)) (h : Mp b m w)
    (hK : ∀ w' c, Rgg b w.heap.size m (fun x => (m x).isSome) c w' → Kp w w' → w'.heap.size = w.heap.size + 1 → wpList Tryz.prog ops Q rest (a.put o.dst (.pointer (some ⟨w.heap.size, 0, none⟩))) w') :
    wpList Tryz.prog ops Q (o :: rest) a w := by
  refine wpList_plain hg fun K' hK' => ?_
  obtain ⟨w', c, hrun, r1, r2, r3⟩ := h.ranged ht
  unfold Oper.wp
  simp [execOp, hop, hm, hrun, Result.andThen]
  exact hK' _ _ (hK w' c r1 r2 r3)
theorem wpl_next (hg : o.guard = none) (x : Operand) (hop : o.op = Op.next x false) (hm : a.eval x = .pointer (some ⟨r, 0, none⟩)) (h : Rgg b r m left c w)
    (h0 : (∀ y, left y = false) → wpList Tryz.prog ops Q rest (a.put o.dst (.tuple #[.bool false])) w)
    (h1 : ∀ y v w' c', y.size ≤ maxLen → 0 ≤ y.size → left y = true → m y = some v → Rgg b r m (fun z => left z && !decide (z = y)) c' w' → c' < c → Fr (On r) w w' → w'.heap.size = w.heap.size →
      (Instr.entry (.pointer (some ⟨r, 0, none⟩))).run Tryz.prog w' = .ok (.tuple #[.string y, v]) w' → wpList Tryz.prog ops Q rest (a.put o.dst (.tuple #[.bool true, .string y, v])) w') :
    wpList Tryz.prog ops Q (o :: rest) a w := by
  refine wpList_plain hg fun K' hK' => ?_
  unfold Oper.wp
  rcases h.next o.type with ⟨h2, hrun⟩ | ⟨y, v, w', c', q1, q2, q3, q4, hrun, q5, q6, q7, q8, q9⟩
  · simp [execOp, hop, hm, hrun, Result.andThen]
    exact hK' _ _ (h0 h2)
  · simp [execOp, hop, hm, hrun, Result.andThen]
    exact hK' _ _ (h1 y v w' c' q1 q2 q3 q4 q5 q6 q7 q8 q9)
theorem wpl_store (hg : o.guard = none) (x y v : Operand) (T E : TypeId) (hop : o.op = Op.mapUpdate T x y v) (ht : Tryz.prog.underlying T = some (.map 9 E)) (hm : a.eval x = .map (some b)) (h : Rgg b r m left c w)
    {k : ByteArray} (hy : a.eval y = .string k) (k0 : k.size ≤ maxLen) (k1 : 0 ≤ k.size) (hk : m k ≠ none) {u : Value} (hv : a.eval v = u)
    (hK : ∀ w', Rgg b r (upd m k (some u)) left c w' → Fr (On b) w w' → w'.heap.size = w.heap.size → wpList Tryz.prog ops Q rest (a.put o.dst undef) w') :
    wpList Tryz.prog ops Q (o :: rest) a w := by
  refine wpList_plain hg fun K' hK' => ?_
  obtain ⟨w', hrun, r1, r2, r3⟩ := h.store k0 k1 hk ht u
  unfold Oper.wp
  simp [execOp, hop, hm, hy, hv, hrun, Result.andThen]
  exact hK' _ _ (hK w' r1 r2 r3)
theorem wpl_delete (hg : o.guard = none) (x y : Operand) (T E : TypeId) (hop : o.op = Op.call { callee := Callee.builtin Builtin.delete, args := #[x, y], argTypes := #[T, 9] }) (ht : Tryz.prog.underlying T = some (.map 9 E)) (hm : a.eval x = .map (some b)) (h : Rgg b r m left c w)
    {k : ByteArray} (hy : a.eval y = .string k) (k0 : k.size ≤ maxLen) (k1 : 0 ≤ k.size) (hk : left k = false)
    (hK : ∀ w' c', Rgg b r (upd m k none) left c' w' → c' ≤ c → Fr (On b) w w' → w'.heap.size = w.heap.size → wpList Tryz.prog ops Q rest (a.put o.dst (.tuple #[])) w') :
    wpList Tryz.prog ops Q (o :: rest) a w := by
  refine wpList_plain hg fun K' hK' => ?_
  obtain ⟨w', c', hrun, r1, r2, r3, r4⟩ := h.drop k0 k1 hk ht o.type
  unfold Oper.wp
  simp [execOp, hop, resolve, invoke, builtin, hm, hy, hrun, Result.andThen]
  exact hK' _ _ (hK w' c' r1 r2 r3 r4)
end
end
end Go.Proofs.YtfgapmfjfienhaaGreatDoor
/- The names of commands: as a map. -/
namespace Go.Proofs.YtfgapmfjfienhaaGreatDoor
open Go.ChangeShapes Go.WideShapes Go.ChangeAt Go.RowKit Go.Maps Go.MapKept
set_option linter.unusedVariables false
set_option linter.unusedSimpArgs false
set_option maxRecDepth 100000
/-- What stands of the library's tables. -/
def Gs (w : World) : Prop := ∀ c : Nat, c < 256 → w.cell? ⟨0, c, none⟩ = some (.int .u8 (if Lib.isSp (UInt8.ofNat c) then 1 else 0))
theorem Gs.kp {w w1 : World} (h : Gs w) (k : Kp w w1) : Gs w1 := fun c hc => kp_cell k (h c hc)
def flN : Fl → Nat
  | .regnum => 49
  | .dest => 50
  | .num => 51
  | .reg => 52
  | .mark => 53
  | .subst => 54
  | .visits => 55
  | .keys => 56
  | .nothing => 57
  | .shift => 58
  | .again => 59
def enC (e : Ent) : List Value := [.string (bA e.name), .int .i64 (e.place : Int), .bool e.bold, .func (.func (flN e.fl)) #[] #[]]
def enV (e : Ent) : Value := .agg (enC e).toArray
abbrev Tb := List (List UInt8 × Ent)
def stF (f : ByteArray → Option Value) (p : List UInt8 × Ent) : ByteArray → Option Value := upd f (bA p.1) (some (enV p.2))
def mapF (m : Tb) : ByteArray → Option Value := m.foldl stF (fun _ => none)
theorem mapF_snoc (m : Tb) (p : List UInt8 × Ent) : mapF (m ++ [p]) = upd (mapF m) (bA p.1) (some (enV p.2)) := by
  unfold mapF; rw [List.foldl_append]; rfl
theorem bA_list (x : ByteArray) : bA x.data.toList = x := by unfold bA; apply ByteArray.ext; simp
theorem bA_eq (x : ByteArray) (l : List UInt8) : x = bA l ↔ l = x.data.toList := by
  constructor
  · rintro rfl; unfold bA; simp
  · rintro rfl; exact (bA_list x).symm
theorem fold_at (x : ByteArray) : ∀ (m : Tb) (f : ByteArray → Option Value), (m.map Prod.fst).Nodup →
    m.foldl stF f x = (match m.find? (fun p => p.1 == x.data.toList) with
      | some p => some (enV p.2)
      | none => f x)
  | [], f, _ => rfl
  | p :: r, f, h => by
    rw [List.map_cons, List.nodup_cons] at h
    rw [List.foldl_cons, fold_at x r (stF f p) h.2, List.find?_cons]
    by_cases c : p.1 = x.data.toList
    · have hn : r.find? (fun q => q.1 == x.data.toList) = none := by
        rw [List.find?_eq_none]
        intro q hq e
        have := eq_of_beq e
        exact h.1 (by rw [c, ← this]; exact List.mem_map_of_mem hq)
      rw [hn, show (p.1 == x.data.toList) = true from beq_iff_eq.2 c]
      show upd f (bA p.1) (some (enV p.2)) x = _
      unfold upd
      rw [if_pos ((bA_eq x p.1).2 c)]
    · rw [show (p.1 == x.data.toList) = false from beq_eq_false_iff_ne.2 c]
      show (match r.find? (fun q => q.1 == x.data.toList) with
        | some q => some (enV q.2)
        | none => stF f p x) = _
      have : stF f p x = f x := by
        unfold stF upd
        rw [if_neg (fun q => c ((bA_eq x p.1).1 q))]
      rw [this]
theorem tabC_nd : (tabC.map Prod.fst).Nodup := by decide +kernel
theorem mapF_at (x : ByteArray) : mapF tabC x = (tabF x.data.toList).map enV := by
  unfold mapF tabF
  rw [fold_at x tabC _ tabC_nd]
  cases tabC.find? (fun p => p.1 == x.data.toList) <;> rfl
def rowE (i : Nat) (r : List UInt8 × Bool × Fl) : Tb := (wordsC r.1).map fun x => (x, { name := (wordsC r.1).headD [], place := i, bold := r.2.1, fl := r.2.2 })
theorem tabR_snoc : ∀ (a : List (List UInt8 × Bool × Fl)) (p : Nat) (r : List UInt8 × Bool × Fl), tabR p (a ++ [r]) = tabR p a ++ rowE (p + a.length) r
  | [], p, (t, b, f) => by simp [tabR, rowE]
  | (t, b, f) :: a, p, r => by
    rw [List.cons_append, tabR, tabR, tabR_snoc a (p + 1) r, List.append_assoc]
    simp only [List.length_cons]
    rw [show p + 1 + a.length = p + (a.length + 1) by omega]
theorem rowsC_len : rowsC.length = 23 := rfl
theorem tab_next {i : Nat} {r : List UInt8 × Bool × Fl} (h : rowsC[i]? = some r) : tabR 0 (rowsC.take (i + 1)) = tabR 0 (rowsC.take i) ++ rowE i r := by
  obtain ⟨hl, e⟩ := List.getElem?_eq_some_iff.1 h
  rw [List.take_add_one, h]
  simp only [Option.toList_some]
  rw [tabR_snoc, Nat.zero_add, List.length_take, Nat.min_eq_left (Nat.le_of_lt hl)]
theorem rowsC_ascii : ∀ r ∈ rowsC, ∀ b ∈ r.1, b.toNat < 128 := by decide +kernel
theorem rowsC_short : ∀ r ∈ rowsC, r.1.length ≤ 100 ∧ (wordsC r.1).length ≤ 100 ∧ ∀ x ∈ wordsC r.1, x.length ≤ 100 := by decide +kernel
def rwC (r : List UInt8 × Bool × Fl) : List Value := [.string (bA r.1), .bool r.2.1, .func (.func (flN r.2.2)) #[] #[]]
def rwCs (l : List (List UInt8 × Bool × Fl)) : List Value := l.flatMap rwC
theorem rwCs_len : ∀ l, (rwCs l).length = 3 * l.length
  | [] => rfl
  | a :: r => by
    have := rwCs_len r
    unfold rwCs at this ⊢
    rw [List.flatMap_cons, List.length_append, this]
    simp [rwC]; omega
theorem rwCs_at : ∀ {l : List (List UInt8 × Bool × Fl)} {i : Nat} {r}, l[i]? = some r → ((rwCs l).drop (3 * i)).take (rwC r).length = rwC r
  | [], i, r, h => by cases h
  | a :: t, 0, r, h => by cases h; rfl
  | a :: t, i + 1, r, h => by
    have := rwCs_at (l := t) (i := i) (r := r) h
    rw [show 3 * (i + 1) = 3 * i + 3 by omega, ← List.drop_drop]
    have e : (rwCs (a :: t)).drop (3 * i) = (rwCs (a :: t)).drop (3 * i) := rfl
    rw [List.drop_drop, show 3 * i + 3 = 3 + 3 * i by omega, ← List.drop_drop]
    exact this
theorem sizeRow : (Tryz.prog.info? 84).map (·.size) = some 3 := by kernel_rfl
theorem sizeCom : (Tryz.prog.info? 63).map (·.size) = some 4 := by kernel_rfl
theorem one3 {a b c : Value} (h : a.oneCell' = true ∧ b.oneCell' = true ∧ c.oneCell' = true) : ∀ v ∈ [a, b, c], v.oneCell' = true := by
  intro v hv
  simp only [List.mem_cons, List.not_mem_nil, or_false] at hv
  rcases hv with rfl | rfl | rfl
  · exact h.1
  · exact h.2.1
  · exact h.2.2
theorem one4 {a b c d : Value} (h : a.oneCell' = true ∧ b.oneCell' = true ∧ c.oneCell' = true ∧ d.oneCell' = true) : ∀ v ∈ [a, b, c, d], v.oneCell' = true := by
  intro v hv
  simp only [List.mem_cons, List.not_mem_nil, or_false] at hv
  rcases hv with rfl | rfl | rfl | rfl
  · exact h.1
  · exact h.2.1
  · exact h.2.2.1
  · exact h.2.2.2
theorem rwC_one (r : List UInt8 × Bool × Fl) : ∀ v ∈ rwC r, v.oneCell' = true := one3 ⟨rfl, rfl, rfl⟩
theorem enC_one (e : Ent) : ∀ v ∈ enC e, v.oneCell' = true := one4 ⟨rfl, rfl, rfl, rfl⟩
theorem Mp.new (w : World) : Mp w.heap.size (fun _ => none) (w.alloc (.map #[] 0)) := ⟨#[], 0, alloc_new _ _, stamped_empty 0, ⟨by simp, by simp⟩⟩
theorem fields_any (t : List UInt8) (ht : t.length ≤ 100) (ha : ∀ b ∈ t, b.toNat < 128) (w : World) (hw : Gs w) :
    Calls Tryz.prog 60 #[.string (bA t)] w fun e w' => e = .returned (.slice (some ⟨w.heap.size, 0, none⟩) (wordsC t).length (wordsC t).length) ∧ w' = w.alloc (.cells (strs ((wordsC t).map bA)).toArray 9) := by
  have h := Any.strings_Fields_core Tryz.lays157 (by kernel_rfl) (bA t) w (by show t.toArray.size < _; simp; omega) (fun j b hj => ha b (List.mem_of_getElem? (by simpa [bA] using hj))) hw
  refine Calls.mono h ?_
  rintro e w' ⟨rfl, rfl⟩
  have e1 : (bA t).data.toList = t := by simp [bA]
  refine ⟨by rw [e1]; rfl, ?_⟩
  rw [e1]
  have e2 : ((Lib.fields t).map fun l => Value.string ⟨l.toArray⟩) = strs ((wordsC t).map bA) := by
    unfold strs wordsC
    rw [List.map_map]; rfl
  rw [e2]
  rfl
/-- A store into a map, of a region that draws its order. -/
theorem step_mapup {K : Act → World → Prop} {Q : Exit → Act → World → Prop} {o : Oper} {a : Act} {w : World} {b : Nat} {m : ByteArray → Option Value} (x y v : Operand) (T E : TypeId) (hop : o.op = Op.mapUpdate T x y v) (ht : Tryz.prog.underlying T = some (.map 9 E)) (hm : a.eval x = .map (some b)) (h : Mp b m w)
    {k : ByteArray} (hy : a.eval y = .string k) (k0 : k.size ≤ maxLen) {u : Value} (hv : a.eval v = u)
    (hK : ∀ w', Mp b (upd m k (some u)) w' → Fr (On b) w w' → w'.heap.size = w.heap.size → K (a.put o.dst undef) w') : Oper.wp Tryz.prog o a w K Q := by
  obtain ⟨w', hrun, r1, r2, r3⟩ := h.store k0 (Nat.zero_le _) ht u
  unfold Oper.wp
  simp [execOp, hop, hm, hy, hv, hrun, Result.andThen]
  exact hK _ r1 r2 r3
end Go.Proofs.YtfgapmfjfienhaaGreatDoor
/- The names of commands: commands. -/
namespace Go.Proofs.YtfgapmfjfienhaaGreatDoor
open Go.ChangeShapes Go.WideShapes Go.ChangeAt Go.RowKit Go.Maps Go.MapKept
set_option linter.unusedVariables false
set_option linter.unusedSimpArgs false
set_option maxRecDepth 100000
theorem rowE_at {i j : Nat} {r : List UInt8 × Bool × Fl} {x : List UInt8} (h : (wordsC r.1)[j]? = some x) : (rowE i r).take (j + 1) = (rowE i r).take j ++ [(x, { name := (wordsC r.1).headD [], place := i, bold := r.2.1, fl := r.2.2 })] := by
  rw [List.take_add_one]
  congr 1
  unfold rowE
  rw [List.getElem?_map, h]; rfl
theorem rowE_len (i : Nat) (r : List UInt8 × Bool × Fl) : (rowE i r).length = (wordsC r.1).length := by unfold rowE; simp
section
variable {w : World}
set_option maxHeartbeats 64000000 in
theorem commands_any (hw : Gs w) :
    Calls Tryz.prog 26 #[] w fun e w' => ∃ bm, e = .returned (.map (some bm)) ∧ Mp bm (mapF tabC) w' ∧ Kp w w' ∧ w.heap.size ≤ bm := by
  obtain ⟨rb, hrb⟩ : ∃ rb, w.heap.size = rb := ⟨_, rfl⟩
  obtain ⟨W1, hW1⟩ : ∃ z, w.alloc (.cells (rwCs rowsC).toArray 84) = z := ⟨_, rfl⟩
  obtain ⟨bm, hbm⟩ : ∃ bm, W1.heap.size = bm := ⟨_, rfl⟩
  obtain ⟨W2, hW2⟩ : ∃ z, W1.alloc (.map #[] 0) = z := ⟨_, rfl⟩
  have H0 : Hid (Kp w W2 ∧ Mp bm (mapF (tabR 0 (rowsC.take 0))) W2 ∧ Lc 84 rb (rwCs rowsC) W2) := by
    have k1 : Kp w W1 := by rw [← hW1]; exact kp_alloc _ _
    have k2 : Kp W1 W2 := by rw [← hW2]; exact kp_alloc _ _
    have l1 : Lc 84 rb (rwCs rowsC) W1 := by rw [← hW1, ← hrb]; exact Lc.new w (rwCs rowsC) 84
    exact ⟨kp_trans k1 k2, by rw [← hW2, ← hbm]; exact Mp.new W1, l1.kp k2⟩
  have Hbm : Hid (w.heap.size ≤ bm ∧ Gs w) := ⟨by rw [← hbm, ← hW1, alloc_size]; omega, hw⟩
  clear hw
  have hmm := @run_makeMap Tryz.prog
  go_enter Tryz.func26, Tryz.ntmps26
  go_wp2_with (refine Great.wpList_buildSliceTo rfl 85 84 23 #[(0, .tmp 8), (1, .tmp 9), (2, .tmp 10), (3, .tmp 11), (4, .tmp 12), (5, .tmp 13), (6, .tmp 14), (7, .tmp 15), (8, .tmp 16), (9, .tmp 17), (10, .tmp 18), (11, .tmp 19), (12, .tmp 20), (13, .tmp 21), (14, .tmp 22), (15, .tmp 23), (16, .tmp 24), (17, .tmp 25), (18, .tmp 26), (19, .tmp 27), (20, .tmp 28), (21, .tmp 29), (22, .tmp 30)] rfl rb hrb (some 31) rfl Tryz.underlying85 (rwCs rowsC).toArray (by kernel_rfl) ?_)
  go_loopw [35] (fun v35 wr => ∃ i : Nat, i ≤ 23 ∧ v35 = .int .i64 (i : Int) ∧ Hid (Kp w wr ∧ Mp bm (mapF (tabR 0 (rowsC.take i))) wr ∧ Lc 84 rb (rwCs rowsC) wr)) (fun v35 _ => 23 - (intOf v35).toNat)
  case atStart => exact ⟨0, Nat.zero_le _, rfl, H0.out⟩
  case round =>
    clear H0 hrb hW1 hbm hW2 hmm
    obtain ⟨i, hi, rfl, HI⟩ := hrel
    by_cases hlt : i < 23
    · have g1 : decide ((i : Int) < 23) = true := decide_eq_true (by omega)
      obtain ⟨r, hr⟩ : ∃ r, rowsC[i]? = some r := ⟨rowsC[i]'(by rw [rowsC_len]; exact hlt), List.getElem?_eq_getElem _⟩
      have hrm : r ∈ rowsC := List.mem_of_getElem? hr
      obtain ⟨hs1, hs2, hs3⟩ := rowsC_short r hrm
      have has := rowsC_ascii r hrm
      have hro : ((rwCs rowsC).drop (i * 3)).take 3 = [.string (bA r.1), .bool r.2.1, .func (.func (flN r.2.2)) #[] #[]] := by rw [Nat.mul_comm]; exact rwCs_at hr
      have HTab : Hid (tabR 0 (rowsC.take (i + 1)) = tabR 0 (rowsC.take i) ++ rowE i r) := tab_next hr
      have HF : Hid (∀ z, Kp w z → Calls Tryz.prog 60 #[.string (bA r.1)] z fun e w' => e = .returned (.slice (some ⟨z.heap.size, 0, none⟩) (wordsC r.1).length (wordsC r.1).length) ∧ w' = z.alloc (.cells (strs ((wordsC r.1).map bA)).toArray 9)) := fun z hz => fields_any r.1 hs1 has z (Hbm.out.2.kp hz)
      obtain ⟨t, bo, f⟩ := r
      simp only at HF hs2 hs3 hro
      obtain ⟨ws, hws⟩ : ∃ ws, wordsC t = ws := ⟨_, rfl⟩
      obtain ⟨fl, hfl⟩ : ∃ fl, flN f = fl := ⟨_, rfl⟩
      have HE : Hid (∀ j x, ws[j]? = some x → (rowE i (t, bo, f)).take (j + 1) = (rowE i (t, bo, f)).take j ++ [(x, { name := ws.headD [], place := i, bold := bo, fl := f })]) := fun j x h => by
        have := rowE_at (i := i) (r := (t, bo, f)) (j := j) (x := x) (by rw [hws]; exact h)
        rw [hws] at this; exact this
      have HEn : Hid ((rowE i (t, bo, f)).take ws.length = rowE i (t, bo, f)) := by
        have := rowE_len i (t, bo, f)
        rw [hws] at this
        have e : (rowE i (t, bo, f)).take ws.length = rowE i (t, bo, f) := by rw [← this, List.take_length]
        exact e
      rw [hws] at HF hs2 hs3
      rw [hfl] at hro
      have HW : Hid ((∀ x ∈ ws, x.length ≤ 100) ∧ flN f = fl) := ⟨hs3, hfl⟩
      have hn100 : ws.length ≤ 100 := hs2
      clear hr hrm hs1 hs2 hs3 has hws hfl
      obtain ⟨q, hq⟩ : ∃ q, wr.heap.size = q := ⟨_, rfl⟩
      obtain ⟨W3, hW3⟩ : ∃ z, wr.alloc (.cells #[.string ⟨#[]⟩, .bool false, .nilFunc] 84) = z := ⟨_, rfl⟩
      have HQ : Hid (Kp w W3 ∧ Mp bm (mapF (tabR 0 (rowsC.take i))) W3 ∧ Lc 84 rb (rwCs rowsC) W3 ∧ Lc 84 q [.string ⟨#[]⟩, .bool false, .nilFunc] W3 ∧ rb < q ∧ w.heap.size ≤ q) := by
        have k2 : Kp wr W3 := by rw [← hW3]; exact kp_alloc _ _
        exact ⟨kp_trans HI.out.1 k2, HI.out.2.1.kp k2, HI.out.2.2.kp k2, by rw [← hW3, ← hq]; exact Lc.new wr [.string ⟨#[]⟩, .bool false, .nilFunc] 84, by rw [← hq]; exact HI.out.2.2.lt, by rw [← hq]; exact HI.out.1.size⟩
      go_wp2_with (first | (refine wpList_load_box HI.out.2.2 (i * 3) [.string (bA t), .bool bo, .func (.func fl) #[] #[]] rfl 84 (.tmp 38) rfl rfl hro _ Tryz.underlying84 rfl sizeRow ?_) | (refine wpList_store_box HQ.out.2.2.2.1 0 [.string (bA t), .bool bo, .func (.func fl) #[] #[]] rfl 84 (.tmp 4) (.tmp 39) rfl rfl rfl (Nat.le_refl 3) sizeRow (one3 ⟨rfl, rfl, rfl⟩) rfl ?_; intro w4 q1 q2 q3; have HR : Hid (Kp w w4 ∧ Mp bm (mapF (tabR 0 (rowsC.take i))) w4 ∧ Lc 84 rb (rwCs rowsC) w4 ∧ Lc 84 q [.string (bA t), .bool bo, .func (.func fl) #[] #[]] w4) := ⟨kp_on HQ.out.1 q2 HQ.out.2.2.2.2.2, HQ.out.2.1.fr q2 (by unfold On; exact fun e => (HQ.out.2.1.ne HQ.out.2.2.2.1) e.symm), HQ.out.2.2.1.fr q2 (by unfold On; have := HQ.out.2.2.2.2.1; omega), q1⟩; clear q1 q2 q3; have c0 : w4.cell? ⟨q, 0, none⟩ = some (.string (bA t)) := HR.out.2.2.2.at (j := 0) rfl))
      refine Calls.mono (HF.out _ HR.out.1) ?_
      rintro e w5 ⟨rfl, rfl⟩
      clear HF
      obtain ⟨fb, hfb⟩ : ∃ fb, w4.heap.size = fb := ⟨_, rfl⟩
      obtain ⟨W5, hW5⟩ : ∃ z, w4.alloc (.cells (strs (ws.map bA)).toArray 9) = z := ⟨_, rfl⟩
      have HL : Hid (Kp w W5 ∧ Mp bm (mapF (tabR 0 (rowsC.take i))) W5 ∧ Lc 84 rb (rwCs rowsC) W5 ∧ Lc 84 q [.string (bA t), .bool bo, .func (.func fl) #[] #[]] W5 ∧ Lc 9 fb (strs (ws.map bA)) W5) := by
        have k2 : Kp w4 W5 := by rw [← hW5]; exact kp_alloc _ _
        exact ⟨kp_trans HR.out.1 k2, HR.out.2.1.kp k2, HR.out.2.2.1.kp k2, HR.out.2.2.2.kp k2, by rw [← hW5, ← hfb]; exact Lc.new w4 (strs (ws.map bA)) 9⟩
      rw [hfb, hW5]
      clear hfb hW5 HR HQ hq hW3 c0 HI hro
      go_wp2_with fail
      go_loopw [45] (fun v45 wx => ∃ j : Nat, j ≤ ws.length ∧ v45 = .int .i64 (j : Int) ∧ Hid (Kp w wx ∧ Mp bm (mapF (tabR 0 (rowsC.take i) ++ (rowE i (t, bo, f)).take j)) wx ∧ Lc 84 rb (rwCs rowsC) wx ∧ Lc 84 q [.string (bA t), .bool bo, .func (.func fl) #[] #[]] wx ∧ Lc 9 fb (strs (ws.map bA)) wx)) (fun v45 _ => ws.length - (intOf v45).toNat)
      case atStart => exact ⟨0, Nat.zero_le _, rfl, HL.out.1, by rw [List.take_zero, List.append_nil]; exact HL.out.2.1, HL.out.2.2⟩
      case round =>
        clear HL
        obtain ⟨j, hj, rfl, HI⟩ := hrel
        by_cases hjl : j < ws.length
        · have gj : decide ((j : Int) < (ws.length : Int)) = true := decide_eq_true (by omega)
          have hpos : 0 < ws.length := by omega
          have hpos' : (0 < ws.length) = True := by simpa using hpos
          obtain ⟨x, hx⟩ : ∃ x, ws[j]? = some x := ⟨ws[j], List.getElem?_eq_getElem hjl⟩
          obtain ⟨xj, hxj⟩ : ∃ xj, bA x = xj := ⟨_, rfl⟩
          obtain ⟨hd, hhd⟩ : ∃ hd, bA (ws.headD []) = hd := ⟨_, rfl⟩
          have cj : wr.cell? ⟨fb, j, none⟩ = some (.string xj) := HI.out.2.2.2.2.at (by rw [← hxj]; simp [strs, hx])
          have ch : wr.cell? ⟨fb, 0, none⟩ = some (.string hd) := HI.out.2.2.2.2.at (by
            rw [← hhd]
            cases ws with
            | nil => simp at hjl
            | cons a r => rfl)
          have c1 : wr.cell? ⟨q, 1, none⟩ = some (.bool bo) := HI.out.2.2.2.1.at (j := 1) rfl
          have c2 : wr.cell? ⟨q, 2, none⟩ = some (.func (.func fl) #[] #[]) := HI.out.2.2.2.1.at (j := 2) rfl
          have hxl : xj.size ≤ maxLen := by
            have := HW.out.1 x (List.mem_of_getElem? hx)
            rw [← hxj]; show x.toArray.size ≤ _; unfold maxLen; simp; omega
          have HStep : Hid (∀ w8, Mp bm (upd (mapF (tabR 0 (rowsC.take i) ++ (rowE i (t, bo, f)).take j)) xj (some (.agg #[.string hd, .int .i64 (i : Int), .bool bo, .func (.func fl) #[] #[]]))) w8 → Fr (On bm) wr.drew w8 →
              Kp w w8 ∧ (Mp bm (mapF (tabR 0 (rowsC.take i) ++ (rowE i (t, bo, f)).take (j + 1))) w8 ∧ Lc 84 rb (rwCs rowsC) w8 ∧ Lc 84 q [.string (bA t), .bool bo, .func (.func fl) #[] #[]] w8 ∧ Lc 9 fb (strs (ws.map bA)) w8) ∧
              w8.cell? ⟨fb, 0, none⟩ = some (.string hd) ∧ w8.cell? ⟨q, 1, none⟩ = some (.bool bo) ∧ w8.cell? ⟨q, 2, none⟩ = some (.func (.func fl) #[] #[])) := fun w8 m8 f8 => by
            have e := HE.out j x hx
            have hm := HI.out.2.1.kp (kp_drew wr)
            have n1 : Lc 84 rb (rwCs rowsC) w8 := (HI.out.2.2.1.kp (kp_drew wr)).fr f8 fun e => (hm.ne (HI.out.2.2.1.kp (kp_drew wr))) e
            have n2 : Lc 84 q [.string (bA t), .bool bo, .func (.func fl) #[] #[]] w8 := (HI.out.2.2.2.1.kp (kp_drew wr)).fr f8 fun e => (hm.ne (HI.out.2.2.2.1.kp (kp_drew wr))) e
            have n3 : Lc 9 fb (strs (ws.map bA)) w8 := (HI.out.2.2.2.2.kp (kp_drew wr)).fr f8 fun e => (hm.ne (HI.out.2.2.2.2.kp (kp_drew wr))) e
            refine ⟨kp_on (kp_trans HI.out.1 (kp_drew wr)) f8 Hbm.out.1, ⟨?_, n1, n2, n3⟩, ?_, n2.at (j := 1) rfl, n2.at (j := 2) rfl⟩
            · rw [e, ← List.append_assoc, mapF_snoc]
              have e2 : enV { name := ws.headD [], place := i, bold := bo, fl := f } = .agg #[.string hd, .int .i64 (i : Int), .bool bo, .func (.func fl) #[] #[]] := by
                rw [← hhd, ← HW.out.2]; rfl
              rw [e2]
              rw [← hxj] at m8
              exact m8
            · exact n3.at (by
                rw [← hhd]
                cases ws with
                | nil => simp at hjl
                | cons a r => rfl)
          clear hx hxj hhd
          go_upto_region 10 with fail
          refine wp_region_noPanic ?_
          refine wp_region_held_drew (S := fun z => z.cell? ⟨fb, 0, none⟩ = some (.string hd) ∧ z.cell? ⟨q, 1, none⟩ = some (.bool bo) ∧ z.cell? ⟨q, 2, none⟩ = some (.func (.func fl) #[] #[])) (by kernel_rfl) (⟨kp_cell (kp_drew _) ch, kp_cell (kp_drew _) c1, kp_cell (kp_drew _) c2⟩) (fun hHeld => ?_)
          refine takeAt 0 (some 49) ?_ rfl rfl (by kernel_rfl) (by kernel_rfl) (by kernel_rfl) (fun _ _ _ h => h) (Or.inl ⟨by rfl, ?_⟩) hHeld ?_
          rotate_left
          · intro w hSw
            go_simp <;> with_reducible rfl
          try simp only [Act.put, List.setIfInBounds_toArray, List.set_cons_zero, List.set_cons_succ]
          refine takeAt 1 (some 50) ?_ rfl rfl (by kernel_rfl) (by kernel_rfl) (by kernel_rfl) (fun _ _ _ h => h) (Or.inl ⟨by rfl, ?_⟩) hHeld ?_
          rotate_left
          · intro w hSw
            go_simp <;> with_reducible rfl
          try simp only [Act.put, List.setIfInBounds_toArray, List.set_cons_zero, List.set_cons_succ]
          refine takeAt 2 (some 51) ?_ rfl rfl (by kernel_rfl) (by kernel_rfl) (by kernel_rfl) (fun _ _ _ h => h) (Or.inl ⟨by rfl, ?_⟩) hHeld ?_
          rotate_left
          · intro w hSw
            go_simp <;> with_reducible rfl
          try simp only [Act.put, List.setIfInBounds_toArray, List.set_cons_zero, List.set_cons_succ]
          refine takeAt 3 (some 52) ?_ rfl rfl (by kernel_rfl) (by kernel_rfl) (by kernel_rfl) (fun _ _ _ h => h) (Or.inl ⟨by rfl, ?_⟩) hHeld ?_
          rotate_left
          · intro w hSw
            go_simp <;> with_reducible rfl
          try simp only [Act.put, List.setIfInBounds_toArray, List.set_cons_zero, List.set_cons_succ]
          refine takeAt 4 (some 53) ?_ rfl rfl (by kernel_rfl) (by kernel_rfl) (by kernel_rfl) (fun _ _ _ h => h) (Or.inl ⟨by rfl, ?_⟩) hHeld ?_
          rotate_left
          · intro w hSw
            go_simp <;> with_reducible rfl
          try simp only [Act.put, List.setIfInBounds_toArray, List.set_cons_zero, List.set_cons_succ]
          refine takeAt 5 (some 54) ?_ rfl rfl (by kernel_rfl) (by kernel_rfl) (by kernel_rfl) (fun _ _ _ h => h) (Or.inl ⟨by rfl, ?_⟩) hHeld ?_
          rotate_left
          · intro w hSw
            go_simp <;> with_reducible rfl
          try simp only [Act.put, List.setIfInBounds_toArray, List.set_cons_zero, List.set_cons_succ]
          refine takeAt 6 (some 55) ?_ rfl rfl (by kernel_rfl) (by kernel_rfl) (by kernel_rfl) (fun _ _ _ h => h) (Or.inl ⟨by rfl, ?_⟩) hHeld ?_
          rotate_left
          · intro w hSw
            go_simp <;> with_reducible rfl
          try simp only [Act.put, List.setIfInBounds_toArray, List.set_cons_zero, List.set_cons_succ]
          refine takeAt 7 (some 56) ?_ rfl rfl (by kernel_rfl) (by kernel_rfl) (by kernel_rfl) (fun _ _ _ h => h) (Or.inl ⟨by rfl, ?_⟩) hHeld ?_
          rotate_left
          · intro w hSw
            go_simp <;> with_reducible rfl
          try simp only [Act.put, List.setIfInBounds_toArray, List.set_cons_zero, List.set_cons_succ]
          refine takeAt 8 (some 57) ?_ rfl rfl (by kernel_rfl) (by kernel_rfl) (by kernel_rfl) (fun _ _ _ h => h) (Or.inl ⟨by rfl, ?_⟩) hHeld ?_
          rotate_left
          · intro w hSw
            go_simp <;> with_reducible rfl
          try simp only [Act.put, List.setIfInBounds_toArray, List.set_cons_zero, List.set_cons_succ]
          refine takeAt 9 (some 58) ?_ rfl rfl (by kernel_rfl) (by kernel_rfl) (by kernel_rfl) (fun _ _ _ h => h) (Or.inl ⟨by rfl, ?_⟩) hHeld ?_
          rotate_left
          · intro w hSw
            go_simp <;> with_reducible rfl
          try simp only [Act.put, List.setIfInBounds_toArray, List.set_cons_zero, List.set_cons_succ]
          refine takeAt 10 (some 59) ?_ rfl rfl (by kernel_rfl) (by kernel_rfl) (by kernel_rfl) (fun _ _ _ h => h) (Or.inl ⟨by rfl, ?_⟩) hHeld ?_
          rotate_left
          · intro w hSw
            go_simp <;> with_reducible rfl
          try simp only [Act.put, List.setIfInBounds_toArray, List.set_cons_zero, List.set_cons_succ]
          refine wpAnyH_ready (rs := [11]) (by kernel_rfl) (by simp) ?_
          refine AllReadyH.cons rfl (fun K hK => ?_) AllReadyH.nil
          refine step_mapup (b := bm) (.tmp 49) (.tmp 50) (.tmp 59) 59 63 rfl Tryz.underlying59 rfl (HI.out.2.1.kp (kp_drew _)) (k := xj) rfl hxl (u := .agg #[.string hd, .int .i64 (i : Int), .bool bo, .func (.func fl) #[] #[]]) rfl ?_
          intro w8 m8 f8 s8
          have HJ : Hid _ := HStep.out w8 m8 f8
          clear m8 f8 s8
          refine hK.out _ _ HJ.out.2.2 (fun hHeld => ?_)
          clear hK K
          try simp only [Act.put, List.setIfInBounds_toArray, List.set_cons_zero, List.set_cons_succ]
          refine wpAnyH_done (by kernel_rfl) ?_ _
          refine NoPanic.normal ?_
          clear hHeld
          go_wp2_with fail
          exact ⟨⟨j + 1, by omega, by go_num, HJ.out.1, HJ.out.2.1⟩, by show ws.length - (((j : Int) + 1).toNat) < ws.length - ((j : Int).toNat); omega⟩
        · obtain rfl : j = ws.length := by omega
          have gj : decide ((ws.length : Int) < (ws.length : Int)) = false := by simp
          have HX : Hid (Kp w wr ∧ Mp bm (mapF (tabR 0 (rowsC.take (i + 1)))) wr ∧ Lc 84 rb (rwCs rowsC) wr) := by
            refine ⟨HI.out.1, ?_, HI.out.2.2.1⟩
            rw [HTab.out, ← HEn.out]; exact HI.out.2.1
          clear HI hj hjl
          go_wp2_with fail
          exact ⟨⟨i + 1, by omega, by go_num, HX.out⟩, by show 23 - (((i : Int) + 1).toNat) < 23 - ((i : Int).toNat); omega⟩
    · as_aux_lemma =>
      obtain rfl : i = 23 := by omega
      have g1 : decide (((23 : Nat) : Int) < 23) = false := by decide
      have HX : Hid (Mp bm (mapF tabC) wr ∧ Kp w wr) := ⟨HI.out.2.1, HI.out.1⟩
      clear HI hi hlt
      go_wp2_with fail
      go_ret
      exact ⟨bm, rfl, HX.out.1, HX.out.2, Hbm.out.1⟩
end
end Go.Proofs.YtfgapmfjfienhaaGreatDoor
/- The longest word that comes and is a name. -/
namespace Go.Proofs.YtfgapmfjfienhaaGreatDoor
open Go.ChangeShapes Go.WideShapes Go.ChangeAt Go.RowKit Go.Maps Go.MapKept
set_option linter.unusedVariables false
set_option linter.unusedSimpArgs false
set_option maxRecDepth 100000
def zeC : List Value := [.string ⟨#[]⟩, .int .i64 0, .bool false, .nilFunc]
theorem zeC_one : ∀ v ∈ zeC, v.oneCell' = true := one4 ⟨rfl, rfl, rfl, rfl⟩
theorem zero_com (w : World) : (zeroValue 63).run Tryz.prog w = .ok (.agg zeC.toArray) w := by kernel_rfl
theorem wordG_suf : ∀ (n : Nat) (l : List UInt8) {e : Ent} {r : List UInt8}, wordG n l = some (e, r) → r <:+ l
  | 0, l, e, r, h => by cases h
  | n + 1, l, e, r, h => by
    unfold wordG at h
    split at h
    · cases h; exact List.drop_suffix _ _
    · exact wordG_suf n l h
theorem wordL_suf {l r : List UInt8} {e : Ent} (h : wordL l = some (e, r)) : r <:+ l := wordG_suf _ l h
section
variable {s : ByteArray} {b B k j : Nat} {c c' : CmP} {rv dv v : Value} {w w1 w2 : World} {l : List UInt8}
theorem Rd.off {p : Nat} {T : TypeId} {L : List Value} (h : Rd s b B k c rv dv w) (hm : Lc T p L w) (hT : 43 ≠ T) (hbp : b ≠ p) (f : Fr (On p) w w1) : Rd s b B k c rv dv w1 :=
  ⟨Lc.fr h.pc f (by unfold On; exact hbp), row_fr h.rr f (fun i e hi => by unfold On at hi; subst hi; exact row_ne h.rr hm hT.symm e), row_fr h.rd f (fun i e hi => by unfold On at hi; subst hi; exact row_ne h.rd hm hT.symm e), h.hB⟩
theorem wordG_pos {n : Nat} (h : 0 < n) (l : List UInt8) : wordG n l = (match tabF (l.take n) with
    | some e => some (e, l.drop n)
    | none => wordG (n - 1) l) := by
  cases n with
  | zero => cases h
  | succ m => rfl
/-- What word answers. -/
structure WoR (s : ByteArray) (b B k : Nat) (c : CmP) (rv dv : Value) (R : Option (Ent × List UInt8)) (w : World) (e : Ending) (w' : World) : Prop where
  yes : ∀ en r, R = some (en, r) → e = .returned (.tuple #[.agg (enC en).toArray, .bool true]) ∧ Fr (On b) w w' ∧ Rd s b B (s.size - r.length) c rv dv w'
  no : R = none → e = .returned (.tuple #[.agg zeC.toArray, .bool false]) ∧ Fr (On b) w w' ∧ Rd s b B k c rv dv w'
set_option maxHeartbeats 32000000 in
theorem word_o (h : Rd s b B k c rv dv w) (hs : s.size ≤ 1000000) (hl : Lf s k l) (hw : Gs w) :
    Calls Tryz.prog 32 #[.pointer (some ⟨b, 0, none⟩)] w fun e w' => WoR s b B k c rv dv (wordL l) w e w' := by
  obtain ⟨p, hp⟩ : ∃ p, w.heap.size = p := ⟨_, rfl⟩
  obtain ⟨W1, hW1⟩ : ∃ z, w.alloc (.cells #[.string ⟨#[]⟩, .int .i64 0, .bool false, .nilFunc] 63) = z := ⟨_, rfl⟩
  have HI : Hid (Kp w W1 ∧ Rd s b B k c rv dv W1 ∧ Lc 63 p zeC W1 ∧ b < p ∧ w.heap.size ≤ p) := by
    rw [← hW1]
    refine ⟨kp_alloc _ _, h.kp (kp_alloc _ _), ?_, ?_, Nat.le_of_eq hp⟩
    · rw [← hp]; exact Lc.new w zeC 63
    · rw [← hp]; exact h.lt
  obtain ⟨X, hX⟩ : ∃ X, bA l = X := ⟨_, rfl⟩
  have hXs : X.size = l.length := by rw [← hX]; show l.toArray.size = _; simp
  have hlk := hl.len
  have hk := hl.1
  have HC : Hid (Calls Tryz.prog 26 #[] W1 fun e w' => ∃ bm, e = .returned (.map (some bm)) ∧ Mp bm (mapF tabC) w' ∧ Kp W1 w' ∧ W1.heap.size ≤ bm) := commands_any (hw.kp HI.out.1)
  have HR : Hid (∀ z, Rd s b B k c rv dv z → Calls Tryz.prog 31 #[.pointer (some ⟨b, 0, none⟩)] z fun e w' => e = .returned (.string X) ∧ ∃ q, w' = z.drewN q) := fun z hz => by
    rw [← hX]; exact rest_any hz.pc hs hl
  have hmin : min (l.length : Int) 10 = ((min l.length 10 : Nat) : Int) := by omega
  obtain ⟨N0, hN0⟩ : ∃ N0, min l.length 10 = N0 := ⟨_, rfl⟩
  rw [hN0] at hmin
  have hNl : N0 ≤ l.length := by omega
  have hN10 : N0 ≤ 10 := by omega
  have HX : Hid ((∀ n, n ≤ l.length → X.extract 0 n = bA (l.take n)) ∧ X.size = l.length ∧ (wordL l = wordG N0 l) ∧ (∀ n, n ≤ l.length → s.size - (l.drop n).length = k + n)) := by
    refine ⟨fun n hn => ?_, hXs, by unfold wordL; rw [hN0], fun n hn => ?_⟩
    · apply ByteArray.ext
      rw [ByteArray.data_extract]
      apply Array.ext'
      rw [Array.toList_extract, List.extract_eq_take_drop, ← hX]
      simp [bA]
    · rw [List.length_drop]; omega
  obtain ⟨R, hR⟩ : ∃ R, wordL l = R := ⟨_, rfl⟩
  have HRl : Hid (wordG N0 l = R) := by show _ = _; rw [← hR]; exact HX.out.2.2.1.symm
  have hk6 : k + l.length ≤ 1000000 := by omega
  have hXl : X.size = l.length := hXs
  rw [hR]
  clear h hl hw hX hXs hlk hk hR hN0
  go_enter Tryz.func32, Tryz.ntmps32
  go_wp2_with fail
  refine Calls.mono HC.out ?_
  rintro e w2 ⟨bm, rfl, m2, k2, b2⟩
  have HA : Hid (Kp w w2 ∧ Rd s b B k c rv dv w2 ∧ Lc 63 p zeC w2 ∧ Mp bm (mapF tabC) w2) := ⟨kp_trans HI.out.1 k2, HI.out.2.1.kp k2, HI.out.2.2.1.kp k2, m2⟩
  have Hbp : Hid (b < p ∧ w.heap.size ≤ p) := HI.out.2.2.2
  clear HC m2 k2 b2 HI hp hW1
  go_wp2_with fail
  refine Calls.mono (HR.out _ HA.out.2.1) ?_
  rintro e w3 ⟨rfl, q, rfl⟩
  have HB : Hid (Kp w (w2.drewN q) ∧ Rd s b B k c rv dv (w2.drewN q) ∧ Lc 63 p zeC (w2.drewN q) ∧ Mp bm (mapF tabC) (w2.drewN q)) := ⟨kp_trans HA.out.1 (kp_drewN _ q), HA.out.2.1.kp (kp_drewN _ q), HA.out.2.2.1.kp (kp_drewN _ q), HA.out.2.2.2.kp (kp_drewN _ q)⟩
  clear HR HA
  go_wp2_with fail
  go_loopw [6] (fun v6 wr => ∃ n : Nat, n ≤ N0 ∧ v6 = .int .i64 (n : Int) ∧ Hid (wordG n l = R ∧ Kp w wr ∧ Rd s b B k c rv dv wr ∧ Lc 63 p zeC wr ∧ Mp bm (mapF tabC) wr)) (fun v6 _ => (intOf v6).toNat)
  case atStart => exact ⟨N0, Nat.le_refl _, rfl, HRl.out, HB.out⟩
  case round =>
    clear HB HRl hmin
    obtain ⟨n, hn, rfl, HJ⟩ := hrel
    by_cases h0 : n = 0
    · as_aux_lemma =>
      subst h0
      have HRn : Hid (R = none) := by have := HJ.out.1; exact this.symm
      have HX2 : Hid (Fr (On b) w wr ∧ Rd s b B k c rv dv wr ∧ Lc 63 p zeC wr) := ⟨Fr.of_below HJ.out.2.1, HJ.out.2.2.1, HJ.out.2.2.2.1⟩
      clear HJ hn
      go_wp2_with (refine wpList_store_box HX2.out.2.2 0 zeC rfl 63 (.tmp 2) (.tmp 41) rfl rfl rfl (Nat.le_refl 4) sizeCom zeC_one rfl ?_; intro w9 q1 q2 q3; have HY : Hid (Fr (On b) w w9 ∧ Rd s b B k c rv dv w9 ∧ Lc 63 p zeC w9) := ⟨frB HX2.out.1 Hbp.out.2 q2, HX2.out.2.1.off HX2.out.2.2 (by decide) (by have := Hbp.out.1; omega) q2, q1⟩; clear q1 q2 q3)
      refine bodyPost_ret (results_box2 rfl rfl HY.out.2.2 Tryz.underlying63 rfl sizeCom) rfl ?_
      exact ⟨fun en r e => (by rw [HRn.out] at e; cases e), fun _ => ⟨rfl, HY.out.1, HY.out.2.1⟩⟩
    · have hpos : 0 < n := by omega
      have g1 : decide ((n : Int) > 0) = true := decide_eq_true (by omega)
      have g2 : decide ((0 : Int) < (n : Int)) = true := decide_eq_true (by omega)
      have hnl : n ≤ l.length := by omega
      have g5 : decide (n ≤ l.length) = true := decide_eq_true hnl
      have hG := wordG_pos hpos l
      rw [HJ.out.1] at hG
      have hxs : (X.extract 0 n).size ≤ maxLen := by
        rw [HX.out.1 n hnl]
        show (l.take n).toArray.size ≤ _
        unfold maxLen
        simp
        omega
      have hlk := HJ.out.2.2.2.2.look (x := X.extract 0 n) hxs (Nat.zero_le _) Tryz.underlying59 (zero_com wr) true
      have hmf : mapF tabC (X.extract 0 n) = (tabF (l.take n)).map enV := by
        rw [mapF_at, HX.out.1 n hnl]
        congr 2
      rw [hmf] at hlk
      obtain ⟨q, hq⟩ : ∃ q, wr.heap.size = q := ⟨_, rfl⟩
      obtain ⟨W5, hW5⟩ : ∃ z, wr.alloc (.cells #[.string ⟨#[]⟩, .int .i64 0, .bool false, .nilFunc] 63) = z := ⟨_, rfl⟩
      have HQ : Hid (Kp w W5 ∧ Rd s b B k c rv dv W5 ∧ Lc 63 p zeC W5 ∧ Mp bm (mapF tabC) W5 ∧ Lc 63 q zeC W5 ∧ p < q) := by
        have k2 : Kp wr W5 := by rw [← hW5]; exact kp_alloc _ _
        exact ⟨kp_trans HJ.out.2.1 k2, HJ.out.2.2.1.kp k2, HJ.out.2.2.2.1.kp k2, HJ.out.2.2.2.2.kp k2, by rw [← hW5, ← hq]; exact Lc.new wr zeC 63, by rw [← hq]; exact HJ.out.2.2.2.1.lt⟩
      have hne : q ≠ b ∧ q ≠ p ∧ w.heap.size ≤ q := by have := HQ.out.2.2.2.2.2; have := Hbp.out; omega
      have Hne : Hid (q ≠ b ∧ q ≠ p ∧ w.heap.size ≤ q) := hne
      cases ht : tabF (l.take n) with
      | none =>
        as_aux_lemma =>
        rw [ht] at hG hlk
        have hlk2 : (Instr.lookup 59 (.map (some bm)) (.string (X.extract 0 n)) true).run Tryz.prog wr = .ok (.tuple #[.agg zeC.toArray, .bool false]) wr := hlk
        have HG : Hid (wordG (n - 1) l = R) := hG.symm
        clear hlk hmf hG hxs HJ ht hne
        go_wp2_with (refine wpList_store_box HQ.out.2.2.2.2.1 0 zeC rfl 63 (.tmp 7) (.tmp 27) rfl rfl rfl (Nat.le_refl 4) sizeCom zeC_one rfl ?_; intro w6 q1 q2 q3; have HY : Hid (Kp w w6 ∧ Rd s b B k c rv dv w6 ∧ Lc 63 p zeC w6 ∧ Mp bm (mapF tabC) w6) := ⟨kp_on HQ.out.1 q2 Hne.out.2.2, HQ.out.2.1.off HQ.out.2.2.2.2.1 (by decide) (fun e => Hne.out.1 e.symm) q2, HQ.out.2.2.1.fr q2 (by unfold On; exact fun e => Hne.out.2.1 e.symm), HQ.out.2.2.2.1.fr q2 (by unfold On; exact fun e => HQ.out.2.2.2.1.ne HQ.out.2.2.2.2.1 e.symm)⟩; clear q1 q2 q3)
        exact ⟨⟨n - 1, by omega, by rw [show ((n - 1 : Nat) : Int) = (n : Int) - 1 by omega], HG.out, HY.out⟩, by show ((n : Int) - 1).toNat < ((n : Int)).toNat; omega⟩
      | some en =>
        as_aux_lemma =>
        rw [ht] at hG hlk
        have hlk2 : (Instr.lookup 59 (.map (some bm)) (.string (X.extract 0 n)) true).run Tryz.prog wr = .ok (.tuple #[.agg (enC en).toArray, .bool true]) wr := hlk
        have HG : Hid (R = some (en, l.drop n) ∧ s.size - (l.drop n).length = k + n) := ⟨hG, HX.out.2.2.2 n hnl⟩
        clear hlk hmf hG hxs HJ ht hne
        have hen : (enC en).length = 4 := rfl
        go_upto_region 8 with (refine wpList_store_box HQ.out.2.2.2.2.1 0 (enC en) rfl 63 (.tmp 7) (.tmp 27) rfl rfl rfl (Nat.le_refl 4) sizeCom (enC_one en) rfl ?_; intro w6 q1 q2 q3; have HY : Hid (Kp w w6 ∧ Rd s b B k c rv dv w6 ∧ Lc 63 p zeC w6 ∧ Lc 63 q (enC en) w6) := ⟨kp_on HQ.out.1 q2 Hne.out.2.2, HQ.out.2.1.off HQ.out.2.2.2.2.1 (by decide) (fun e => Hne.out.1 e.symm) q2, HQ.out.2.2.1.fr q2 (by unfold On; exact fun e => Hne.out.2.1 e.symm), q1⟩; clear q1 q2 q3)
        have c1 := HY.out.2.1.pc.c1
        have f1 := HY.out.2.1.pc.f1
        clear hlk2 hq hW5 HQ hen
        go_upto_region 9 with fail
        have HZ : Hid (Fr (On b) w (w6.setCell ⟨b, 1, none⟩ (.int .i64 ((k : Int) + (n : Int)))) ∧ Rd s b B (k + n) c rv dv (w6.setCell ⟨b, 1, none⟩ (.int .i64 ((k : Int) + (n : Int)))) ∧ Lc 63 p zeC (w6.setCell ⟨b, 1, none⟩ (.int .i64 ((k : Int) + (n : Int)))) ∧ Lc 63 q (enC en) (w6.setCell ⟨b, 1, none⟩ (.int .i64 ((k : Int) + (n : Int))))) := by
          have f := fr_set b 1 (.int .i64 ((k : Int) + (n : Int))) w6
          refine ⟨(Fr.of_below HY.out.1).trans f, HY.out.2.1.call f (by have := HY.out.2.1.pc.to (k + n); simpa using this), HY.out.2.2.1.fr f (by unfold On; have := Hbp.out.1; omega), HY.out.2.2.2.fr f (by unfold On; exact Hne.out.1)⟩
        obtain ⟨W7, hW7⟩ : ∃ z, w6.setCell ⟨b, 1, none⟩ (.int .i64 ((k : Int) + (n : Int))) = z := ⟨_, rfl⟩
        rw [hW7] at HZ ⊢
        clear hW7 HY c1 f1
        go_wp2_with (first | (refine wpList_store_box HZ.out.2.2.1 0 (enC en) rfl 63 (.tmp 2) (.tmp 40) rfl rfl rfl (Nat.le_refl 4) sizeCom (enC_one en) rfl ?_; intro w9 q1 q2 q3; have HV : Hid (Fr (On b) w w9 ∧ Rd s b B (k + n) c rv dv w9 ∧ Lc 63 p (enC en) w9) := ⟨frB HZ.out.1 Hbp.out.2 q2, HZ.out.2.1.off HZ.out.2.2.1 (by decide) (by have := Hbp.out.1; omega) q2, q1⟩; clear q1 q2 q3) | (refine wpList_load_box HZ.out.2.2.2 0 (enC en) rfl 63 (.tmp 7) rfl rfl rfl _ Tryz.underlying63 rfl sizeCom ?_))
        refine bodyPost_ret (results_box2 rfl rfl HV.out.2.2 Tryz.underlying63 rfl sizeCom) rfl ?_
        exact ⟨fun en' r' e => (by rw [HG.out.1] at e; cases e; exact ⟨rfl, HV.out.1, by rw [HG.out.2]; exact HV.out.2.1⟩), fun e => (by rw [HG.out.1] at e; cases e)⟩
end
end Go.Proofs.YtfgapmfjfienhaaGreatDoor
/- A command is read; Parse. -/
namespace Go.Proofs.YtfgapmfjfienhaaGreatDoor
open Go.ChangeShapes Go.WideShapes Go.ChangeAt Go.RowKit Go.Maps Go.MapKept
set_option linter.unusedVariables false
set_option linter.unusedSimpArgs false
set_option maxRecDepth 100000
/-- A call of a function that is a value, in a walk. -/
theorem wpl_callV {P : Program} {ops : Array Oper} {rest : List Oper} {Q : Exit → Act → World → Prop} (d : Tmp) (f : FuncId) {o : Oper} {fn : Func} {a : Act} {w : World} {x : Operand} {xs : Array Operand} {ats : Array TypeId} {vals : Array Value} (hgd : o.guard = none)
    (hop : o.op = .call { callee := .value x, args := xs, argTypes := ats }) (hx : a.eval x = .func (.func f) #[] #[]) (hd : o.dst = some d) (hv : xs.map a.eval = vals)
    (hf : P.funcs[f]? = some fn) (hn : (fn.name == "runtime.NumGoroutine") = false) (hb : fn.body.isNone = false)
    (h : Calls P f vals w fun e w' => ∃ v, e = .returned v ∧ wpList P ops Q rest (a.put (some d) v) w') : wpList P ops Q (o :: rest) a w :=
  wpList_plain hgd fun K' hK' => call_stepV d f hop hx hd hv hf hn hb (h.mono fun e w' ⟨v, he, hk⟩ => ⟨v, he, hK' _ _ hk⟩)
theorem fl_func (fl : Fl) : ∃ fn, Tryz.prog.funcs[flN fl]? = some fn ∧ (fn.name == "runtime.NumGoroutine") = false ∧ fn.body.isNone = false := by
  cases fl
  · exact ⟨_, Tryz.func49, by kernel_rfl, by kernel_rfl⟩
  · exact ⟨_, Tryz.func50, by kernel_rfl, by kernel_rfl⟩
  · exact ⟨_, Tryz.func51, by kernel_rfl, by kernel_rfl⟩
  · exact ⟨_, Tryz.func52, by kernel_rfl, by kernel_rfl⟩
  · exact ⟨_, Tryz.func53, by kernel_rfl, by kernel_rfl⟩
  · exact ⟨_, Tryz.func54, by kernel_rfl, by kernel_rfl⟩
  · exact ⟨_, Tryz.func55, by kernel_rfl, by kernel_rfl⟩
  · exact ⟨_, Tryz.func56, by kernel_rfl, by kernel_rfl⟩
  · exact ⟨_, Tryz.func57, by kernel_rfl, by kernel_rfl⟩
  · exact ⟨_, Tryz.func58, by kernel_rfl, by kernel_rfl⟩
  · exact ⟨_, Tryz.func59, by kernel_rfl, by kernel_rfl⟩
theorem tabC_shift : ∀ p ∈ tabC, p.2.fl = .shift → p.2.name = [62] ∨ p.2.name = [60] := by decide +kernel
theorem tabF_mem {x : List UInt8} {e : Ent} (h : tabF x = some e) : ∃ p ∈ tabC, p.2 = e := by
  unfold tabF at h
  obtain ⟨p, h1, h2⟩ := Option.map_eq_some_iff.1 h
  exact ⟨p, List.mem_of_find?_eq_some h1, h2⟩
theorem wordG_mem : ∀ (n : Nat) (l : List UInt8) {e : Ent} {r : List UInt8}, wordG n l = some (e, r) → ∃ p ∈ tabC, p.2 = e
  | 0, l, e, r, h => by cases h
  | n + 1, l, e, r, h => by
    unfold wordG at h
    split at h
    · rename_i e0 h0
      cases h; exact tabF_mem h0
    · exact wordG_mem n l h
section
variable {s : ByteArray} {b B k j : Nat} {c c' : CmP} {rv dv v : Value} {w w1 w2 : World} {l : List UInt8}
theorem follow_o (fl : Fl) (h : Rd s b B k c rv dv w) (hs : s.size ≤ 1000000) (hl : Lf s k l) (hn : fl = .shift → c.name = [62] ∨ c.name = [60]) :
    Calls Tryz.prog (flN fl) #[.pointer (some ⟨b, 0, none⟩)] w fun e w' => Aft s b B rv (followC fl c l) w e w' := by
  cases fl
  · exact regnum_o h hs hl
  · exact dest_o h hs hl
  · exact number_o h hs hl
  · exact register_o h hs hl
  · exact mark_o h hs hl
  · exact subst_o h hs hl
  · exact visits_o h hs hl
  · exact keys_o h hs hl
  · exact nothing_o h hs hl
  · rcases hn rfl with q | q
    · exact shift_o h hs hl q (by decide) (by decide)
    · exact shift_o h hs hl q (by decide) (by decide)
  · exact again_o h hs hl
theorem numberC_suf (c : CmP) (l : List UInt8) : (numberC c l).2.2 <:+ l := by
  unfold numberC
  simp only
  split
  · exact blkL_suf l
  · split
    · exact (dropW_suf _).trans (blkL_suf l)
    · exact (dropW_suf _).trans (blkL_suf l)
theorem againC_suf (c : CmP) (l : List UInt8) : (againC c l).2.2 <:+ l := (numberC_suf _ _).trans ((dropW_suf _).trans (blkL_suf l))
theorem follow_suf (fl : Fl) (c : CmP) (l : List UInt8) : (followC fl c l).1 = 0 → (followC fl c l).2.2 <:+ l := by
  cases fl
  · exact fun _ => (numberC_suf _ _).trans ((oneL_suf _ _).trans (blkL_suf l))
  · intro _
    show (destC c l).2.2 <:+ l
    unfold destC
    split
    · exact List.suffix_refl _
    · rename_i xs r h
      split
      · exact parL_suf h
      · exact parL_suf h
  · exact fun _ => numberC_suf _ _
  · exact fun _ => (oneL_suf _ _).trans (blkL_suf l)
  · exact fun _ => (oneL_suf _ _).trans (blkL_suf l)
  · intro _
    show (substC c l).2.2 <:+ l
    unfold substC
    simp only
    split
    · exact (againC_suf _ _).trans ((oneL_suf _ _).trans (blkL_suf l))
    · exact (againC_suf _ _).trans ((upL_suf _ _).trans ((upL_suf _ _).trans ((oneL_suf _ _).trans (blkL_suf l))))
  · intro _
    show (visitsC c l).2.2 <:+ l
    unfold visitsC
    simp only
    split
    · exact (oneL_suf _ _).trans (blkL_suf l)
    · exact List.nil_suffix
  · intro _
    show (keysC c l).2.2 <:+ l
    unfold keysC
    simp only
    split <;> exact List.nil_suffix
  · exact fun _ => List.suffix_refl _
  · exact fun _ => (numberC_suf _ _).trans (dropW_suf _)
  · exact fun _ => againC_suf _ _
/-- What read answers. -/
def ReR (s : ByteArray) (b B : Nat) (R : Nat × CmP) (w : World) (e : Ending) (w' : World) : Prop :=
  e = .returned (.int .u16 (R.1 : Int)) ∧ Fr (On b) w w' ∧ (R.1 = 0 → ∃ k rv dv, Rd s b B k R.2 rv dv w')
theorem ReR.mk' {R : Nat × CmP} {x : Int} (he : x = (R.1 : Int)) (f : Fr (On b) w w1) (h : R.1 = 0 → ∃ k rv dv, Rd s b B k R.2 rv dv w1) : ReR s b B R w (.returned (.int .u16 x)) w1 := ⟨by rw [he], f, h⟩
set_option maxHeartbeats 64000000 in
theorem read_o (h : Rd s b B 0 {} (.slice none 0 0) (.slice none 0 0) w) (hs : s.size ≤ 1000000) (hw : Gs w) :
    Calls Tryz.prog 18 #[.pointer (some ⟨b, 0, none⟩)] w fun e w' => ReR s b B (readC s.data.toList) w e w' := by
  obtain ⟨l, hle⟩ : ∃ l, s.data.toList = l := ⟨_, rfl⟩
  have hl : Lf s 0 l := by rw [← hle]; exact Lf.start s
  have HA : Hid (Calls Tryz.prog 30 #[.pointer (some ⟨b, 0, none⟩)] w fun e w' => CaR s b B 0 {} (.slice none 0 0) (.slice none 0 0) (parL l) w e w') := caddr_o h hs hl
  have hsf : ∀ xs r, parL l = some (xs, r) → Lf s (s.size - r.length) r := fun xs r q => hl.suf (parL_suf q)
  have Hw : Hid (Gs w ∧ ∀ z, Fr (On b) w z → Gs z) := ⟨hw, fun z f c hc => by
    have := hw c hc
    rw [World.cell?_of_block (f.block 0 (World.block_lt_of_cell? _ _ this) (by
      unfold On
      intro e
      have hb : Lc 49 b _ w := h.pc
      subst e
      have h2 := hw 1 (by decide)
      rw [hb.cell] at h2
      simp at h2))]
    exact this⟩
  rw [hle]
  obtain ⟨R, hR⟩ : ∃ R, readC l = R := ⟨_, rfl⟩
  have HR : Hid (readC l = R) := hR
  rw [hR]
  cases hP : parL l with
  | none =>
    as_aux_lemma =>
    rw [hP] at HA
    have HRn : Hid (R = (141, {})) := by
      have := HR.out
      unfold readC at this
      rw [hP] at this
      exact this.symm
    clear h hl hle hsf hR HR hP hw
    go_enter Tryz.func18, Tryz.ntmps18
    go_wp2_with fail
    refine Calls.mono HA.out ?_
    intro e w2 qq
    obtain ⟨rfl, q1, k2, q2⟩ := qq.no rfl
    have HX : Hid (Fr (On b) w w2 ∧ Rd s b B k2 {} (.slice none 0 0) (.slice none 0 0) w2) := ⟨q1, q2⟩
    clear qq q1 q2 HA
    have c2 : w2.cell? ⟨b, 2, none⟩ = some (.slice none 0 0) := HX.out.2.cell (i := 0) rfl
    have f2 : w2.frozen? ⟨b, 2, none⟩ = false := HX.out.2.fz 2
    go_wp2_with fail
    go_ret
    rw [HRn.out]
    exact .mk' rfl (HX.out.1.trans (fr_set _ _ _ _)) fun q => (by cases q)
  | some p =>
    obtain ⟨xs, r⟩ := p
    rw [hP] at HA
    have hL := hsf _ _ hP
    have HL : Hid (Lf s (s.size - r.length) r) := hL
    have HR1 : Hid ((if r = [] then (0, { rg := xs }) else match wordL r with
        | none => (150, {})
        | some (e, r1) =>
          let q := if e.bold then oneL bldF r1 else (none, r1)
          let x := followC e.fl { rg := xs, name := e.name, bang := q.1.isSome } q.2
          if x.1 ≠ 0 then (x.1, {}) else if blkL x.2.2 = [] then (0, x.2.1) else (151, {})) = R) := by
      have := HR.out
      unfold readC at this
      rw [hP] at this
      exact this
    have HRs : Hid (∀ z c rv dv, Rd s b B (s.size - r.length) c rv dv z → Calls Tryz.prog 31 #[.pointer (some ⟨b, 0, none⟩)] z fun e w' => e = .returned (.string (bA r)) ∧ ∃ q, w' = z.drewN q) := fun z c rv dv hz => rest_any hz.pc hs hL
    have HWo : Hid (∀ z c rv dv, Rd s b B (s.size - r.length) c rv dv z → Gs z → Calls Tryz.prog 32 #[.pointer (some ⟨b, 0, none⟩)] z fun e w' => WoR s b B (s.size - r.length) c rv dv (wordL r) z e w') := fun z c rv dv hz hg => word_o hz hs hL hg
    clear h hl hle hsf hR HR hP hw hL
    go_enter Tryz.func18, Tryz.ntmps18
    go_wp2_with fail
    refine Calls.mono HA.out ?_
    intro e w2 qq
    obtain ⟨⟨v, rfl, hv⟩, q1, q2⟩ := qq.yes _ _ rfl
    obtain ⟨va, vc, rfl, _, _⟩ := owns_form hv
    have HX : Hid (Fr (On b) w w2 ∧ Rd s b B (s.size - r.length) {} (.slice none 0 0) (.slice none 0 0) w2 ∧ w2.ownsRow B 43 6 (.slice va xs.length vc) xs.length (adCs xs)) := ⟨q1, q2, hv⟩
    clear qq q1 q2 hv HA
    have c2 : w2.cell? ⟨b, 2, none⟩ = some (.slice none 0 0) := HX.out.2.1.cell (i := 0) rfl
    have f2 : w2.frozen? ⟨b, 2, none⟩ = false := HX.out.2.1.fz 2
    go_upto_region 5 with fail
    have HY : Hid (Fr (On b) w (w2.setCell ⟨b, 2, none⟩ (.slice va xs.length vc)) ∧ Rd s b B (s.size - r.length) { rg := xs } (.slice va xs.length vc) (.slice none 0 0) (w2.setCell ⟨b, 2, none⟩ (.slice va xs.length vc))) := ⟨HX.out.1.trans (fr_set _ _ _ _), HX.out.2.1.range HX.out.2.2⟩
    obtain ⟨W3, hW3⟩ : ∃ z, w2.setCell ⟨b, 2, none⟩ (.slice va xs.length vc) = z := ⟨_, rfl⟩
    rw [hW3] at HY ⊢
    clear hW3 HX c2 f2
    go_wp2_with fail
    refine Calls.mono (HRs.out _ _ _ _ HY.out.2) ?_
    rintro e w4 ⟨rfl, q4, rfl⟩
    have HZ : Hid (Fr (On b) w (W3.drewN q4) ∧ Rd s b B (s.size - r.length) { rg := xs } (.slice va xs.length vc) (.slice none 0 0) (W3.drewN q4)) := ⟨HY.out.1.trans (Fr.drewN _ _ q4), HY.out.2.kp (kp_drewN _ q4)⟩
    clear HRs HY
    by_cases hr0 : r = []
    · as_aux_lemma =>
      subst hr0
      have hh := HR1.out
      rw [if_pos rfl] at hh
      have HR2 : Hid _ := hh
      have hbe : bA ([] : List UInt8) = ⟨#[]⟩ := rfl
      clear hh HR1 HWo
      go_wp2_with fail
      go_ret
      rw [← HR2.out]
      exact .mk' rfl HZ.out.1 fun _ => ⟨_, _, _, HZ.out.2⟩
    · have g7 : (bA r).toList.isEmpty = false := str_ne hr0
      have hh := HR1.out
      rw [if_neg hr0] at hh
      have HR2 : Hid _ := hh
      clear hh HR1 hr0
      obtain ⟨X, hX⟩ : ∃ X, bA r = X := ⟨_, rfl⟩
      rw [hX] at g7 ⊢
      clear hX
      go_wp2_with fail
      refine Calls.mono (HWo.out _ _ _ _ HZ.out.2 (Hw.out.2 _ HZ.out.1)) ?_
      clear HWo
      intro e w5 qq
      cases hWd : wordL r with
      | none =>
        as_aux_lemma =>
        rw [hWd] at qq
        have hh := HR2.out
        rw [hWd] at hh
        have HR3 : Hid (((150, {}) : Nat × CmP) = R) := hh
        obtain ⟨rfl, f5, r5⟩ := qq.no rfl
        have HX : Hid (Fr (On b) w w5) := HZ.out.1.trans f5
        obtain ⟨q, hq⟩ : ∃ q, w5.heap.size = q := ⟨_, rfl⟩
        obtain ⟨W6, hW6⟩ : ∃ z, w5.alloc (.cells #[.string ⟨#[]⟩, .int .i64 0, .bool false, .nilFunc] 63) = z := ⟨_, rfl⟩
        have HQ : Hid (Lc 63 q zeC W6 ∧ Fr (On b) w W6 ∧ w.heap.size ≤ q) := by
          rw [← hW6, ← hq]; exact ⟨Lc.new w5 zeC 63, HX.out.trans (Fr.of_below (kp_alloc _ _)), HX.out.size⟩
        clear qq hh HR2 f5 r5 HZ hWd HX
        go_wp2_with (refine wpList_store_box HQ.out.1 0 zeC rfl 63 (.tmp 4) (.tmp 27) rfl rfl rfl (Nat.le_refl 4) sizeCom zeC_one rfl ?_; intro w7 q1 q2 q3; have HV : Hid (Fr (On b) w w7) := frB HQ.out.2.1 HQ.out.2.2 q2; clear q1 q2 q3)
        go_ret
        rw [← HR3.out]
        exact .mk' rfl HV.out fun q => (by cases q)
      | some p =>
        obtain ⟨en, r1⟩ := p
        rw [hWd] at qq
        have hh := HR2.out
        rw [hWd] at hh
        simp only at hh
        have HSh0 : Hid (en.fl = .shift → en.name = [62] ∨ en.name = [60]) := fun q => by
          obtain ⟨p, hp, e⟩ := wordG_mem _ _ hWd
          have := tabC_shift p hp
          rw [e] at this
          exact this q
        have hL1 : Lf s (s.size - r1.length) r1 := HL.out.suf (wordL_suf hWd)
        obtain ⟨rfl, f5, r5⟩ := qq.yes _ _ rfl
        obtain ⟨fn, hf1, hf2, hf3⟩ := fl_func en.fl
        have Hfn : Hid (Tryz.prog.funcs[flN en.fl]? = some fn ∧ (fn.name == "runtime.NumGoroutine") = false ∧ fn.body.isNone = false) := ⟨hf1, hf2, hf3⟩
        have HX : Hid (Fr (On b) w w5 ∧ Rd s b B (s.size - r1.length) { rg := xs } (.slice va xs.length vc) (.slice none 0 0) w5) := ⟨HZ.out.1.trans f5, r5⟩
        obtain ⟨q, hq⟩ : ∃ q, w5.heap.size = q := ⟨_, rfl⟩
        obtain ⟨W6, hW6⟩ : ∃ z, w5.alloc (.cells #[.string ⟨#[]⟩, .int .i64 0, .bool false, .nilFunc] 63) = z := ⟨_, rfl⟩
        have HQ : Hid (Lc 63 q zeC W6 ∧ Fr (On b) w W6 ∧ w.heap.size ≤ q ∧ Rd s b B (s.size - r1.length) { rg := xs } (.slice va xs.length vc) (.slice none 0 0) W6 ∧ q ≠ b) := by
          rw [← hW6, ← hq]
          refine ⟨Lc.new w5 zeC 63, HX.out.1.trans (Fr.of_below (kp_alloc _ _)), HX.out.1.size, HX.out.2.kp (kp_alloc _ _), ?_⟩
          have := HX.out.2.lt
          omega
        obtain ⟨nm, pl, bo, fl⟩ := en
        simp only at hh HSh0 Hfn
        have HFin0 : Hid _ := hh
        have HL1 : Hid (Lf s (s.size - r1.length) r1) := hL1
        have Hqb : Hid (q ≠ b ∧ w.heap.size ≤ q) := ⟨HQ.out.2.2.2.2, HQ.out.2.2.1⟩
        clear qq hh HR2 f5 r5 HZ hWd HX hL1 hf1 hf2 hf3
        go_upto_region 10 with (refine wpList_store_box HQ.out.1 0 (enC ⟨nm, pl, bo, fl⟩) rfl 63 (.tmp 4) (.tmp 27) rfl rfl rfl (Nat.le_refl 4) sizeCom (enC_one _) rfl ?_; intro w7 q1 q2 q3; have HV : Hid (Fr (On b) w w7 ∧ Rd s b B (s.size - r1.length) { rg := xs } (.slice va xs.length vc) (.slice none 0 0) w7 ∧ Lc 63 q (enC ⟨nm, pl, bo, fl⟩) w7) := ⟨frB HQ.out.2.1 HQ.out.2.2.1 q2, HQ.out.2.2.2.1.off HQ.out.1 (by decide) (fun e => HQ.out.2.2.2.2 e.symm) q2, q1⟩; clear q1 q2 q3)
        clear HQ hq hW6
        have c0 : w7.cell? ⟨q, 0, none⟩ = some (.string (bA nm)) := HV.out.2.2.at (j := 0) rfl
        have c3 : w7.cell? ⟨b, 3, none⟩ = some (.string (bA [])) := HV.out.2.1.cell (i := 1) rfl
        have f3 : w7.frozen? ⟨b, 3, none⟩ = false := HV.out.2.1.fz 3
        go_upto_region 11 with fail
        have HB : Hid (Fr (On b) w (w7.setCell ⟨b, 3, none⟩ (.string (bA nm))) ∧ Rd s b B (s.size - r1.length) { rg := xs, name := nm } (.slice va xs.length vc) (.slice none 0 0) (w7.setCell ⟨b, 3, none⟩ (.string (bA nm))) ∧ Lc 63 q (enC ⟨nm, pl, bo, fl⟩) (w7.setCell ⟨b, 3, none⟩ (.string (bA nm)))) := ⟨HV.out.1.trans (fr_set _ _ _ _), HV.out.2.1.set 1 (.string (bA nm)) rfl rfl rfl, HV.out.2.2.fr (fr_set _ _ _ _) (by unfold On; exact Hqb.out.1)⟩
        obtain ⟨W8, hW8⟩ : ∃ z, w7.setCell ⟨b, 3, none⟩ (.string (bA nm)) = z := ⟨_, rfl⟩
        rw [hW8] at HB ⊢
        clear hW8 HV c0 c3 f3
        have HSh : Hid (fl = .shift → nm = [62] ∨ nm = [60]) := HSh0.out
        have cb : W8.cell? ⟨q, 2, none⟩ = some (.bool bo) := HB.out.2.2.at (j := 2) rfl
        cases bo with
        | false =>
          have hh := HFin0.out
          simp only [Bool.false_eq_true, if_false, Option.isSome_none] at hh
          obtain ⟨x1, x2, x3, hx⟩ : ∃ x1 x2 x3, followC fl { rg := xs, name := nm, bang := false } r1 = (x1, x2, x3) := ⟨_, _, _, rfl⟩
          have HFo : Hid (∀ z dv, Rd s b B (s.size - (r1).length) { rg := xs, name := nm, bang := false } (.slice va xs.length vc) dv z → Calls Tryz.prog (flN fl) #[.pointer (some ⟨b, 0, none⟩)] z fun e w' => Aft s b B (.slice va xs.length vc) (x1, x2, x3) z e w') := fun z dv hz => by
            rw [← hx]; exact follow_o fl hz hs HL1.out (fun q => HSh.out q)
          have HLx : Hid (x1 = 0 → Lf s (s.size - x3.length) x3) := fun q => by
            have := follow_suf fl { rg := xs, name := nm, bang := false } r1
            rw [hx] at this
            exact (HL1.out).suf (this q)

          simp only [hx] at hh
          have HFin : Hid ((if x1 ≠ 0 then (x1, {}) else if blkL x3 = [] then (0, x2) else (151, {})) = R) := hh
          have HL3 : Hid (x1 = 0 → Lf s (s.size - x3.length) x3) := fun q => HLx.out q
          clear hh HFin0 hx
          go_upto_region 13 with fail
          clear cb
          have c3 : W8.cell? ⟨q, 3, none⟩ = some (.func (.func (flN fl)) #[] #[]) := HB.out.2.2.at (j := 3) rfl
          go_upto_region 14 with (refine wpl_callV (vals := #[.pointer (some ⟨b, 0, none⟩)]) 53 (flN fl) rfl rfl rfl rfl (by simp [Act.eval]) Hfn.out.1 Hfn.out.2.1 Hfn.out.2.2 ?_; refine Calls.mono (HFo.out _ _ HB.out.2.1) ?_; intro e w20 qq; obtain ⟨rfl, f20, d20⟩ := qq; have HT : Hid (Fr (On b) w w20 ∧ (x1 = 0 → ∃ dv', Rd s b B (s.size - x3.length) x2 (.slice va xs.length vc) dv' w20)) := ⟨HB.out.1.trans f20, fun q => (d20 q).2.2⟩; clear f20 d20; refine ⟨_, rfl, ?_⟩)
          by_cases hx : x1 = 0
          · have g9 : ((x1 : Int) == 0) = true := by rw [beq_iff_eq]; omega
            obtain ⟨dv', hr20⟩ := HT.out.2 hx
            have HBl : Hid (Calls Tryz.prog 35 #[.pointer (some ⟨b, 0, none⟩)] w20 fun e w' => e = .returned (.tuple #[]) ∧ Hid (Fr (On b) w w' ∧ Rd s b B (s.size - (blkL x3).length) x2 (.slice va xs.length vc) dv' w')) := (blanks_any hr20.pc hs (HL3.out hx)).mono (by
              rintro e w' ⟨rfl, q1, q2⟩; exact ⟨rfl, HT.out.1.trans q1, hr20.call q1 q2⟩)
            have HL4 : Hid (Lf s (s.size - (blkL x3).length) (blkL x3)) := (HL3.out hx).suf (blkL_suf x3)
            have hfin := HFin.out
            rw [if_neg (by omega : ¬ x1 ≠ 0)] at hfin
            obtain ⟨y, hy⟩ : ∃ y, blkL x3 = y := ⟨_, rfl⟩
            rw [hy] at HBl HL4 hfin
            have HRs : Hid (∀ z, Rd s b B (s.size - y.length) x2 (.slice va xs.length vc) dv' z → Calls Tryz.prog 31 #[.pointer (some ⟨b, 0, none⟩)] z fun e w' => e = .returned (.string (bA y)) ∧ ∃ q, w' = z.drewN q) := fun z hz => rest_any hz.pc hs HL4.out
            have HFin2 : Hid _ := hfin
            clear hfin hr20 hy c3
            go_wp2_with fail
            refine Calls.mono HBl.out ?_
            rintro e w21 ⟨rfl, HU⟩
            clear HBl
            go_wp2_with fail
            refine Calls.mono (HRs.out _ HU.out.2) ?_
            rintro e w22 ⟨rfl, qq, rfl⟩
            clear HRs
            by_cases hy0 : y = []
            · subst hy0
              have hfin := HFin2.out
              rw [if_pos rfl] at hfin
              have HFin3 : Hid _ := hfin
              have hbe : bA ([] : List UInt8) = ⟨#[]⟩ := rfl
              clear hfin HFin2
              go_wp2_with fail
              go_ret
              rw [← HFin3.out]
              exact .mk' rfl (HU.out.1.trans (Fr.drewN _ _ qq)) fun _ => ⟨_, _, _, HU.out.2.kp (kp_drewN _ qq)⟩
            · have g8 : (bA y).toList.isEmpty = false := str_ne hy0
              have hfin := HFin2.out
              rw [if_neg hy0] at hfin
              have HFin3 : Hid _ := hfin
              clear hfin HFin2 hy0
              go_wp2_with fail
              go_ret
              rw [← HFin3.out]
              exact .mk' rfl (HU.out.1.trans (Fr.drewN _ _ qq)) fun q => (by cases q)
          · have g9 : ((x1 : Int) == 0) = false := by rw [beq_eq_false_iff_ne]; omega
            have hfin := HFin.out
            rw [if_pos hx] at hfin
            have HFin3 : Hid (((x1, {}) : Nat × CmP) = R) := hfin
            have Hx1 : Hid (x1 ≠ 0) := hx
            clear hfin hx c3
            go_wp2_with fail
            go_ret
            rw [← HFin3.out]
            exact .mk' rfl HT.out.1 fun q => absurd q Hx1.out

        | true =>
          have hh := HFin0.out
          simp only [if_true] at hh
          have HO : Hid (∀ z, Rd s b B (s.size - r1.length) { rg := xs, name := nm } (.slice va xs.length vc) (.slice none 0 0) z → Calls Tryz.prog 33 #[.pointer (some ⟨b, 0, none⟩), .func (.func 34) #[] #[]] z fun e w' => e = .returned (.tuple #[.int .u8 ((((oneL bldF r1).1.map UInt8.toNat).getD 0 : Nat) : Int), .bool (oneL bldF r1).1.isSome]) ∧ Hid (Fr (On b) z w' ∧ Rd s b B (s.size - (oneL bldF r1).2.length) { rg := xs, name := nm } (.slice va xs.length vc) (.slice none 0 0) w')) := fun z hz => (one_bld hz.pc hs HL1.out).mono (by
            rintro e w' ⟨rfl, q1, q2⟩; exact ⟨rfl, q1, hz.call q1 q2⟩)
          have hL2 : Lf s (s.size - (oneL bldF r1).2.length) (oneL bldF r1).2 := HL1.out.suf (oneL_suf _ _)
          obtain ⟨qo, r2, hqo⟩ : ∃ qo r2, oneL bldF r1 = (qo, r2) := ⟨_, _, rfl⟩
          simp only [hqo] at hh HO hL2
          obtain ⟨G, hG⟩ : ∃ G : Nat, (qo.map UInt8.toNat).getD 0 = G := ⟨_, rfl⟩
          obtain ⟨M, hM⟩ : ∃ M : Bool, qo.isSome = M := ⟨_, rfl⟩
          simp only [hG, hM] at HO hh
          obtain ⟨x1, x2, x3, hx⟩ : ∃ x1 x2 x3, followC fl { rg := xs, name := nm, bang := M } r2 = (x1, x2, x3) := ⟨_, _, _, rfl⟩
          have HFo : Hid (∀ z dv, Rd s b B (s.size - (r2).length) { rg := xs, name := nm, bang := M } (.slice va xs.length vc) dv z → Calls Tryz.prog (flN fl) #[.pointer (some ⟨b, 0, none⟩)] z fun e w' => Aft s b B (.slice va xs.length vc) (x1, x2, x3) z e w') := fun z dv hz => by
            rw [← hx]; exact follow_o fl hz hs hL2 (fun q => HSh.out q)
          have HLx : Hid (x1 = 0 → Lf s (s.size - x3.length) x3) := fun q => by
            have := follow_suf fl { rg := xs, name := nm, bang := M } r2
            rw [hx] at this
            exact (hL2).suf (this q)

          simp only [hx] at hh
          have HFin : Hid ((if x1 ≠ 0 then (x1, {}) else if blkL x3 = [] then (0, x2) else (151, {})) = R) := hh
          have HL3 : Hid (x1 = 0 → Lf s (s.size - x3.length) x3) := fun q => HLx.out q
          clear hh HFin0 hx hqo hG hM hL2
          go_wp2_with fail
          refine Calls.mono (HO.out _ HB.out.2.1) ?_
          rintro e w9 ⟨rfl, HY⟩
          clear HO cb
          have HB2 : Hid (Fr (On b) w w9 ∧ Rd s b B (s.size - r2.length) { rg := xs, name := nm } (.slice va xs.length vc) (.slice none 0 0) w9 ∧ Lc 63 q (enC ⟨nm, pl, true, fl⟩) w9) := ⟨HB.out.1.trans HY.out.1, HY.out.2, HB.out.2.2.fr HY.out.1 (by unfold On; exact Hqb.out.1)⟩
          clear HB HY
          have c4 : w9.cell? ⟨b, 4, none⟩ = some (.bool false) := HB2.out.2.1.cell (i := 2) rfl
          have f4 : w9.frozen? ⟨b, 4, none⟩ = false := HB2.out.2.1.fz 4
          go_upto_region 13 with fail
          have HB : Hid (Fr (On b) w (w9.setCell ⟨b, 4, none⟩ (.bool M)) ∧ Rd s b B (s.size - r2.length) { rg := xs, name := nm, bang := M } (.slice va xs.length vc) (.slice none 0 0) (w9.setCell ⟨b, 4, none⟩ (.bool M)) ∧ Lc 63 q (enC ⟨nm, pl, true, fl⟩) (w9.setCell ⟨b, 4, none⟩ (.bool M))) := ⟨HB2.out.1.trans (fr_set _ _ _ _), HB2.out.2.1.set 2 (.bool M) rfl rfl rfl, HB2.out.2.2.fr (fr_set _ _ _ _) (by unfold On; exact Hqb.out.1)⟩
          obtain ⟨W9, hW9⟩ : ∃ z, w9.setCell ⟨b, 4, none⟩ (.bool M) = z := ⟨_, rfl⟩
          rw [hW9] at HB ⊢
          clear hW9 HB2 c4 f4
          have c3 : W9.cell? ⟨q, 3, none⟩ = some (.func (.func (flN fl)) #[] #[]) := HB.out.2.2.at (j := 3) rfl
          go_upto_region 14 with (refine wpl_callV (vals := #[.pointer (some ⟨b, 0, none⟩)]) 53 (flN fl) rfl rfl rfl rfl (by simp [Act.eval]) Hfn.out.1 Hfn.out.2.1 Hfn.out.2.2 ?_; refine Calls.mono (HFo.out _ _ HB.out.2.1) ?_; intro e w20 qq; obtain ⟨rfl, f20, d20⟩ := qq; have HT : Hid (Fr (On b) w w20 ∧ (x1 = 0 → ∃ dv', Rd s b B (s.size - x3.length) x2 (.slice va xs.length vc) dv' w20)) := ⟨HB.out.1.trans f20, fun q => (d20 q).2.2⟩; clear f20 d20; refine ⟨_, rfl, ?_⟩)
          by_cases hx : x1 = 0
          · have g9 : ((x1 : Int) == 0) = true := by rw [beq_iff_eq]; omega
            obtain ⟨dv', hr20⟩ := HT.out.2 hx
            have HBl : Hid (Calls Tryz.prog 35 #[.pointer (some ⟨b, 0, none⟩)] w20 fun e w' => e = .returned (.tuple #[]) ∧ Hid (Fr (On b) w w' ∧ Rd s b B (s.size - (blkL x3).length) x2 (.slice va xs.length vc) dv' w')) := (blanks_any hr20.pc hs (HL3.out hx)).mono (by
              rintro e w' ⟨rfl, q1, q2⟩; exact ⟨rfl, HT.out.1.trans q1, hr20.call q1 q2⟩)
            have HL4 : Hid (Lf s (s.size - (blkL x3).length) (blkL x3)) := (HL3.out hx).suf (blkL_suf x3)
            have hfin := HFin.out
            rw [if_neg (by omega : ¬ x1 ≠ 0)] at hfin
            obtain ⟨y, hy⟩ : ∃ y, blkL x3 = y := ⟨_, rfl⟩
            rw [hy] at HBl HL4 hfin
            have HRs : Hid (∀ z, Rd s b B (s.size - y.length) x2 (.slice va xs.length vc) dv' z → Calls Tryz.prog 31 #[.pointer (some ⟨b, 0, none⟩)] z fun e w' => e = .returned (.string (bA y)) ∧ ∃ q, w' = z.drewN q) := fun z hz => rest_any hz.pc hs HL4.out
            have HFin2 : Hid _ := hfin
            clear hfin hr20 hy c3
            go_wp2_with fail
            refine Calls.mono HBl.out ?_
            rintro e w21 ⟨rfl, HU⟩
            clear HBl
            go_wp2_with fail
            refine Calls.mono (HRs.out _ HU.out.2) ?_
            rintro e w22 ⟨rfl, qq, rfl⟩
            clear HRs
            by_cases hy0 : y = []
            · subst hy0
              have hfin := HFin2.out
              rw [if_pos rfl] at hfin
              have HFin3 : Hid _ := hfin
              have hbe : bA ([] : List UInt8) = ⟨#[]⟩ := rfl
              clear hfin HFin2
              go_wp2_with fail
              go_ret
              rw [← HFin3.out]
              exact .mk' rfl (HU.out.1.trans (Fr.drewN _ _ qq)) fun _ => ⟨_, _, _, HU.out.2.kp (kp_drewN _ qq)⟩
            · have g8 : (bA y).toList.isEmpty = false := str_ne hy0
              have hfin := HFin2.out
              rw [if_neg hy0] at hfin
              have HFin3 : Hid _ := hfin
              clear hfin HFin2 hy0
              go_wp2_with fail
              go_ret
              rw [← HFin3.out]
              exact .mk' rfl (HU.out.1.trans (Fr.drewN _ _ qq)) fun q => (by cases q)
          · have g9 : ((x1 : Int) == 0) = false := by rw [beq_eq_false_iff_ne]; omega
            have hfin := HFin.out
            rw [if_pos hx] at hfin
            have HFin3 : Hid (((x1, {}) : Nat × CmP) = R) := hfin
            have Hx1 : Hid (x1 ≠ 0) := hx
            clear hfin hx c3
            go_wp2_with fail
            go_ret
            rw [← HFin3.out]
            exact .mk' rfl HT.out.1 fun q => absurd q Hx1.out

end
end Go.Proofs.YtfgapmfjfienhaaGreatDoor
/- Parse. -/
namespace Go.Proofs.YtfgapmfjfienhaaGreatDoor
open Go.ChangeShapes Go.WideShapes Go.ChangeAt Go.RowKit Go.Maps Go.MapKept
set_option linter.unusedVariables false
set_option linter.unusedSimpArgs false
set_option maxRecDepth 100000
theorem sizeCmd : (Tryz.prog.info? 27).map (·.size) = some 10 := by kernel_rfl
theorem sizeCR : (Tryz.prog.info? 49).map (·.size) = some 12 := by kernel_rfl
theorem cmC_one (c : CmP) (ra rc da dc : Nat) (rv dv : Option Addr) : ∀ v ∈ cmC c (.slice rv ra rc) (.slice dv da dc), v.oneCell' = true := by
  intro v hv
  simp only [cmC, List.mem_cons, List.not_mem_nil, or_false] at hv
  rcases hv with rfl | rfl | rfl | rfl | rfl | rfl | rfl | rfl | rfl | rfl <;> rfl
theorem rdC_one (s : ByteArray) (c : CmP) (ra rc da dc : Nat) (rv dv : Option Addr) : ∀ v ∈ (Value.string s :: Value.int .i64 0 :: cmC c (.slice rv ra rc) (.slice dv da dc)), v.oneCell' = true := by
  intro v hv
  rcases List.mem_cons.1 hv with rfl | hv
  · rfl
  · rcases List.mem_cons.1 hv with rfl | hv
    · rfl
    · exact cmC_one _ _ _ _ _ _ _ v hv
/-- A command in memory, and its error. -/
def CpR (s : ByteArray) (w : World) (e : Ending) (w' : World) : Prop :=
  ∃ rv dv, e = .returned (.tuple #[.agg (cmC (cmdL s.data.toList).2 rv dv).toArray, .int .u16 ((cmdL s.data.toList).1 : Int)]) ∧ w'.ownsRow w.heap.size 43 6 rv (cmdL s.data.toList).2.rg.length (adCs (cmdL s.data.toList).2.rg) ∧ w'.ownsRow w.heap.size 43 6 dv (cmdL s.data.toList).2.dest.length (adCs (cmdL s.data.toList).2.dest) ∧ Kp w w'
theorem CpR.mk' {s : ByteArray} {w w1 : World} {e : Ending} {n : Nat} {c : CmP} {rv dv : Value} (h : cmdL s.data.toList = (n, c)) (he : e = .returned (.tuple #[.agg (cmC c rv dv).toArray, .int .u16 (n : Int)])) (h1 : w1.ownsRow w.heap.size 43 6 rv c.rg.length (adCs c.rg)) (h2 : w1.ownsRow w.heap.size 43 6 dv c.dest.length (adCs c.dest)) (k : Kp w w1) : CpR s w e w1 := by
  unfold CpR
  rw [h]
  exact ⟨rv, dv, he, h1, h2, k⟩
set_option maxHeartbeats 32000000 in
theorem cparse_any (s : ByteArray) (hs : s.size ≤ 1000000) (w : World) (hw : Gs w) :
    Calls Tryz.prog 12 #[.string s] w fun e w' => CpR s w e w' := by
  obtain ⟨p, hp⟩ : ∃ p, w.heap.size = p := ⟨_, rfl⟩
  obtain ⟨W1, hW1⟩ : ∃ z, w.alloc (.cells #[.slice none 0 0, .string ⟨#[]⟩, .bool false, .int .u8 0, .int .i64 0, .slice none 0 0, .string ⟨#[]⟩, .string ⟨#[]⟩, .string ⟨#[]⟩, .string ⟨#[]⟩] 27) = z := ⟨_, rfl⟩
  have HI : Hid (Kp w W1 ∧ Lc 27 p (cmC { cnt := 0 } (.slice none 0 0) (.slice none 0 0)) W1 ∧ w.heap.size = p) := by
    rw [← hW1]
    exact ⟨kp_alloc _ _, by rw [← hp]; exact Lc.new w (cmC { cnt := 0 } (.slice none 0 0) (.slice none 0 0)) 27, hp⟩
  have hsl : s.data.toList.length = s.size := by rw [← Lib.size_eq]
  by_cases hbig : 1000 < s.size
  · have g1 : decide ((s.size : Int) > 1000) = true := decide_eq_true (by omega)
    have g2 : decide ((1000 : Int) < (s.size : Int)) = true := decide_eq_true (by omega)
    have g3 : decide (1000 < s.size) = true := decide_eq_true hbig
    have HM : Hid (cmdL s.data.toList = (3, { cnt := 0 })) := by
      show _ = _
      unfold cmdL
      rw [if_pos (by omega)]
    clear hsl hbig hw
    go_enter Tryz.func12, Tryz.ntmps12
    go_wp2_with (refine wpList_store_box HI.out.2.1 0 (cmC { cnt := 0 } (.slice none 0 0) (.slice none 0 0)) rfl 27 (.tmp 2) (.tmp 9) rfl rfl rfl (Nat.le_refl 10) sizeCmd (cmC_one _ _ _ _ _ _ _) rfl ?_; intro w9 q1 q2 q3; have HX : Hid (Lc 27 p (cmC { cnt := 0 } (.slice none 0 0) (.slice none 0 0)) w9 ∧ Kp w w9) := ⟨q1, kp_on HI.out.1 q2 (Nat.le_of_eq HI.out.2.2)⟩; clear q1 q2 q3)
    refine bodyPost_ret (results_box2 rfl rfl HX.out.1 Tryz.underlying27 rfl sizeCmd) rfl ?_
    exact .mk' HM.out rfl (World.ownsRow_nil _ _ _ _) (World.ownsRow_nil _ _ _ _) HX.out.2
  · have g1 : decide ((s.size : Int) > 1000) = false := decide_eq_false (by omega)
    have g2 : decide ((1000 : Int) < (s.size : Int)) = false := decide_eq_false (by omega)
    have g3 : decide (1000 < s.size) = false := decide_eq_false hbig
    obtain ⟨n, c, hrd⟩ : ∃ n c, readC s.data.toList = (n, c) := ⟨_, _, rfl⟩
    have HM : Hid (cmdL s.data.toList = (if n = 0 then (n, c) else (n, { cnt := 0 }))) := by
      show _ = _
      unfold cmdL
      rw [if_neg (by omega)]
      simp only [hrd]
    obtain ⟨b, hb⟩ : ∃ b, W1.heap.size = b := ⟨_, rfl⟩
    obtain ⟨W2, hW2⟩ : ∃ z, W1.alloc (.cells #[.string ⟨#[]⟩, .int .i64 0, .slice none 0 0, .string ⟨#[]⟩, .bool false, .int .u8 0, .int .i64 0, .slice none 0 0, .string ⟨#[]⟩, .string ⟨#[]⟩, .string ⟨#[]⟩, .string ⟨#[]⟩] 49) = z := ⟨_, rfl⟩
    have HJ : Hid (Kp w W2 ∧ Lc 27 p (cmC { cnt := 0 } (.slice none 0 0) (.slice none 0 0)) W2 ∧ Lc 49 b (.string ⟨#[]⟩ :: .int .i64 0 :: cmC { cnt := 0 } (.slice none 0 0) (.slice none 0 0)) W2 ∧ p < b ∧ w.heap.size ≤ b ∧ w.heap.size = p) := by
      have k2 : Kp W1 W2 := by rw [← hW2]; exact kp_alloc _ _
      exact ⟨kp_trans HI.out.1 k2, HI.out.2.1.kp k2, by rw [← hW2, ← hb]; exact Lc.new W1 (.string ⟨#[]⟩ :: .int .i64 0 :: cmC { cnt := 0 } (.slice none 0 0) (.slice none 0 0)) 49, by rw [← hb]; exact HI.out.2.1.lt, by rw [← hb]; exact HI.out.1.size, HI.out.2.2⟩
    have HRd : Hid (∀ z, Rd s b w.heap.size 0 {} (.slice none 0 0) (.slice none 0 0) z → Gs z → Calls Tryz.prog 18 #[.pointer (some ⟨b, 0, none⟩)] z fun e w' => ReR s b w.heap.size (n, c) z e w') := fun z hz hg => by rw [← hrd]; exact read_o hz hs hg
    have Hg : Hid (∀ z, Kp w z → Gs z) := fun z k => hw.kp k
    clear hsl hbig hw hrd
    go_enter Tryz.func12, Tryz.ntmps12
    go_wp2_with (refine wpList_store_box HJ.out.2.2.1 0 (.string s :: .int .i64 0 :: cmC {} (.slice none 0 0) (.slice none 0 0)) rfl 49 (.tmp 4) (.tmp 13) rfl rfl rfl (Nat.le_refl 12) sizeCR (rdC_one _ _ _ _ _ _ _ _) rfl ?_; intro w9 q1 q2 q3; have HX : Hid (Kp w w9 ∧ Lc 27 p (cmC { cnt := 0 } (.slice none 0 0) (.slice none 0 0)) w9 ∧ Rd s b w.heap.size 0 {} (.slice none 0 0) (.slice none 0 0) w9) := ⟨kp_on HJ.out.1 q2 HJ.out.2.2.2.2.1, HJ.out.2.1.fr q2 (by unfold On; have := HJ.out.2.2.2.1; omega), ⟨q1, World.ownsRow_nil _ _ _ _, World.ownsRow_nil _ _ _ _, HJ.out.2.2.2.2.1⟩⟩; clear q1 q2 q3)
    refine Calls.mono (HRd.out _ HX.out.2.2 (Hg.out _ HX.out.1)) ?_
    intro e w10 qq
    obtain ⟨rfl, f10, r10⟩ := qq
    have HY : Hid (Kp w w10 ∧ Lc 27 p (cmC { cnt := 0 } (.slice none 0 0) (.slice none 0 0)) w10 ∧ p ≠ b) := ⟨kp_on HX.out.1 f10 HJ.out.2.2.2.2.1, HX.out.2.1.fr f10 (by unfold On; have := HJ.out.2.2.2.1; omega), by have := HJ.out.2.2.2.1; omega⟩
    have Hp : Hid (w.heap.size = p) := HJ.out.2.2.2.2.2
    have HR : Hid (n = 0 → ∃ k rv dv, Rd s b w.heap.size k c rv dv w10) := r10
    clear f10 r10 HX HRd Hg HJ HI hW1 hW2 hp hb
    by_cases hn : n = 0
    · subst hn
      obtain ⟨k, rv, dv, hr⟩ := HR.out rfl
      have g9 : (((0 : Nat) : Int) == 0) = true := rfl
      have HM2 : Hid (cmdL s.data.toList = (0, c)) := HM.out
      obtain ⟨ra, rc, rfl, _, _⟩ := owns_form hr.rr
      obtain ⟨da, dc, rfl, _, _⟩ := owns_form hr.rd
      have HZ : Hid (Rd s b w.heap.size k c (.slice ra c.rg.length rc) (.slice da c.dest.length dc) w10) := hr
      clear hr HR HM
      go_wp2_with (first | (refine wpList_store_box HY.out.2.1 0 (cmC c (.slice ra c.rg.length rc) (.slice da c.dest.length dc)) rfl 27 (.tmp 2) (.tmp 20) rfl rfl rfl (Nat.le_refl 10) sizeCmd (cmC_one _ _ _ _ _ _ _) rfl ?_; intro w11 q1 q2 q3; have HV : Hid (Lc 27 p (cmC c (.slice ra c.rg.length rc) (.slice da c.dest.length dc)) w11 ∧ Kp w w11 ∧ Rd s b w.heap.size k c (.slice ra c.rg.length rc) (.slice da c.dest.length dc) w11) := ⟨q1, kp_on HY.out.1 q2 (Nat.le_of_eq Hp.out), HZ.out.off HY.out.2.1 (by decide) (fun e => HY.out.2.2 e.symm) q2⟩; clear q1 q2 q3) | (refine wpList_load_box HZ.out.pc 2 (cmC c (.slice ra c.rg.length rc) (.slice da c.dest.length dc)) rfl 27 (.tmp 19) rfl rfl rfl _ Tryz.underlying27 rfl sizeCmd ?_))
      refine bodyPost_ret (results_box2 rfl rfl HV.out.1 Tryz.underlying27 rfl sizeCmd) rfl ?_
      exact .mk' HM2.out rfl HV.out.2.2.rr HV.out.2.2.rd HV.out.2.1
    · have g9 : ((n : Int) == 0) = false := by rw [beq_eq_false_iff_ne]; omega
      have hm := HM.out
      rw [if_neg hn] at hm
      have HM2 : Hid (cmdL s.data.toList = (n, { cnt := 0 })) := hm
      clear hm hn HR HM
      go_wp2_with (refine wpList_store_box HY.out.2.1 0 (cmC { cnt := 0 } (.slice none 0 0) (.slice none 0 0)) rfl 27 (.tmp 2) (.tmp 17) rfl rfl rfl (Nat.le_refl 10) sizeCmd (cmC_one _ _ _ _ _ _ _) rfl ?_; intro w11 q1 q2 q3; have HV : Hid (Lc 27 p (cmC { cnt := 0 } (.slice none 0 0) (.slice none 0 0)) w11 ∧ Kp w w11) := ⟨q1, kp_on HY.out.1 q2 (Nat.le_of_eq Hp.out)⟩; clear q1 q2 q3)
      refine bodyPost_ret (results_box2 rfl rfl HV.out.1 Tryz.underlying27 rfl sizeCmd) rfl ?_
      exact .mk' HM2.out rfl (World.ownsRow_nil _ _ _ _) (World.ownsRow_nil _ _ _ _) HV.out.2
end Go.Proofs.YtfgapmfjfienhaaGreatDoor
/- Names: what is gathered and sorted. -/
namespace Go.Proofs.YtfgapmfjfienhaaGreatDoor
open Go.ChangeShapes Go.WideShapes Go.ChangeAt Go.RowKit Go.Maps Go.MapKept
set_option linter.unusedVariables false
set_option linter.unusedSimpArgs false
set_option maxRecDepth 100000
/-- What row i says. -/
def entR (i : Fin 23) : Ent :=
  let r := rowsC.getD i.val ([], false, .nothing)
  { name := (wordsC r.1).headD [], place := i.val, bold := r.2.1, fl := r.2.2 }
theorem ent_of : ∀ p ∈ tabC, ∃ i : Fin 23, p.2 = entR i := by decide +kernel
theorem ent_at : ∀ i : Fin 23, tabF (entR i).name = some (entR i) := by decide +kernel
theorem ent_ne : ∀ i : Fin 23, (entR i).name ≠ [] := by decide +kernel
theorem ent_let : ∀ i : Fin 23, isB 108 (((entR i).name.headD 0).toNat : Int) = decide (i.val < 16) := by decide +kernel
theorem ent_place (i : Fin 23) : (entR i).place = i.val := rfl
theorem tabF_ent {x : List UInt8} {e : Ent} (h : tabF x = some e) : ∃ i : Fin 23, e = entR i := by
  obtain ⟨p, h1, h2⟩ := tabF_mem h
  obtain ⟨i, hi⟩ := ent_of p h1
  exact ⟨i, h2 ▸ hi⟩
theorem ent_inj {i j : Fin 23} (h : (entR i).name = (entR j).name) : i = j := by
  have h1 := ent_at i
  rw [h, ent_at j] at h1
  have := congrArg Ent.place (Option.some.inj h1)
  rw [ent_place, ent_place] at this
  exact Fin.ext this.symm
def enR (i : Fin 23) : List Value := enC (entR i)
theorem enR_len (i : Fin 23) : (enR i).length = 4 := rfl
theorem enR_one (i : Fin 23) : ∀ v ∈ enR i, v.oneCell' = true := enC_one _
def cmpR (i j : Fin 23) : Int := (i.val : Int) - (j.val : Int)
theorem ltR (i j : Fin 23) : ltOf cmpR i j = decide (i.val < j.val) := by
  unfold ltOf cmpR
  by_cases h : i.val < j.val
  · rw [decide_eq_true h, decide_eq_true (by omega)]
  · rw [decide_eq_false h, decide_eq_false (by omega)]
theorem swoR : Sort.SWO (ltOf cmpR) where
  irrefl x := by rw [ltR]; simp
  trans x y z h1 h2 := by rw [ltR] at *; simp at *; omega
  ntrans x y z h1 h2 := by rw [ltR] at *; simp at *; omega
def rowR (l : List (Fin 23)) : List Value := l.flatMap enR
theorem rowR_len : ∀ l, (rowR l).length = 4 * l.length
  | [] => rfl
  | a :: r => by
    have := rowR_len r
    unfold rowR at this ⊢
    rw [List.flatMap_cons, List.length_append, this, enR_len, List.length_cons]; omega
theorem rowR_app (l : List (Fin 23)) (i : Fin 23) : rowR (l ++ [i]) = rowR l ++ enR i := by simp [rowR]
theorem rowR_at : ∀ (l : List (Fin 23)) (t : Nat), t < l.length * 4 → ∃ i c, l[t / 4]? = some i ∧ (enR i)[t % 4]? = some c ∧ (rowR l)[t]? = some c
  | [], t, h => by simp at h
  | a :: r, t, h => by
    by_cases q : t < 4
    · have e1 : t / 4 = 0 := by omega
      have e2 : t % 4 = t := by omega
      have hl : t < (enR a).length := by rw [enR_len]; exact q
      refine ⟨a, (enR a)[t], by rw [e1]; rfl, by rw [e2]; exact List.getElem?_eq_getElem hl, ?_⟩
      unfold rowR
      rw [List.flatMap_cons, List.getElem?_append_left hl]
      exact List.getElem?_eq_getElem hl
    · obtain ⟨i, c, h1, h2, h3⟩ := rowR_at r (t - 4) (by simp at h; omega)
      refine ⟨i, c, ?_, ?_, ?_⟩
      · rw [show t / 4 = (t - 4) / 4 + 1 by omega, List.getElem?_cons_succ]; exact h1
      · rw [show t % 4 = (t - 4) % 4 by omega]; exact h2
      · unfold rowR at h3 ⊢
        rw [List.flatMap_cons, List.getElem?_append_right (by rw [enR_len]; omega), enR_len]; exact h3
section
variable {w : World} {B g cap : Nat} {l : List (Fin 23)}
theorem holds_of {v : Value} (h : w.ownsRow B 63 4 v l.length (rowR l)) (hne : l ≠ []) : ∃ g cap, v = .slice (some ⟨g, 0, none⟩) l.length cap ∧ B ≤ g ∧ g < w.heap.size ∧ Sort.HoldsK enR 4 w g 0 l.toArray := by
  rcases h.2 with ⟨rfl, h0⟩ | ⟨g, cap, cur, rfl, hb, hg, h1, h2, h3, h4⟩
  · exact absurd (List.eq_nil_of_length_eq_zero h0) hne
  · refine ⟨g, cap, rfl, hb, (Array.getElem?_eq_some_iff.1 hg).1, fun j hj => ?_⟩
    rw [Sort.size_flatK] at hj
    have hj' : j < l.length * 4 := by simpa using hj
    obtain ⟨i, c, q1, q2, q3⟩ := rowR_at l j hj'
    rw [Sort.get_flatK _ _ _ _ (by simpa using hj')]
    refine ⟨?_, by simp [World.frozen?, hg]⟩
    rw [cell_at hg, Nat.zero_add, ← Array.getElem?_toList]
    have q4 := q3
    rw [← h4, List.getElem?_take, if_pos (by omega)] at q4
    rw [q4]
    have e1 : l.toArray[j / 4]! = i := by
      obtain ⟨hl, e⟩ := List.getElem?_eq_some_iff.1 q1
      simp [getElem!_pos, hl, e]
    rw [e1]
    obtain ⟨hl, e⟩ := List.getElem?_eq_some_iff.1 q2
    simp [getElem!_pos, hl, e]
theorem sort_after {n : Nat} {d d' : Array (Fin 23)} {os : Array Obj} (h : Sort.HoldsK enR 4 w g 0 d) (hg : g < w.heap.size) (hs : d'.size = d.size) :
    Fr (On g) w (sortWorldK enR 4 w g 0 n d' os) ∧ Sort.HoldsK enR 4 (sortWorldK enR 4 w g 0 n d' os) g 0 d' := by
  refine ⟨⟨rfl, rfl, rfl, size_sortWorldK_c enR 4 w g 0 n d' os, fun k hk hn => ?_⟩, holdsK_sortWorldK enR 4 w g 0 n d d' os hg h hs⟩
  unfold On at hn
  show ((Sort.putRowK enR 4 (Sort.ahead w n) g 0 d').heap ++ os)[k]? = w.heap[k]?
  have hz : (Sort.putRowK enR 4 (Sort.ahead w n) g 0 d').heap.size = w.heap.size := Sort.size_putRowK enR 4 _ g 0 d'
  rw [Array.getElem?_append_left (by rw [hz]; exact hk)]
  show (w.heap.modify g _)[k]? = w.heap[k]?
  rw [Array.getElem?_modify, if_neg (fun e => hn e.symm)]
end
end Go.Proofs.YtfgapmfjfienhaaGreatDoor
/- Names. -/
namespace Go.Proofs.YtfgapmfjfienhaaGreatDoor
open Go.ChangeShapes Go.WideShapes Go.ChangeAt Go.RowKit Go.Maps Go.MapKept
set_option linter.unusedVariables false
set_option linter.unusedSimpArgs false
set_option maxRecDepth 100000
theorem infoCom : (Tryz.prog.info? 63).map (fun i => (i.zero, i.size, i.bytes)) = some (some (.agg #[.string ⟨#[]⟩, .int .i64 0, .bool false, .nilFunc]), 4, 40) := by kernel_rfl
theorem ncmp_any (i j : Fin 23) (w : World) : Calls Tryz.prog 29 #[.agg (enR i).toArray, .agg (enR j).toArray] w fun e w' => e = .returned (.int .i64 (cmpR i j)) ∧ ∃ q os', w' = Sort.grow (w.drewN q) os' := by
  have hi := i.isLt
  have hj := j.isLt
  have HE : Hid ((enR i).toArray = #[.string (bA (entR i).name), .int .i64 (i.val : Int), .bool (entR i).bold, .func (.func (flN (entR i).fl)) #[] #[]] ∧ (enR j).toArray = #[.string (bA (entR j).name), .int .i64 (j.val : Int), .bool (entR j).bold, .func (.func (flN (entR j).fl)) #[] #[]]) := ⟨rfl, rfl⟩
  rw [HE.out.1, HE.out.2]
  unfold cmpR
  generalize bA (entR i).name = n1
  generalize bA (entR j).name = n2
  generalize (entR i).bold = b1
  generalize (entR j).bold = b2
  generalize flN (entR i).fl = f1
  generalize flN (entR j).fl = f2
  obtain ⟨x, hx⟩ : ∃ x : Int, (i.val : Int) = x := ⟨_, rfl⟩
  obtain ⟨y, hy⟩ : ∃ y : Int, (j.val : Int) = y := ⟨_, rfl⟩
  rw [hx, hy]
  have h1 : 0 ≤ x ∧ x ≤ 22 := by omega
  have h2 : 0 ≤ y ∧ y ≤ 22 := by omega
  have hwr : -9223372036854775808 ≤ x - y ∧ x - y ≤ 9223372036854775807 := by omega
  clear HE hx hy hi hj
  go_enter Tryz.func29, Tryz.ntmps29
  go_wp2_with fail
  go_ret
  exact ⟨rfl, 0, _, by rw [Sort.alloc_eq_grow, Sort.alloc_eq_grow, Sort.grow_grow]; rfl⟩
/-- Rows that are gathered. -/
structure Gth (bm r : Nat) (left lm : ByteArray → Bool) (c : Nat) (acc : List (Fin 23)) (v : Value) (w wr : World) : Prop where
  rg : Rgg bm r (mapF tabC) left c wr
  row : wr.ownsRow w.heap.size 63 4 v acc.length (rowR acc)
  nd : acc.Nodup
  mem : ∀ i, i ∈ acc ↔ i.val < 16 ∧ lm (bA (entR i).name) = false
  kp : Kp w wr
  hbm : w.heap.size ≤ bm
  hr : w.heap.size ≤ r
section
variable {bm r c c2 q : Nat} {left lm : ByteArray → Bool} {acc : List (Fin 23)} {v v' : Value} {w wr w1 w2 : World} {y : ByteArray} {i : Fin 23}
theorem row_rng {B n size : Nat} {e : TypeId} {xs : List Value} {f : ByteArray → Option Value} (h : wr.ownsRow B e size v n xs) (k : Rgg bm r f left c wr) : ∀ j, v.ownBlock = some j → j ≠ r ∧ j ≠ bm := by
  intro j hj
  rcases h.2 with ⟨rfl, _⟩ | ⟨g, cap, cur, rfl, hb, hg, _⟩
  · cases hj
  · simp only [Value.ownBlock, Option.some.injEq] at hj
    subst hj
    obtain ⟨es, cl, s0, q0, c0, hb0, _, _, hr0, _⟩ := k
    exact ⟨fun e => (by rw [e, hr0] at hg; cases hg), fun e => (by rw [e, hb0] at hg; cases hg)⟩
theorem Gth.step {left' : ByteArray → Bool} (h : Gth bm r left lm c acc v w wr) (hr2 : Rgg bm r (mapF tabC) left' c2 w1) (f : Fr (On r) wr w1) : Gth bm r left' lm c2 acc v w w1 :=
  ⟨hr2, row_fr h.row f (fun j hj hn => (row_rng h.row h.rg j hj).1 hn), h.nd, h.mem, kp_on h.kp f h.hr, h.hbm, h.hr⟩
theorem Gth.no (h : Gth bm r left lm c acc v w wr) (hy : tabF y.data.toList = some (entR i)) (hno : ¬ (y = bA (entR i).name ∧ i.val < 16)) : Gth bm r left (fun z => lm z && !decide (z = y)) c acc v w wr := by
  refine ⟨h.rg, h.row, h.nd, fun j => ?_, h.kp, h.hbm, h.hr⟩
  rw [h.mem j]
  simp only [Bool.and_eq_false_iff, Bool.not_eq_false', decide_eq_true_eq]
  constructor
  · rintro ⟨h1, h2⟩; exact ⟨h1, .inl h2⟩
  · rintro ⟨h1, h2 | h2⟩
    · exact ⟨h1, h2⟩
    · exfalso
      have e1 : y.data.toList = (entR j).name := by rw [← h2]; simp [bA]
      rw [e1, ent_at j] at hy
      have e2 : j = i := by
        have := congrArg Ent.place (Option.some.inj hy)
        rw [ent_place, ent_place] at this
        exact Fin.ext this
      subst e2
      exact hno ⟨h2.symm, h1⟩
theorem Gth.keep (h : Gth bm r left lm c acc v w wr) (k : Kp wr w1) : Gth bm r left lm c acc v w w1 := ⟨h.rg.kp k, row_kp h.row k, h.nd, h.mem, kp_trans h.kp k, h.hbm, h.hr⟩
theorem Gth.off (h : Gth bm r left lm c acc v w wr) {T : TypeId} {L : List Value} (hm : Lc T q L wr) (hq : w.heap.size ≤ q) (hrow : ∀ j, v.ownBlock = some j → j ≠ q) (f : Fr (On q) wr w1) : Gth bm r left lm c acc v w w1 := by
  refine ⟨h.rg.heap (f.block bm h.rg.map.lt (fun e => by unfold On at e; subst e; exact h.rg.map.ne hm rfl)) (f.block r h.rg.lt (fun e => by
    unfold On at e; subst e
    obtain ⟨es, cl, s0, q0, c0, hb0, _, _, hr0, _⟩ := h.rg
    unfold Lc at hm
    rw [hm] at hr0; cases hr0)), row_fr h.row f (fun j hj hn => hrow j hj hn), h.nd, h.mem, kp_on h.kp f hq, h.hbm, h.hr⟩
theorem Gth.more (h : Gth bm r left lm c acc v w wr) (hi : i.val < 16) (hy : y = bA (entR i).name) (hly : lm y = true) (hro : w1.ownsRow w.heap.size 63 4 v' (acc.length + 1) (rowR acc ++ enR i)) (hg : wr.grownBy w1 v.ownBlock) : Gth bm r left (fun z => lm z && !decide (z = y)) c (acc ++ [i]) v' w w1 := by
  have hnot : i ∉ acc := fun q => by have := ((h.mem i).1 q).2; rw [← hy, hly] at this; cases this
  have hB := below_grown h.row h.kp.size hg
  refine ⟨h.rg.heap (hg.block bm h.rg.map.lt fun e => (row_rng h.row h.rg bm e.symm).2 rfl) (hg.block r h.rg.lt fun e => (row_rng h.row h.rg r e.symm).1 rfl), by rw [List.length_append, rowR_app]; exact hro, ?_, fun j => ?_, h.kp.trans hB, h.hbm, h.hr⟩
  · rw [List.nodup_append]
    refine ⟨h.nd, by simp, fun a ha b hb => ?_⟩
    rw [List.mem_singleton] at hb
    subst hb
    exact fun e => hnot (e ▸ ha)
  · rw [List.mem_append, List.mem_singleton, h.mem j]
    simp only [Bool.and_eq_false_iff, Bool.not_eq_false', decide_eq_true_eq]
    constructor
    · rintro (⟨h1, h2⟩ | rfl)
      · exact ⟨h1, .inl h2⟩
      · exact ⟨hi, .inr hy.symm⟩
    · rintro ⟨h1, h2 | h2⟩
      · exact .inl ⟨h1, h2⟩
      · right
        rw [hy] at h2
        apply ent_inj
        have := congrArg (fun z : ByteArray => z.data.toList) h2
        simpa [bA] using this
end
end Go.Proofs.YtfgapmfjfienhaaGreatDoor
/- Names: the sort. -/
namespace Go.Proofs.YtfgapmfjfienhaaGreatDoor
open Go.ChangeShapes Go.WideShapes Go.ChangeAt Go.RowKit Go.Maps Go.MapKept
set_option linter.unusedVariables false
set_option linter.unusedSimpArgs false
set_option maxRecDepth 100000
def gud : List (Fin 23) := (List.finRange 23).filter fun i => decide (i.val < 16)
theorem gud_nd : gud.Nodup := by decide +kernel
theorem gud_len : gud.length = 16 := by decide +kernel
theorem gud_mem : ∀ i : Fin 23, i ∈ gud ↔ i.val < 16 := by decide +kernel
theorem gud_srt : gud.Pairwise fun a b : Fin 23 => a.val ≤ b.val := by decide +kernel
theorem perm_gud {acc : List (Fin 23)} (h : acc.Nodup) (hm : ∀ i, i ∈ acc ↔ i.val < 16) : acc.Perm gud := by
  rw [List.perm_ext_iff_of_nodup h gud_nd]
  intro i
  rw [hm i, gud_mem i]
theorem sorted_gud {d d' : Array (Fin 23)} (hp : d.toList.Perm gud) (h : Sort.PermIn 0 d.size d d') (hs : Sort.SortedIn (ltOf cmpR) 0 d.size d') : d' = gud.toArray := by
  obtain ⟨h1, _, h3⟩ := h
  have e1 : (d'.extract 0 d.size).toList = d'.toList := by rw [← h1]; simp
  have e2 : (d.extract 0 d.size).toList = d.toList := by simp
  rw [e1, e2] at h3
  have hpw : d'.toList.Pairwise fun a b : Fin 23 => a.val ≤ b.val := by
    rw [List.pairwise_iff_getElem]
    intro i j hi hj hij
    have hi' : i < d'.size := by simpa using hi
    have hj' : j < d'.size := by simpa using hj
    have := hs i j (Nat.zero_le _) hij (by rw [← h1]; exact hj')
    rw [ltR] at this
    have := of_decide_eq_false this
    rw [getElem!_pos d' j hj', getElem!_pos d' i hi'] at this
    rw [Array.getElem_toList, Array.getElem_toList]
    omega
  have := List.Perm.eq_of_pairwise (fun a b _ _ q1 q2 => Fin.ext (Nat.le_antisymm q1 q2)) hpw gud_srt (h3.trans hp)
  rw [← this]
/-- Block g has commands in it. -/
def TyG (g : Nat) (w : World) : Prop := ∃ cur fr, w.heap[g]? = some (.cells cur 63 fr)
section
variable {w w1 : World} {B g n : Nat} {acc : List (Fin 23)} {va : Option Addr} {vc : Nat}
theorem TyG.fr {S : Nat → Prop} (h : TyG g w) (f : Fr S w w1) (hn : ¬ S g) : TyG g w1 := by
  obtain ⟨cur, fr, h⟩ := h
  exact ⟨cur, fr, (f.block g (Array.getElem?_eq_some_iff.1 h).1 hn).trans h⟩
theorem holds_fr {d : Array (Fin 23)} {S : Nat → Prop} (h : Sort.HoldsK enR 4 w g 0 d) (ht : TyG g w) (f : Fr S w w1) (hn : ¬ S g) : Sort.HoldsK enR 4 w1 g 0 d := fun j hj => by
  obtain ⟨cur, fr, ht⟩ := ht
  have e := f.block g (Array.getElem?_eq_some_iff.1 ht).1 hn
  have := h j hj
  exact ⟨(World.cell?_of_block e).trans this.1, (World.frozen?_of_block e).trans this.2⟩
set_option maxHeartbeats 4000000 in
theorem nsort_any (h : w.ownsRow B 63 4 (.slice va n vc) acc.length (rowR acc)) (hp : acc.Perm gud) :
    Calls Tryz.prog 28 #[.slice va acc.length vc, .func (.func 29) #[] #[]] w fun e w' => e = .returned (.tuple #[]) ∧ ∃ g, va = some ⟨g, 0, none⟩ ∧ B ≤ g ∧ Fr (On g) w w' ∧ Sort.HoldsK enR 4 w' g 0 gud.toArray ∧ TyG g w' := by
  have hne : acc ≠ [] := by
    intro e
    have := hp.length_eq
    rw [e, gud_len] at this
    cases this
  obtain ⟨g, cap, e, hB, hg, hH⟩ := holds_of h hne
  have hty : TyG g w := by
    rcases h.2 with ⟨q, _⟩ | ⟨g', cap', cur, q, _, hgg, _⟩
    · rw [q] at e; cases e
    · rw [q] at e; cases e; exact ⟨cur, _, hgg⟩
  cases e
  have eg : ∀ args w, (callFunc 29 args).run Tryz.prog w = .ok (.enter 29 args) w := enters_of Tryz.func29 (by kernel_rfl) rfl
  have hc : CmpLays Tryz.prog 29 #[] enR 4 cmpR g 0 acc.toArray.size w := fun _ _ _ _ x y => ncmp_any x y _
  have hcon := AnyQ.slices_SortFunc Tryz.sortC 4 Tryz.isAgg63 Tryz.sizeOf63 enR enR_len enR_one cmpR swoR 29 #[] g 0 vc acc.toArray w eg hc hH hg (by have := hp.length_eq; rw [gud_len] at this; simp; omega)
  change Calls Tryz.prog 28 _ _ _ at hcon
  have e2 : acc.toArray.size = acc.length := by simp
  rw [e2] at hcon
  refine Calls.mono hcon ?_
  rintro e w' ⟨rfl, d', n', os, h1, h2, rfl⟩
  rw [← e2] at h1 h2
  have hd : d' = gud.toArray := sorted_gud (by simpa using hp) h1 h2
  have hs : d'.size = acc.toArray.size := h1.1
  obtain ⟨f, hh⟩ := sort_after (n := n') (os := os) hH hg hs
  refine ⟨rfl, g, rfl, hB, f, by rw [← hd]; exact hh, ?_⟩
  obtain ⟨cur, fr, ht⟩ := hty
  refine ⟨Sort.putCells id 0 (Sort.flatK enR 4 d') cur, fr, ?_⟩
  show ((Sort.putRowK enR 4 (Sort.ahead w n') g 0 d').heap ++ os)[g]? = _
  have hz : (Sort.putRowK enR 4 (Sort.ahead w n') g 0 d').heap.size = w.heap.size := Sort.size_putRowK enR 4 _ g 0 d'
  rw [Array.getElem?_append_left (by rw [hz]; exact hg)]
  show (w.heap.modify g (Sort.onCells (Sort.putCells id 0 (Sort.flatK enR 4 d'))))[g]? = _
  rw [Array.getElem?_modify, if_pos rfl, ht]
  rfl
end
end Go.Proofs.YtfgapmfjfienhaaGreatDoor
