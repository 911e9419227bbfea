/- What Shape gathers: rows of numbers, and a row of those rows. -/
import Derived.Test.YtfnhbjokokjhfabPart2
namespace Go.Proofs.Ytfnhbjokokjhfab
open Go.ChangeShapes Go.WideShapes Go.ChangeAt Go.RowKit
theorem infoL : (Try.prog.info? 42).map (fun i => (i.zero, i.size, i.bytes)) = some (some (.slice none 0 0), 1, 24) := by kernel_rfl
structure ShI (p : Own) (w0 wr : World) (v3 : Value) (wss : List (List Nat)) (svs : List Value) : Prop where
  outer : Row p wr .tree 42 1 v3 wss.length svs
  inner : ∀ (k : Nat) ws, wss[k]? = some ws → ∃ sv, svs[k]? = some sv ∧ Row p wr (.lines k) 3 1 sv ws.length (nums ws)
  ones : ∀ u ∈ svs, u.oneCell' = true
  keeps : Keeps nobody p w0 wr
  lt : ∀ k, p k ≠ .free → k < wr.heap.size
structure ShJ (p : Own) (w0 wr : World) (v3 : Value) (wss : List (List Nat)) (svs : List Value) (v4 : Value) (lv : List Nat) (v5 : Value) (hs : List Nat) (v6 : Value) (nx : List Nat) : Prop where
  sh : ShI p w0 wr v3 wss svs
  lev : Row p wr .nodes 3 1 v4 lv.length (nums lv)
  has : Row p wr (.kids 0) 3 1 v5 hs.length (nums hs)
  nxt : Row p wr .gone 3 1 v6 nx.length (nums nx)
section
variable {p p' : Own} {w0 wr w1 : World} {v3 v4 v5 v6 : Value} {wss : List (List Nat)} {svs : List Value} {lv hs nx : List Nat}
theorem ShI.kb (h : ShI p w0 wr v3 wss svs) {g : Tag} (k : KB g p p' wr w1) (h1 : g ≠ .tree) (h2 : ∀ i, g ≠ .lines i) (h3 : g ≠ .free) : ShI p' w0 w1 v3 wss svs := by
  refine ⟨h.outer.kb k (Ne.symm h1), fun i ws hi => ?_, h.ones, h.keeps.trans (k.keeps h3), k.lt⟩
  obtain ⟨sv, e, r⟩ := h.inner i ws hi
  exact ⟨sv, e, r.kb k (Ne.symm (h2 i))⟩
theorem ShI.other (h : ShI p w0 wr v3 wss svs) (hb : Below wr.heap.size wr w1) : ShI p w0 w1 v3 wss svs := by
  refine ⟨h.outer.below hb, fun i ws hi => ?_, h.ones, h.keeps.trans ⟨hb.os, hb.tape, hb.output, hb.size, fun k hk _ => hb.block k hk, fun _ _ e => e⟩, fun k hk => Nat.lt_of_lt_of_le (h.lt k hk) hb.size⟩
  obtain ⟨sv, e, r⟩ := h.inner i ws hi
  exact ⟨sv, e, r.below hb⟩
theorem ShJ.other (h : ShJ p w0 wr v3 wss svs v4 lv v5 hs v6 nx) (hb : Below wr.heap.size wr w1) : ShJ p w0 w1 v3 wss svs v4 lv v5 hs v6 nx :=
  ⟨h.sh.other hb, h.lev.below hb, h.has.below hb, h.nxt.below hb⟩
theorem below_drewN (w : World) (q : Nat) : Below w.heap.size w (w.drewN q) := by
  have k := Keeps.drewN nobody w q
  exact ⟨k.os, k.tape, k.output, k.size, fun j _ => by rw [drewN_heap]⟩
theorem ShJ.grow5 (h : ShJ p w0 wr v3 wss svs v4 lv v5 hs v6 nx) {g n' cap' : Nat} {hs' : List Nat} (hown : w1.ownsRow 0 3 1 (.slice (some ⟨g, 0, none⟩) n' cap') n' (nums hs')) (hn : n' = hs'.length) (hgr : wr.grownBy w1 v5.ownBlock) (hat : v5.ownBlock = some g ∨ g = wr.heap.size) (hl : g < w1.heap.size) :
    ∃ p', ShJ p' w0 w1 v3 wss svs v4 lv (.slice (some ⟨g, 0, none⟩) hs'.length cap') hs' v6 nx := by
  subst hn
  obtain ⟨p', r, k⟩ := h.has.grown h.sh.lt hown hgr hat hl
  exact ⟨p', h.sh.kb k (by simp) (by simp) (by simp), h.lev.kb k (by simp), r, h.nxt.kb k (by simp)⟩
theorem ShJ.grow6 (h : ShJ p w0 wr v3 wss svs v4 lv v5 hs v6 nx) {g n' cap' : Nat} {nx' : List Nat} (hown : w1.ownsRow 0 3 1 (.slice (some ⟨g, 0, none⟩) n' cap') n' (nums nx')) (hn : n' = nx'.length) (hgr : wr.grownBy w1 v6.ownBlock) (hat : v6.ownBlock = some g ∨ g = wr.heap.size) (hl : g < w1.heap.size) :
    ∃ p', ShJ p' w0 w1 v3 wss svs v4 lv v5 hs (.slice (some ⟨g, 0, none⟩) nx'.length cap') nx' := by
  subst hn
  obtain ⟨p', r, k⟩ := h.nxt.grown h.sh.lt hown hgr hat hl
  exact ⟨p', h.sh.kb k (by simp) (by simp) (by simp), h.lev.kb k (by simp), h.has.kb k (by simp), r⟩
def retag (k : Nat) : Tag → Tag
  | .kids 0 => .lines k
  | .gone => .nodes
  | .nodes => .free
  | g => g
theorem Row.retag {g : Tag} {e : TypeId} {size n : Nat} {v : Value} {xs : List Value} (h : Row p wr g e size v n xs) (f : Tag → Tag) : Row (fun b => f (p b)) wr (f g) e size v n xs := ⟨h.1, fun k hk => by show f (p k) = f g; rw [h.2 k hk]⟩
theorem ShJ.grow3 (h : ShJ p w0 wr v3 wss svs v4 lv v5 hs v6 nx) (hone : v5.oneCell' = true) {g n' cap' : Nat} (hown : w1.ownsRow 0 42 1 (.slice (some ⟨g, 0, none⟩) n' cap') n' (svs ++ [v5])) (hn : n' = wss.length + 1) (hgr : wr.grownBy w1 v3.ownBlock) (hat : v3.ownBlock = some g ∨ g = wr.heap.size) (hl : g < w1.heap.size) :
    ∃ p', ShI p' w0 w1 (.slice (some ⟨g, 0, none⟩) (wss.length + 1) cap') (wss ++ [hs]) (svs ++ [v5]) ∧ Row p' w1 .nodes 3 1 v6 nx.length (nums nx) := by
  subst hn
  have hsl : svs.length = wss.length := by simpa using h.sh.outer.1.1
  obtain ⟨p', r, k⟩ := h.sh.outer.grown h.sh.lt hown hgr hat hl
  have fr : ∀ t, t ≠ .free → t ≠ .nodes → retag wss.length t ≠ .free := fun t h1 h2 => by
    match t with
    | .kids 0 => simp [retag]
    | .kids (n + 1) => simp [retag]
    | .gone => simp [retag]
    | .nodes => exact absurd rfl h2
    | .free => exact absurd rfl h1
    | .tree => simp [retag]
    | .lines i => simp [retag]
  have ff : retag wss.length .free = .free := rfl
  have hk := h.sh.keeps.trans (k.keeps (by simp))
  refine ⟨fun b => retag wss.length (p' b), ⟨?_, fun i ws hi => ?_, fun u hu => ?_, ⟨hk.os, hk.tape, hk.output, hk.size, hk.block, fun b hb hf => by show retag _ (p' b) = .free; rw [hk.own b hb hf]; rfl⟩, fun b hb => ?_⟩, (h.nxt.kb k (by simp)).retag (retag wss.length)⟩
  · have := r.retag (retag wss.length)
    rw [List.length_append]; exact this
  · rw [List.getElem?_append] at hi ⊢
    split at hi
    · rename_i hlt
      obtain ⟨sv, e, r2⟩ := h.sh.inner i ws hi
      exact ⟨sv, by rw [if_pos (by omega)]; exact e, (r2.kb k (by simp)).retag (retag wss.length)⟩
    · rename_i hlt
      have : i - wss.length = 0 := by have := (List.getElem?_eq_some_iff.1 hi).1; simp at this; omega
      rw [this] at hi
      simp at hi; subst hi
      have ei : i = wss.length := by omega
      refine ⟨v5, by rw [if_neg (by omega), hsl, this]; rfl, ?_⟩
      have := (h.has.kb k (by simp)).retag (retag wss.length)
      rw [ei]; exact this
  · rcases List.mem_append.1 hu with hu | hu
    · exact h.sh.ones u hu
    · simp at hu; rw [hu]; exact hone
  · have hb : retag wss.length (p' b) ≠ .free := hb
    exact k.lt b (fun e => hb (by rw [e]; rfl))
end
/-- What Shape answers of a tree of 'n' lines. -/
structure Shp (wss : List (List Nat)) (n : Nat) : Prop where
  one : ∃ x, wss[0]? = some [x]
  wid : ∀ (k : Nat) ws, wss[k]? = some ws → ∀ x ∈ ws, x ≤ 8 ∧ (0 < k → 4 ≤ x) ∧ (k = 0 → 1 < wss.length → 2 ≤ x)
  next : ∀ (k : Nat) ws ws', wss[k]? = some ws → wss[k + 1]? = some ws' → ws.sum = ws'.length
  last : ∀ ws, wss[wss.length - 1]? = some ws → ws.sum = n
  deep : 1 < wss.length → 2 * 4 ^ (wss.length - 1) ≤ n
end Go.Proofs.Ytfnhbjokokjhfab
