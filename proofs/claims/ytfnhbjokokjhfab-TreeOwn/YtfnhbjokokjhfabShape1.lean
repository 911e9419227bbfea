/- A level of the tree as plain data. -/
import Derived.Test.YtfnhbjokokjhfabShape0
namespace Go.Proofs.Ytfnhbjokokjhfab
open Go.ChangeShapes Go.WideShapes Go.ChangeAt Go.RowKit
def St.kidsOf (s : St) (c : Nat) : List Nat := ((s.ns[c]?).map (·.kids)).getD []
section
variable {s : St} {d : Nat} {ls : List ByteArray} {js lv : List Nat}
theorem All.flat (h : All (Sub s (d + 1)) lv ls js) : ∃ js', All (Ok s d) (lv.flatMap s.kidsOf) ls js' ∧ (lv.map s.wid).sum = (lv.flatMap s.kidsOf).length := by
  induction lv generalizing ls js with
  | nil => obtain ⟨rfl, rfl⟩ := h; exact ⟨[], ⟨rfl, rfl⟩, rfl⟩
  | cons c cs ih =>
    obtain ⟨l1, l2, j1, j2, rfl, rfl, hc, hr⟩ := h
    obtain ⟨js', h1, h2⟩ := ih hr
    obtain ⟨u, ks, j', rfl, hn, hp, hA⟩ := hc
    have ek : s.kidsOf c = ks := by simp [St.kidsOf, hn]
    have ew : s.wid c = ks.length := by simp [St.wid, hn, Node.wid]
    refine ⟨j' ++ js', ?_, ?_⟩
    · rw [List.flatMap_cons, ek]; exact All.append (P := Ok s d) hA h1
    · rw [List.flatMap_cons, List.length_append, ek, List.map_cons, List.sum_cons, ew, h2]
theorem All.leaves (h : All (Sub s 0) lv ls js) : lv.flatMap s.kidsOf = [] ∧ (lv.map s.wid).sum = ls.length := by
  induction lv generalizing ls js with
  | nil => obtain ⟨rfl, rfl⟩ := h; exact ⟨rfl, rfl⟩
  | cons c cs ih =>
    obtain ⟨l1, l2, j1, j2, rfl, rfl, ⟨rfl, v, hn⟩, hr⟩ := h
    obtain ⟨h1, h2⟩ := ih hr
    have ek : s.kidsOf c = [] := by simp [St.kidsOf, hn]
    have ew : s.wid c = l1.length := by simp [St.wid, hn, Node.wid]
    exact ⟨by rw [List.flatMap_cons, ek, h1]; rfl, by rw [List.map_cons, List.sum_cons, ew, h2, List.length_append]⟩
/-- What is gathered of the levels above 'lv'. -/
structure Lev (s : St) (wss : List (List Nat)) (lv : List Nat) : Prop where
  first : (wss = [] ∧ lv = [s.top]) ∨ ∃ x, wss[0]? = some [x] ∧ 2 ≤ x
  wid : ∀ (k : Nat) ws, wss[k]? = some ws → ∀ x ∈ ws, x ≤ 8 ∧ (0 < k → 4 ≤ x)
  next : ∀ (k : Nat) ws ws', wss[k]? = some ws → wss[k + 1]? = some ws' → ws.sum = ws'.length
  last : ∀ ws, wss[wss.length - 1]? = some ws → ws.sum = lv.length
  lvw : ∀ c ∈ lv, s.wid c ≤ 8 ∧ (0 < wss.length → 4 ≤ s.wid c)
theorem snoc_get {wss : List (List Nat)} {hs ws : List Nat} {k : Nat} (h : (wss ++ [hs])[k]? = some ws) : wss[k]? = some ws ∨ (k = wss.length ∧ ws = hs) := by
  rw [List.getElem?_append] at h
  split at h
  · exact .inl h
  · have : k - wss.length = 0 := by have := (List.getElem?_eq_some_iff.1 h).1; simp at this; omega
    rw [this] at h; simp at h
    exact .inr ⟨by omega, h.symm⟩
theorem snoc_last {wss : List (List Nat)} {hs : List Nat} : (wss ++ [hs])[(wss ++ [hs]).length - 1]? = some hs := by simp
theorem Lev.step {wss : List (List Nat)} (h : Lev s wss lv) (hA : All (Sub s (d + 1)) lv ls js) (h2 : wss = [] → 2 ≤ s.wid s.top) : Lev s (wss ++ [lv.map s.wid]) (lv.flatMap s.kidsOf) ∧ ∃ js', All (Sub s d) (lv.flatMap s.kidsOf) ls js' := by
  obtain ⟨js', hF, hsum⟩ := hA.flat
  refine ⟨⟨?_, fun k ws hk x hx => ?_, fun k ws ws' hk hk' => ?_, fun ws hk => ?_, fun c hc => ?_⟩, js', hF.mono fun c _ l j _ hO => hO.1⟩
  · right
    rcases h.first with ⟨rfl, rfl⟩ | ⟨x, e, hx⟩
    · exact ⟨s.wid s.top, rfl, h2 rfl⟩
    · exact ⟨x, by rw [List.getElem?_append_left (List.getElem?_eq_some_iff.1 e).1]; exact e, hx⟩
  · rcases snoc_get hk with hk | ⟨rfl, rfl⟩
    · exact h.wid k ws hk x hx
    · obtain ⟨c, hc, rfl⟩ := List.mem_map.1 hx
      exact h.lvw c hc
  · have hlt := (List.getElem?_eq_some_iff.1 hk').1
    simp at hlt
    rcases snoc_get hk with hk | ⟨rfl, rfl⟩
    · rcases snoc_get hk' with hk' | ⟨e, rfl⟩
      · exact h.next k ws ws' hk hk'
      · rw [List.length_map]; exact h.last ws (by rw [← e]; exact hk)
    · omega
  · rw [snoc_last] at hk; cases hk; exact hsum
  · obtain ⟨l, j, hO⟩ := hF.each c hc
    exact ⟨hO.2.2, fun _ => hO.2.1⟩
theorem Lev.done {wss : List (List Nat)} (h : Lev s wss lv) (hA : All (Sub s 0) lv ls js) (hd : 0 < wss.length → 2 * 4 ^ wss.length ≤ ls.length) : Shp (wss ++ [lv.map s.wid]) ls.length ∧ lv.flatMap s.kidsOf = [] := by
  obtain ⟨hnil, hsum⟩ := hA.leaves
  refine ⟨⟨?_, fun k ws hk x hx => ?_, fun k ws ws' hk hk' => ?_, fun ws hk => ?_, fun hl => ?_⟩, hnil⟩
  · rcases h.first with ⟨rfl, rfl⟩ | ⟨x, e, hx⟩
    · exact ⟨s.wid s.top, rfl⟩
    · exact ⟨x, by rw [List.getElem?_append_left (List.getElem?_eq_some_iff.1 e).1]; exact e⟩
  · rcases snoc_get hk with hk2 | ⟨rfl, rfl⟩
    · refine ⟨(h.wid k ws hk2 x hx).1, (h.wid k ws hk2 x hx).2, fun e _ => ?_⟩
      subst e
      rcases h.first with ⟨e1, e2⟩ | ⟨y, e, hy⟩
      · rw [e1] at hk2; simp at hk2
      · rw [e] at hk2; cases hk2; simp at hx; omega
    · obtain ⟨c, hc, rfl⟩ := List.mem_map.1 hx
      refine ⟨(h.lvw c hc).1, (h.lvw c hc).2, fun e hl => ?_⟩
      simp at hl; omega
  · have hlt := (List.getElem?_eq_some_iff.1 hk').1
    simp at hlt
    rcases snoc_get hk with hk | ⟨rfl, rfl⟩
    · rcases snoc_get hk' with hk' | ⟨e, rfl⟩
      · exact h.next k ws ws' hk hk'
      · rw [List.length_map]; exact h.last ws (by rw [← e]; exact hk)
    · omega
  · rw [snoc_last] at hk; cases hk; exact hsum
  · simp at hl ⊢; exact hd (by omega)
end
end Go.Proofs.Ytfnhbjokokjhfab
