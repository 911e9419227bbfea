/- The tree as plain data: what stands below a number, and what it means that it is a tree of the right shape. -/
import Derived.Test.YtfnhbjokokjhfabLeafc
namespace Go.Proofs.Ytfnhbjokokjhfab
open Go.ChangeShapes Go.WideShapes Go.ChangeAt Go.RowKit

def All (P : Nat → List ByteArray → List Nat → Prop) : List Nat → List ByteArray → List Nat → Prop
  | [], ls, js => ls = [] ∧ js = []
  | c :: cs, ls, js => ∃ l1 l2 j1 j2, ls = l1 ++ l2 ∧ js = j1 ++ j2 ∧ P c l1 j1 ∧ All P cs l2 j2
theorem All.append {P : Nat → List ByteArray → List Nat → Prop} {xs ys : List Nat} {l1 l2 : List ByteArray} {j1 j2 : List Nat} (h1 : All P xs l1 j1) (h2 : All P ys l2 j2) : All P (xs ++ ys) (l1 ++ l2) (j1 ++ j2) := by
  induction xs generalizing l1 j1 with
  | nil => obtain ⟨rfl, rfl⟩ := h1; exact h2
  | cons c cs ih =>
    obtain ⟨a1, a2, b1, b2, rfl, rfl, hp, hr⟩ := h1
    exact ⟨a1, a2 ++ l2, b1, b2 ++ j2, by simp, by simp, hp, ih hr⟩
theorem All.cut {P : Nat → List ByteArray → List Nat → Prop} {xs ys : List Nat} {ls : List ByteArray} {js : List Nat} (h : All P (xs ++ ys) ls js) : ∃ l1 l2 j1 j2, ls = l1 ++ l2 ∧ js = j1 ++ j2 ∧ All P xs l1 j1 ∧ All P ys l2 j2 := by
  induction xs generalizing ls js with
  | nil => exact ⟨[], ls, [], js, rfl, rfl, ⟨rfl, rfl⟩, h⟩
  | cons c cs ih =>
    obtain ⟨a1, a2, b1, b2, rfl, rfl, hp, hr⟩ := h
    obtain ⟨l1, l2, j1, j2, rfl, rfl, h1, h2⟩ := ih hr
    exact ⟨a1 ++ l1, l2, b1 ++ j1, j2, by simp, by simp, ⟨a1, l1, b1, j1, rfl, rfl, hp, h1⟩, h2⟩
theorem All.one {P : Nat → List ByteArray → List Nat → Prop} {c : Nat} {l : List ByteArray} {j : List Nat} (h : P c l j) : All P [c] l j := ⟨l, [], j, [], by simp, by simp, h, rfl, rfl⟩
theorem All.two {P : Nat → List ByteArray → List Nat → Prop} {c d : Nat} {l m : List ByteArray} {j k : List Nat} (h : P c l j) (h' : P d m k) : All P [c, d] (l ++ m) (j ++ k) := ⟨l, m, j, k, rfl, rfl, h, .one h'⟩
theorem All.head {P : Nat → List ByteArray → List Nat → Prop} {c : Nat} {l : List ByteArray} {j : List Nat} (h : All P [c] l j) : P c l j := by
  obtain ⟨a1, a2, b1, b2, rfl, rfl, hp, rfl, rfl⟩ := h; simpa using hp
theorem All.mono {P Q : Nat → List ByteArray → List Nat → Prop} {cs : List Nat} {ls : List ByteArray} {js : List Nat} (h : All P cs ls js) (hq : ∀ c ∈ cs, ∀ l j, (∀ x ∈ j, x ∈ js) → P c l j → Q c l j) : All Q cs ls js := by
  induction cs generalizing ls js with
  | nil => exact h
  | cons c cs ih =>
    obtain ⟨a1, a2, b1, b2, rfl, rfl, hp, hr⟩ := h
    exact ⟨a1, a2, b1, b2, rfl, rfl, hq c (by simp) _ _ (fun x hx => by simp [hx]) hp, ih hr fun c' hc l j hj => hq c' (by simp [hc]) l j fun x hx => by simp [hj x hx]⟩

def Node.wid (n : Node) : Nat := n.lines.length + n.kids.length
def St.wid (s : St) (c : Nat) : Nat := ((s.ns[c]?).map Node.wid).getD 0
/-- Below number 'a', 'd' levels above the last one, stand the lines 'ls', in nodes of the numbers 'js'. -/
def Sub (s : St) : Nat → Nat → List ByteArray → List Nat → Prop
  | 0, a, ls, js => js = [a] ∧ ∃ v, s.ns[a]? = some ⟨v, .slice none 0 0, ls, [], ls.length, sizes ls⟩
  | d + 1, a, ls, js => ∃ u ks js', js = a :: js' ∧ s.ns[a]? = some ⟨.slice none 0 0, u, [], ks, ls.length, sizes ls⟩ ∧ 0 < ks.length ∧ All (fun c l j => Sub s d c l j ∧ 4 ≤ s.wid c ∧ s.wid c ≤ 8) ks ls js'
def Ok (s : St) (d : Nat) (c : Nat) (l : List ByteArray) (j : List Nat) : Prop := Sub s d c l j ∧ 4 ≤ s.wid c ∧ s.wid c ≤ 8

section
variable {s s' : St} {d a : Nat} {ls : List ByteArray} {js : List Nat}
theorem Sub.mem (h : Sub s d a ls js) : a ∈ js := by
  cases d with
  | zero => rw [h.1]; simp
  | succ d => obtain ⟨u, ks, js', rfl, _⟩ := h; simp
theorem All.mem {ks : List Nat} (h : All (Ok s d) ks ls js) : ∀ c ∈ ks, c ∈ js := by
  induction ks generalizing ls js with
  | nil => intro c hc; cases hc
  | cons c cs ih =>
    obtain ⟨a1, a2, b1, b2, rfl, rfl, hp, hr⟩ := h
    intro x hx
    rcases List.mem_cons.1 hx with rfl | hx
    · simp [hp.1.mem]
    · simp [ih hr x hx]
theorem Sub.node (h : Sub s d a ls js) : ∃ n, s.ns[a]? = some n ∧ n.count = ls.length ∧ n.bytes = sizes ls := by
  cases d with
  | zero => obtain ⟨_, v, h⟩ := h; exact ⟨_, h, rfl, rfl⟩
  | succ d => obtain ⟨u, ks, js', rfl, h, _⟩ := h; exact ⟨_, h, rfl, rfl⟩
theorem Sub.cnt (h : Sub s d a ls js) : s.cnt a = ls.length ∧ s.byt a = sizes ls := by
  obtain ⟨n, hn, h1, h2⟩ := h.node
  simp [St.cnt, St.byt, hn, h1, h2]
theorem All.cnt {ks : List Nat} (h : All (Ok s d) ks ls js) : (ks.map s.cnt).sum = ls.length ∧ (ks.map s.byt).sum = sizes ls := by
  induction ks generalizing ls js with
  | nil => obtain ⟨rfl, rfl⟩ := h; exact ⟨rfl, rfl⟩
  | cons c cs ih =>
    obtain ⟨a1, a2, b1, b2, rfl, rfl, hp, hr⟩ := h
    obtain ⟨e1, e2⟩ := ih hr
    obtain ⟨e3, e4⟩ := hp.1.cnt
    simp [e1, e2, e3, e4, sizes, List.map_append]
theorem Sub.frame (h : Sub s d a ls js) (hs : ∀ x ∈ js, s'.ns[x]? = s.ns[x]?) : Sub s' d a ls js := by
  induction d generalizing a ls js with
  | zero => obtain ⟨rfl, v, h⟩ := h; exact ⟨rfl, v, by rw [hs a (by simp)]; exact h⟩
  | succ d ih =>
    obtain ⟨u, ks, js', rfl, h, hp, hA⟩ := h
    refine ⟨u, ks, js', rfl, by rw [hs a (by simp)]; exact h, hp, hA.mono fun c _ l j hj hc => ?_⟩
    have hj' : ∀ x ∈ j, s'.ns[x]? = s.ns[x]? := fun x hx => hs x (by simp [hj x hx])
    have e : s'.wid c = s.wid c := by simp only [St.wid, hj' c hc.1.mem]
    exact ⟨ih hc.1 hj', by rw [e]; exact hc.2⟩
theorem All.frame {ks : List Nat} (h : All (Ok s d) ks ls js) (hs : ∀ x ∈ js, s'.ns[x]? = s.ns[x]?) : All (Ok s' d) ks ls js :=
  h.mono fun c _ l j hj hc => by
    have hj' : ∀ x ∈ j, s'.ns[x]? = s.ns[x]? := fun x hx => hs x (hj x hx)
    have e : s'.wid c = s.wid c := by simp only [St.wid, hj' c hc.1.mem]
    exact ⟨hc.1.frame hj', by rw [e]; exact hc.2⟩
/-- Each number stands in 'js' or is gone, once. -/
structure Full (s : St) (js : List Nat) : Prop where
  perm : (js ++ s.gone).Perm (List.range s.ns.length)
  nil : ∀ g ∈ s.gone, s.ns[g]? = some nilNode
theorem Full.nodup (h : Full s js) : (js ++ s.gone).Nodup := h.perm.nodup_iff.2 List.nodup_range
theorem Full.lt (h : Full s js) {x : Nat} (hx : x ∈ js) : x < s.ns.length := List.mem_range.1 (h.perm.subset (by simp [hx]))
theorem Full.perm' (h : Full s js) {js2 : List Nat} (hp : js2.Perm js) : Full s js2 := ⟨(hp.append_right _).trans h.perm, h.nil⟩
theorem Full.apart (h : Full s js) {x : Nat} (hx : x ∈ js) : x ∉ s.gone := fun hg => by
  have := List.nodup_append.1 h.nodup
  exact absurd rfl (this.2.2 x hx x hg)
theorem Full.gone_len (h : Full s js) : s.gone.length ≤ s.ns.length := by
  have := h.perm.length_eq; simp at this; omega

theorem SplitTo.sub {at_ k left r : Nat} {na nl : Node} (h : SplitTo s at_ k left na nl r s') (hn : s.ns[left]? = some nl) (hs : Sub s d left ls js) (hnd : js.Nodup) (hat : at_ ∉ js) (hr : r ∉ js) (hw : 8 < s.wid left) :
    ∃ l1 l2 j1 j2, ls = l1 ++ l2 ∧ (j1 ++ j2).Perm (r :: js) ∧ Sub s' d left l1 j1 ∧ Sub s' d r l2 j2 ∧ s'.wid left = s.wid left / 2 ∧ s'.wid r = s.wid left - s.wid left / 2 := by
  have hwl : s.wid left = nl.wid := by simp [St.wid, hn]
  obtain ⟨v, u, hL, hLv, hLu⟩ := h.L
  obtain ⟨v', u', hR, hRv, hRu⟩ := h.R
  cases d with
  | zero =>
    obtain ⟨rfl, v0, h0⟩ := hs
    rw [h0] at hn; injection hn with hn; subst hn
    have e1 := hLu rfl; have e2 := hRu rfl
    subst e1 e2
    refine ⟨ls.take (ls.length / 2), ls.drop (ls.length / 2), [left], [r], (List.take_append_drop _ _).symm, List.Perm.swap _ _ _, ⟨rfl, v, by rw [hL]; simp⟩, ⟨rfl, v', by rw [hR]; simp⟩, ?_, ?_⟩
    · rw [hwl]; simp [St.wid, hL, Node.wid]; omega
    · rw [hwl]; simp [St.wid, hR, Node.wid]
  | succ d =>
    obtain ⟨u0, ks, js', rfl, h0, hp, hA⟩ := hs
    rw [h0] at hn; injection hn with hn; subst hn
    have e1 := hLv rfl; have e2 := hRv rfl
    subst e1 e2
    have hwk : 8 < ks.length := by rw [hwl] at hw; simpa [Node.wid] using hw
    have hA' : All (Ok s d) (ks.take (ks.length / 2) ++ ks.drop (ks.length / 2)) ls js' := by rw [List.take_append_drop]; exact hA
    obtain ⟨l1, l2, j1, j2, rfl, rfl, h1, h2⟩ := hA'.cut
    have hfr : ∀ x ∈ j1 ++ j2, s'.ns[x]? = s.ns[x]? := fun x hx => h.rest x (fun e => hat (by rw [← e]; exact List.mem_cons_of_mem _ hx)) (fun e => (List.nodup_cons.1 hnd).1 (by rw [← e]; exact hx)) (fun e => hr (by rw [← e]; exact List.mem_cons_of_mem _ hx))
    have c1 := h1.cnt; have c2 := h2.cnt
    refine ⟨l1, l2, left :: j1, r :: j2, rfl, List.perm_middle, ⟨u, ks.take (ks.length / 2), j1, rfl, ?_, by simp; omega, h1.frame fun x hx => hfr x (by simp [hx])⟩, ⟨u', ks.drop (ks.length / 2), j2, rfl, ?_, by simp; omega, h2.frame fun x hx => hfr x (by simp [hx])⟩, ?_, ?_⟩
    · rw [hL]; simp only [c1.1, c1.2]; simp [sizes]
    · rw [hR]; simp only [c2.1, c2.2]; simp [sizes]
    · rw [hwl]; simp [St.wid, hL, Node.wid]; omega
    · rw [hwl]; simp [St.wid, hR, Node.wid]
theorem JoinTo.sub {at_ k left right : Nat} {na nl nr : Node} {l1 l2 : List ByteArray} {j1 j2 : List Nat} (h : JoinTo s at_ k left right na nl nr s') (hl : s.ns[left]? = some nl) (hr : s.ns[right]? = some nr) (h1 : Sub s d left l1 j1) (h2 : Sub s d right l2 j2) (hnd : (j1 ++ j2).Nodup) (hat : at_ ∉ j1 ++ j2) :
    ∃ j, (right :: j).Perm (j1 ++ j2) ∧ Sub s' d left (l1 ++ l2) j ∧ s'.wid left = s.wid left + s.wid right := by
  obtain ⟨v, u, hL, hLv, hLu⟩ := h.L
  cases d with
  | zero =>
    obtain ⟨rfl, v0, h0⟩ := h1
    obtain ⟨rfl, v1, h1⟩ := h2
    rw [h0] at hl; injection hl with hl; subst hl
    rw [h1] at hr; injection hr with hr; subst hr
    have e1 := hLu rfl
    subst e1
    refine ⟨[left], List.Perm.swap _ _ _, ⟨rfl, v, by rw [hL]; rfl⟩, ?_⟩
    simp [St.wid, hL, h0, h1, Node.wid]
  | succ d =>
    obtain ⟨u0, ks, i1, rfl, h0, hp, hA⟩ := h1
    obtain ⟨u1, ks', i2, rfl, h1, hp', hA'⟩ := h2
    rw [h0] at hl; injection hl with hl; subst hl
    rw [h1] at hr; injection hr with hr; subst hr
    have e1 := hLv rfl
    subst e1
    have hnd' : (right :: (left :: i1 ++ i2)).Nodup := List.perm_middle.nodup_iff.1 hnd
    have hfr : ∀ x ∈ i1 ++ i2, s'.ns[x]? = s.ns[x]? := fun x hx => by
      simp only [List.cons_append, List.nodup_cons, List.mem_cons] at hnd'
      refine h.rest x (fun e => hat ?_) (fun e => hnd'.2.1 (by rw [← e]; exact hx)) (fun e => hnd'.1 (.inr (by rw [← e]; exact hx)))
      rw [← e]
      rcases List.mem_append.1 hx with hx | hx <;> simp [hx]
    have hAA : All (Ok s d) (ks ++ ks') (l1 ++ l2) (i1 ++ i2) := All.append (P := Ok s d) hA hA'
    have c1 := hAA.cnt
    refine ⟨left :: (i1 ++ i2), (List.perm_middle (l₁ := left :: i1)).symm, ⟨u, ks ++ ks', i1 ++ i2, rfl, ?_, by simp; omega, hAA.frame hfr⟩, ?_⟩
    · rw [hL]; simp only [c1.1, c1.2]; simp [sizes]
    · simp [St.wid, hL, h0, h1, Node.wid]
theorem SplitTo.full {at_ k left r : Nat} {na nl : Node} {rest js' : List Nat} (h : SplitTo s at_ k left na nl r s') (hf : Full s (js ++ rest)) (hat : at_ ∈ rest) (hl : left ∈ js) :
    r ∉ js ++ rest ∧ s'.ns.length ≤ s.ns.length + 1 ∧ s.ns.length ≤ s'.ns.length ∧ (∀ x ∈ rest, x ≠ at_ → s'.ns[x]? = s.ns[x]?) ∧ (js'.Perm (r :: js) → Full s' (js' ++ rest)) := by
  have hnd := hf.nodup
  have hap : ∀ x ∈ js ++ rest, x ∉ s.gone := fun x hx => hf.apart hx
  have hlt : ∀ x ∈ js ++ rest, x < s.ns.length := fun x hx => hf.lt hx
  have hjr : ∀ x ∈ rest, x ∉ js := fun x hx hj => by
    have := List.nodup_append.1 (List.nodup_append.1 hnd).1
    exact absurd rfl (this.2.2 x hj x hx)
  have hr : r ∉ js ++ rest := by
    rcases h.fresh with ⟨e, _⟩ | ⟨_, _, e⟩
    · intro hm; exact hap r hm (by rw [e]; simp)
    · intro hm; have := hlt r hm; omega
  have hfr : ∀ x ∈ rest, x ≠ at_ → s'.ns[x]? = s.ns[x]? := fun x hx hne => h.rest x hne (fun e => hjr x hx (by rw [e]; exact hl)) (fun e => hr (by rw [← e]; simp [hx]))
  refine ⟨hr, ?_, ?_, hfr, fun hp => ⟨?_, fun g hg => ?_⟩⟩
  · rw [h.len]
    rcases h.fresh with ⟨_, e⟩ | ⟨_, _, e⟩
    · have := (List.getElem?_eq_some_iff.1 e).1; omega
    · omega
  · rw [h.len]; omega
  · rcases h.fresh with ⟨e, e2⟩ | ⟨e, e1, e2⟩
    · have hlr := (List.getElem?_eq_some_iff.1 e2).1
      have hle : s'.ns.length = s.ns.length := by rw [h.len]; omega
      rw [hle]
      refine List.Perm.trans ?_ hf.perm
      rw [e]
      refine ((hp.append_right rest).append_right s'.gone).trans ?_
      rw [List.cons_append, List.cons_append, ← List.append_assoc]
      exact List.perm_append_singleton _ _ |>.symm
    · have hle : s'.ns.length = s.ns.length + 1 := by rw [h.len]; omega
      rw [hle, List.range_succ, e1, List.append_nil]
      have hp2 := hf.perm
      rw [e, List.append_nil] at hp2
      refine (hp.append_right rest).trans ?_
      rw [List.cons_append]
      refine (List.perm_append_singleton _ _).symm.trans ?_
      rw [e2]
      exact hp2.append_right _
  · rcases h.fresh with ⟨e, e2⟩ | ⟨e, e1, e2⟩
    · have hgm : g ∈ s.gone := by rw [e]; simp [hg]
      have hgr : g ≠ r := by
        intro e'
        have h1 := (List.nodup_append.1 hnd).2.1
        rw [e] at h1
        exact absurd rfl ((List.nodup_append.1 h1).2.2 r (by rw [← e']; exact hg) r (by simp))
      rw [h.rest g (fun e' => hap at_ (by simp [hat]) (by rw [← e']; exact hgm)) (fun e' => hap left (by simp [hl]) (by rw [← e']; exact hgm)) hgr]
      exact hf.nil g hgm
    · rw [e1] at hg; cases hg
theorem JoinTo.full {at_ k left right : Nat} {na nl nr : Node} {rest js' : List Nat} (h : JoinTo s at_ k left right na nl nr s') (hf : Full s (js ++ rest)) (hat : at_ ∈ rest) (hl : left ∈ js) (hr : right ∈ js) (hp : (right :: js').Perm js) :
    (∀ x ∈ rest, x ≠ at_ → s'.ns[x]? = s.ns[x]?) ∧ Full s' (js' ++ rest) := by
  have hnd := hf.nodup
  have hap : ∀ x ∈ js ++ rest, x ∉ s.gone := fun x hx => hf.apart hx
  have hjr : ∀ x ∈ rest, x ∉ js := fun x hx hj => by
    have := List.nodup_append.1 (List.nodup_append.1 hnd).1
    exact absurd rfl (this.2.2 x hj x hx)
  refine ⟨fun x hx hne => h.rest x hne (fun e => hjr x hx (by rw [e]; exact hl)) (fun e => hjr x hx (by rw [e]; exact hr)), ⟨?_, fun g hg => ?_⟩⟩
  · rw [h.len, h.gone]
    refine List.Perm.trans ?_ hf.perm
    refine List.Perm.trans ?_ ((hp.append_right rest).append_right s.gone)
    rw [List.cons_append, List.cons_append, ← List.append_assoc]
    exact List.perm_append_singleton _ _
  · rw [h.gone] at hg
    rcases List.mem_append.1 hg with hg | hg
    · rw [h.rest g (fun e' => hap at_ (by simp [hat]) (by rw [← e']; exact hg)) (fun e' => hap left (by simp [hl]) (by rw [← e']; exact hg)) (fun e' => hap right (by simp [hr]) (by rw [← e']; exact hg))]
      exact hf.nil g hg
    · simp at hg; rw [hg]; exact h.R
end
end Go.Proofs.Ytfnhbjokokjhfab
