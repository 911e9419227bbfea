/- The call mend, of a tree. -/
import Derived.Test.YtfnhbjokokjhfaaMend
namespace Go.Proofs.Ytfnhbjokokjhfaa
open Go.ChangeShapes Go.WideShapes Go.ChangeAt Go.RowKit
section
variable {o : Own} {w : World} {t : Nat} {s s' s1 : St} {vn vg : Value} {d a : Nat} {ls : List ByteArray} {js : List Nat}
structure Parts (s : St) (d a : Nat) (ls : List ByteArray) (js : List Nat) (n : Node) : Prop where
  node : s.ns[a]? = some n
  wid : s.wid a = n.lines.length + n.kids.length
  cnt : n.lines.length + (n.kids.map s.cnt).sum = ls.length
  byt : sizes n.lines + (n.kids.map s.byt).sum = sizes ls
  mem : ∀ x ∈ n.kids, x ∈ js
  ne : js.Nodup → ∀ x ∈ n.kids, x ≠ a
  leaf : d = 0 → n.kids = [] ∧ n.vk = .slice none 0 0
  inner : 0 < d → n.lines = [] ∧ n.vl = .slice none 0 0 ∧ 0 < n.kids.length
theorem Sub.parts (h : Sub s d a ls js) : ∃ n, Parts s d a ls js n := by
  cases d with
  | zero =>
    obtain ⟨rfl, v, h⟩ := h
    exact ⟨_, h, by simp [St.wid, h, Node.wid], rfl, by simp, fun x hx => (by cases hx), fun _ x hx => (by cases hx), fun _ => ⟨rfl, rfl⟩, fun hd => absurd hd (by omega)⟩
  | succ d =>
    obtain ⟨u, ks, js', rfl, h, hp, hA⟩ := h
    have hA' : All (Ok s d) ks ls js' := hA
    have hc := hA'.cnt
    refine ⟨_, h, by simp [St.wid, h, Node.wid], ?_, ?_, fun x hx => by simp [hA'.mem x hx], fun hnd x hx e => ?_, fun hd => absurd hd (by omega), fun _ => ⟨rfl, rfl, hp⟩⟩
    · show 0 + _ = _; rw [hc.1]; omega
    · show sizes [] + _ = _; rw [hc.2, show sizes [] = 0 from rfl]; omega
    · rw [e] at hx; exact (List.nodup_cons.1 hnd).1 (hA'.mem a hx)
theorem Full.ne {x y : Nat} {xs ys : List Nat} (h : Full s (xs ++ ys)) (hx : x ∈ xs) (hy : y ∈ ys) : x ≠ y := by
  have := List.nodup_append.1 (List.nodup_append.1 h.nodup).1
  exact this.2.2 x hx y hy
theorem Full.left {xs ys : List Nat} (h : Full s (xs ++ ys)) : xs.Nodup := (List.nodup_append.1 (List.nodup_append.1 h.nodup).1).1
/-- The call split, of a sub-tree. -/
theorem split_sub (h : Rep o w t s vn vg) (hlen : s.ns.length < 90000000) {at_ k c : Nat} {na : Node} {lc : List ByteArray} {jc rest : List Nat} (hat : s.ns[at_]? = some na) (hk : na.kids[k]? = some c) (hC : Sub s d c lc jc) (hf : Full s (jc ++ rest)) (hr : at_ ∈ rest) (hw : 8 < s.wid c ∧ s.wid c < 1000) (hna : na.kids.length < 1000) (hb1 : lc.length < 2 ^ 62) (hb2 : sizes lc < 2 ^ 62) :
    Calls Try.prog 54 #[.pointer (some ⟨t, 0, none⟩), .int .i64 at_, .int .i64 k] w fun e w' => e = .returned (.tuple #[]) ∧ ∃ nc r s', s.ns[c]? = some nc ∧ SplitTo s at_ k c na nc r s' ∧ Did o w t s' w' := by
  obtain ⟨nc, P⟩ := hC.parts
  have hcm := hC.mem
  have hwd := P.wid
  have hsp := split_any h (by omega) hat hk P.node (hf.ne hcm hr) (by
    intro r g0 hg
    have hm : r ∈ s.gone := by rw [hg]; simp
    exact ⟨hf.nil r hm, fun e => hf.apart (x := at_) (by simp [hr]) (by rw [← e]; exact hm), fun e => hf.apart (x := c) (by simp [hcm]) (by rw [← e]; exact hm), fun hk => hf.apart (x := r) (by simp [P.mem r hk]) hm⟩)
    (fun e => by
      rcases Nat.eq_zero_or_pos d with hd | hd
      · exact (P.leaf hd).2
      · have := (P.inner hd).2.2; rw [e] at this; simp at this)
    (fun e => by
      rcases Nat.eq_zero_or_pos d with hd | hd
      · have := (P.leaf hd).1; rw [this, e] at hwd; simp at hwd; omega
      · exact (P.inner hd).2.1)
    (fun x hx => ⟨hf.lt (by simp [P.mem x hx]), P.ne hf.left x hx, hf.ne (P.mem x hx) hr⟩)
    (by rw [P.cnt]; omega) (by rw [P.byt]; omega) (by omega)
  refine hsp.mono ?_
  rintro e w' ⟨rfl, r, s', h1, h2⟩
  exact ⟨rfl, nc, r, s', P.node, h1, h2⟩
/-- The call join, of two sub-trees. -/
theorem join_sub (h : Rep o w t s vn vg) (hlen : s.ns.length < 90000000) {at_ k left right : Nat} {na : Node} {l1 l2 : List ByteArray} {j1 j2 rest : List Nat} (hat : s.ns[at_]? = some na) (hk : na.kids[k]? = some left) (hk' : na.kids[k + 1]? = some right) (h1 : Sub s d left l1 j1) (h2 : Sub s d right l2 j2) (hf : Full s ((j1 ++ j2) ++ rest)) (hr : at_ ∈ rest)
    (hw : s.wid left < 1000 ∧ 0 < s.wid right ∧ s.wid right < 1000) (hna : na.kids.length < 1000) (hb1 : (l1 ++ l2).length < 2 ^ 62) (hb2 : sizes (l1 ++ l2) < 2 ^ 62) :
    Calls Try.prog 57 #[.pointer (some ⟨t, 0, none⟩), .int .i64 at_, .int .i64 k] w fun e w' => e = .returned (.tuple #[]) ∧ ∃ s', (∃ nl nr, s.ns[left]? = some nl ∧ s.ns[right]? = some nr ∧ JoinTo s at_ k left right na nl nr s') ∧ Did o w t s' w' := by
  obtain ⟨nl, P⟩ := h1.parts
  obtain ⟨nr, R⟩ := h2.parts
  have hgl := hf.gone_len
  have wl := P.wid
  have wr := R.wid
  have n1 : left ≠ at_ := hf.ne (by simp [h1.mem]) hr
  have n2 : right ≠ at_ := hf.ne (by simp [h2.mem]) hr
  have hnd := List.nodup_append.1 hf.left
  have n3 : right ≠ left := fun e => hnd.2.2 left h1.mem right h2.mem e.symm
  rw [sizes_app] at hb2
  rw [List.length_append] at hb1
  rcases Nat.eq_zero_or_pos d with hd | hd
  · obtain ⟨a1, a2⟩ := P.leaf hd
    obtain ⟨b1, b2⟩ := R.leaf hd
    rw [a1] at wl; rw [b1] at wr
    simp at wl wr
    have e1 := P.byt; have e2 := R.byt
    rw [a1] at e1; rw [b1] at e2
    simp at e1 e2
    refine (join_leaf h hat hk hk' P.node R.node n1 n2 n3 a2 b2 a1 b1 (by omega) (by rw [sizes_app]; omega) (by omega)).mono ?_
    rintro e w' ⟨rfl, s', q1, q2⟩
    exact ⟨rfl, s', ⟨nl, nr, P.node, R.node, q1⟩, q2⟩
  · obtain ⟨a1, a2, a3⟩ := P.inner hd
    obtain ⟨b1, b2, b3⟩ := R.inner hd
    rw [a1] at wl; rw [b1] at wr
    simp at wl wr
    have e1 := P.byt; have e2 := R.byt
    have e3 := P.cnt; have e4 := R.cnt
    have z : sizes [] = 0 := rfl
    rw [a1, z] at e1; rw [b1, z] at e2
    rw [a1] at e3; rw [b1] at e4
    simp at e1 e2 e3 e4
    refine (join_inner h hat hk hk' P.node R.node n1 n2 n3 a2 b2 a1 b1 b3 (fun x hx => ?_) (by simp; omega) (by simp; omega) (by omega)).mono ?_
    · have hx' : x ∈ j1 ++ j2 := by
        rcases List.mem_append.1 hx with hx | hx
        · simp [P.mem x hx]
        · simp [R.mem x hx]
      refine ⟨hf.lt (List.mem_append_left _ hx'), ?_, ?_, hf.ne hx' hr⟩
      · rcases List.mem_append.1 hx with hx | hx
        · exact P.ne hnd.1 x hx
        · exact fun e => hnd.2.2 left h1.mem x (R.mem x hx) e.symm
      · rcases List.mem_append.1 hx with hx | hx
        · exact hnd.2.2 x (P.mem x hx) right h2.mem
        · exact R.ne hnd.2.1 x hx
    rintro e w' ⟨rfl, s', q1, q2⟩
    exact ⟨rfl, s', ⟨nl, nr, P.node, R.node, q1⟩, q2⟩

/-- The node's kids are 'm' now, all of the right width, and hold the lines 'ls'. -/
def Mended (s : St) (d at_ : Nat) (na : Node) (ls : List ByteArray) (rest : List Nat) (m : Nat) (s' : St) : Prop :=
  ∃ ks' js' u, s'.ns[at_]? = some { na with vk := u, kids := ks' } ∧ All (Ok s' d) ks' ls js' ∧ Full s' (js' ++ at_ :: rest) ∧ (∀ x ∈ rest, s'.ns[x]? = s.ns[x]?) ∧ ks'.length = m ∧ s'.ns.length ≤ s.ns.length + 1 ∧ s.ns.length ≤ s'.ns.length ∧ s'.top = s.top
theorem mid_split {at_ c r : Nat} {na nc : Node} {xs ys jx jc jy rest : List Nat} {lx lc ly : List ByteArray} (hS : SplitTo s at_ xs.length c na nc r s') (hn : s.ns[c]? = some nc) (hks : na.kids = xs ++ c :: ys) (hX : All (Ok s d) xs lx jx) (hC : Sub s d c lc jc) (hY : All (Ok s d) ys ly jy)
    (hw : 8 < s.wid c ∧ s.wid c ≤ 16) (hf : Full s ((jx ++ (jc ++ jy)) ++ (at_ :: rest))) : Mended s d at_ na (lx ++ (lc ++ ly)) rest (na.kids.length + 1) s' := by
  have hf2 : Full s (jc ++ (jx ++ jy ++ at_ :: rest)) := hf.perm' (by
    rw [← List.append_assoc, ← List.append_assoc]
    refine List.Perm.append_right _ ?_
    rw [← List.append_assoc]
    exact List.Perm.append_right _ List.perm_append_comm)
  have hjs := hf2.left
  obtain ⟨r1, r2, r3, r4, r5⟩ := hS.full (js' := []) hf2 (by simp) hC.mem
  obtain ⟨l1, l2, j1, j2, rfl, hp, s1, s2, w1, w2⟩ := hS.sub hn hC hjs (fun hm => hf2.ne hm (by simp) rfl) (fun hm => r1 (by simp [hm])) hw.1
  obtain ⟨_, _, _, _, r6⟩ := hS.full (js' := j1 ++ j2) hf2 (by simp) hC.mem
  obtain ⟨u, hA⟩ := hS.A
  have hat1 : ∀ x ∈ jx ++ jy, x ≠ at_ := fun x hx => hf.ne (by rcases List.mem_append.1 hx with h | h <;> simp [h]) (by simp)
  have hrn : ∀ x ∈ rest, x ≠ at_ := fun x hx e => by
    have := (List.nodup_append.1 (List.nodup_append.1 hf.nodup).1).2.1
    exact (List.nodup_cons.1 this).1 (by rw [← e]; exact hx)
  refine ⟨xs ++ [c, r] ++ ys, jx ++ (j1 ++ j2) ++ jy, u, ?_, ?_, ?_, fun x hx => r4 x (by simp [hx]) (hrn x hx), ?_, r2, r3, hS.top⟩
  · rw [hA, hks]
    have e' : List.take (xs.length + 1) (xs ++ c :: ys) = xs ++ [c] := by
      rw [show xs ++ c :: ys = (xs ++ [c]) ++ ys by simp, show xs.length + 1 = (xs ++ [c]).length by simp, List.take_left]
    rw [e']; simp
  · have e : lx ++ (l1 ++ l2 ++ ly) = lx ++ (l1 ++ l2) ++ ly := by simp
    rw [e]
    refine ((hX.frame fun x hx => r4 x (by simp [hx]) (hat1 x (by simp [hx]))).append (All.two ⟨s1, ?_⟩ ⟨s2, ?_⟩)).append (hY.frame fun x hx => r4 x (by simp [hx]) (hat1 x (by simp [hx])))
    · rw [w1]; omega
    · rw [w2]; omega
  · refine (r6 hp).perm' ?_
    rw [← List.append_assoc (j1 ++ j2) (jx ++ jy)]
    refine List.Perm.append_right _ ?_
    rw [← List.append_assoc (j1 ++ j2) jx jy]
    exact List.Perm.append_right _ List.perm_append_comm
  · rw [hks]; simp; omega
theorem mid_join {at_ left right : Nat} {na nl nr : Node} {xs ys jx j1 j2 jy rest : List Nat} {lx l1 l2 ly : List ByteArray} (hS : JoinTo s at_ xs.length left right na nl nr s') (hn : s.ns[left]? = some nl) (hn' : s.ns[right]? = some nr) (hks : na.kids = xs ++ left :: right :: ys) (hX : All (Ok s d) xs lx jx) (h1 : Sub s d left l1 j1) (h2 : Sub s d right l2 j2) (hY : All (Ok s d) ys ly jy)
    (hf : Full s ((jx ++ ((j1 ++ j2) ++ jy)) ++ (at_ :: rest))) : ∃ u j, s'.ns[at_]? = some { na with vk := u, kids := xs ++ left :: ys } ∧ All (Ok s' d) xs lx jx ∧ Sub s' d left (l1 ++ l2) j ∧ s'.wid left = s.wid left + s.wid right ∧ All (Ok s' d) ys ly jy ∧
      Full s' ((jx ++ (j ++ jy)) ++ (at_ :: rest)) ∧ (∀ x ∈ rest, s'.ns[x]? = s.ns[x]?) ∧ s'.ns.length = s.ns.length ∧ s'.top = s.top := by
  have hf2 : Full s ((j1 ++ j2) ++ (jx ++ jy ++ at_ :: rest)) := hf.perm' (by
    rw [← List.append_assoc, ← List.append_assoc]
    refine List.Perm.append_right _ ?_
    rw [← List.append_assoc]
    exact List.Perm.append_right _ List.perm_append_comm)
  obtain ⟨j, hp, hs, hw⟩ := hS.sub hn hn' h1 h2 hf2.left (fun hm => hf2.ne hm (by simp) rfl)
  obtain ⟨r4, r6⟩ := hS.full hf2 (by simp) (by simp [h1.mem]) (by simp [h2.mem]) hp
  obtain ⟨u, _, hA⟩ := hS.A
  have hat1 : ∀ x ∈ jx ++ jy, x ≠ at_ := fun x hx => hf.ne (by rcases List.mem_append.1 hx with h | h <;> simp [h]) (by simp)
  have hrn : ∀ x ∈ rest, x ≠ at_ := fun x hx e => by
    have := (List.nodup_append.1 (List.nodup_append.1 hf.nodup).1).2.1
    exact (List.nodup_cons.1 this).1 (by rw [← e]; exact hx)
  refine ⟨u, j, ?_, hX.frame fun x hx => r4 x (by simp [hx]) (hat1 x (by simp [hx])), hs, hw, hY.frame fun x hx => r4 x (by simp [hx]) (hat1 x (by simp [hx])), ?_, fun x hx => r4 x (by simp [hx]) (hrn x hx), hS.len, hS.top⟩
  · rw [hA, hks]
    have e : List.drop (xs.length + 2) (xs ++ left :: right :: ys) = ys := by
      rw [show xs ++ left :: right :: ys = (xs ++ [left, right]) ++ ys by simp, show xs.length + 2 = (xs ++ [left, right]).length by simp, List.drop_left]
    have e' : List.take (xs.length + 1) (xs ++ left :: right :: ys) = xs ++ [left] := by
      rw [show xs ++ left :: right :: ys = (xs ++ [left]) ++ (right :: ys) by simp, show xs.length + 1 = (xs ++ [left]).length by simp, List.take_left]
    rw [e, e']; simp
  · refine r6.perm' ?_
    rw [← List.append_assoc, ← List.append_assoc]
    refine List.Perm.append_right _ ?_
    rw [← List.append_assoc]
    exact List.Perm.append_right _ List.perm_append_comm

theorem Mended.trans {at_ m : Nat} {na : Node} {rest : List Nat} {u : Value} {ks : List Nat} (h : Mended s1 d at_ { na with vk := u, kids := ks } ls rest m s') (hr : ∀ x ∈ rest, s1.ns[x]? = s.ns[x]?) (hl : s1.ns.length = s.ns.length) (ht : s1.top = s.top) : Mended s d at_ na ls rest m s' := by
  obtain ⟨ks', js', u', h1, h2, h3, h4, h5, h6, h7, h8⟩ := h
  exact ⟨ks', js', u', h1, h2, h3, fun x hx => (h4 x hx).trans (hr x hx), h5, by omega, by omega, h8.trans ht⟩
/-- Behind a join the kid is of the right width, or is split. -/
theorem mend_two (h : Rep o w t s vn vg) (hlen : s.ns.length < 80000000) {at_ k c left right : Nat} {na nc : Node} {xs ys jx j1 j2 jy rest : List Nat} {lx l1 l2 ly : List ByteArray} (hat : s.ns[at_]? = some na) (hkc : na.kids[k]? = some c) (hnc : s.ns[c]? = some nc) (hwc : s.wid c < 4) (hk8 : na.kids.length ≤ 8)
    (hks : na.kids = xs ++ left :: right :: ys) (hm : xs.length = min k (na.kids.length - 2)) (hX : All (Ok s d) xs lx jx) (h1 : Sub s d left l1 j1) (h2 : Sub s d right l2 j2) (hY : All (Ok s d) ys ly jy) (hw : 7 ≤ s.wid left + s.wid right ∧ s.wid left ≤ 8 ∧ s.wid right ≤ 8 ∧ 0 < s.wid right)
    (hf : Full s ((jx ++ ((j1 ++ j2) ++ jy)) ++ (at_ :: rest))) (hb1 : (l1 ++ l2).length < 2 ^ 62) (hb2 : sizes (l1 ++ l2) < 2 ^ 62) :
    Calls Try.prog 52 #[.pointer (some ⟨t, 0, none⟩), .int .i64 at_, .int .i64 k] w fun e w' => e = .returned (.tuple #[]) ∧ ∃ s' m, Did o w t s' w' ∧ Mended s d at_ na (lx ++ ((l1 ++ l2) ++ ly)) rest m s' ∧ m ≤ na.kids.length ∧ na.kids.length ≤ m + 1 := by
  have hkm : na.kids[xs.length]? = some left := by rw [hks]; simp
  have hkm' : na.kids[xs.length + 1]? = some right := by
    rw [hks, List.getElem?_append_right (by omega)]; simp
  have hf2 : Full s ((j1 ++ j2) ++ (jx ++ jy ++ at_ :: rest)) := hf.perm' (by
    rw [← List.append_assoc, ← List.append_assoc]
    refine List.Perm.append_right _ ?_
    rw [← List.append_assoc]
    exact List.Perm.append_right _ List.perm_append_comm)
  have hwc' : nc.lines.length + nc.kids.length < 4 := by have : s.wid c = nc.lines.length + nc.kids.length := by simp [St.wid, hnc, Node.wid]
                                                         omega
  have hl2 : 2 ≤ na.kids.length := by rw [hks]; simp; omega
  have hbr : ∀ s1, (∃ nl nr, s.ns[left]? = some nl ∧ s.ns[right]? = some nr ∧ JoinTo s at_ xs.length left right na nl nr s1) → _ := fun s1 ⟨nl, nr, q1, q2, q3⟩ => mid_join q3 q1 q2 hks hX h1 h2 hY hf
  refine mend_join h hat hkc hnc hwc' hl2 hm hkm _ (fun s1 => ∃ nl nr, s.ns[left]? = some nl ∧ s.ns[right]? = some nr ∧ JoinTo s at_ xs.length left right na nl nr s1) (fun q => ?_) (fun s1 hJ => ?_) (fun s1 w1 hJ hD h8 q => ?_) (fun s1 w1 q hJ hD h8 => ?_)
  · refine (join_sub (h.drewN q) (by omega) hat hkm hkm' h1 h2 hf2 (by simp) (by omega) (by omega) hb1 hb2).mono ?_
    rintro e w' ⟨rfl, s1, q1, o1, vn1, vg1, q2, q3⟩
    exact ⟨rfl, s1, q1, o1, vn1, vg1, q2, (Keeps.drewN o w q).trans q3⟩
  · obtain ⟨u, j, e1, _, e3, e4, _⟩ := hbr s1 hJ
    obtain ⟨nl, nr, q1, q2, q3⟩ := hJ
    obtain ⟨u', hu, hA⟩ := q3.A
    obtain ⟨n1, P⟩ := e3.parts
    have := P.wid
    exact ⟨u', n1, hu, hA, P.node, by omega⟩
  · obtain ⟨u, j, e1, e2, e3, e4, e5, e6, e7, e8, e9⟩ := hbr s1 hJ
    obtain ⟨o1, vn1, vg1, r1, k1⟩ := hD
    have hf3 : Full s1 (j ++ (jx ++ jy ++ at_ :: rest)) := e6.perm' (by
      rw [← List.append_assoc, ← List.append_assoc]
      refine List.Perm.append_right _ ?_
      rw [← List.append_assoc]
      exact List.Perm.append_right _ List.perm_append_comm)
    refine (split_sub (r1.drewN q) (by omega) e1 (c := left) (by simp) e3 hf3 (by simp) (by omega) (by rw [hks] at hk8; simp at hk8 ⊢; omega) hb1 hb2).mono ?_
    rintro e w' ⟨rfl, nc1, r, s2, q1, q2, o2, vn2, vg2, q3, q4⟩
    have hM := mid_split q2 q1 rfl e2 e3 e5 (by omega) e6
    refine ⟨rfl, s2, _, ⟨o2, vn2, vg2, q3, (k1.drewN' q).trans q4⟩, hM.trans e7 e8 e9, ?_, ?_⟩
    · rw [hks]; simp; omega
    · rw [hks]; simp; omega
  · obtain ⟨u, j, e1, e2, e3, e4, e5, e6, e7, e8, e9⟩ := hbr s1 hJ
    obtain ⟨o1, vn1, vg1, r1, k1⟩ := hD
    refine ⟨s1, _, ⟨o1, vn1, vg1, r1.drewN q, k1.drewN' q⟩, ⟨xs ++ left :: ys, jx ++ (j ++ jy), u, e1, ?_, e6, e7, rfl, by omega, by omega, e9⟩, ?_, ?_⟩
    · exact e2.append ((All.one ⟨e3, by omega⟩).append e5)
    · rw [hks]; simp
    · rw [hks]; simp; omega
theorem mend_any (h : Rep o w t s vn vg) (hlen : s.ns.length < 80000000) {at_ c : Nat} {na : Node} {xs ys jx jc jy rest : List Nat} {lx lc ly : List ByteArray} (hat : s.ns[at_]? = some na) (hk8 : na.kids.length ≤ 8) (hk2 : 2 ≤ na.kids.length)
    (hks : na.kids = xs ++ c :: ys) (hX : All (Ok s d) xs lx jx) (hC : Sub s d c lc jc) (hY : All (Ok s d) ys ly jy) (hw : 3 ≤ s.wid c ∧ s.wid c ≤ 9)
    (hf : Full s ((jx ++ (jc ++ jy)) ++ (at_ :: rest))) (hb1 : (lx ++ (lc ++ ly)).length < 2 ^ 62) (hb2 : sizes (lx ++ (lc ++ ly)) < 2 ^ 62) :
    Calls Try.prog 52 #[.pointer (some ⟨t, 0, none⟩), .int .i64 at_, .int .i64 xs.length] w fun e w' => e = .returned (.tuple #[]) ∧ ∃ s' m, Did o w t s' w' ∧ Mended s d at_ na (lx ++ (lc ++ ly)) rest m s' ∧ m ≤ na.kids.length + 1 ∧ na.kids.length ≤ m + 1 := by
  have hkm : na.kids[xs.length]? = some c := by rw [hks]; simp
  obtain ⟨nc, P⟩ := hC.parts
  have hwd := P.wid
  simp only [sizes_app, List.length_append] at hb1 hb2
  by_cases h8 : 8 < s.wid c
  · have hf2 : Full s (jc ++ (jx ++ jy ++ at_ :: rest)) := hf.perm' (by
      rw [← List.append_assoc, ← List.append_assoc]
      refine List.Perm.append_right _ ?_
      rw [← List.append_assoc]
      exact List.Perm.append_right _ List.perm_append_comm)
    refine mend_split h hat hkm P.node (by omega) _ fun q => ?_
    refine (split_sub (h.drewN q) (by omega) hat hkm hC hf2 (by simp) (by omega) (by omega) (by omega) (by omega)).mono ?_
    rintro e w' ⟨rfl, nc1, r, s2, q1, q2, o2, vn2, vg2, q3, q4⟩
    have hM := mid_split q2 q1 hks hX hC hY (by omega) hf
    exact ⟨rfl, s2, _, ⟨o2, vn2, vg2, q3, (Keeps.drewN o w q).trans q4⟩, hM, by omega, by omega⟩
  · by_cases h4 : s.wid c < 4
    · cases ys with
      | cons y ys =>
        obtain ⟨l2, l3, j2, j3, rfl, rfl, hy, hY⟩ := hY
        have hres := mend_two h hlen (k := xs.length) (c := c) hat hkm P.node h4 hk8 (left := c) (right := y) hks (by rw [hks]; simp; omega) hX hC hy.1 hY (by have := hy.2; omega) (by simpa using hf) (by simp [List.length_append] at hb1 ⊢; omega) (by simp only [sizes_app] at hb2 ⊢; omega)
        refine hres.mono ?_
        rintro e w' ⟨rfl, s', m, q1, q2, q3, q4⟩
        exact ⟨rfl, s', m, q1, by simpa using q2, by omega, q4⟩
      | nil =>
        obtain ⟨rfl, rfl⟩ := hY
        obtain ⟨xs', x, rfl⟩ : ∃ xs' x, xs = xs' ++ [x] := by
          have : xs ≠ [] := by rintro rfl; rw [hks] at hk2; simp at hk2
          exact ⟨xs.dropLast, xs.getLast this, (List.dropLast_concat_getLast this).symm⟩
        obtain ⟨l1, l2, j1, j2, rfl, rfl, hX1, hx⟩ := hX.cut
        have hx := hx.head
        have hres := mend_two h hlen (k := (xs' ++ [x]).length) (c := c) hat hkm P.node h4 hk8 (left := x) (right := c) (xs := xs') (ys := []) (by rw [hks]; simp) (by rw [hks]; simp) hX1 hx.1 hC ⟨rfl, rfl⟩ (by have := hx.2; omega) (by simpa using hf) (by simp [List.length_append] at hb1 ⊢; omega) (by simp only [sizes_app] at hb2 ⊢; omega)
        refine hres.mono ?_
        rintro e w' ⟨rfl, s', m, q1, q2, q3, q4⟩
        exact ⟨rfl, s', m, q1, by simpa using q2, by omega, q4⟩
    · refine (mend_same h hat hkm P.node (by omega)).mono ?_
      rintro e w' ⟨rfl, q, rfl⟩
      refine ⟨rfl, s, _, ⟨o, vn, vg, h.drewN q, Keeps.drewN o w q⟩, ⟨xs ++ c :: ys, jx ++ (jc ++ jy), na.vk, ?_, hX.append ((All.one ⟨hC, by omega⟩).append hY), hf, fun _ _ => rfl, rfl, by omega, by omega, rfl⟩, by rw [hks]; omega, by rw [hks]; omega⟩
      rw [hat, ← hks]
end
end Go.Proofs.Ytfnhbjokokjhfaa
