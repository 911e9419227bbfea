/- The tree's calls drop and halves. -/
import Derived.Test.YtfnhbjokokjhfaaFns3
import Derived.Deep.MidRow
namespace Go.Proofs.Ytfnhbjokokjhfaa
open Go.ChangeShapes Go.WideShapes Go.ChangeAt Go.RowKit

section
variable {o : Own} {w : World} {t : Nat} {s : St} {vn vg : Value}
/-- The tree is 's'' behind it, and nothing that was free has turned. -/
def Did (o : Own) (w : World) (t : Nat) (s' : St) (w' : World) : Prop := ∃ o' vn' vg', Rep o' w' t s' vn' vg' ∧ Keeps o o' w w'
theorem rnil {o : Own} {w : World} {g : Tag} {e : TypeId} : Row o w g e 1 (.slice none 0 0) 0 [] := ⟨World.ownsRow_nil _ _ _ _, fun k hk => by simp [Value.ownBlock] at hk⟩
/-- A node is emptied. -/
theorem RepX.empty {x : Tag} (h : RepX x o w t s vn vg) {i b m cap : Nat} {n : Node} (hx : x = .lines i ∨ x = .kids i ∨ x = .free) (hi : s.ns[i]? = some n) (hvn : vn = .slice (some ⟨b, 0, none⟩) m cap) (hk : Row o w (.kids i) 3 1 n.vk n.kids.length (nums n.kids)) :
    Rep o ((((w.setCell ⟨b, i * 4, none⟩ (.slice none 0 0)).setCell ⟨b, i * 4 + 1, none⟩ (.slice none 0 0)).setCell ⟨b, i * 4 + 2, none⟩ (.int .i64 0)).setCell ⟨b, i * 4 + 3, none⟩ (.int .i64 0)) t (s.put i nilNode) vn vg := by
  have hlen : i < s.ns.length := (List.getElem?_eq_some_iff.1 hi).1
  have r0 : Rep o (w.setCell ⟨b, i * 4, none⟩ (.slice none 0 0)) t (s.put i { n with vl := .slice none 0 0, lines := [] }) vn vg := RepX.store h (n' := { n with vl := .slice none 0 0, lines := [] }) (j := 0) hx hi hvn (by omega) rfl rnil hk
  have r1 : Rep o ((w.setCell ⟨b, i * 4, none⟩ (.slice none 0 0)).setCell ⟨b, i * 4 + 1, none⟩ (.slice none 0 0)) t ((s.put i { n with vl := .slice none 0 0, lines := [] }).put i { n with vl := .slice none 0 0, lines := [], vk := .slice none 0 0, kids := [] }) vn vg :=
    RepX.store r0 (n' := { n with vl := .slice none 0 0, lines := [], vk := .slice none 0 0, kids := [] }) (j := 1) (.inr (.inr rfl)) (put_same _ hlen) hvn (by omega) rfl rnil rnil
  rw [put_put] at r1
  have r2 := r1.count (c := 0) (put_same _ hlen) hvn
  rw [put_put] at r2
  have r3 := r2.byts (c := 0) (put_same _ hlen) hvn
  rw [put_put] at r3
  exact r3
theorem drop_any (h : Rep o w t s vn vg) {at_ : Nat} {n : Node} (hn : s.ns[at_]? = some n) (hg : s.gone.length < 1000000000) :
    Calls Try.prog 55 #[.pointer (some ⟨t, 0, none⟩), .int .i64 at_] w fun e w' => e = .returned (.tuple #[]) ∧ Did o w t { s.put at_ nilNode with gone := s.gone ++ [at_] } w' := by
  have htop : at_ < s.ns.length := (List.getElem?_eq_some_iff.1 hn).1
  obtain ⟨b, cap, hvn, ho, h1, h2, hcc⟩ := h.nodeCells (by omega)
  clear hcc
  obtain ⟨a0, c0, c1, c2, c3, hf⟩ := h.cellsAt hn hvn
  have hob := h.ob hvn
  have hr := RepX.empty h (.inr (.inr rfl)) hn hvn (h.kids _ _ hn (by simp))
  have hk : Keeps o o w ((((w.setCell ⟨b, at_ * 4, none⟩ (.slice none 0 0)).setCell ⟨b, at_ * 4 + 1, none⟩ (.slice none 0 0)).setCell ⟨b, at_ * 4 + 2, none⟩ (.int .i64 0)).setCell ⟨b, at_ * 4 + 3, none⟩ (.int .i64 0)) :=
    ((((Keeps.refl o w).setCell hob).setCell hob).setCell hob).setCell hob
  have hset : w.setCells b (at_ * 4) [.slice none 0 0, .slice none 0 0, .int .i64 0, .int .i64 0] = ((((w.setCell ⟨b, at_ * 4, none⟩ (.slice none 0 0)).setCell ⟨b, at_ * 4 + 1, none⟩ (.slice none 0 0)).setCell ⟨b, at_ * 4 + 2, none⟩ (.int .i64 0)).setCell ⟨b, at_ * 4 + 3, none⟩ (.int .i64 0)) := rfl
  rw [← hset] at hr hk
  have hth : Hid (w.there b (at_ * 4) 4) := by
    intro j hj
    refine ⟨?_, hf _⟩
    match j, hj with
    | 0, _ => rw [Nat.add_zero, c0]; rfl
    | 1, _ => rw [c1]; rfl
    | 2, _ => rw [c2]; rfl
    | 3, _ => rw [c3]; rfl
  obtain ⟨ga, gc, hgv, g1, g2⟩ := h.gone.form
  obtain ⟨W1, hW1⟩ : ∃ W1, W1 = w.setCells b (at_ * 4) [.slice none 0 0, .slice none 0 0, .int .i64 0, .int .i64 0] := ⟨_, rfl⟩
  rw [← hW1] at hr hk
  have hW : Hid (w.setCells b (at_ * 4) [.slice none 0 0, .slice none 0 0, .int .i64 0, .int .i64 0] = W1) := hW1.symm
  have q1 := hr.at1; have f1 := hr.atF 1
  obtain ⟨i0, hi, hz0, hz1, hz2⟩ := info_parts info3
  have hsz : (Try.prog.info? 63).map (·.size) = some 4 := by kernel_rfl
  subst hgv
  have hown : Hid (W1.ownsRow 0 3 1 (.slice ga s.gone.length gc) s.gone.length (nums s.gone)) := hr.gone.1
  have hnew : Hid (∀ j u, ([Value.int .i64 at_] : List Value)[j]? = some u → (W1.alloc (.cells #[.int .i64 at_] 3)).cell? ((⟨W1.heap.size, 0, none⟩ : Addr).add j) = some u) := by
    intro j u hj
    rw [Addr.add_lit, cell_at (alloc_new W1 _), Nat.zero_add, ← hj]
    match j with
    | 0 => rfl
    | j + 1 => simp
  have hone : Hid (∀ u ∈ ([Value.int .i64 at_] : List Value), u.oneCell' = true) := by intro u hu; simp at hu; rw [hu]; rfl
  have HR : Hid (∀ (g cap : Nat) (w1 : World) (ob : Obj), w1.ownsRow 0 3 1 (.slice (some ⟨g, 0, none⟩) (s.gone.length + 1) cap) (s.gone.length + 1) (nums s.gone ++ [.int .i64 at_]) → (W1.alloc ob).grownBy w1 (Value.slice ga s.gone.length gc).ownBlock →
      ((Value.slice ga s.gone.length gc).ownBlock = some g ∨ g = W1.heap.size + 1) → g < w1.heap.size → (w1.cell? ⟨t, 1, none⟩ = some (.slice ga s.gone.length gc) ∧ w1.frozen? ⟨t, 1, none⟩ = false) ∧ ∃ o', Rep o' (w1.setCell ⟨t, 1, none⟩ (.slice (some ⟨g, 0, none⟩) (s.gone.length + 1) cap)) t { s.put at_ nilNode with gone := s.gone ++ [at_] } vn (.slice (some ⟨g, 0, none⟩) (s.gone.length + 1) cap) ∧
        Keeps o o' w (w1.setCell ⟨t, 1, none⟩ (.slice (some ⟨g, 0, none⟩) (s.gone.length + 1) cap))) := by
    intro g cap w1 ob hown1 hgrow hat hlt
    have ha := hr.alloc ob
    obtain ⟨o', hr', kb⟩ := ha.gone.grown ha.lt hown1 hgrow (by rcases hat with e | e; exact .inl e; exact .inr (by rw [e]; simp)) hlt
    obtain ⟨_, q0, _, qf⟩ := ha.treeKB kb (by simp)
    have hrep := RepX.storeGone (gone' := s.gone ++ [at_]) ha kb (by simpa [nums] using hr')
    refine ⟨⟨q0, qf 1⟩, o', hrep, ?_⟩
    exact ((hk.alloc ob).trans (kb.keeps (by simp))).setCell (by rw [hrep.ot]; simp)
  unfold maxLen at h2 g2
  subst hvn
  have hall : Hid ((#[.slice none 0 0, .slice none 0 0, .int .i64 0, .int .i64 0] : Array Value).all (·.oneCell') = true) := all_oneCell_toArray (cs := [.slice none 0 0, .slice none 0 0, .int .i64 0, .int .i64 0]) (by intro v hv; simp at hv; rcases hv with rfl | rfl <;> rfl)
  have hsz' : Hid ((Try.prog.info? 63).map (·.size) = some 4) := hsz
  clear hn h hset hr hk hW1 c0 c1 c2 c3 hf hsz
  generalize s.gone.length = G at *
  go_enter Try.func55, Try.ntmps55
  go_wp2_with (first
    | (refine wpList_store_mid (by rfl) 63 (.tmp 10) (.tmp 9) (by rfl) b (at_ * 4) #[.slice none 0 0, .slice none 0 0, .int .i64 0, .int .i64 0] (by rfl) (by rfl) hth.out hsz'.out hall.out ?_; rw [hW.out])
    | (at_builtin; refine wpList_append_lies _ rfl (.tmp 15) (.tmp 17) 37 rfl 0 3 i0 _ 1 8 Try.underlying37 hi hz0 hz1 hz2 rfl (by decide) (.slice ga G gc) G (nums s.gone) rfl (hown.out.alloc _) ⟨W1.heap.size, 0, none⟩ 1 1 [.int .i64 at_] rfl rfl hnew.out hone.out (by omega) (by unfold maxLen; omega) (by omega) (Nat.zero_le _) (W1.heap.size + 1) (by simp) ?_; intro g cap w1 hown1 hgrow hat hlt; obtain ⟨⟨q0, qf⟩, HF⟩ := HR.out g cap w1 _ hown1 hgrow hat hlt; clear hown1 hgrow hat))
  obtain ⟨o', h1, h2⟩ := HF
  go_end0
  exact ⟨rfl, o', _, _, h1, h2⟩
end
end Go.Proofs.Ytfnhbjokokjhfaa
