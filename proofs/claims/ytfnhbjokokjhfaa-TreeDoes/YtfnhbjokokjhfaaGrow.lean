/- The call grow. -/
import Derived.Test.YtfnhbjokokjhfaaLeafc
namespace Go.Proofs.Ytfnhbjokokjhfaa
open Go.ChangeShapes Go.WideShapes Go.ChangeAt Go.RowKit
section
variable {o : Own} {w : World} {t : Nat} {s : St} {vn vg : Value}
/-- Ahead of the split: a new top over the old one. -/
theorem RepX.newTop (h : Rep o w t s vn vg) {r b m cap : Nat} (hr : s.ns[r]? = some nilNode) (hvn : vn = .slice (some ⟨b, 0, none⟩) m cap) :
    ∃ o2, Rep o2 (((w.alloc (.cells #[.int .i64 s.top] 3)).setCell ⟨b, r * 4 + 1, none⟩ (.slice (some ⟨w.heap.size, 0, none⟩) 1 1)).setCell ⟨t, 2, none⟩ (.int .i64 r)) t { s.put r { nilNode with vk := .slice (some ⟨w.heap.size, 0, none⟩) 1 1, kids := [s.top] } with top := r } vn vg ∧
      Keeps o o2 w (((w.alloc (.cells #[.int .i64 s.top] 3)).setCell ⟨b, r * 4 + 1, none⟩ (.slice (some ⟨w.heap.size, 0, none⟩) 1 1)).setCell ⟨t, 2, none⟩ (.int .i64 r)) := by
  have h1 := h.alloc (.cells #[.int .i64 s.top] 3)
  have hown : (w.alloc (.cells #[.int .i64 s.top] 3)).ownsRow w.heap.size 3 1 (.slice (some ⟨w.heap.size, 0, none⟩) 1 1) 1 (nums [s.top]) :=
    ⟨rfl, .inr ⟨w.heap.size, 1, _, rfl, Nat.le_refl _, alloc_new w _, Nat.le_refl _, by simp [maxLen], rfl, rfl⟩⟩
  obtain ⟨o2, r2, x2, hold⟩ := adopt h1 hown (fun k hk => h.free_new hk) (.kids r)
  have x3 := x2.storeK (l := [s.top]) (.inr rfl) hr hvn r2
  have x4 := x3.storeTop r
  have k1 : Keeps o o w (w.alloc (.cells #[.int .i64 s.top] 3)) := (Keeps.refl o w).alloc _
  have k2 : Keeps o o2 w (w.alloc (.cells #[.int .i64 s.top] 3)) := ⟨k1.os, k1.tape, k1.output, k1.size, k1.block, fun k hk hf => by rw [hold k hk]; exact hf⟩
  exact ⟨o2, x4, (k2.setCell (x2.ob hvn)).setCell (by rw [x2.ot]; simp)⟩

/-- What fresh makes of a tree. -/
def FreshTo (s : St) (r : Nat) (s1 : St) : Prop := ((s.gone = s1.gone ++ [r] ∧ s1.ns = s.ns) ∨ (s.gone = [] ∧ s1.gone = [] ∧ r = s.ns.length ∧ s1.ns = s.ns ++ [nilNode])) ∧ s1.top = s.top
/-- The new top ahead of the split. -/
def topOver (s1 : St) (r top : Nat) (v : Value) : St := { s1.put r ⟨.slice none 0 0, v, [], [top], 0, 0⟩ with top := r }
/-- What grow makes of a tree. -/
def GrowTo (s : St) (nt : Node) (s' : St) : Prop := ∃ r s1 v r2 s3 u, FreshTo s r s1 ∧ SplitTo (topOver s1 r s.top v) r 0 s.top ⟨.slice none 0 0, v, [], [s.top], 0, 0⟩ nt r2 s3 ∧ s3.ns[r]? = some ⟨.slice none 0 0, u, [], [s.top, r2], 0, 0⟩ ∧
  s' = s3.put r ⟨.slice none 0 0, u, [], [s.top, r2], s3.cnt s.top + s3.cnt r2, s3.byt s.top + s3.byt r2⟩
theorem sizes_app (l m : List ByteArray) : sizes (l ++ m) = sizes l + sizes m := by simp [sizes]
theorem SplitTo.sums {s s' : St} {at_ k left r : Nat} {na nl : Node} (h : SplitTo s at_ k left na nl r s') : s'.cnt left + s'.cnt r = nl.lines.length + (nl.kids.map s.cnt).sum ∧ s'.byt left + s'.byt r = sizes nl.lines + (nl.kids.map s.byt).sum := by
  obtain ⟨v, u, hL, _⟩ := h.L
  obtain ⟨v', u', hR, _⟩ := h.R
  have e1 : ∀ (f : Nat → Nat) (j : Nat), (nl.kids.map f).sum = ((nl.kids.take j).map f).sum + ((nl.kids.drop j).map f).sum := fun f j => by
    rw [← List.sum_append, ← List.map_append, List.take_append_drop]
  have e2 : sizes nl.lines = sizes (nl.lines.take (nl.lines.length / 2)) + sizes (nl.lines.drop (nl.lines.length / 2)) := by rw [← sizes_app, List.take_append_drop]
  constructor
  · simp only [St.cnt, hL, hR, Option.map_some, Option.getD_some]
    rw [e1 _ (nl.kids.length / 2)]
    have := List.length_take (i := nl.lines.length / 2) (l := nl.lines)
    have := List.length_drop (i := nl.lines.length / 2) (l := nl.lines)
    omega
  · simp only [St.byt, hL, hR, Option.map_some, Option.getD_some]
    rw [e1 _ (nl.kids.length / 2), e2]
    omega
set_option maxHeartbeats 2000000 in
theorem grow_any (h : Rep o w t s vn vg) (hlen : s.ns.length < 90000000) {nt : Node} (hn : s.ns[s.top]? = some nt)
    (hg : ∀ r ∈ s.gone, s.ns[r]? = some nilNode ∧ r ≠ s.top ∧ r ∉ nt.kids) (hnd : s.gone.Nodup)
    (hc1 : nt.kids = [] → nt.vk = .slice none 0 0) (hc2 : nt.lines = [] → nt.vl = .slice none 0 0) (hks : ∀ c ∈ nt.kids, c < s.ns.length ∧ c ≠ s.top)
    (hb1 : nt.lines.length + (nt.kids.map s.cnt).sum < 2 ^ 62) (hb2 : sizes nt.lines + (nt.kids.map s.byt).sum < 2 ^ 62) (hb3 : nt.lines.length < 100000000 ∧ nt.kids.length < 100000000) :
    Calls Try.prog 48 #[.pointer (some ⟨t, 0, none⟩)] w fun e w' => e = .returned (.tuple #[]) ∧ ∃ s', GrowTo s nt s' ∧ Did o w t s' w' := by
  have htl := (List.getElem?_eq_some_iff.1 hn).1
  go_enter Try.func48, Try.ntmps48
  go_wp2_with fail
  refine (fresh_any h (by omega)).mono ?_
  rintro e w1 ⟨r, s1, rfl, ⟨o1, vn1, vg1, h1, K1⟩, hfr, htop1⟩
  have hold : ∀ (j : Nat) n, s.ns[j]? = some n → s1.ns[j]? = some n := by
    intro j n hj
    rcases hfr with ⟨_, e2⟩ | ⟨_, _, _, e2⟩
    · rw [e2]; exact hj
    · rw [e2, List.getElem?_append_left (List.getElem?_eq_some_iff.1 hj).1]; exact hj
  have hr1 : s1.ns[r]? = some nilNode ∧ r ≠ s.top ∧ r ∉ nt.kids := by
    rcases hfr with ⟨e1, e2⟩ | ⟨e1, _, rfl, e2⟩
    · have := hg r (by rw [e1]; simp); rw [e2]; exact this
    · exact ⟨by rw [e2]; simp, by omega, fun hm => by have := (hks _ hm).1; omega⟩
  obtain ⟨hr1, hrt, hrk⟩ := hr1
  have lR : r < s1.ns.length := (List.getElem?_eq_some_iff.1 hr1).1
  have hlen1 : s1.ns.length < 95000000 := by
    rcases hfr with ⟨_, e2⟩ | ⟨_, _, _, e2⟩
    · rw [e2]; omega
    · rw [e2]; simp; omega
  obtain ⟨b, cap, hvn, hob, n1, n2, hcc⟩ := h1.nodeCells (by omega)
  clear hcc
  obtain ⟨a0, c0, c1, c2, c3, cf⟩ := h1.cellsAt hr1 hvn
  have a2 := h1.at2
  have f2 := h1.atF 2
  obtain ⟨o2, h2, K2⟩ := (h1.drew).newTop hr1 hvn
  have S2 : Hid (∀ W : World, W.heap = (((w1.alloc (.cells #[.int .i64 s1.top] 3)).setCell ⟨b, r * 4 + 1, none⟩ (.slice (some ⟨w1.heap.size, 0, none⟩) 1 1)).setCell ⟨t, 2, none⟩ (.int .i64 r)).heap → W.os = w1.os → W.tape = w1.tape → W.output = w1.output →
      Calls Try.prog 54 #[.pointer (some ⟨t, 0, none⟩), .int .i64 r, .int .i64 0] W fun e w' => e = .returned (.tuple #[]) ∧ ∃ r2 s3, SplitTo (topOver s1 r s.top (.slice (some ⟨w1.heap.size, 0, none⟩) 1 1)) r 0 s.top ⟨.slice none 0 0, .slice (some ⟨w1.heap.size, 0, none⟩) 1 1, [], [s.top], 0, 0⟩ nt r2 s3 ∧ Did o w t s3 w') := by
    intro W e1 e2 e3 e4
    have hrep : Rep o2 W t (topOver s1 r s.top (.slice (some ⟨w1.heap.size, 0, none⟩) 1 1)) vn1 vg1 := by rw [← htop1]; exact h2.heap e1
    have hkp : Keeps o o2 w W := by
      have := (K1.drew).trans K2
      exact ⟨e2.trans (by have := K1.os; exact this), e3.trans K1.tape, e4.trans K1.output, by rw [e1]; exact this.size, fun j hj hf => by rw [e1]; exact this.block j hj hf, this.own⟩
    have lk : ∀ j, j ≠ r → (topOver s1 r s.top (.slice (some ⟨w1.heap.size, 0, none⟩) 1 1)).ns[j]? = s1.ns[j]? := fun j hj => put_ne _ hj
    have hcn : nt.kids.map (topOver s1 r s.top (.slice (some ⟨w1.heap.size, 0, none⟩) 1 1)).cnt = nt.kids.map s.cnt := List.map_congr_left fun c hc => by
      have := hold c _ (List.getElem?_eq_getElem (hks c hc).1)
      simp only [St.cnt, lk c (fun e => hrk (by rw [← e]; exact hc)), this, List.getElem?_eq_getElem (hks c hc).1]
    have hby : nt.kids.map (topOver s1 r s.top (.slice (some ⟨w1.heap.size, 0, none⟩) 1 1)).byt = nt.kids.map s.byt := List.map_congr_left fun c hc => by
      have := hold c _ (List.getElem?_eq_getElem (hks c hc).1)
      simp only [St.byt, lk c (fun e => hrk (by rw [← e]; exact hc)), this, List.getElem?_eq_getElem (hks c hc).1]
    have hlenT : (topOver s1 r s.top (.slice (some ⟨w1.heap.size, 0, none⟩) 1 1)).ns.length = s1.ns.length := put_len _ _ _
    have hsp := split_any hrep (by rw [hlenT]; omega) (at_ := r) (k := 0) (left := s.top) (na := ⟨.slice none 0 0, .slice (some ⟨w1.heap.size, 0, none⟩) 1 1, [], [s.top], 0, 0⟩) (nl := nt) (put_same _ lR) rfl
      (by rw [lk _ (Ne.symm hrt)]; exact hold _ _ hn) (Ne.symm hrt)
      (by
        intro r' g0 hg0
        have hg1 : s1.gone = g0 ++ [r'] := hg0
        rcases hfr with ⟨e1', _⟩ | ⟨_, e2', _, _⟩
        · have hm : r' ∈ s.gone := by rw [e1', hg1]; simp
          have hne : r' ≠ r := by
            intro e
            rw [e1', hg1, e] at hnd
            have := List.nodup_append.1 hnd
            exact absurd rfl (this.2.2 r (by simp) r (by simp))
          obtain ⟨q1, q2, q3⟩ := hg r' hm
          exact ⟨by rw [lk _ hne]; exact hold _ _ q1, hne, q2, q3⟩
        · rw [e2'] at hg1; simp at hg1)
      hc1 hc2 (fun c hc => ⟨by rw [hlenT]; exact (List.getElem?_eq_some_iff.1 (hold c _ (List.getElem?_eq_getElem (hks c hc).1))).1, (hks c hc).2, fun e => hrk (by rw [← e]; exact hc)⟩)
      (by rw [hcn]; omega) (by rw [hby]; omega) ⟨hb3.1, hb3.2, by simp⟩
    refine Calls.mono (show Calls Try.prog 54 #[.pointer (some ⟨t, 0, none⟩), .int .i64 r, .int .i64 0] W _ from hsp) ?_
    rintro e w' ⟨rfl, r2, s3, q1, o3, vn3, vg3, q2, q3⟩
    exact ⟨rfl, r2, s3, q1, o3, vn3, vg3, q2, hkp.trans q3⟩
  have HF : Hid (FreshTo s r s1) := ⟨hfr, htop1⟩
  have S3 : Hid (∀ r2 s3 w3, SplitTo (topOver s1 r s.top (.slice (some ⟨w1.heap.size, 0, none⟩) 1 1)) r 0 s.top ⟨.slice none 0 0, .slice (some ⟨w1.heap.size, 0, none⟩) 1 1, [], [s.top], 0, 0⟩ nt r2 s3 → Did o w t s3 w3 →
      Calls Try.prog 53 #[.pointer (some ⟨t, 0, none⟩), .int .i64 r] w3 fun e w' => e = .returned (.tuple #[]) ∧ ∃ s', GrowTo s nt s' ∧ Did o w t s' w') := by
    rintro r2 s3 w3 hS ⟨o3, vn3, vg3, q1, q2⟩
    obtain ⟨u, hA⟩ := hS.A
    have hA' : s3.ns[r]? = some ⟨.slice none 0 0, u, [], [s.top, r2], 0, 0⟩ := hA
    obtain ⟨m1, m2⟩ := hS.sums
    obtain ⟨_, _, hL, _⟩ := hS.L
    obtain ⟨_, _, hR, _⟩ := hS.R
    have hlk : ∀ c ∈ nt.kids, s1.ns[c]? = s.ns[c]? := fun c hc => by rw [hold c _ (List.getElem?_eq_getElem (hks c hc).1), List.getElem?_eq_getElem (hks c hc).1]
    have lk : ∀ c ∈ nt.kids, (topOver s1 r s.top (.slice (some ⟨w1.heap.size, 0, none⟩) 1 1)).ns[c]? = s.ns[c]? := fun c hc => by
      rw [← hlk c hc]; exact put_ne _ (fun e => hrk (by rw [← e]; exact hc))
    have c1 : nt.kids.map (topOver s1 r s.top (.slice (some ⟨w1.heap.size, 0, none⟩) 1 1)).cnt = nt.kids.map s.cnt := List.map_congr_left fun c hc => by simp only [St.cnt, lk c hc]
    have c2 : nt.kids.map (topOver s1 r s.top (.slice (some ⟨w1.heap.size, 0, none⟩) 1 1)).byt = nt.kids.map s.byt := List.map_congr_left fun c hc => by simp only [St.byt, lk c hc]
    rw [c1] at m1; rw [c2] at m2
    have hr2 : r2 ≠ r := by
      rcases hS.fresh with ⟨e1', _⟩ | ⟨e1', _, e2'⟩
      · have hg1 : s1.gone = s3.gone ++ [r2] := e1'
        rcases hfr with ⟨e3, _⟩ | ⟨_, e3, _⟩
        · intro e; rw [e3, hg1, e] at hnd
          have := List.nodup_append.1 hnd
          exact absurd rfl (this.2.2 r (by simp) r (by simp))
        · rw [e3] at hg1; simp at hg1
      · have : (topOver s1 r s.top (.slice (some ⟨w1.heap.size, 0, none⟩) 1 1)).ns.length = s1.ns.length := put_len _ _ _
        omega
    have hw := weigh_any q1 hA' (by
      intro c hc
      simp at hc
      rcases hc with rfl | rfl
      · exact ⟨(List.getElem?_eq_some_iff.1 hL).1, Ne.symm hrt⟩
      · exact ⟨(List.getElem?_eq_some_iff.1 hR).1, hr2⟩) (by simp; omega) (by show sizes [] + _ < _; rw [show sizes [] = 0 from rfl]; simp; omega)
    refine hw.mono ?_
    rintro e w' ⟨rfl, q3, q4⟩
    refine ⟨rfl, _, ⟨r, s1, _, r2, s3, u, ⟨hfr, htop1⟩, hS, hA', rfl⟩, o3, vn3, vg3, ?_, q2.trans q4⟩
    simpa [sizes] using q3
  rw [hvn] at a0
  unfold maxLen at n2
  have c1' : w1.cell? ⟨b, r * 4 + 1, none⟩ = some (.slice none 0 0) := c1
  have htb : ¬ (b = t) := fun e => by rw [e, h1.ot] at hob; cases hob
  have hbl : b < w1.heap.size := h1.lt b (by rw [hob]; simp)
  have htl1 : t < w1.heap.size := h1.tlt
  clear h h1 h2 K1 K2 hfr hold hg hnd hc1 hc2 hks hn hr1 hrk hvn c0 c1 c2 c3 htop1
  go_wp2_with fail
  go_region
  all_goals go_wp2_with fail
  all_goals
    refine (S2.out _ (by rw [World.setCell_alloc_past _ _ _ _ hbl, World.setCell_alloc_past _ _ _ _ (by rw [size_setCell]; exact htl1)]; rfl) (by rfl) (by rfl) (by rfl)).mono ?_
    rintro e w3 ⟨rfl, r2, s3, HS, HD3⟩
    go_wp2_with fail
    refine (S3.out r2 s3 w3 HS HD3).mono ?_
    rintro e w4 ⟨rfl, HF4⟩
    go_wp2_with fail
    go_end0
    exact ⟨rfl, HF4⟩
end
end Go.Proofs.Ytfnhbjokokjhfaa
