/- Texts that the proof of the law stands on: Txt3, Bld, Bld2, Bld3, Prn1, Prn2, Prn3, Prn4, Kn0, Inr5, Inr6, Inrx. -/
import Derived.Test.YtpahpnajeliodaaGreatDoorPartG
import Derived.Lib.Builder
import Derived.Lib.AppendStr
import Derived.Lib.UnsafeStr
import Derived.Test.YtpahpnajeliodaaGreatDoorPartF
/- Texts of sets and leaves. -/
namespace Go.Proofs.YtpahpnajeliodaaGreatDoor
open Go.ChangeShapes Go.WideShapes Go.ChangeAt Go.RowKit
set_option linter.unusedVariables false
set_option linter.unusedSimpArgs false
section
variable {w w1 : World}
theorem hexT_len (u width : Nat) (h : width ≤ 16) : (hexT u width).length ≤ 33 := by
  have := hexS_len u
  unfold hexT
  rw [List.length_append, Lib.repeatL_length]
  simp; omega
set_option maxHeartbeats 4000000 in
set_option maxRecDepth 100000 in
theorem setText_any (q : S4) (hq : q.ok) (g : Gl w) : Calls Tryz.prog 38 #[.agg #[.int .u64 q.a, .int .u64 q.b, .int .u64 q.c, .int .u64 q.d]] w fun e w' => e = .returned (str (setT q)) ∧ Kp w w' := by
  have HG : Hid (Gl w ∧ q.ok) := ⟨g, hq⟩
  unfold setT
  obtain ⟨a1, ha1⟩ : ∃ a, [115] ++ hexT q.a 16 = a := ⟨_, rfl⟩
  obtain ⟨a2, ha2⟩ : ∃ a, a1 ++ hexT q.b 16 = a := ⟨_, rfl⟩
  obtain ⟨a3, ha3⟩ : ∃ a, a2 ++ hexT q.c 16 = a := ⟨_, rfl⟩
  obtain ⟨a4, ha4⟩ : ∃ a, a3 ++ hexT q.d 16 = a := ⟨_, rfl⟩
  rw [ha1, ha2, ha3, ha4]
  have l1 := hexT_len q.a 16 (by omega)
  have l2 := hexT_len q.b 16 (by omega)
  have l3 := hexT_len q.c 16 (by omega)
  have l4 := hexT_len q.d 16 (by omega)
  have e1 : a1.length ≤ 40 := by rw [← ha1, List.length_append]; simp; omega
  have e2 : a2.length ≤ 80 := by rw [← ha2, List.length_append]; omega
  have e3 : a3.length ≤ 120 := by rw [← ha3, List.length_append]; omega
  have e4 : a4.length ≤ 160 := by rw [← ha4, List.length_append]; omega
  have hA1 := cat_run ha1 (by omega)
  have hA2 := cat_run ha2 (by omega)
  have hA3 := cat_run ha3 (by omega)
  have hA4 := cat_run ha4 (by omega)
  have hI0 : ∀ W, (Instr.index 70 (.agg #[.int .u64 q.a, .int .u64 q.b, .int .u64 q.c, .int .u64 q.d]) (.int .i64 0)).run Tryz.prog W = .ok (.int .u64 q.a) W := fun W => by kernel_rfl
  have hI1 : ∀ W, (Instr.index 70 (.agg #[.int .u64 q.a, .int .u64 q.b, .int .u64 q.c, .int .u64 q.d]) (.int .i64 1)).run Tryz.prog W = .ok (.int .u64 q.b) W := fun W => by kernel_rfl
  have hI2 : ∀ W, (Instr.index 70 (.agg #[.int .u64 q.a, .int .u64 q.b, .int .u64 q.c, .int .u64 q.d]) (.int .i64 2)).run Tryz.prog W = .ok (.int .u64 q.c) W := fun W => by kernel_rfl
  have hI3 : ∀ W, (Instr.index 70 (.agg #[.int .u64 q.a, .int .u64 q.b, .int .u64 q.c, .int .u64 q.d]) (.int .i64 3)).run Tryz.prog W = .ok (.int .u64 q.d) W := fun W => by kernel_rfl
  clear g hq ha1 ha2 ha3 ha4 l1 l2 l3 l4 e1 e2 e3 e4
  go_enter Tryz.func38, Tryz.ntmps38
  go_wp2_with fail
  go_loopw [3, 7] (fun v3 v7 wr => Kp w wr ∧ ((v7 = .int .i64 0 ∧ v3 = str [115]) ∨ (v7 = .int .i64 1 ∧ v3 = str a1) ∨ (v7 = .int .i64 2 ∧ v3 = str a2) ∨ (v7 = .int .i64 3 ∧ v3 = str a3) ∨ (v7 = .int .i64 4 ∧ v3 = str a4))) (fun _ v7 _ => 4 - (intOf v7).toNat)
  case atStart => exact ⟨kp_alloc _ _, .inl ⟨rfl, rfl⟩⟩
  case round =>
    obtain ⟨hK, hrel⟩ := hrel
    have HK : Hid (Kp w wr) := hK
    clear hK
    rcases hrel with ⟨rfl, rfl⟩ | ⟨rfl, rfl⟩ | ⟨rfl, rfl⟩ | ⟨rfl, rfl⟩ | ⟨rfl, rfl⟩
    · go_wp2_with fail
      refine Calls.mono (hex_any q.a 16 HG.out.2.1 (by omega) (HG.out.1.kp HK.out)) ?_
      rintro e w2 ⟨rfl, z⟩
      have HK2 : Hid (Kp w w2) := kp_trans HK.out z
      clear z
      go_wp2_with fail
      go_roundw
      case rel => exact ⟨HK2.out, .inr (.inl ⟨rfl, rfl⟩)⟩
      case measure => simp [intOf]
    · go_wp2_with fail
      refine Calls.mono (hex_any q.b 16 HG.out.2.2.1 (by omega) (HG.out.1.kp HK.out)) ?_
      rintro e w2 ⟨rfl, z⟩
      have HK2 : Hid (Kp w w2) := kp_trans HK.out z
      clear z
      go_wp2_with fail
      go_roundw
      case rel => exact ⟨HK2.out, .inr (.inr (.inl ⟨rfl, rfl⟩))⟩
      case measure => simp [intOf]
    · go_wp2_with fail
      refine Calls.mono (hex_any q.c 16 HG.out.2.2.2.1 (by omega) (HG.out.1.kp HK.out)) ?_
      rintro e w2 ⟨rfl, z⟩
      have HK2 : Hid (Kp w w2) := kp_trans HK.out z
      clear z
      go_wp2_with fail
      go_roundw
      case rel => exact ⟨HK2.out, .inr (.inr (.inr (.inl ⟨rfl, rfl⟩)))⟩
      case measure => simp [intOf]
    · go_wp2_with fail
      refine Calls.mono (hex_any q.d 16 HG.out.2.2.2.2 (by omega) (HG.out.1.kp HK.out)) ?_
      rintro e w2 ⟨rfl, z⟩
      have HK2 : Hid (Kp w w2) := kp_trans HK.out z
      clear z
      go_wp2_with fail
      go_roundw
      case rel => exact ⟨HK2.out, .inr (.inr (.inr (.inr (⟨rfl, rfl⟩))))⟩
      case measure => simp [intOf]
    · go_wp2_with fail
      go_ret
      exact ⟨rfl, HK.out⟩
set_option maxHeartbeats 4000000 in
set_option maxRecDepth 100000 in
theorem leafText_any (d : Nq) (kv : Value) (h1 : Sm d.n) (hq : d.set.ok) (hc : d.c < 256) (g : Gl w) : Calls Tryz.prog 28 #[d.val kv] w fun e w' => e = .returned (str (leafT d)) ∧ Kp w w' := by
  have HG : Hid (Gl w ∧ Sm d.n ∧ d.set.ok) := ⟨g, h1, hq⟩
  have k0 : ∀ ob, Kp w (w.alloc ob) := fun ob => kp_alloc w ob
  obtain ⟨ab, hab⟩ : ∃ a, [98] ++ hexT d.c 2 = a := ⟨_, rfl⟩
  obtain ⟨an, han⟩ : ∃ a, [92] ++ Lib.itoa d.n = a := ⟨_, rfl⟩
  have hAb := cat_run hab (by rw [← hab, List.length_append]; have := hexT_len d.c 2 (by omega); simp; omega)
  have hAn := cat_run han (by rw [← han, List.length_append]; have := itoa_len h1; simp; omega)
  obtain ⟨T, hT⟩ : ∃ T, leafT d = T := ⟨_, rfl⟩
  rw [hT]
  unfold leafT at hT
  rw [hab, han] at hT
  obtain ⟨op, hop⟩ : ∃ op, d.op = op := ⟨_, rfl⟩
  unfold Nq.val
  rw [hop] at hT ⊢
  have HT : Hid _ := hT
  have HK : Hid (∀ ob, Kp w (w.alloc ob)) := k0
  clear g h1 hq hab han hT hop k0
  by_cases h2 : op = 2
  · subst h2
    have hT := HT.out
    simp at hT
    subst hT
    go_enter Tryz.func28, Tryz.ntmps28
    go_wp2_with fail
    refine Calls.mono (hex_any d.c 2 (by omega) (by omega) (HG.out.1.kp (HK.out _))) ?_
    rintro e w2 ⟨rfl, z⟩
    have HK2 : Hid (Kp w w2) := kp_trans (HK.out _) z
    clear z
    go_wp2_with fail
    go_ret
    exact ⟨rfl, HK2.out⟩
  have d2 : ((op : Int) == 2) = false := by simp; omega
  by_cases h3 : op = 3
  · subst h3
    have hT := HT.out
    simp at hT
    subst hT
    go_enter Tryz.func28, Tryz.ntmps28
    go_wp2_with fail
    go_ret
    exact ⟨rfl, HK.out _⟩
  have d3 : ((op : Int) == 3) = false := by simp; omega
  by_cases h4 : op = 4
  · subst h4
    have hT := HT.out
    simp at hT
    subst hT
    go_enter Tryz.func28, Tryz.ntmps28
    go_wp2_with fail
    refine Calls.mono (setText_any d.set HG.out.2.2 (HG.out.1.kp (HK.out _))) ?_
    rintro e w2 ⟨rfl, z⟩
    have HK2 : Hid (Kp w w2) := kp_trans (HK.out _) z
    clear z
    go_wp2_with fail
    go_ret
    exact ⟨rfl, HK2.out⟩
  have d4 : ((op : Int) == 4) = false := by simp; omega
  by_cases h9 : op = 9
  · subst h9
    have hT := HT.out
    simp at hT
    subst hT
    go_enter Tryz.func28, Tryz.ntmps28
    go_wp2_with fail
    refine Calls.mono (itoa_any d.n HG.out.2.1.1 HG.out.2.1.2 (HG.out.1.kp (HK.out _))) ?_
    rintro e w2 ⟨rfl, z⟩
    have HK2 : Hid (Kp w w2) := kp_trans (HK.out _) z
    clear z
    go_wp2_with fail
    go_ret
    exact ⟨rfl, HK2.out⟩
  have d9 : ((op : Int) == 9) = false := by simp; omega
  by_cases h10 : op = 10
  · subst h10
    have hT := HT.out
    simp at hT
    subst hT
    go_enter Tryz.func28, Tryz.ntmps28
    go_wp2_with fail
    go_ret
    exact ⟨rfl, HK.out _⟩
  have d10 : ((op : Int) == 10) = false := by simp; omega
  by_cases h11 : op = 11
  · subst h11
    have hT := HT.out
    simp at hT
    subst hT
    go_enter Tryz.func28, Tryz.ntmps28
    go_wp2_with fail
    go_ret
    exact ⟨rfl, HK.out _⟩
  have d11 : ((op : Int) == 11) = false := by simp; omega
  by_cases h12 : op = 12
  · subst h12
    have hT := HT.out
    simp at hT
    subst hT
    go_enter Tryz.func28, Tryz.ntmps28
    go_wp2_with fail
    go_ret
    exact ⟨rfl, HK.out _⟩
  have d12 : ((op : Int) == 12) = false := by simp; omega
  by_cases h13 : op = 13
  · subst h13
    have hT := HT.out
    simp at hT
    subst hT
    go_enter Tryz.func28, Tryz.ntmps28
    go_wp2_with fail
    go_ret
    exact ⟨rfl, HK.out _⟩
  have d13 : ((op : Int) == 13) = false := by simp; omega
  by_cases h14 : op = 14
  · subst h14
    have hT := HT.out
    simp at hT
    subst hT
    go_enter Tryz.func28, Tryz.ntmps28
    go_wp2_with fail
    go_ret
    exact ⟨rfl, HK.out _⟩
  have d14 : ((op : Int) == 14) = false := by simp; omega
  by_cases h15 : op = 15
  · subst h15
    have hT := HT.out
    simp at hT
    subst hT
    go_enter Tryz.func28, Tryz.ntmps28
    go_wp2_with fail
    go_ret
    exact ⟨rfl, HK.out _⟩
  have d15 : ((op : Int) == 15) = false := by simp; omega
  have hT := HT.out
  simp [h2, h3, h4, h9, h10, h11, h12, h13, h14, h15] at hT
  subst hT
  go_enter Tryz.func28, Tryz.ntmps28
  go_wp2_with fail
  go_ret
  exact ⟨rfl, HK.out _⟩
end
end Go.Proofs.YtpahpnajeliodaaGreatDoor
/- The printer in memory, and its builder. -/
namespace Go.Proofs.YtpahpnajeliodaaGreatDoor
open Go.ChangeShapes Go.WideShapes Go.ChangeAt Go.RowKit
set_option linter.unusedVariables false
set_option linter.unusedSimpArgs false
/-- A printer: the pattern, its builder's two cells, what waits. -/
def Pr (pb : Nat) (v : Value) (root G : Int) (cs : Nat) (p bv wv : Value) (w : World) : Prop := w.heap[pb]? = some (.cells #[v, .int .i64 root, .int .i64 G, .int .u8 cs, p, bv, wv] 42 (0, 0))
section
variable {pb : Nat} {v p bv wv : Value} {root G : Int} {cs : Nat} {w w1 : World}
theorem Pr.cells (h : Pr pb v root G cs p bv wv w) : w.cell? ⟨pb, 0, none⟩ = some v ∧ w.cell? ⟨pb, 1, none⟩ = some (.int .i64 root) ∧ w.cell? ⟨pb, 2, none⟩ = some (.int .i64 G) ∧ w.cell? ⟨pb, 3, none⟩ = some (.int .u8 cs) ∧ w.cell? ⟨pb, 4, none⟩ = some p ∧ w.cell? ⟨pb, 5, none⟩ = some bv ∧ w.cell? ⟨pb, 6, none⟩ = some wv := by
  unfold Pr at h
  refine ⟨?_, ?_, ?_, ?_, ?_, ?_, ?_⟩ <;> simp [World.cell?, h]
theorem Pr.fz (h : Pr pb v root G cs p bv wv w) (j : Nat) : w.frozen? ⟨pb, j, none⟩ = false := by unfold Pr at h; simp [World.frozen?, h]
theorem Pr.lt (h : Pr pb v root G cs p bv wv w) : pb < w.heap.size := (Array.getElem?_eq_some_iff.1 h).1
theorem Pr.heap (h : Pr pb v root G cs p bv wv w) (e : w1.heap[pb]? = w.heap[pb]?) : Pr pb v root G cs p bv wv w1 := by unfold Pr at *; rw [e]; exact h
theorem Pr.set4 (h : Pr pb v root G cs p bv wv w) (x : Value) : Pr pb v root G cs x bv wv (w.setCell ⟨pb, 4, none⟩ x) := by unfold Pr at *; rw [heap_setCell h]; simp
theorem Pr.set5 (h : Pr pb v root G cs p bv wv w) (x : Value) : Pr pb v root G cs p x wv (w.setCell ⟨pb, 5, none⟩ x) := by unfold Pr at *; rw [heap_setCell h]; simp
theorem Pr.set6 (h : Pr pb v root G cs p bv wv w) (x : Value) : Pr pb v root G cs p bv x (w.setCell ⟨pb, 6, none⟩ x) := by unfold Pr at *; rw [heap_setCell h]; simp
theorem Pr.shape (h : Pr pb v root G cs p bv wv w) : w.shape? pb = some (42, 7) := by unfold Pr at h; simp [World.shape?, h]
theorem infoBld : (Tryz.prog.info? 39).map (·.size) = some 2 := by kernel_rfl
theorem liesBld : liesAt Tryz.prog Tryz.prog.depth 42 (7 / Tryz.prog.cellsOf 42) 4 39 1 = true := by kernel_rfl
theorem noEscape_run (x : Value) (W : World) : (callFunc 36 #[x]).run Tryz.prog W = .ok (.value x) W := by
  rw [run_callFunc_extern Tryz.func36 (by kernel_rfl) (by kernel_rfl) (by kernel_rfl) (e := Extern.AbiNoEscape.same) (by kernel_rfl), Lib.run_noEscape]
  rfl
set_option maxHeartbeats 1000000 in
set_option maxRecDepth 100000 in
theorem copyCheck_used (h0 : w.cell? ⟨pb, 4, none⟩ = some (.pointer (some ⟨pb, 4, none⟩))) :
    Calls Tryz.prog 25 #[.pointer (some ⟨pb, 4, none⟩)] w fun e w' => e = .returned (.tuple #[]) ∧ w' = w := by
  obtain ⟨j, hj, _⟩ := Option.map_eq_some_iff.1 infoBld
  have hNe := Lib.run_neq_ptr_same (P := Tryz.prog) w ⟨pb, 4, none⟩ Tryz.underlying37 hj
  clear hj
  go_enter Tryz.func25, Tryz.ntmps25
  go_wp2_with fail
  go_end0
  exact ⟨rfl, rfl⟩
set_option maxHeartbeats 1000000 in
set_option maxRecDepth 100000 in
theorem copyCheck_fresh (h : Pr pb v root G cs (.pointer none) bv wv w) :
    Calls Tryz.prog 25 #[.pointer (some ⟨pb, 4, none⟩)] w fun e w' => e = .returned (.tuple #[]) ∧ w' = w.setCell ⟨pb, 4, none⟩ (.pointer (some ⟨pb, 4, none⟩)) := by
  have h0 := h.cells.2.2.2.2.1
  have hz := h.fz 4
  have hS : w.shape? pb = some (42, 7) := h.shape
  obtain ⟨j, hj, hjs⟩ := Option.map_eq_some_iff.1 infoBld
  have hTo := Lib.run_to_unsafe (P := Tryz.prog) w ⟨pb, 4, none⟩ Tryz.underlying37 Tryz.underlying87 hj (by rw [hjs]; decide) hS (by show 4 < 7; omega)
  have hFr := Lib.run_from_unsafe (P := Tryz.prog) w ⟨pb, 4, none⟩ Tryz.underlying87 Tryz.underlying37 hj hS liesBld
  have hNo := noEscape_run
  clear h hS hj hjs
  go_enter Tryz.func25, Tryz.ntmps25
  go_wp2_with fail
  go_end0
  exact ⟨rfl, rfl⟩
end
end Go.Proofs.YtpahpnajeliodaaGreatDoor
/- The printer's state: what is written, what waits. -/
namespace Go.Proofs.YtpahpnajeliodaaGreatDoor
open Go.ChangeShapes Go.WideShapes Go.ChangeAt Go.RowKit
set_option linter.unusedVariables false
set_option linter.unusedSimpArgs false
/-- What waits: texts, and the node behind each. -/
abbrev Part := List UInt8 × Int
def Part.cells (x : Part) : List Value := [str x.1, .int .i64 x.2]
def flatP (ps : List Part) : List Value := ps.flatMap Part.cells
theorem flatP_snoc (ps : List Part) (x : Part) : flatP (ps ++ [x]) = flatP ps ++ x.cells := by simp [flatP]
theorem flatP_len (ps : List Part) : (flatP ps).length = ps.length * 2 := by
  induction ps with
  | nil => rfl
  | cons x ps ih => simp only [flatP, List.flatMap_cons, List.length_append, List.length_cons] at ih ⊢; rw [ih]; simp [Part.cells]; omega
structure Pw (w0 : World) (pb : Nat) (v : Value) (root G : Int) (cs : Nat) (l : List UInt8) (ps : List Part) (p bv wv : Value) (w : World) : Prop where
  kp : Kp w0 w
  far : w0.heap.size ≤ pb
  pr : Pr pb v root G cs p bv wv w
  ptr : p = .pointer none ∨ p = .pointer (some ⟨pb, 4, none⟩)
  buf : w.ownsRow w0.heap.size 5 1 bv l.length (Lib.byteCells l)
  wt : w.ownsRow w0.heap.size 62 2 wv ps.length (flatP ps)
def Pws (w0 : World) (pb : Nat) (v : Value) (root G : Int) (cs : Nat) (l : List UInt8) (ps : List Part) (w : World) : Prop := ∃ p bv wv, Pw w0 pb v root G cs l ps p bv wv w
theorem infoByte : (Tryz.prog.info? 5).map (fun i => (i.zero, i.size, i.bytes)) = some (some (.int .u8 0), 1, 1) := by kernel_rfl
theorem infoPart : (Tryz.prog.info? 62).map (fun i => (i.zero, i.size, i.bytes)) = some (some (.agg #[.string ⟨#[]⟩, .int .i64 0]), 2, 24) := by kernel_rfl
theorem row_other {w : World} {B n n' s s' : Nat} {e e' : TypeId} {v v' : Value} {xs xs' : List Value} (h : w.ownsRow B e s v n xs) (h' : w.ownsRow B e' s' v' n' xs') (he : e ≠ e') {k : Nat} (hk : v.ownBlock = some k) : v'.ownBlock ≠ some k := fun z => by
  rcases h.2 with ⟨rfl, _⟩ | ⟨g, c, cur, rfl, _, hg, _⟩
  · cases hk
  · rcases h'.2 with ⟨rfl, _⟩ | ⟨g', c', cur', rfl, _, hg', _⟩
    · cases z
    · simp only [Value.ownBlock, Option.some.injEq] at hk z
      rw [hk] at hg
      rw [z, hg] at hg'
      injection hg' with q
      injection q with _ q _
      exact he q
theorem row_struct {w : World} {B n s pb : Nat} {e t : TypeId} {v : Value} {xs : List Value} {a : Array Value} (h : w.ownsRow B e s v n xs) (hp : w.heap[pb]? = some (.cells a t (0, 0))) (he : e ≠ t) : v.ownBlock ≠ some pb := fun z => by
  rcases h.2 with ⟨rfl, _⟩ | ⟨g, c, cur, rfl, _, hg, _⟩
  · cases z
  · simp only [Value.ownBlock, Option.some.injEq] at z
    rw [z, hp] at hg
    injection hg with q
    injection q with _ q _
    exact he q.symm
theorem row_heap {w w1 : World} {B n s : Nat} {e : TypeId} {v : Value} {xs : List Value} (h : w.ownsRow B e s v n xs) (hh : ∀ k, v.ownBlock = some k → w1.heap[k]? = w.heap[k]?) : w1.ownsRow B e s v n xs := by
  refine ⟨h.1, ?_⟩
  rcases h.2 with q | ⟨b, c, cur, rfl, hb, hg, rest⟩
  · exact .inl q
  · exact .inr ⟨b, c, cur, rfl, hb, by rw [hh b rfl]; exact hg, rest⟩
/-- What lies in blocks of that type stays as it is. -/
def Nk (t : TypeId) (w w' : World) : Prop := ∀ (k : Nat) (a : Array Value), w.heap[k]? = some (.cells a t (0, 0)) → w'.heap[k]? = some (.cells a t (0, 0))
theorem Nk.refl (t : TypeId) (w : World) : Nk t w w := fun _ _ h => h
theorem Nk.trans {t : TypeId} {a b c : World} (h : Nk t a b) (k : Nk t b c) : Nk t a c := fun i x q => k i x (h i x q)
theorem Nk.kp {t : TypeId} {w w1 : World} (k : Kp w w1) : Nk t w w1 := fun i x q => by rw [k.block i (Array.getElem?_eq_some_iff.1 q).1]; exact q
theorem Nk.set {t' : TypeId} {w : World} {pb off : Nat} {t : TypeId} {a : Array Value} {x : Value} (h : w.heap[pb]? = some (.cells a t (0, 0))) (ht : t' ≠ t) : Nk t' w (w.setCell ⟨pb, off, none⟩ x) := fun i y q => by
  rw [heap_setCell_other fun z => ?_]
  · exact q
  · rw [z, h] at q
    injection q with q
    injection q with _ q _
    exact ht q.symm
theorem Nk.grown {t' : TypeId} {w w' : World} {B n s : Nat} {e : TypeId} {v : Value} {xs : List Value} (h : w.ownsRow B e s v n xs) (he : t' ≠ e) (hg : w.grownBy w' v.ownBlock) : Nk t' w w' := fun i y q => by
  rw [hg.block i (Array.getElem?_eq_some_iff.1 q).1 fun z => ?_]
  · exact q
  · exact row_struct h q (fun z => he z.symm) z.symm
section
variable {w0 w w1 : World} {pb : Nat} {v p bv wv : Value} {root G : Int} {cs : Nat} {l s : List UInt8} {ps : List Part}
theorem Pw.bne (h : Pw w0 pb v root G cs l ps p bv wv w) : bv.ownBlock ≠ some pb := row_struct h.buf h.pr (by decide)
theorem Pw.wne (h : Pw w0 pb v root G cs l ps p bv wv w) : wv.ownBlock ≠ some pb := row_struct h.wt h.pr (by decide)
theorem Pw.kp' (h : Pw w0 pb v root G cs l ps p bv wv w) (k : Kp w w1) : Pw w0 pb v root G cs l ps p bv wv w1 :=
  ⟨kp_trans h.kp k, h.far, h.pr.heap (k.block _ h.pr.lt), h.ptr, row_kp h.buf k, row_kp h.wt k⟩
theorem Pws.kp (h : Pws w0 pb v root G cs l ps w) (k : Kp w w1) : Pws w0 pb v root G cs l ps w1 := by obtain ⟨p, bv, wv, h⟩ := h; exact ⟨p, bv, wv, h.kp' k⟩
theorem Pw.copied (h : Pw w0 pb v root G cs l ps p bv wv w) : Calls Tryz.prog 25 #[.pointer (some ⟨pb, 4, none⟩)] w fun e w' => e = .returned (.tuple #[]) ∧ Pw w0 pb v root G cs l ps (.pointer (some ⟨pb, 4, none⟩)) bv wv w' ∧ ∀ t', t' ≠ 42 → Nk t' w w' := by
  rcases h.ptr with rfl | rfl
  · refine (copyCheck_fresh h.pr).mono ?_
    rintro e w' ⟨rfl, rfl⟩
    have f := fr_set pb 4 (.pointer (some ⟨pb, 4, none⟩)) w
    refine ⟨rfl, ⟨kp_new h.kp f h.far, h.far, h.pr.set4 _, .inr rfl, row_heap h.buf fun k hk => ?_, row_heap h.wt fun k hk => ?_⟩, fun t' h1 => Nk.set h.pr h1⟩
    · exact f.block k (h.buf.lt k hk).2 fun q => h.bne (by unfold On at q; rw [← q]; exact hk)
    · exact f.block k (h.wt.lt k hk).2 fun q => h.wne (by unfold On at q; rw [← q]; exact hk)
  · refine (copyCheck_used h.pr.cells.2.2.2.2.1).mono ?_
    rintro e w' ⟨rfl, rfl⟩
    exact ⟨rfl, h, fun t' _ => Nk.refl t' _⟩
set_option maxHeartbeats 2000000 in
set_option maxRecDepth 100000 in
theorem write_any (h : Pws w0 pb v root G cs l ps w) (s : List UInt8) (hlen : l.length + s.length ≤ 1000000000) : Calls Tryz.prog 18 #[.pointer (some ⟨pb, 4, none⟩), str s] w fun e w' => e = .returned (.tuple #[.int .i64 s.length, .nilIface]) ∧ Pws w0 pb v root G cs (l ++ s) ps w' ∧ ∀ t', t' ≠ 42 → t' ≠ 5 → Nk t' w w' := by
  obtain ⟨i0, hi, hz0, hz1, hz2⟩ := info_parts infoByte
  obtain ⟨p, bv, wv, h⟩ := h
  have HC : Hid _ := h.copied
  clear h
  have hsz : (⟨s.toArray⟩ : ByteArray).size = s.length := by rw [Lib.size_eq]
  go_enter Tryz.func18, Tryz.ntmps18
  go_wp2_with fail
  refine Calls.mono HC.out ?_
  rintro e w1 ⟨rfl, h1, hn1⟩
  have HN1 : Hid (∀ t', t' ≠ 42 → Nk t' w w1) := hn1
  clear hn1
  obtain ⟨_, _, _, _, c4, c5, _⟩ := h1.pr.cells
  have HP : Hid _ := h1
  have hown := h1.buf
  have hsize := h1.kp.size
  clear h1 HC
  go_wp2_with (at_builtin; refine Lib.wpList_append_own_string _ rfl _ _ 22 9 rfl w0.heap.size 5 i0 Tryz.underlying22 Tryz.underlying9 hi hz0 hz1 hz2 _ _ _ rfl hown ⟨s.toArray⟩ rfl ?c3 ?c4 ?c5 ?_)
  case c3 => unfold maxLen; rw [hsz]; omega
  case c4 => rw [hsz]; omega
  case c5 => exact hsize
  intro v' w2 hown' hgrow _
  have hPr2 : Pr pb v root G cs (.pointer (some ⟨pb, 4, none⟩)) bv wv w2 := HP.out.pr.heap (hgrow.block pb HP.out.pr.lt (fun e => HP.out.bne e.symm))
  have HX : Hid (Pr pb v root G cs (.pointer (some ⟨pb, 4, none⟩)) bv wv w2 ∧ w2.ownsRow w0.heap.size 5 1 v' (l.length + (⟨s.toArray⟩ : ByteArray).size) (Lib.byteCells l ++ Lib.strCells ⟨s.toArray⟩) ∧ w1.grownBy w2 bv.ownBlock) := ⟨hPr2, hown', hgrow⟩
  obtain ⟨_, _, _, _, d4, d5, _⟩ := hPr2.cells
  have f5 := hPr2.fz 5
  obtain ⟨ao, cap, rfl, _, _⟩ := owns_form hown'
  clear hPr2 hown' hgrow hown
  go_wp2_with fail
  go_ret2
  refine ⟨by simp [hsz], ⟨.pointer (some ⟨pb, 4, none⟩), .slice ao (l.length + (⟨s.toArray⟩ : ByteArray).size) cap, wv, ?_⟩, fun t' h1 h2 => ((HN1.out t' h1).trans (Nk.grown HP.out.buf h2 HX.out.2.2)).trans (Nk.set HX.out.1 h1)⟩
  obtain ⟨q1, q2, q3⟩ := HX.out
  have hP := HP.out
  have hk2 : Kp w0 w2 := ⟨q3.os.trans hP.kp.os, q3.tape.trans hP.kp.tape, q3.output.trans hP.kp.output, Nat.le_trans hP.kp.size q3.size, fun j hj => by
    rw [q3.block j (Nat.lt_of_lt_of_le hj hP.kp.size) fun e => by have := (hP.buf.lt j e.symm).1; omega]; exact hP.kp.block j hj⟩
  have f := fr_set pb 5 (.slice ao (l.length + (⟨s.toArray⟩ : ByteArray).size) cap) w2
  have hwt2 : w2.ownsRow w0.heap.size 62 2 wv ps.length (flatP ps) := row_heap hP.wt fun k hk => q3.block k (hP.wt.lt k hk).2 fun e => row_other hP.wt hP.buf (by decide) hk e.symm
  refine ⟨kp_new hk2 f hP.far, hP.far, q1.set5 _, .inr rfl, ?_, row_heap hwt2 fun k hk => ?_⟩
  · have e1 : (l ++ s).length = l.length + (⟨s.toArray⟩ : ByteArray).size := by rw [hsz, List.length_append]
    have e2 : Lib.byteCells (l ++ s) = Lib.byteCells l ++ Lib.strCells ⟨s.toArray⟩ := by simp [Lib.byteCells, Lib.strCells]
    rw [e1, e2]
    refine row_heap q2 fun k hk => ?_
    exact f.block k (q2.lt k hk).2 fun z => row_struct q2 q1 (by decide) (by unfold On at z; rw [← z]; exact hk)
  · exact f.block k (hwt2.lt k hk).2 fun z => hP.wne (by unfold On at z; rw [← z]; exact hk)
set_option maxHeartbeats 2000000 in
set_option maxRecDepth 100000 in
theorem wait_any (h : Pws w0 pb v root G cs l ps w) (t : List UInt8) (a : Int) (hlen : ps.length ≤ 1000000) : Calls Tryz.prog 15 #[.pointer (some ⟨pb, 0, none⟩), str t, .int .i64 a] w fun e w' => e = .returned (.tuple #[]) ∧ Pws w0 pb v root G cs l (ps ++ [(t, a)]) w' ∧ ∀ t', t' ≠ 42 → t' ≠ 62 → Nk t' w w' := by
  obtain ⟨i0, hi, hz0, hz1, hz2⟩ := info_parts infoPart
  obtain ⟨p, bv, wv, h⟩ := h
  obtain ⟨_, _, _, _, c4, c5, c6⟩ := h.pr.cells
  have HP : Hid _ := h
  clear h
  obtain ⟨k, hk⟩ : ∃ k, ps.length = k := ⟨_, rfl⟩
  have HL : Hid (ps.length = k ∧ k ≤ 1000000) := ⟨hk, by omega⟩
  have hk6 : k ≤ 1000000 := by omega
  have HOW : Hid ((w.alloc (.cells #[str t, .int .i64 a] 62)).ownsRow w0.heap.size 62 2 wv k (flatP ps)) := by have := row_kp HP.out.wt (kp_alloc w (.cells #[str t, .int .i64 a] 62)); rw [hk] at this; exact this
  have HNEW : Hid (∀ j u, ([str t, .int .i64 a] : List Value)[j]? = some u → (w.alloc (.cells #[str t, .int .i64 a] 62)).cell? ((⟨w.heap.size, 0, none⟩ : Addr).add j) = some u) := by
    intro j u hj
    rw [Addr.add_lit, cell_at (alloc_new w _), Nat.zero_add, ← hj]; exact List.getElem?_toArray
  have HONE : Hid (∀ u ∈ ([str t, .int .i64 a] : List Value), u.oneCell' = true) := by
    intro u hu
    simp only [List.mem_cons, List.not_mem_nil, or_false] at hu
    rcases hu with rfl | rfl <;> rfl
  have HBW : Hid (w0.heap.size ≤ (w.alloc (.cells #[str t, .int .i64 a] 62)).heap.size) := by have := HP.out.kp.size; show _ ≤ _; rw [alloc_size]; omega
  have HF : Hid (∀ g cap w', w'.ownsRow w0.heap.size 62 2 (.slice (some ⟨g, 0, none⟩) (k + 1) cap) (k + 1) (flatP ps ++ [str t, .int .i64 a]) → (w.alloc (.cells #[str t, .int .i64 a] 62)).grownBy w' wv.ownBlock → Pr pb v root G cs p bv wv w' ∧ Pws w0 pb v root G cs l (ps ++ [(t, a)]) (w'.setCell ⟨pb, 6, none⟩ (.slice (some ⟨g, 0, none⟩) (k + 1) cap)) ∧ ∀ t', t' ≠ 42 → t' ≠ 62 → Nk t' w (w'.setCell ⟨pb, 6, none⟩ (.slice (some ⟨g, 0, none⟩) (k + 1) cap))) := by
    intro g cap w' ho hg
    have hP := HP.out.kp' (kp_alloc w (.cells #[str t, .int .i64 a] 62))
    have hpr : Pr pb v root G cs p bv wv w' := hP.pr.heap (hg.block pb hP.pr.lt fun e => hP.wne e.symm)
    refine ⟨hpr, ⟨p, bv, .slice (some ⟨g, 0, none⟩) (k + 1) cap, ?_⟩, fun t' h1 h2 => ((Nk.kp (kp_alloc w _)).trans (Nk.grown hP.wt h2 hg)).trans (Nk.set hpr h1)⟩
    have f := fr_set pb 6 (.slice (some ⟨g, 0, none⟩) (k + 1) cap) w'
    have hk2 : Kp w0 w' := ⟨hg.os.trans hP.kp.os, hg.tape.trans hP.kp.tape, hg.output.trans hP.kp.output, Nat.le_trans hP.kp.size hg.size, fun j hj => by
      rw [hg.block j (Nat.lt_of_lt_of_le hj hP.kp.size) fun e => by have := (hP.wt.lt j e.symm).1; omega]; exact hP.kp.block j hj⟩
    have hb2 : w'.ownsRow w0.heap.size 5 1 bv l.length (Lib.byteCells l) := row_heap hP.buf fun k hk => hg.block k (hP.buf.lt k hk).2 fun e => row_other hP.buf hP.wt (by decide) hk e.symm
    refine ⟨kp_new hk2 f hP.far, hP.far, hpr.set6 _, hP.ptr, row_heap hb2 fun k hk => ?_, ?_⟩
    · exact f.block k (hb2.lt k hk).2 fun z => hP.bne (by unfold On at z; rw [← z]; exact hk)
    · rw [flatP_snoc, show (ps ++ [(t, a)]).length = k + 1 by simp [hk]]
      refine row_heap ho fun j hj => ?_
      exact f.block j (ho.lt j hj).2 fun z => row_struct ho hpr (by decide) (by unfold On at z; rw [← z]; exact hj)
  clear hlen hk
  go_enter Tryz.func15, Tryz.ntmps15
  go_wp2_with (at_builtin; refine wpList_append_lies _ rfl (.tmp 10) (.tmp 14) 40 rfl w0.heap.size 62 i0 _ 2 24 Tryz.underlying40 hi hz0 hz1 hz2 rfl (by decide) wv k (flatP ps) rfl HOW.out ⟨w.heap.size, 0, none⟩ 1 1 [str t, .int .i64 a] rfl rfl HNEW.out HONE.out (by omega) (by unfold maxLen; omega) (by omega) HBW.out _ rfl ?_)
  intro g cap w2 hown hgrow _ _
  have HZ : Hid _ := HF.out g cap w2 hown hgrow
  have f6 := HZ.out.1.fz 6
  obtain ⟨_, _, _, _, _, _, d6⟩ := HZ.out.1.cells
  clear hown hgrow
  go_wp2_with fail
  go_end0
  exact ⟨rfl, HZ.out.2⟩
end
end Go.Proofs.YtpahpnajeliodaaGreatDoor
/- The builder's text; the printer's list. -/
namespace Go.Proofs.YtpahpnajeliodaaGreatDoor
open Go.ChangeShapes Go.WideShapes Go.ChangeAt Go.RowKit
set_option linter.unusedVariables false
set_option linter.unusedSimpArgs false
section
variable {w0 w w1 : World} {pb : Nat} {v p bv wv : Value} {root G : Int} {cs : Nat} {l s : List UInt8} {ps : List Part}
set_option maxHeartbeats 2000000 in
set_option maxRecDepth 100000 in
theorem bstring_any (h : Pws w0 pb v root G cs l ps w) (h0 : l ≠ []) : Calls Tryz.prog 20 #[.pointer (some ⟨pb, 4, none⟩)] w fun e w' => e = .returned (str l) ∧ Kp w0 w' := by
  obtain ⟨p, bv, wv, h⟩ := h
  have hl0 : l.length ≠ 0 := by simpa using h0
  have hown := h.buf
  obtain ⟨g, cap, cur, rfl, hbg, hg, hnc, hcm, hcs, htake⟩ : ∃ g cap cur, bv = .slice (some ⟨g, 0, none⟩) l.length cap ∧ w0.heap.size ≤ g ∧ w.heap[g]? = some (.cells cur 5 (0, 0)) ∧ l.length ≤ cap ∧ cap ≤ maxLen ∧ cur.size = cap * 1 ∧ cur.toList.take (l.length * 1) = Lib.byteCells l := by
    rcases hown.2 with ⟨_, hz⟩ | ⟨g, cap, cur, hv, r⟩
    · exact absurd hz hl0
    · exact ⟨g, cap, cur, hv, r⟩
  have c1 : w.drew.cell? ⟨pb, 5, none⟩ = some (.slice (some ⟨g, 0, none⟩) l.length cap) := h.pr.cells.2.2.2.2.2.1
  have c1' : w.cell? ⟨pb, 5, none⟩ = some (.slice (some ⟨g, 0, none⟩) l.length cap) := h.pr.cells.2.2.2.2.2.1
  have hSD : (Builtin.unsafeSliceData_ #[22] 83 #[.slice (some ⟨g, 0, none⟩) l.length cap]).run Tryz.prog w.drew = .ok (.pointer (some ⟨g, 0, none⟩)) w.drew :=
    Lib.run_unsafeSliceData_row _ _ _ _ _ _ (by omega)
  have hUS : (Builtin.unsafeString_ #[83, 3] 9 #[.pointer (some ⟨g, 0, none⟩), .int .i64 l.length]).run Tryz.prog w.drew = .ok (.string ⟨l.toArray⟩) (w.drew.freeze ⟨g, 0, none⟩ l.length) := by
    refine Lib.run_unsafeString_row w.drew 83 3 9 5 Tryz.underlying83 (by kernel_rfl) g cur.size (by have hg' : w.drew.heap[g]? = some (.cells cur 5 (0, 0)) := hg; simp [World.shape?, hg']) l h0 (by omega) (by unfold maxLen at hcm; omega) ?_
    intro j x hx
    exact hown.cells (g := g) rfl j (.int .u8 x.toNat) (by simp [Lib.byteCells, hx])
  have HK : Hid (Kp w0 (w.drew.freeze ⟨g, 0, none⟩ l.length)) := Lib.below_freeze (kp_trans h.kp (kp_drew _)) (p := ⟨g, 0, none⟩) hbg _
  clear h hown hg hbg hnc hcm hcs htake h0
  go_enter Tryz.func20, Tryz.ntmps20
  go_wp2_with fail
  go_region
  all_goals (go_wp2; go_ret; exact ⟨rfl, HK.out⟩)
end
end Go.Proofs.YtpahpnajeliodaaGreatDoor
/- The printer's list. -/
namespace Go.Proofs.YtpahpnajeliodaaGreatDoor
open Go.ChangeShapes Go.WideShapes Go.ChangeAt Go.RowKit
set_option linter.unusedVariables false
set_option linter.unusedSimpArgs false
def tailP (between : List UInt8) (ks : List Int) : List Part := ks.reverse.map fun k => (between, k)
def listP (ahead between behind : List UInt8) (ks : List Int) : List Part := [(behind, -1)] ++ tailP between ks.tail ++ [(ahead, ks.headD 0)]
section
variable {w0 w w1 : World} {pb : Nat} {v kv : Value} {root G : Int} {cs : Nat} {l : List UInt8} {ps : List Part} {ks : List Int}
set_option maxHeartbeats 2000000 in
set_option maxRecDepth 100000 in
theorem list_any (h : Pws w0 pb v root G cs l ps w) (ahead between behind : List UInt8) (hk : Ks w0 kv ks) (h1 : ks ≠ []) (hlen : ps.length + ks.length ≤ 900000) :
    Calls Tryz.prog 26 #[.pointer (some ⟨pb, 0, none⟩), str ahead, str between, str behind, kv] w fun e w' => e = .returned (.tuple #[]) ∧ Pws w0 pb v root G cs l (ps ++ listP ahead between behind ks) w' ∧ ∀ t', t' ≠ 42 → t' ≠ 62 → Nk t' w w' := by
  obtain ⟨ka, kc, rfl, hkl, kcc, _⟩ := id hk
  obtain ⟨N, hN⟩ : ∃ N, ks.length = N := ⟨_, rfl⟩
  have hN1 : 1 ≤ N := by rw [← hN]; exact List.length_pos_iff.2 h1
  rw [hN] at hk hkl hlen ⊢
  have HK : Hid (Ks w0 (.slice ka N kc) ks ∧ ks.length = N ∧ ps.length + N ≤ 900000 ∧ ks ≠ []) := ⟨hk, hN, hlen, h1⟩
  have HP : Hid (Pws w0 pb v root G cs l ps w) := h
  unfold maxLen at kcc
  have hN9 : N ≤ 900000 := by omega
  clear h hk h1 hlen hN
  go_enter Tryz.func26, Tryz.ntmps26
  go_wp2_with fail
  refine Calls.mono (wait_any HP.out behind (-1) (by have := HK.out.2.2.1; omega)) ?_
  rintro e w1 ⟨rfl, q⟩
  have HP1 : Hid _ := q
  clear q
  go_wp2_with fail
  go_loopw [10] (fun v10 wr => ∃ i : Nat, i < N ∧ v10 = .int .i64 i ∧ Pws w0 pb v root G cs l (ps ++ [(behind, -1)] ++ tailP between (ks.drop (i + 1))) wr ∧ ∀ t', t' ≠ 42 → t' ≠ 62 → Nk t' w wr) (fun v10 _ => (intOf v10).toNat)
  case atStart =>
    refine ⟨N - 1, by omega, by congr 1; omega, ?_⟩
    rw [show N - 1 + 1 = N by omega, List.drop_eq_nil_of_le (Nat.le_of_eq HK.out.2.1)]
    simp only [tailP, List.reverse_nil, List.map_nil, List.append_nil]
    exact ⟨HP1.out.1, HP1.out.2⟩
  case round =>
    obtain ⟨i, hi, rfl, hP, hNk⟩ := hrel
    have HP2 : Hid _ := hP
    have HNk : Hid (∀ t', t' ≠ 42 → t' ≠ 62 → Nk t' w wr) := hNk
    clear hNk
    have hkp : Kp w0 wr := by obtain ⟨_, _, _, z⟩ := hP; exact z.kp
    have hL : (ps ++ [(behind, -1)] ++ tailP between (ks.drop (i + 1))).length ≤ 1000000 := by
      have := HK.out
      simp [tailP]; omega
    have HL : Hid ((ps ++ [(behind, -1)] ++ tailP between (ks.drop (i + 1))).length ≤ 1000000) := hL
    obtain ⟨b, o, k, rfl, hk, hc⟩ := (HK.out.1.kp hkp).get hi
    have HKi : Hid (ks[i]? = some k) := hk
    clear hP hkp hL hk
    by_cases h0 : i = 0
    · subst h0
      have hc0 : wr.cell? ⟨b, o, none⟩ = some (.int .i64 k) := hc
      clear hc
      go_wp2_with fail
      refine Calls.mono (wait_any HP2.out ahead k HL.out) ?_
      rintro e w2 ⟨rfl, q⟩
      have HQ : Hid _ := q
      clear q
      go_wp2_with fail
      go_end0
      refine ⟨rfl, ?_⟩
      have e : ps ++ listP ahead between behind ks = ps ++ [(behind, -1)] ++ tailP between (ks.drop (0 + 1)) ++ [(ahead, k)] := by
        have hk := HKi.out
        cases ks with
        | nil => simp at hk
        | cons x r =>
          simp only [List.getElem?_cons_zero, Option.some.injEq] at hk
          subst hk
          simp [listP]
      rw [e]
      exact ⟨HQ.out.1, fun t' h1 h2 => (HNk.out t' h1 h2).trans (HQ.out.2 t' h1 h2)⟩
    · have d0 : decide ((0 : Int) < (i : Int)) = true := decide_eq_true (by omega)
      go_wp2_with fail
      refine Calls.mono (wait_any HP2.out between k HL.out) ?_
      rintro e w2 ⟨rfl, q⟩
      have HQ : Hid _ := q
      clear q
      go_wp2_with fail
      go_roundw
      case rel =>
        refine ⟨i - 1, by omega, by congr 1; omega, ?_⟩
        have hk := HKi.out
        have hil : i < ks.length := by rw [HK.out.2.1]; exact hi
        have e : tailP between (ks.drop (i - 1 + 1)) = tailP between (ks.drop (i + 1)) ++ [(between, k)] := by
          rw [show i - 1 + 1 = i by omega, List.drop_eq_getElem_cons hil]
          rw [List.getElem?_eq_getElem hil, Option.some.injEq] at hk
          simp [tailP, hk]
        rw [e, ← List.append_assoc]
        exact ⟨HQ.out.1, fun t' h1 h2 => (HNk.out t' h1 h2).trans (HQ.out.2 t' h1 h2)⟩
      case measure => simp only [intOf]; omega
end
end Go.Proofs.YtpahpnajeliodaaGreatDoor
/- The printer's node. -/
namespace Go.Proofs.YtpahpnajeliodaaGreatDoor
open Go.ChangeShapes Go.WideShapes Go.ChangeAt Go.RowKit
set_option linter.unusedVariables false
set_option linter.unusedSimpArgs false
def pushP (d : Nq) : List Part :=
  if d.op = 5 then listP [40] [] [41] d.kids else if d.op = 6 then listP [40] [124] [41] d.kids else if d.op = 7 then listP (timesT d) [] [] d.kids else if d.op = 8 then listP ([60] ++ Lib.itoa d.n) [] [62] d.kids else []
def inner (op : Nat) : Bool := op == 5 || op == 6 || op == 7 || op == 8
def sayP (d : Nq) : List UInt8 := if inner d.op then [] else leafT d
/-- Numbers of a node that memory can hold. -/
structure Nok (d : Nq) : Prop where
  c : d.c < 256
  set : d.set.ok
  mn : Sm d.mn
  mx : Sm d.mx
  n : Sm d.n
theorem leafT_len {d : Nq} (h : Nok d) : (leafT d).length ≤ 200 := by
  unfold leafT
  have h1 := hexT_len d.c 2 (by omega)
  have h2 := itoa_len h.n
  have h3 : (setT d.set).length ≤ 140 := by
    have l1 := hexT_len d.set.a 16 (by omega)
    have l2 := hexT_len d.set.b 16 (by omega)
    have l3 := hexT_len d.set.c 16 (by omega)
    have l4 := hexT_len d.set.d 16 (by omega)
    unfold setT
    simp only [List.length_append, List.length_cons, List.length_nil]; omega
  repeat' split
  all_goals first | omega | (simp only [List.length_append, List.length_cons, List.length_nil]; omega)
section
variable {w0 w w1 : World} {pb : Nat} {v kv : Value} {root G : Int} {cs : Nat} {l : List UInt8} {ps : List Part}
theorem NqBox.nk {n : Nat} {d : Nq} {kv : Value} (h : NqBox n d kv w) (k : Nk 73 w w1) : NqBox n d kv w1 := k n _ h
set_option maxHeartbeats 4000000 in
set_option maxRecDepth 100000 in
theorem node_any (h : Pws w0 pb v root G cs l ps w) (g : Gl w0) (d : Nq) (hd : Nok d) (hk : Ks w0 kv d.kids) (hi : inner d.op = true → d.kids ≠ []) (hlen : ps.length + d.kids.length ≤ 900000) (hl : l.length ≤ 900000) :
    Calls Tryz.prog 19 #[.pointer (some ⟨pb, 0, none⟩), d.val kv] w fun e w' => e = .returned (.tuple #[]) ∧ Pws w0 pb v root G cs (l ++ sayP d) (ps ++ pushP d) w' := by
  have hkp : Kp w0 w := by obtain ⟨_, _, _, z⟩ := h; exact z.kp
  have HQ : Hid (Nok d ∧ Ks w0 kv d.kids ∧ (inner d.op = true → d.kids ≠ []) ∧ ps.length + d.kids.length ≤ 900000 ∧ Gl w ∧ Kp w0 w ∧ l.length ≤ 900000) := ⟨hd, hk, hi, hlen, g.kp hkp, hkp, hl⟩
  have HP : Hid (Pws w0 pb v root G cs l ps w) := h
  have HA : Hid (∀ ob, Kp w (w.alloc ob) ∧ Pws w0 pb v root G cs l ps (w.alloc ob)) := fun ob => ⟨kp_alloc w ob, h.kp (kp_alloc w ob)⟩
  have HD : Hid (∀ ob, Kp w (w.alloc ob).drew ∧ Pws w0 pb v root G cs l ps (w.alloc ob).drew) := fun ob => ⟨kp_trans (kp_alloc w ob) (kp_drew _), h.kp (kp_trans (kp_alloc w ob) (kp_drew _))⟩
  obtain ⟨an, han⟩ : ∃ a, [60] ++ Lib.itoa d.n = a := ⟨_, rfl⟩
  have hAn := cat_run han (by rw [← han, List.length_append]; have := itoa_len hd.n; simp; omega)
  obtain ⟨op, hop⟩ : ∃ op, d.op = op := ⟨_, rfl⟩
  have HT : Hid (∀ x, Gl x → Calls Tryz.prog 27 #[d.val kv] x fun e w' => e = .returned (str (timesT d)) ∧ Kp x w') := fun x hx => timesText_any d kv hd.mn hd.mx hx
  have HL : Hid (∀ x, Gl x → Calls Tryz.prog 28 #[d.val kv] x fun e w' => e = .returned (str (leafT d)) ∧ Kp x w') := fun x hx => leafText_any d kv hd.n hd.set hd.c hx
  have HO : Hid (d.op = op ∧ [60] ++ Lib.itoa d.n = an) := ⟨hop, han⟩
  obtain ⟨sy, hsy⟩ : ∃ s, sayP d = s := ⟨_, rfl⟩
  obtain ⟨pu, hpu⟩ : ∃ s, pushP d = s := ⟨_, rfl⟩
  rw [hsy, hpu]
  have HS : Hid (sayP d = sy ∧ pushP d = pu) := ⟨hsy, hpu⟩
  have HB : Hid (NqBox w.heap.size d kv (w.alloc (.cells #[.int .u8 op, .int .u8 d.c, .int .u64 d.set.a, .int .u64 d.set.b, .int .u64 d.set.c, .int .u64 d.set.d, .int .i64 d.mn, .int .i64 d.mx, .bool d.lz, .int .i64 d.n, kv] 73)).drew) := by
    unfold NqBox Nq.cells
    rw [hop]
    exact alloc_new w _
  have rl0 : ∀ w', NqBox w.heap.size d kv w' → w'.cell? ⟨w.heap.size, 0, none⟩ = some (.int .u8 op) := fun _ h => by rw [← hop]; exact h.cell rfl
  have rl1 : ∀ w', NqBox w.heap.size d kv w' → w'.cell? ⟨w.heap.size, 1, none⟩ = some (.int .u8 d.c) := fun _ h => h.cell rfl
  have rl2 : ∀ w', NqBox w.heap.size d kv w' → w'.cell? ⟨w.heap.size, 2, none⟩ = some (.int .u64 d.set.a) := fun _ h => h.cell rfl
  have rl3 : ∀ w', NqBox w.heap.size d kv w' → w'.cell? ⟨w.heap.size, 3, none⟩ = some (.int .u64 d.set.b) := fun _ h => h.cell rfl
  have rl4 : ∀ w', NqBox w.heap.size d kv w' → w'.cell? ⟨w.heap.size, 4, none⟩ = some (.int .u64 d.set.c) := fun _ h => h.cell rfl
  have rl5 : ∀ w', NqBox w.heap.size d kv w' → w'.cell? ⟨w.heap.size, 5, none⟩ = some (.int .u64 d.set.d) := fun _ h => h.cell rfl
  have rl6 : ∀ w', NqBox w.heap.size d kv w' → w'.cell? ⟨w.heap.size, 6, none⟩ = some (.int .i64 d.mn) := fun _ h => h.cell rfl
  have rl7 : ∀ w', NqBox w.heap.size d kv w' → w'.cell? ⟨w.heap.size, 7, none⟩ = some (.int .i64 d.mx) := fun _ h => h.cell rfl
  have rl8 : ∀ w', NqBox w.heap.size d kv w' → w'.cell? ⟨w.heap.size, 8, none⟩ = some (.bool d.lz) := fun _ h => h.cell rfl
  have rl9 : ∀ w', NqBox w.heap.size d kv w' → w'.cell? ⟨w.heap.size, 9, none⟩ = some (.int .i64 d.n) := fun _ h => h.cell rfl
  have rl10 : ∀ w', NqBox w.heap.size d kv w' → w'.cell? ⟨w.heap.size, 10, none⟩ = some (kv) := fun _ h => h.cell rfl
  unfold Nq.val at HT HL ⊢
  rw [hop] at HT HL ⊢
  obtain ⟨ka, kc, rfl, _, _, _⟩ := id hk
  clear h g hd hk hi hlen hkp hop han hsy hpu hl
  by_cases h5 : op = 5
  · subst h5
    have hs : sy = [] := by rw [← HS.out.1]; simp [sayP, inner, HO.out.1]
    have hp : pu = listP [40] [] [41] d.kids := by rw [← HS.out.2]; simp [pushP, HO.out.1]
    subst hs
    subst hp
    rw [List.append_nil]
    have hne : d.kids ≠ [] := HQ.out.2.2.1 (by rw [HO.out.1]; rfl)
    have HNE : Hid (d.kids ≠ []) := hne
    clear hne
    go_enter Tryz.func19, Tryz.ntmps19
    go_wp2_with fail
    refine Calls.mono (list_any (HA.out _).2 [40] [] [41] HQ.out.2.1 HNE.out HQ.out.2.2.2.1) ?_
    rintro e w9 ⟨rfl, q, _⟩
    have HZ : Hid _ := q
    clear q
    go_wp2_with fail
    go_end0
    exact ⟨rfl, HZ.out⟩
  have d5 : ((op : Int) == 5) = false := by simp; omega
  by_cases h6 : op = 6
  · subst h6
    have hs : sy = [] := by rw [← HS.out.1]; simp [sayP, inner, HO.out.1]
    have hp : pu = listP [40] [124] [41] d.kids := by rw [← HS.out.2]; simp [pushP, HO.out.1]
    subst hs
    subst hp
    rw [List.append_nil]
    have hne : d.kids ≠ [] := HQ.out.2.2.1 (by rw [HO.out.1]; rfl)
    have HNE : Hid (d.kids ≠ []) := hne
    clear hne
    go_enter Tryz.func19, Tryz.ntmps19
    go_wp2_with fail
    refine Calls.mono (list_any (HA.out _).2 [40] [124] [41] HQ.out.2.1 HNE.out HQ.out.2.2.2.1) ?_
    rintro e w9 ⟨rfl, q, _⟩
    have HZ : Hid _ := q
    clear q
    go_wp2_with fail
    go_end0
    exact ⟨rfl, HZ.out⟩
  have d6 : ((op : Int) == 6) = false := by simp; omega
  by_cases h7 : op = 7
  · subst h7
    have hs : sy = [] := by rw [← HS.out.1]; simp [sayP, inner, HO.out.1]
    have hp : pu = listP (timesT d) [] [] d.kids := by rw [← HS.out.2]; simp [pushP, HO.out.1]
    subst hs
    subst hp
    rw [List.append_nil]
    have hne : d.kids ≠ [] := HQ.out.2.2.1 (by rw [HO.out.1]; rfl)
    have HNE : Hid (d.kids ≠ []) := hne
    clear hne
    go_enter Tryz.func19, Tryz.ntmps19
    go_wp2_with fail
    refine wp_region_noPanic ?_
    refine wp_region_held_drew (S := NqBox w.heap.size d (.slice ka d.kids.length kc)) (by kernel_rfl) (HB.out) (fun hHeld => ?_)
    refine takeAt 0 (some 26) ?_ rfl rfl (by kernel_rfl) (by kernel_rfl) (by kernel_rfl) (fun _ _ _ h => h) (Or.inl ⟨by rfl, ?_⟩) hHeld ?_
    rotate_left
    · intro w hSw
      go_simp <;> with_reducible rfl
    try simp only [Act.put, List.setIfInBounds_toArray, List.set_cons_zero, List.set_cons_succ]
    refine takeAt 1 (some 27) ?_ rfl rfl (by kernel_rfl) (by kernel_rfl) (by kernel_rfl) (fun _ _ _ h => h) (Or.inl ⟨by rfl, ?_⟩) hHeld ?_
    rotate_left
    · intro w hSw
      go_simp <;> with_reducible rfl
    try simp only [Act.put, List.setIfInBounds_toArray, List.set_cons_zero, List.set_cons_succ]
    refine takeAt 3 (some 29) ?_ rfl rfl (by kernel_rfl) (by kernel_rfl) (by kernel_rfl) (fun _ _ _ h => h) (Or.inl ⟨by rfl, ?_⟩) hHeld ?_
    rotate_left
    · intro w hSw
      go_simp <;> with_reducible rfl
    try simp only [Act.put, List.setIfInBounds_toArray, List.set_cons_zero, List.set_cons_succ]
    refine takeAt 4 (some 30) ?_ rfl rfl (by kernel_rfl) (by kernel_rfl) (by kernel_rfl) (fun _ _ _ h => h) (Or.inl ⟨by rfl, ?_⟩) hHeld ?_
    rotate_left
    · intro w hSw
      go_simp <;> with_reducible rfl
    try simp only [Act.put, List.setIfInBounds_toArray, List.set_cons_zero, List.set_cons_succ]
    refine callAt 2 28 27 (vals := #[.agg #[.int .u8 (7 : Nat), .int .u8 d.c, .int .u64 d.set.a, .int .u64 d.set.b, .int .u64 d.set.c, .int .u64 d.set.d, .int .i64 d.mn, .int .i64 d.mx, .bool d.lz, .int .i64 d.n, .slice ka d.kids.length kc]]) (by kernel_rfl) rfl rfl rfl rfl (by simp [Act.eval]) Tryz.func27 (by kernel_rfl) (by kernel_rfl) ?_
    refine Calls.mono (HT.out _ (HQ.out.2.2.2.2.1.kp (HD.out _).1)) ?_
    rintro e w2 ⟨rfl, q⟩
    have H2 : Hid (NqBox w.heap.size d (.slice ka d.kids.length kc) w2 ∧ Pws w0 pb v root G cs l ps w2) := ⟨HB.out.kp q, (HD.out _).2.kp q⟩
    clear q
    refine ⟨_, rfl, H2.out.1, fun hHeld => ?_⟩
    try simp only [Act.put, List.setIfInBounds_toArray, List.set_cons_zero, List.set_cons_succ]
    refine callAt 5 31 26 (vals := #[.pointer (some ⟨pb, 0, none⟩), str (timesT d), str [], str [], .slice ka d.kids.length kc]) (by kernel_rfl) rfl rfl rfl rfl (by simp [Act.eval]) Tryz.func26 (by kernel_rfl) (by kernel_rfl) ?_
    refine Calls.mono (list_any H2.out.2 (timesT d) [] [] HQ.out.2.1 HNE.out HQ.out.2.2.2.1) ?_
    rintro e w9 ⟨rfl, q, qn⟩
    have HZ : Hid (Pws w0 pb v root G cs l (ps ++ listP (timesT d) [] [] d.kids) w9 ∧ NqBox w.heap.size d (.slice ka d.kids.length kc) w9) := ⟨q, H2.out.1.nk (qn _ (by decide) (by decide))⟩
    clear q qn
    refine ⟨_, rfl, HZ.out.2, fun hHeld => ?_⟩
    try simp only [Act.put, List.setIfInBounds_toArray, List.set_cons_zero, List.set_cons_succ]
    refine wpAnyH_done (by kernel_rfl) ?_ _
    refine NoPanic.normal ?_
    go_wp2_with fail
    go_end0
    exact ⟨rfl, HZ.out.1⟩
  have d7 : ((op : Int) == 7) = false := by simp; omega
  by_cases h8 : op = 8
  · subst h8
    have hs : sy = [] := by rw [← HS.out.1]; simp [sayP, inner, HO.out.1]
    have hp : pu = listP ([60] ++ Lib.itoa d.n) [] [62] d.kids := by rw [← HS.out.2]; simp [pushP, HO.out.1]
    subst hs
    subst hp
    rw [List.append_nil]
    have hne : d.kids ≠ [] := HQ.out.2.2.1 (by rw [HO.out.1]; rfl)
    have HNE : Hid (d.kids ≠ []) := hne
    clear hne
    rw [HO.out.2]
    go_enter Tryz.func19, Tryz.ntmps19
    go_wp2_with fail
    refine wp_region_noPanic ?_
    refine wp_region_held_drew (S := NqBox w.heap.size d (.slice ka d.kids.length kc)) (by kernel_rfl) (HB.out) (fun hHeld => ?_)
    refine takeAt 0 (some 34) ?_ rfl rfl (by kernel_rfl) (by kernel_rfl) (by kernel_rfl) (fun _ _ _ h => h) (Or.inl ⟨by rfl, ?_⟩) hHeld ?_
    rotate_left
    · intro w hSw
      go_simp <;> with_reducible rfl
    try simp only [Act.put, List.setIfInBounds_toArray, List.set_cons_zero, List.set_cons_succ]
    refine takeAt 1 (some 35) ?_ rfl rfl (by kernel_rfl) (by kernel_rfl) (by kernel_rfl) (fun _ _ _ h => h) (Or.inl ⟨by rfl, ?_⟩) hHeld ?_
    rotate_left
    · intro w hSw
      go_simp <;> with_reducible rfl
    try simp only [Act.put, List.setIfInBounds_toArray, List.set_cons_zero, List.set_cons_succ]
    refine takeAt 2 (some 36) ?_ rfl rfl (by kernel_rfl) (by kernel_rfl) (by kernel_rfl) (fun _ _ _ h => h) (Or.inl ⟨by rfl, ?_⟩) hHeld ?_
    rotate_left
    · intro w hSw
      go_simp <;> with_reducible rfl
    try simp only [Act.put, List.setIfInBounds_toArray, List.set_cons_zero, List.set_cons_succ]
    refine takeAt 5 (some 39) ?_ rfl rfl (by kernel_rfl) (by kernel_rfl) (by kernel_rfl) (fun _ _ _ h => h) (Or.inl ⟨by rfl, ?_⟩) hHeld ?_
    rotate_left
    · intro w hSw
      go_simp <;> with_reducible rfl
    try simp only [Act.put, List.setIfInBounds_toArray, List.set_cons_zero, List.set_cons_succ]
    refine takeAt 6 (some 40) ?_ rfl rfl (by kernel_rfl) (by kernel_rfl) (by kernel_rfl) (fun _ _ _ h => h) (Or.inl ⟨by rfl, ?_⟩) hHeld ?_
    rotate_left
    · intro w hSw
      go_simp <;> with_reducible rfl
    try simp only [Act.put, List.setIfInBounds_toArray, List.set_cons_zero, List.set_cons_succ]
    refine callAt 3 37 16 (vals := #[.int .i64 d.n]) (by kernel_rfl) rfl rfl rfl rfl (by simp [Act.eval]) Tryz.func16 (by kernel_rfl) (by kernel_rfl) ?_
    refine Calls.mono (itoa_any d.n HQ.out.1.n.1 HQ.out.1.n.2 (HQ.out.2.2.2.2.1.kp (HD.out _).1)) ?_
    rintro e w2 ⟨rfl, q⟩
    have H2 : Hid (NqBox w.heap.size d (.slice ka d.kids.length kc) w2 ∧ Pws w0 pb v root G cs l ps w2) := ⟨HB.out.kp q, (HD.out _).2.kp q⟩
    clear q
    refine ⟨_, rfl, H2.out.1, fun hHeld => ?_⟩
    try simp only [Act.put, List.setIfInBounds_toArray, List.set_cons_zero, List.set_cons_succ]
    refine takeAt 4 (some 38) ?_ rfl rfl (by kernel_rfl) (by kernel_rfl) (by kernel_rfl) (fun _ _ _ h => h) (Or.inl ⟨by rfl, ?_⟩) hHeld ?_
    rotate_left
    · intro w hSw
      go_simp <;> with_reducible rfl
    try simp only [Act.put, List.setIfInBounds_toArray, List.set_cons_zero, List.set_cons_succ]
    refine callAt 7 41 26 (vals := #[.pointer (some ⟨pb, 0, none⟩), str an, str [], str [62], .slice ka d.kids.length kc]) (by kernel_rfl) rfl rfl rfl rfl (by simp [Act.eval]) Tryz.func26 (by kernel_rfl) (by kernel_rfl) ?_
    refine Calls.mono (list_any H2.out.2 an [] [62] HQ.out.2.1 HNE.out HQ.out.2.2.2.1) ?_
    rintro e w9 ⟨rfl, q, qn⟩
    have HZ : Hid (Pws w0 pb v root G cs l (ps ++ listP an [] [62] d.kids) w9 ∧ NqBox w.heap.size d (.slice ka d.kids.length kc) w9) := ⟨q, H2.out.1.nk (qn _ (by decide) (by decide))⟩
    clear q qn
    refine ⟨_, rfl, HZ.out.2, fun hHeld => ?_⟩
    try simp only [Act.put, List.setIfInBounds_toArray, List.set_cons_zero, List.set_cons_succ]
    refine wpAnyH_done (by kernel_rfl) ?_ _
    refine NoPanic.normal ?_
    go_wp2_with fail
    go_end0
    exact ⟨rfl, HZ.out.1⟩
  have d8 : ((op : Int) == 8) = false := by simp; omega
  have hs : sy = leafT d := by rw [← HS.out.1]; simp [sayP, inner, HO.out.1, h5, h6, h7, h8]
  have hp : pu = [] := by rw [← HS.out.2]; simp [pushP, HO.out.1, h5, h6, h7, h8]
  subst hs
  subst hp
  rw [List.append_nil]
  go_enter Tryz.func19, Tryz.ntmps19
  go_wp2_with fail
  refine wp_region_noPanic ?_
  refine wp_region_held_drew (S := NqBox w.heap.size d (.slice ka d.kids.length kc)) (by kernel_rfl) (HB.out) (fun hHeld => ?_)
  refine takeAt 0 (some 6) ?_ rfl rfl (by kernel_rfl) (by kernel_rfl) (by kernel_rfl) (fun _ _ _ h => h) (Or.inl ⟨by rfl, ?_⟩) hHeld ?_
  rotate_left
  · intro w hSw
    go_simp <;> with_reducible rfl
  try simp only [Act.put, List.setIfInBounds_toArray, List.set_cons_zero, List.set_cons_succ]
  refine takeAt 1 (some 7) ?_ rfl rfl (by kernel_rfl) (by kernel_rfl) (by kernel_rfl) (fun _ _ _ h => h) (Or.inl ⟨by rfl, ?_⟩) hHeld ?_
  rotate_left
  · intro w hSw
    go_simp <;> with_reducible rfl
  try simp only [Act.put, List.setIfInBounds_toArray, List.set_cons_zero, List.set_cons_succ]
  refine takeAt 2 (some 8) ?_ rfl rfl (by kernel_rfl) (by kernel_rfl) (by kernel_rfl) (fun _ _ _ h => h) (Or.inl ⟨by rfl, ?_⟩) hHeld ?_
  rotate_left
  · intro w hSw
    go_simp <;> with_reducible rfl
  try simp only [Act.put, List.setIfInBounds_toArray, List.set_cons_zero, List.set_cons_succ]
  refine takeAt 3 (some 9) ?_ rfl rfl (by kernel_rfl) (by kernel_rfl) (by kernel_rfl) (fun _ _ _ h => h) (Or.inl ⟨by rfl, ?_⟩) hHeld ?_
  rotate_left
  · intro w hSw
    go_simp <;> with_reducible rfl
  try simp only [Act.put, List.setIfInBounds_toArray, List.set_cons_zero, List.set_cons_succ]
  refine callAt 4 10 28 (vals := #[.agg #[.int .u8 op, .int .u8 d.c, .int .u64 d.set.a, .int .u64 d.set.b, .int .u64 d.set.c, .int .u64 d.set.d, .int .i64 d.mn, .int .i64 d.mx, .bool d.lz, .int .i64 d.n, .slice ka d.kids.length kc]]) (by kernel_rfl) rfl rfl rfl rfl (by simp [Act.eval]) Tryz.func28 (by kernel_rfl) (by kernel_rfl) ?_
  refine Calls.mono (HL.out _ (HQ.out.2.2.2.2.1.kp (HD.out _).1)) ?_
  rintro e w2 ⟨rfl, q⟩
  have H2 : Hid (NqBox w.heap.size d (.slice ka d.kids.length kc) w2 ∧ Pws w0 pb v root G cs l ps w2) := ⟨HB.out.kp q, (HD.out _).2.kp q⟩
  clear q
  refine ⟨_, rfl, H2.out.1, fun hHeld => ?_⟩
  try simp only [Act.put, List.setIfInBounds_toArray, List.set_cons_zero, List.set_cons_succ]
  refine callAt 5 11 18 (vals := #[.pointer (some ⟨pb, 4, none⟩), str (leafT d)]) (by kernel_rfl) rfl rfl rfl rfl (by simp [Act.eval]) Tryz.func18 (by kernel_rfl) (by kernel_rfl) ?_
  refine Calls.mono (write_any H2.out.2 (leafT d) (by have := leafT_len HQ.out.1; have := HQ.out.2.2.2.2.2.2; omega)) ?_
  rintro e w9 ⟨rfl, q, qn⟩
  have HZ : Hid (Pws w0 pb v root G cs (l ++ leafT d) ps w9 ∧ NqBox w.heap.size d (.slice ka d.kids.length kc) w9) := ⟨q, H2.out.1.nk (qn _ (by decide) (by decide))⟩
  clear q qn
  refine ⟨_, rfl, HZ.out.2, fun hHeld => ?_⟩
  try simp only [Act.put, List.setIfInBounds_toArray, List.set_cons_zero, List.set_cons_succ]
  refine wpAnyH_done (by kernel_rfl) ?_ _
  refine NoPanic.normal ?_
  go_wp2_with fail
  go_end0
  exact ⟨rfl, HZ.out.1⟩
end
end Go.Proofs.YtpahpnajeliodaaGreatDoor
/- The printer's print. -/
namespace Go.Proofs.YtpahpnajeliodaaGreatDoor
open Go.ChangeShapes Go.WideShapes Go.ChangeAt Go.RowKit
set_option linter.unusedVariables false
set_option linter.unusedSimpArgs false
def okP (L : List Nq) (a : Int) (k : Nat) : Bool := hasB L a && (!(inner (nodeAt L a).op) || !(nodeAt L a).kids.isEmpty) && decide (k + (nodeAt L a).kids.length ≤ 900000)
/-- What is written, of all that waits. -/
def prF (L : List Nq) : Nat → List Part → List UInt8 → Option (List UInt8)
  | 0, _, _ => none
  | n + 1, ps, l =>
    match ps.getLast? with
    | none => some l
    | some (t, a) =>
      if 800000 < l.length + t.length ∨ 800000 < ps.length then none
      else if a = -1 then prF L n ps.dropLast (l ++ t)
      else if okP L a ps.dropLast.length then prF L n (ps.dropLast ++ pushP (nodeAt L a)) (l ++ t ++ sayP (nodeAt L a))
      else none
theorem exists_least {p : Nat → Prop} (h : ∃ n, p n) : ∃ m, p m ∧ ∀ k, p k → m ≤ k := by
  obtain ⟨n, hn⟩ := h
  induction n using Nat.strongRecOn with
  | ind n ih =>
    by_cases q : ∃ k, k < n ∧ p k
    · obtain ⟨k, h1, h2⟩ := q; exact ih k h1 h2
    · exact ⟨n, hn, fun k hk => by
        rcases Nat.lt_or_ge k n with z | z
        · exact absurd ⟨k, z, hk⟩ q
        · exact z⟩
open Classical in
noncomputable def least (p : Nat → Prop) : Nat := if h : ∃ n, p n then Classical.choose (exists_least h) else 0
theorem least_le {p : Nat → Prop} {n : Nat} (h : p n) : least p ≤ n := by
  unfold least
  rw [dif_pos ⟨n, h⟩]
  exact (Classical.choose_spec (exists_least ⟨n, h⟩)).2 n h
theorem least_has {p : Nat → Prop} {n : Nat} (h : p n) : p (least p) := by
  unfold least
  rw [dif_pos ⟨n, h⟩]
  exact (Classical.choose_spec (exists_least ⟨n, h⟩)).1
theorem parts_pop {B : Nat} {v : Value} {ps : List Part} {x : Part} {w : World} (h : w.ownsRow B 62 2 v (ps ++ [x]).length (flatP (ps ++ [x]))) : ∃ g cap, v = .slice (some ⟨g, 0, none⟩) (ps.length + 1) cap ∧ ps.length + 1 ≤ cap ∧ cap ≤ maxLen ∧ B ≤ g ∧ w.cell? ⟨g, ps.length * 2, none⟩ = some (str x.1) ∧ w.cell? ⟨g, ps.length * 2 + 1, none⟩ = some (.int .i64 x.2) ∧ w.ownsRow B 62 2 (.slice (some ⟨g, 0, none⟩) ps.length cap) ps.length (flatP ps) := by
  have hl : (ps ++ [x]).length = ps.length + 1 := by simp
  have hfl := flatP_len ps
  rw [hl, flatP_snoc] at h
  rcases h.2 with ⟨_, q⟩ | ⟨g, c, cur, e, hb, hg, h1, h2, h3, h4⟩
  · omega
  · have hget : ∀ j, j < 2 → w.cell? ⟨g, ps.length * 2 + j, none⟩ = x.cells[j]? := fun j hj => by
      rw [cell_at hg, ← Array.getElem?_toList]
      have : (flatP ps ++ x.cells)[ps.length * 2 + j]? = x.cells[j]? := by
        rw [List.getElem?_append_right (by omega), hfl, Nat.add_sub_cancel_left]
      rw [← h4, List.getElem?_take, if_pos (by omega)] at this
      exact this
    refine ⟨g, c, e, h1, h2, hb, hget 0 (by omega), hget 1 (by omega), hfl, .inr ⟨g, c, cur, rfl, hb, hg, by omega, h2, h3, ?_⟩⟩
    have : (cur.toList.take ((ps.length + 1) * 2)).take (ps.length * 2) = (flatP ps ++ x.cells).take (ps.length * 2) := by rw [h4]
    rw [List.take_take, Nat.min_eq_left (by omega), List.take_append_of_le_length (by omega)] at this
    rw [this]
    exact List.take_of_length_le (by omega)
section
variable {w0 w w1 : World} {pb : Nat} {v kv : Value} {root G : Int} {cs : Nat} {l : List UInt8} {ps : List Part} {L : List Nq}
def Sp (pb g k cap : Nat) (t : List UInt8) (a : Int) (w : World) : Prop := w.cell? ⟨pb, 6, none⟩ = some (.slice (some ⟨g, 0, none⟩) (k + 1) cap) ∧ w.cell? ⟨g, k * 2, none⟩ = some (str t) ∧ w.cell? ⟨g, k * 2 + 1, none⟩ = some (.int .i64 a)
def Pc (pb : Nat) (root G : Int) (cs : Nat) (w : World) : Prop := w.cell? ⟨pb, 1, none⟩ = some (.int .i64 root) ∧ w.cell? ⟨pb, 2, none⟩ = some (.int .i64 G) ∧ w.cell? ⟨pb, 3, none⟩ = some (.int .u8 cs)
theorem Pws.pc (h : Pws w0 pb v root G cs l ps w) : Pc pb root G cs w := by
  obtain ⟨p, bv, wv, h⟩ := h
  obtain ⟨_, c1, c2, c3, _⟩ := h.pr.cells
  exact ⟨c1, c2, c3⟩
def headT (G : Int) (cs : Nat) : List UInt8 := Lib.itoa G ++ caseL cs ++ [58]
set_option maxHeartbeats 4000000 in
set_option maxRecDepth 100000 in
theorem print_any (h : Pws w0 pb v root G cs [] [] w) (hv : Pt w0 v L) (g : Gl w0) (hG : Sm G) (hL : ∀ d ∈ L, Nok d) {X : List UInt8} {n : Nat} (hX : prF L n [(headT G cs, root)] [] = some X) (hne : X ≠ []) :
    Calls Tryz.prog 10 #[.pointer (some ⟨pb, 0, none⟩)] w fun e w' => e = .returned (str X) ∧ Kp w0 w' := by
  have hkp : Kp w0 w := by obtain ⟨_, _, _, z⟩ := h; exact z.kp
  have HQ : Hid (Pt w0 v L ∧ Gl w0 ∧ Sm G ∧ (∀ d ∈ L, Nok d) ∧ prF L n [(headT G cs, root)] [] = some X ∧ X ≠ [] ∧ Kp w0 w) := ⟨hv, g, hG, hL, hX, hne, hkp⟩
  have HP : Hid (Pws w0 pb v root G cs [] [] w) := h
  obtain ⟨a1, ha1⟩ : ∃ a, Lib.itoa G ++ caseL cs = a := ⟨_, rfl⟩
  obtain ⟨a2, ha2⟩ : ∃ a, a1 ++ [58] = a := ⟨_, rfl⟩
  have e1 : a1.length ≤ 22 := by
    have := itoa_len hG
    rw [← ha1, List.length_append]
    have : (caseL cs).length = 1 := by unfold caseL; repeat' split
                                       all_goals rfl
    omega
  have hA1 := cat_run ha1 (by omega)
  have hA2 := cat_run ha2 (by rw [← ha2, List.length_append]; simp; omega)
  have HH : Hid (headT G cs = a2) := by unfold headT; rw [ha1, ha2]; rfl
  have HD : Hid (Pws w0 pb v root G cs [] [] w.drew ∧ Gl w.drew ∧ Kp w0 w.drew) := ⟨h.kp (kp_drew _), g.kp (kp_trans hkp (kp_drew _)), kp_trans hkp (kp_drew _)⟩
  have rl1 : ∀ w', Pc pb root G cs w' → w'.cell? ⟨pb, 1, none⟩ = some (.int .i64 root) := fun _ h => h.1
  have rl2 : ∀ w', Pc pb root G cs w' → w'.cell? ⟨pb, 2, none⟩ = some (.int .i64 G) := fun _ h => h.2.1
  have rl3 : ∀ w', Pc pb root G cs w' → w'.cell? ⟨pb, 3, none⟩ = some (.int .u8 cs) := fun _ h => h.2.2
  clear h hv g hG hL hX hne hkp ha1 ha2 e1
  go_enter Tryz.func10, Tryz.ntmps10
  go_wp2_with fail
  refine wp_region_noPanic ?_
  refine wp_region_held_drew (S := Pc pb root G cs) (by kernel_rfl) (HD.out.1.pc) (fun hHeld => ?_)
  refine takeAt 0 (some 4) ?_ rfl rfl (by kernel_rfl) (by kernel_rfl) (by kernel_rfl) (fun _ _ _ h => h) (Or.inl ⟨by rfl, ?_⟩) hHeld ?_
  rotate_left
  · intro w hSw
    go_simp <;> with_reducible rfl
  try simp only [Act.put, List.setIfInBounds_toArray, List.set_cons_zero, List.set_cons_succ]
  refine takeAt 1 (some 5) ?_ rfl rfl (by kernel_rfl) (by kernel_rfl) (by kernel_rfl) (fun _ _ _ h => h) (Or.inl ⟨by rfl, ?_⟩) hHeld ?_
  rotate_left
  · intro w hSw
    go_simp <;> with_reducible rfl
  try simp only [Act.put, List.setIfInBounds_toArray, List.set_cons_zero, List.set_cons_succ]
  refine takeAt 2 (some 6) ?_ rfl rfl (by kernel_rfl) (by kernel_rfl) (by kernel_rfl) (fun _ _ _ h => h) (Or.inl ⟨by rfl, ?_⟩) hHeld ?_
  rotate_left
  · intro w hSw
    go_simp <;> with_reducible rfl
  try simp only [Act.put, List.setIfInBounds_toArray, List.set_cons_zero, List.set_cons_succ]
  refine takeAt 3 (some 7) ?_ rfl rfl (by kernel_rfl) (by kernel_rfl) (by kernel_rfl) (fun _ _ _ h => h) (Or.inl ⟨by rfl, ?_⟩) hHeld ?_
  rotate_left
  · intro w hSw
    go_simp <;> with_reducible rfl
  try simp only [Act.put, List.setIfInBounds_toArray, List.set_cons_zero, List.set_cons_succ]
  refine takeAt 4 (some 8) ?_ rfl rfl (by kernel_rfl) (by kernel_rfl) (by kernel_rfl) (fun _ _ _ h => h) (Or.inl ⟨by rfl, ?_⟩) hHeld ?_
  rotate_left
  · intro w hSw
    go_simp <;> with_reducible rfl
  try simp only [Act.put, List.setIfInBounds_toArray, List.set_cons_zero, List.set_cons_succ]
  refine takeAt 5 (some 9) ?_ rfl rfl (by kernel_rfl) (by kernel_rfl) (by kernel_rfl) (fun _ _ _ h => h) (Or.inl ⟨by rfl, ?_⟩) hHeld ?_
  rotate_left
  · intro w hSw
    go_simp <;> with_reducible rfl
  try simp only [Act.put, List.setIfInBounds_toArray, List.set_cons_zero, List.set_cons_succ]
  refine takeAt 7 (some 11) ?_ rfl rfl (by kernel_rfl) (by kernel_rfl) (by kernel_rfl) (fun _ _ _ h => h) (Or.inl ⟨by rfl, ?_⟩) hHeld ?_
  rotate_left
  · intro w hSw
    go_simp <;> with_reducible rfl
  try simp only [Act.put, List.setIfInBounds_toArray, List.set_cons_zero, List.set_cons_succ]
  refine takeAt 8 (some 12) ?_ rfl rfl (by kernel_rfl) (by kernel_rfl) (by kernel_rfl) (fun _ _ _ h => h) (Or.inl ⟨by rfl, ?_⟩) hHeld ?_
  rotate_left
  · intro w hSw
    go_simp <;> with_reducible rfl
  try simp only [Act.put, List.setIfInBounds_toArray, List.set_cons_zero, List.set_cons_succ]
  refine takeAt 9 (some 13) ?_ rfl rfl (by kernel_rfl) (by kernel_rfl) (by kernel_rfl) (fun _ _ _ h => h) (Or.inl ⟨by rfl, ?_⟩) hHeld ?_
  rotate_left
  · intro w hSw
    go_simp <;> with_reducible rfl
  try simp only [Act.put, List.setIfInBounds_toArray, List.set_cons_zero, List.set_cons_succ]
  refine takeAt 10 (some 14) ?_ rfl rfl (by kernel_rfl) (by kernel_rfl) (by kernel_rfl) (fun _ _ _ h => h) (Or.inl ⟨by rfl, ?_⟩) hHeld ?_
  rotate_left
  · intro w hSw
    go_simp <;> with_reducible rfl
  try simp only [Act.put, List.setIfInBounds_toArray, List.set_cons_zero, List.set_cons_succ]
  refine takeAt 11 (some 15) ?_ rfl rfl (by kernel_rfl) (by kernel_rfl) (by kernel_rfl) (fun _ _ _ h => h) (Or.inl ⟨by rfl, ?_⟩) hHeld ?_
  rotate_left
  · intro w hSw
    go_simp <;> with_reducible rfl
  try simp only [Act.put, List.setIfInBounds_toArray, List.set_cons_zero, List.set_cons_succ]
  refine takeAt 15 (some 19) ?_ rfl rfl (by kernel_rfl) (by kernel_rfl) (by kernel_rfl) (fun _ _ _ h => h) (Or.inl ⟨by rfl, ?_⟩) hHeld ?_
  rotate_left
  · intro w hSw
    go_simp <;> with_reducible rfl
  try simp only [Act.put, List.setIfInBounds_toArray, List.set_cons_zero, List.set_cons_succ]
  refine takeAt 16 (some 20) ?_ rfl rfl (by kernel_rfl) (by kernel_rfl) (by kernel_rfl) (fun _ _ _ h => h) (Or.inl ⟨by rfl, ?_⟩) hHeld ?_
  rotate_left
  · intro w hSw
    go_simp <;> with_reducible rfl
  try simp only [Act.put, List.setIfInBounds_toArray, List.set_cons_zero, List.set_cons_succ]
  refine takeAt 17 (some 21) ?_ rfl rfl (by kernel_rfl) (by kernel_rfl) (by kernel_rfl) (fun _ _ _ h => h) (Or.inl ⟨by rfl, ?_⟩) hHeld ?_
  rotate_left
  · intro w hSw
    go_simp <;> with_reducible rfl
  try simp only [Act.put, List.setIfInBounds_toArray, List.set_cons_zero, List.set_cons_succ]
  refine takeAt 18 (some 22) ?_ rfl rfl (by kernel_rfl) (by kernel_rfl) (by kernel_rfl) (fun _ _ _ h => h) (Or.inl ⟨by rfl, ?_⟩) hHeld ?_
  rotate_left
  · intro w hSw
    go_simp <;> with_reducible rfl
  try simp only [Act.put, List.setIfInBounds_toArray, List.set_cons_zero, List.set_cons_succ]
  refine takeAt 19 (some 23) ?_ rfl rfl (by kernel_rfl) (by kernel_rfl) (by kernel_rfl) (fun _ _ _ h => h) (Or.inl ⟨by rfl, ?_⟩) hHeld ?_
  rotate_left
  · intro w hSw
    go_simp <;> with_reducible rfl
  try simp only [Act.put, List.setIfInBounds_toArray, List.set_cons_zero, List.set_cons_succ]
  refine callAt 6 10 16 (vals := #[.int .i64 G]) (by kernel_rfl) rfl rfl rfl rfl (by simp [Act.eval]) Tryz.func16 (by kernel_rfl) (by kernel_rfl) ?_
  refine Calls.mono (itoa_any G HQ.out.2.2.1.1 HQ.out.2.2.1.2 HD.out.2.1) ?_
  rintro e w2 ⟨rfl, q⟩
  have H2 : Hid (Pws w0 pb v root G cs [] [] w2) := HD.out.1.kp q
  clear q
  refine ⟨_, rfl, H2.out.pc, fun hHeld => ?_⟩
  try simp only [Act.put, List.setIfInBounds_toArray, List.set_cons_zero, List.set_cons_succ]
  refine callAt 12 16 17 (vals := #[.int .u8 cs]) (by kernel_rfl) rfl rfl rfl rfl (by simp [Act.eval]) Tryz.func17 (by kernel_rfl) (by kernel_rfl) ?_
  refine Calls.mono (caseLetter_any cs) ?_
  rintro e w3 ⟨rfl, rfl⟩
  refine ⟨_, rfl, H2.out.pc, fun hHeld => ?_⟩
  try simp only [Act.put, List.setIfInBounds_toArray, List.set_cons_zero, List.set_cons_succ]
  refine takeAt 13 (some 17) ?_ rfl rfl (by kernel_rfl) (by kernel_rfl) (by kernel_rfl) (fun _ _ _ h => h) (Or.inl ⟨by rfl, ?_⟩) hHeld ?_
  rotate_left
  · intro w hSw
    go_simp <;> with_reducible rfl
  try simp only [Act.put, List.setIfInBounds_toArray, List.set_cons_zero, List.set_cons_succ]
  refine takeAt 14 (some 18) ?_ rfl rfl (by kernel_rfl) (by kernel_rfl) (by kernel_rfl) (fun _ _ _ h => h) (Or.inl ⟨by rfl, ?_⟩) hHeld ?_
  rotate_left
  · intro w hSw
    go_simp <;> with_reducible rfl
  try simp only [Act.put, List.setIfInBounds_toArray, List.set_cons_zero, List.set_cons_succ]
  refine callAt 20 24 15 (vals := #[.pointer (some ⟨pb, 0, none⟩), str a2, .int .i64 root]) (by kernel_rfl) rfl rfl rfl rfl (by simp [Act.eval]) Tryz.func15 (by kernel_rfl) (by kernel_rfl) ?_
  refine Calls.mono (wait_any H2.out a2 root (by simp)) ?_
  rintro e w4 ⟨rfl, q, _⟩
  have H4 : Hid (Pws w0 pb v root G cs [] [(a2, root)] w4) := q
  clear q
  refine ⟨_, rfl, H4.out.pc, fun hHeld => ?_⟩
  try simp only [Act.put, List.setIfInBounds_toArray, List.set_cons_zero, List.set_cons_succ]
  refine wpAnyH_done (by kernel_rfl) ?_ _
  refine NoPanic.normal ?_
  have hX2 := HQ.out.2.2.2.2.1
  rw [HH.out] at hX2
  have HX : Hid (prF L n [(a2, root)] [] = some X) := hX2
  clear hX2 hHeld
  go_wp2_with fail
  go_loopw [3] (fun v3 wr => ∃ (f : Nat) (l : List UInt8) (ps : List Part), prF L f ps l = some X ∧ Pws w0 pb v root G cs l ps wr) (fun _ wr => least fun f => ∃ (l : List UInt8) (ps : List Part), prF L f ps l = some X ∧ Pws w0 pb v root G cs l ps wr)
  case atStart => exact ⟨n, [], [(a2, root)], HX.out, H4.out⟩
  case round =>
    obtain ⟨f0, l0, ps0, hF0, hP0⟩ := hrel
    obtain ⟨m, hm⟩ : ∃ m, (least fun f => ∃ (l : List UInt8) (ps : List Part), prF L f ps l = some X ∧ Pws w0 pb v root G cs l ps wr) = m := ⟨_, rfl⟩
    obtain ⟨l, ps, hF, hP⟩ := least_has (p := fun f => ∃ (l : List UInt8) (ps : List Part), prF L f ps l = some X ∧ Pws w0 pb v root G cs l ps wr) ⟨l0, ps0, hF0, hP0⟩
    rw [hm] at hF
    have HM : Hid ((least fun f => ∃ (l : List UInt8) (ps : List Part), prF L f ps l = some X ∧ Pws w0 pb v root G cs l ps wr) = m) := hm
    clear hF0 hP0 hm
    obtain ⟨p, bv, wv, hW⟩ := hP
    cases m with
    | zero => simp [prF] at hF
    | succ m =>
    obtain ⟨_, _, _, _, _, _, c6⟩ := hW.pr.cells
    rcases List.eq_nil_or_concat ps with rfl | ⟨qs, ⟨t, a⟩, rfl⟩
    · have hXl : X = l := by simp [prF] at hF; exact hF.symm
      subst hXl
      obtain ⟨sa, sc, rfl, _, _⟩ := owns_form hW.wt
      have HW : Hid (Pws w0 pb v root G cs X [] wr) := ⟨_, _, _, hW⟩
      clear hW hF HX
      simp only [List.length_nil] at c6 ⊢
      go_wp2_with fail
      refine Calls.mono (bstring_any HW.out HQ.out.2.2.2.2.2.1) ?_
      rintro e w5 ⟨rfl, q⟩
      have HZ : Hid _ := q
      clear q
      go_wp2_with fail
      go_ret
      exact ⟨rfl, HZ.out⟩
    · rw [List.concat_eq_append] at hF hW
      obtain ⟨k, hk⟩ : ∃ k, qs.length = k := ⟨_, rfl⟩
      obtain ⟨g, cap, rfl, k1, k2, k3, kc0, kc1, hpop⟩ := parts_pop hW.wt
      rw [hk] at k1 kc0 kc1 hpop c6
      have hstep : ¬ (800000 < l.length + t.length ∨ 800000 < k + 1) ∧ (if a = -1 then prF L m qs (l ++ t) else if okP L a k then prF L m (qs ++ pushP (nodeAt L a)) (l ++ t ++ sayP (nodeAt L a)) else none) = some X := by
        unfold prF at hF
        simp only [List.getLast?_concat, List.dropLast_concat, List.length_append, List.length_cons, List.length_nil, Nat.zero_add, hk] at hF
        split at hF
        · cases hF
        · rename_i hb
          exact ⟨hb, hF⟩
      have hgne : g ≠ pb := fun z => hW.wne (by simp only [Value.ownBlock]; rw [z])
      have hglt : g < wr.heap.size := (hpop.lt g rfl).2
      have hY : ∀ ob, Pws w0 pb v root G cs l qs ((wr.alloc ob).setCell ⟨pb, 6, none⟩ (.slice (some ⟨g, 0, none⟩) k cap)) := fun ob => by
        have hW := hW.kp' (kp_alloc wr ob)
        have hpop := row_kp hpop (kp_alloc wr ob)
        have hsz := alloc_size wr ob
        have f := fr_set pb 6 (.slice (some ⟨g, 0, none⟩) k cap) (wr.alloc ob)
        refine ⟨p, bv, .slice (some ⟨g, 0, none⟩) k cap, kp_new hW.kp f hW.far, hW.far, hW.pr.set6 _, hW.ptr, row_heap hW.buf fun j hj => ?_, ?_⟩
        · exact f.block j (hW.buf.lt j hj).2 fun z => hW.bne (by unfold On at z; rw [← z]; exact hj)
        · rw [hk]
          refine row_heap hpop fun j hj => ?_
          simp only [Value.ownBlock, Option.some.injEq] at hj
          exact f.block j (by omega) fun z => hgne (by unfold On at z; omega)
      have hplt := hW.pr.lt
      have HW5 : Hid (Pws w0 pb v root G cs l qs ((wr.alloc (.cells #[str t, .int .i64 a] 62)).setCell ⟨pb, 6, none⟩ (.slice (some ⟨g, 0, none⟩) k cap)).drew.drew ∧ ((wr.alloc (.cells #[str t, .int .i64 a] 62)).setCell ⟨pb, 6, none⟩ (.slice (some ⟨g, 0, none⟩) k cap)).drew.drew.heap[wr.heap.size]? = some (.cells #[str t, .int .i64 a] 62 (0, 0))) := by
        refine ⟨(hY _).kp (kp_trans (kp_drew _) (kp_drew _)), ?_⟩
        show ((wr.alloc (.cells #[str t, .int .i64 a] 62)).setCell ⟨pb, 6, none⟩ (.slice (some ⟨g, 0, none⟩) k cap)).heap[wr.heap.size]? = _
        rw [heap_setCell_other (by omega)]
        exact alloc_new wr _
      have HST : Hid (¬ (800000 < l.length + t.length ∨ 800000 < k + 1) ∧ (if a = -1 then prF L m qs (l ++ t) else if okP L a k then prF L m (qs ++ pushP (nodeAt L a)) (l ++ t ++ sayP (nodeAt L a)) else none) = some X ∧ qs.length = k) := ⟨hstep.1, hstep.2, hk⟩
      have c6a : ∀ ob, (wr.alloc ob).cell? ⟨pb, 6, none⟩ = some (.slice (some ⟨g, 0, none⟩) (k + 1) cap) := fun ob => kp_cell (kp_alloc _ _) c6
      have f6a : ∀ ob, (wr.alloc ob).frozen? ⟨pb, 6, none⟩ = false := fun ob => (hW.kp' (kp_alloc wr ob)).pr.fz 6
      have HS0 : Hid (∀ x, Kp wr x → Sp pb g k cap t a x) := fun x q => ⟨kp_cell q c6, kp_cell q kc0, kp_cell q kc1⟩
      have rs6 : ∀ w', Sp pb g k cap t a w' → w'.cell? ⟨pb, 6, none⟩ = some (.slice (some ⟨g, 0, none⟩) (k + 1) cap) := fun _ h => h.1
      have rs0 : ∀ w', Sp pb g k cap t a w' → w'.cell? ⟨g, k * 2, none⟩ = some (str t) := fun _ h => h.2.1
      have rs1 : ∀ w', Sp pb g k cap t a w' → w'.cell? ⟨g, k * 2 + 1, none⟩ = some (.int .i64 a) := fun _ h => h.2.2
      have hk8 : k ≤ 800000 := by have := hstep.1; omega
      have hwk : IntKind.i64.wrap (k : Int) = (k : Int) := by rw [IntKind.wrap_i64]; omega
      have hkk : ((k : Int) < (k : Int) + 1) := by omega
      unfold maxLen at k2
      clear hF hW hY hstep hgne hglt hplt hpop hk kc0 kc1 rl1 rl2 rl3
      go_wp2_with fail
      refine wp_region_noPanic ?_
      refine wp_region_held_drew (S := Sp pb g k cap t a) (by kernel_rfl) (HS0.out _ (kp_drew _)) (fun hHeld => ?_)
      refine takeAt 0 (some 31) ?_ rfl rfl (by kernel_rfl) (by kernel_rfl) (by kernel_rfl) (fun _ _ _ h => h) (Or.inl ⟨by rfl, ?_⟩) hHeld ?_
      rotate_left
      · intro w hSw
        go_simp <;> with_reducible rfl
      try simp only [Act.put, List.setIfInBounds_toArray, List.set_cons_zero, List.set_cons_succ]
      refine takeAt 1 (some 32) ?_ rfl rfl (by kernel_rfl) (by kernel_rfl) (by kernel_rfl) (fun _ _ _ h => h) (Or.inl ⟨by rfl, ?_⟩) hHeld ?_
      rotate_left
      · intro w hSw
        go_simp <;> with_reducible rfl
      try simp only [Act.put, List.setIfInBounds_toArray, List.set_cons_zero, List.set_cons_succ]
      refine takeAt 2 (some 33) ?_ rfl rfl (by kernel_rfl) (by kernel_rfl) (by kernel_rfl) (fun _ _ _ h => h) (Or.inl ⟨by rfl, ?_⟩) hHeld ?_
      rotate_left
      · intro w hSw
        go_simp <;> with_reducible rfl
      try simp only [Act.put, List.setIfInBounds_toArray, List.set_cons_zero, List.set_cons_succ]
      refine takeAt 3 (some 34) ?_ rfl rfl (by kernel_rfl) (by kernel_rfl) (by kernel_rfl) (fun _ _ _ h => h) (Or.inl ⟨by rfl, ?_⟩) hHeld ?_
      rotate_left
      · intro w hSw
        go_simp <;> with_reducible rfl
      try simp only [Act.put, List.setIfInBounds_toArray, List.set_cons_zero, List.set_cons_succ]
      refine takeAt 4 (some 35) ?_ rfl rfl (by kernel_rfl) (by kernel_rfl) (by kernel_rfl) (fun _ _ _ h => h) (Or.inl ⟨by rfl, ?_⟩) hHeld ?_
      rotate_left
      · intro w hSw
        go_simp <;> with_reducible rfl
      try simp only [Act.put, List.setIfInBounds_toArray, List.set_cons_zero, List.set_cons_succ]
      refine takeAt 5 (some 36) ?_ rfl rfl (by kernel_rfl) (by kernel_rfl) (by kernel_rfl) (fun _ _ _ h => h) (Or.inl ⟨by rfl, ?_⟩) hHeld ?_
      rotate_left
      · intro w hSw
        go_simp <;> with_reducible rfl
      try simp only [Act.put, List.setIfInBounds_toArray, List.set_cons_zero, List.set_cons_succ]
      refine takeAt 6 (some 37) ?_ rfl rfl (by kernel_rfl) (by kernel_rfl) (by kernel_rfl) (fun _ _ _ h => h) (Or.inl ⟨by rfl, ?_⟩) hHeld ?_
      rotate_left
      · intro w hSw
        go_simp <;> with_reducible rfl
      try simp only [Act.put, List.setIfInBounds_toArray, List.set_cons_zero, List.set_cons_succ]
      refine takeAt 7 (some 38) ?_ rfl rfl (by kernel_rfl) (by kernel_rfl) (by kernel_rfl) (fun _ _ _ h => h) (Or.inl ⟨by rfl, ?_⟩) hHeld ?_
      rotate_left
      · intro w hSw
        go_simp <;> with_reducible rfl
      try simp only [Act.put, List.setIfInBounds_toArray, List.set_cons_zero, List.set_cons_succ]
      refine takeAt 8 (some 39) ?_ rfl rfl (by kernel_rfl) (by kernel_rfl) (by kernel_rfl) (fun _ _ _ h => h) (Or.inl ⟨by rfl, ?_⟩) hHeld ?_
      rotate_left
      · intro w hSw
        go_simp <;> with_reducible rfl
      try simp only [Act.put, List.setIfInBounds_toArray, List.set_cons_zero, List.set_cons_succ]
      refine takeAt 9 (some 40) ?_ rfl rfl (by kernel_rfl) (by kernel_rfl) (by kernel_rfl) (fun _ _ _ h => h) (Or.inl ⟨by rfl, ?_⟩) hHeld ?_
      rotate_left
      · intro w hSw
        go_simp <;> with_reducible rfl
      try simp only [Act.put, List.setIfInBounds_toArray, List.set_cons_zero, List.set_cons_succ]
      refine takeAt 10 (some 41) ?_ rfl rfl (by kernel_rfl) (by kernel_rfl) (by kernel_rfl) (fun _ _ _ h => h) (Or.inl ⟨by rfl, ?_⟩) hHeld ?_
      rotate_left
      · intro w hSw
        go_simp <;> with_reducible rfl
      try simp only [Act.put, List.setIfInBounds_toArray, List.set_cons_zero, List.set_cons_succ]
      refine takeAt 11 (some 42) ?_ rfl rfl (by kernel_rfl) (by kernel_rfl) (by kernel_rfl) (fun _ _ _ h => h) (Or.inl ⟨by rfl, ?_⟩) hHeld ?_
      rotate_left
      · intro w hSw
        go_simp <;> with_reducible rfl
      try simp only [Act.put, List.setIfInBounds_toArray, List.set_cons_zero, List.set_cons_succ]
      refine wpAnyH_ready (rs := [12]) (by kernel_rfl) (by simp) ?_
      refine AllReadyH.cons rfl (fun K hK => ?_) AllReadyH.nil
      go_simp
      refine hK.out _ _ (HS0.out _ (kp_trans (kp_alloc _ _) (kp_drew _))) (fun hHeld => ?_)
      clear hK K
      try simp only [Act.put, List.setIfInBounds_toArray, List.set_cons_zero, List.set_cons_succ]
      refine wpAnyH_ready (rs := [13]) (by kernel_rfl) (by simp) ?_
      refine AllReadyH.cons rfl (fun K hK => ?_) AllReadyH.nil
      go_simp
      refine hK.out _ _ (HS0.out _ (kp_trans (kp_alloc _ _) (kp_drew _))) (fun hHeld => ?_)
      clear hK K
      try simp only [Act.put, List.setIfInBounds_toArray, List.set_cons_zero, List.set_cons_succ]
      refine wpAnyH_done (by kernel_rfl) ?_ _
      refine NoPanic.normal ?_
      go_wp2_with fail
      go_region
      go_wp2_with fail
      generalize ((wr.alloc (.cells #[str t, .int .i64 a] 62)).setCell ⟨pb, 6, none⟩ (.slice (some ⟨g, 0, none⟩) k cap)).drew.drew = W at HW5 ⊢
      have cb0 : W.cell? ⟨wr.heap.size, 0, none⟩ = some (str t) := by rw [cell_at HW5.out.2]; rfl
      clear c6a f6a c6 rs6 rs0 rs1 hHeld HS0
      have HW6 : Hid (Calls Tryz.prog 18 #[.pointer (some ⟨pb, 4, none⟩), str t] W.drew fun e w' => e = .returned (.tuple #[.int .i64 t.length, .nilIface]) ∧ Pws w0 pb v root G cs (l ++ t) qs w' ∧ w'.heap[wr.heap.size]? = some (.cells #[str t, .int .i64 a] 62 (0, 0))) :=
        (write_any (HW5.out.1.kp (kp_drew W)) t (by have := HST.out.1; omega)).mono fun e w' q => ⟨q.1, q.2.1, q.2.2 _ (by decide) (by decide) _ _ HW5.out.2⟩
      go_region_with (go_at_call 18; refine Calls.mono HW6.out ?_; rintro e w5 ⟨rfl, q5, b5⟩)
      have HP5 : Hid (Pws w0 pb v root G cs (l ++ t) qs w5 ∧ w5.heap[wr.heap.size]? = some (.cells #[str t, .int .i64 a] 62 (0, 0))) := ⟨q5, b5⟩
      have cb1 : w5.cell? ⟨wr.heap.size, 1, none⟩ = some (.int .i64 a) := by rw [cell_at b5]; rfl
      clear q5 b5 cb0 HW6
      by_cases ha : a = -1
      · subst ha
        go_wp2_with fail
        have hs : prF L m qs (l ++ t) = some X := by have := HST.out.2.1; simpa using this
        refine ⟨⟨m, l ++ t, qs, hs, HP5.out.1⟩, ?_⟩
        rw [HM.out]
        exact Nat.lt_succ_of_le (least_le ⟨l ++ t, qs, hs, HP5.out.1⟩)
      · have hda : (a == -1) = false := by simpa using ha
        have hst := HST.out.2.1
        rw [if_neg ha] at hst
        have hok : okP L a k = true := by
          cases hq : okP L a k with
          | true => rfl
          | false => rw [hq] at hst; cases hst
        rw [hok, if_pos rfl] at hst
        have HSt : Hid (prF L m (qs ++ pushP (nodeAt L a)) (l ++ t ++ sayP (nodeAt L a)) = some X) := hst
        clear hst
        unfold okP at hok
        simp only [Bool.and_eq_true, Bool.or_eq_true, Bool.not_eq_true', decide_eq_true_eq] at hok
        obtain ⟨⟨hhas, hinn⟩, hlen⟩ := hok
        obtain ⟨va, vc, rfl, _, vcc, _⟩ := id HQ.out.1
        obtain ⟨na, nb, no, kv, rfl, hna, rfl, hcs, hks⟩ := HQ.out.1.node hhas
        obtain ⟨d, hd⟩ : ∃ d, nodeAt L na = d := ⟨_, rfl⟩
        have hdm : d ∈ L := by
          rw [← hd]; unfold nodeAt
          rw [Int.toNat_natCast, List.getElem?_eq_getElem hna]
          exact List.getElem_mem hna
        rw [hd] at hcs hks hinn hlen
        have HSt2 : Hid (prF L m (qs ++ pushP d) (l ++ t ++ sayP d) = some X) := by have := HSt.out; rw [hd] at this; exact this
        have k5 : Kp w0 w5 := by obtain ⟨_, _, _, z⟩ := HP5.out.1; exact z.kp
        have HN7 : Hid (Calls Tryz.prog 19 #[.pointer (some ⟨pb, 0, none⟩), d.val kv] w5.drew fun e w' => e = .returned (.tuple #[]) ∧ Pws w0 pb (.slice (some ⟨nb, no, none⟩) L.length vc) root G cs (l ++ t ++ sayP d) (qs ++ pushP d) w') :=
          node_any (HP5.out.1.kp (kp_drew w5)) HQ.out.2.1 d (HQ.out.2.2.2.1 d hdm) hks (fun z => by
            rcases hinn with y | y
            · rw [z] at y; cases y
            · intro e; rw [e] at y; cases y) (by rw [HST.out.2.2]; omega) (by rw [List.length_append]; have := HST.out.1; omega)
        unfold Nq.val at HN7
        have n0 : w5.cell? ⟨nb, no + na * 11, none⟩ = some (.int .u8 d.op) := kp_cell k5 (hcs 0 _ rfl)
        have n1 := kp_cell k5 (hcs 1 _ rfl)
        have n2 := kp_cell k5 (hcs 2 _ rfl)
        have n3 := kp_cell k5 (hcs 3 _ rfl)
        have n4 := kp_cell k5 (hcs 4 _ rfl)
        have n5 := kp_cell k5 (hcs 5 _ rfl)
        have n6 := kp_cell k5 (hcs 6 _ rfl)
        have n7 := kp_cell k5 (hcs 7 _ rfl)
        have n8 := kp_cell k5 (hcs 8 _ rfl)
        have n9 := kp_cell k5 (hcs 9 _ rfl)
        have n10 := kp_cell k5 (hcs 10 _ rfl)
        obtain ⟨ka, kc, rfl, _, _, _⟩ := id hks
        have p0 : w5.cell? ⟨pb, 0, none⟩ = some (.slice (some ⟨nb, no, none⟩) L.length vc) := by
          obtain ⟨_, _, _, z⟩ := HP5.out.1
          exact z.pr.cells.1
        unfold maxLen at vcc
        clear hcs hks hinn hlen hhas hdm k5 hd
        go_wp2_with fail
        go_region_with (go_at_call 19; refine Calls.mono HN7.out ?_; rintro e w7 ⟨rfl, q7⟩)
        all_goals
          have HP7 : Hid _ := q7
          clear q7
          go_wp2_with fail
          refine ⟨⟨m, _, _, HSt2.out, HP7.out⟩, ?_⟩
          rw [HM.out]
          exact Nat.lt_succ_of_le (least_le ⟨_, _, HSt2.out, HP7.out⟩)
end
end Go.Proofs.YtpahpnajeliodaaGreatDoor
/- Print. -/
namespace Go.Proofs.YtpahpnajeliodaaGreatDoor
open Go.ChangeShapes Go.WideShapes Go.ChangeAt Go.RowKit
set_option linter.unusedVariables false
set_option linter.unusedSimpArgs false
section
variable {w : World} {v : Value} {root G : Int} {cs : Nat} {L : List Nq}
set_option maxHeartbeats 4000000 in
set_option maxRecDepth 100000 in
theorem pprint_any {K : Nat} (hv : Pt w v L) (hK : ∀ d ∈ L, d.kids.length ≤ K) (hM : K * L.length ≤ 10000000) (hLl : L.length ≤ 10000000) (g : Gl w) (hG : Sm G) (hL : ∀ d ∈ L, Nok d) (hs : soundF L root G = true) {X : List UInt8} {n : Nat} (hX : prF L n [(headT G cs, root)] [] = some X) (hne : X ≠ []) :
    Calls Tryz.prog 6 #[.agg #[v, .int .i64 root, .int .i64 G, .int .u8 cs]] w fun e w' => e = .returned (str X) ∧ Kp w w' := by
  have HS : Hid (∀ x, Kp w x → Calls Tryz.prog 9 #[.agg #[v, .int .i64 root, .int .i64 G, .int .u8 cs]] x fun e w' => e = .returned (.bool true) ∧ Kp x w') := fun x k => by
    have := sound_any (hv.kp k) root G cs hK hM hLl
    rw [hs] at this
    exact this
  have HP : Hid (∀ x pb, Kp w x → w.heap.size ≤ pb → Pr pb v root G cs (.pointer none) (.slice none 0 0) (.slice none 0 0) x → Calls Tryz.prog 10 #[.pointer (some ⟨pb, 0, none⟩)] x fun e w' => e = .returned (str X) ∧ Kp w w') := fun x pb k hb hp =>
    print_any ⟨_, _, _, k, hb, hp, .inl rfl, World.ownsRow_nil _ _ _ _, World.ownsRow_nil _ _ _ _⟩ hv g hG hL hX hne
  obtain ⟨va, vc, rfl, _, _, _⟩ := id hv
  clear hv hK hM hLl g hG hL hs hX hne
  go_enter Tryz.func6, Tryz.ntmps6
  go_wp2_with fail
  refine Calls.mono (HS.out _ (kp_alloc _ _)) ?_
  rintro e w1 ⟨rfl, q⟩
  have k1 : Kp w w1 := kp_trans (kp_alloc _ _) q
  have hb : PBox w.heap.size (.slice va L.length vc) root G cs w1 := (show PBox _ _ _ _ _ (w.alloc _) from alloc_new w _).kp q
  obtain ⟨c0, c1, c2, c3⟩ := hb.cells
  have HK : Hid (Kp w w1) := k1
  clear q k1 hb
  go_wp2_with fail
  refine Calls.mono (HP.out _ _ (kp_trans HK.out (kp_alloc _ _)) HK.out.size (alloc_new w1 _)) ?_
  rintro e w2 ⟨rfl, q⟩
  have HZ : Hid _ := q
  clear q
  go_wp2_with fail
  go_ret
  exact ⟨rfl, HZ.out⟩
end
end Go.Proofs.YtpahpnajeliodaaGreatDoor
/- The chapter's examples, read and written by the models. -/
namespace Go.Proofs.YtpahpnajeliodaaGreatDoor
open Go.ChangeShapes Go.WideShapes Go.ChangeAt Go.RowKit
set_option linter.unusedVariables false
set_option linter.unusedSimpArgs false
set_option maxRecDepth 100000
/-- What is told of a pattern that was read. -/
def see (R : Except (Nat × Nat) (Nat × RS)) : Except (Nat × Nat) (Nat × Nat × Nat × List Nd) :=
  match R with
  | .ok (i, r) => .ok (i, r.g, r.cs, r.nds)
  | .error x => .error x
def L1 : List Nd := [{ op := 2, c := 97 }, { op := 7, mn := 0, mx := -1, kids := [0] }]
def L2 : List Nd := [{ op := 2, c := 97 }, { op := 2, c := 98 }, { op := 8, n := 1, kids := [1] }, { op := 7, mn := 1, mx := -1, kids := [2] }, { op := 6, kids := [0, 3] }]
theorem kn1 : see (parF ⟨#[97, 42]⟩ ⟨#[]⟩) = .ok (1, 0, 0, L1) := by kernel_rfl
theorem kn2 : see (parF ⟨#[92, 118, 97, 124, 40, 98, 41, 43]⟩ ⟨#[]⟩) = .ok (4, 1, 0, L2) := by kernel_rfl
theorem kn3 : see (parF ⟨#[97, 92, 43, 92, 43]⟩ ⟨#[]⟩) = .error (32, 3) := by kernel_rfl
theorem ks1 : soundF (L1.map Nd.q) 1 0 = true := by kernel_rfl
theorem ks2 : soundF (L2.map Nd.q) 4 1 = true := by kernel_rfl
def T1 : List UInt8 := [48, 97, 58, 123, 48, 44, 45, 49, 125, 98, 54, 49]
def T2 : List UInt8 := [49, 97, 58, 40, 98, 54, 49, 124, 123, 49, 44, 45, 49, 125, 60, 49, 98, 54, 50, 62, 41]
theorem kp1 : prF (L1.map Nd.q) 20 [(headT 0 0, 1)] [] = some T1 := by kernel_rfl
theorem kp2 : prF (L2.map Nd.q) 40 [(headT 1 0, 4)] [] = some T2 := by kernel_rfl
end Go.Proofs.YtpahpnajeliodaaGreatDoor
/- What is read is sound, and a tree. -/
namespace Go.Proofs.YtpahpnajeliodaaGreatDoor
set_option linter.unusedVariables false
set_option linter.unusedSimpArgs false
theorem nodup_len : ∀ (n : Nat) (l : List Nat), l.Nodup → (∀ x ∈ l, x < n) → l.length ≤ n
  | 0, l, _, h => by
    cases l with
    | nil => simp
    | cons a l => have := h a (by simp); omega
  | n + 1, l, hd, h => by
    by_cases hn : n ∈ l
    · have h1 := nodup_len n (l.erase n) (hd.erase n) (fun x hx => by
        have hx' := (hd.mem_erase_iff).1 hx
        have := h x hx'.2
        have := hx'.1
        omega)
      have h2 := List.length_erase_of_mem hn
      omega
    · have := nodup_len n l hd (fun x hx => by
        have h1 := h x hx
        have h2 : x ≠ n := fun e => hn (e ▸ hx)
        omega)
      omega
section
variable {r : RS} {A : List Nat} {i : Nat}
theorem node_q {nds : List Nd} {k : Nat} {d : Nd} (h : nds[k]? = some d) : nodeAt (nds.map Nd.q) (k : Int) = d.q ∧ hasB (nds.map Nd.q) (k : Int) = true := by
  have hl := (List.getElem?_eq_some_iff.1 h).1
  refine ⟨by unfold nodeAt; rw [Int.toNat_natCast, List.getElem?_map, h]; rfl, decide_eq_true ⟨by omega, by rw [List.length_map]; omega⟩⟩
theorem bytes_q {nds : List Nd} : ∀ ks : List Nat, (∀ x ∈ ks, ∃ e, nds[x]? = some e ∧ e.op = 2) → bytesB (nds.map Nd.q) (ks.map fun (k : Nat) => (k : Int)) = true
  | [], _ => rfl
  | k :: ks, h => by
    obtain ⟨e, h1, h2⟩ := h k (by simp)
    obtain ⟨q1, q2⟩ := node_q h1
    rw [List.map_cons, bytesB, q1, q2, bytes_q ks fun x hx => h x (by simp [hx])]
    have : e.q.op = 2 := h2
    simp [this]
theorem Wf.fit (h : Wf r A) {k : Nat} {d : Nd} (hd : r.nds[k]? = some d) : fitB (r.nds.map Nd.q) (r.g : Int) d.q = true := by
  have hl : d.q.kids.length = d.kids.length := by simp [Nd.q]
  have eop : d.q.op = d.op := rfl
  have en : d.q.n = (d.n : Int) := rfl
  have hkl := h.kl k d hd
  have hkk := (List.getElem?_eq_some_iff.1 hd).1
  unfold fitB
  rw [eop, hl, en]
  rcases h.sh k d hd with ⟨h1, h2⟩ | ⟨h1, h2⟩ | ⟨h1, h2⟩ | ⟨h1, x, h2⟩ | ⟨h1, x, h2, hb, hr, hp⟩
  · rw [if_pos h1, h2]; rfl
  · rw [if_neg (by rcases h1 with h1 | h1 <;> rw [h1] <;> decide), if_pos h1]
    exact decide_eq_true h2
  · have hn := h.ns k d hd (.inr h1)
    rw [h1, if_neg (by decide), if_neg (by omega), if_pos rfl, h2]
    simp [isG]; omega
  · have hn := h.ns k d hd (.inl h1)
    rw [h1, if_neg (by decide), if_neg (by omega), if_neg (by omega), if_pos rfl, h2]
    simp [isG]; omega
  · rw [h1, if_neg (by decide), if_neg (by omega), if_neg (by omega), if_neg (by omega), if_pos rfl, h2]
    have eh : d.q.kids.headD 0 = (x : Int) := by simp [Nd.q, h2]
    have hx : x < r.nds.length := by have := hkl x (by rw [h2]; simp); omega
    obtain ⟨e, he⟩ : ∃ e, r.nds[x]? = some e := ⟨_, List.getElem?_eq_getElem hx⟩
    obtain ⟨q1, q2⟩ := node_q he
    have hre : repB e.op = true := by unfold opA at hr; rw [he] at hr; exact hr
    rw [eh]
    unfold mayB timesB
    rw [q1, q2]
    have e1 : d.q.mn = d.mn := rfl
    have e2 : d.q.mx = d.mx := rfl
    have e3 : e.q.op = e.op := rfl
    have e4 : e.q.kids = e.kids.map fun (k : Nat) => (k : Int) := rfl
    rw [e1, e2, e3, e4, hre]
    have hbb : (!(e.op == 5) || bytesB (r.nds.map Nd.q) (e.kids.map fun (k : Nat) => (k : Int))) = true := by
      by_cases h5 : e.op = 5
      · rw [bytes_q e.kids (hp e he h5)]; simp
      · simp [h5]
    rw [hbb, decide_eq_true hb]
    rfl
theorem Wf.tree (h : Wf r A) : ∀ (f : Nat) (ns : List Nat) (asked : List Bool), asked.length = r.nds.length → asked.count false < f → ns.Nodup → (∀ x ∈ ns, asked[x]? = some false) →
    (∀ x ∈ ns, ∀ (k : Nat) (d : Nd), r.nds[k]? = some d → asked[k]? = some false → x ∉ d.kids) → (∀ (k : Nat) (d : Nd), r.nds[k]? = some d → asked[k]? = some false → ∀ x ∈ d.kids, asked[x]? = some false) →
    treeF (r.nds.map Nd.q) (r.g : Int) f (ns.map fun (k : Nat) => (k : Int)) asked = true
  | 0, ns, asked, _, hc, _, _, _, _ => by omega
  | f + 1, ns, asked, hl, hc, hnd, hun, hfr, hkid => by
    rw [treeF]
    cases hg : ns.getLast? with
    | none =>
      have : ns = [] := List.getLast?_eq_none_iff.1 hg
      subst this; rfl
    | some a =>
      obtain ⟨l, rfl⟩ := List.getLast?_eq_some_iff.1 hg
      have ha := hun a (by simp)
      have hal : a < r.nds.length := by rw [← hl]; exact (List.getElem?_eq_some_iff.1 ha).1
      obtain ⟨d, hd⟩ : ∃ d, r.nds[a]? = some d := ⟨_, List.getElem?_eq_getElem hal⟩
      obtain ⟨q1, q2⟩ := node_q hd
      have hgd : asked.getD a false = false := by rw [List.getD_eq_getElem?_getD, ha]; rfl
      have hnd' := List.nodup_append.1 hnd
      have hkl := h.kl a d hd
      simp only [List.map_append, List.map_cons, List.map_nil, List.getLast?_concat, List.dropLast_concat, q1, q2, Int.toNat_natCast, hgd, h.fit hd, Bool.not_false, Bool.and_self, if_true]
      have e4 : d.q.kids = d.kids.map fun (k : Nat) => (k : Int) := rfl
      rw [e4, ← List.map_append]
      have hset : ∀ x, x ≠ a → (asked.set a true)[x]? = asked[x]? := fun x hx => List.getElem?_set_ne (fun e => hx e.symm)
      have hcount := count_set ha
      have hun' : ∀ k, (asked.set a true)[k]? = some false → k ≠ a ∧ asked[k]? = some false := fun k hk => by
        by_cases e : k = a
        · subst e
          rw [List.getElem?_set_self (by omega)] at hk
          cases hk
        · rw [hset k e] at hk; exact ⟨e, hk⟩
      refine Wf.tree h f (l ++ d.kids) (asked.set a true) (by rw [List.length_set]; exact hl) (by omega) ?_ ?_ ?_ ?_
      · refine List.nodup_append.2 ⟨hnd'.1, h.kn a d hd, fun x hx y hy e => ?_⟩
        subst e
        exact hfr x (by simp [hx]) a d hd ha hy
      · intro x hx
        rw [List.mem_append] at hx
        rcases hx with hx | hx
        · rw [hset x (fun e => hnd'.2.2 x hx a (by simp) e)]
          exact hun x (by simp [hx])
        · rw [hset x (by have := hkl x hx; omega)]
          exact hkid a d hd ha x hx
      · intro x hx k e he hk hc
        obtain ⟨k1, k2⟩ := hun' k hk
        rw [List.mem_append] at hx
        rcases hx with hx | hx
        · exact hfr x (by simp [hx]) k e he k2 hc
        · exact k1 (h.own k a e d x he hd hc hx)
      · intro k e he hk x hx
        obtain ⟨k1, k2⟩ := hun' k hk
        rw [hset x (fun q => hfr a (by simp) k e he k2 (q ▸ hx))]
        exact hkid k e he k2 x hx
theorem Wf.sound (h : Wf r [i]) : soundF (r.nds.map Nd.q) (i : Int) (r.g : Int) = true := by
  have hg := h.g
  have hi := h.lt i (by simp)
  unfold soundF
  rw [decide_eq_true ⟨by omega, by omega⟩, Bool.true_and, List.length_map]
  have hrep : ∀ x, x < r.nds.length → (List.replicate r.nds.length false)[x]? = some false := fun x hx => by simp [hx]
  refine h.tree (r.nds.length + 1) [i] (List.replicate r.nds.length false) (by simp) (by simp) (by simp) (fun x hx => ?_) (fun x hx k d hd _ => ?_) (fun k d hd _ x hx => ?_)
  · simp only [List.mem_singleton] at hx; subst hx; exact hrep x hi
  · exact h.fr x hx k d hd
  · have := h.kl k d hd x hx
    have := (List.getElem?_eq_some_iff.1 hd).1
    exact hrep x (by omega)
end
/-- All that is known of a text that is read. -/
theorem par_all {s last : ByteArray} {i gs cs : Nat} {nds : List Nd} (h : see (parF s last) = .ok (i, gs, cs, nds)) :
    ∃ t, soundF (nds.map Nd.q) (i : Int) (gs : Int) = true ∧ toT (nds.map Nd.q) (i + 1) (i : Int) = some t ∧ t.gd ∧ t.size ≤ 1200 ∧ nds.length ≤ 400 ∧ ∀ d ∈ nds.map Nd.q, d.kids.length ≤ 400 := by
  cases hp : parF s last with
  | error e => rw [hp] at h; cases e; cases h
  | ok x =>
    obtain ⟨j, r⟩ := x
    rw [hp] at h
    obtain ⟨hw, hl⟩ := parF_wf hp
    have h' : (Except.ok (j, r.g, r.cs, r.nds) : Except (Nat × Nat) (Nat × Nat × Nat × List Nd)) = .ok (i, gs, cs, nds) := h
    injection h' with h'
    injection h' with e1 h'
    injection h' with e2 h'
    injection h' with e3 e4
    subst e1 e2 e3 e4
    obtain ⟨T, hT, hz⟩ := hw.tr
    have hj := hw.lt j (by simp)
    obtain ⟨g1, g2⟩ := hT j hj
    refine ⟨T j, hw.sound, g2 (j + 1) (by omega), g1, ?_, hl, fun d hd => ?_⟩
    · simp [seqSz] at hz; omega
    · obtain ⟨e, he, rfl⟩ := List.mem_map.1 hd
      obtain ⟨k, hk, hke⟩ := List.getElem_of_mem he
      have hk' : r.nds[k]? = some e := by rw [List.getElem?_eq_getElem hk, hke]
      have := nodup_len k e.kids (hw.kn k e hk') (hw.kl k e hk')
      simp only [Nd.q, List.length_map]
      omega
end Go.Proofs.YtpahpnajeliodaaGreatDoor
/- A fault has its number. -/
namespace Go.Proofs.YtpahpnajeliodaaGreatDoor
set_option linter.unusedVariables false
set_option linter.unusedSimpArgs false
def Nz (e : Nat × Nat) : Prop := e.1 = 30 ∨ e.1 = 31 ∨ e.1 = 32 ∨ e.1 = 33
section
variable {s last : ByteArray} {r r' : RS} {t : Tok} {i n : Nat} {ks : List Nat} {e : Nat × Nat}
theorem nz30 {p : Nat} {α : Type} (h : (.error (30, p) : Except (Nat × Nat) α) = .error e) : Nz e := by cases h; exact .inl rfl
theorem nz31 {p : Nat} {α : Type} (h : (.error (31, p) : Except (Nat × Nat) α) = .error e) : Nz e := by cases h; exact .inr (.inl rfl)
theorem nz32 {p : Nat} {α : Type} (h : (.error (32, p) : Except (Nat × Nat) α) = .error e) : Nz e := by cases h; exact .inr (.inr (.inl rfl))
theorem nz33 {p : Nat} {α : Type} (h : (.error (33, p) : Except (Nat × Nat) α) = .error e) : Nz e := by cases h; exact .inr (.inr (.inr rfl))
theorem next_err : ∀ (f k : Nat) (md : ByteArray) (cs : Nat), nextF s f k md cs = .error e → Nz e
  | 0, k, md, cs, h => nz30 h
  | f + 1, k, md, cs, h => by
    rw [nextF] at h
    split at h
    · exact nz30 h
    · split at h
      · split at h
        · exact next_err f _ _ _ h
        · cases h
      · cases h
theorem many_err (h : manyF s t ks r = .error e) : Nz e := by
  unfold manyF at h
  split at h
  · split at h
    · exact nz32 h
    · cases h
  · split at h
    · split at h
      · rename_i x hx
        cases h
        unfold timesF at hx
        split at hx
        · cases hx
        · split at hx
          · cases hx
          · split at hx
            · split at hx
              · exact nz32 hx
              · cases hx
            · cases hx
      · cases h
    · split at h
      · exact nz32 h
      · cases h
theorem letter_err (h : letterF s t r = .error e) : Nz e := by
  unfold letterF at h
  split at h
  · cases h
  split at h
  · cases h
  split at h
  · unfold edgeF at h
    split at h
    · cases h
    · split at h
      · cases h
      · exact nz30 h
  split at h
  · unfold backF at h
    split at h
    · cases h
    · exact nz31 h
  split at h
  · cases h
  · exact nz30 h
theorem piece_err {G : Tok → RS → Except (Nat × Nat) (Nat × RS)} {first : Bool} (hG : G t r = .error e → Nz e) (h : pieceF G s last t first r = .error e) : Nz e := by
  unfold pieceF at h
  split at h
  · unfold signF at h
    split at h
    · split at h <;> cases h
    split at h
    · unfold eolF at h
      split at h
      · rename_i x hx; cases h; exact next_err _ _ _ _ hx
      · split at h <;> cases h
    split at h
    · cases h
    split at h
    · cases h
    split at h
    · cases h
    split at h
    · cases h
    split at h
    · unfold setF at h
      split at h
      · rename_i x hx
        cases h
        unfold collF at hx
        split at hx
        · cases hx
        · split at hx
          · exact nz30 hx
          · cases hx
      · cases h
      · cases h
    split at h
    · exact hG h
    · cases h
  · split at h
    · exact letter_err h
    · cases h
theorem group_err {BR : RS → Except (Nat × Nat) (Nat × Tok × RS)} (hd : Gd s r) (hB : r.g ≠ 9 → BR { r with g := r.g + 1 } = .error e → Nz e) (h : groupF BR t r = .error e) : Nz e := by
  unfold groupF at h
  split at h
  · exact nz31 h
  · rename_i h9
    split at h
    · rename_i x hx; cases h; exact hB h9 hx
    · split at h
      · exact nz31 h
      · cases h
theorem br_err {P : Tok → Bool → RS → Except (Nat × Nat) (Nat × RS)} {g0 : Nat} (hP : ∀ t r ks i r', MdJ s g0 t r ks → P t ks.isEmpty r = .ok (i, r') → Aft s 0 0 r i r') (hE : ∀ t r ks e, MdJ s g0 t r ks → P t ks.isEmpty r = .error e → Nz e) :
    ∀ (f : Nat) (r : RS) (ks : List Nat), HdI s g0 r ks → s.size < r.k + f → brF P s f r ks = .error e → Nz e := by
  intro f
  induction f with
  | zero => intro r ks hI hf; have := hI.gd.sz; omega
  | succ f ih =>
    intro r ks hI hf h
    rw [brF] at h
    split at h
    · rename_i x hx; cases h; exact next_err _ _ _ _ hx
    · rename_i t1 k md cs hn
      split at h
      · cases h
      · rename_i he
        obtain ⟨j1, j2⟩ := mdJ_of hI hn (Bool.eq_false_iff.2 he)
        split at h
        · split at h
          · rename_i x hx; cases h; exact many_err hx
          · rename_i ks' r1 hm
            obtain ⟨q1, q2⟩ := hdI_many j1 hm
            simp only at q2
            exact ih _ _ q1 (by omega) h
        · split at h
          · rename_i x hx; cases h; exact hE _ _ _ _ j1 hx
          · rename_i i1 r1 hp
            have a := hP _ _ _ _ _ j1 hp
            have ak := a.k
            simp only at ak
            exact ih _ _ (hdI_piece j1 a) (by omega) h
theorem brs_err {F : RS → Except (Nat × Nat) (Nat × Tok × RS)} {g0 : Nat} (hF : ∀ r ks i t r', HdI s g0 r ks → F r = .ok (i, t, r') → Aft s 1 (room t) r i r' ∧ (t.kd ≠ 0 → r.k < r'.k)) (hE : ∀ r ks e, HdI s g0 r ks → F r = .error e → Nz e) :
    ∀ (f : Nat) (r : RS) (ks : List Nat), HdI s g0 r ks → s.size < r.k + f → brsL F f r ks = .error e → Nz e := by
  intro f
  induction f with
  | zero => intro r ks hI hf; have := hI.gd.sz; omega
  | succ f ih =>
    intro r ks hI hf h
    rw [brsL] at h
    split at h
    · rename_i x hx; cases h; exact hE _ _ _ hI hx
    · rename_i i1 t1 r1 h1
      obtain ⟨a, b⟩ := hF _ _ _ _ _ hI h1
      split at h
      · rename_i hc
        have e1 := a.nd
        have e2 := a.k
        have e3 := a.up
        have e4 := a.g
        have l0 := hI.len
        have g0' := hI.g0
        have hk := b (by omega)
        have er : room t1 = 4 := by unfold room; rw [if_neg (by omega)]
        rw [er] at e1
        refine ih _ _ (⟨⟨a.sz, by omega, a.cl, a.g9⟩, by simp; omega, fun p hp => ?_, by omega⟩ : HdI s g0 r1 (ks ++ [i1])) (by omega) h
        simp only [List.mem_append, List.mem_singleton] at hp
        rcases hp with hp | hp
        · have := hI.lt p hp; omega
        · rw [hp]; exact a.i
      · cases h
theorem brsF_err (hla : last.size ≤ 1100) : ∀ (n : Nat) (r : RS) (e : Nat × Nat), 9 - r.g < n → Gd s r → brsF s last n r = .error e → Nz e
  | 0, _, _, hn, _, _ => by omega
  | n + 1, r, e, hn, hd, h => by
    rw [brsF] at h
    have hPa : ∀ t r1 ks i r', MdJ s r.g t r1 ks → pieceF (groupF (brsF s last n)) s last t ks.isEmpty r1 = .ok (i, r') → Aft s 0 0 r1 i r' := fun t r1 ks i r' hJ hp =>
      pieceF_aft hla hJ.sz hJ.nd hJ.cl hJ.g (fun i5 r5 h5 => groupF_aft hJ.gd (fun r6 i6 t6 r7 h6 h7 => brsF_aft hla n r6 i6 t6 r7 h6 h7) h5) hp
    refine brs_err (g0 := r.g) (fun r1 ks i t r' hI hb => brF_aft hPa _ _ _ _ _ _ (⟨hI.gd, by simp, fun p hp => by simp at hp, hI.g0⟩ : HdI s r.g r1 []) hb) (fun r1 ks1 e1 hI h1 => ?_) _ _ _ hd.hd (by omega) h
    refine br_err hPa (fun t2 r2 ks2 e2 hJ h2 => ?_) _ _ _ (⟨hI.gd, by simp, fun p hp => by simp at hp, hI.g0⟩ : HdI s r.g r1 []) (by omega) h1
    refine piece_err (fun h3 => group_err hJ.gd (fun h9 h4 => ?_) h3) h2
    have hg := hJ.g
    have hg0 := hJ.g0
    have hgd := hJ.gd
    have hgd1 : Gd s { r2 with g := r2.g + 1 } := ⟨hgd.sz, hgd.nd, hgd.cl, by show r2.g + 1 ≤ 9; omega⟩
    exact brsF_err hla n { r2 with g := r2.g + 1 } e2 (by show 9 - (r2.g + 1) < n; omega) hgd1 h4
theorem parF_err (h : parF s last = .error e) : Nz e := by
  unfold parF at h
  split at h
  · exact nz33 h
  · rename_i hsz
    unfold patF at h
    split at h
    · rename_i x hx
      cases h
      exact brsF_err (by omega) 10 rs0 e (by decide) ⟨Nat.zero_le _, by simp [rs0], by simp [rs0], by simp [rs0]⟩ hx
    · split at h
      · exact nz31 h
      · split at h
        · exact nz33 h
        · cases h
theorem see_err (h : see (parF s last) = .error e) : Nz e := by
  cases hp : parF s last with
  | error x => rw [hp] at h; cases h; exact parF_err hp
  | ok x => rw [hp] at h; cases x; cases h
end
end Go.Proofs.YtpahpnajeliodaaGreatDoor
/- More of what is read: groups are counted, numbers fit, a fault's place lies in the text. -/
namespace Go.Proofs.YtpahpnajeliodaaGreatDoor
set_option linter.unusedVariables false
set_option linter.unusedSimpArgs false
def c8 (nds : List Nd) : Nat := nds.countP fun d => d.op == 8
def NdSm (d : Nd) : Prop := d.c < 256 ∧ d.set.ok ∧ (-1 ≤ d.mn ∧ d.mn ≤ 60) ∧ (-1 ≤ d.mx ∧ d.mx ≤ 60) ∧ (d.op = 8 ∨ d.op = 9 ∨ d.n = 0)
structure Sg (r r' : RS) : Prop where
  cnt : r'.g + c8 r.nds ≤ r.g + c8 r'.nds
  nok : (∀ d ∈ r.nds, NdSm d) → ∀ d ∈ r'.nds, NdSm d
theorem c8_append (a b : List Nd) : c8 (a ++ b) = c8 a + c8 b := by simp [c8]
section
variable {s last : ByteArray} {r r' r1 : RS} {t : Tok} {i n : Nat} {ks : List Nat}
theorem Sg.refl (r : RS) : Sg r r := ⟨Nat.le_refl _, fun h => h⟩
theorem Sg.trans (a : Sg r r1) (b : Sg r1 r') : Sg r r' := ⟨by have := a.cnt; have := b.cnt; omega, fun h => b.nok (a.nok h)⟩
theorem sg_add {d : Nd} (h : NdSm d) : Sg r (addN d r).2 := by
  refine ⟨by simp only [addN, c8_append]; omega, fun q x hx => ?_⟩
  simp only [addN, List.mem_append, List.mem_singleton] at hx
  rcases hx with hx | rfl
  · exact q x hx
  · exact h
theorem sg_of {d : Nd} (e : (.ok (addN d r) : Except (Nat × Nat) (Nat × RS)) = .ok (i, r')) (h : NdSm d) : Sg r r' := by
  injection e with e
  have := sg_add (r := r) h
  rw [e] at this
  exact this
theorem sm0 (o c : Nat) (hc : c < 256) : NdSm { op := o, c := c } := ⟨hc, ok_zero, by simp, by simp, .inr (.inr rfl)⟩
theorem smK (o : Nat) (ks : List Nat) : NdSm { op := o, kids := ks } := ⟨by simp, ok_zero, by simp, by simp, .inr (.inr rfl)⟩
theorem smS {q : S4} (h : q.ok) : NdSm { op := 4, set := q } := ⟨by simp, h, by simp, by simp, .inr (.inr rfl)⟩
theorem join_sg (op : Nat) : Sg r (joinF op ks r).2 := by
  match ks with
  | [] => exact sg_add (smK 1 [])
  | [x] => exact Sg.refl r
  | x :: y :: l => exact sg_add (smK op _)
theorem again_sg : Sg r (againF last r).2 := by
  unfold againF
  split
  · exact sg_add (smK 1 [])
  · refine Sg.trans (r1 := { r with nds := r.nds ++ bytesN last.data.toList }) ⟨by simp only [c8_append]; omega, fun q x hx => ?_⟩ (join_sg 5)
    simp only [List.mem_append] at hx
    rcases hx with hx | hx
    · exact q x hx
    · simp only [bytesN, List.mem_map] at hx
      obtain ⟨b, _, rfl⟩ := hx
      exact sm0 2 _ b.toNat_lt
theorem ctl_lt {c : Nat} (h : c < 256) : ctlC c < 256 := by unfold ctlC; repeat' split
                                                            all_goals omega
theorem letter_sg (hc : t.c < 256) (h : letterF s t r = .ok (i, r')) : Sg r r' := by
  unfold letterF at h
  split at h
  · exact sg_of h (sm0 2 _ (ctl_lt hc))
  split at h
  · exact sg_of h (smK 4 [])
  split at h
  · unfold edgeF at h
    split at h
    · exact ⟨(sg_of (r := { r with k := r.k + 1 }) h (smK 14 [])).cnt, (sg_of (r := { r with k := r.k + 1 }) h (smK 14 [])).nok⟩
    · split at h
      · exact ⟨(sg_of (r := { r with k := r.k + 1 }) h (smK 15 [])).cnt, (sg_of (r := { r with k := r.k + 1 }) h (smK 15 [])).nok⟩
      · cases h
  split at h
  · unfold backF at h
    split at h
    · exact sg_of h ⟨by simp, ok_zero, by simp, by simp, .inr (.inl rfl)⟩
    · cases h
  split at h
  · exact sg_of h (smS (ok_fold _ _ (by decide)))
  · cases h
theorem set_sg (hc : t.c < 256) (h : setF s t r = .ok (i, r')) : Sg r r' := by
  unfold setF at h
  split at h
  · cases h
  · rename_i r1 hq
    unfold collF at hq
    split at hq
    · cases hq; exact sg_of h (sm0 2 _ hc)
    · split at hq
      · cases hq
      · cases hq
  · rename_i q r1 hq
    unfold collF at hq
    split at hq
    · cases hq
    · rename_i q0 fl k2 hx
      split at hq
      · cases hq
      · cases hq
        have ok0 := (rdF_ok _ _ _ _ _ _ _ ok_zero hx).1
        have okq : (if pfx s r.k hat = true then notS q0 else q0).ok := by
          split
          · exact ok_not ok0
          · exact ok0
        have := sg_of (r := { r with k := k2 }) h (smS okq)
        exact ⟨this.cnt, this.nok⟩
theorem sign_sg {G : Tok → RS → Except (Nat × Nat) (Nat × RS)} {first : Bool} (hc : t.c < 256) (hG : ∀ i r', G t r = .ok (i, r') → Sg r r') (h : signF G s last t first r = .ok (i, r')) : Sg r r' := by
  unfold signF at h
  split at h
  · split at h
    · exact sg_of h (smK 10 [])
    · exact sg_of h (sm0 2 _ hc)
  split at h
  · unfold eolF at h
    split at h
    · cases h
    · split at h
      · exact sg_of h (smK 11 [])
      · exact sg_of h (sm0 2 _ hc)
  split at h
  · exact sg_of h (smK 3 [])
  split at h
  · exact sg_of h (smK 12 [])
  split at h
  · exact sg_of h (smK 13 [])
  split at h
  · injection h with h
    have := again_sg (last := last) (r := r)
    rw [h] at this
    exact this
  split at h
  · exact set_sg hc h
  split at h
  · exact hG _ _ h
  · exact sg_of h (sm0 2 _ hc)
theorem piece_sg {G : Tok → RS → Except (Nat × Nat) (Nat × RS)} {first : Bool} (hc : t.c < 256) (hG : ∀ i r', G t r = .ok (i, r') → Sg r r') (h : pieceF G s last t first r = .ok (i, r')) : Sg r r' := by
  unfold pieceF at h
  split at h
  · exact sign_sg hc hG h
  · split at h
    · exact letter_sg hc h
    · exact sg_of h (sm0 2 _ hc)
theorem group_sg {BR : RS → Except (Nat × Nat) (Nat × Tok × RS)} (hB : ∀ r1 i t r2, BR r1 = .ok (i, t, r2) → Sg r1 r2) (h : groupF BR t r = .ok (i, r')) : Sg r r' := by
  unfold groupF at h
  split at h
  · cases h
  · split at h
    · cases h
    · rename_i kid en r1 h1
      have a := hB _ _ _ _ h1
      split at h
      · cases h
      · cases h
        have ac := a.cnt
        simp only at ac
        refine ⟨?_, fun q x hx => ?_⟩
        · simp only [addN, c8_append]
          have : c8 [({ op := 8, n := r.g + 1, kids := [kid] } : Nd)] = 1 := rfl
          omega
        · simp only [addN, List.mem_append, List.mem_singleton] at hx
          rcases hx with hx | rfl
          · exact a.nok q x hx
          · exact ⟨by simp, ok_zero, by simp, by simp, .inl rfl⟩
theorem many_sg {ks' : List Nat} (hc : t.c < 256) (h : manyF s t ks r = .ok (ks', r')) : Sg r r' := by
  have lit : ∀ {k2 : List Nat} {r2 : RS}, (.ok (ks ++ [r.nds.length], { r with nds := r.nds ++ [{ op := 2, c := t.c }] }) : Except (Nat × Nat) (List Nat × RS)) = .ok (k2, r2) → Sg r r2 := by
    intro k2 r2 e
    injection e with e
    injection e with e1 e2
    subst e1 e2
    exact sg_add (d := { op := 2, c := t.c }) (sm0 2 _ hc)
  unfold manyF at h
  split at h
  · split at h
    · cases h
    · exact lit h
  · rename_i p hl
    split at h
    · split at h
      · cases h
      · rename_i d r1 ht
        have hd : NdSm { d with kids := [p] } ∧ d.op ≠ 8 := by
          obtain ⟨d7, db⟩ := (times_b ht).1
          have hz : d.c = 0 ∧ d.set = zeroS ∧ d.n = 0 ∧ -1 ≤ d.mx := by
            unfold timesF at ht
            split at ht
            · cases ht; exact ⟨rfl, rfl, rfl, by decide⟩
            · split at ht
              · cases ht; exact ⟨rfl, rfl, rfl, by decide⟩
              · split at ht
                · split at ht
                  · cases ht
                  · rename_i n mx lz j hb
                    cases ht
                    refine ⟨rfl, rfl, rfl, ?_⟩
                    show -1 ≤ mx
                    unfold bndF at hb
                    split at hb
                    · cases hb
                    · split at hb
                      · split at hb
                        · cases hb
                        · obtain ⟨_, rfl, _⟩ := finF_b hb
                          split <;> omega
                      · obtain ⟨_, rfl, _⟩ := finF_b hb
                        split <;> omega
                · cases ht; exact ⟨rfl, rfl, rfl, by decide⟩
          exact ⟨⟨by show d.c < 256; omega, by show d.set.ok; rw [hz.2.1]; exact ok_zero, by show -1 ≤ d.mn ∧ d.mn ≤ 60; omega, by show -1 ≤ d.mx ∧ d.mx ≤ 60; omega, .inr (.inr hz.2.2.1)⟩, by omega⟩
        obtain ⟨_, k, rfl⟩ := times_b ht
        injection h with h
        injection h with e1 e2
        subst e1 e2
        have := sg_add (r := { r with k := k }) hd.1
        exact ⟨this.cnt, this.nok⟩
    · split at h
      · cases h
      · exact lit h
theorem br_sg {P : Tok → Bool → RS → Except (Nat × Nat) (Nat × RS)} (hP : ∀ t b r i r', t.c < 256 → P t b r = .ok (i, r') → Sg r r') :
    ∀ (f : Nat) (r : RS) (ks : List Nat) (i : Nat) (t : Tok) (r' : RS), brF P s f r ks = .ok (i, t, r') → Sg r r' := by
  intro f
  induction f with
  | zero => intro r ks i t r' h; simp [brF] at h
  | succ f ih =>
    intro r ks i t r' h
    rw [brF] at h
    split at h
    · cases h
    · rename_i t1 k md cs hn
      have hc := nextF_c hn
      split at h
      · cases h
        have := join_sg (r := { r with k := k, md := md, cs := cs }) (ks := ks) 5
        exact ⟨this.cnt, this.nok⟩
      · split at h
        · split at h
          · cases h
          · rename_i ks' r1 hm
            have a := many_sg hc hm
            exact Sg.trans ⟨a.cnt, a.nok⟩ (ih _ _ _ _ _ h)
        · split at h
          · cases h
          · rename_i i1 r1 hp1
            have a := hP _ _ _ _ _ hc hp1
            exact Sg.trans ⟨a.cnt, a.nok⟩ (ih _ _ _ _ _ h)
theorem brs_sg {F : RS → Except (Nat × Nat) (Nat × Tok × RS)} (hF : ∀ r i t r', F r = .ok (i, t, r') → Sg r r') :
    ∀ (f : Nat) (r : RS) (ks : List Nat) (i : Nat) (t : Tok) (r' : RS), brsL F f r ks = .ok (i, t, r') → Sg r r' := by
  intro f
  induction f with
  | zero => intro r ks i t r' h; simp [brsL] at h
  | succ f ih =>
    intro r ks i t r' h
    rw [brsL] at h
    split at h
    · cases h
    · rename_i i1 t1 r1 h1
      have a := hF _ _ _ _ h1
      split at h
      · exact a.trans (ih _ _ _ _ _ h)
      · cases h
        exact a.trans (join_sg 6)
theorem brsF_sg : ∀ (n : Nat) (r : RS) (i : Nat) (t : Tok) (r' : RS), brsF s last n r = .ok (i, t, r') → Sg r r'
  | 0, _, _, _, _, h => by cases h
  | n + 1, r, i, t, r', h => by
    rw [brsF] at h
    refine brs_sg (fun r1 i1 t1 r2 h2 => ?_) _ _ [] _ _ _ h
    refine br_sg (fun t3 b3 r3 i3 r4 hc h4 => ?_) _ _ [] _ _ _ h2
    exact piece_sg hc (fun i5 r5 h5 => group_sg (fun r6 i6 t6 r7 h7 => brsF_sg n r6 i6 t6 r7 h7) h5) h4
theorem parF_sg (h : parF s last = .ok (i, r')) : r'.g ≤ c8 r'.nds ∧ ∀ d ∈ r'.nds, NdSm d := by
  unfold parF patF at h
  split at h
  · cases h
  · split at h
    · cases h
    · rename_i i1 t1 r1 hb
      split at h
      · cases h
      · split at h
        · cases h
        · cases h
          have a := brsF_sg _ _ _ _ _ hb
          have ac := a.cnt
          simp [rs0, c8] at ac
          exact ⟨by simpa [c8] using ac, a.nok fun d hd => by simp [rs0] at hd⟩
end
end Go.Proofs.YtpahpnajeliodaaGreatDoor
