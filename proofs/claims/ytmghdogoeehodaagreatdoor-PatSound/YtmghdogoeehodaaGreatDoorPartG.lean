/- Texts that the proof of the law stands on: Snd5, Snd6, WShelf, Hex, Txt, Txt2, Txt3, Bld, Bld2, Bld3, Prn1, Prn2. -/
import Derived.Test.YtmghdogoeehodaaGreatDoorPartF
import Derived.Test.YtmghdogoeehodaaGreatDoorPartE
import Derived.Ground.NamesProg
import Derived.Shelf.Strconv.Itoa3
import Derived.Shelf.Strings.Repeat
import Derived.Shelf.Strings.Cut
import Derived.Test.YtmghdogoeehodaaGreatDoorProg
import Derived.Lib.ItoaLen
import Derived.Lib.Builder
import Derived.Lib.AppendStr
import Derived.Lib.UnsafeStr
/- The checker's tree. -/
namespace Go.Proofs.YtmghdogoeehodaaGreatDoor
open Go.ChangeShapes Go.WideShapes Go.ChangeAt Go.RowKit
set_option linter.unusedVariables false
set_option linter.unusedSimpArgs false
/-- The checker at work. -/
structure Cw (w0 : World) (cb ab : Nat) (v : Value) (root G : Int) (cs : Nat) (L : List Nq) (ac : Nat) (v3 : Value) (next : List Int) (asked : List Bool) (w : World) : Prop where
  kp : Kp w0 w
  ck : Ck cb v root G cs (.slice (some ⟨ab, 0, none⟩) L.length ac) w
  asd : As ab asked w
  len : asked.length = L.length
  nx : Nx w0.heap.size v3 next w
  far : w0.heap.size ≤ cb ∧ w0.heap.size ≤ ab ∧ ab ≠ cb ∧ v3.ownBlock ≠ some cb ∧ v3.ownBlock ≠ some ab
section
variable {w0 w w1 : World} {cb ab : Nat} {v v3 : Value} {root G : Int} {cs : Nat} {L : List Nq} {ac : Nat} {next : List Int} {asked : List Bool}
theorem Cw.kp' (h : Cw w0 cb ab v root G cs L ac v3 next asked w) (k : Kp w w1) : Cw w0 cb ab v root G cs L ac v3 next asked w1 :=
  ⟨kp_trans h.kp k, h.ck.kp k, h.asd.heap (k.block _ h.asd.lt), h.len, h.nx.heap fun j hj => k.block j (h.nx.lt j hj).2, h.far⟩
theorem Cw.ask (h : Cw w0 cb ab v root G cs L ac v3 next asked w) (i : Nat) : Cw w0 cb ab v root G cs L ac v3 next (asked.set i true) (w.setCell ⟨ab, i, none⟩ (.bool true)) := by
  have f := fr_set ab i (.bool true) w
  refine ⟨kp_new h.kp f h.far.2.1, ?_, h.asd.set i, by simp [h.len], h.nx.heap fun j hj => ?_, h.far⟩
  · have := h.ck
    have l := h.ck.lt
    unfold Ck at *
    rw [f.block _ l (fun q => h.far.2.2.1 (by unfold On at q; omega))]; exact this
  · exact f.block j (h.nx.lt j hj).2 fun q => h.far.2.2.2.2 (by unfold On at q; rw [← q]; exact hj)
set_option maxHeartbeats 4000000 in
set_option maxRecDepth 100000 in
theorem tree_any {K : Nat} (hck : Ck cb v root G cs (.slice (some ⟨ab, 0, none⟩) L.length ac) w) (hv : Pt w0 v L) (hk : Kp w0 w) (ha : As ab (List.replicate L.length false) w) (hf : w0.heap.size ≤ cb ∧ w0.heap.size ≤ ab ∧ ab ≠ cb) (hac : L.length ≤ ac ∧ ac ≤ maxLen)
    (hK : ∀ d ∈ L, d.kids.length ≤ K) (hM : K * L.length ≤ 10000000) :
    Calls Tryz.prog 11 #[.pointer (some ⟨cb, 0, none⟩)] w fun e w' => e = .returned (.bool (treeF L G (L.length + 1) [root] (List.replicate L.length false))) ∧ Kp w0 w' := by
  obtain ⟨ck0, ck1, ck2, ck4⟩ := hck.cells
  obtain ⟨va, vc, rfl, _, vcc, _⟩ := id hv
  obtain ⟨X, hX⟩ : ∃ X, treeF L G (L.length + 1) [root] (List.replicate L.length false) = X := ⟨_, rfl⟩
  rw [hX]
  have HP : Hid (Pt w0 (.slice va L.length vc) L ∧ (∀ d ∈ L, d.kids.length ≤ K) ∧ K * L.length ≤ 10000000 ∧ treeF L G (L.length + 1) [root] (List.replicate L.length false) = X) := ⟨hv, hK, hM, hX⟩
  have HC : Hid (Cw w0 cb ab (.slice va L.length vc) root G cs L ac (.slice (some ⟨w.heap.size, 0, none⟩) 1 1) [root] (List.replicate L.length false) (w.alloc (.cells #[.int .i64 root] 3))) := by
    refine ⟨kp_trans hk (kp_alloc _ _), hck.kp (kp_alloc _ _), ha.heap (alloc_old _ _ _ ha.lt), by simp, ⟨rfl, .inr ⟨_, 1, _, rfl, hk.size, alloc_new w _, by simp, by simp [maxLen], rfl, rfl⟩⟩, hf.1, hf.2.1, hf.2.2, ?_, ?_⟩
    · have := hck.lt
      simp only [Value.ownBlock, ne_eq, Option.some.injEq]; omega
    · have := ha.lt
      simp only [Value.ownBlock, ne_eq, Option.some.injEq]; omega
  clear hX hv hK hM hck hk ha hf ck0 ck2 ck4
  unfold maxLen at vcc hac
  go_enter Tryz.func11, Tryz.ntmps11
  go_wp2_with fail
  go_loopw [3] (fun v3 wr => ∃ (f : Nat) (next : List Int) (asked : List Bool), asked.count false < f ∧ next.length + K * asked.count false ≤ 10000001 ∧ treeF L G f next asked = X ∧ Cw w0 cb ab (.slice va L.length vc) root G cs L ac v3 next asked wr) (fun _ wr => left ab wr)
  case atStart =>
    refine ⟨_, _, _, ?_, ?_, HP.out.2.2.2, HC.out⟩
    · simp
    · simpa [Nat.add_comm] using HP.out.2.2.1
  case round =>
    obtain ⟨f, next, asked, hf, hN, hT, hC⟩ := hrel
    obtain ⟨f, rfl⟩ : ∃ f', f = f' + 1 := ⟨f - 1, by omega⟩
    rcases List.eq_nil_or_concat next with rfl | ⟨nx, a, rfl⟩
    · have hX : X = true := by rw [← hT]; simp [treeF]
      subst hX
      obtain ⟨sa, sc, rfl, _, _⟩ := owns_form hC.nx
      have HC2 : Hid _ := hC
      clear hC hT hN
      simp only [List.length_nil]
      go_wp2_with fail
      go_ret
      exact ⟨rfl, HC2.out.kp⟩
    · rw [List.concat_eq_append] at hN hT hC
      have hT' : (if hasB L a && !(asked.getD a.toNat false) && fitB L G (nodeAt L a) then treeF L G f (nx ++ (nodeAt L a).kids) (asked.set a.toNat true) else false) = X := by
        rw [← hT]; simp [treeF]
      obtain ⟨g, cap, rfl, c1, c2, c3, c4, hca, hpop⟩ := hC.nx.pop
      obtain ⟨n, hn⟩ : ∃ n, nx.length = n := ⟨_, rfl⟩
      have hC1 : Cw w0 cb ab (.slice va L.length vc) root G cs L ac (.slice (some ⟨g, 0, none⟩) n cap) nx asked wr := by
        rw [← hn]
        exact ⟨hC.kp, hC.ck, hC.asd, hC.len, hpop, hC.far⟩
      rw [hn] at hca c1 ⊢
      have HC1 : Hid _ := hC1
      have HN : Hid (nx.length = n ∧ n + 1 + K * asked.count false ≤ 10000001) := ⟨hn, by
        have : (nx ++ [a]).length = n + 1 := by simp [hn]
        rw [this] at hN; exact hN⟩
      have HT : Hid _ := hT'
      unfold maxLen at c2
      clear hC hT hN hT' hpop hC1 hn
      go_wp2_with fail
      refine Calls.mono (has_any HC1.out.ck (HP.out.1.kp HC1.out.kp) a) ?_
      rintro e w' ⟨rfl, rfl⟩
      cases hh : hasB L a with
      | false =>
        have hX : X = false := by rw [← HT.out]; simp [hh]
        subst hX
        go_wp2_with fail
        go_ret
        exact ⟨rfl, HC1.out.kp⟩
      | true =>
        obtain ⟨k, nb, no, kv, rfl, hk, rfl, hcs, hks⟩ := HP.out.1.node hh
        obtain ⟨b, hb⟩ : ∃ b, asked[k]? = some b := ⟨_, List.getElem?_eq_getElem (by rw [HC1.out.len]; exact hk)⟩
        have cA : w'.cell? ⟨ab, k, none⟩ = some (.bool b) := by rw [HC1.out.asd.cell, hb]; rfl
        have fA := HC1.out.asd.fz k
        obtain ⟨ck0, ck1', ck2, ck4⟩ := HC1.out.ck.cells
        have HH : Hid (hasB L (k : Int) = true ∧ asked[k]? = some b ∧ k < L.length) := ⟨hh, hb, hk⟩
        clear hh hb
        cases b with
        | true =>
          have hX : X = false := by rw [← HT.out]; simp [HH.out.2.1]
          subst hX
          clear hcs hks
          go_wp2_with fail
          go_ret
          exact ⟨rfl, HC1.out.kp⟩
        | false =>
          obtain ⟨d, hd⟩ : ∃ d, nodeAt L k = d := ⟨_, rfl⟩
          have HD : Hid (nodeAt L k = d ∧ d ∈ L) := ⟨hd, by
            rw [← hd]; unfold nodeAt
            rw [Int.toNat_natCast, List.getElem?_eq_getElem hk]
            exact List.getElem_mem hk⟩
          rw [hd] at hcs hks
          obtain ⟨ka, kc, rfl, _, kcc, _⟩ := id hks
          obtain ⟨m, hm⟩ : ∃ m, d.kids.length = m := ⟨_, rfl⟩
          have Hm : Hid (d.kids.length = m) := hm
          rw [hm] at hcs hks
          have HKs : Hid (Ks w0 (.slice ka m kc) d.kids ∧ ∀ j u, (d.cells (.slice ka m kc))[j]? = some u → w0.cell? ⟨nb, no + k * 11 + j, none⟩ = some u) := ⟨hks, hcs⟩
          have c0 : w'.cell? ⟨nb, no + k * 11, none⟩ = some (.int .u8 d.op) := kp_cell HC1.out.kp (hcs 0 _ rfl)
          have c1 := kp_cell HC1.out.kp (hcs 1 _ rfl)
          have c2 := kp_cell HC1.out.kp (hcs 2 _ rfl)
          have c3 := kp_cell HC1.out.kp (hcs 3 _ rfl)
          have c4 := kp_cell HC1.out.kp (hcs 4 _ rfl)
          have c5 := kp_cell HC1.out.kp (hcs 5 _ rfl)
          have c6 := kp_cell HC1.out.kp (hcs 6 _ rfl)
          have c7 := kp_cell HC1.out.kp (hcs 7 _ rfl)
          have c8 := kp_cell HC1.out.kp (hcs 8 _ rfl)
          have c9 := kp_cell HC1.out.kp (hcs 9 _ rfl)
          have c10 := kp_cell HC1.out.kp (hcs 10 _ rfl)
          clear hcs hks hd hm
          go_wp2_with fail
          refine Calls.mono (fits_any HC1.out.ck (HP.out.1.kp HC1.out.kp) d (HKs.out.1.kp HC1.out.kp)) ?_
          rintro e w2 ⟨rfl, q⟩
          have HC2 : Hid _ := HC1.out.kp' q
          have cA := kp_cell q cA
          clear q c0 c1 c2 c3 c4 c5 c6 c7 c8 c9 c10 ck0 ck1' ck2 ck4 fA
          cases hF : fitB L G d with
          | false =>
            have hX : X = false := by rw [← HT.out, HD.out.1]; simp [hF]
            subst hX
            go_wp2_with fail
            go_ret
            exact ⟨rfl, HC2.out.kp⟩
          | true =>
            have hT2 : treeF L G f (nx ++ d.kids) (asked.set k true) = X := by
              rw [← HT.out, HD.out.1]; simp [hF, HH.out.1, HH.out.2.1]
            have HT2 : Hid _ := hT2
            clear hT2
            obtain ⟨W, hW⟩ : ∃ W, w2.setCell ⟨ab, k, none⟩ (.bool true) = W := ⟨_, rfl⟩
            have HC3 : Hid (Cw w0 cb ab (.slice (some ⟨nb, no, none⟩) L.length vc) root G cs L ac (.slice (some ⟨g, 0, none⟩) n cap) nx (asked.set k true) W) := by rw [← hW]; exact HC2.out.ask k
            have fA := HC2.out.asd.fz k
            obtain ⟨ck0, ck1', ck2, ck4⟩ := HC2.out.ck.cells
            have hct := count_set HH.out.2.1
            have hM : n + m ≤ 16000000 := by
              have h1 := HP.out.2.1 d HD.out.2
              have h2 := HN.out.2
              have h3 := Hm.out
              have h4 : 1 ≤ asked.count false := by omega
              have h5 : K * 1 ≤ K * asked.count false := Nat.mul_le_mul_left K h4
              omega
            obtain ⟨g', cap', w4, hr, hn4, hg4, hat⟩ := HC3.out.nx.app HN.out.1 (by omega) (HKs.out.1.kp HC3.out.kp) HC3.out.kp.size hM 33
            have HC4 : Hid (Cw w0 cb ab (.slice (some ⟨nb, no, none⟩) L.length vc) root G cs L ac (.slice (some ⟨g', 0, none⟩) (n + m) cap') (nx ++ d.kids) (asked.set k true) w4) := by
              have hf := HC3.out.far
              have e1 : some cb ≠ some g := fun z => hf.2.2.2.1 (by simp only [Value.ownBlock]; exact z.symm)
              have e2 : some ab ≠ some g := fun z => hf.2.2.2.2 (by simp only [Value.ownBlock]; exact z.symm)
              have l1 := HC3.out.ck.lt
              have l2 := HC3.out.asd.lt
              have l3 := (HC3.out.nx.lt g rfl).1
              refine ⟨?_, ?_, HC3.out.asd.heap (hg4.block _ l2 e2), HC3.out.len, hn4, hf.1, hf.2.1, hf.2.2.1, ?_, ?_⟩
              · have k3 := HC3.out.kp
                refine ⟨hg4.os.trans k3.os, hg4.tape.trans k3.tape, hg4.output.trans k3.output, Nat.le_trans k3.size hg4.size, fun j hj => ?_⟩
                rw [hg4.block j (Nat.lt_of_lt_of_le hj k3.size) (by simp only [ne_eq, Option.some.injEq]; omega)]; exact k3.block j hj
              · have := HC3.out.ck
                unfold Ck at *; rw [hg4.block _ l1 e1]; exact this
              · simp only [Value.ownBlock, ne_eq, Option.some.injEq]
                intro z; rcases hat with q | q
                · exact e1 (by rw [← q, z])
                · omega
              · simp only [Value.ownBlock, ne_eq, Option.some.injEq]
                intro z; rcases hat with q | q
                · exact e2 (by rw [← q, z])
                · omega
            have k10 : W.cell? ⟨nb, no + k * 11 + 10, none⟩ = some (.slice ka m kc) := kp_cell HC3.out.kp (HKs.out.2 10 _ rfl)
            obtain ⟨cw0, _, _, _⟩ := HC3.out.ck.cells
            have HCT : Hid ((asked.set k true).count false + 1 = asked.count false) := hct
            clear hct hn4 hg4 hat
            go_upto_region 8 with fail
            clear hW cA fA ck0 ck1' ck2 ck4
            have HRun : Hid _ := hr
            clear hr
            go_wp2_with (at_builtin; refine wpList_append_run rfl (.tmp 57) (.tmp 66) 33 rfl _ _ rfl rfl HRun.out ?_)
            go_wp2_with fail
            go_roundw
            case rel => exact ⟨f, _, _, by have := HCT.out; omega, by
              have h1 := HP.out.2.1 d HD.out.2
              have h2 := HN.out.2
              have h3 := Hm.out
              have h4 := HCT.out
              rw [List.length_append, HN.out.1, h3]
              rw [← h4, Nat.mul_add, Nat.mul_one] at h2
              omega, HT2.out, HC4.out⟩
            case measure =>
              rw [HC4.out.asd.left, HC1.out.asd.left]
              have := HCT.out
              omega
end
end Go.Proofs.YtmghdogoeehodaaGreatDoor
/- Sound. -/
namespace Go.Proofs.YtmghdogoeehodaaGreatDoor
open Go.ChangeShapes Go.WideShapes Go.ChangeAt Go.RowKit
set_option linter.unusedVariables false
set_option linter.unusedSimpArgs false
section
variable {w w1 : World} {v : Value} {L : List Nq}
def PBox (n : Nat) (v : Value) (i g : Int) (c : Nat) (w : World) : Prop := w.heap[n]? = some (.cells #[v, .int .i64 i, .int .i64 g, .int .u8 c] 25 (0, 0))
theorem PBox.cells {n : Nat} {v : Value} {i g : Int} {c : Nat} {w : World} (h : PBox n v i g c w) : w.cell? ⟨n, 0, none⟩ = some v ∧ w.cell? ⟨n, 1, none⟩ = some (.int .i64 i) ∧ w.cell? ⟨n, 2, none⟩ = some (.int .i64 g) ∧ w.cell? ⟨n, 3, none⟩ = some (.int .u8 c) := by
  unfold PBox at h
  refine ⟨?_, ?_, ?_, ?_⟩ <;> simp [World.cell?, h]
theorem PBox.kp {n : Nat} {v : Value} {i g : Int} {c : Nat} {w w1 : World} (h : PBox n v i g c w) (k : Kp w w1) : PBox n v i g c w1 := by
  have l := (Array.getElem?_eq_some_iff.1 h).1
  unfold PBox at *; rw [k.block _ l]; exact h
theorem infoBool : (Tryz.prog.info? 4).map (fun i => (i.zero, i.size, i.bytes)) = some (some (.bool false), 1, 1) := by kernel_rfl
set_option maxRecDepth 100000 in
theorem make_bools (n : Nat) (hn : n ≤ 10000000) (w : World) : (Instr.makeSlice 42 (.int .i64 n) (.int .i64 n)).run Tryz.prog w = .ok (.slice (some ⟨w.heap.size, 0, none⟩) n n) (w.alloc (.cells (bools (List.replicate n false)).toArray 4)) := by
  obtain ⟨i9, hi9, z0, z1, z2⟩ := info_parts infoBool
  have := run_makeSlice (P := Tryz.prog) w 42 4 i9 _ Tryz.underlying42 hi9 z0 .i64 .i64 n n (by omega) (by omega) (by rw [z1, Int.toNat_natCast]; omega) (by rw [z2]; omega) (by omega)
  rw [this, Int.toNat_natCast, z1]
  congr 3
  simp only [madeCells, bools, List.map_replicate]
  apply Array.ext
  · simp
  · intro k h1 h2
    simp [Value.cells, Nat.mod_one]
def obP (v : Value) (root G : Int) (cs : Nat) : Obj := .cells #[v, .int .i64 root, .int .i64 G, .int .u8 cs] 25
def obA (n : Nat) : Obj := .cells (bools (List.replicate n false)).toArray 4
def obC : Obj := .cells #[.slice none 0 0, .int .i64 0, .int .i64 0, .int .u8 0, .slice none 0 0] 44
def obK (v : Value) (root G : Int) (cs : Nat) (a : Value) : Obj := .cells #[v, .int .i64 root, .int .i64 G, .int .u8 cs, a] 44
theorem alloc3 (w : World) (x y z : Obj) : Kp w (((w.alloc x).alloc y).alloc z).drew ∧ (((w.alloc x).alloc y).alloc z).drew.heap[w.heap.size]? = some x ∧ (((w.alloc x).alloc y).alloc z).drew.heap[w.heap.size + 1]? = some y ∧ (((w.alloc x).alloc y).alloc z).drew.heap[w.heap.size + 1 + 1]? = some z := by
  refine ⟨kp_trans (kp_trans (kp_trans (kp_alloc _ _) (kp_alloc _ _)) (kp_alloc _ _)) (kp_drew _), ?_, ?_, ?_⟩
  · show (((w.alloc x).alloc y).alloc z).heap[w.heap.size]? = some x
    rw [alloc_old _ _ _ (by simp only [alloc_size]; omega), alloc_old _ _ _ (by simp only [alloc_size]; omega)]
    exact alloc_new w _
  · show (((w.alloc x).alloc y).alloc z).heap[w.heap.size + 1]? = some y
    rw [alloc_old _ _ _ (by simp only [alloc_size]; omega)]
    have := alloc_new (w.alloc x) y
    rw [alloc_size] at this
    exact this
  · show (((w.alloc x).alloc y).alloc z).heap[w.heap.size + 1 + 1]? = some z
    have := alloc_new ((w.alloc x).alloc y) z
    rw [alloc_size, alloc_size] at this
    exact this
set_option maxHeartbeats 4000000 in
set_option maxRecDepth 100000 in
theorem sound_any {K : Nat} (hv : Pt w v L) (root G : Int) (cs : Nat) (hK : ∀ d ∈ L, d.kids.length ≤ K) (hM : K * L.length ≤ 10000000) (hL : L.length ≤ 10000000) :
    Calls Tryz.prog 6 #[.agg #[v, .int .i64 root, .int .i64 G, .int .u8 cs]] w fun e w' => e = .returned (.bool (soundF L root G)) ∧ Kp w w' := by
  obtain ⟨va, vc, rfl, _, vcc, _⟩ := id hv
  have hMk := make_bools L.length hL
  have HV : Hid (Pt w (.slice va L.length vc) L ∧ (∀ d ∈ L, d.kids.length ≤ K) ∧ K * L.length ≤ 10000000) := ⟨hv, hK, hM⟩
  have HB : Hid (PBox w.heap.size (.slice va L.length vc) root G cs (w.alloc (.cells #[.slice va L.length vc, .int .i64 root, .int .i64 G, .int .u8 cs] 25)).drew) := alloc_new w _
  have HB1 : Hid (PBox w.heap.size (.slice va L.length vc) root G cs ((w.alloc (obP (.slice va L.length vc) root G cs)).alloc (obA L.length)).drew) := (show PBox _ _ _ _ _ (w.alloc _) from alloc_new w _).kp (kp_trans (kp_alloc _ _) (kp_drew _))
  have HB2 : Hid (PBox w.heap.size (.slice va L.length vc) root G cs (((w.alloc (obP (.slice va L.length vc) root G cs)).alloc (obA L.length)).alloc obC).drew) := (show PBox _ _ _ _ _ (w.alloc _) from alloc_new w _).kp (kp_trans (kp_trans (kp_alloc _ _) (kp_alloc _ _)) (kp_drew _))
  have HB3 : Hid (PBox w.heap.size (.slice va L.length vc) root G cs ((w.alloc (obP (.slice va L.length vc) root G cs)).alloc obC).drew) := (show PBox _ _ _ _ _ (w.alloc _) from alloc_new w _).kp (kp_trans (kp_alloc _ _) (kp_drew _))
  have HB4 : Hid (PBox w.heap.size (.slice va L.length vc) root G cs (((w.alloc (obP (.slice va L.length vc) root G cs)).alloc obC).alloc (obA L.length)).drew) := (show PBox _ _ _ _ _ (w.alloc _) from alloc_new w _).kp (kp_trans (kp_trans (kp_alloc _ _) (kp_alloc _ _)) (kp_drew _))
  have rl0 : ∀ w', PBox w.heap.size (.slice va L.length vc) root G cs w' → w'.cell? ⟨w.heap.size, 0, none⟩ = some (.slice va L.length vc) := fun _ h => h.cells.1
  have rl1 : ∀ w', PBox w.heap.size (.slice va L.length vc) root G cs w' → w'.cell? ⟨w.heap.size, 1, none⟩ = some (.int .i64 root) := fun _ h => h.cells.2.1
  have rl2 : ∀ w', PBox w.heap.size (.slice va L.length vc) root G cs w' → w'.cell? ⟨w.heap.size, 2, none⟩ = some (.int .i64 G) := fun _ h => h.cells.2.2.1
  have rl3 : ∀ w', PBox w.heap.size (.slice va L.length vc) root G cs w' → w'.cell? ⟨w.heap.size, 3, none⟩ = some (.int .u8 cs) := fun _ h => h.cells.2.2.2
  obtain ⟨X, hX⟩ : ∃ X, soundF L root G = X := ⟨_, rfl⟩
  rw [hX]
  have HX : Hid (soundF L root G = X) := hX
  clear hv hK hM hX
  go_enter Tryz.func6, Tryz.ntmps6
  go_wp2_with fail
  refine wp_region_noPanic ?_
  refine wp_region_held_drew (S := PBox w.heap.size (.slice va L.length vc) root G cs) (by kernel_rfl) (HB.out) (fun hHeld => ?_)
  refine takeAt 0 (some 4) ?_ rfl rfl (by kernel_rfl) (by kernel_rfl) (by kernel_rfl) (fun _ _ _ h => h) (Or.inl ⟨by rfl, ?_⟩) hHeld ?_
  rotate_left
  · intro w hSw
    go_simp <;> with_reducible rfl
  try simp only [Act.put, List.setIfInBounds_toArray, List.set_cons_zero, List.set_cons_succ]
  refine takeAt 1 (some 5) ?_ rfl rfl (by kernel_rfl) (by kernel_rfl) (by kernel_rfl) (fun _ _ _ h => h) (Or.inl ⟨by rfl, ?_⟩) hHeld ?_
  rotate_left
  · intro w hSw
    go_simp <;> with_reducible rfl
  try simp only [Act.put, List.setIfInBounds_toArray, List.set_cons_zero, List.set_cons_succ]
  refine takeAt 2 (some 6) ?_ rfl rfl (by kernel_rfl) (by kernel_rfl) (by kernel_rfl) (fun _ _ _ h => h) (Or.inl ⟨by rfl, ?_⟩) hHeld ?_
  rotate_left
  · intro w hSw
    go_simp <;> with_reducible rfl
  try simp only [Act.put, List.setIfInBounds_toArray, List.set_cons_zero, List.set_cons_succ]
  refine takeAt 3 (some 7) ?_ rfl rfl (by kernel_rfl) (by kernel_rfl) (by kernel_rfl) (fun _ _ _ h => h) (Or.inl ⟨by rfl, ?_⟩) hHeld ?_
  rotate_left
  · intro w hSw
    go_simp <;> with_reducible rfl
  try simp only [Act.put, List.setIfInBounds_toArray, List.set_cons_zero, List.set_cons_succ]
  refine wpAnyH_ready (rs := [4, 6]) (by kernel_rfl) (by simp) ?_
  refine AllReadyH.cons rfl (fun K1 hK => ?_) (AllReadyH.cons rfl (fun K1 hK => ?_) AllReadyH.nil)
  · go_simp
    refine hK.out _ _ (HB1.out) (fun hHeld => ?_)
    clear hK K1
    try simp only [Act.put, List.setIfInBounds_toArray, List.set_cons_zero, List.set_cons_succ]
    refine takeAt 5 (some 9) ?_ rfl rfl (by kernel_rfl) (by kernel_rfl) (by kernel_rfl) (fun _ _ _ h => h) (Or.inl ⟨by rfl, ?_⟩) hHeld ?_
    rotate_left
    · intro w hSw
      go_simp <;> with_reducible rfl
    try simp only [Act.put, List.setIfInBounds_toArray, List.set_cons_zero, List.set_cons_succ]
    refine wpAnyH_ready (rs := [6]) (by kernel_rfl) (by simp) ?_
    refine AllReadyH.cons rfl (fun K hK => ?_) AllReadyH.nil
    go_simp
    refine hK.out _ _ (HB2.out) (fun hHeld => ?_)
    clear hK K
    try simp only [Act.put, List.setIfInBounds_toArray, List.set_cons_zero, List.set_cons_succ]
    have HW : Hid (Ck (w.heap.size + 1 + 1) (.slice va L.length vc) root G cs (.slice (some ⟨w.heap.size + 1, 0, none⟩) L.length L.length) (((w.alloc (obP (.slice va L.length vc) root G cs)).alloc (obA L.length)).alloc (obK (.slice va L.length vc) root G cs (.slice (some ⟨w.heap.size + 1, 0, none⟩) L.length L.length))).drew ∧ As (w.heap.size + 1) (List.replicate L.length false) (((w.alloc (obP (.slice va L.length vc) root G cs)).alloc (obA L.length)).alloc (obK (.slice va L.length vc) root G cs (.slice (some ⟨w.heap.size + 1, 0, none⟩) L.length L.length))).drew ∧ Kp w (((w.alloc (obP (.slice va L.length vc) root G cs)).alloc (obA L.length)).alloc (obK (.slice va L.length vc) root G cs (.slice (some ⟨w.heap.size + 1, 0, none⟩) L.length L.length))).drew) := by
      obtain ⟨q1, q2, q3, q4⟩ := alloc3 w _ _ _
      exact ⟨q4, q3, q1⟩
    have HB5 : Hid (PBox w.heap.size (.slice va L.length vc) root G cs (((w.alloc (obP (.slice va L.length vc) root G cs)).alloc (obA L.length)).alloc (obK (.slice va L.length vc) root G cs (.slice (some ⟨w.heap.size + 1, 0, none⟩) L.length L.length))).drew) := (alloc3 w _ _ _).2.1
    refine wpAnyH_ready (rs := [7]) (by kernel_rfl) (by simp) ?_
    refine AllReadyH.cons rfl (fun K hK => ?_) AllReadyH.nil
    go_simp
    refine hK.out _ _ (HB5.out) (fun hHeld => ?_)
    clear hK K
    try simp only [Act.put, List.setIfInBounds_toArray, List.set_cons_zero, List.set_cons_succ]
    refine wpAnyH_done (by kernel_rfl) ?_ _
    refine NoPanic.normal ?_
    change Exit.then _ _ _ _ (((w.alloc (obP (.slice va L.length vc) root G cs)).alloc (obA L.length)).alloc (obK (.slice va L.length vc) root G cs (.slice (some ⟨w.heap.size + 1, 0, none⟩) L.length L.length))).drew
    generalize hWW : (((w.alloc (obP (.slice va L.length vc) root G cs)).alloc (obA L.length)).alloc (obK (.slice va L.length vc) root G cs (.slice (some ⟨w.heap.size + 1, 0, none⟩) L.length L.length))).drew = W at HW ⊢
    clear hWW hHeld
    obtain ⟨hck, has, hkp⟩ := HW.out
    by_cases hG : 0 ≤ G ∧ G ≤ 9
    · have hX : treeF L G (L.length + 1) [root] (List.replicate L.length false) = X := by rw [← HX.out]; unfold soundF; rw [decide_eq_true hG, Bool.true_and]
      have HX2 : Hid _ := hX
      clear hX
      go_wp2_with fail
      refine Calls.mono (groups_any hck) ?_
      rintro e w' ⟨rfl, rfl⟩
      rw [decide_eq_true hG]
      go_wp2_with fail
      refine Calls.mono (tree_any (K := K) hck HV.out.1 hkp has ⟨by omega, by omega, by omega⟩ ⟨Nat.le_refl _, by unfold maxLen; omega⟩ HV.out.2.1 HV.out.2.2) ?_
      rintro e w2 ⟨rfl, q⟩
      clear hck has hkp
      rw [HX2.out]
      go_wp2_with fail
      go_ret
      exact ⟨rfl, q⟩
    · have hX : X = false := by rw [← HX.out]; unfold soundF; rw [decide_eq_false hG, Bool.false_and]
      subst hX
      go_wp2_with fail
      refine Calls.mono (groups_any hck) ?_
      rintro e w' ⟨rfl, rfl⟩
      rw [decide_eq_false hG]
      clear hck has
      go_wp2_with fail
      go_ret
      exact ⟨rfl, hkp⟩
  · go_simp
    refine hK.out _ _ (HB3.out) (fun hHeld => ?_)
    clear hK K1
    try simp only [Act.put, List.setIfInBounds_toArray, List.set_cons_zero, List.set_cons_succ]
    refine wpAnyH_ready (rs := [4]) (by kernel_rfl) (by simp) ?_
    refine AllReadyH.cons rfl (fun K hK => ?_) AllReadyH.nil
    go_simp
    refine hK.out _ _ (HB4.out) (fun hHeld => ?_)
    clear hK K
    try simp only [Act.put, List.setIfInBounds_toArray, List.set_cons_zero, List.set_cons_succ]
    refine takeAt 5 (some 9) ?_ rfl rfl (by kernel_rfl) (by kernel_rfl) (by kernel_rfl) (fun _ _ _ h => h) (Or.inl ⟨by rfl, ?_⟩) hHeld ?_
    rotate_left
    · intro w hSw
      go_simp <;> with_reducible rfl
    try simp only [Act.put, List.setIfInBounds_toArray, List.set_cons_zero, List.set_cons_succ]
    have HW : Hid (Ck (w.heap.size + 1) (.slice va L.length vc) root G cs (.slice (some ⟨w.heap.size + 1 + 1, 0, none⟩) L.length L.length) (((w.alloc (obP (.slice va L.length vc) root G cs)).alloc (obK (.slice va L.length vc) root G cs (.slice (some ⟨w.heap.size + 1 + 1, 0, none⟩) L.length L.length))).alloc (obA L.length)).drew ∧ As (w.heap.size + 1 + 1) (List.replicate L.length false) (((w.alloc (obP (.slice va L.length vc) root G cs)).alloc (obK (.slice va L.length vc) root G cs (.slice (some ⟨w.heap.size + 1 + 1, 0, none⟩) L.length L.length))).alloc (obA L.length)).drew ∧ Kp w (((w.alloc (obP (.slice va L.length vc) root G cs)).alloc (obK (.slice va L.length vc) root G cs (.slice (some ⟨w.heap.size + 1 + 1, 0, none⟩) L.length L.length))).alloc (obA L.length)).drew) := by
      obtain ⟨q1, q2, q3, q4⟩ := alloc3 w _ _ _
      exact ⟨q3, q4, q1⟩
    have HB5 : Hid (PBox w.heap.size (.slice va L.length vc) root G cs (((w.alloc (obP (.slice va L.length vc) root G cs)).alloc (obK (.slice va L.length vc) root G cs (.slice (some ⟨w.heap.size + 1 + 1, 0, none⟩) L.length L.length))).alloc (obA L.length)).drew) := (alloc3 w _ _ _).2.1
    refine wpAnyH_ready (rs := [7]) (by kernel_rfl) (by simp) ?_
    refine AllReadyH.cons rfl (fun K hK => ?_) AllReadyH.nil
    go_simp
    refine hK.out _ _ (HB5.out) (fun hHeld => ?_)
    clear hK K
    try simp only [Act.put, List.setIfInBounds_toArray, List.set_cons_zero, List.set_cons_succ]
    refine wpAnyH_done (by kernel_rfl) ?_ _
    refine NoPanic.normal ?_
    change Exit.then _ _ _ _ (((w.alloc (obP (.slice va L.length vc) root G cs)).alloc (obK (.slice va L.length vc) root G cs (.slice (some ⟨w.heap.size + 1 + 1, 0, none⟩) L.length L.length))).alloc (obA L.length)).drew
    generalize hWW : (((w.alloc (obP (.slice va L.length vc) root G cs)).alloc (obK (.slice va L.length vc) root G cs (.slice (some ⟨w.heap.size + 1 + 1, 0, none⟩) L.length L.length))).alloc (obA L.length)).drew = W at HW ⊢
    clear hWW hHeld
    obtain ⟨hck, has, hkp⟩ := HW.out
    by_cases hG : 0 ≤ G ∧ G ≤ 9
    · have hX : treeF L G (L.length + 1) [root] (List.replicate L.length false) = X := by rw [← HX.out]; unfold soundF; rw [decide_eq_true hG, Bool.true_and]
      have HX2 : Hid _ := hX
      clear hX
      go_wp2_with fail
      refine Calls.mono (groups_any hck) ?_
      rintro e w' ⟨rfl, rfl⟩
      rw [decide_eq_true hG]
      go_wp2_with fail
      refine Calls.mono (tree_any (K := K) hck HV.out.1 hkp has ⟨by omega, by omega, by omega⟩ ⟨Nat.le_refl _, by unfold maxLen; omega⟩ HV.out.2.1 HV.out.2.2) ?_
      rintro e w2 ⟨rfl, q⟩
      clear hck has hkp
      rw [HX2.out]
      go_wp2_with fail
      go_ret
      exact ⟨rfl, q⟩
    · have hX : X = false := by rw [← HX.out]; unfold soundF; rw [decide_eq_false hG, Bool.false_and]
      subst hX
      go_wp2_with fail
      refine Calls.mono (groups_any hck) ?_
      rintro e w' ⟨rfl, rfl⟩
      rw [decide_eq_false hG]
      clear hck has
      go_wp2_with fail
      go_ret
      exact ⟨rfl, hkp⟩
end
end Go.Proofs.YtmghdogoeehodaaGreatDoor
/-
  DERIVED: THE SHELF's CONTRACTS AT THIS DUMP, IN PLAIN WORDS (tools/lay-plain.mjs out of 'YtmghdogoeehodaaGreatDoorWShelf.lean', which tools/lay-shelf.mjs wrote): THE SAME DECLARATIONS UNDER THE SAME NAMES: 'import', 'namespace', 'open', 'def', 'theorem' AND NOTHING ELSE: no command of the shelf's: FOR A HAND-IN. Each laying: the table of numbers ('.._ren') and one theorem, a field a fact of the dump's own or the kernel's comparison; each contract: ONE APPLICATION.
-/
namespace Go.Proofs
open Go.Shelf
def Tryz.laysM171_ren : Go.Shelf.Ren := ⟨fun | 171 => 18 | 243 => 27 | 246 => 37 | 283 => 48 | 284 => 49 | 285 => 50 | 286 => 51 | 129 => 62 | 317 => 61 | 318 => 63 | 319 => 64 | 320 => 65 | 337 => 84 | 338 => 85 | n => n, fun | 3 => 3 | 9 => 9 | 2 => 2 | 4 => 4 | 171 => 99 | 0 => 0 | 53 => 30 | 37 => 46 | 5 => 5 | 173 => 102 | 212 => 111 | 51 => 112 | 20 => 20 | 213 => 113 | 46 => 114 | 232 => 148 | 233 => 149 | n => n, fun | 17 => 0 | 18 => 1 | 19 => 2 | n => n⟩
theorem Tryz.laysM171 : Go.Proofs.LaysM.n171 Tryz.prog Tryz.laysM171_ren := {
  mixed := by kernel_rfl
  f129 := Tryz.func62.trans (congrArg some (by kernel_rfl))
  f171 := Tryz.func18.trans (congrArg some (by kernel_rfl))
  f243 := Tryz.func27.trans (congrArg some (by kernel_rfl))
  f246 := Tryz.func37.trans (congrArg some (by kernel_rfl))
  f283 := Tryz.func48.trans (congrArg some (by kernel_rfl))
  f284 := Tryz.func49.trans (congrArg some (by kernel_rfl))
  f285 := Tryz.func50.trans (congrArg some (by kernel_rfl))
  f286 := Tryz.func51.trans (congrArg some (by kernel_rfl))
  f317 := Tryz.func61.trans (congrArg some (by kernel_rfl))
  f318 := Tryz.func63.trans (congrArg some (by kernel_rfl))
  f319 := Tryz.func64.trans (congrArg some (by kernel_rfl))
  f320 := Tryz.func65.trans (congrArg some (by kernel_rfl))
  f337 := Tryz.func84.trans (congrArg some (by kernel_rfl))
  f338 := Tryz.func85.trans (congrArg some (by kernel_rfl))
  t0 := Tryz.underlying0
  a0 := Tryz.isAgg0
  z0 := Tryz.sizeOf0
  v0 := Tryz.zeroValue0
  t2 := Tryz.underlying2
  a2 := Tryz.isAgg2
  z2 := Tryz.sizeOf2
  v2 := Tryz.zeroValue2
  t3 := Tryz.underlying3
  a3 := Tryz.isAgg3
  z3 := Tryz.sizeOf3
  v3 := Tryz.zeroValue3
  t4 := Tryz.underlying4
  a4 := Tryz.isAgg4
  z4 := Tryz.sizeOf4
  v4 := Tryz.zeroValue4
  t5 := Tryz.underlying5
  a5 := Tryz.isAgg5
  z5 := Tryz.sizeOf5
  v5 := Tryz.zeroValue5
  t9 := Tryz.underlying9
  a9 := Tryz.isAgg9
  z9 := Tryz.sizeOf9
  v9 := Tryz.zeroValue9
  t20 := Tryz.underlying20
  a20 := Tryz.isAgg20
  z20 := Tryz.sizeOf20
  v20 := Tryz.zeroValue20
  t37 := Tryz.underlying46
  a37 := Tryz.isAgg46
  z37 := Tryz.sizeOf46
  v37 := Tryz.zeroValue46
  t46 := Tryz.underlying114
  a46 := Tryz.isAgg114
  z46 := Tryz.sizeOf114
  v46 := Tryz.zeroValue114
  t51 := Tryz.underlying112
  a51 := Tryz.isAgg112
  z51 := Tryz.sizeOf112
  v51 := Tryz.zeroValue112
  t53 := Tryz.underlying30
  a53 := Tryz.isAgg30
  z53 := Tryz.sizeOf30
  v53 := Tryz.zeroValue30
  t171 := Tryz.underlying99
  a171 := Tryz.isAgg99
  z171 := Tryz.sizeOf99
  v171 := Tryz.zeroValue99
  t173 := Tryz.underlying102
  a173 := Tryz.isAgg102
  z173 := Tryz.sizeOf102
  v173 := Tryz.zeroValue102
  t212 := Tryz.underlying111
  a212 := Tryz.isAgg111
  z212 := Tryz.sizeOf111
  v212 := Tryz.zeroValue111
  t213 := Tryz.underlying113
  a213 := Tryz.isAgg113
  z213 := Tryz.sizeOf113
  t232 := Tryz.underlying148
  a232 := Tryz.isAgg148
  z232 := Tryz.sizeOf148
  v232 := Tryz.zeroValue148
  t233 := Tryz.underlying149
  a233 := Tryz.isAgg149
  z233 := Tryz.sizeOf149
  v233 := Tryz.zeroValue149
  g17 := by kernel_rfl
  g18 := by kernel_rfl
  g19 := by kernel_rfl
  i0 := by kernel_rfl
  i2 := by kernel_rfl
  i3 := by kernel_rfl
  i4 := by kernel_rfl
  i5 := by kernel_rfl
  i9 := by kernel_rfl
  i20 := by kernel_rfl
  i37 := by kernel_rfl
  i46 := by kernel_rfl
  i51 := by kernel_rfl
  i53 := by kernel_rfl
  i171 := by kernel_rfl
  i173 := by kernel_rfl
  i212 := by kernel_rfl
  i232 := by kernel_rfl
  i233 := by kernel_rfl
  m17 := by kernel_rfl
  m18 := by kernel_rfl
  m19 := by kernel_rfl }
def Tryz.laysM145_ren : Go.Shelf.Ren := ⟨fun | 145 => 106 | 220 => 120 | 219 => 123 | 217 => 73 | 225 => 125 | 224 => 126 | 267 => 127 | 266 => 91 | 314 => 132 | n => n, fun | 9 => 9 | 4 => 4 | 59 => 157 | 3 => 3 | 5 => 5 | 46 => 114 | 146 => 131 | 51 => 112 | n => n, fun | 1 => 3 | n => n⟩
theorem Tryz.laysM145 : Go.Proofs.LaysM.n145 Tryz.prog Tryz.laysM145_ren := {
  mixed := by kernel_rfl
  f145 := Tryz.func106.trans (congrArg some (by kernel_rfl))
  f217 := Tryz.func73.trans (congrArg some (by kernel_rfl))
  f219 := Tryz.func123.trans (congrArg some (by kernel_rfl))
  f220 := Tryz.func120.trans (congrArg some (by kernel_rfl))
  f224 := Tryz.func126.trans (congrArg some (by kernel_rfl))
  f225 := Tryz.func125.trans (congrArg some (by kernel_rfl))
  f266 := Tryz.func91.trans (congrArg some (by kernel_rfl))
  f267 := Tryz.func127.trans (congrArg some (by kernel_rfl))
  f314 := Tryz.func132.trans (congrArg some (by kernel_rfl))
  t3 := Tryz.underlying3
  a3 := Tryz.isAgg3
  z3 := Tryz.sizeOf3
  v3 := Tryz.zeroValue3
  t4 := Tryz.underlying4
  a4 := Tryz.isAgg4
  z4 := Tryz.sizeOf4
  v4 := Tryz.zeroValue4
  t5 := Tryz.underlying5
  a5 := Tryz.isAgg5
  z5 := Tryz.sizeOf5
  v5 := Tryz.zeroValue5
  t9 := Tryz.underlying9
  a9 := Tryz.isAgg9
  z9 := Tryz.sizeOf9
  v9 := Tryz.zeroValue9
  t46 := Tryz.underlying114
  a46 := Tryz.isAgg114
  z46 := Tryz.sizeOf114
  v46 := Tryz.zeroValue114
  t51 := Tryz.underlying112
  a51 := Tryz.isAgg112
  z51 := Tryz.sizeOf112
  v51 := Tryz.zeroValue112
  t59 := Tryz.underlying157
  a59 := Tryz.isAgg157
  z59 := Tryz.sizeOf157
  v59 := Tryz.zeroValue157
  t146 := Tryz.underlying131
  a146 := Tryz.isAgg131
  z146 := Tryz.sizeOf131
  v146 := Tryz.zeroValue131
  g1 := by kernel_rfl
  i3 := by kernel_rfl
  i4 := by kernel_rfl
  i5 := by kernel_rfl
  i9 := by kernel_rfl
  i46 := by kernel_rfl
  i51 := by kernel_rfl
  i59 := by kernel_rfl
  i146 := by kernel_rfl
  m1 := by kernel_rfl
  s1_3 := fun w h => Go.Proofs.cell_of_shapedOpen_int (zero := #[.int .i64 0]) (t := 3) h (of_decide_eq_true (by kernel_rfl)) (by kernel_rfl) rfl (by kernel_rfl) (by kernel_rfl) Tryz.underlying3 }
def Tryz.lays105_ren : Go.Shelf.Ren := ⟨fun | 105 => 53 | 212 => 67 | 99 => 68 | 165 => 69 | 166 => 20 | 170 => 70 | 169 => 22 | 263 => 86 | 264 => 87 | 206 => 88 | 240 => 28 | 241 => 89 | 276 => 38 | 277 => 99 | n => n, fun | 9 => 9 | 3 => 3 | 4 => 4 | 20 => 20 | 0 => 0 | 46 => 114 | 109 => 116 | 5 => 5 | 72 => 48 | 76 => 74 | 51 => 112 | 146 => 131 | 53 => 30 | 148 => 133 | 70 => 45 | 37 => 46 | 75 => 73 | 127 => 83 | 164 => 88 | 80 => 52 | n => n, fun | n => n⟩
theorem Tryz.lays105 : Go.Proofs.Lays.n105 Tryz.prog Tryz.lays105_ren := {
  mixed := by kernel_rfl
  f99 := Tryz.func68.trans (congrArg some (by kernel_rfl))
  f105 := Tryz.func53.trans (congrArg some (by kernel_rfl))
  f165 := Tryz.func69.trans (congrArg some (by kernel_rfl))
  f166 := Tryz.func20.trans (congrArg some (by kernel_rfl))
  f169 := Tryz.func22.trans (congrArg some (by kernel_rfl))
  f170 := Tryz.func70.trans (congrArg some (by kernel_rfl))
  f206 := Tryz.func88.trans (congrArg some (by kernel_rfl))
  f212 := Tryz.func67.trans (congrArg some (by kernel_rfl))
  f240 := Tryz.func28.trans (congrArg some (by kernel_rfl))
  f241 := Tryz.func89.trans (congrArg some (by kernel_rfl))
  f263 := Tryz.func86.trans (congrArg some (by kernel_rfl))
  f264 := Tryz.func87.trans (congrArg some (by kernel_rfl))
  f276 := Tryz.func38.trans (congrArg some (by kernel_rfl))
  f277 := Tryz.func99.trans (congrArg some (by kernel_rfl))
  t0 := Tryz.underlying0
  a0 := Tryz.isAgg0
  z0 := Tryz.sizeOf0
  v0 := Tryz.zeroValue0
  t3 := Tryz.underlying3
  a3 := Tryz.isAgg3
  z3 := Tryz.sizeOf3
  v3 := Tryz.zeroValue3
  t4 := Tryz.underlying4
  a4 := Tryz.isAgg4
  z4 := Tryz.sizeOf4
  v4 := Tryz.zeroValue4
  t5 := Tryz.underlying5
  a5 := Tryz.isAgg5
  z5 := Tryz.sizeOf5
  v5 := Tryz.zeroValue5
  t9 := Tryz.underlying9
  a9 := Tryz.isAgg9
  z9 := Tryz.sizeOf9
  v9 := Tryz.zeroValue9
  t20 := Tryz.underlying20
  a20 := Tryz.isAgg20
  z20 := Tryz.sizeOf20
  v20 := Tryz.zeroValue20
  t37 := Tryz.underlying46
  a37 := Tryz.isAgg46
  z37 := Tryz.sizeOf46
  v37 := Tryz.zeroValue46
  t46 := Tryz.underlying114
  a46 := Tryz.isAgg114
  z46 := Tryz.sizeOf114
  v46 := Tryz.zeroValue114
  t51 := Tryz.underlying112
  a51 := Tryz.isAgg112
  z51 := Tryz.sizeOf112
  v51 := Tryz.zeroValue112
  t53 := Tryz.underlying30
  a53 := Tryz.isAgg30
  z53 := Tryz.sizeOf30
  v53 := Tryz.zeroValue30
  t70 := Tryz.underlying45
  a70 := Tryz.isAgg45
  z70 := Tryz.sizeOf45
  v70 := Tryz.zeroValue45
  t72 := Tryz.underlying48
  a72 := Tryz.isAgg48
  z72 := Tryz.sizeOf48
  v72 := Tryz.zeroValue48
  t75 := Tryz.underlying73
  a75 := Tryz.isAgg73
  z75 := Tryz.sizeOf73
  v75 := Tryz.zeroValue73
  t76 := Tryz.underlying74
  a76 := Tryz.isAgg74
  z76 := Tryz.sizeOf74
  v76 := Tryz.zeroValue74
  t109 := Tryz.underlying116
  a109 := Tryz.isAgg116
  z109 := Tryz.sizeOf116
  v109 := Tryz.zeroValue116
  t127 := Tryz.underlying83
  a127 := Tryz.isAgg83
  z127 := Tryz.sizeOf83
  v127 := Tryz.zeroValue83
  t146 := Tryz.underlying131
  a146 := Tryz.isAgg131
  z146 := Tryz.sizeOf131
  v146 := Tryz.zeroValue131
  t148 := Tryz.underlying133
  a148 := Tryz.isAgg133
  z148 := Tryz.sizeOf133
  v148 := Tryz.zeroValue133
  t164 := Tryz.underlying88
  a164 := Tryz.isAgg88
  z164 := Tryz.sizeOf88
  v164 := Tryz.zeroValue88 }
theorem Tryz.Builder_Extra_105 : Builder.Extra Tryz.prog Tryz.lays105_ren := {
  sizeBuilder := by kernel_rfl
  liesBuilder := by kernel_rfl
  t5 := Tryz.underlying5
  a5 := Tryz.isAgg5
  z5 := Tryz.sizeOf5
  v5 := Tryz.zeroValue5
  infoByte := by kernel_rfl
  cellsByte := by kernel_rfl
  sizeByte := by kernel_rfl
  neB5 := by decide }
end Go.Proofs
/- Numbers by hex digits: strconv.FormatUint at base 16. -/
namespace Go.Proofs.YtmghdogoeehodaaGreatDoor
open Go.ChangeShapes Go.WideShapes Go.ChangeAt Go.RowKit
set_option linter.unusedVariables false
set_option linter.unusedSimpArgs false
theorem isPow2_16 (w : World) : Calls Tryz.prog 64 #[.int .i64 16] w fun e w' => e = .returned (.bool true) ∧ w' = w := by
  go_enter Tryz.func64, Tryz.ntmps64
  go_wp2
  go_ret
  exact ⟨rfl, rfl⟩
theorem tz64_16 (w : World) (h : w.cell? ⟨2, 15, none⟩ = some (.int .u8 4)) : Calls Tryz.prog 85 #[.int .u64 16] w fun e w' => e = .returned (.int .i64 4) ∧ w' = w := by
  have hA : IntKind.u64.wrap (-16) = 18446744073709551600 := by decide
  have hB : bits BinOp.and IntKind.u64 16 18446744073709551600 = 16 := by decide
  have hC : IntKind.u64.wrap (16 * 285870213051353865) = 4573923408821661840 := by decide
  have hC' : IntKind.u64.wrap 4573923408821661840 = 4573923408821661840 := by decide
  have hD : (4573923408821661840 : Int) / 288230376151711744 = 15 := by decide
  go_enter Tryz.func85, Tryz.ntmps85
  go_wp2_with fail
  go_ret
  exact ⟨rfl, rfl⟩
theorem tz_16 (w : World) (h : w.cell? ⟨2, 15, none⟩ = some (.int .u8 4)) : Calls Tryz.prog 65 #[.int .u64 16] w fun e w' => e = .returned (.int .i64 4) ∧ w' = w := by
  have h' := fun (x : World) hx => tz64_16 x hx
  go_enter Tryz.func65, Tryz.ntmps65
  go_wp2_with fail
  refine Calls.mono (h' _ h) ?_
  rintro e w' ⟨rfl, rfl⟩
  go_wp2_with fail
  go_ret
  exact ⟨rfl, rfl⟩
def hexC (d : Nat) : Nat := if d < 10 then 48 + d else 87 + d
def hexGo : Nat → Nat → List UInt8 → List UInt8
  | 0, _, acc => acc
  | f + 1, u, acc => if 16 ≤ u then hexGo f (u / 16) ((hexC (u % 16)).toUInt8 :: acc) else (hexC u).toUInt8 :: acc
/-- A number by its hex digits. -/
def hexS (u : Nat) : List UInt8 := hexGo 17 u []
theorem and15 {x : Nat} (hx : x < 18446744073709551616) : bits BinOp.and IntKind.u64 (x : Int) 15 = ((x % 16 : Nat) : Int) := by
  have e : x &&& 15 = x % 16 := Nat.and_two_pow_sub_one_eq_mod x 4
  have h1 : (BitVec.ofInt 64 (x : Int)).toNat = x := by simp [BitVec.toNat_ofInt]; omega
  have h2 : (BitVec.ofInt 64 ((15 : Nat) : Int)).toNat = 15 := by decide
  show IntKind.u64.wrap ((BitVec.ofInt 64 (x : Int) &&& BitVec.ofInt 64 ((15 : Nat) : Int)).toNat : Int) = _
  rw [BitVec.toNat_and, h1, h2, e, IntKind.wrap_u64]
  exact Int.emod_eq_of_lt (by omega) (by omega)
theorem dig_fin : ∀ D : Fin 16, ((⟨#[48, 49, 50, 51, 52, 53, 54, 55, 56, 57, 97, 98, 99, 100, 101, 102, 103, 104, 105, 106, 107, 108, 109, 110, 111, 112, 113, 114, 115, 116, 117, 118, 119, 120, 121, 122]⟩ : ByteArray)[D.val]'(by have := D.isLt; show D.val < 36; omega)).toNat = hexC D.val := by decide
theorem dig_eq {D : Nat} (h : D < 16) (h' : D < (⟨#[48, 49, 50, 51, 52, 53, 54, 55, 56, 57, 97, 98, 99, 100, 101, 102, 103, 104, 105, 106, 107, 108, 109, 110, 111, 112, 113, 114, 115, 116, 117, 118, 119, 120, 121, 122]⟩ : ByteArray).size) : ((⟨#[48, 49, 50, 51, 52, 53, 54, 55, 56, 57, 97, 98, 99, 100, 101, 102, 103, 104, 105, 106, 107, 108, 109, 110, 111, 112, 113, 114, 115, 116, 117, 118, 119, 120, 121, 122]⟩ : ByteArray)[D]'h').toNat = hexC D := dig_fin ⟨D, h⟩
theorem hexC_lt {d : Nat} (h : d < 16) : hexC d < 256 := by unfold hexC; split <;> omega
/-- The digits' array: what stands from a place on. -/
def Hx (ab i : Nat) (acc : List UInt8) (w : World) : Prop := ∃ arr, w.heap[ab]? = some (.cells arr 113 (0, 0)) ∧ arr.size = 65 ∧ arr.toList.drop i = acc.map fun b => Value.int .u8 b.toNat
theorem Hx.fz {ab i : Nat} {acc : List UInt8} {w : World} (h : Hx ab i acc w) (j : Nat) : w.frozen? ⟨ab, j, none⟩ = false := by obtain ⟨arr, h, _⟩ := h; simp [World.frozen?, h]
theorem Hx.cell {ab i : Nat} {acc : List UInt8} {w : World} (h : Hx ab i acc w) {j : Nat} (hj : j < 65) : ∃ v, w.cell? ⟨ab, j, none⟩ = some v := by
  obtain ⟨arr, h, hs, _⟩ := h
  exact ⟨_, by rw [cell_at h]; exact Array.getElem?_eq_getElem (by omega)⟩
theorem Hx.put {ab i : Nat} {acc : List UInt8} {w : World} (h : Hx ab (i + 1) acc w) (hi : i < 65) (b : Nat) (hb : b < 256) : Hx ab i (b.toUInt8 :: acc) (w.setCell ⟨ab, i, none⟩ (.int .u8 b)) := by
  obtain ⟨arr, h, hs, hd⟩ := h
  refine ⟨_, heap_setCell h, by simp [hs], ?_⟩
  have hl : i < (arr.setIfInBounds i (.int .u8 b)).toList.length := by simp [hs, hi]
  rw [List.drop_eq_getElem_cons hl]
  simp only [Array.toList_setIfInBounds, List.getElem_set_self, List.map_cons, List.cons.injEq]
  refine ⟨by simp [Nat.toUInt8, Nat.mod_eq_of_lt hb], ?_⟩
  rw [List.drop_set_of_lt (by omega), hd]
theorem Hx.get {ab i : Nat} {acc : List UInt8} {w : World} (h : Hx ab i acc w) {j : Nat} (hj : j < acc.length) : w.cell? ⟨ab, i + j, none⟩ = some (.int .u8 (acc[j]).toNat) := by
  obtain ⟨arr, h, hs, hd⟩ := h
  have : (arr.toList.drop i)[j]? = some (.int .u8 (acc[j]).toNat) := by rw [hd]; simp [hj]
  rw [List.getElem?_drop, Array.getElem?_toList] at this
  rw [cell_at h]; exact this
set_option maxHeartbeats 4000000 in
set_option maxRecDepth 100000 in
theorem formatBits_any (u : Nat) (hu : u < 18446744073709551616) (w : World) (h : w.cell? ⟨2, 15, none⟩ = some (.int .u8 4)) :
    Calls Tryz.prog 51 #[.slice none 0 0, .int .u64 u, .int .i64 16, .bool false, .bool false] w fun e w' => e = .returned (.tuple #[.slice none 0 0, .string ⟨(hexS u).toArray⟩]) ∧ Kp w w' := by
  obtain ⟨X, hX⟩ : ∃ X, hexS u = X := ⟨_, rfl⟩
  rw [hX]
  have HX : Hid (hexS u = X ∧ u < 18446744073709551616) := ⟨hX, hu⟩
  clear hX hu
  go_enter Tryz.func51, Tryz.ntmps51
  go_wp2_with (go_at_call 64; refine Calls.mono (isPow2_16 _) ?_; rintro e _ ⟨rfl, rfl⟩)
  refine Calls.mono (tz_16 _ (kp_cell (kp_alloc _ _) h)) ?_
  rintro e w' ⟨rfl, rfl⟩
  go_wp2_with fail
  go_loopw [1, 13] (fun v1 v13 wr => ∃ (f i u' : Nat) (acc : List UInt8), v1 = .int .u64 u' ∧ v13 = .int .i64 i ∧ i + acc.length = 65 ∧ f + acc.length = 17 ∧ 1 ≤ f ∧ u' < 16 ^ f ∧ u' < 18446744073709551616 ∧ hexGo f u' acc = X ∧ Hx w.heap.size i acc wr ∧ Kp w wr) (fun v1 _ _ => (intOf v1).toNat)
  case atStart => 
    refine ⟨17, 65, u, [], rfl, rfl, rfl, rfl, by omega, by have := HX.out.2; omega, HX.out.2, HX.out.1, ?_, kp_alloc _ _⟩
    exact ⟨_, alloc_new w _, by kernel_rfl, by kernel_rfl⟩
  case round =>
    obtain ⟨f, i, x, acc, rfl, rfl, hi, hf, hf1, hx, hx64, hH, hA, hK⟩ := hrel
    obtain ⟨i, rfl⟩ : ∃ i', i = i' + 1 := ⟨i - 1, by omega⟩
    have HQ : Hid (i + 1 + acc.length = 65 ∧ f + acc.length = 17 ∧ x < 16 ^ f ∧ x < 18446744073709551616 ∧ hexGo f x acc = X ∧ Hx w.heap.size (i + 1) acc wr ∧ Kp w wr) := ⟨hi, hf, hx, hx64, hH, hA, hK⟩
    have hfz := hA.fz i
    have hi65 : i < 65 := by omega
    obtain ⟨cv, hcv⟩ := hA.cell hi65
    have hii : (((i + 1 : Nat) : Int) - 1) = (i : Int) := by omega
    have hand := and15 hx64
    obtain ⟨D, hD⟩ : ∃ D, x % 16 = D := ⟨_, rfl⟩
    rw [hD] at hand
    have HD : Hid (x % 16 = D) := hD
    have hD16 : D < 16 := by omega
    obtain ⟨I, hI⟩ : ∃ I, i + 1 = I := ⟨_, rfl⟩
    rw [hI] at hii ⊢
    clear hx hx64 hH hA hK hD hf
    by_cases hc : 16 ≤ x
    · have dc : decide ((16 : Int) ≤ (x : Int)) = true := decide_eq_true (by omega)
      go_wp2_with fail
      rw [dig_eq hD16]
      obtain ⟨q1, q2, q3, q4, q5, q6, q7⟩ := HQ.out
      obtain ⟨f, rfl⟩ : ∃ f', f = f' + 1 := ⟨f - 1, by omega⟩
      have hf0 : f ≠ 0 := by
        intro z; subst z; omega
      refine ⟨⟨f, i, x / 16, (hexC D).toUInt8 :: acc, by simp, rfl, by simp only [List.length_cons]; omega, by simp only [List.length_cons]; omega, by omega, ?_, by omega, ?_, q6.put hi65 _ (hexC_lt hD16), ?_⟩, ?_⟩
      · rw [Nat.pow_succ] at q3
        omega
      · rw [← q5, ← HD.out]; simp [hexGo, hc]
      · exact kp_new q7 (fr_set _ _ _ _) (Nat.le_refl _)
      · simp only [intOf]; omega
    · have dc : decide ((16 : Int) ≤ (x : Int)) = false := decide_eq_false (by omega)
      have hDx : x = D := by rw [← HD.out]; omega
      subst hDx
      obtain ⟨q1, q2, q3, q4, q5, q6, q7⟩ := HQ.out
      obtain ⟨f, rfl⟩ : ∃ f', f = f' + 1 := ⟨f - 1, by omega⟩
      have hX : X = (hexC x).toUInt8 :: acc := by rw [← q5]; simp [hexGo, hc]
      have hl : ((⟨#[48, 49, 50, 51, 52, 53, 54, 55, 56, 57, 97, 98, 99, 100, 101, 102, 103, 104, 105, 106, 107, 108, 109, 110, 111, 112, 113, 114, 115, 116, 117, 118, 119, 120, 121, 122]⟩ : ByteArray)[x]'(by show x < 36; omega)).toNat = hexC x := dig_eq hD16 _
      obtain ⟨W, hW⟩ : ∃ W, wr.setCell ⟨w.heap.size, i, none⟩ (.int .u8 (((⟨#[48, 49, 50, 51, 52, 53, 54, 55, 56, 57, 97, 98, 99, 100, 101, 102, 103, 104, 105, 106, 107, 108, 109, 110, 111, 112, 113, 114, 115, 116, 117, 118, 119, 120, 121, 122]⟩ : ByteArray)[x]'(by show x < 36; omega)).toNat : Nat)) = W := ⟨_, rfl⟩
      have hWx : Hx w.heap.size i X W := by rw [← hW, hl, hX]; exact q6.put hi65 _ (hexC_lt hD16)
      have hWk : Kp w W := by rw [← hW]; exact kp_new q7 (fr_set _ _ _ _) (Nat.le_refl _)
      have hlen : X.length = 65 - i := by rw [hX]; simp only [List.length_cons]; omega
      have hal : Tryz.prog.arrayLen 113 = 65 := by kernel_rfl
      have hsl : ∀ Y, (Instr.sliceAt 113 (.pointer (some ⟨w.heap.size, 0, none⟩)) (some (.int .i64 (i : Int))) none none).run Tryz.prog Y = .ok (.slice (some ⟨w.heap.size, i, none⟩) (65 - i) (65 - i)) Y := fun Y => by
        rw [run_sliceAt_array_l Y 113 ⟨w.heap.size, 0, none⟩ (by kernel_rfl) .i64 (i : Int) (by omega) (by rw [hal]; omega), hal]
        go_simp
        omega
      have hcv2 : (convert 46 9 (.slice (some ⟨w.heap.size, i, none⟩) (65 - i) (65 - i))).run Tryz.prog W = .ok (.string ⟨X.toArray⟩) W := by
        have := run_convert_bytes_back (P := Tryz.prog) W 46 9 5 ⟨w.heap.size, i, none⟩ (65 - i) X Tryz.underlying46 Tryz.underlying5 Tryz.underlying9 (fun j hj => by
          rw [Addr.add_lit]; exact hWx.get hj)
        rw [hlen] at this
        exact this
      have HWk : Hid (Kp w W) := hWk
      clear q1 q2 q3 q4 q5 q6 q7 hX hl hWx hWk hlen hal HQ
      go_wp2_with fail
      go_ret2
      exact ⟨rfl, HWk.out⟩
theorem formatUintL_any (u : Nat) (hu : u < 18446744073709551616) (w : World) (h : w.cell? ⟨2, 15, none⟩ = some (.int .u8 4)) :
    Calls Tryz.prog 66 #[.int .u64 u, .int .i64 16] w fun e w' => e = .returned (.string ⟨(hexS u).toArray⟩) ∧ Kp w w' := by
  go_enter Tryz.func66, Tryz.ntmps66
  go_wp2_with fail
  refine Calls.mono (formatBits_any u hu _ h) ?_
  rintro e w' ⟨rfl, q⟩
  have HQ : Hid _ := q
  clear q
  go_wp2_with fail
  go_ret
  exact ⟨rfl, HQ.out⟩
theorem formatUint_any (u : Nat) (hu : u < 18446744073709551616) (w : World) (h : w.cell? ⟨2, 15, none⟩ = some (.int .u8 4)) :
    Calls Tryz.prog 52 #[.int .u64 u, .int .i64 16] w fun e w' => e = .returned (.string ⟨(hexS u).toArray⟩) ∧ Kp w w' := by
  go_enter Tryz.func52, Tryz.ntmps52
  go_wp2_with fail
  refine Calls.mono (formatUintL_any u hu _ h) ?_
  rintro e w' ⟨rfl, q⟩
  have HQ : Hid _ := q
  clear q
  go_wp2_with fail
  go_ret
  exact ⟨rfl, HQ.out⟩
/-- What stands of the library's tables, behind any call. -/
structure Gl (w : World) : Prop where
  tz : w.cell? ⟨2, 15, none⟩ = some (.int .u8 4)
  tab : Lib.TabIs Tryz.prog w (Rows.patSoundRow.named.getD 1 default) .u64 Lib.pow10Tab
  big : 3 < w.heap.size
  max : ∃ m, w.cell? ⟨3, 0, none⟩ = some (.int .i64 m)
end Go.Proofs.YtmghdogoeehodaaGreatDoor
/- Small texts: numbers, sets, bounds. -/
namespace Go.Proofs.YtmghdogoeehodaaGreatDoor
open Go.ChangeShapes Go.WideShapes Go.ChangeAt Go.RowKit
set_option linter.unusedVariables false
set_option linter.unusedSimpArgs false
abbrev str (l : List UInt8) : Value := .string ⟨l.toArray⟩
section
variable {w w1 : World}
theorem tab_kp {name : String} {k : IntKind} {zs : List Int} (h : Lib.TabIs Tryz.prog w name k zs) (q : Kp w w1) : Lib.TabIs Tryz.prog w1 name k zs := by
  unfold Lib.TabIs World.var? at *
  cases hg : Tryz.prog.globalNamed name with
  | none => rw [hg] at h; simp at h
  | some g =>
    rw [hg] at h
    simp only [Option.bind_some] at h ⊢
    rcases Nat.lt_or_ge g w.heap.size with hl | hl
    · rw [q.block g hl]; exact h
    · rw [Array.getElem?_eq_none hl] at h; cases h
theorem Gl.kp (h : Gl w) (q : Kp w w1) : Gl w1 :=
  ⟨kp_cell q h.tz, tab_kp h.tab q, Nat.lt_of_lt_of_le h.big q.size, by obtain ⟨m, hm⟩ := h.max; exact ⟨m, kp_cell q hm⟩⟩
theorem kp_grow (w : World) (k : Nat) (os : Array Obj) : Kp w (Go.Sort.grow (w.drewN k) os) := by
  have e := kp_drewN w k
  refine ⟨e.os, e.tape, e.output, ?_, fun j hj => ?_⟩
  · show w.heap.size ≤ ((w.drewN k).heap ++ os).size
    rw [drewN_heap, Array.size_append]; omega
  · show ((w.drewN k).heap ++ os)[j]? = _
    rw [drewN_heap, Array.getElem?_append_left hj]
theorem itoa_any (n : Int) (h0 : -9223372036854775808 ≤ n) (h1 : n ≤ 9223372036854775807) (g : Gl w) : Calls Tryz.prog 18 #[.int .i64 n] w fun e w' => e = .returned (str (Lib.itoa n)) ∧ Kp w w' := by
  refine Calls.mono (Any.strconv_Itoa Tryz.laysM171 n h0 h1 w g.tab) ?_
  rintro e w' ⟨rfl, k, os, rfl⟩
  exact ⟨rfl, kp_grow w k os⟩
theorem repeat0 (c : Nat) (hc : c ≤ 1000) : Calls Tryz.prog 53 #[str [48], .int .i64 c] w fun e w' => e = .returned (str (Lib.repeatL [48] c)) ∧ Kp w w' :=
  Any.strings_Repeat Tryz.lays105 Tryz.Builder_Extra_105 ⟨#[48]⟩ c w (by omega) (by show 1 * c ≤ _; omega)
theorem hexGo_len (f u : Nat) (acc : List UInt8) : (hexGo f u acc).length ≤ f + acc.length := by
  induction f generalizing u acc with
  | zero => simp [hexGo]
  | succ f ih =>
    unfold hexGo
    split
    · have := ih (u / 16) ((hexC (u % 16)).toUInt8 :: acc)
      simp only [List.length_cons] at this
      omega
    · simp only [List.length_cons]; omega
theorem hexS_len (u : Nat) : (hexS u).length ≤ 17 := by have := hexGo_len 17 u []; exact this
/-- A number by that many hex digits at least. -/
def hexT (u width : Nat) : List UInt8 := Lib.repeatL [48] (width - (hexS u).length) ++ hexS u
theorem hex_any (u width : Nat) (hu : u < 18446744073709551616) (hw : width ≤ 16) (g : Gl w) : Calls Tryz.prog 39 #[.int .u64 u, .int .i64 width] w fun e w' => e = .returned (str (hexT u width)) ∧ Kp w w' := by
  unfold hexT
  have hl := hexS_len u
  go_enter Tryz.func39, Tryz.ntmps39
  go_wp2_with fail
  refine Calls.mono (formatUint_any u hu _ g.tz) ?_
  rintro e w1 ⟨rfl, q⟩
  have HQ : Hid (Kp w w1) := q
  obtain ⟨N, hN⟩ : ∃ N, (hexS u).length = N := ⟨_, rfl⟩
  have hsz : (⟨(hexS u).toArray⟩ : ByteArray).size = N := by rw [Lib.size_eq]; exact hN
  have hmx : max ((width : Int) - (N : Int)) 0 = ((width - N : Nat) : Int) := by omega
  have hA := fun (W : World) => run_string_add_lists (P := Tryz.prog) W (Lib.repeatL [48] (width - N)) (hexS u) (by rw [Lib.repeatL_length]; simp; omega) (by rw [hN]; omega)
  rw [hN] at hl
  have HN : Hid ((hexS u).length = N) := hN
  clear q hN
  go_wp2_with fail
  refine Calls.mono (repeat0 (width - N) (by omega)) ?_
  rintro e w2 ⟨rfl, q⟩
  have HQ2 : Hid (Kp w w2) := kp_trans HQ.out q
  clear q
  go_wp2_with fail
  go_ret
  refine ⟨?_, HQ2.out⟩
  rw [HN.out]
  rfl
def caseL (c : Nat) : List UInt8 := if c = 0 then [97] else if c = 1 then [105] else [109]
theorem caseLetter_any (c : Nat) : Calls Tryz.prog 19 #[.int .u8 c] w fun e w' => e = .returned (str (caseL c)) ∧ w' = w := by
  unfold caseL
  by_cases h0 : c = 0
  · subst h0
    go_enter Tryz.func19, Tryz.ntmps19
    go_wp2
    go_ret
    exact ⟨rfl, rfl⟩
  by_cases h1 : c = 1
  · subst h1
    go_enter Tryz.func19, Tryz.ntmps19
    go_wp2
    go_ret
    exact ⟨rfl, rfl⟩
  rw [if_neg h0, if_neg h1]
  have d0 : ((c : Int) == 0) = false := by simp; omega
  have d1 : ((c : Int) == 1) = false := by simp; omega
  go_enter Tryz.func19, Tryz.ntmps19
  go_wp2
  go_ret
  exact ⟨rfl, rfl⟩
end
end Go.Proofs.YtmghdogoeehodaaGreatDoor
/- Texts of bounds, sets and leaves. -/
namespace Go.Proofs.YtmghdogoeehodaaGreatDoor
open Go.ChangeShapes Go.WideShapes Go.ChangeAt Go.RowKit
set_option linter.unusedVariables false
set_option linter.unusedSimpArgs false
def openT (lz : Bool) : List UInt8 := if lz then [123, 45] else [123]
def timesT (d : Nq) : List UInt8 := openT d.lz ++ Lib.itoa d.mn ++ [44] ++ Lib.itoa d.mx ++ [125]
def setT (s : S4) : List UInt8 := [115] ++ hexT s.a 16 ++ hexT s.b 16 ++ hexT s.c 16 ++ hexT s.d 16
def leafT (d : Nq) : List UInt8 :=
  if d.op = 2 then [98] ++ hexT d.c 2 else if d.op = 3 then [46] else if d.op = 4 then setT d.set else if d.op = 9 then [92] ++ Lib.itoa d.n
  else if d.op = 10 then [94] else if d.op = 11 then [36] else if d.op = 12 then [91] else if d.op = 13 then [93] else if d.op = 14 then [33] else if d.op = 15 then [63] else [101]
/-- A node in a block of its own. -/
def NqBox (n : Nat) (d : Nq) (kv : Value) (w : World) : Prop := w.heap[n]? = some (.cells (d.cells kv).toArray 35 (0, 0))
section
variable {w w1 : World}
theorem NqBox.cell {n : Nat} {d : Nq} {kv : Value} (h : NqBox n d kv w) {j : Nat} {u : Value} (hj : (d.cells kv)[j]? = some u) : w.cell? ⟨n, j, none⟩ = some u := by
  unfold NqBox at h
  rw [cell_at h]; simpa using hj
theorem NqBox.kp {n : Nat} {d : Nq} {kv : Value} (h : NqBox n d kv w) (k : Kp w w1) : NqBox n d kv w1 := by
  have l := (Array.getElem?_eq_some_iff.1 h).1
  unfold NqBox at *; rw [k.block _ l]; exact h
def Sm (n : Int) : Prop := -9223372036854775808 ≤ n ∧ n ≤ 9223372036854775807
theorem itoa_len {n : Int} (h : Sm n) : (Lib.itoa n).length ≤ 21 := Lib.itoa_length_le n h.1 h.2
theorem cat_run {x y z : List UInt8} (h : x ++ y = z) (hz : z.length ≤ 8000000) (W : World) : (Op.stringOp .add ⟨x.toArray⟩ ⟨y.toArray⟩).run Tryz.prog W = .ok (.string ⟨z.toArray⟩) W := by
  subst h
  rw [List.length_append] at hz
  exact run_string_add_lists W x y (by omega) (by omega)
set_option maxHeartbeats 4000000 in
set_option maxRecDepth 100000 in
theorem timesText_any (d : Nq) (kv : Value) (h1 : Sm d.mn) (h2 : Sm d.mx) (g : Gl w) : Calls Tryz.prog 30 #[d.val kv] w fun e w' => e = .returned (str (timesT d)) ∧ Kp w w' := by
  unfold timesT
  have l1 := itoa_len h1
  have l2 := itoa_len h2
  have HG : Hid (Gl w ∧ Sm d.mn ∧ Sm d.mx) := ⟨g, h1, h2⟩
  obtain ⟨oT, hoT⟩ : ∃ oT, openT d.lz = oT := ⟨_, rfl⟩
  have hl0 : oT.length ≤ 2 := by rw [← hoT]; unfold openT; split <;> simp
  rw [hoT]
  have HO : Hid (openT d.lz = oT) := hoT
  obtain ⟨a1, ha1⟩ : ∃ a, oT ++ Lib.itoa d.mn = a := ⟨_, rfl⟩
  obtain ⟨a2, ha2⟩ : ∃ a, a1 ++ [44] = a := ⟨_, rfl⟩
  obtain ⟨a3, ha3⟩ : ∃ a, a2 ++ Lib.itoa d.mx = a := ⟨_, rfl⟩
  obtain ⟨a4, ha4⟩ : ∃ a, a3 ++ [125] = a := ⟨_, rfl⟩
  rw [ha1, ha2, ha3, ha4]
  have e1 : a1.length ≤ 30 := by rw [← ha1, List.length_append]; omega
  have e2 : a2.length ≤ 31 := by rw [← ha2, List.length_append]; simp; omega
  have e3 : a3.length ≤ 60 := by rw [← ha3, List.length_append]; omega
  have e4 : a4.length ≤ 61 := by rw [← ha4, List.length_append]; simp; omega
  have hA1 := cat_run ha1 (by omega)
  have hA2 := cat_run ha2 (by omega)
  have hA3 := cat_run ha3 (by omega)
  have hA4 := cat_run ha4 (by omega)
  have HN : Hid (NqBox w.heap.size d kv (w.alloc (.cells (d.cells kv).toArray 35)).drew ∧ Kp w (w.alloc (.cells (d.cells kv).toArray 35)).drew) := ⟨alloc_new w _, kp_trans (kp_alloc _ _) (kp_drew _)⟩
  clear g h1 h2 hoT ha1 ha2 ha3 ha4 e1 e2 e3 e4
  have rl6 : ∀ w', NqBox w.heap.size d kv w' → w'.cell? ⟨w.heap.size, 6, none⟩ = some (.int .i64 d.mn) := fun _ h => h.cell rfl
  have rl7 : ∀ w', NqBox w.heap.size d kv w' → w'.cell? ⟨w.heap.size, 7, none⟩ = some (.int .i64 d.mx) := fun _ h => h.cell rfl
  unfold Nq.val
  cases hlz : d.lz
  · have hoL : oT = [123] := by rw [← HO.out, hlz]; rfl
    subst hoL
    have HNl : Hid (NqBox w.heap.size d kv (w.alloc (.cells #[.int .u8 d.op, .int .u8 d.c, .int .u64 d.set.a, .int .u64 d.set.b, .int .u64 d.set.c, .int .u64 d.set.d, .int .i64 d.mn, .int .i64 d.mx, .bool false, .int .i64 d.n, kv] 35)).drew ∧ Kp w (w.alloc (.cells #[.int .u8 d.op, .int .u8 d.c, .int .u64 d.set.a, .int .u64 d.set.b, .int .u64 d.set.c, .int .u64 d.set.d, .int .i64 d.mn, .int .i64 d.mx, .bool false, .int .i64 d.n, kv] 35)).drew) := by
      have := HN.out
      unfold Nq.cells at this
      rw [hlz] at this
      exact this
    clear HN
    go_enter Tryz.func30, Tryz.ntmps30
    go_wp2_with fail
    refine wp_region_noPanic ?_
    refine wp_region_held_drew (S := NqBox w.heap.size d kv) (by kernel_rfl) (HNl.out.1) (fun hHeld => ?_)
    refine takeAt 0 (some 6) ?_ rfl rfl (by kernel_rfl) (by kernel_rfl) (by kernel_rfl) (fun _ _ _ h => h) (Or.inl ⟨by rfl, ?_⟩) hHeld ?_
    rotate_left
    · intro w hSw
      go_simp <;> with_reducible rfl
    try simp only [Act.put, List.setIfInBounds_toArray, List.set_cons_zero, List.set_cons_succ]
    refine takeAt 1 (some 7) ?_ rfl rfl (by kernel_rfl) (by kernel_rfl) (by kernel_rfl) (fun _ _ _ h => h) (Or.inl ⟨by rfl, ?_⟩) hHeld ?_
    rotate_left
    · intro w hSw
      go_simp <;> with_reducible rfl
    try simp only [Act.put, List.setIfInBounds_toArray, List.set_cons_zero, List.set_cons_succ]
    refine takeAt 2 (some 8) ?_ rfl rfl (by kernel_rfl) (by kernel_rfl) (by kernel_rfl) (fun _ _ _ h => h) (Or.inl ⟨by rfl, ?_⟩) hHeld ?_
    rotate_left
    · intro w hSw
      go_simp <;> with_reducible rfl
    try simp only [Act.put, List.setIfInBounds_toArray, List.set_cons_zero, List.set_cons_succ]
    refine takeAt 6 (some 12) ?_ rfl rfl (by kernel_rfl) (by kernel_rfl) (by kernel_rfl) (fun _ _ _ h => h) (Or.inl ⟨by rfl, ?_⟩) hHeld ?_
    rotate_left
    · intro w hSw
      go_simp <;> with_reducible rfl
    try simp only [Act.put, List.setIfInBounds_toArray, List.set_cons_zero, List.set_cons_succ]
    refine takeAt 7 (some 13) ?_ rfl rfl (by kernel_rfl) (by kernel_rfl) (by kernel_rfl) (fun _ _ _ h => h) (Or.inl ⟨by rfl, ?_⟩) hHeld ?_
    rotate_left
    · intro w hSw
      go_simp <;> with_reducible rfl
    try simp only [Act.put, List.setIfInBounds_toArray, List.set_cons_zero, List.set_cons_succ]
    refine callAt 3 9 18 (vals := #[.int .i64 d.mn]) (by kernel_rfl) rfl rfl rfl rfl (by simp [Act.eval]) Tryz.func18 (by kernel_rfl) (by kernel_rfl) ?_
    refine Calls.mono (itoa_any d.mn HG.out.2.1.1 HG.out.2.1.2 (HG.out.1.kp HNl.out.2)) ?_
    rintro e w1 ⟨rfl, q⟩
    have H1 : Hid (NqBox w.heap.size d kv w1 ∧ Kp w w1) := ⟨HNl.out.1.kp q, kp_trans HNl.out.2 q⟩
    clear q
    refine ⟨_, rfl, H1.out.1, fun hHeld => ?_⟩
    try simp only [Act.put, List.setIfInBounds_toArray, List.set_cons_zero, List.set_cons_succ]
    refine takeAt 4 (some 10) ?_ rfl rfl (by kernel_rfl) (by kernel_rfl) (by kernel_rfl) (fun _ _ _ h => h) (Or.inl ⟨by rfl, ?_⟩) hHeld ?_
    rotate_left
    · intro w hSw
      go_simp <;> with_reducible rfl
    try simp only [Act.put, List.setIfInBounds_toArray, List.set_cons_zero, List.set_cons_succ]
    refine takeAt 5 (some 11) ?_ rfl rfl (by kernel_rfl) (by kernel_rfl) (by kernel_rfl) (fun _ _ _ h => h) (Or.inl ⟨by rfl, ?_⟩) hHeld ?_
    rotate_left
    · intro w hSw
      go_simp <;> with_reducible rfl
    try simp only [Act.put, List.setIfInBounds_toArray, List.set_cons_zero, List.set_cons_succ]
    refine callAt 8 14 18 (vals := #[.int .i64 d.mx]) (by kernel_rfl) rfl rfl rfl rfl (by simp [Act.eval]) Tryz.func18 (by kernel_rfl) (by kernel_rfl) ?_
    refine Calls.mono (itoa_any d.mx HG.out.2.2.1 HG.out.2.2.2 (HG.out.1.kp H1.out.2)) ?_
    rintro e w2 ⟨rfl, q⟩
    have H2 : Hid (NqBox w.heap.size d kv w2 ∧ Kp w w2) := ⟨H1.out.1.kp q, kp_trans H1.out.2 q⟩
    clear q
    refine ⟨_, rfl, H2.out.1, fun hHeld => ?_⟩
    try simp only [Act.put, List.setIfInBounds_toArray, List.set_cons_zero, List.set_cons_succ]
    refine takeAt 9 (some 15) ?_ rfl rfl (by kernel_rfl) (by kernel_rfl) (by kernel_rfl) (fun _ _ _ h => h) (Or.inl ⟨by rfl, ?_⟩) hHeld ?_
    rotate_left
    · intro w hSw
      go_simp <;> with_reducible rfl
    try simp only [Act.put, List.setIfInBounds_toArray, List.set_cons_zero, List.set_cons_succ]
    refine takeAt 10 (some 16) ?_ rfl rfl (by kernel_rfl) (by kernel_rfl) (by kernel_rfl) (fun _ _ _ h => h) (Or.inl ⟨by rfl, ?_⟩) hHeld ?_
    rotate_left
    · intro w hSw
      go_simp <;> with_reducible rfl
    try simp only [Act.put, List.setIfInBounds_toArray, List.set_cons_zero, List.set_cons_succ]
    refine takeAt 11 (some 2) ?_ rfl rfl (by kernel_rfl) (by kernel_rfl) (by kernel_rfl) (fun _ _ _ h => h) (Or.inl ⟨by rfl, ?_⟩) hHeld ?_
    rotate_left
    · intro w hSw
      go_simp <;> with_reducible rfl
    try simp only [Act.put, List.setIfInBounds_toArray, List.set_cons_zero, List.set_cons_succ]
    refine wpAnyH_done (by kernel_rfl) ?_ _
    refine NoPanic.normal ?_
    go_wp2_with fail
    go_ret
    exact ⟨rfl, H2.out.2⟩
  · have hoL : oT = [123, 45] := by rw [← HO.out, hlz]; rfl
    subst hoL
    have HNl : Hid (NqBox w.heap.size d kv (w.alloc (.cells #[.int .u8 d.op, .int .u8 d.c, .int .u64 d.set.a, .int .u64 d.set.b, .int .u64 d.set.c, .int .u64 d.set.d, .int .i64 d.mn, .int .i64 d.mx, .bool true, .int .i64 d.n, kv] 35)).drew ∧ Kp w (w.alloc (.cells #[.int .u8 d.op, .int .u8 d.c, .int .u64 d.set.a, .int .u64 d.set.b, .int .u64 d.set.c, .int .u64 d.set.d, .int .i64 d.mn, .int .i64 d.mx, .bool true, .int .i64 d.n, kv] 35)).drew) := by
      have := HN.out
      unfold Nq.cells at this
      rw [hlz] at this
      exact this
    clear HN
    go_enter Tryz.func30, Tryz.ntmps30
    go_wp2_with fail
    refine wp_region_noPanic ?_
    refine wp_region_held_drew (S := NqBox w.heap.size d kv) (by kernel_rfl) (HNl.out.1) (fun hHeld => ?_)
    refine takeAt 0 (some 6) ?_ rfl rfl (by kernel_rfl) (by kernel_rfl) (by kernel_rfl) (fun _ _ _ h => h) (Or.inl ⟨by rfl, ?_⟩) hHeld ?_
    rotate_left
    · intro w hSw
      go_simp <;> with_reducible rfl
    try simp only [Act.put, List.setIfInBounds_toArray, List.set_cons_zero, List.set_cons_succ]
    refine takeAt 1 (some 7) ?_ rfl rfl (by kernel_rfl) (by kernel_rfl) (by kernel_rfl) (fun _ _ _ h => h) (Or.inl ⟨by rfl, ?_⟩) hHeld ?_
    rotate_left
    · intro w hSw
      go_simp <;> with_reducible rfl
    try simp only [Act.put, List.setIfInBounds_toArray, List.set_cons_zero, List.set_cons_succ]
    refine takeAt 2 (some 8) ?_ rfl rfl (by kernel_rfl) (by kernel_rfl) (by kernel_rfl) (fun _ _ _ h => h) (Or.inl ⟨by rfl, ?_⟩) hHeld ?_
    rotate_left
    · intro w hSw
      go_simp <;> with_reducible rfl
    try simp only [Act.put, List.setIfInBounds_toArray, List.set_cons_zero, List.set_cons_succ]
    refine takeAt 6 (some 12) ?_ rfl rfl (by kernel_rfl) (by kernel_rfl) (by kernel_rfl) (fun _ _ _ h => h) (Or.inl ⟨by rfl, ?_⟩) hHeld ?_
    rotate_left
    · intro w hSw
      go_simp <;> with_reducible rfl
    try simp only [Act.put, List.setIfInBounds_toArray, List.set_cons_zero, List.set_cons_succ]
    refine takeAt 7 (some 13) ?_ rfl rfl (by kernel_rfl) (by kernel_rfl) (by kernel_rfl) (fun _ _ _ h => h) (Or.inl ⟨by rfl, ?_⟩) hHeld ?_
    rotate_left
    · intro w hSw
      go_simp <;> with_reducible rfl
    try simp only [Act.put, List.setIfInBounds_toArray, List.set_cons_zero, List.set_cons_succ]
    refine callAt 3 9 18 (vals := #[.int .i64 d.mn]) (by kernel_rfl) rfl rfl rfl rfl (by simp [Act.eval]) Tryz.func18 (by kernel_rfl) (by kernel_rfl) ?_
    refine Calls.mono (itoa_any d.mn HG.out.2.1.1 HG.out.2.1.2 (HG.out.1.kp HNl.out.2)) ?_
    rintro e w1 ⟨rfl, q⟩
    have H1 : Hid (NqBox w.heap.size d kv w1 ∧ Kp w w1) := ⟨HNl.out.1.kp q, kp_trans HNl.out.2 q⟩
    clear q
    refine ⟨_, rfl, H1.out.1, fun hHeld => ?_⟩
    try simp only [Act.put, List.setIfInBounds_toArray, List.set_cons_zero, List.set_cons_succ]
    refine takeAt 4 (some 10) ?_ rfl rfl (by kernel_rfl) (by kernel_rfl) (by kernel_rfl) (fun _ _ _ h => h) (Or.inl ⟨by rfl, ?_⟩) hHeld ?_
    rotate_left
    · intro w hSw
      go_simp <;> with_reducible rfl
    try simp only [Act.put, List.setIfInBounds_toArray, List.set_cons_zero, List.set_cons_succ]
    refine takeAt 5 (some 11) ?_ rfl rfl (by kernel_rfl) (by kernel_rfl) (by kernel_rfl) (fun _ _ _ h => h) (Or.inl ⟨by rfl, ?_⟩) hHeld ?_
    rotate_left
    · intro w hSw
      go_simp <;> with_reducible rfl
    try simp only [Act.put, List.setIfInBounds_toArray, List.set_cons_zero, List.set_cons_succ]
    refine callAt 8 14 18 (vals := #[.int .i64 d.mx]) (by kernel_rfl) rfl rfl rfl rfl (by simp [Act.eval]) Tryz.func18 (by kernel_rfl) (by kernel_rfl) ?_
    refine Calls.mono (itoa_any d.mx HG.out.2.2.1 HG.out.2.2.2 (HG.out.1.kp H1.out.2)) ?_
    rintro e w2 ⟨rfl, q⟩
    have H2 : Hid (NqBox w.heap.size d kv w2 ∧ Kp w w2) := ⟨H1.out.1.kp q, kp_trans H1.out.2 q⟩
    clear q
    refine ⟨_, rfl, H2.out.1, fun hHeld => ?_⟩
    try simp only [Act.put, List.setIfInBounds_toArray, List.set_cons_zero, List.set_cons_succ]
    refine takeAt 9 (some 15) ?_ rfl rfl (by kernel_rfl) (by kernel_rfl) (by kernel_rfl) (fun _ _ _ h => h) (Or.inl ⟨by rfl, ?_⟩) hHeld ?_
    rotate_left
    · intro w hSw
      go_simp <;> with_reducible rfl
    try simp only [Act.put, List.setIfInBounds_toArray, List.set_cons_zero, List.set_cons_succ]
    refine takeAt 10 (some 16) ?_ rfl rfl (by kernel_rfl) (by kernel_rfl) (by kernel_rfl) (fun _ _ _ h => h) (Or.inl ⟨by rfl, ?_⟩) hHeld ?_
    rotate_left
    · intro w hSw
      go_simp <;> with_reducible rfl
    try simp only [Act.put, List.setIfInBounds_toArray, List.set_cons_zero, List.set_cons_succ]
    refine takeAt 11 (some 2) ?_ rfl rfl (by kernel_rfl) (by kernel_rfl) (by kernel_rfl) (fun _ _ _ h => h) (Or.inl ⟨by rfl, ?_⟩) hHeld ?_
    rotate_left
    · intro w hSw
      go_simp <;> with_reducible rfl
    try simp only [Act.put, List.setIfInBounds_toArray, List.set_cons_zero, List.set_cons_succ]
    refine wpAnyH_done (by kernel_rfl) ?_ _
    refine NoPanic.normal ?_
    go_wp2_with fail
    go_ret
    exact ⟨rfl, H2.out.2⟩
end
end Go.Proofs.YtmghdogoeehodaaGreatDoor
/- Texts of sets and leaves. -/
namespace Go.Proofs.YtmghdogoeehodaaGreatDoor
open Go.ChangeShapes Go.WideShapes Go.ChangeAt Go.RowKit
set_option linter.unusedVariables false
set_option linter.unusedSimpArgs false
section
variable {w w1 : World}
theorem hexT_len (u width : Nat) (h : width ≤ 16) : (hexT u width).length ≤ 33 := by
  have := hexS_len u
  unfold hexT
  rw [List.length_append, Lib.repeatL_length]
  simp; omega
set_option maxHeartbeats 4000000 in
set_option maxRecDepth 100000 in
theorem setText_any (q : S4) (hq : q.ok) (g : Gl w) : Calls Tryz.prog 40 #[.agg #[.int .u64 q.a, .int .u64 q.b, .int .u64 q.c, .int .u64 q.d]] w fun e w' => e = .returned (str (setT q)) ∧ Kp w w' := by
  have HG : Hid (Gl w ∧ q.ok) := ⟨g, hq⟩
  unfold setT
  obtain ⟨a1, ha1⟩ : ∃ a, [115] ++ hexT q.a 16 = a := ⟨_, rfl⟩
  obtain ⟨a2, ha2⟩ : ∃ a, a1 ++ hexT q.b 16 = a := ⟨_, rfl⟩
  obtain ⟨a3, ha3⟩ : ∃ a, a2 ++ hexT q.c 16 = a := ⟨_, rfl⟩
  obtain ⟨a4, ha4⟩ : ∃ a, a3 ++ hexT q.d 16 = a := ⟨_, rfl⟩
  rw [ha1, ha2, ha3, ha4]
  have l1 := hexT_len q.a 16 (by omega)
  have l2 := hexT_len q.b 16 (by omega)
  have l3 := hexT_len q.c 16 (by omega)
  have l4 := hexT_len q.d 16 (by omega)
  have e1 : a1.length ≤ 40 := by rw [← ha1, List.length_append]; simp; omega
  have e2 : a2.length ≤ 80 := by rw [← ha2, List.length_append]; omega
  have e3 : a3.length ≤ 120 := by rw [← ha3, List.length_append]; omega
  have e4 : a4.length ≤ 160 := by rw [← ha4, List.length_append]; omega
  have hA1 := cat_run ha1 (by omega)
  have hA2 := cat_run ha2 (by omega)
  have hA3 := cat_run ha3 (by omega)
  have hA4 := cat_run ha4 (by omega)
  have hI0 : ∀ W, (Instr.index 32 (.agg #[.int .u64 q.a, .int .u64 q.b, .int .u64 q.c, .int .u64 q.d]) (.int .i64 0)).run Tryz.prog W = .ok (.int .u64 q.a) W := fun W => by kernel_rfl
  have hI1 : ∀ W, (Instr.index 32 (.agg #[.int .u64 q.a, .int .u64 q.b, .int .u64 q.c, .int .u64 q.d]) (.int .i64 1)).run Tryz.prog W = .ok (.int .u64 q.b) W := fun W => by kernel_rfl
  have hI2 : ∀ W, (Instr.index 32 (.agg #[.int .u64 q.a, .int .u64 q.b, .int .u64 q.c, .int .u64 q.d]) (.int .i64 2)).run Tryz.prog W = .ok (.int .u64 q.c) W := fun W => by kernel_rfl
  have hI3 : ∀ W, (Instr.index 32 (.agg #[.int .u64 q.a, .int .u64 q.b, .int .u64 q.c, .int .u64 q.d]) (.int .i64 3)).run Tryz.prog W = .ok (.int .u64 q.d) W := fun W => by kernel_rfl
  clear g hq ha1 ha2 ha3 ha4 l1 l2 l3 l4 e1 e2 e3 e4
  go_enter Tryz.func40, Tryz.ntmps40
  go_wp2_with fail
  go_loopw [3, 7] (fun v3 v7 wr => Kp w wr ∧ ((v7 = .int .i64 0 ∧ v3 = str [115]) ∨ (v7 = .int .i64 1 ∧ v3 = str a1) ∨ (v7 = .int .i64 2 ∧ v3 = str a2) ∨ (v7 = .int .i64 3 ∧ v3 = str a3) ∨ (v7 = .int .i64 4 ∧ v3 = str a4))) (fun _ v7 _ => 4 - (intOf v7).toNat)
  case atStart => exact ⟨kp_alloc _ _, .inl ⟨rfl, rfl⟩⟩
  case round =>
    obtain ⟨hK, hrel⟩ := hrel
    have HK : Hid (Kp w wr) := hK
    clear hK
    rcases hrel with ⟨rfl, rfl⟩ | ⟨rfl, rfl⟩ | ⟨rfl, rfl⟩ | ⟨rfl, rfl⟩ | ⟨rfl, rfl⟩
    · go_wp2_with fail
      refine Calls.mono (hex_any q.a 16 HG.out.2.1 (by omega) (HG.out.1.kp HK.out)) ?_
      rintro e w2 ⟨rfl, z⟩
      have HK2 : Hid (Kp w w2) := kp_trans HK.out z
      clear z
      go_wp2_with fail
      go_roundw
      case rel => exact ⟨HK2.out, .inr (.inl ⟨rfl, rfl⟩)⟩
      case measure => simp [intOf]
    · go_wp2_with fail
      refine Calls.mono (hex_any q.b 16 HG.out.2.2.1 (by omega) (HG.out.1.kp HK.out)) ?_
      rintro e w2 ⟨rfl, z⟩
      have HK2 : Hid (Kp w w2) := kp_trans HK.out z
      clear z
      go_wp2_with fail
      go_roundw
      case rel => exact ⟨HK2.out, .inr (.inr (.inl ⟨rfl, rfl⟩))⟩
      case measure => simp [intOf]
    · go_wp2_with fail
      refine Calls.mono (hex_any q.c 16 HG.out.2.2.2.1 (by omega) (HG.out.1.kp HK.out)) ?_
      rintro e w2 ⟨rfl, z⟩
      have HK2 : Hid (Kp w w2) := kp_trans HK.out z
      clear z
      go_wp2_with fail
      go_roundw
      case rel => exact ⟨HK2.out, .inr (.inr (.inr (.inl ⟨rfl, rfl⟩)))⟩
      case measure => simp [intOf]
    · go_wp2_with fail
      refine Calls.mono (hex_any q.d 16 HG.out.2.2.2.2 (by omega) (HG.out.1.kp HK.out)) ?_
      rintro e w2 ⟨rfl, z⟩
      have HK2 : Hid (Kp w w2) := kp_trans HK.out z
      clear z
      go_wp2_with fail
      go_roundw
      case rel => exact ⟨HK2.out, .inr (.inr (.inr (.inr (⟨rfl, rfl⟩))))⟩
      case measure => simp [intOf]
    · go_wp2_with fail
      go_ret
      exact ⟨rfl, HK.out⟩
set_option maxHeartbeats 4000000 in
set_option maxRecDepth 100000 in
theorem leafText_any (d : Nq) (kv : Value) (h1 : Sm d.n) (hq : d.set.ok) (hc : d.c < 256) (g : Gl w) : Calls Tryz.prog 31 #[d.val kv] w fun e w' => e = .returned (str (leafT d)) ∧ Kp w w' := by
  have HG : Hid (Gl w ∧ Sm d.n ∧ d.set.ok) := ⟨g, h1, hq⟩
  have k0 : ∀ ob, Kp w (w.alloc ob) := fun ob => kp_alloc w ob
  obtain ⟨ab, hab⟩ : ∃ a, [98] ++ hexT d.c 2 = a := ⟨_, rfl⟩
  obtain ⟨an, han⟩ : ∃ a, [92] ++ Lib.itoa d.n = a := ⟨_, rfl⟩
  have hAb := cat_run hab (by rw [← hab, List.length_append]; have := hexT_len d.c 2 (by omega); simp; omega)
  have hAn := cat_run han (by rw [← han, List.length_append]; have := itoa_len h1; simp; omega)
  obtain ⟨T, hT⟩ : ∃ T, leafT d = T := ⟨_, rfl⟩
  rw [hT]
  unfold leafT at hT
  rw [hab, han] at hT
  obtain ⟨op, hop⟩ : ∃ op, d.op = op := ⟨_, rfl⟩
  unfold Nq.val
  rw [hop] at hT ⊢
  have HT : Hid _ := hT
  have HK : Hid (∀ ob, Kp w (w.alloc ob)) := k0
  clear g h1 hq hab han hT hop k0
  by_cases h2 : op = 2
  · subst h2
    have hT := HT.out
    simp at hT
    subst hT
    go_enter Tryz.func31, Tryz.ntmps31
    go_wp2_with fail
    refine Calls.mono (hex_any d.c 2 (by omega) (by omega) (HG.out.1.kp (HK.out _))) ?_
    rintro e w2 ⟨rfl, z⟩
    have HK2 : Hid (Kp w w2) := kp_trans (HK.out _) z
    clear z
    go_wp2_with fail
    go_ret
    exact ⟨rfl, HK2.out⟩
  have d2 : ((op : Int) == 2) = false := by simp; omega
  by_cases h3 : op = 3
  · subst h3
    have hT := HT.out
    simp at hT
    subst hT
    go_enter Tryz.func31, Tryz.ntmps31
    go_wp2_with fail
    go_ret
    exact ⟨rfl, HK.out _⟩
  have d3 : ((op : Int) == 3) = false := by simp; omega
  by_cases h4 : op = 4
  · subst h4
    have hT := HT.out
    simp at hT
    subst hT
    go_enter Tryz.func31, Tryz.ntmps31
    go_wp2_with fail
    refine Calls.mono (setText_any d.set HG.out.2.2 (HG.out.1.kp (HK.out _))) ?_
    rintro e w2 ⟨rfl, z⟩
    have HK2 : Hid (Kp w w2) := kp_trans (HK.out _) z
    clear z
    go_wp2_with fail
    go_ret
    exact ⟨rfl, HK2.out⟩
  have d4 : ((op : Int) == 4) = false := by simp; omega
  by_cases h9 : op = 9
  · subst h9
    have hT := HT.out
    simp at hT
    subst hT
    go_enter Tryz.func31, Tryz.ntmps31
    go_wp2_with fail
    refine Calls.mono (itoa_any d.n HG.out.2.1.1 HG.out.2.1.2 (HG.out.1.kp (HK.out _))) ?_
    rintro e w2 ⟨rfl, z⟩
    have HK2 : Hid (Kp w w2) := kp_trans (HK.out _) z
    clear z
    go_wp2_with fail
    go_ret
    exact ⟨rfl, HK2.out⟩
  have d9 : ((op : Int) == 9) = false := by simp; omega
  by_cases h10 : op = 10
  · subst h10
    have hT := HT.out
    simp at hT
    subst hT
    go_enter Tryz.func31, Tryz.ntmps31
    go_wp2_with fail
    go_ret
    exact ⟨rfl, HK.out _⟩
  have d10 : ((op : Int) == 10) = false := by simp; omega
  by_cases h11 : op = 11
  · subst h11
    have hT := HT.out
    simp at hT
    subst hT
    go_enter Tryz.func31, Tryz.ntmps31
    go_wp2_with fail
    go_ret
    exact ⟨rfl, HK.out _⟩
  have d11 : ((op : Int) == 11) = false := by simp; omega
  by_cases h12 : op = 12
  · subst h12
    have hT := HT.out
    simp at hT
    subst hT
    go_enter Tryz.func31, Tryz.ntmps31
    go_wp2_with fail
    go_ret
    exact ⟨rfl, HK.out _⟩
  have d12 : ((op : Int) == 12) = false := by simp; omega
  by_cases h13 : op = 13
  · subst h13
    have hT := HT.out
    simp at hT
    subst hT
    go_enter Tryz.func31, Tryz.ntmps31
    go_wp2_with fail
    go_ret
    exact ⟨rfl, HK.out _⟩
  have d13 : ((op : Int) == 13) = false := by simp; omega
  by_cases h14 : op = 14
  · subst h14
    have hT := HT.out
    simp at hT
    subst hT
    go_enter Tryz.func31, Tryz.ntmps31
    go_wp2_with fail
    go_ret
    exact ⟨rfl, HK.out _⟩
  have d14 : ((op : Int) == 14) = false := by simp; omega
  by_cases h15 : op = 15
  · subst h15
    have hT := HT.out
    simp at hT
    subst hT
    go_enter Tryz.func31, Tryz.ntmps31
    go_wp2_with fail
    go_ret
    exact ⟨rfl, HK.out _⟩
  have d15 : ((op : Int) == 15) = false := by simp; omega
  have hT := HT.out
  simp [h2, h3, h4, h9, h10, h11, h12, h13, h14, h15] at hT
  subst hT
  go_enter Tryz.func31, Tryz.ntmps31
  go_wp2_with fail
  go_ret
  exact ⟨rfl, HK.out _⟩
end
end Go.Proofs.YtmghdogoeehodaaGreatDoor
/- The printer in memory, and its builder. -/
namespace Go.Proofs.YtmghdogoeehodaaGreatDoor
open Go.ChangeShapes Go.WideShapes Go.ChangeAt Go.RowKit
set_option linter.unusedVariables false
set_option linter.unusedSimpArgs false
/-- A printer: the pattern, its builder's two cells, what waits. -/
def Pr (pb : Nat) (v : Value) (root G : Int) (cs : Nat) (p bv wv : Value) (w : World) : Prop := w.heap[pb]? = some (.cells #[v, .int .i64 root, .int .i64 G, .int .u8 cs, p, bv, wv] 51 (0, 0))
section
variable {pb : Nat} {v p bv wv : Value} {root G : Int} {cs : Nat} {w w1 : World}
theorem Pr.cells (h : Pr pb v root G cs p bv wv w) : w.cell? ⟨pb, 0, none⟩ = some v ∧ w.cell? ⟨pb, 1, none⟩ = some (.int .i64 root) ∧ w.cell? ⟨pb, 2, none⟩ = some (.int .i64 G) ∧ w.cell? ⟨pb, 3, none⟩ = some (.int .u8 cs) ∧ w.cell? ⟨pb, 4, none⟩ = some p ∧ w.cell? ⟨pb, 5, none⟩ = some bv ∧ w.cell? ⟨pb, 6, none⟩ = some wv := by
  unfold Pr at h
  refine ⟨?_, ?_, ?_, ?_, ?_, ?_, ?_⟩ <;> simp [World.cell?, h]
theorem Pr.fz (h : Pr pb v root G cs p bv wv w) (j : Nat) : w.frozen? ⟨pb, j, none⟩ = false := by unfold Pr at h; simp [World.frozen?, h]
theorem Pr.lt (h : Pr pb v root G cs p bv wv w) : pb < w.heap.size := (Array.getElem?_eq_some_iff.1 h).1
theorem Pr.heap (h : Pr pb v root G cs p bv wv w) (e : w1.heap[pb]? = w.heap[pb]?) : Pr pb v root G cs p bv wv w1 := by unfold Pr at *; rw [e]; exact h
theorem Pr.set4 (h : Pr pb v root G cs p bv wv w) (x : Value) : Pr pb v root G cs x bv wv (w.setCell ⟨pb, 4, none⟩ x) := by unfold Pr at *; rw [heap_setCell h]; simp
theorem Pr.set5 (h : Pr pb v root G cs p bv wv w) (x : Value) : Pr pb v root G cs p x wv (w.setCell ⟨pb, 5, none⟩ x) := by unfold Pr at *; rw [heap_setCell h]; simp
theorem Pr.set6 (h : Pr pb v root G cs p bv wv w) (x : Value) : Pr pb v root G cs p bv x (w.setCell ⟨pb, 6, none⟩ x) := by unfold Pr at *; rw [heap_setCell h]; simp
theorem Pr.shape (h : Pr pb v root G cs p bv wv w) : w.shape? pb = some (51, 7) := by unfold Pr at h; simp [World.shape?, h]
theorem infoBld : (Tryz.prog.info? 48).map (·.size) = some 2 := by kernel_rfl
theorem liesBld : liesAt Tryz.prog Tryz.prog.depth 51 (7 / Tryz.prog.cellsOf 51) 4 48 1 = true := by kernel_rfl
theorem noEscape_run (x : Value) (W : World) : (callFunc 38 #[x]).run Tryz.prog W = .ok (.value x) W := by
  rw [run_callFunc_extern Tryz.func38 (by kernel_rfl) (by kernel_rfl) (by kernel_rfl) (e := Extern.AbiNoEscape.same) (by kernel_rfl), Lib.run_noEscape]
  rfl
set_option maxHeartbeats 1000000 in
set_option maxRecDepth 100000 in
theorem copyCheck_used (h0 : w.cell? ⟨pb, 4, none⟩ = some (.pointer (some ⟨pb, 4, none⟩))) :
    Calls Tryz.prog 28 #[.pointer (some ⟨pb, 4, none⟩)] w fun e w' => e = .returned (.tuple #[]) ∧ w' = w := by
  obtain ⟨j, hj, _⟩ := Option.map_eq_some_iff.1 infoBld
  have hNe := Lib.run_neq_ptr_same (P := Tryz.prog) w ⟨pb, 4, none⟩ Tryz.underlying45 hj
  clear hj
  go_enter Tryz.func28, Tryz.ntmps28
  go_wp2_with fail
  go_end0
  exact ⟨rfl, rfl⟩
set_option maxHeartbeats 1000000 in
set_option maxRecDepth 100000 in
theorem copyCheck_fresh (h : Pr pb v root G cs (.pointer none) bv wv w) :
    Calls Tryz.prog 28 #[.pointer (some ⟨pb, 4, none⟩)] w fun e w' => e = .returned (.tuple #[]) ∧ w' = w.setCell ⟨pb, 4, none⟩ (.pointer (some ⟨pb, 4, none⟩)) := by
  have h0 := h.cells.2.2.2.2.1
  have hz := h.fz 4
  have hS : w.shape? pb = some (51, 7) := h.shape
  obtain ⟨j, hj, hjs⟩ := Option.map_eq_some_iff.1 infoBld
  have hTo := Lib.run_to_unsafe (P := Tryz.prog) w ⟨pb, 4, none⟩ Tryz.underlying45 Tryz.underlying88 hj (by rw [hjs]; decide) hS (by show 4 < 7; omega)
  have hFr := Lib.run_from_unsafe (P := Tryz.prog) w ⟨pb, 4, none⟩ Tryz.underlying88 Tryz.underlying45 hj hS liesBld
  have hNo := noEscape_run
  clear h hS hj hjs
  go_enter Tryz.func28, Tryz.ntmps28
  go_wp2_with fail
  go_end0
  exact ⟨rfl, rfl⟩
end
end Go.Proofs.YtmghdogoeehodaaGreatDoor
/- The printer's state: what is written, what waits. -/
namespace Go.Proofs.YtmghdogoeehodaaGreatDoor
open Go.ChangeShapes Go.WideShapes Go.ChangeAt Go.RowKit
set_option linter.unusedVariables false
set_option linter.unusedSimpArgs false
/-- What waits: texts, and the node behind each. -/
abbrev Part := List UInt8 × Int
def Part.cells (x : Part) : List Value := [str x.1, .int .i64 x.2]
def flatP (ps : List Part) : List Value := ps.flatMap Part.cells
theorem flatP_snoc (ps : List Part) (x : Part) : flatP (ps ++ [x]) = flatP ps ++ x.cells := by simp [flatP]
theorem flatP_len (ps : List Part) : (flatP ps).length = ps.length * 2 := by
  induction ps with
  | nil => rfl
  | cons x ps ih => simp only [flatP, List.flatMap_cons, List.length_append, List.length_cons] at ih ⊢; rw [ih]; simp [Part.cells]; omega
structure Pw (w0 : World) (pb : Nat) (v : Value) (root G : Int) (cs : Nat) (l : List UInt8) (ps : List Part) (p bv wv : Value) (w : World) : Prop where
  kp : Kp w0 w
  far : w0.heap.size ≤ pb
  pr : Pr pb v root G cs p bv wv w
  ptr : p = .pointer none ∨ p = .pointer (some ⟨pb, 4, none⟩)
  buf : w.ownsRow w0.heap.size 5 1 bv l.length (Lib.byteCells l)
  wt : w.ownsRow w0.heap.size 71 2 wv ps.length (flatP ps)
def Pws (w0 : World) (pb : Nat) (v : Value) (root G : Int) (cs : Nat) (l : List UInt8) (ps : List Part) (w : World) : Prop := ∃ p bv wv, Pw w0 pb v root G cs l ps p bv wv w
theorem infoByte : (Tryz.prog.info? 5).map (fun i => (i.zero, i.size, i.bytes)) = some (some (.int .u8 0), 1, 1) := by kernel_rfl
theorem infoPart : (Tryz.prog.info? 71).map (fun i => (i.zero, i.size, i.bytes)) = some (some (.agg #[.string ⟨#[]⟩, .int .i64 0]), 2, 24) := by kernel_rfl
theorem row_other {w : World} {B n n' s s' : Nat} {e e' : TypeId} {v v' : Value} {xs xs' : List Value} (h : w.ownsRow B e s v n xs) (h' : w.ownsRow B e' s' v' n' xs') (he : e ≠ e') {k : Nat} (hk : v.ownBlock = some k) : v'.ownBlock ≠ some k := fun z => by
  rcases h.2 with ⟨rfl, _⟩ | ⟨g, c, cur, rfl, _, hg, _⟩
  · cases hk
  · rcases h'.2 with ⟨rfl, _⟩ | ⟨g', c', cur', rfl, _, hg', _⟩
    · cases z
    · simp only [Value.ownBlock, Option.some.injEq] at hk z
      rw [hk] at hg
      rw [z, hg] at hg'
      injection hg' with q
      injection q with _ q _
      exact he q
theorem row_struct {w : World} {B n s pb : Nat} {e t : TypeId} {v : Value} {xs : List Value} {a : Array Value} (h : w.ownsRow B e s v n xs) (hp : w.heap[pb]? = some (.cells a t (0, 0))) (he : e ≠ t) : v.ownBlock ≠ some pb := fun z => by
  rcases h.2 with ⟨rfl, _⟩ | ⟨g, c, cur, rfl, _, hg, _⟩
  · cases z
  · simp only [Value.ownBlock, Option.some.injEq] at z
    rw [z, hp] at hg
    injection hg with q
    injection q with _ q _
    exact he q.symm
theorem row_heap {w w1 : World} {B n s : Nat} {e : TypeId} {v : Value} {xs : List Value} (h : w.ownsRow B e s v n xs) (hh : ∀ k, v.ownBlock = some k → w1.heap[k]? = w.heap[k]?) : w1.ownsRow B e s v n xs := by
  refine ⟨h.1, ?_⟩
  rcases h.2 with q | ⟨b, c, cur, rfl, hb, hg, rest⟩
  · exact .inl q
  · exact .inr ⟨b, c, cur, rfl, hb, by rw [hh b rfl]; exact hg, rest⟩
/-- What lies in blocks of that type stays as it is. -/
def Nk (t : TypeId) (w w' : World) : Prop := ∀ (k : Nat) (a : Array Value), w.heap[k]? = some (.cells a t (0, 0)) → w'.heap[k]? = some (.cells a t (0, 0))
theorem Nk.refl (t : TypeId) (w : World) : Nk t w w := fun _ _ h => h
theorem Nk.trans {t : TypeId} {a b c : World} (h : Nk t a b) (k : Nk t b c) : Nk t a c := fun i x q => k i x (h i x q)
theorem Nk.kp {t : TypeId} {w w1 : World} (k : Kp w w1) : Nk t w w1 := fun i x q => by rw [k.block i (Array.getElem?_eq_some_iff.1 q).1]; exact q
theorem Nk.set {t' : TypeId} {w : World} {pb off : Nat} {t : TypeId} {a : Array Value} {x : Value} (h : w.heap[pb]? = some (.cells a t (0, 0))) (ht : t' ≠ t) : Nk t' w (w.setCell ⟨pb, off, none⟩ x) := fun i y q => by
  rw [heap_setCell_other fun z => ?_]
  · exact q
  · rw [z, h] at q
    injection q with q
    injection q with _ q _
    exact ht q.symm
theorem Nk.grown {t' : TypeId} {w w' : World} {B n s : Nat} {e : TypeId} {v : Value} {xs : List Value} (h : w.ownsRow B e s v n xs) (he : t' ≠ e) (hg : w.grownBy w' v.ownBlock) : Nk t' w w' := fun i y q => by
  rw [hg.block i (Array.getElem?_eq_some_iff.1 q).1 fun z => ?_]
  · exact q
  · exact row_struct h q (fun z => he z.symm) z.symm
section
variable {w0 w w1 : World} {pb : Nat} {v p bv wv : Value} {root G : Int} {cs : Nat} {l s : List UInt8} {ps : List Part}
theorem Pw.bne (h : Pw w0 pb v root G cs l ps p bv wv w) : bv.ownBlock ≠ some pb := row_struct h.buf h.pr (by decide)
theorem Pw.wne (h : Pw w0 pb v root G cs l ps p bv wv w) : wv.ownBlock ≠ some pb := row_struct h.wt h.pr (by decide)
theorem Pw.kp' (h : Pw w0 pb v root G cs l ps p bv wv w) (k : Kp w w1) : Pw w0 pb v root G cs l ps p bv wv w1 :=
  ⟨kp_trans h.kp k, h.far, h.pr.heap (k.block _ h.pr.lt), h.ptr, row_kp h.buf k, row_kp h.wt k⟩
theorem Pws.kp (h : Pws w0 pb v root G cs l ps w) (k : Kp w w1) : Pws w0 pb v root G cs l ps w1 := by obtain ⟨p, bv, wv, h⟩ := h; exact ⟨p, bv, wv, h.kp' k⟩
theorem Pw.copied (h : Pw w0 pb v root G cs l ps p bv wv w) : Calls Tryz.prog 28 #[.pointer (some ⟨pb, 4, none⟩)] w fun e w' => e = .returned (.tuple #[]) ∧ Pw w0 pb v root G cs l ps (.pointer (some ⟨pb, 4, none⟩)) bv wv w' ∧ ∀ t', t' ≠ 51 → Nk t' w w' := by
  rcases h.ptr with rfl | rfl
  · refine (copyCheck_fresh h.pr).mono ?_
    rintro e w' ⟨rfl, rfl⟩
    have f := fr_set pb 4 (.pointer (some ⟨pb, 4, none⟩)) w
    refine ⟨rfl, ⟨kp_new h.kp f h.far, h.far, h.pr.set4 _, .inr rfl, row_heap h.buf fun k hk => ?_, row_heap h.wt fun k hk => ?_⟩, fun t' h1 => Nk.set h.pr h1⟩
    · exact f.block k (h.buf.lt k hk).2 fun q => h.bne (by unfold On at q; rw [← q]; exact hk)
    · exact f.block k (h.wt.lt k hk).2 fun q => h.wne (by unfold On at q; rw [← q]; exact hk)
  · refine (copyCheck_used h.pr.cells.2.2.2.2.1).mono ?_
    rintro e w' ⟨rfl, rfl⟩
    exact ⟨rfl, h, fun t' _ => Nk.refl t' _⟩
set_option maxHeartbeats 2000000 in
set_option maxRecDepth 100000 in
theorem write_any (h : Pws w0 pb v root G cs l ps w) (s : List UInt8) (hlen : l.length + s.length ≤ 1000000000) : Calls Tryz.prog 20 #[.pointer (some ⟨pb, 4, none⟩), str s] w fun e w' => e = .returned (.tuple #[.int .i64 s.length, .nilIface]) ∧ Pws w0 pb v root G cs (l ++ s) ps w' ∧ ∀ t', t' ≠ 51 → t' ≠ 5 → Nk t' w w' := by
  obtain ⟨i0, hi, hz0, hz1, hz2⟩ := info_parts infoByte
  obtain ⟨p, bv, wv, h⟩ := h
  have HC : Hid _ := h.copied
  clear h
  have hsz : (⟨s.toArray⟩ : ByteArray).size = s.length := by rw [Lib.size_eq]
  go_enter Tryz.func20, Tryz.ntmps20
  go_wp2_with fail
  refine Calls.mono HC.out ?_
  rintro e w1 ⟨rfl, h1, hn1⟩
  have HN1 : Hid (∀ t', t' ≠ 51 → Nk t' w w1) := hn1
  clear hn1
  obtain ⟨_, _, _, _, c4, c5, _⟩ := h1.pr.cells
  have HP : Hid _ := h1
  have hown := h1.buf
  have hsize := h1.kp.size
  clear h1 HC
  go_wp2_with (at_builtin; refine Lib.wpList_append_own_string _ rfl _ _ 46 9 rfl w0.heap.size 5 i0 Tryz.underlying46 Tryz.underlying9 hi hz0 hz1 hz2 _ _ _ rfl hown ⟨s.toArray⟩ rfl ?c3 ?c4 ?c5 ?_)
  case c3 => unfold maxLen; rw [hsz]; omega
  case c4 => rw [hsz]; omega
  case c5 => exact hsize
  intro v' w2 hown' hgrow _
  have hPr2 : Pr pb v root G cs (.pointer (some ⟨pb, 4, none⟩)) bv wv w2 := HP.out.pr.heap (hgrow.block pb HP.out.pr.lt (fun e => HP.out.bne e.symm))
  have HX : Hid (Pr pb v root G cs (.pointer (some ⟨pb, 4, none⟩)) bv wv w2 ∧ w2.ownsRow w0.heap.size 5 1 v' (l.length + (⟨s.toArray⟩ : ByteArray).size) (Lib.byteCells l ++ Lib.strCells ⟨s.toArray⟩) ∧ w1.grownBy w2 bv.ownBlock) := ⟨hPr2, hown', hgrow⟩
  obtain ⟨_, _, _, _, d4, d5, _⟩ := hPr2.cells
  have f5 := hPr2.fz 5
  obtain ⟨ao, cap, rfl, _, _⟩ := owns_form hown'
  clear hPr2 hown' hgrow hown
  go_wp2_with fail
  go_ret2
  refine ⟨by simp [hsz], ⟨.pointer (some ⟨pb, 4, none⟩), .slice ao (l.length + (⟨s.toArray⟩ : ByteArray).size) cap, wv, ?_⟩, fun t' h1 h2 => ((HN1.out t' h1).trans (Nk.grown HP.out.buf h2 HX.out.2.2)).trans (Nk.set HX.out.1 h1)⟩
  obtain ⟨q1, q2, q3⟩ := HX.out
  have hP := HP.out
  have hk2 : Kp w0 w2 := ⟨q3.os.trans hP.kp.os, q3.tape.trans hP.kp.tape, q3.output.trans hP.kp.output, Nat.le_trans hP.kp.size q3.size, fun j hj => by
    rw [q3.block j (Nat.lt_of_lt_of_le hj hP.kp.size) fun e => by have := (hP.buf.lt j e.symm).1; omega]; exact hP.kp.block j hj⟩
  have f := fr_set pb 5 (.slice ao (l.length + (⟨s.toArray⟩ : ByteArray).size) cap) w2
  have hwt2 : w2.ownsRow w0.heap.size 71 2 wv ps.length (flatP ps) := row_heap hP.wt fun k hk => q3.block k (hP.wt.lt k hk).2 fun e => row_other hP.wt hP.buf (by decide) hk e.symm
  refine ⟨kp_new hk2 f hP.far, hP.far, q1.set5 _, .inr rfl, ?_, row_heap hwt2 fun k hk => ?_⟩
  · have e1 : (l ++ s).length = l.length + (⟨s.toArray⟩ : ByteArray).size := by rw [hsz, List.length_append]
    have e2 : Lib.byteCells (l ++ s) = Lib.byteCells l ++ Lib.strCells ⟨s.toArray⟩ := by simp [Lib.byteCells, Lib.strCells]
    rw [e1, e2]
    refine row_heap q2 fun k hk => ?_
    exact f.block k (q2.lt k hk).2 fun z => row_struct q2 q1 (by decide) (by unfold On at z; rw [← z]; exact hk)
  · exact f.block k (hwt2.lt k hk).2 fun z => hP.wne (by unfold On at z; rw [← z]; exact hk)
set_option maxHeartbeats 2000000 in
set_option maxRecDepth 100000 in
theorem wait_any (h : Pws w0 pb v root G cs l ps w) (t : List UInt8) (a : Int) (hlen : ps.length ≤ 1000000) : Calls Tryz.prog 17 #[.pointer (some ⟨pb, 0, none⟩), str t, .int .i64 a] w fun e w' => e = .returned (.tuple #[]) ∧ Pws w0 pb v root G cs l (ps ++ [(t, a)]) w' ∧ ∀ t', t' ≠ 51 → t' ≠ 71 → Nk t' w w' := by
  obtain ⟨i0, hi, hz0, hz1, hz2⟩ := info_parts infoPart
  obtain ⟨p, bv, wv, h⟩ := h
  obtain ⟨_, _, _, _, c4, c5, c6⟩ := h.pr.cells
  have HP : Hid _ := h
  clear h
  obtain ⟨k, hk⟩ : ∃ k, ps.length = k := ⟨_, rfl⟩
  have HL : Hid (ps.length = k ∧ k ≤ 1000000) := ⟨hk, by omega⟩
  have hk6 : k ≤ 1000000 := by omega
  have HOW : Hid ((w.alloc (.cells #[str t, .int .i64 a] 71)).ownsRow w0.heap.size 71 2 wv k (flatP ps)) := by have := row_kp HP.out.wt (kp_alloc w (.cells #[str t, .int .i64 a] 71)); rw [hk] at this; exact this
  have HNEW : Hid (∀ j u, ([str t, .int .i64 a] : List Value)[j]? = some u → (w.alloc (.cells #[str t, .int .i64 a] 71)).cell? ((⟨w.heap.size, 0, none⟩ : Addr).add j) = some u) := by
    intro j u hj
    rw [Addr.add_lit, cell_at (alloc_new w _), Nat.zero_add, ← hj]; exact List.getElem?_toArray
  have HONE : Hid (∀ u ∈ ([str t, .int .i64 a] : List Value), u.oneCell' = true) := by
    intro u hu
    simp only [List.mem_cons, List.not_mem_nil, or_false] at hu
    rcases hu with rfl | rfl <;> rfl
  have HBW : Hid (w0.heap.size ≤ (w.alloc (.cells #[str t, .int .i64 a] 71)).heap.size) := by have := HP.out.kp.size; show _ ≤ _; rw [alloc_size]; omega
  have HF : Hid (∀ g cap w', w'.ownsRow w0.heap.size 71 2 (.slice (some ⟨g, 0, none⟩) (k + 1) cap) (k + 1) (flatP ps ++ [str t, .int .i64 a]) → (w.alloc (.cells #[str t, .int .i64 a] 71)).grownBy w' wv.ownBlock → Pr pb v root G cs p bv wv w' ∧ Pws w0 pb v root G cs l (ps ++ [(t, a)]) (w'.setCell ⟨pb, 6, none⟩ (.slice (some ⟨g, 0, none⟩) (k + 1) cap)) ∧ ∀ t', t' ≠ 51 → t' ≠ 71 → Nk t' w (w'.setCell ⟨pb, 6, none⟩ (.slice (some ⟨g, 0, none⟩) (k + 1) cap))) := by
    intro g cap w' ho hg
    have hP := HP.out.kp' (kp_alloc w (.cells #[str t, .int .i64 a] 71))
    have hpr : Pr pb v root G cs p bv wv w' := hP.pr.heap (hg.block pb hP.pr.lt fun e => hP.wne e.symm)
    refine ⟨hpr, ⟨p, bv, .slice (some ⟨g, 0, none⟩) (k + 1) cap, ?_⟩, fun t' h1 h2 => ((Nk.kp (kp_alloc w _)).trans (Nk.grown hP.wt h2 hg)).trans (Nk.set hpr h1)⟩
    have f := fr_set pb 6 (.slice (some ⟨g, 0, none⟩) (k + 1) cap) w'
    have hk2 : Kp w0 w' := ⟨hg.os.trans hP.kp.os, hg.tape.trans hP.kp.tape, hg.output.trans hP.kp.output, Nat.le_trans hP.kp.size hg.size, fun j hj => by
      rw [hg.block j (Nat.lt_of_lt_of_le hj hP.kp.size) fun e => by have := (hP.wt.lt j e.symm).1; omega]; exact hP.kp.block j hj⟩
    have hb2 : w'.ownsRow w0.heap.size 5 1 bv l.length (Lib.byteCells l) := row_heap hP.buf fun k hk => hg.block k (hP.buf.lt k hk).2 fun e => row_other hP.buf hP.wt (by decide) hk e.symm
    refine ⟨kp_new hk2 f hP.far, hP.far, hpr.set6 _, hP.ptr, row_heap hb2 fun k hk => ?_, ?_⟩
    · exact f.block k (hb2.lt k hk).2 fun z => hP.bne (by unfold On at z; rw [← z]; exact hk)
    · rw [flatP_snoc, show (ps ++ [(t, a)]).length = k + 1 by simp [hk]]
      refine row_heap ho fun j hj => ?_
      exact f.block j (ho.lt j hj).2 fun z => row_struct ho hpr (by decide) (by unfold On at z; rw [← z]; exact hj)
  clear hlen hk
  go_enter Tryz.func17, Tryz.ntmps17
  go_wp2_with (at_builtin; refine wpList_append_lies _ rfl (.tmp 10) (.tmp 14) 49 rfl w0.heap.size 71 i0 _ 2 24 Tryz.underlying49 hi hz0 hz1 hz2 rfl (by decide) wv k (flatP ps) rfl HOW.out ⟨w.heap.size, 0, none⟩ 1 1 [str t, .int .i64 a] rfl rfl HNEW.out HONE.out (by omega) (by unfold maxLen; omega) (by omega) HBW.out _ rfl ?_)
  intro g cap w2 hown hgrow _ _
  have HZ : Hid _ := HF.out g cap w2 hown hgrow
  have f6 := HZ.out.1.fz 6
  obtain ⟨_, _, _, _, _, _, d6⟩ := HZ.out.1.cells
  clear hown hgrow
  go_wp2_with fail
  go_end0
  exact ⟨rfl, HZ.out.2⟩
end
end Go.Proofs.YtmghdogoeehodaaGreatDoor
/- The builder's text; the printer's list. -/
namespace Go.Proofs.YtmghdogoeehodaaGreatDoor
open Go.ChangeShapes Go.WideShapes Go.ChangeAt Go.RowKit
set_option linter.unusedVariables false
set_option linter.unusedSimpArgs false
section
variable {w0 w w1 : World} {pb : Nat} {v p bv wv : Value} {root G : Int} {cs : Nat} {l s : List UInt8} {ps : List Part}
set_option maxHeartbeats 2000000 in
set_option maxRecDepth 100000 in
theorem bstring_any (h : Pws w0 pb v root G cs l ps w) (h0 : l ≠ []) : Calls Tryz.prog 22 #[.pointer (some ⟨pb, 4, none⟩)] w fun e w' => e = .returned (str l) ∧ Kp w0 w' := by
  obtain ⟨p, bv, wv, h⟩ := h
  have hl0 : l.length ≠ 0 := by simpa using h0
  have hown := h.buf
  obtain ⟨g, cap, cur, rfl, hbg, hg, hnc, hcm, hcs, htake⟩ : ∃ g cap cur, bv = .slice (some ⟨g, 0, none⟩) l.length cap ∧ w0.heap.size ≤ g ∧ w.heap[g]? = some (.cells cur 5 (0, 0)) ∧ l.length ≤ cap ∧ cap ≤ maxLen ∧ cur.size = cap * 1 ∧ cur.toList.take (l.length * 1) = Lib.byteCells l := by
    rcases hown.2 with ⟨_, hz⟩ | ⟨g, cap, cur, hv, r⟩
    · exact absurd hz hl0
    · exact ⟨g, cap, cur, hv, r⟩
  have c1 : w.drew.cell? ⟨pb, 5, none⟩ = some (.slice (some ⟨g, 0, none⟩) l.length cap) := h.pr.cells.2.2.2.2.2.1
  have c1' : w.cell? ⟨pb, 5, none⟩ = some (.slice (some ⟨g, 0, none⟩) l.length cap) := h.pr.cells.2.2.2.2.2.1
  have hSD : (Builtin.unsafeSliceData_ #[46] 83 #[.slice (some ⟨g, 0, none⟩) l.length cap]).run Tryz.prog w.drew = .ok (.pointer (some ⟨g, 0, none⟩)) w.drew :=
    Lib.run_unsafeSliceData_row _ _ _ _ _ _ (by omega)
  have hUS : (Builtin.unsafeString_ #[83, 3] 9 #[.pointer (some ⟨g, 0, none⟩), .int .i64 l.length]).run Tryz.prog w.drew = .ok (.string ⟨l.toArray⟩) (w.drew.freeze ⟨g, 0, none⟩ l.length) := by
    refine Lib.run_unsafeString_row w.drew 83 3 9 5 Tryz.underlying83 (by kernel_rfl) g cur.size (by have hg' : w.drew.heap[g]? = some (.cells cur 5 (0, 0)) := hg; simp [World.shape?, hg']) l h0 (by omega) (by unfold maxLen at hcm; omega) ?_
    intro j x hx
    exact hown.cells (g := g) rfl j (.int .u8 x.toNat) (by simp [Lib.byteCells, hx])
  have HK : Hid (Kp w0 (w.drew.freeze ⟨g, 0, none⟩ l.length)) := Lib.below_freeze (kp_trans h.kp (kp_drew _)) (p := ⟨g, 0, none⟩) hbg _
  clear h hown hg hbg hnc hcm hcs htake h0
  go_enter Tryz.func22, Tryz.ntmps22
  go_wp2_with fail
  go_region
  all_goals (go_wp2; go_ret; exact ⟨rfl, HK.out⟩)
end
end Go.Proofs.YtmghdogoeehodaaGreatDoor
/- The printer's list. -/
namespace Go.Proofs.YtmghdogoeehodaaGreatDoor
open Go.ChangeShapes Go.WideShapes Go.ChangeAt Go.RowKit
set_option linter.unusedVariables false
set_option linter.unusedSimpArgs false
def tailP (between : List UInt8) (ks : List Int) : List Part := ks.reverse.map fun k => (between, k)
def listP (ahead between behind : List UInt8) (ks : List Int) : List Part := [(behind, -1)] ++ tailP between ks.tail ++ [(ahead, ks.headD 0)]
section
variable {w0 w w1 : World} {pb : Nat} {v kv : Value} {root G : Int} {cs : Nat} {l : List UInt8} {ps : List Part} {ks : List Int}
set_option maxHeartbeats 2000000 in
set_option maxRecDepth 100000 in
theorem list_any (h : Pws w0 pb v root G cs l ps w) (ahead between behind : List UInt8) (hk : Ks w0 kv ks) (h1 : ks ≠ []) (hlen : ps.length + ks.length ≤ 900000) :
    Calls Tryz.prog 29 #[.pointer (some ⟨pb, 0, none⟩), str ahead, str between, str behind, kv] w fun e w' => e = .returned (.tuple #[]) ∧ Pws w0 pb v root G cs l (ps ++ listP ahead between behind ks) w' ∧ ∀ t', t' ≠ 51 → t' ≠ 71 → Nk t' w w' := by
  obtain ⟨ka, kc, rfl, hkl, kcc, _⟩ := id hk
  obtain ⟨N, hN⟩ : ∃ N, ks.length = N := ⟨_, rfl⟩
  have hN1 : 1 ≤ N := by rw [← hN]; exact List.length_pos_iff.2 h1
  rw [hN] at hk hkl hlen ⊢
  have HK : Hid (Ks w0 (.slice ka N kc) ks ∧ ks.length = N ∧ ps.length + N ≤ 900000 ∧ ks ≠ []) := ⟨hk, hN, hlen, h1⟩
  have HP : Hid (Pws w0 pb v root G cs l ps w) := h
  unfold maxLen at kcc
  have hN9 : N ≤ 900000 := by omega
  clear h hk h1 hlen hN
  go_enter Tryz.func29, Tryz.ntmps29
  go_wp2_with fail
  refine Calls.mono (wait_any HP.out behind (-1) (by have := HK.out.2.2.1; omega)) ?_
  rintro e w1 ⟨rfl, q⟩
  have HP1 : Hid _ := q
  clear q
  go_wp2_with fail
  go_loopw [10] (fun v10 wr => ∃ i : Nat, i < N ∧ v10 = .int .i64 i ∧ Pws w0 pb v root G cs l (ps ++ [(behind, -1)] ++ tailP between (ks.drop (i + 1))) wr ∧ ∀ t', t' ≠ 51 → t' ≠ 71 → Nk t' w wr) (fun v10 _ => (intOf v10).toNat)
  case atStart =>
    refine ⟨N - 1, by omega, by congr 1; omega, ?_⟩
    rw [show N - 1 + 1 = N by omega, List.drop_eq_nil_of_le (Nat.le_of_eq HK.out.2.1)]
    simp only [tailP, List.reverse_nil, List.map_nil, List.append_nil]
    exact ⟨HP1.out.1, HP1.out.2⟩
  case round =>
    obtain ⟨i, hi, rfl, hP, hNk⟩ := hrel
    have HP2 : Hid _ := hP
    have HNk : Hid (∀ t', t' ≠ 51 → t' ≠ 71 → Nk t' w wr) := hNk
    clear hNk
    have hkp : Kp w0 wr := by obtain ⟨_, _, _, z⟩ := hP; exact z.kp
    have hL : (ps ++ [(behind, -1)] ++ tailP between (ks.drop (i + 1))).length ≤ 1000000 := by
      have := HK.out
      simp [tailP]; omega
    have HL : Hid ((ps ++ [(behind, -1)] ++ tailP between (ks.drop (i + 1))).length ≤ 1000000) := hL
    obtain ⟨b, o, k, rfl, hk, hc⟩ := (HK.out.1.kp hkp).get hi
    have HKi : Hid (ks[i]? = some k) := hk
    clear hP hkp hL hk
    by_cases h0 : i = 0
    · subst h0
      have hc0 : wr.cell? ⟨b, o, none⟩ = some (.int .i64 k) := hc
      clear hc
      go_wp2_with fail
      refine Calls.mono (wait_any HP2.out ahead k HL.out) ?_
      rintro e w2 ⟨rfl, q⟩
      have HQ : Hid _ := q
      clear q
      go_wp2_with fail
      go_end0
      refine ⟨rfl, ?_⟩
      have e : ps ++ listP ahead between behind ks = ps ++ [(behind, -1)] ++ tailP between (ks.drop (0 + 1)) ++ [(ahead, k)] := by
        have hk := HKi.out
        cases ks with
        | nil => simp at hk
        | cons x r =>
          simp only [List.getElem?_cons_zero, Option.some.injEq] at hk
          subst hk
          simp [listP]
      rw [e]
      exact ⟨HQ.out.1, fun t' h1 h2 => (HNk.out t' h1 h2).trans (HQ.out.2 t' h1 h2)⟩
    · have d0 : decide ((0 : Int) < (i : Int)) = true := decide_eq_true (by omega)
      go_wp2_with fail
      refine Calls.mono (wait_any HP2.out between k HL.out) ?_
      rintro e w2 ⟨rfl, q⟩
      have HQ : Hid _ := q
      clear q
      go_wp2_with fail
      go_roundw
      case rel =>
        refine ⟨i - 1, by omega, by congr 1; omega, ?_⟩
        have hk := HKi.out
        have hil : i < ks.length := by rw [HK.out.2.1]; exact hi
        have e : tailP between (ks.drop (i - 1 + 1)) = tailP between (ks.drop (i + 1)) ++ [(between, k)] := by
          rw [show i - 1 + 1 = i by omega, List.drop_eq_getElem_cons hil]
          rw [List.getElem?_eq_getElem hil, Option.some.injEq] at hk
          simp [tailP, hk]
        rw [e, ← List.append_assoc]
        exact ⟨HQ.out.1, fun t' h1 h2 => (HNk.out t' h1 h2).trans (HQ.out.2 t' h1 h2)⟩
      case measure => simp only [intOf]; omega
end
end Go.Proofs.YtmghdogoeehodaaGreatDoor
/- The printer's node. -/
namespace Go.Proofs.YtmghdogoeehodaaGreatDoor
open Go.ChangeShapes Go.WideShapes Go.ChangeAt Go.RowKit
set_option linter.unusedVariables false
set_option linter.unusedSimpArgs false
def pushP (d : Nq) : List Part :=
  if d.op = 5 then listP [40] [] [41] d.kids else if d.op = 6 then listP [40] [124] [41] d.kids else if d.op = 7 then listP (timesT d) [] [] d.kids else if d.op = 8 then listP ([60] ++ Lib.itoa d.n) [] [62] d.kids else []
def inner (op : Nat) : Bool := op == 5 || op == 6 || op == 7 || op == 8
def sayP (d : Nq) : List UInt8 := if inner d.op then [] else leafT d
/-- Numbers of a node that memory can hold. -/
structure Nok (d : Nq) : Prop where
  c : d.c < 256
  set : d.set.ok
  mn : Sm d.mn
  mx : Sm d.mx
  n : Sm d.n
theorem leafT_len {d : Nq} (h : Nok d) : (leafT d).length ≤ 200 := by
  unfold leafT
  have h1 := hexT_len d.c 2 (by omega)
  have h2 := itoa_len h.n
  have h3 : (setT d.set).length ≤ 140 := by
    have l1 := hexT_len d.set.a 16 (by omega)
    have l2 := hexT_len d.set.b 16 (by omega)
    have l3 := hexT_len d.set.c 16 (by omega)
    have l4 := hexT_len d.set.d 16 (by omega)
    unfold setT
    simp only [List.length_append, List.length_cons, List.length_nil]; omega
  repeat' split
  all_goals first | omega | (simp only [List.length_append, List.length_cons, List.length_nil]; omega)
section
variable {w0 w w1 : World} {pb : Nat} {v kv : Value} {root G : Int} {cs : Nat} {l : List UInt8} {ps : List Part}
theorem NqBox.nk {n : Nat} {d : Nq} {kv : Value} (h : NqBox n d kv w) (k : Nk 35 w w1) : NqBox n d kv w1 := k n _ h
set_option maxHeartbeats 4000000 in
set_option maxRecDepth 100000 in
theorem node_any (h : Pws w0 pb v root G cs l ps w) (g : Gl w0) (d : Nq) (hd : Nok d) (hk : Ks w0 kv d.kids) (hi : inner d.op = true → d.kids ≠ []) (hlen : ps.length + d.kids.length ≤ 900000) (hl : l.length ≤ 900000) :
    Calls Tryz.prog 21 #[.pointer (some ⟨pb, 0, none⟩), d.val kv] w fun e w' => e = .returned (.tuple #[]) ∧ Pws w0 pb v root G cs (l ++ sayP d) (ps ++ pushP d) w' := by
  have hkp : Kp w0 w := by obtain ⟨_, _, _, z⟩ := h; exact z.kp
  have HQ : Hid (Nok d ∧ Ks w0 kv d.kids ∧ (inner d.op = true → d.kids ≠ []) ∧ ps.length + d.kids.length ≤ 900000 ∧ Gl w ∧ Kp w0 w ∧ l.length ≤ 900000) := ⟨hd, hk, hi, hlen, g.kp hkp, hkp, hl⟩
  have HP : Hid (Pws w0 pb v root G cs l ps w) := h
  have HA : Hid (∀ ob, Kp w (w.alloc ob) ∧ Pws w0 pb v root G cs l ps (w.alloc ob)) := fun ob => ⟨kp_alloc w ob, h.kp (kp_alloc w ob)⟩
  have HD : Hid (∀ ob, Kp w (w.alloc ob).drew ∧ Pws w0 pb v root G cs l ps (w.alloc ob).drew) := fun ob => ⟨kp_trans (kp_alloc w ob) (kp_drew _), h.kp (kp_trans (kp_alloc w ob) (kp_drew _))⟩
  obtain ⟨an, han⟩ : ∃ a, [60] ++ Lib.itoa d.n = a := ⟨_, rfl⟩
  have hAn := cat_run han (by rw [← han, List.length_append]; have := itoa_len hd.n; simp; omega)
  obtain ⟨op, hop⟩ : ∃ op, d.op = op := ⟨_, rfl⟩
  have HT : Hid (∀ x, Gl x → Calls Tryz.prog 30 #[d.val kv] x fun e w' => e = .returned (str (timesT d)) ∧ Kp x w') := fun x hx => timesText_any d kv hd.mn hd.mx hx
  have HL : Hid (∀ x, Gl x → Calls Tryz.prog 31 #[d.val kv] x fun e w' => e = .returned (str (leafT d)) ∧ Kp x w') := fun x hx => leafText_any d kv hd.n hd.set hd.c hx
  have HO : Hid (d.op = op ∧ [60] ++ Lib.itoa d.n = an) := ⟨hop, han⟩
  obtain ⟨sy, hsy⟩ : ∃ s, sayP d = s := ⟨_, rfl⟩
  obtain ⟨pu, hpu⟩ : ∃ s, pushP d = s := ⟨_, rfl⟩
  rw [hsy, hpu]
  have HS : Hid (sayP d = sy ∧ pushP d = pu) := ⟨hsy, hpu⟩
  have HB : Hid (NqBox w.heap.size d kv (w.alloc (.cells #[.int .u8 op, .int .u8 d.c, .int .u64 d.set.a, .int .u64 d.set.b, .int .u64 d.set.c, .int .u64 d.set.d, .int .i64 d.mn, .int .i64 d.mx, .bool d.lz, .int .i64 d.n, kv] 35)).drew) := by
    unfold NqBox Nq.cells
    rw [hop]
    exact alloc_new w _
  have rl0 : ∀ w', NqBox w.heap.size d kv w' → w'.cell? ⟨w.heap.size, 0, none⟩ = some (.int .u8 op) := fun _ h => by rw [← hop]; exact h.cell rfl
  have rl1 : ∀ w', NqBox w.heap.size d kv w' → w'.cell? ⟨w.heap.size, 1, none⟩ = some (.int .u8 d.c) := fun _ h => h.cell rfl
  have rl2 : ∀ w', NqBox w.heap.size d kv w' → w'.cell? ⟨w.heap.size, 2, none⟩ = some (.int .u64 d.set.a) := fun _ h => h.cell rfl
  have rl3 : ∀ w', NqBox w.heap.size d kv w' → w'.cell? ⟨w.heap.size, 3, none⟩ = some (.int .u64 d.set.b) := fun _ h => h.cell rfl
  have rl4 : ∀ w', NqBox w.heap.size d kv w' → w'.cell? ⟨w.heap.size, 4, none⟩ = some (.int .u64 d.set.c) := fun _ h => h.cell rfl
  have rl5 : ∀ w', NqBox w.heap.size d kv w' → w'.cell? ⟨w.heap.size, 5, none⟩ = some (.int .u64 d.set.d) := fun _ h => h.cell rfl
  have rl6 : ∀ w', NqBox w.heap.size d kv w' → w'.cell? ⟨w.heap.size, 6, none⟩ = some (.int .i64 d.mn) := fun _ h => h.cell rfl
  have rl7 : ∀ w', NqBox w.heap.size d kv w' → w'.cell? ⟨w.heap.size, 7, none⟩ = some (.int .i64 d.mx) := fun _ h => h.cell rfl
  have rl8 : ∀ w', NqBox w.heap.size d kv w' → w'.cell? ⟨w.heap.size, 8, none⟩ = some (.bool d.lz) := fun _ h => h.cell rfl
  have rl9 : ∀ w', NqBox w.heap.size d kv w' → w'.cell? ⟨w.heap.size, 9, none⟩ = some (.int .i64 d.n) := fun _ h => h.cell rfl
  have rl10 : ∀ w', NqBox w.heap.size d kv w' → w'.cell? ⟨w.heap.size, 10, none⟩ = some (kv) := fun _ h => h.cell rfl
  unfold Nq.val at HT HL ⊢
  rw [hop] at HT HL ⊢
  obtain ⟨ka, kc, rfl, _, _, _⟩ := id hk
  clear h g hd hk hi hlen hkp hop han hsy hpu hl
  by_cases h5 : op = 5
  · subst h5
    have hs : sy = [] := by rw [← HS.out.1]; simp [sayP, inner, HO.out.1]
    have hp : pu = listP [40] [] [41] d.kids := by rw [← HS.out.2]; simp [pushP, HO.out.1]
    subst hs
    subst hp
    rw [List.append_nil]
    have hne : d.kids ≠ [] := HQ.out.2.2.1 (by rw [HO.out.1]; rfl)
    have HNE : Hid (d.kids ≠ []) := hne
    clear hne
    go_enter Tryz.func21, Tryz.ntmps21
    go_wp2_with fail
    refine Calls.mono (list_any (HA.out _).2 [40] [] [41] HQ.out.2.1 HNE.out HQ.out.2.2.2.1) ?_
    rintro e w9 ⟨rfl, q, _⟩
    have HZ : Hid _ := q
    clear q
    go_wp2_with fail
    go_end0
    exact ⟨rfl, HZ.out⟩
  have d5 : ((op : Int) == 5) = false := by simp; omega
  by_cases h6 : op = 6
  · subst h6
    have hs : sy = [] := by rw [← HS.out.1]; simp [sayP, inner, HO.out.1]
    have hp : pu = listP [40] [124] [41] d.kids := by rw [← HS.out.2]; simp [pushP, HO.out.1]
    subst hs
    subst hp
    rw [List.append_nil]
    have hne : d.kids ≠ [] := HQ.out.2.2.1 (by rw [HO.out.1]; rfl)
    have HNE : Hid (d.kids ≠ []) := hne
    clear hne
    go_enter Tryz.func21, Tryz.ntmps21
    go_wp2_with fail
    refine Calls.mono (list_any (HA.out _).2 [40] [124] [41] HQ.out.2.1 HNE.out HQ.out.2.2.2.1) ?_
    rintro e w9 ⟨rfl, q, _⟩
    have HZ : Hid _ := q
    clear q
    go_wp2_with fail
    go_end0
    exact ⟨rfl, HZ.out⟩
  have d6 : ((op : Int) == 6) = false := by simp; omega
  by_cases h7 : op = 7
  · subst h7
    have hs : sy = [] := by rw [← HS.out.1]; simp [sayP, inner, HO.out.1]
    have hp : pu = listP (timesT d) [] [] d.kids := by rw [← HS.out.2]; simp [pushP, HO.out.1]
    subst hs
    subst hp
    rw [List.append_nil]
    have hne : d.kids ≠ [] := HQ.out.2.2.1 (by rw [HO.out.1]; rfl)
    have HNE : Hid (d.kids ≠ []) := hne
    clear hne
    go_enter Tryz.func21, Tryz.ntmps21
    go_wp2_with fail
    refine wp_region_noPanic ?_
    refine wp_region_held_drew (S := NqBox w.heap.size d (.slice ka d.kids.length kc)) (by kernel_rfl) (HB.out) (fun hHeld => ?_)
    refine takeAt 0 (some 26) ?_ rfl rfl (by kernel_rfl) (by kernel_rfl) (by kernel_rfl) (fun _ _ _ h => h) (Or.inl ⟨by rfl, ?_⟩) hHeld ?_
    rotate_left
    · intro w hSw
      go_simp <;> with_reducible rfl
    try simp only [Act.put, List.setIfInBounds_toArray, List.set_cons_zero, List.set_cons_succ]
    refine takeAt 1 (some 27) ?_ rfl rfl (by kernel_rfl) (by kernel_rfl) (by kernel_rfl) (fun _ _ _ h => h) (Or.inl ⟨by rfl, ?_⟩) hHeld ?_
    rotate_left
    · intro w hSw
      go_simp <;> with_reducible rfl
    try simp only [Act.put, List.setIfInBounds_toArray, List.set_cons_zero, List.set_cons_succ]
    refine takeAt 3 (some 29) ?_ rfl rfl (by kernel_rfl) (by kernel_rfl) (by kernel_rfl) (fun _ _ _ h => h) (Or.inl ⟨by rfl, ?_⟩) hHeld ?_
    rotate_left
    · intro w hSw
      go_simp <;> with_reducible rfl
    try simp only [Act.put, List.setIfInBounds_toArray, List.set_cons_zero, List.set_cons_succ]
    refine takeAt 4 (some 30) ?_ rfl rfl (by kernel_rfl) (by kernel_rfl) (by kernel_rfl) (fun _ _ _ h => h) (Or.inl ⟨by rfl, ?_⟩) hHeld ?_
    rotate_left
    · intro w hSw
      go_simp <;> with_reducible rfl
    try simp only [Act.put, List.setIfInBounds_toArray, List.set_cons_zero, List.set_cons_succ]
    refine callAt 2 28 30 (vals := #[.agg #[.int .u8 (7 : Nat), .int .u8 d.c, .int .u64 d.set.a, .int .u64 d.set.b, .int .u64 d.set.c, .int .u64 d.set.d, .int .i64 d.mn, .int .i64 d.mx, .bool d.lz, .int .i64 d.n, .slice ka d.kids.length kc]]) (by kernel_rfl) rfl rfl rfl rfl (by simp [Act.eval]) Tryz.func30 (by kernel_rfl) (by kernel_rfl) ?_
    refine Calls.mono (HT.out _ (HQ.out.2.2.2.2.1.kp (HD.out _).1)) ?_
    rintro e w2 ⟨rfl, q⟩
    have H2 : Hid (NqBox w.heap.size d (.slice ka d.kids.length kc) w2 ∧ Pws w0 pb v root G cs l ps w2) := ⟨HB.out.kp q, (HD.out _).2.kp q⟩
    clear q
    refine ⟨_, rfl, H2.out.1, fun hHeld => ?_⟩
    try simp only [Act.put, List.setIfInBounds_toArray, List.set_cons_zero, List.set_cons_succ]
    refine callAt 5 31 29 (vals := #[.pointer (some ⟨pb, 0, none⟩), str (timesT d), str [], str [], .slice ka d.kids.length kc]) (by kernel_rfl) rfl rfl rfl rfl (by simp [Act.eval]) Tryz.func29 (by kernel_rfl) (by kernel_rfl) ?_
    refine Calls.mono (list_any H2.out.2 (timesT d) [] [] HQ.out.2.1 HNE.out HQ.out.2.2.2.1) ?_
    rintro e w9 ⟨rfl, q, qn⟩
    have HZ : Hid (Pws w0 pb v root G cs l (ps ++ listP (timesT d) [] [] d.kids) w9 ∧ NqBox w.heap.size d (.slice ka d.kids.length kc) w9) := ⟨q, H2.out.1.nk (qn _ (by decide) (by decide))⟩
    clear q qn
    refine ⟨_, rfl, HZ.out.2, fun hHeld => ?_⟩
    try simp only [Act.put, List.setIfInBounds_toArray, List.set_cons_zero, List.set_cons_succ]
    refine wpAnyH_done (by kernel_rfl) ?_ _
    refine NoPanic.normal ?_
    go_wp2_with fail
    go_end0
    exact ⟨rfl, HZ.out.1⟩
  have d7 : ((op : Int) == 7) = false := by simp; omega
  by_cases h8 : op = 8
  · subst h8
    have hs : sy = [] := by rw [← HS.out.1]; simp [sayP, inner, HO.out.1]
    have hp : pu = listP ([60] ++ Lib.itoa d.n) [] [62] d.kids := by rw [← HS.out.2]; simp [pushP, HO.out.1]
    subst hs
    subst hp
    rw [List.append_nil]
    have hne : d.kids ≠ [] := HQ.out.2.2.1 (by rw [HO.out.1]; rfl)
    have HNE : Hid (d.kids ≠ []) := hne
    clear hne
    rw [HO.out.2]
    go_enter Tryz.func21, Tryz.ntmps21
    go_wp2_with fail
    refine wp_region_noPanic ?_
    refine wp_region_held_drew (S := NqBox w.heap.size d (.slice ka d.kids.length kc)) (by kernel_rfl) (HB.out) (fun hHeld => ?_)
    refine takeAt 0 (some 34) ?_ rfl rfl (by kernel_rfl) (by kernel_rfl) (by kernel_rfl) (fun _ _ _ h => h) (Or.inl ⟨by rfl, ?_⟩) hHeld ?_
    rotate_left
    · intro w hSw
      go_simp <;> with_reducible rfl
    try simp only [Act.put, List.setIfInBounds_toArray, List.set_cons_zero, List.set_cons_succ]
    refine takeAt 1 (some 35) ?_ rfl rfl (by kernel_rfl) (by kernel_rfl) (by kernel_rfl) (fun _ _ _ h => h) (Or.inl ⟨by rfl, ?_⟩) hHeld ?_
    rotate_left
    · intro w hSw
      go_simp <;> with_reducible rfl
    try simp only [Act.put, List.setIfInBounds_toArray, List.set_cons_zero, List.set_cons_succ]
    refine takeAt 2 (some 36) ?_ rfl rfl (by kernel_rfl) (by kernel_rfl) (by kernel_rfl) (fun _ _ _ h => h) (Or.inl ⟨by rfl, ?_⟩) hHeld ?_
    rotate_left
    · intro w hSw
      go_simp <;> with_reducible rfl
    try simp only [Act.put, List.setIfInBounds_toArray, List.set_cons_zero, List.set_cons_succ]
    refine takeAt 5 (some 39) ?_ rfl rfl (by kernel_rfl) (by kernel_rfl) (by kernel_rfl) (fun _ _ _ h => h) (Or.inl ⟨by rfl, ?_⟩) hHeld ?_
    rotate_left
    · intro w hSw
      go_simp <;> with_reducible rfl
    try simp only [Act.put, List.setIfInBounds_toArray, List.set_cons_zero, List.set_cons_succ]
    refine takeAt 6 (some 40) ?_ rfl rfl (by kernel_rfl) (by kernel_rfl) (by kernel_rfl) (fun _ _ _ h => h) (Or.inl ⟨by rfl, ?_⟩) hHeld ?_
    rotate_left
    · intro w hSw
      go_simp <;> with_reducible rfl
    try simp only [Act.put, List.setIfInBounds_toArray, List.set_cons_zero, List.set_cons_succ]
    refine callAt 3 37 18 (vals := #[.int .i64 d.n]) (by kernel_rfl) rfl rfl rfl rfl (by simp [Act.eval]) Tryz.func18 (by kernel_rfl) (by kernel_rfl) ?_
    refine Calls.mono (itoa_any d.n HQ.out.1.n.1 HQ.out.1.n.2 (HQ.out.2.2.2.2.1.kp (HD.out _).1)) ?_
    rintro e w2 ⟨rfl, q⟩
    have H2 : Hid (NqBox w.heap.size d (.slice ka d.kids.length kc) w2 ∧ Pws w0 pb v root G cs l ps w2) := ⟨HB.out.kp q, (HD.out _).2.kp q⟩
    clear q
    refine ⟨_, rfl, H2.out.1, fun hHeld => ?_⟩
    try simp only [Act.put, List.setIfInBounds_toArray, List.set_cons_zero, List.set_cons_succ]
    refine takeAt 4 (some 38) ?_ rfl rfl (by kernel_rfl) (by kernel_rfl) (by kernel_rfl) (fun _ _ _ h => h) (Or.inl ⟨by rfl, ?_⟩) hHeld ?_
    rotate_left
    · intro w hSw
      go_simp <;> with_reducible rfl
    try simp only [Act.put, List.setIfInBounds_toArray, List.set_cons_zero, List.set_cons_succ]
    refine callAt 7 41 29 (vals := #[.pointer (some ⟨pb, 0, none⟩), str an, str [], str [62], .slice ka d.kids.length kc]) (by kernel_rfl) rfl rfl rfl rfl (by simp [Act.eval]) Tryz.func29 (by kernel_rfl) (by kernel_rfl) ?_
    refine Calls.mono (list_any H2.out.2 an [] [62] HQ.out.2.1 HNE.out HQ.out.2.2.2.1) ?_
    rintro e w9 ⟨rfl, q, qn⟩
    have HZ : Hid (Pws w0 pb v root G cs l (ps ++ listP an [] [62] d.kids) w9 ∧ NqBox w.heap.size d (.slice ka d.kids.length kc) w9) := ⟨q, H2.out.1.nk (qn _ (by decide) (by decide))⟩
    clear q qn
    refine ⟨_, rfl, HZ.out.2, fun hHeld => ?_⟩
    try simp only [Act.put, List.setIfInBounds_toArray, List.set_cons_zero, List.set_cons_succ]
    refine wpAnyH_done (by kernel_rfl) ?_ _
    refine NoPanic.normal ?_
    go_wp2_with fail
    go_end0
    exact ⟨rfl, HZ.out.1⟩
  have d8 : ((op : Int) == 8) = false := by simp; omega
  have hs : sy = leafT d := by rw [← HS.out.1]; simp [sayP, inner, HO.out.1, h5, h6, h7, h8]
  have hp : pu = [] := by rw [← HS.out.2]; simp [pushP, HO.out.1, h5, h6, h7, h8]
  subst hs
  subst hp
  rw [List.append_nil]
  go_enter Tryz.func21, Tryz.ntmps21
  go_wp2_with fail
  refine wp_region_noPanic ?_
  refine wp_region_held_drew (S := NqBox w.heap.size d (.slice ka d.kids.length kc)) (by kernel_rfl) (HB.out) (fun hHeld => ?_)
  refine takeAt 0 (some 6) ?_ rfl rfl (by kernel_rfl) (by kernel_rfl) (by kernel_rfl) (fun _ _ _ h => h) (Or.inl ⟨by rfl, ?_⟩) hHeld ?_
  rotate_left
  · intro w hSw
    go_simp <;> with_reducible rfl
  try simp only [Act.put, List.setIfInBounds_toArray, List.set_cons_zero, List.set_cons_succ]
  refine takeAt 1 (some 7) ?_ rfl rfl (by kernel_rfl) (by kernel_rfl) (by kernel_rfl) (fun _ _ _ h => h) (Or.inl ⟨by rfl, ?_⟩) hHeld ?_
  rotate_left
  · intro w hSw
    go_simp <;> with_reducible rfl
  try simp only [Act.put, List.setIfInBounds_toArray, List.set_cons_zero, List.set_cons_succ]
  refine takeAt 2 (some 8) ?_ rfl rfl (by kernel_rfl) (by kernel_rfl) (by kernel_rfl) (fun _ _ _ h => h) (Or.inl ⟨by rfl, ?_⟩) hHeld ?_
  rotate_left
  · intro w hSw
    go_simp <;> with_reducible rfl
  try simp only [Act.put, List.setIfInBounds_toArray, List.set_cons_zero, List.set_cons_succ]
  refine takeAt 3 (some 9) ?_ rfl rfl (by kernel_rfl) (by kernel_rfl) (by kernel_rfl) (fun _ _ _ h => h) (Or.inl ⟨by rfl, ?_⟩) hHeld ?_
  rotate_left
  · intro w hSw
    go_simp <;> with_reducible rfl
  try simp only [Act.put, List.setIfInBounds_toArray, List.set_cons_zero, List.set_cons_succ]
  refine callAt 4 10 31 (vals := #[.agg #[.int .u8 op, .int .u8 d.c, .int .u64 d.set.a, .int .u64 d.set.b, .int .u64 d.set.c, .int .u64 d.set.d, .int .i64 d.mn, .int .i64 d.mx, .bool d.lz, .int .i64 d.n, .slice ka d.kids.length kc]]) (by kernel_rfl) rfl rfl rfl rfl (by simp [Act.eval]) Tryz.func31 (by kernel_rfl) (by kernel_rfl) ?_
  refine Calls.mono (HL.out _ (HQ.out.2.2.2.2.1.kp (HD.out _).1)) ?_
  rintro e w2 ⟨rfl, q⟩
  have H2 : Hid (NqBox w.heap.size d (.slice ka d.kids.length kc) w2 ∧ Pws w0 pb v root G cs l ps w2) := ⟨HB.out.kp q, (HD.out _).2.kp q⟩
  clear q
  refine ⟨_, rfl, H2.out.1, fun hHeld => ?_⟩
  try simp only [Act.put, List.setIfInBounds_toArray, List.set_cons_zero, List.set_cons_succ]
  refine callAt 5 11 20 (vals := #[.pointer (some ⟨pb, 4, none⟩), str (leafT d)]) (by kernel_rfl) rfl rfl rfl rfl (by simp [Act.eval]) Tryz.func20 (by kernel_rfl) (by kernel_rfl) ?_
  refine Calls.mono (write_any H2.out.2 (leafT d) (by have := leafT_len HQ.out.1; have := HQ.out.2.2.2.2.2.2; omega)) ?_
  rintro e w9 ⟨rfl, q, qn⟩
  have HZ : Hid (Pws w0 pb v root G cs (l ++ leafT d) ps w9 ∧ NqBox w.heap.size d (.slice ka d.kids.length kc) w9) := ⟨q, H2.out.1.nk (qn _ (by decide) (by decide))⟩
  clear q qn
  refine ⟨_, rfl, HZ.out.2, fun hHeld => ?_⟩
  try simp only [Act.put, List.setIfInBounds_toArray, List.set_cons_zero, List.set_cons_succ]
  refine wpAnyH_done (by kernel_rfl) ?_ _
  refine NoPanic.normal ?_
  go_wp2_with fail
  go_end0
  exact ⟨rfl, HZ.out.1⟩
end
end Go.Proofs.YtmghdogoeehodaaGreatDoor
