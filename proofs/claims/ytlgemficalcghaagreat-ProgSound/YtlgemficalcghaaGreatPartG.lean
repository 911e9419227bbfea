/- Texts that the proof of the law stands on: Snd5, Snd6, Gm0, Gw1, Gw2, Gw3, Gw4, Gw5. -/
import Derived.Test.YtlgemficalcghaaGreatPartF
import Derived.Test.YtlgemficalcghaaGreatPartE
import Derived.Test.YtlgemficalcghaaGreatPartB
/- The checker's tree. -/
namespace Go.Proofs.YtlgemficalcghaaGreat
open Go.ChangeShapes Go.WideShapes Go.ChangeAt Go.RowKit
set_option linter.unusedVariables false
set_option linter.unusedSimpArgs false
/-- The checker at work. -/
structure Cw (w0 : World) (cb ab : Nat) (v : Value) (root G : Int) (cs : Nat) (L : List Nq) (ac : Nat) (v3 : Value) (next : List Int) (asked : List Bool) (w : World) : Prop where
  kp : Kp w0 w
  ck : Ck cb v root G cs (.slice (some ⟨ab, 0, none⟩) L.length ac) w
  asd : As ab asked w
  len : asked.length = L.length
  nx : Nx w0.heap.size v3 next w
  far : w0.heap.size ≤ cb ∧ w0.heap.size ≤ ab ∧ ab ≠ cb ∧ v3.ownBlock ≠ some cb ∧ v3.ownBlock ≠ some ab
section
variable {w0 w w1 : World} {cb ab : Nat} {v v3 : Value} {root G : Int} {cs : Nat} {L : List Nq} {ac : Nat} {next : List Int} {asked : List Bool}
theorem Cw.kp' (h : Cw w0 cb ab v root G cs L ac v3 next asked w) (k : Kp w w1) : Cw w0 cb ab v root G cs L ac v3 next asked w1 :=
  ⟨kp_trans h.kp k, h.ck.kp k, h.asd.heap (k.block _ h.asd.lt), h.len, h.nx.heap fun j hj => k.block j (h.nx.lt j hj).2, h.far⟩
theorem Cw.ask (h : Cw w0 cb ab v root G cs L ac v3 next asked w) (i : Nat) : Cw w0 cb ab v root G cs L ac v3 next (asked.set i true) (w.setCell ⟨ab, i, none⟩ (.bool true)) := by
  have f := fr_set ab i (.bool true) w
  refine ⟨kp_new h.kp f h.far.2.1, ?_, h.asd.set i, by simp [h.len], h.nx.heap fun j hj => ?_, h.far⟩
  · have := h.ck
    have l := h.ck.lt
    unfold Ck at *
    rw [f.block _ l (fun q => h.far.2.2.1 (by unfold On at q; omega))]; exact this
  · exact f.block j (h.nx.lt j hj).2 fun q => h.far.2.2.2.2 (by unfold On at q; rw [← q]; exact hj)
set_option maxHeartbeats 4000000 in
set_option maxRecDepth 100000 in
theorem tree_any {K : Nat} (hck : Ck cb v root G cs (.slice (some ⟨ab, 0, none⟩) L.length ac) w) (hv : Pt w0 v L) (hk : Kp w0 w) (ha : As ab (List.replicate L.length false) w) (hf : w0.heap.size ≤ cb ∧ w0.heap.size ≤ ab ∧ ab ≠ cb) (hac : L.length ≤ ac ∧ ac ≤ maxLen)
    (hK : ∀ d ∈ L, d.kids.length ≤ K) (hM : K * L.length ≤ 10000000) :
    Calls Tryz.prog 29 #[.pointer (some ⟨cb, 0, none⟩)] w fun e w' => e = .returned (.bool (treeF L G (L.length + 1) [root] (List.replicate L.length false))) ∧ Kp w0 w' := by
  obtain ⟨ck0, ck1, ck2, ck4⟩ := hck.cells
  obtain ⟨va, vc, rfl, _, vcc, _⟩ := id hv
  obtain ⟨X, hX⟩ : ∃ X, treeF L G (L.length + 1) [root] (List.replicate L.length false) = X := ⟨_, rfl⟩
  rw [hX]
  have HP : Hid (Pt w0 (.slice va L.length vc) L ∧ (∀ d ∈ L, d.kids.length ≤ K) ∧ K * L.length ≤ 10000000 ∧ treeF L G (L.length + 1) [root] (List.replicate L.length false) = X) := ⟨hv, hK, hM, hX⟩
  have HC : Hid (Cw w0 cb ab (.slice va L.length vc) root G cs L ac (.slice (some ⟨w.heap.size, 0, none⟩) 1 1) [root] (List.replicate L.length false) (w.alloc (.cells #[.int .i64 root] 3))) := by
    refine ⟨kp_trans hk (kp_alloc _ _), hck.kp (kp_alloc _ _), ha.heap (alloc_old _ _ _ ha.lt), by simp, ⟨rfl, .inr ⟨_, 1, _, rfl, hk.size, alloc_new w _, by simp, by simp [maxLen], rfl, rfl⟩⟩, hf.1, hf.2.1, hf.2.2, ?_, ?_⟩
    · have := hck.lt
      simp only [Value.ownBlock, ne_eq, Option.some.injEq]; omega
    · have := ha.lt
      simp only [Value.ownBlock, ne_eq, Option.some.injEq]; omega
  clear hX hv hK hM hck hk ha hf ck0 ck2 ck4
  unfold maxLen at vcc hac
  go_enter Tryz.func29, Tryz.ntmps29
  go_wp2_with fail
  go_loopw [3] (fun v3 wr => ∃ (f : Nat) (next : List Int) (asked : List Bool), asked.count false < f ∧ next.length + K * asked.count false ≤ 10000001 ∧ treeF L G f next asked = X ∧ Cw w0 cb ab (.slice va L.length vc) root G cs L ac v3 next asked wr) (fun _ wr => left ab wr)
  case atStart =>
    refine ⟨_, _, _, ?_, ?_, HP.out.2.2.2, HC.out⟩
    · simp
    · simpa [Nat.add_comm] using HP.out.2.2.1
  case round =>
    obtain ⟨f, next, asked, hf, hN, hT, hC⟩ := hrel
    obtain ⟨f, rfl⟩ : ∃ f', f = f' + 1 := ⟨f - 1, by omega⟩
    rcases List.eq_nil_or_concat next with rfl | ⟨nx, a, rfl⟩
    · have hX : X = true := by rw [← hT]; simp [treeF]
      subst hX
      obtain ⟨sa, sc, rfl, _, _⟩ := owns_form hC.nx
      have HC2 : Hid _ := hC
      clear hC hT hN
      simp only [List.length_nil]
      go_wp2_with fail
      go_ret
      exact ⟨rfl, HC2.out.kp⟩
    · rw [List.concat_eq_append] at hN hT hC
      have hT' : (if hasB L a && !(asked.getD a.toNat false) && fitB L G (nodeAt L a) then treeF L G f (nx ++ (nodeAt L a).kids) (asked.set a.toNat true) else false) = X := by
        rw [← hT]; simp [treeF]
      obtain ⟨g, cap, rfl, c1, c2, c3, c4, hca, hpop⟩ := hC.nx.pop
      obtain ⟨n, hn⟩ : ∃ n, nx.length = n := ⟨_, rfl⟩
      have hC1 : Cw w0 cb ab (.slice va L.length vc) root G cs L ac (.slice (some ⟨g, 0, none⟩) n cap) nx asked wr := by
        rw [← hn]
        exact ⟨hC.kp, hC.ck, hC.asd, hC.len, hpop, hC.far⟩
      rw [hn] at hca c1 ⊢
      have HC1 : Hid _ := hC1
      have HN : Hid (nx.length = n ∧ n + 1 + K * asked.count false ≤ 10000001) := ⟨hn, by
        have : (nx ++ [a]).length = n + 1 := by simp [hn]
        rw [this] at hN; exact hN⟩
      have HT : Hid _ := hT'
      unfold maxLen at c2
      clear hC hT hN hT' hpop hC1 hn
      go_wp2_with fail
      refine Calls.mono (has_any HC1.out.ck (HP.out.1.kp HC1.out.kp) a) ?_
      rintro e w' ⟨rfl, rfl⟩
      cases hh : hasB L a with
      | false =>
        have hX : X = false := by rw [← HT.out]; simp [hh]
        subst hX
        go_wp2_with fail
        go_ret
        exact ⟨rfl, HC1.out.kp⟩
      | true =>
        obtain ⟨k, nb, no, kv, rfl, hk, rfl, hcs, hks⟩ := HP.out.1.node hh
        obtain ⟨b, hb⟩ : ∃ b, asked[k]? = some b := ⟨_, List.getElem?_eq_getElem (by rw [HC1.out.len]; exact hk)⟩
        have cA : w'.cell? ⟨ab, k, none⟩ = some (.bool b) := by rw [HC1.out.asd.cell, hb]; rfl
        have fA := HC1.out.asd.fz k
        obtain ⟨ck0, ck1', ck2, ck4⟩ := HC1.out.ck.cells
        have HH : Hid (hasB L (k : Int) = true ∧ asked[k]? = some b ∧ k < L.length) := ⟨hh, hb, hk⟩
        clear hh hb
        cases b with
        | true =>
          have hX : X = false := by rw [← HT.out]; simp [HH.out.2.1]
          subst hX
          clear hcs hks
          go_wp2_with fail
          go_ret
          exact ⟨rfl, HC1.out.kp⟩
        | false =>
          obtain ⟨d, hd⟩ : ∃ d, nodeAt L k = d := ⟨_, rfl⟩
          have HD : Hid (nodeAt L k = d ∧ d ∈ L) := ⟨hd, by
            rw [← hd]; unfold nodeAt
            rw [Int.toNat_natCast, List.getElem?_eq_getElem hk]
            exact List.getElem_mem hk⟩
          rw [hd] at hcs hks
          obtain ⟨ka, kc, rfl, _, kcc, _⟩ := id hks
          obtain ⟨m, hm⟩ : ∃ m, d.kids.length = m := ⟨_, rfl⟩
          have Hm : Hid (d.kids.length = m) := hm
          rw [hm] at hcs hks
          have HKs : Hid (Ks w0 (.slice ka m kc) d.kids ∧ ∀ j u, (d.cells (.slice ka m kc))[j]? = some u → w0.cell? ⟨nb, no + k * 11 + j, none⟩ = some u) := ⟨hks, hcs⟩
          have c0 : w'.cell? ⟨nb, no + k * 11, none⟩ = some (.int .u8 d.op) := kp_cell HC1.out.kp (hcs 0 _ rfl)
          have c1 := kp_cell HC1.out.kp (hcs 1 _ rfl)
          have c2 := kp_cell HC1.out.kp (hcs 2 _ rfl)
          have c3 := kp_cell HC1.out.kp (hcs 3 _ rfl)
          have c4 := kp_cell HC1.out.kp (hcs 4 _ rfl)
          have c5 := kp_cell HC1.out.kp (hcs 5 _ rfl)
          have c6 := kp_cell HC1.out.kp (hcs 6 _ rfl)
          have c7 := kp_cell HC1.out.kp (hcs 7 _ rfl)
          have c8 := kp_cell HC1.out.kp (hcs 8 _ rfl)
          have c9 := kp_cell HC1.out.kp (hcs 9 _ rfl)
          have c10 := kp_cell HC1.out.kp (hcs 10 _ rfl)
          clear hcs hks hd hm
          go_wp2_with fail
          refine Calls.mono (fits_any HC1.out.ck (HP.out.1.kp HC1.out.kp) d (HKs.out.1.kp HC1.out.kp)) ?_
          rintro e w2 ⟨rfl, q⟩
          have HC2 : Hid _ := HC1.out.kp' q
          have cA := kp_cell q cA
          clear q c0 c1 c2 c3 c4 c5 c6 c7 c8 c9 c10 ck0 ck1' ck2 ck4 fA
          cases hF : fitB L G d with
          | false =>
            have hX : X = false := by rw [← HT.out, HD.out.1]; simp [hF]
            subst hX
            go_wp2_with fail
            go_ret
            exact ⟨rfl, HC2.out.kp⟩
          | true =>
            have hT2 : treeF L G f (nx ++ d.kids) (asked.set k true) = X := by
              rw [← HT.out, HD.out.1]; simp [hF, HH.out.1, HH.out.2.1]
            have HT2 : Hid _ := hT2
            clear hT2
            obtain ⟨W, hW⟩ : ∃ W, w2.setCell ⟨ab, k, none⟩ (.bool true) = W := ⟨_, rfl⟩
            have HC3 : Hid (Cw w0 cb ab (.slice (some ⟨nb, no, none⟩) L.length vc) root G cs L ac (.slice (some ⟨g, 0, none⟩) n cap) nx (asked.set k true) W) := by rw [← hW]; exact HC2.out.ask k
            have fA := HC2.out.asd.fz k
            obtain ⟨ck0, ck1', ck2, ck4⟩ := HC2.out.ck.cells
            have hct := count_set HH.out.2.1
            have hM : n + m ≤ 16000000 := by
              have h1 := HP.out.2.1 d HD.out.2
              have h2 := HN.out.2
              have h3 := Hm.out
              have h4 : 1 ≤ asked.count false := by omega
              have h5 : K * 1 ≤ K * asked.count false := Nat.mul_le_mul_left K h4
              omega
            obtain ⟨g', cap', w4, hr, hn4, hg4, hat⟩ := HC3.out.nx.app HN.out.1 (by omega) (HKs.out.1.kp HC3.out.kp) HC3.out.kp.size hM 87
            have HC4 : Hid (Cw w0 cb ab (.slice (some ⟨nb, no, none⟩) L.length vc) root G cs L ac (.slice (some ⟨g', 0, none⟩) (n + m) cap') (nx ++ d.kids) (asked.set k true) w4) := by
              have hf := HC3.out.far
              have e1 : some cb ≠ some g := fun z => hf.2.2.2.1 (by simp only [Value.ownBlock]; exact z.symm)
              have e2 : some ab ≠ some g := fun z => hf.2.2.2.2 (by simp only [Value.ownBlock]; exact z.symm)
              have l1 := HC3.out.ck.lt
              have l2 := HC3.out.asd.lt
              have l3 := (HC3.out.nx.lt g rfl).1
              refine ⟨?_, ?_, HC3.out.asd.heap (hg4.block _ l2 e2), HC3.out.len, hn4, hf.1, hf.2.1, hf.2.2.1, ?_, ?_⟩
              · have k3 := HC3.out.kp
                refine ⟨hg4.os.trans k3.os, hg4.tape.trans k3.tape, hg4.output.trans k3.output, Nat.le_trans k3.size hg4.size, fun j hj => ?_⟩
                rw [hg4.block j (Nat.lt_of_lt_of_le hj k3.size) (by simp only [ne_eq, Option.some.injEq]; omega)]; exact k3.block j hj
              · have := HC3.out.ck
                unfold Ck at *; rw [hg4.block _ l1 e1]; exact this
              · simp only [Value.ownBlock, ne_eq, Option.some.injEq]
                intro z; rcases hat with q | q
                · exact e1 (by rw [← q, z])
                · omega
              · simp only [Value.ownBlock, ne_eq, Option.some.injEq]
                intro z; rcases hat with q | q
                · exact e2 (by rw [← q, z])
                · omega
            have k10 : W.cell? ⟨nb, no + k * 11 + 10, none⟩ = some (.slice ka m kc) := kp_cell HC3.out.kp (HKs.out.2 10 _ rfl)
            obtain ⟨cw0, _, _, _⟩ := HC3.out.ck.cells
            have HCT : Hid ((asked.set k true).count false + 1 = asked.count false) := hct
            clear hct hn4 hg4 hat
            go_upto_region 8 with fail
            clear hW cA fA ck0 ck1' ck2 ck4
            have HRun : Hid _ := hr
            clear hr
            go_wp2_with (at_builtin; refine wpList_append_run rfl (.tmp 57) (.tmp 66) 87 rfl _ _ rfl rfl HRun.out ?_)
            go_wp2_with fail
            go_roundw
            case rel => exact ⟨f, _, _, by have := HCT.out; omega, by
              have h1 := HP.out.2.1 d HD.out.2
              have h2 := HN.out.2
              have h3 := Hm.out
              have h4 := HCT.out
              rw [List.length_append, HN.out.1, h3]
              rw [← h4, Nat.mul_add, Nat.mul_one] at h2
              omega, HT2.out, HC4.out⟩
            case measure =>
              rw [HC4.out.asd.left, HC1.out.asd.left]
              have := HCT.out
              omega
end
end Go.Proofs.YtlgemficalcghaaGreat
/- Sound. -/
namespace Go.Proofs.YtlgemficalcghaaGreat
open Go.ChangeShapes Go.WideShapes Go.ChangeAt Go.RowKit
set_option linter.unusedVariables false
set_option linter.unusedSimpArgs false
section
variable {w w1 : World} {v : Value} {L : List Nq}
def PBox (n : Nat) (v : Value) (i g : Int) (c : Nat) (w : World) : Prop := w.heap[n]? = some (.cells #[v, .int .i64 i, .int .i64 g, .int .u8 c] 25 (0, 0))
theorem PBox.cells {n : Nat} {v : Value} {i g : Int} {c : Nat} {w : World} (h : PBox n v i g c w) : w.cell? ⟨n, 0, none⟩ = some v ∧ w.cell? ⟨n, 1, none⟩ = some (.int .i64 i) ∧ w.cell? ⟨n, 2, none⟩ = some (.int .i64 g) ∧ w.cell? ⟨n, 3, none⟩ = some (.int .u8 c) := by
  unfold PBox at h
  refine ⟨?_, ?_, ?_, ?_⟩ <;> simp [World.cell?, h]
theorem PBox.kp {n : Nat} {v : Value} {i g : Int} {c : Nat} {w w1 : World} (h : PBox n v i g c w) (k : Kp w w1) : PBox n v i g c w1 := by
  have l := (Array.getElem?_eq_some_iff.1 h).1
  unfold PBox at *; rw [k.block _ l]; exact h
theorem infoBool : (Tryz.prog.info? 4).map (fun i => (i.zero, i.size, i.bytes)) = some (some (.bool false), 1, 1) := by kernel_rfl
set_option maxRecDepth 100000 in
theorem make_bools (n : Nat) (hn : n ≤ 10000000) (w : World) : (Instr.makeSlice 72 (.int .i64 n) (.int .i64 n)).run Tryz.prog w = .ok (.slice (some ⟨w.heap.size, 0, none⟩) n n) (w.alloc (.cells (bools (List.replicate n false)).toArray 4)) := by
  obtain ⟨i9, hi9, z0, z1, z2⟩ := info_parts infoBool
  have := run_makeSlice (P := Tryz.prog) w 72 4 i9 _ Tryz.underlying72 hi9 z0 .i64 .i64 n n (by omega) (by omega) (by rw [z1, Int.toNat_natCast]; omega) (by rw [z2]; omega) (by omega)
  rw [this, Int.toNat_natCast, z1]
  congr 3
  simp only [madeCells, bools, List.map_replicate]
  apply Array.ext
  · simp
  · intro k h1 h2
    simp [Value.cells, Nat.mod_one]
def obP (v : Value) (root G : Int) (cs : Nat) : Obj := .cells #[v, .int .i64 root, .int .i64 G, .int .u8 cs] 25
def obA (n : Nat) : Obj := .cells (bools (List.replicate n false)).toArray 4
def obC : Obj := .cells #[.slice none 0 0, .int .i64 0, .int .i64 0, .int .u8 0, .slice none 0 0] 74
def obK (v : Value) (root G : Int) (cs : Nat) (a : Value) : Obj := .cells #[v, .int .i64 root, .int .i64 G, .int .u8 cs, a] 74
theorem alloc3 (w : World) (x y z : Obj) : Kp w (((w.alloc x).alloc y).alloc z).drew ∧ (((w.alloc x).alloc y).alloc z).drew.heap[w.heap.size]? = some x ∧ (((w.alloc x).alloc y).alloc z).drew.heap[w.heap.size + 1]? = some y ∧ (((w.alloc x).alloc y).alloc z).drew.heap[w.heap.size + 1 + 1]? = some z := by
  refine ⟨kp_trans (kp_trans (kp_trans (kp_alloc _ _) (kp_alloc _ _)) (kp_alloc _ _)) (kp_drew _), ?_, ?_, ?_⟩
  · show (((w.alloc x).alloc y).alloc z).heap[w.heap.size]? = some x
    rw [alloc_old _ _ _ (by simp only [alloc_size]; omega), alloc_old _ _ _ (by simp only [alloc_size]; omega)]
    exact alloc_new w _
  · show (((w.alloc x).alloc y).alloc z).heap[w.heap.size + 1]? = some y
    rw [alloc_old _ _ _ (by simp only [alloc_size]; omega)]
    have := alloc_new (w.alloc x) y
    rw [alloc_size] at this
    exact this
  · show (((w.alloc x).alloc y).alloc z).heap[w.heap.size + 1 + 1]? = some z
    have := alloc_new ((w.alloc x).alloc y) z
    rw [alloc_size, alloc_size] at this
    exact this
set_option maxHeartbeats 4000000 in
set_option maxRecDepth 100000 in
theorem sound_any {K : Nat} (hv : Pt w v L) (root G : Int) (cs : Nat) (hK : ∀ d ∈ L, d.kids.length ≤ K) (hM : K * L.length ≤ 10000000) (hL : L.length ≤ 10000000) :
    Calls Tryz.prog 19 #[.agg #[v, .int .i64 root, .int .i64 G, .int .u8 cs]] w fun e w' => e = .returned (.bool (soundF L root G)) ∧ Kp w w' := by
  obtain ⟨va, vc, rfl, _, vcc, _⟩ := id hv
  have hMk := make_bools L.length hL
  have HV : Hid (Pt w (.slice va L.length vc) L ∧ (∀ d ∈ L, d.kids.length ≤ K) ∧ K * L.length ≤ 10000000) := ⟨hv, hK, hM⟩
  have HB : Hid (PBox w.heap.size (.slice va L.length vc) root G cs (w.alloc (.cells #[.slice va L.length vc, .int .i64 root, .int .i64 G, .int .u8 cs] 25)).drew) := alloc_new w _
  have HB1 : Hid (PBox w.heap.size (.slice va L.length vc) root G cs ((w.alloc (obP (.slice va L.length vc) root G cs)).alloc (obA L.length)).drew) := (show PBox _ _ _ _ _ (w.alloc _) from alloc_new w _).kp (kp_trans (kp_alloc _ _) (kp_drew _))
  have HB2 : Hid (PBox w.heap.size (.slice va L.length vc) root G cs (((w.alloc (obP (.slice va L.length vc) root G cs)).alloc (obA L.length)).alloc obC).drew) := (show PBox _ _ _ _ _ (w.alloc _) from alloc_new w _).kp (kp_trans (kp_trans (kp_alloc _ _) (kp_alloc _ _)) (kp_drew _))
  have HB3 : Hid (PBox w.heap.size (.slice va L.length vc) root G cs ((w.alloc (obP (.slice va L.length vc) root G cs)).alloc obC).drew) := (show PBox _ _ _ _ _ (w.alloc _) from alloc_new w _).kp (kp_trans (kp_alloc _ _) (kp_drew _))
  have HB4 : Hid (PBox w.heap.size (.slice va L.length vc) root G cs (((w.alloc (obP (.slice va L.length vc) root G cs)).alloc obC).alloc (obA L.length)).drew) := (show PBox _ _ _ _ _ (w.alloc _) from alloc_new w _).kp (kp_trans (kp_trans (kp_alloc _ _) (kp_alloc _ _)) (kp_drew _))
  have rl0 : ∀ w', PBox w.heap.size (.slice va L.length vc) root G cs w' → w'.cell? ⟨w.heap.size, 0, none⟩ = some (.slice va L.length vc) := fun _ h => h.cells.1
  have rl1 : ∀ w', PBox w.heap.size (.slice va L.length vc) root G cs w' → w'.cell? ⟨w.heap.size, 1, none⟩ = some (.int .i64 root) := fun _ h => h.cells.2.1
  have rl2 : ∀ w', PBox w.heap.size (.slice va L.length vc) root G cs w' → w'.cell? ⟨w.heap.size, 2, none⟩ = some (.int .i64 G) := fun _ h => h.cells.2.2.1
  have rl3 : ∀ w', PBox w.heap.size (.slice va L.length vc) root G cs w' → w'.cell? ⟨w.heap.size, 3, none⟩ = some (.int .u8 cs) := fun _ h => h.cells.2.2.2
  obtain ⟨X, hX⟩ : ∃ X, soundF L root G = X := ⟨_, rfl⟩
  rw [hX]
  have HX : Hid (soundF L root G = X) := hX
  clear hv hK hM hX
  go_enter Tryz.func19, Tryz.ntmps19
  go_wp2_with fail
  refine wp_region_noPanic ?_
  refine wp_region_held_drew (S := PBox w.heap.size (.slice va L.length vc) root G cs) (by kernel_rfl) (HB.out) (fun hHeld => ?_)
  refine takeAt 0 (some 4) ?_ rfl rfl (by kernel_rfl) (by kernel_rfl) (by kernel_rfl) (fun _ _ _ h => h) (Or.inl ⟨by rfl, ?_⟩) hHeld ?_
  rotate_left
  · intro w hSw
    go_simp <;> with_reducible rfl
  try simp only [Act.put, List.setIfInBounds_toArray, List.set_cons_zero, List.set_cons_succ]
  refine takeAt 1 (some 5) ?_ rfl rfl (by kernel_rfl) (by kernel_rfl) (by kernel_rfl) (fun _ _ _ h => h) (Or.inl ⟨by rfl, ?_⟩) hHeld ?_
  rotate_left
  · intro w hSw
    go_simp <;> with_reducible rfl
  try simp only [Act.put, List.setIfInBounds_toArray, List.set_cons_zero, List.set_cons_succ]
  refine takeAt 2 (some 6) ?_ rfl rfl (by kernel_rfl) (by kernel_rfl) (by kernel_rfl) (fun _ _ _ h => h) (Or.inl ⟨by rfl, ?_⟩) hHeld ?_
  rotate_left
  · intro w hSw
    go_simp <;> with_reducible rfl
  try simp only [Act.put, List.setIfInBounds_toArray, List.set_cons_zero, List.set_cons_succ]
  refine takeAt 3 (some 7) ?_ rfl rfl (by kernel_rfl) (by kernel_rfl) (by kernel_rfl) (fun _ _ _ h => h) (Or.inl ⟨by rfl, ?_⟩) hHeld ?_
  rotate_left
  · intro w hSw
    go_simp <;> with_reducible rfl
  try simp only [Act.put, List.setIfInBounds_toArray, List.set_cons_zero, List.set_cons_succ]
  refine wpAnyH_ready (rs := [4, 6]) (by kernel_rfl) (by simp) ?_
  refine AllReadyH.cons rfl (fun K1 hK => ?_) (AllReadyH.cons rfl (fun K1 hK => ?_) AllReadyH.nil)
  · go_simp
    refine hK.out _ _ (HB1.out) (fun hHeld => ?_)
    clear hK K1
    try simp only [Act.put, List.setIfInBounds_toArray, List.set_cons_zero, List.set_cons_succ]
    refine takeAt 5 (some 9) ?_ rfl rfl (by kernel_rfl) (by kernel_rfl) (by kernel_rfl) (fun _ _ _ h => h) (Or.inl ⟨by rfl, ?_⟩) hHeld ?_
    rotate_left
    · intro w hSw
      go_simp <;> with_reducible rfl
    try simp only [Act.put, List.setIfInBounds_toArray, List.set_cons_zero, List.set_cons_succ]
    refine wpAnyH_ready (rs := [6]) (by kernel_rfl) (by simp) ?_
    refine AllReadyH.cons rfl (fun K hK => ?_) AllReadyH.nil
    go_simp
    refine hK.out _ _ (HB2.out) (fun hHeld => ?_)
    clear hK K
    try simp only [Act.put, List.setIfInBounds_toArray, List.set_cons_zero, List.set_cons_succ]
    have HW : Hid (Ck (w.heap.size + 1 + 1) (.slice va L.length vc) root G cs (.slice (some ⟨w.heap.size + 1, 0, none⟩) L.length L.length) (((w.alloc (obP (.slice va L.length vc) root G cs)).alloc (obA L.length)).alloc (obK (.slice va L.length vc) root G cs (.slice (some ⟨w.heap.size + 1, 0, none⟩) L.length L.length))).drew ∧ As (w.heap.size + 1) (List.replicate L.length false) (((w.alloc (obP (.slice va L.length vc) root G cs)).alloc (obA L.length)).alloc (obK (.slice va L.length vc) root G cs (.slice (some ⟨w.heap.size + 1, 0, none⟩) L.length L.length))).drew ∧ Kp w (((w.alloc (obP (.slice va L.length vc) root G cs)).alloc (obA L.length)).alloc (obK (.slice va L.length vc) root G cs (.slice (some ⟨w.heap.size + 1, 0, none⟩) L.length L.length))).drew) := by
      obtain ⟨q1, q2, q3, q4⟩ := alloc3 w _ _ _
      exact ⟨q4, q3, q1⟩
    have HB5 : Hid (PBox w.heap.size (.slice va L.length vc) root G cs (((w.alloc (obP (.slice va L.length vc) root G cs)).alloc (obA L.length)).alloc (obK (.slice va L.length vc) root G cs (.slice (some ⟨w.heap.size + 1, 0, none⟩) L.length L.length))).drew) := (alloc3 w _ _ _).2.1
    refine wpAnyH_ready (rs := [7]) (by kernel_rfl) (by simp) ?_
    refine AllReadyH.cons rfl (fun K hK => ?_) AllReadyH.nil
    go_simp
    refine hK.out _ _ (HB5.out) (fun hHeld => ?_)
    clear hK K
    try simp only [Act.put, List.setIfInBounds_toArray, List.set_cons_zero, List.set_cons_succ]
    refine wpAnyH_done (by kernel_rfl) ?_ _
    refine NoPanic.normal ?_
    change Exit.then _ _ _ _ (((w.alloc (obP (.slice va L.length vc) root G cs)).alloc (obA L.length)).alloc (obK (.slice va L.length vc) root G cs (.slice (some ⟨w.heap.size + 1, 0, none⟩) L.length L.length))).drew
    generalize hWW : (((w.alloc (obP (.slice va L.length vc) root G cs)).alloc (obA L.length)).alloc (obK (.slice va L.length vc) root G cs (.slice (some ⟨w.heap.size + 1, 0, none⟩) L.length L.length))).drew = W at HW ⊢
    clear hWW hHeld
    obtain ⟨hck, has, hkp⟩ := HW.out
    by_cases hG : 0 ≤ G ∧ G ≤ 9
    · have hX : treeF L G (L.length + 1) [root] (List.replicate L.length false) = X := by rw [← HX.out]; unfold soundF; rw [decide_eq_true hG, Bool.true_and]
      have HX2 : Hid _ := hX
      clear hX
      go_wp2_with fail
      refine Calls.mono (groups_any hck) ?_
      rintro e w' ⟨rfl, rfl⟩
      rw [decide_eq_true hG]
      go_wp2_with fail
      refine Calls.mono (tree_any (K := K) hck HV.out.1 hkp has ⟨by omega, by omega, by omega⟩ ⟨Nat.le_refl _, by unfold maxLen; omega⟩ HV.out.2.1 HV.out.2.2) ?_
      rintro e w2 ⟨rfl, q⟩
      clear hck has hkp
      rw [HX2.out]
      go_wp2_with fail
      go_ret
      exact ⟨rfl, q⟩
    · have hX : X = false := by rw [← HX.out]; unfold soundF; rw [decide_eq_false hG, Bool.false_and]
      subst hX
      go_wp2_with fail
      refine Calls.mono (groups_any hck) ?_
      rintro e w' ⟨rfl, rfl⟩
      rw [decide_eq_false hG]
      clear hck has
      go_wp2_with fail
      go_ret
      exact ⟨rfl, hkp⟩
  · go_simp
    refine hK.out _ _ (HB3.out) (fun hHeld => ?_)
    clear hK K1
    try simp only [Act.put, List.setIfInBounds_toArray, List.set_cons_zero, List.set_cons_succ]
    refine wpAnyH_ready (rs := [4]) (by kernel_rfl) (by simp) ?_
    refine AllReadyH.cons rfl (fun K hK => ?_) AllReadyH.nil
    go_simp
    refine hK.out _ _ (HB4.out) (fun hHeld => ?_)
    clear hK K
    try simp only [Act.put, List.setIfInBounds_toArray, List.set_cons_zero, List.set_cons_succ]
    refine takeAt 5 (some 9) ?_ rfl rfl (by kernel_rfl) (by kernel_rfl) (by kernel_rfl) (fun _ _ _ h => h) (Or.inl ⟨by rfl, ?_⟩) hHeld ?_
    rotate_left
    · intro w hSw
      go_simp <;> with_reducible rfl
    try simp only [Act.put, List.setIfInBounds_toArray, List.set_cons_zero, List.set_cons_succ]
    have HW : Hid (Ck (w.heap.size + 1) (.slice va L.length vc) root G cs (.slice (some ⟨w.heap.size + 1 + 1, 0, none⟩) L.length L.length) (((w.alloc (obP (.slice va L.length vc) root G cs)).alloc (obK (.slice va L.length vc) root G cs (.slice (some ⟨w.heap.size + 1 + 1, 0, none⟩) L.length L.length))).alloc (obA L.length)).drew ∧ As (w.heap.size + 1 + 1) (List.replicate L.length false) (((w.alloc (obP (.slice va L.length vc) root G cs)).alloc (obK (.slice va L.length vc) root G cs (.slice (some ⟨w.heap.size + 1 + 1, 0, none⟩) L.length L.length))).alloc (obA L.length)).drew ∧ Kp w (((w.alloc (obP (.slice va L.length vc) root G cs)).alloc (obK (.slice va L.length vc) root G cs (.slice (some ⟨w.heap.size + 1 + 1, 0, none⟩) L.length L.length))).alloc (obA L.length)).drew) := by
      obtain ⟨q1, q2, q3, q4⟩ := alloc3 w _ _ _
      exact ⟨q3, q4, q1⟩
    have HB5 : Hid (PBox w.heap.size (.slice va L.length vc) root G cs (((w.alloc (obP (.slice va L.length vc) root G cs)).alloc (obK (.slice va L.length vc) root G cs (.slice (some ⟨w.heap.size + 1 + 1, 0, none⟩) L.length L.length))).alloc (obA L.length)).drew) := (alloc3 w _ _ _).2.1
    refine wpAnyH_ready (rs := [7]) (by kernel_rfl) (by simp) ?_
    refine AllReadyH.cons rfl (fun K hK => ?_) AllReadyH.nil
    go_simp
    refine hK.out _ _ (HB5.out) (fun hHeld => ?_)
    clear hK K
    try simp only [Act.put, List.setIfInBounds_toArray, List.set_cons_zero, List.set_cons_succ]
    refine wpAnyH_done (by kernel_rfl) ?_ _
    refine NoPanic.normal ?_
    change Exit.then _ _ _ _ (((w.alloc (obP (.slice va L.length vc) root G cs)).alloc (obK (.slice va L.length vc) root G cs (.slice (some ⟨w.heap.size + 1 + 1, 0, none⟩) L.length L.length))).alloc (obA L.length)).drew
    generalize hWW : (((w.alloc (obP (.slice va L.length vc) root G cs)).alloc (obK (.slice va L.length vc) root G cs (.slice (some ⟨w.heap.size + 1 + 1, 0, none⟩) L.length L.length))).alloc (obA L.length)).drew = W at HW ⊢
    clear hWW hHeld
    obtain ⟨hck, has, hkp⟩ := HW.out
    by_cases hG : 0 ≤ G ∧ G ≤ 9
    · have hX : treeF L G (L.length + 1) [root] (List.replicate L.length false) = X := by rw [← HX.out]; unfold soundF; rw [decide_eq_true hG, Bool.true_and]
      have HX2 : Hid _ := hX
      clear hX
      go_wp2_with fail
      refine Calls.mono (groups_any hck) ?_
      rintro e w' ⟨rfl, rfl⟩
      rw [decide_eq_true hG]
      go_wp2_with fail
      refine Calls.mono (tree_any (K := K) hck HV.out.1 hkp has ⟨by omega, by omega, by omega⟩ ⟨Nat.le_refl _, by unfold maxLen; omega⟩ HV.out.2.1 HV.out.2.2) ?_
      rintro e w2 ⟨rfl, q⟩
      clear hck has hkp
      rw [HX2.out]
      go_wp2_with fail
      go_ret
      exact ⟨rfl, q⟩
    · have hX : X = false := by rw [← HX.out]; unfold soundF; rw [decide_eq_false hG, Bool.false_and]
      subst hX
      go_wp2_with fail
      refine Calls.mono (groups_any hck) ?_
      rintro e w' ⟨rfl, rfl⟩
      rw [decide_eq_false hG]
      clear hck has
      go_wp2_with fail
      go_ret
      exact ⟨rfl, hkp⟩
end
end Go.Proofs.YtlgemficalcghaaGreat
/- The document's code of a pattern's tree, as a list of instructions: plain. -/
namespace Go.Proofs.YtlgemficalcghaaGreat
open Go.ChangeShapes Go.WideShapes Go.ChangeAt Go.RowKit
set_option linter.unusedVariables false
set_option linter.unusedSimpArgs false
/-- An instruction. -/
structure Ins where
  op : Nat
  c : Nat := 0
  set : S4 := zeroS
  x : Int := 0
  y : Int := 0
/-- A pattern as a tree. -/
inductive PT where
  | empty
  | leaf (i : Ins)
  | seq (a b : PT)
  | alt (a b : PT)
  | many (mn : Nat) (mx : Option Nat) (lz : Bool) (k : PT)
  | group (n : Int) (k : PT)
def splitI (lz : Bool) (p e : Nat) : Ins := if lz then { op := 4, x := e, y := (p : Int) + 1 } else { op := 4, x := (p : Int) + 1, y := e }
def jumpI (e : Nat) : Ins := { op := 5, x := e }
def startI (r : Nat) : Ins := { op := 12, x := r }
def goneI (r : Nat) : Ins := { op := 13, x := r }
def saveI (x : Int) : Ins := { op := 6, x := x }
def PT.len : PT → Nat
  | .empty => 0
  | .leaf _ => 1
  | .seq a b => a.len + b.len
  | .alt a b => a.len + b.len + 2
  | .many mn mx _ k => mn * k.len + (match mx with | none => k.len + 4 | some m => (m - mn) * (k.len + 3))
  | .group _ k => k.len + 2
def PT.rnd : PT → Nat
  | .empty => 0
  | .leaf _ => 0
  | .seq a b => a.rnd + b.rnd
  | .alt a b => a.rnd + b.rnd
  | .many mn mx _ k => mn * k.rnd + (match mx with | none => k.rnd + 1 | some m => (m - mn) * (k.rnd + 1))
  | .group _ k => k.rnd
def copiesC (f : Nat → Nat → List Ins) (l q : Nat) : Nat → Nat → Nat → List Ins
  | 0, _, _ => []
  | n + 1, p, r => f p r ++ copiesC f l q n (p + l) (r + q)
/-- Tries of a kid, one behind the other; 's': the split at a place. -/
def triesC (f : Nat → Nat → List Ins) (l q : Nat) (s : Nat → Ins) : Nat → Nat → Nat → List Ins
  | 0, _, _ => []
  | n + 1, p, r => s p :: startI r :: f (p + 2) (r + 1) ++ goneI r :: triesC f l q s n (p + l + 3) (r + q + 1)
def PT.code : PT → Nat → Nat → List Ins
  | .empty, _, _ => []
  | .leaf i, _, _ => [i]
  | .seq a b, p, r => a.code p r ++ b.code (p + a.len) (r + a.rnd)
  | .alt a b, p, r => splitI false p (p + a.len + 2) :: a.code (p + 1) r ++ jumpI (p + a.len + b.len + 2) :: b.code (p + a.len + 2) (r + a.rnd)
  | .many mn mx lz k, p, r => copiesC k.code k.len k.rnd mn p r ++
      (match mx with
       | none => splitI lz (p + mn * k.len) (p + mn * k.len + k.len + 4) :: startI (r + mn * k.rnd) :: k.code (p + mn * k.len + 2) (r + mn * k.rnd + 1) ++ [goneI (r + mn * k.rnd), jumpI (p + mn * k.len)]
       | some m => triesC k.code k.len k.rnd (fun a => splitI lz a (p + mn * k.len + (m - mn) * (k.len + 3))) (m - mn) (p + mn * k.len) (r + mn * k.rnd))
  | .group n k, p, r => saveI (2 * n) :: k.code (p + 1) r ++ [saveI (2 * n + 1)]
theorem copiesC_len (f : Nat → Nat → List Ins) (l q : Nat) (hf : ∀ p r, (f p r).length = l) (n p r : Nat) : (copiesC f l q n p r).length = n * l := by
  induction n generalizing p r with
  | zero => simp [copiesC]
  | succ n ih => simp only [copiesC, List.length_append, hf, ih, Nat.succ_mul]; omega
theorem triesC_len (f : Nat → Nat → List Ins) (l q : Nat) (s : Nat → Ins) (hf : ∀ p r, (f p r).length = l) (n p r : Nat) : (triesC f l q s n p r).length = n * (l + 3) := by
  induction n generalizing p r with
  | zero => simp [triesC]
  | succ n ih => simp only [triesC, List.length_append, List.length_cons, hf, ih, Nat.succ_mul]; omega
theorem PT.code_len (t : PT) (p r : Nat) : (t.code p r).length = t.len := by
  induction t generalizing p r with
  | empty => rfl
  | leaf i => rfl
  | seq a b iha ihb => simp [PT.code, PT.len, iha, ihb]
  | alt a b iha ihb => simp [PT.code, PT.len, iha, ihb]; omega
  | many mn mx lz k ih =>
    cases mx with
    | none => simp [PT.code, PT.len, ih, copiesC_len _ _ _ ih]
    | some m => simp [PT.code, PT.len, copiesC_len _ _ _ ih, triesC_len _ _ _ _ ih]
  | group n k ih => simp [PT.code, PT.len, ih]
/-- What has been laid, and how many rounds; what comes of one more tree. -/
def runT (t : PT) (x : List Ins × Nat) : Option (List Ins × Nat) :=
  if x.1.length + t.len ≤ 2000 then some (x.1 ++ t.code x.1.length x.2, x.2 + t.rnd) else none
theorem runT_empty (x : List Ins × Nat) (h : x.1.length ≤ 2000) : runT .empty x = some x := by simp [runT, PT.len, PT.code, PT.rnd, h]
theorem runT_seq (a b : PT) (x : List Ins × Nat) : runT (.seq a b) x = (runT a x).bind (runT b) := by
  unfold runT
  by_cases h : x.1.length + a.len ≤ 2000
  · rw [if_pos h, Option.bind_some]
    by_cases h2 : x.1.length + (a.len + b.len) ≤ 2000
    · rw [if_pos (by simpa [PT.len] using h2), if_pos (by simp [PT.code_len]; omega)]
      simp only [List.length_append, PT.code_len, PT.len, PT.code, PT.rnd, List.append_assoc, Nat.add_assoc]
    · rw [if_neg (by simpa [PT.len] using h2), if_neg (by simp [PT.code_len]; omega)]
  · rw [if_neg h, if_neg (by simp only [PT.len]; omega), Option.bind_none]
theorem runT_ge {t : PT} {x y : List Ins × Nat} (h : runT t x = some y) : y.1.length ≤ 2000 := by
  unfold runT at h
  split at h
  · cases h; simp [PT.code_len]; assumption
  · cases h
theorem copies_rnd (a b k : Nat) (h : a ≤ b) : k * a ≤ k * b := Nat.mul_le_mul_left k h
theorem PT.rnd_le (t : PT) : t.rnd ≤ t.len := by
  induction t with
  | empty => simp [PT.rnd]
  | leaf i => simp [PT.rnd]
  | seq a b iha ihb => simp only [PT.rnd, PT.len]; omega
  | alt a b iha ihb => simp only [PT.rnd, PT.len]; omega
  | many mn mx lz k ih =>
    have h1 := copies_rnd _ _ mn ih
    cases mx with
    | none => simp only [PT.rnd, PT.len]; omega
    | some m =>
      have h2 := copies_rnd (k.rnd + 1) (k.len + 3) (m - mn) (by omega)
      simp only [PT.rnd, PT.len]; omega
  | group n k ih => simp only [PT.rnd, PT.len]; omega
/-- Not too long; no more rounds than instructions. -/
def Okx (x : List Ins × Nat) : Prop := x.1.length ≤ 2000 ∧ x.2 ≤ x.1.length
theorem runT_ok {t : PT} {x y : List Ins × Nat} (h : runT t x = some y) (hx : Okx x) : Okx y := by
  refine ⟨runT_ge h, ?_⟩
  unfold runT at h
  have := t.rnd_le
  have := hx.2
  split at h
  · cases h; simp only [List.length_append, PT.code_len]; omega
  · cases h
/-- One behind the other. -/
def seqOf : List PT → PT
  | [] => .empty
  | t :: ts => .seq t (seqOf ts)
theorem runT_seqOf_append (us bs : List PT) (x : List Ins × Nat) (hx : x.1.length ≤ 2000) : runT (seqOf (us ++ bs)) x = (runT (seqOf us) x).bind (runT (seqOf bs)) := by
  induction us generalizing x with
  | nil => simp [seqOf, runT_empty x hx]
  | cons a us ih =>
    simp only [List.cons_append, seqOf, runT_seq]
    cases h : runT a x with
    | none => rfl
    | some y => simp only [Option.bind_some]; exact ih y (runT_ge h)
/-- The instruction of a node that has no kids. -/
def leafI (d : Nq) : Ins :=
  if d.op = 2 then { op := 1, c := d.c } else if d.op = 4 then { op := 3, set := d.set } else if d.op = 10 then { op := 8 } else if d.op = 11 then { op := 9 } else if d.op = 12 then { op := 10 }
  else if d.op = 13 then { op := 11 } else if d.op = 14 then { op := 6, x := 20 } else if d.op = 15 then { op := 6, x := 21 } else if d.op = 9 then { op := 7, x := d.n } else { op := 2 }
def mapT (f : Int → Option PT) : List Int → Option (List PT)
  | [] => some []
  | a :: r => (f a).bind fun t => (mapT f r).map fun ts => t :: ts
def altOf : List PT → PT
  | [] => .empty
  | [t] => t
  | t :: u :: ts => .alt t (altOf (u :: ts))
/-- The tree at a node. -/
def toT (L : List Nq) : Nat → Int → Option PT
  | 0, _ => none
  | n + 1, a =>
    if hasB L a then
      let d := nodeAt L a
      if d.op = 5 then if 1 ≤ d.kids.length then (mapT (toT L n) d.kids).map seqOf else none
      else if d.op = 1 then some .empty
      else if d.op = 6 then if 1 ≤ d.kids.length then (mapT (toT L n) d.kids).map altOf else none
      else if d.op = 7 then if d.kids.length = 1 ∧ 0 ≤ d.mn ∧ d.mn ≤ 60 ∧ d.mx ≤ 60 ∧ (d.mx < 0 ∨ d.mn ≤ d.mx) then (toT L n (d.kids.headD 0)).map (.many d.mn.toNat (if d.mx < 0 then none else some d.mx.toNat) d.lz) else none
      else if d.op = 8 then if d.kids.length = 1 ∧ 0 ≤ d.n ∧ d.n ≤ 9 then (toT L n (d.kids.headD 0)).map (.group d.n) else none
      else some (.leaf (leafI d))
    else none
end Go.Proofs.YtlgemficalcghaaGreat
/- A writer in memory: its struct, its list of instructions; the call lay. -/
namespace Go.Proofs.YtlgemficalcghaaGreat
open Go.ChangeShapes Go.WideShapes Go.ChangeAt Go.RowKit
set_option linter.unusedVariables false
set_option linter.unusedSimpArgs false
def Ins.cells (d : Ins) : List Value :=
  [.int .u8 d.op, .int .u8 d.c, .int .u64 d.set.a, .int .u64 d.set.b, .int .u64 d.set.c, .int .u64 d.set.d, .int .i64 d.x, .int .i64 d.y]
def Ins.val (d : Ins) : Value :=
  .agg #[.int .u8 d.op, .int .u8 d.c, .int .u64 d.set.a, .int .u64 d.set.b, .int .u64 d.set.c, .int .u64 d.set.d, .int .i64 d.x, .int .i64 d.y]
def flatI (ns : List Ins) : List Value := ns.flatMap fun x => x.cells
theorem flatI_snoc (ns : List Ins) (d : Ins) : flatI (ns ++ [d]) = flatI ns ++ d.cells := by simp [flatI]
theorem flatI_len (ns : List Ins) : (flatI ns).length = ns.length * 8 := by
  induction ns with
  | nil => rfl
  | cons m ms ih =>
    unfold flatI at *
    rw [List.flatMap_cons, List.length_append, ih, List.length_cons]
    have : m.cells.length = 8 := rfl
    omega
theorem flatI_get {ns : List Ins} {i : Nat} {d : Ins} (h : ns[i]? = some d) (j : Nat) (hj : j < 8) : (flatI ns)[i * 8 + j]? = d.cells[j]? := by
  induction ns generalizing i with
  | nil => simp at h
  | cons m ms ih =>
    have hl : m.cells.length = 8 := rfl
    unfold flatI
    rw [List.flatMap_cons]
    cases i with
    | zero =>
      simp only [List.getElem?_cons_zero, Option.some.injEq] at h; subst h
      rw [List.getElem?_append_left (by rw [hl]; omega)]
      simp
    | succ i =>
      simp only [List.getElem?_cons_succ] at h
      rw [List.getElem?_append_right (by rw [hl]; omega)]
      have : (i + 1) * 8 + j - m.cells.length = i * 8 + j := by rw [hl]; omega
      rw [this]; exact ih h
theorem flatI_set {ns : List Ins} {i : Nat} {d e : Ins} (h : ns[i]? = some d) (j : Nat) (hj : j < 8) (u : Value) (he : e.cells = d.cells.set j u) : flatI (ns.set i e) = (flatI ns).set (i * 8 + j) u := by
  induction ns generalizing i with
  | nil => simp at h
  | cons m ms ih =>
    have hl : m.cells.length = 8 := rfl
    unfold flatI
    cases i with
    | zero =>
      simp only [List.getElem?_cons_zero, Option.some.injEq] at h; subst h
      simp only [List.set_cons_zero, List.flatMap_cons]
      rw [he, List.set_append, if_pos (by rw [hl]; omega), Nat.zero_mul, Nat.zero_add]
    | succ i =>
      simp only [List.getElem?_cons_succ] at h
      simp only [List.set_cons_succ, List.flatMap_cons]
      rw [List.set_append, if_neg (by rw [hl]; omega)]
      have : (i + 1) * 8 + j - m.cells.length = i * 8 + j := by rw [hl]; omega
      rw [this]
      congr 1
      exact ih h
/-- The writer: its nodes 'L' are read as they lay in w0; what it has laid, its rounds. -/
structure Wr (w0 : World) (wb : Nat) (v : Value) (L : List Nq) (x : List Ins × Nat) (cv : Value) (w : World) : Prop where
  kp : Kp w0 w
  pt : Pt w0 v L
  ge : w0.heap.size ≤ wb
  st : w.heap[wb]? = some (.cells #[v, cv, .int .i64 x.2] 55 (0, 0))
  row : w.ownsRow w0.heap.size 39 8 cv x.1.length (flatI x.1)
  apart : cv.ownBlock ≠ some wb
/-- The writer's struct, and its list. -/
def Wb (wb : Nat) (cv : Value) (k : Nat) : Prop := k = wb ∨ cv.ownBlock = some k
structure Adw (wb : Nat) (cv : Value) (w : World) (cv' : Value) (w' : World) : Prop where
  fr : Fr (Wb wb cv) w w'
  own : cv'.ownBlock = cv.ownBlock ∨ ∀ j, cv'.ownBlock = some j → w.heap.size ≤ j
def TooLong : Ending := .panicked [{ v := .iface 77 (.agg #[]), recovered := false }]
/-- What a call that lays code comes to. -/
def Laid (w0 : World) (wb : Nat) (v : Value) (L : List Nq) (cv : Value) (w : World) (X : Option (List Ins × Nat)) (e : Ending) (w' : World) : Prop :=
  match X with
  | some x => e = .returned (.tuple #[]) ∧ ∃ cv', Wr w0 wb v L x cv' w' ∧ Adw wb cv w cv' w'
  | none => e = TooLong ∧ Fr (Wb wb cv) w w'
section
variable {w0 : World} {wb : Nat} {v cv cv1 cv2 : Value} {L : List Nq} {x : List Ins × Nat} {w w1 w2 : World}
theorem Adw.refl (wb : Nat) (cv : Value) (w : World) : Adw wb cv w cv w := ⟨Fr.refl _ w, .inl rfl⟩
theorem Adw.trans (h : Adw wb cv w cv1 w1) (h' : Adw wb cv1 w1 cv2 w2) : Adw wb cv w cv2 w2 := by
  refine ⟨h.fr.trans' h'.fr fun k hk hq => ?_, ?_⟩
  · rcases hq with hq | hq
    · exact .inl hq
    · rcases h.own with e | e
      · exact .inr (by rw [← e]; exact hq)
      · exact absurd (e k hq) (by omega)
  · rcases h'.own with e | e
    · rw [e]; exact h.own
    · exact .inr fun j hj => Nat.le_trans h.fr.size (e j hj)
theorem Adw.kp (cv : Value) (wb : Nat) (k : Kp w w1) : Adw wb cv w cv w1 := ⟨Fr.of_below k, .inl rfl⟩
/-- A way that fails behind one that did not. -/
theorem Adw.fail (h : Adw wb cv w cv1 w1) (h' : Fr (Wb wb cv1) w1 w2) : Fr (Wb wb cv) w w2 :=
  h.fr.trans' h' fun k hk hq => by
    rcases hq with hq | hq
    · exact .inl hq
    · rcases h.own with e | e
      · exact .inr (by rw [← e]; exact hq)
      · exact absurd (e k hq) (by omega)
theorem Laid.ahead (a : Adw wb cv w cv1 w1) {X : Option (List Ins × Nat)} {e : Ending} (h : Laid w0 wb v L cv1 w1 X e w2) : Laid w0 wb v L cv w X e w2 := by
  cases X with
  | none => exact ⟨h.1, a.fail h.2⟩
  | some x => obtain ⟨h1, cv', h2, h3⟩ := h; exact ⟨h1, cv', h2, a.trans h3⟩
theorem Wr.lt (h : Wr w0 wb v L x cv w) : wb < w.heap.size := (Array.getElem?_eq_some_iff.1 h.st).1
theorem Wr.below (h : Wr w0 wb v L x cv w) : ∀ k, k < w0.heap.size → ¬ Wb wb cv k := fun k hk q => by
  rcases q with q | q
  · have := h.ge; omega
  · have := (h.row.lt k q).1; omega
theorem Wr.kpf (h : Wr w0 wb v L x cv w) (f : Fr (Wb wb cv) w w1) : Kp w0 w1 := h.kp.trans (f.below h.kp.size h.below)
theorem Wr.c (h : Wr w0 wb v L x cv w) : (w.cell? ⟨wb, 0, none⟩ = some v ∧ w.cell? ⟨wb, 1, none⟩ = some cv ∧ w.cell? ⟨wb, 2, none⟩ = some (.int .i64 x.2)) ∧ ∀ j, w.frozen? ⟨wb, j, none⟩ = false := by
  have := h.st
  exact ⟨⟨by simp [World.cell?, this], by simp [World.cell?, this], by simp [World.cell?, this]⟩, fun j => by simp [World.frozen?, this]⟩
theorem row_fr {B : Nat} {e : TypeId} {size n : Nat} {xs : List Value} {S : Nat → Prop} (hr : w.ownsRow B e size v n xs) (h : Fr S w w1) (hn : ∀ j, v.ownBlock = some j → ¬ S j) : w1.ownsRow B e size v n xs := by
  refine ⟨hr.1, ?_⟩
  rcases hr.2 with q | ⟨b, cap, cur, rfl, hb, hg, rest⟩
  · exact .inl q
  · exact .inr ⟨b, cap, cur, rfl, hb, by rw [h.block b (hr.lt b rfl).2 (hn b rfl)]; exact hg, rest⟩
theorem Wr.off (h : Wr w0 wb v L x cv w) {S : Nat → Prop} (f : Fr S w w1) (hS : ∀ j, S j → w0.heap.size ≤ j ∧ j ≠ wb ∧ cv.ownBlock ≠ some j) : Wr w0 wb v L x cv w1 :=
  ⟨h.kp.trans (f.below h.kp.size fun k hk q => by have := (hS k q).1; omega), h.pt, h.ge, by rw [f.block wb h.lt fun q => (hS _ q).2.1 rfl]; exact h.st,
   row_fr h.row f fun j hj q => (hS j q).2.2 hj, h.apart⟩
theorem Wr.kpp (h : Wr w0 wb v L x cv w) (k : Kp w w1) : Wr w0 wb v L x cv w1 :=
  ⟨kp_trans h.kp k, h.pt, h.ge, by rw [k.block wb h.lt]; exact h.st, row_kp h.row k, h.apart⟩
theorem Wr.nodes (h : Wr w0 wb v L x cv w) : Pt w v L := h.pt.kp h.kp
theorem infoInst : (Tryz.prog.info? 39).map (fun i => (i.zero, i.size, i.bytes)) = some (some (.agg #[.int .u8 0, .int .u8 0, .int .u64 0, .int .u64 0, .int .u64 0, .int .u64 0, .int .i64 0, .int .i64 0]), 8, 56) := by kernel_rfl
def instObj (d : Ins) : Obj := .cells #[.int .u8 d.op, .int .u8 d.c, .int .u64 d.set.a, .int .u64 d.set.b, .int .u64 d.set.c, .int .u64 d.set.d, .int .i64 d.x, .int .i64 d.y] 39
/-- An instruction more: what is to be shown behind the append. -/
theorem Wr.grow (h : Wr w0 wb v L x cv w) {d : Ins} {w1 w2 : World} (k : Kp w w1) {g cap : Nat}
    (hown : w2.ownsRow w0.heap.size 39 8 (.slice (some ⟨g, 0, none⟩) (x.1.length + 1) cap) (x.1.length + 1) (flatI x.1 ++ d.cells)) (hg : w1.grownBy w2 cv.ownBlock) (hat : cv.ownBlock = some g ∨ g = w1.heap.size) (hlt : g < w2.heap.size) :
    (w2.cell? ⟨wb, 1, none⟩ = some cv ∧ w2.frozen? ⟨wb, 1, none⟩ = false) ∧ Wr w0 wb v L (x.1 ++ [d], x.2) (.slice (some ⟨g, 0, none⟩) (x.1.length + 1) cap) (w2.setCell ⟨wb, 1, none⟩ (.slice (some ⟨g, 0, none⟩) (x.1.length + 1) cap)) ∧
      Adw wb cv w (.slice (some ⟨g, 0, none⟩) (x.1.length + 1) cap) (w2.setCell ⟨wb, 1, none⟩ (.slice (some ⟨g, 0, none⟩) (x.1.length + 1) cap)) := by
  have hrb : wb < w1.heap.size := Nat.lt_of_lt_of_le h.lt k.size
  have hgr : g ≠ wb := by
    rcases hat with e | e
    · exact fun q => h.apart (by rw [e, q])
    · omega
  have e0 : w2.heap[wb]? = w.heap[wb]? := by
    rw [hg.block wb hrb (fun e => h.apart e.symm)]; exact k.block wb h.lt
  have hst : w2.heap[wb]? = some (.cells #[v, cv, .int .i64 x.2] 55 (0, 0)) := by rw [e0]; exact h.st
  have ha : Adw wb cv w (.slice (some ⟨g, 0, none⟩) (x.1.length + 1) cap) (w2.setCell ⟨wb, 1, none⟩ (.slice (some ⟨g, 0, none⟩) (x.1.length + 1) cap)) := by
    refine ⟨?_, ?_⟩
    · have f1 : Fr (Wb wb cv) w w2 := ⟨hg.os.trans k.os, hg.tape.trans k.tape, hg.output.trans k.output, Nat.le_trans k.size hg.size, fun j hj hn => by
        rw [hg.block j (Nat.lt_of_lt_of_le hj k.size) (fun e => hn (.inr e.symm))]; exact k.block j hj⟩
      exact f1.trans (Fr.setCell (S := Wb wb cv) (.inl rfl) w2)
    · rcases hat with e | e
      · exact .inl (by rw [e]; rfl)
      · exact .inr fun j hj => by
          simp only [Value.ownBlock, Option.some.injEq] at hj
          rw [← hj, e]; exact k.size
  refine ⟨⟨by simp [World.cell?, hst], by simp [World.frozen?, hst]⟩, ⟨h.kpf ha.fr, h.pt, h.ge, ?_, ?_, ?_⟩, ha⟩
  · rw [heap_setCell hst]
    simp
  · have hr := hown
    rw [show (x.1 ++ [d]).length = x.1.length + 1 by simp, flatI_snoc]
    refine ⟨hr.1, ?_⟩
    rcases hr.2 with ⟨q, _⟩ | ⟨b, c, cur, e, hb, hq, rest⟩
    · cases q
    · refine .inr ⟨b, c, cur, e, hb, ?_, rest⟩
      injection e with e _ _
      injection e with e
      injection e with e _ _
      rw [heap_setCell_other (by rw [← e]; exact hgr)]; exact hq
  · simp only [Value.ownBlock, ne_eq, Option.some.injEq]; exact hgr
set_option maxHeartbeats 1000000 in
set_option maxRecDepth 100000 in
theorem lay_ok (h : Wr w0 wb v L x cv w) (d : Ins) (hl : x.1.length < 2000) :
    Calls Tryz.prog 32 #[.pointer (some ⟨wb, 0, none⟩), d.val] w fun e w' => e = .returned (.int .i64 x.1.length) ∧ ∃ cv', Wr w0 wb v L (x.1 ++ [d], x.2) cv' w' ∧ Adw wb cv w cv' w' := by
  obtain ⟨va, vc, rfl, v1, v2⟩ := owns_form h.row
  obtain ⟨N, hN⟩ : ∃ N, x.1.length = N := ⟨_, rfl⟩
  rw [hN] at hl ⊢
  obtain ⟨i9, hi9, z0, z1, z2⟩ := info_parts infoInst
  obtain ⟨⟨_, c1, _⟩, fz⟩ := h.c
  have f1 := fz 1
  rw [hN] at c1 v1
  have HB : Hid (w0.heap.size ≤ w.heap.size) := h.kp.size
  have HO : Hid (w.ownsRow w0.heap.size 39 8 (.slice va N vc) N (flatI x.1)) := by have := h.row; rw [hN] at this; exact this
  have HG : Hid (∀ w1, Kp w w1 → ∀ g cap w2, w2.ownsRow w0.heap.size 39 8 (.slice (some ⟨g, 0, none⟩) (N + 1) cap) (N + 1) (flatI x.1 ++ d.cells) → w1.grownBy w2 (Value.slice va N vc).ownBlock → ((Value.slice va N vc).ownBlock = some g ∨ g = w1.heap.size) → g < w2.heap.size →
      (w2.cell? ⟨wb, 1, none⟩ = some (.slice va N vc) ∧ w2.frozen? ⟨wb, 1, none⟩ = false) ∧ Hid (Wr w0 wb v L (x.1 ++ [d], x.2) (.slice (some ⟨g, 0, none⟩) (N + 1) cap) (w2.setCell ⟨wb, 1, none⟩ (.slice (some ⟨g, 0, none⟩) (N + 1) cap)) ∧
      Adw wb (.slice va N vc) w (.slice (some ⟨g, 0, none⟩) (N + 1) cap) (w2.setCell ⟨wb, 1, none⟩ (.slice (some ⟨g, 0, none⟩) (N + 1) cap)))) := by
    intro w1 k g cap w2 q1 q2 q3 q4
    have h' := h
    rw [hN] at h'
    have := h'.grow (d := d) k (g := g) (cap := cap) (w2 := w2)
    rw [hN] at this
    exact this q1 q2 q3 q4
  unfold maxLen at v2
  unfold Ins.val
  have HK : Hid (Kp w (((w.alloc (instObj d)).alloc (instObj d)).drew)) := kp_trans (kp_trans (kp_alloc w _) (kp_alloc _ _)) (kp_drew _)
  have HSZ : Hid ((((w.alloc (instObj d)).alloc (instObj d)).drew).heap.size = w.heap.size + 2) := by show (((w.alloc (instObj d)).alloc (instObj d)).drew).heap.size = w.heap.size + 2; rw [drew_heap, alloc_size, alloc_size]
  have HOW : Hid ((((w.alloc (instObj d)).alloc (instObj d)).drew).ownsRow w0.heap.size 39 8 (.slice va N vc) N (flatI x.1)) := row_kp HO.out HK.out
  have HNEW : Hid (∀ j u, (d.cells)[j]? = some u → (((w.alloc (instObj d)).alloc (instObj d)).drew).cell? ((⟨w.heap.size + 1, 0, none⟩ : Addr).add j) = some u) := by
    intro j u hj
    have e : w.heap.size + 1 = (w.alloc (instObj d)).heap.size := by rw [alloc_size]
    rw [Addr.add_lit, e]
    have := alloc_new (w.alloc (instObj d)) (instObj d)
    rw [← drew_heap] at this
    unfold instObj at this ⊢
    rw [cell_at this, Nat.zero_add]
    rw [← hj]; exact List.getElem?_toArray
  have HONE : Hid (∀ u ∈ d.cells, u.oneCell' = true) := by
    intro u hu
    simp only [Ins.cells, List.mem_cons, List.not_mem_nil, or_false] at hu
    rcases hu with rfl | rfl | rfl | rfl | rfl | rfl | rfl | rfl <;> rfl
  have HBW : Hid (w0.heap.size ≤ (((w.alloc (instObj d)).alloc (instObj d)).drew).heap.size) := by have := HSZ.out; have := HB.out; show w0.heap.size ≤ _; omega
  have hrb : wb < w.heap.size := h.lt
  have d0 : ((N : Int) == 2000) = false := by simp; omega
  clear h hN
  go_enter Tryz.func32, Tryz.ntmps32
  go_upto_region 3 with fail
  go_region_law ((refine step_append_lies _ (by rfl) (.tmp 17) (.tmp 19) 30 rfl w0.heap.size 39 i9 _ 8 56 Tryz.underlying30 hi9 z0 z1 z2 rfl (by decide) (.slice va N vc) N (flatI x.1) (by rfl) HOW.out ⟨w.heap.size + 1, 0, none⟩ 1 1 (d.cells) (by rfl) rfl HNEW.out HONE.out (by omega) (by unfold maxLen; omega) (by omega) HBW.out (w.heap.size + 2) HSZ.out ?_; intro g cp w2 hown hgrow hat hlt; obtain ⟨⟨q0, qf⟩, HF⟩ := HG.out _ HK.out g cp w2 hown hgrow (by rw [HSZ.out]; exact hat) hlt; clear hown hgrow hat))
  all_goals
    obtain ⟨w3, hw3⟩ : ∃ w3, w2.setCell ⟨wb, 1, none⟩ (.slice (some ⟨g, 0, none⟩) (N + 1) cp) = w3 := ⟨_, rfl⟩
    rw [hw3] at HF ⊢
    obtain ⟨⟨_, d4, _⟩, _⟩ := HF.out.1.c
    clear hw3
    go_wp2_with fail
    go_ret
    exact ⟨by simp, _, HF.out.1, HF.out.2⟩
set_option maxHeartbeats 1000000 in
theorem lay_no (h : Wr w0 wb v L x cv w) (d : Ins) (hl : x.1.length = 2000) :
    Calls Tryz.prog 32 #[.pointer (some ⟨wb, 0, none⟩), d.val] w fun e w' => e = TooLong ∧ Fr (Wb wb cv) w w' := by
  obtain ⟨va, vc, rfl, v1, v2⟩ := owns_form h.row
  obtain ⟨⟨_, c1, _⟩, fz⟩ := h.c
  rw [hl] at c1
  have hrb : wb < w.heap.size := h.lt
  have HK : Hid (Fr (Wb wb (.slice va x.1.length vc)) w (w.alloc (instObj d))) := Fr.of_below (kp_alloc w _)
  unfold Ins.val TooLong
  clear h hl v1 v2
  go_enter Tryz.func32, Tryz.ntmps32
  go_wp2_with fail
  exact ⟨rfl, rfl, HK.out⟩
end
end Go.Proofs.YtlgemficalcghaaGreat
/- The writer's here, split and jump: what they answer is called later. -/
namespace Go.Proofs.YtlgemficalcghaaGreat
open Go.ChangeShapes Go.WideShapes Go.ChangeAt Go.RowKit
set_option linter.unusedVariables false
set_option linter.unusedSimpArgs false
/-- A box of one cell. -/
def Bx (b : Nat) (u : Value) (t : TypeId) (w : World) : Prop := w.heap[b]? = some (.cells #[u] t (0, 0))
/-- A block that is none of the writer's. -/
def Offw (w0 : World) (wb : Nat) (cv : Value) (j : Nat) : Prop := w0.heap.size ≤ j ∧ j ≠ wb ∧ cv.ownBlock ≠ some j
def sclo (b : Nat × Nat × Nat) : Value := .func (.func 73) #[] #[.pointer (some ⟨b.1, 0, none⟩), .pointer (some ⟨b.2.1, 0, none⟩), .pointer (some ⟨b.2.2, 0, none⟩)]
def jclo (b : Nat × Nat) : Value := .func (.func 75) #[] #[.pointer (some ⟨b.1, 0, none⟩), .pointer (some ⟨b.2, 0, none⟩)]
/-- What a split's answer has captured: the place, the writer, whether it is lazy. -/
structure SClo (w0 : World) (wb : Nat) (cv : Value) (lz : Bool) (p : Nat) (b : Nat × Nat × Nat) (w : World) : Prop where
  at_ : Bx b.1 (.int .i64 p) 3 w
  wr : Bx b.2.1 (.pointer (some ⟨wb, 0, none⟩)) 75 w
  lz : Bx b.2.2 (.bool lz) 4 w
  off : Offw w0 wb cv b.1 ∧ Offw w0 wb cv b.2.1 ∧ Offw w0 wb cv b.2.2
structure JClo (w0 : World) (wb : Nat) (cv : Value) (p : Nat) (b : Nat × Nat) (w : World) : Prop where
  wr : Bx b.1 (.pointer (some ⟨wb, 0, none⟩)) 75 w
  at_ : Bx b.2 (.int .i64 p) 3 w
  off : Offw w0 wb cv b.1 ∧ Offw w0 wb cv b.2
section
variable {w0 : World} {wb : Nat} {v cv cv1 cv2 u : Value} {L : List Nq} {x : List Ins × Nat} {w w1 w2 : World} {b p : Nat} {t : TypeId} {S : Nat → Prop}
theorem Bx.lt (h : Bx b u t w) : b < w.heap.size := (Array.getElem?_eq_some_iff.1 h).1
theorem Bx.cell (h : Bx b u t w) : w.cell? ⟨b, 0, none⟩ = some u ∧ w.frozen? ⟨b, 0, none⟩ = false := by
  unfold Bx at h
  exact ⟨by simp [World.cell?, h], by simp [World.frozen?, h]⟩
theorem Bx.fr (h : Bx b u t w) (f : Fr S w w1) (hn : ¬ S b) : Bx b u t w1 := by unfold Bx at *; rw [f.block b (Array.getElem?_eq_some_iff.1 h).1 hn]; exact h
theorem Bx.kp (h : Bx b u t w) (k : Kp w w1) : Bx b u t w1 := by unfold Bx at *; rw [k.block b (Array.getElem?_eq_some_iff.1 h).1]; exact h
theorem Bx.set (h : Bx b u t w) (u' : Value) : Bx b u' t (w.setCell ⟨b, 0, none⟩ u') := by unfold Bx at *; rw [heap_setCell h]; simp
theorem Offw.adv {j : Nat} (h : Offw w0 wb cv j) (a : Adw wb cv w cv1 w1) (hj : j < w.heap.size) : Offw w0 wb cv1 j :=
  ⟨h.1, h.2.1, fun e => by
    rcases a.own with q | q
    · rw [q] at e; exact h.2.2 e
    · have := q j e; omega⟩
theorem Offw.not {j : Nat} (h : Offw w0 wb cv j) : ¬ Wb wb cv j := fun q => by
  rcases q with q | q
  · exact h.2.1 q
  · exact h.2.2 q
theorem Wr.new (h : Wr w0 wb v L x cv w) {j : Nat} (hj : w.heap.size ≤ j) : Offw w0 wb cv j :=
  ⟨Nat.le_trans h.kp.size hj, by have := h.lt; omega, fun e => by have := (h.row.lt j e).2; omega⟩
theorem SClo.adv {lz : Bool} {b : Nat × Nat × Nat} (h : SClo w0 wb cv lz p b w) (a : Adw wb cv w cv1 w1) : SClo w0 wb cv1 lz p b w1 :=
  ⟨h.at_.fr a.fr h.off.1.not, h.wr.fr a.fr h.off.2.1.not, h.lz.fr a.fr h.off.2.2.not, h.off.1.adv a h.at_.lt, h.off.2.1.adv a h.wr.lt, h.off.2.2.adv a h.lz.lt⟩
theorem JClo.adv {b : Nat × Nat} (h : JClo w0 wb cv p b w) (a : Adw wb cv w cv1 w1) : JClo w0 wb cv1 p b w1 :=
  ⟨h.wr.fr a.fr h.off.1.not, h.at_.fr a.fr h.off.2.not, h.off.1.adv a h.wr.lt, h.off.2.adv a h.at_.lt⟩
theorem here_any (h : Wr w0 wb v L x cv w) : Calls Tryz.prog 74 #[.pointer (some ⟨wb, 0, none⟩)] w fun e w' => e = .returned (.int .i64 x.1.length) ∧ w' = w := by
  obtain ⟨va, vc, rfl, v1, v2⟩ := owns_form h.row
  obtain ⟨⟨_, c1, _⟩, fz⟩ := h.c
  clear h
  go_enter Tryz.func74, Tryz.ntmps74
  go_wp2
  go_ret
  exact ⟨rfl, rfl⟩
theorem split_ok (h : Wr w0 wb v L x cv w) (lz : Bool) (hl : x.1.length < 2000) : Calls Tryz.prog 61 #[.pointer (some ⟨wb, 0, none⟩), .bool lz] w fun e w' =>
    ∃ b cv', e = .returned (sclo b) ∧ Wr w0 wb v L (x.1 ++ [{ op := 4 }], x.2) cv' w' ∧ Adw wb cv w cv' w' ∧ SClo w0 wb cv' lz x.1.length b w' := by
  have hmf : ∀ (fn : Fn) (first cap : Array Value) (w : World), (Instr.makeFunc fn first cap).run Tryz.prog w = .ok (.func fn first cap) w := fun _ _ _ _ => rfl
  have HA : Hid (∀ w1, Kp w w1 → Calls Tryz.prog 32 #[.pointer (some ⟨wb, 0, none⟩), .agg #[.int .u8 4, .int .u8 0, .int .u64 0, .int .u64 0, .int .u64 0, .int .u64 0, .int .i64 0, .int .i64 0]] w1 fun e w' => e = .returned (.int .i64 x.1.length) ∧ ∃ cv', Wr w0 wb v L (x.1 ++ [{ op := 4 }], x.2) cv' w' ∧ Adw wb cv w1 cv' w') := fun w1 k => lay_ok (h.kpp k) { op := 4 } hl
  have HW : Hid (Wr w0 wb v L x cv w) := h
  clear h
  go_enter Tryz.func61, Tryz.ntmps61
  go_wp2_with fail
  refine (HA.out _ ?_).mono ?_
  · exact kp_trans (kp_alloc _ _) (kp_alloc _ _)
  rintro e w1 ⟨rfl, cv1, q1, q2⟩
  have HQ : Hid (Wr w0 wb v L (x.1 ++ [{ op := 4 }], x.2) cv1 w1 ∧ Adw wb cv _ cv1 w1) := ⟨q1, q2⟩
  clear q1 q2
  go_wp2_with fail
  go_ret
  obtain ⟨q1, q2⟩ := HQ.out
  have k1 : Kp w1 (w1.alloc (.cells #[.int .i64 x.1.length] 3)) := kp_alloc _ _
  have a0 : Adw wb cv w cv ((w.alloc (.cells #[.pointer (some ⟨wb, 0, none⟩)] 75)).alloc (.cells #[.bool lz] 4)) := Adw.kp cv wb (kp_trans (kp_alloc _ _) (kp_alloc _ _))
  have b1 : Bx w.heap.size (.pointer (some ⟨wb, 0, none⟩)) 75 ((w.alloc (.cells #[.pointer (some ⟨wb, 0, none⟩)] 75)).alloc (.cells #[.bool lz] 4)) := by
    unfold Bx
    rw [alloc_old _ _ _ (by rw [alloc_size]; omega)]
    exact alloc_new w _
  have b2 : Bx (w.heap.size + 1) (.bool lz) 4 ((w.alloc (.cells #[.pointer (some ⟨wb, 0, none⟩)] 75)).alloc (.cells #[.bool lz] 4)) := by
    have := alloc_new (w.alloc (.cells #[.pointer (some ⟨wb, 0, none⟩)] 75)) (.cells #[.bool lz] 4)
    rw [alloc_size] at this
    exact this
  have o1 : Offw w0 wb cv w.heap.size := HW.out.new (Nat.le_refl _)
  have o2 : Offw w0 wb cv (w.heap.size + 1) := HW.out.new (by omega)
  refine ⟨(w1.heap.size, w.heap.size, w.heap.size + 1), cv1, rfl, q1.kpp k1, (a0.trans q2).trans (Adw.kp cv1 wb k1), ?_⟩
  exact ⟨alloc_new w1 _, (b1.fr q2.fr o1.not).kp k1, (b2.fr q2.fr o2.not).kp k1, q1.new (Nat.le_refl _), o1.adv q2 b1.lt, o2.adv q2 b2.lt⟩
theorem split_no (h : Wr w0 wb v L x cv w) (lz : Bool) (hl : x.1.length = 2000) : Calls Tryz.prog 61 #[.pointer (some ⟨wb, 0, none⟩), .bool lz] w fun e w' => e = TooLong ∧ Fr (Wb wb cv) w w' := by
  have HA : Hid (∀ w1, Kp w w1 → Calls Tryz.prog 32 #[.pointer (some ⟨wb, 0, none⟩), .agg #[.int .u8 4, .int .u8 0, .int .u64 0, .int .u64 0, .int .u64 0, .int .u64 0, .int .i64 0, .int .i64 0]] w1 fun e w' => e = TooLong ∧ Fr (Wb wb cv) w w') := fun w1 k => (lay_no (h.kpp k) { op := 4 } hl).mono fun e w' q => ⟨q.1, (Fr.of_below k).trans q.2⟩
  clear h hl
  unfold TooLong at *
  go_enter Tryz.func61, Tryz.ntmps61
  go_wp2_with fail
  refine (HA.out _ ?_).mono ?_
  · exact kp_trans (kp_alloc _ _) (kp_alloc _ _)
  rintro e w1 ⟨rfl, q2⟩
  have HQ : Hid (Fr (Wb wb cv) w w1) := q2
  clear q2
  go_wp2_with fail
  exact ⟨rfl, rfl, HQ.out⟩
theorem jump_ok (h : Wr w0 wb v L x cv w) (hl : x.1.length < 2000) : Calls Tryz.prog 62 #[.pointer (some ⟨wb, 0, none⟩)] w fun e w' =>
    ∃ b cv', e = .returned (jclo b) ∧ Wr w0 wb v L (x.1 ++ [{ op := 5 }], x.2) cv' w' ∧ Adw wb cv w cv' w' ∧ JClo w0 wb cv' x.1.length b w' := by
  have hmf : ∀ (fn : Fn) (first cap : Array Value) (w : World), (Instr.makeFunc fn first cap).run Tryz.prog w = .ok (.func fn first cap) w := fun _ _ _ _ => rfl
  have HA : Hid (∀ w1, Kp w w1 → Calls Tryz.prog 32 #[.pointer (some ⟨wb, 0, none⟩), .agg #[.int .u8 5, .int .u8 0, .int .u64 0, .int .u64 0, .int .u64 0, .int .u64 0, .int .i64 0, .int .i64 0]] w1 fun e w' => e = .returned (.int .i64 x.1.length) ∧ ∃ cv', Wr w0 wb v L (x.1 ++ [{ op := 5 }], x.2) cv' w' ∧ Adw wb cv w1 cv' w') := fun w1 k => lay_ok (h.kpp k) { op := 5 } hl
  have HW : Hid (Wr w0 wb v L x cv w) := h
  clear h
  go_enter Tryz.func62, Tryz.ntmps62
  go_wp2_with fail
  refine (HA.out _ ?_).mono ?_
  · exact kp_alloc _ _
  rintro e w1 ⟨rfl, cv1, q1, q2⟩
  have HQ : Hid (Wr w0 wb v L (x.1 ++ [{ op := 5 }], x.2) cv1 w1 ∧ Adw wb cv _ cv1 w1) := ⟨q1, q2⟩
  clear q1 q2
  go_wp2_with fail
  go_ret
  obtain ⟨q1, q2⟩ := HQ.out
  have k1 : Kp w1 (w1.alloc (.cells #[.int .i64 x.1.length] 3)) := kp_alloc _ _
  have a0 : Adw wb cv w cv (w.alloc (.cells #[.pointer (some ⟨wb, 0, none⟩)] 75)) := Adw.kp cv wb (kp_alloc _ _)
  have b1 : Bx w.heap.size (.pointer (some ⟨wb, 0, none⟩)) 75 (w.alloc (.cells #[.pointer (some ⟨wb, 0, none⟩)] 75)) := alloc_new w _
  have o1 : Offw w0 wb cv w.heap.size := HW.out.new (Nat.le_refl _)
  refine ⟨(w.heap.size, w1.heap.size), cv1, rfl, q1.kpp k1, (a0.trans q2).trans (Adw.kp cv1 wb k1), ?_⟩
  exact ⟨(b1.fr q2.fr o1.not).kp k1, alloc_new w1 _, o1.adv q2 b1.lt, q1.new (Nat.le_refl _)⟩
theorem jump_no (h : Wr w0 wb v L x cv w) (hl : x.1.length = 2000) : Calls Tryz.prog 62 #[.pointer (some ⟨wb, 0, none⟩)] w fun e w' => e = TooLong ∧ Fr (Wb wb cv) w w' := by
  have HA : Hid (∀ w1, Kp w w1 → Calls Tryz.prog 32 #[.pointer (some ⟨wb, 0, none⟩), .agg #[.int .u8 5, .int .u8 0, .int .u64 0, .int .u64 0, .int .u64 0, .int .u64 0, .int .i64 0, .int .i64 0]] w1 fun e w' => e = TooLong ∧ Fr (Wb wb cv) w w') := fun w1 k => (lay_no (h.kpp k) { op := 5 } hl).mono fun e w' q => ⟨q.1, (Fr.of_below k).trans q.2⟩
  clear h hl
  unfold TooLong at *
  go_enter Tryz.func62, Tryz.ntmps62
  go_wp2_with fail
  refine (HA.out _ ?_).mono ?_
  · exact kp_alloc _ _
  rintro e w1 ⟨rfl, q2⟩
  have HQ : Hid (Fr (Wb wb cv) w w1) := q2
  clear q2
  go_wp2_with fail
  exact ⟨rfl, rfl, HQ.out⟩
end
end Go.Proofs.YtlgemficalcghaaGreat
/- The answers of split and jump, called: an instruction that was laid is told where it goes. -/
namespace Go.Proofs.YtlgemficalcghaaGreat
open Go.ChangeShapes Go.WideShapes Go.ChangeAt Go.RowKit
set_option linter.unusedVariables false
set_option linter.unusedSimpArgs false
section
variable {w0 : World} {wb : Nat} {v cv cv1 cv2 u : Value} {L : List Nq} {x : List Ins × Nat} {w w1 w2 : World} {b p : Nat} {t : TypeId} {S : Nat → Prop}
theorem Wr.spot (h : Wr w0 wb v L x cv w) {p : Nat} {d : Ins} (hp : x.1[p]? = some d) : ∃ g cap, cv = .slice (some ⟨g, 0, none⟩) x.1.length cap ∧ x.1.length ≤ cap ∧ cap ≤ maxLen ∧ g ≠ wb ∧
    ∀ j u, d.cells[j]? = some u → w.cell? ⟨g, p * 8 + j, none⟩ = some u ∧ w.frozen? ⟨g, p * 8 + j, none⟩ = false := by
  have hlt := (List.getElem?_eq_some_iff.1 hp).1
  rcases h.row.2 with ⟨_, q⟩ | ⟨g, cap, cur, e, hb, hg, h1, h2, h3, h4⟩
  · omega
  · refine ⟨g, cap, e, h1, h2, fun q => h.apart (by rw [e, ← q]; rfl), fun j u hj => ⟨?_, by simp [World.frozen?, hg]⟩⟩
    have hj8 : j < 8 := (List.getElem?_eq_some_iff.1 hj).1
    have := flatI_get hp j hj8
    rw [hj, ← h4, List.getElem?_take] at this
    rw [cell_at hg]
    split at this
    · rw [Array.getElem?_toList] at this; exact this
    · cases this
theorem Wr.put {g n cap : Nat} (h : Wr w0 wb v L x (.slice (some ⟨g, 0, none⟩) n cap) w) {p : Nat} {d : Ins} (hp : x.1[p]? = some d) (j : Nat) (hj : j < 8) (u : Value) (e : Ins) (he : e.cells = d.cells.set j u) :
    Wr w0 wb v L (x.1.set p e, x.2) (.slice (some ⟨g, 0, none⟩) n cap) (w.setCell ⟨g, p * 8 + j, none⟩ u) := by
  have hgw : g ≠ wb := fun q => h.apart (by rw [← q]; rfl)
  have f : Fr (Wb wb (.slice (some ⟨g, 0, none⟩) n cap)) w (w.setCell ⟨g, p * 8 + j, none⟩ u) := Fr.setCell (.inr rfl) w
  refine ⟨h.kpf f, h.pt, h.ge, by rw [heap_setCell_other (Ne.symm hgw)]; exact h.st, ?_, h.apart⟩
  rcases h.row.2 with ⟨q, _⟩ | ⟨g', cap', cur, e', hb, hg, h1, h2, h3, h4⟩
  · cases q
  · injection e' with e1 e2 e3
    injection e1 with e1
    injection e1 with e1
    subst e1 e2 e3
    refine ⟨by simp [flatI_len], .inr ⟨g, cap, cur.setIfInBounds (p * 8 + j) u, by simp, hb, heap_setCell hg, by simpa using h1, h2, by simpa using h3, ?_⟩⟩
    simp only [List.length_set]
    rw [Array.toList_setIfInBounds, List.take_set, h4]
    exact (flatI_set hp j hj u he).symm
theorem Wr.putAdv {g n cap : Nat} (h : Wr w0 wb v L x (.slice (some ⟨g, 0, none⟩) n cap) w) (off : Nat) (u : Value) : Adw wb (.slice (some ⟨g, 0, none⟩) n cap) w (.slice (some ⟨g, 0, none⟩) n cap) (w.setCell ⟨g, off, none⟩ u) :=
  ⟨Fr.setCell (.inr rfl) w, .inl rfl⟩
theorem Wr.cellAt {g n cap : Nat} (h : Wr w0 wb v L x (.slice (some ⟨g, 0, none⟩) n cap) w) {p : Nat} {d : Ins} (hp : x.1[p]? = some d) (j : Nat) (u : Value) (hj : d.cells[j]? = some u) : w.cell? ⟨g, p * 8 + j, none⟩ = some u ∧ w.frozen? ⟨g, p * 8 + j, none⟩ = false := by
  obtain ⟨g', cap', e, _, _, _, q⟩ := h.spot hp
  injection e with e _ _
  injection e with e
  injection e with e
  subst e
  exact q j u hj
theorem Wr.once {g n cap : Nat} (h : Wr w0 wb v L x (.slice (some ⟨g, 0, none⟩) n cap) w) {p : Nat} (hp : x.1[p]? = some { op := 5 }) (a : Int) :
    (w.cell? ⟨g, p * 8 + 6, none⟩ = some (.int .i64 0) ∧ w.frozen? ⟨g, p * 8 + 6, none⟩ = false) ∧ Wr w0 wb v L (x.1.set p { op := 5, x := a }, x.2) (.slice (some ⟨g, 0, none⟩) n cap) (w.setCell ⟨g, p * 8 + 6, none⟩ (.int .i64 a)) :=
  ⟨h.cellAt hp 6 _ rfl, h.put hp 6 (by omega) _ _ rfl⟩
theorem Wr.twice {g n cap : Nat} (h : Wr w0 wb v L x (.slice (some ⟨g, 0, none⟩) n cap) w) {p : Nat} (hp : x.1[p]? = some { op := 4 }) (a c : Int) :
    (w.cell? ⟨g, p * 8 + 6, none⟩ = some (.int .i64 0) ∧ w.frozen? ⟨g, p * 8 + 6, none⟩ = false) ∧ ((w.setCell ⟨g, p * 8 + 6, none⟩ (.int .i64 a)).cell? ⟨g, p * 8 + 7, none⟩ = some (.int .i64 0) ∧ (w.setCell ⟨g, p * 8 + 6, none⟩ (.int .i64 a)).frozen? ⟨g, p * 8 + 7, none⟩ = false) ∧
    Wr w0 wb v L (x.1.set p { op := 4, x := a, y := c }, x.2) (.slice (some ⟨g, 0, none⟩) n cap) ((w.setCell ⟨g, p * 8 + 6, none⟩ (.int .i64 a)).setCell ⟨g, p * 8 + 7, none⟩ (.int .i64 c)) ∧
    Adw wb (.slice (some ⟨g, 0, none⟩) n cap) w (.slice (some ⟨g, 0, none⟩) n cap) ((w.setCell ⟨g, p * 8 + 6, none⟩ (.int .i64 a)).setCell ⟨g, p * 8 + 7, none⟩ (.int .i64 c)) := by
  have hlt := (List.getElem?_eq_some_iff.1 hp).1
  have r1 := h.put hp 6 (by omega) (.int .i64 a) { op := 4, x := a } rfl
  have hp1 : (x.1.set p { op := 4, x := a })[p]? = some { op := 4, x := a } := by simp [hlt]
  have r2 := r1.put hp1 7 (by omega) (.int .i64 c) { op := 4, x := a, y := c } rfl
  rw [List.set_set] at r2
  exact ⟨h.cellAt hp 6 _ rfl, r1.cellAt hp1 7 _ rfl, r2, (h.putAdv _ _).trans (r1.putAdv _ _)⟩
/-- What the answer of a split reads. -/
def Sp3 (wb g N cap p b1 b2 : Nat) (w : World) : Prop := w.cell? ⟨wb, 1, none⟩ = some (.slice (some ⟨g, 0, none⟩) N cap) ∧ w.cell? ⟨b1, 0, none⟩ = some (.int .i64 p) ∧ w.cell? ⟨b2, 0, none⟩ = some (.pointer (some ⟨wb, 0, none⟩))
theorem cell_oth {w : World} {g o k j : Nat} {u : Value} (h : j ≠ g) : (w.setCell ⟨g, o, none⟩ u).cell? ⟨j, k, none⟩ = w.cell? ⟨j, k, none⟩ := World.cell?_of_block (heap_setCell_other h)
set_option maxHeartbeats 2000000 in
set_option maxRecDepth 100000 in
theorem split1_f {b : Nat × Nat × Nat} (h : Wr w0 wb v L x cv w) (hc : SClo w0 wb cv false p b w) (hp : x.1[p]? = some { op := 4 }) :
    Calls Tryz.prog 73 #[.pointer (some ⟨b.1, 0, none⟩), .pointer (some ⟨b.2.1, 0, none⟩), .pointer (some ⟨b.2.2, 0, none⟩)] w fun e w' => e = .returned (.tuple #[]) ∧ Wr w0 wb v L (x.1.set p (splitI false p x.1.length), x.2) cv w' ∧ Adw wb cv w cv w' := by
  obtain ⟨b1, b2, b3⟩ := b
  obtain ⟨N, hN⟩ : ∃ N, x.1.length = N := ⟨_, rfl⟩
  have hpl := (List.getElem?_eq_some_iff.1 hp).1
  obtain ⟨g, cap, rfl, k1, k2, hgw, hxx⟩ := h.spot hp
  clear hxx
  rw [hN] at h hc k1 hpl ⊢
  unfold maxLen at k2
  have HW : Hid (∀ w1, Kp w w1 → Wr w0 wb v L x (.slice (some ⟨g, 0, none⟩) N cap) w1 ∧ SClo w0 wb (.slice (some ⟨g, 0, none⟩) N cap) false p (b1, b2, b3) w1) := fun w1 k => ⟨h.kpp k, hc.adv (Adw.kp _ _ k)⟩
  have HN : Hid (x.1.length = N ∧ x.1[p]? = some { op := 4 }) := ⟨hN, hp⟩
  have HH : Hid (∀ w1, Kp w w1 → Calls Tryz.prog 74 #[.pointer (some ⟨wb, 0, none⟩)] w1 fun e w' => e = .returned (.int .i64 N) ∧ w' = w1) := fun w1 k => by rw [← hN]; exact here_any (h.kpp k)
  have c1 := hc.at_.cell.1
  have c2 := hc.wr.cell.1
  have c3 := hc.lz.cell.1
  have hg1 : b1 ≠ g := fun e => hc.off.1.2.2 (by rw [e]; rfl)
  have hg2 : b2 ≠ g := fun e => hc.off.2.1.2.2 (by rw [e]; rfl)
  clear h hc hp hN
  simp only at c1 c2 c3
  go_enter Tryz.func73, Tryz.ntmps73
  go_upto_region 0 with fail
  go_quiet ((go_at_call 74; exact Calls.quiet_of_same (HH.out _ (kp_drewN _ _))))
  go_wp2_with fail
  have hx : Kp w (w.drewN nq).drew := kp_trans (kp_drewN w nq) (kp_drew _)
  obtain ⟨q1, q2⟩ := HW.out _ hx
  have HX : Hid (Kp w (w.drewN nq).drew) := hx
  have hS0 : Sp3 wb g N cap p b1 b2 (w.drewN nq).drew := ⟨q1.c.1.2.1, q2.at_.cell.1, q2.wr.cell.1⟩
  have rl1 : ∀ w', Sp3 wb g N cap p b1 b2 w' → w'.cell? ⟨wb, 1, none⟩ = some (.slice (some ⟨g, 0, none⟩) N cap) := fun _ h => h.1
  have rl2 : ∀ w', Sp3 wb g N cap p b1 b2 w' → w'.cell? ⟨b1, 0, none⟩ = some (.int .i64 p) := fun _ h => h.2.1
  have rl3 : ∀ w', Sp3 wb g N cap p b1 b2 w' → w'.cell? ⟨b2, 0, none⟩ = some (.pointer (some ⟨wb, 0, none⟩)) := fun _ h => h.2.2
  clear c1 c2 c3 hx
  refine wp_region_noPanic ?_
  refine wp_region_held_drew (S := Sp3 wb g N cap p b1 b2) (by kernel_rfl) (hS0) (fun hHeld => ?_)
  generalize (w.drewN nq).drew = x0 at HX q1 q2 hS0 hHeld ⊢
  refine takeAt 0 (some 12) ?_ rfl rfl (by kernel_rfl) (by kernel_rfl) (by kernel_rfl) (fun _ _ _ h => h) (Or.inl ⟨by rfl, ?_⟩) hHeld ?_
  rotate_left
  · intro w hSw
    go_simp <;> with_reducible rfl
  try simp only [Act.put, List.setIfInBounds_toArray, List.set_cons_zero, List.set_cons_succ]
  refine takeAt 1 (some 13) ?_ rfl rfl (by kernel_rfl) (by kernel_rfl) (by kernel_rfl) (fun _ _ _ h => h) (Or.inl ⟨by rfl, ?_⟩) hHeld ?_
  rotate_left
  · intro w hSw
    go_simp <;> with_reducible rfl
  try simp only [Act.put, List.setIfInBounds_toArray, List.set_cons_zero, List.set_cons_succ]
  refine takeAt 2 (some 14) ?_ rfl rfl (by kernel_rfl) (by kernel_rfl) (by kernel_rfl) (fun _ _ _ h => h) (Or.inl ⟨by rfl, ?_⟩) hHeld ?_
  rotate_left
  · intro w hSw
    go_simp <;> with_reducible rfl
  try simp only [Act.put, List.setIfInBounds_toArray, List.set_cons_zero, List.set_cons_succ]
  refine takeAt 3 (some 15) ?_ rfl rfl (by kernel_rfl) (by kernel_rfl) (by kernel_rfl) (fun _ _ _ h => h) (Or.inl ⟨by rfl, ?_⟩) hHeld ?_
  rotate_left
  · intro w hSw
    go_simp <;> with_reducible rfl
  try simp only [Act.put, List.setIfInBounds_toArray, List.set_cons_zero, List.set_cons_succ]
  refine takeAt 4 (some 16) ?_ rfl rfl (by kernel_rfl) (by kernel_rfl) (by kernel_rfl) (fun _ _ _ h => h) (Or.inl ⟨by rfl, ?_⟩) hHeld ?_
  rotate_left
  · intro w hSw
    go_simp <;> with_reducible rfl
  try simp only [Act.put, List.setIfInBounds_toArray, List.set_cons_zero, List.set_cons_succ]
  refine takeAt 5 (some 17) ?_ rfl rfl (by kernel_rfl) (by kernel_rfl) (by kernel_rfl) (fun _ _ _ h => h) (Or.inl ⟨by rfl, ?_⟩) hHeld ?_
  rotate_left
  · intro w hSw
    go_simp <;> with_reducible rfl
  try simp only [Act.put, List.setIfInBounds_toArray, List.set_cons_zero, List.set_cons_succ]
  refine takeAt 6 (some 18) ?_ rfl rfl (by kernel_rfl) (by kernel_rfl) (by kernel_rfl) (fun _ _ _ h => h) (Or.inl ⟨by rfl, ?_⟩) hHeld ?_
  rotate_left
  · intro w hSw
    go_simp <;> with_reducible rfl
  try simp only [Act.put, List.setIfInBounds_toArray, List.set_cons_zero, List.set_cons_succ]
  refine takeAt 7 (some 19) ?_ rfl rfl (by kernel_rfl) (by kernel_rfl) (by kernel_rfl) (fun _ _ _ h => h) (Or.inl ⟨by rfl, ?_⟩) hHeld ?_
  rotate_left
  · intro w hSw
    go_simp <;> with_reducible rfl
  try simp only [Act.put, List.setIfInBounds_toArray, List.set_cons_zero, List.set_cons_succ]
  refine takeAt 8 (some 20) ?_ rfl rfl (by kernel_rfl) (by kernel_rfl) (by kernel_rfl) (fun _ _ _ h => h) (Or.inl ⟨by rfl, ?_⟩) hHeld ?_
  rotate_left
  · intro w hSw
    go_simp <;> with_reducible rfl
  try simp only [Act.put, List.setIfInBounds_toArray, List.set_cons_zero, List.set_cons_succ]
  refine takeAt 9 (some 21) ?_ rfl rfl (by kernel_rfl) (by kernel_rfl) (by kernel_rfl) (fun _ _ _ h => h) (Or.inl ⟨by rfl, ?_⟩) hHeld ?_
  rotate_left
  · intro w hSw
    go_simp <;> with_reducible rfl
  try simp only [Act.put, List.setIfInBounds_toArray, List.set_cons_zero, List.set_cons_succ]
  refine takeAt 10 (some 22) ?_ rfl rfl (by kernel_rfl) (by kernel_rfl) (by kernel_rfl) (fun _ _ _ h => h) (Or.inl ⟨by rfl, ?_⟩) hHeld ?_
  rotate_left
  · intro w hSw
    go_simp <;> with_reducible rfl
  try simp only [Act.put, List.setIfInBounds_toArray, List.set_cons_zero, List.set_cons_succ]
  refine takeAt 11 (some 23) ?_ rfl rfl (by kernel_rfl) (by kernel_rfl) (by kernel_rfl) (fun _ _ _ h => h) (Or.inl ⟨by rfl, ?_⟩) hHeld ?_
  rotate_left
  · intro w hSw
    go_simp <;> with_reducible rfl
  try simp only [Act.put, List.setIfInBounds_toArray, List.set_cons_zero, List.set_cons_succ]
  refine takeAt 12 (some 24) ?_ rfl rfl (by kernel_rfl) (by kernel_rfl) (by kernel_rfl) (fun _ _ _ h => h) (Or.inl ⟨by rfl, ?_⟩) hHeld ?_
  rotate_left
  · intro w hSw
    go_simp <;> with_reducible rfl
  try simp only [Act.put, List.setIfInBounds_toArray, List.set_cons_zero, List.set_cons_succ]
  refine takeAt 13 (some 25) ?_ rfl rfl (by kernel_rfl) (by kernel_rfl) (by kernel_rfl) (fun _ _ _ h => h) (Or.inl ⟨by rfl, ?_⟩) hHeld ?_
  rotate_left
  · intro w hSw
    go_simp <;> with_reducible rfl
  try simp only [Act.put, List.setIfInBounds_toArray, List.set_cons_zero, List.set_cons_succ]
  obtain ⟨⟨d6, f6⟩, ⟨d7, f7⟩, r2, a2⟩ := q1.twice HN.out.2 ((p : Int) + 1) N
  have HF : Hid (Wr w0 wb v L (x.1.set p (splitI false p N), x.2) (.slice (some ⟨g, 0, none⟩) N cap) ((x0.setCell ⟨g, p * 8 + 6, none⟩ (.int .i64 ((p : Int) + 1))).setCell ⟨g, p * 8 + 7, none⟩ (.int .i64 N)) ∧ Adw wb (.slice (some ⟨g, 0, none⟩) N cap) w (.slice (some ⟨g, 0, none⟩) N cap) ((x0.setCell ⟨g, p * 8 + 6, none⟩ (.int .i64 ((p : Int) + 1))).setCell ⟨g, p * 8 + 7, none⟩ (.int .i64 N))) := ⟨r2, (Adw.kp _ wb HX.out).trans a2⟩
  clear r2 a2 q1 q2
  refine wpAnyH_ready (rs := [14]) (by kernel_rfl) (by simp) ?_
  refine AllReadyH.cons rfl (fun K hK => ?_) AllReadyH.nil
  go_simp
  refine hK.out _ _ (⟨by rw [cell_oth (Ne.symm hgw)]; exact hHeld.1, by rw [cell_oth hg1]; exact hHeld.2.1, by rw [cell_oth hg2]; exact hHeld.2.2⟩) (fun hHeld => ?_)
  clear hK K
  try simp only [Act.put, List.setIfInBounds_toArray, List.set_cons_zero, List.set_cons_succ]
  have hHeld1 := hHeld
  refine takeAt 15 (some 26) ?_ rfl rfl (by kernel_rfl) (by kernel_rfl) (by kernel_rfl) (fun _ _ _ h => h) (Or.inl ⟨by rfl, ?_⟩) hHeld ?_
  rotate_left
  · intro w hSw
    go_simp <;> with_reducible rfl
  try simp only [Act.put, List.setIfInBounds_toArray, List.set_cons_zero, List.set_cons_succ]
  refine takeAt 16 (some 27) ?_ rfl rfl (by kernel_rfl) (by kernel_rfl) (by kernel_rfl) (fun _ _ _ h => h) (Or.inl ⟨by rfl, ?_⟩) hHeld ?_
  rotate_left
  · intro w hSw
    go_simp <;> with_reducible rfl
  try simp only [Act.put, List.setIfInBounds_toArray, List.set_cons_zero, List.set_cons_succ]
  refine wpAnyH_ready (rs := [17]) (by kernel_rfl) (by simp) ?_
  refine AllReadyH.cons rfl (fun K hK => ?_) AllReadyH.nil
  go_simp
  refine hK.out _ _ (⟨by rw [cell_oth (Ne.symm hgw)]; exact hHeld1.1, by rw [cell_oth hg1]; exact hHeld1.2.1, by rw [cell_oth hg2]; exact hHeld1.2.2⟩) (fun hHeld => ?_)
  clear hK K
  try simp only [Act.put, List.setIfInBounds_toArray, List.set_cons_zero, List.set_cons_succ]
  refine wpAnyH_done (by kernel_rfl) ?_ _
  refine NoPanic.normal ?_
  go_wp2_with fail
  go_end0
  exact ⟨rfl, HF.out⟩
set_option maxHeartbeats 2000000 in
set_option maxRecDepth 100000 in
theorem split1_t {b : Nat × Nat × Nat} (h : Wr w0 wb v L x cv w) (hc : SClo w0 wb cv true p b w) (hp : x.1[p]? = some { op := 4 }) :
    Calls Tryz.prog 73 #[.pointer (some ⟨b.1, 0, none⟩), .pointer (some ⟨b.2.1, 0, none⟩), .pointer (some ⟨b.2.2, 0, none⟩)] w fun e w' => e = .returned (.tuple #[]) ∧ Wr w0 wb v L (x.1.set p (splitI true p x.1.length), x.2) cv w' ∧ Adw wb cv w cv w' := by
  obtain ⟨b1, b2, b3⟩ := b
  obtain ⟨N, hN⟩ : ∃ N, x.1.length = N := ⟨_, rfl⟩
  have hpl := (List.getElem?_eq_some_iff.1 hp).1
  obtain ⟨g, cap, rfl, k1, k2, hgw, hxx⟩ := h.spot hp
  clear hxx
  rw [hN] at h hc k1 hpl ⊢
  unfold maxLen at k2
  have HW : Hid (∀ w1, Kp w w1 → Wr w0 wb v L x (.slice (some ⟨g, 0, none⟩) N cap) w1 ∧ SClo w0 wb (.slice (some ⟨g, 0, none⟩) N cap) true p (b1, b2, b3) w1) := fun w1 k => ⟨h.kpp k, hc.adv (Adw.kp _ _ k)⟩
  have HN : Hid (x.1.length = N ∧ x.1[p]? = some { op := 4 }) := ⟨hN, hp⟩
  have HH : Hid (∀ w1, Kp w w1 → Calls Tryz.prog 74 #[.pointer (some ⟨wb, 0, none⟩)] w1 fun e w' => e = .returned (.int .i64 N) ∧ w' = w1) := fun w1 k => by rw [← hN]; exact here_any (h.kpp k)
  have c1 := hc.at_.cell.1
  have c2 := hc.wr.cell.1
  have c3 := hc.lz.cell.1
  have hg1 : b1 ≠ g := fun e => hc.off.1.2.2 (by rw [e]; rfl)
  have hg2 : b2 ≠ g := fun e => hc.off.2.1.2.2 (by rw [e]; rfl)
  clear h hc hp hN
  simp only at c1 c2 c3
  go_enter Tryz.func73, Tryz.ntmps73
  go_upto_region 0 with fail
  go_quiet ((go_at_call 74; exact Calls.quiet_of_same (HH.out _ (kp_drewN _ _))))
  go_wp2_with fail
  have hx : Kp w (w.drewN nq).drew := kp_trans (kp_drewN w nq) (kp_drew _)
  obtain ⟨q1, q2⟩ := HW.out _ hx
  have HX : Hid (Kp w (w.drewN nq).drew) := hx
  have hS0 : Sp3 wb g N cap p b1 b2 (w.drewN nq).drew := ⟨q1.c.1.2.1, q2.at_.cell.1, q2.wr.cell.1⟩
  have rl1 : ∀ w', Sp3 wb g N cap p b1 b2 w' → w'.cell? ⟨wb, 1, none⟩ = some (.slice (some ⟨g, 0, none⟩) N cap) := fun _ h => h.1
  have rl2 : ∀ w', Sp3 wb g N cap p b1 b2 w' → w'.cell? ⟨b1, 0, none⟩ = some (.int .i64 p) := fun _ h => h.2.1
  have rl3 : ∀ w', Sp3 wb g N cap p b1 b2 w' → w'.cell? ⟨b2, 0, none⟩ = some (.pointer (some ⟨wb, 0, none⟩)) := fun _ h => h.2.2
  clear c1 c2 c3 hx
  refine wp_region_noPanic ?_
  refine wp_region_held_drew (S := Sp3 wb g N cap p b1 b2) (by kernel_rfl) (hS0) (fun hHeld => ?_)
  generalize (w.drewN nq).drew = x0 at HX q1 q2 hS0 hHeld ⊢
  refine takeAt 0 (some 12) ?_ rfl rfl (by kernel_rfl) (by kernel_rfl) (by kernel_rfl) (fun _ _ _ h => h) (Or.inl ⟨by rfl, ?_⟩) hHeld ?_
  rotate_left
  · intro w hSw
    go_simp <;> with_reducible rfl
  try simp only [Act.put, List.setIfInBounds_toArray, List.set_cons_zero, List.set_cons_succ]
  refine takeAt 1 (some 13) ?_ rfl rfl (by kernel_rfl) (by kernel_rfl) (by kernel_rfl) (fun _ _ _ h => h) (Or.inl ⟨by rfl, ?_⟩) hHeld ?_
  rotate_left
  · intro w hSw
    go_simp <;> with_reducible rfl
  try simp only [Act.put, List.setIfInBounds_toArray, List.set_cons_zero, List.set_cons_succ]
  refine takeAt 2 (some 14) ?_ rfl rfl (by kernel_rfl) (by kernel_rfl) (by kernel_rfl) (fun _ _ _ h => h) (Or.inl ⟨by rfl, ?_⟩) hHeld ?_
  rotate_left
  · intro w hSw
    go_simp <;> with_reducible rfl
  try simp only [Act.put, List.setIfInBounds_toArray, List.set_cons_zero, List.set_cons_succ]
  refine takeAt 3 (some 15) ?_ rfl rfl (by kernel_rfl) (by kernel_rfl) (by kernel_rfl) (fun _ _ _ h => h) (Or.inl ⟨by rfl, ?_⟩) hHeld ?_
  rotate_left
  · intro w hSw
    go_simp <;> with_reducible rfl
  try simp only [Act.put, List.setIfInBounds_toArray, List.set_cons_zero, List.set_cons_succ]
  refine takeAt 4 (some 16) ?_ rfl rfl (by kernel_rfl) (by kernel_rfl) (by kernel_rfl) (fun _ _ _ h => h) (Or.inl ⟨by rfl, ?_⟩) hHeld ?_
  rotate_left
  · intro w hSw
    go_simp <;> with_reducible rfl
  try simp only [Act.put, List.setIfInBounds_toArray, List.set_cons_zero, List.set_cons_succ]
  refine takeAt 5 (some 17) ?_ rfl rfl (by kernel_rfl) (by kernel_rfl) (by kernel_rfl) (fun _ _ _ h => h) (Or.inl ⟨by rfl, ?_⟩) hHeld ?_
  rotate_left
  · intro w hSw
    go_simp <;> with_reducible rfl
  try simp only [Act.put, List.setIfInBounds_toArray, List.set_cons_zero, List.set_cons_succ]
  refine takeAt 6 (some 18) ?_ rfl rfl (by kernel_rfl) (by kernel_rfl) (by kernel_rfl) (fun _ _ _ h => h) (Or.inl ⟨by rfl, ?_⟩) hHeld ?_
  rotate_left
  · intro w hSw
    go_simp <;> with_reducible rfl
  try simp only [Act.put, List.setIfInBounds_toArray, List.set_cons_zero, List.set_cons_succ]
  refine takeAt 7 (some 19) ?_ rfl rfl (by kernel_rfl) (by kernel_rfl) (by kernel_rfl) (fun _ _ _ h => h) (Or.inl ⟨by rfl, ?_⟩) hHeld ?_
  rotate_left
  · intro w hSw
    go_simp <;> with_reducible rfl
  try simp only [Act.put, List.setIfInBounds_toArray, List.set_cons_zero, List.set_cons_succ]
  refine takeAt 8 (some 20) ?_ rfl rfl (by kernel_rfl) (by kernel_rfl) (by kernel_rfl) (fun _ _ _ h => h) (Or.inl ⟨by rfl, ?_⟩) hHeld ?_
  rotate_left
  · intro w hSw
    go_simp <;> with_reducible rfl
  try simp only [Act.put, List.setIfInBounds_toArray, List.set_cons_zero, List.set_cons_succ]
  refine takeAt 9 (some 21) ?_ rfl rfl (by kernel_rfl) (by kernel_rfl) (by kernel_rfl) (fun _ _ _ h => h) (Or.inl ⟨by rfl, ?_⟩) hHeld ?_
  rotate_left
  · intro w hSw
    go_simp <;> with_reducible rfl
  try simp only [Act.put, List.setIfInBounds_toArray, List.set_cons_zero, List.set_cons_succ]
  refine takeAt 10 (some 22) ?_ rfl rfl (by kernel_rfl) (by kernel_rfl) (by kernel_rfl) (fun _ _ _ h => h) (Or.inl ⟨by rfl, ?_⟩) hHeld ?_
  rotate_left
  · intro w hSw
    go_simp <;> with_reducible rfl
  try simp only [Act.put, List.setIfInBounds_toArray, List.set_cons_zero, List.set_cons_succ]
  refine takeAt 11 (some 23) ?_ rfl rfl (by kernel_rfl) (by kernel_rfl) (by kernel_rfl) (fun _ _ _ h => h) (Or.inl ⟨by rfl, ?_⟩) hHeld ?_
  rotate_left
  · intro w hSw
    go_simp <;> with_reducible rfl
  try simp only [Act.put, List.setIfInBounds_toArray, List.set_cons_zero, List.set_cons_succ]
  refine takeAt 12 (some 24) ?_ rfl rfl (by kernel_rfl) (by kernel_rfl) (by kernel_rfl) (fun _ _ _ h => h) (Or.inl ⟨by rfl, ?_⟩) hHeld ?_
  rotate_left
  · intro w hSw
    go_simp <;> with_reducible rfl
  try simp only [Act.put, List.setIfInBounds_toArray, List.set_cons_zero, List.set_cons_succ]
  refine takeAt 13 (some 25) ?_ rfl rfl (by kernel_rfl) (by kernel_rfl) (by kernel_rfl) (fun _ _ _ h => h) (Or.inl ⟨by rfl, ?_⟩) hHeld ?_
  rotate_left
  · intro w hSw
    go_simp <;> with_reducible rfl
  try simp only [Act.put, List.setIfInBounds_toArray, List.set_cons_zero, List.set_cons_succ]
  obtain ⟨⟨d6, f6⟩, ⟨d7, f7⟩, r2, a2⟩ := q1.twice HN.out.2 N ((p : Int) + 1)
  have HF : Hid (Wr w0 wb v L (x.1.set p (splitI true p N), x.2) (.slice (some ⟨g, 0, none⟩) N cap) ((x0.setCell ⟨g, p * 8 + 6, none⟩ (.int .i64 N)).setCell ⟨g, p * 8 + 7, none⟩ (.int .i64 ((p : Int) + 1))) ∧ Adw wb (.slice (some ⟨g, 0, none⟩) N cap) w (.slice (some ⟨g, 0, none⟩) N cap) ((x0.setCell ⟨g, p * 8 + 6, none⟩ (.int .i64 N)).setCell ⟨g, p * 8 + 7, none⟩ (.int .i64 ((p : Int) + 1)))) := ⟨r2, (Adw.kp _ wb HX.out).trans a2⟩
  clear r2 a2 q1 q2
  refine wpAnyH_ready (rs := [14]) (by kernel_rfl) (by simp) ?_
  refine AllReadyH.cons rfl (fun K hK => ?_) AllReadyH.nil
  go_simp
  refine hK.out _ _ (⟨by rw [cell_oth (Ne.symm hgw)]; exact hHeld.1, by rw [cell_oth hg1]; exact hHeld.2.1, by rw [cell_oth hg2]; exact hHeld.2.2⟩) (fun hHeld => ?_)
  clear hK K
  try simp only [Act.put, List.setIfInBounds_toArray, List.set_cons_zero, List.set_cons_succ]
  have hHeld1 := hHeld
  refine takeAt 15 (some 26) ?_ rfl rfl (by kernel_rfl) (by kernel_rfl) (by kernel_rfl) (fun _ _ _ h => h) (Or.inl ⟨by rfl, ?_⟩) hHeld ?_
  rotate_left
  · intro w hSw
    go_simp <;> with_reducible rfl
  try simp only [Act.put, List.setIfInBounds_toArray, List.set_cons_zero, List.set_cons_succ]
  refine takeAt 16 (some 27) ?_ rfl rfl (by kernel_rfl) (by kernel_rfl) (by kernel_rfl) (fun _ _ _ h => h) (Or.inl ⟨by rfl, ?_⟩) hHeld ?_
  rotate_left
  · intro w hSw
    go_simp <;> with_reducible rfl
  try simp only [Act.put, List.setIfInBounds_toArray, List.set_cons_zero, List.set_cons_succ]
  refine wpAnyH_ready (rs := [17]) (by kernel_rfl) (by simp) ?_
  refine AllReadyH.cons rfl (fun K hK => ?_) AllReadyH.nil
  go_simp
  refine hK.out _ _ (⟨by rw [cell_oth (Ne.symm hgw)]; exact hHeld1.1, by rw [cell_oth hg1]; exact hHeld1.2.1, by rw [cell_oth hg2]; exact hHeld1.2.2⟩) (fun hHeld => ?_)
  clear hK K
  try simp only [Act.put, List.setIfInBounds_toArray, List.set_cons_zero, List.set_cons_succ]
  refine wpAnyH_done (by kernel_rfl) ?_ _
  refine NoPanic.normal ?_
  go_wp2_with fail
  go_end0
  exact ⟨rfl, HF.out⟩
set_option maxHeartbeats 2000000 in
set_option maxRecDepth 100000 in
theorem jump1_any {b : Nat × Nat} (h : Wr w0 wb v L x cv w) (hc : JClo w0 wb cv p b w) (hp : x.1[p]? = some { op := 5 }) :
    Calls Tryz.prog 75 #[.pointer (some ⟨b.1, 0, none⟩), .pointer (some ⟨b.2, 0, none⟩)] w fun e w' => e = .returned (.tuple #[]) ∧ Wr w0 wb v L (x.1.set p (jumpI x.1.length), x.2) cv w' ∧ Adw wb cv w cv w' := by
  obtain ⟨b2, b1⟩ := b
  obtain ⟨N, hN⟩ : ∃ N, x.1.length = N := ⟨_, rfl⟩
  have hpl := (List.getElem?_eq_some_iff.1 hp).1
  obtain ⟨g, cap, rfl, k1, k2, hgw, hxx⟩ := h.spot hp
  clear hxx
  rw [hN] at h hc k1 hpl ⊢
  unfold maxLen at k2
  have HN : Hid (x.1.length = N ∧ x.1[p]? = some { op := 5 }) := ⟨hN, hp⟩
  have hx : Kp w w.drew := kp_drew _
  have q1 := h.kpp hx
  have q2 := hc.adv (Adw.kp _ _ hx)
  have HH : Hid (Calls Tryz.prog 74 #[.pointer (some ⟨wb, 0, none⟩)] w.drew fun e w' => e = .returned (.int .i64 N) ∧ w' = w.drew) := by
    have := here_any q1
    rw [hN] at this
    exact this
  have hS0 : Sp3 wb g N cap p b1 b2 w.drew := ⟨q1.c.1.2.1, q2.at_.cell.1, q2.wr.cell.1⟩
  have HX : Hid (Kp w w.drew) := hx
  have hg1 : b1 ≠ g := fun e => hc.off.2.2.2 (by rw [e]; rfl)
  have hg2 : b2 ≠ g := fun e => hc.off.1.2.2 (by rw [e]; rfl)
  have rl1 : ∀ w', Sp3 wb g N cap p b1 b2 w' → w'.cell? ⟨wb, 1, none⟩ = some (.slice (some ⟨g, 0, none⟩) N cap) := fun _ h => h.1
  have rl2 : ∀ w', Sp3 wb g N cap p b1 b2 w' → w'.cell? ⟨b1, 0, none⟩ = some (.int .i64 p) := fun _ h => h.2.1
  have rl3 : ∀ w', Sp3 wb g N cap p b1 b2 w' → w'.cell? ⟨b2, 0, none⟩ = some (.pointer (some ⟨wb, 0, none⟩)) := fun _ h => h.2.2
  clear h hc hp hN hx
  go_enter Tryz.func75, Tryz.ntmps75
  go_upto_region 0 with fail
  refine wp_region_noPanic ?_
  refine wp_region_held_drew (S := Sp3 wb g N cap p b1 b2) (by kernel_rfl) (hS0) (fun hHeld => ?_)
  generalize w.drew = x0 at HX HH q1 q2 hS0 hHeld ⊢
  refine takeAt 0 (some 2) ?_ rfl rfl (by kernel_rfl) (by kernel_rfl) (by kernel_rfl) (fun _ _ _ h => h) (Or.inl ⟨by rfl, ?_⟩) hHeld ?_
  rotate_left
  · intro w hSw
    go_simp <;> with_reducible rfl
  try simp only [Act.put, List.setIfInBounds_toArray, List.set_cons_zero, List.set_cons_succ]
  refine takeAt 1 (some 3) ?_ rfl rfl (by kernel_rfl) (by kernel_rfl) (by kernel_rfl) (fun _ _ _ h => h) (Or.inl ⟨by rfl, ?_⟩) hHeld ?_
  rotate_left
  · intro w hSw
    go_simp <;> with_reducible rfl
  try simp only [Act.put, List.setIfInBounds_toArray, List.set_cons_zero, List.set_cons_succ]
  refine takeAt 2 (some 4) ?_ rfl rfl (by kernel_rfl) (by kernel_rfl) (by kernel_rfl) (fun _ _ _ h => h) (Or.inl ⟨by rfl, ?_⟩) hHeld ?_
  rotate_left
  · intro w hSw
    go_simp <;> with_reducible rfl
  try simp only [Act.put, List.setIfInBounds_toArray, List.set_cons_zero, List.set_cons_succ]
  refine takeAt 3 (some 5) ?_ rfl rfl (by kernel_rfl) (by kernel_rfl) (by kernel_rfl) (fun _ _ _ h => h) (Or.inl ⟨by rfl, ?_⟩) hHeld ?_
  rotate_left
  · intro w hSw
    go_simp <;> with_reducible rfl
  try simp only [Act.put, List.setIfInBounds_toArray, List.set_cons_zero, List.set_cons_succ]
  refine takeAt 4 (some 6) ?_ rfl rfl (by kernel_rfl) (by kernel_rfl) (by kernel_rfl) (fun _ _ _ h => h) (Or.inl ⟨by rfl, ?_⟩) hHeld ?_
  rotate_left
  · intro w hSw
    go_simp <;> with_reducible rfl
  try simp only [Act.put, List.setIfInBounds_toArray, List.set_cons_zero, List.set_cons_succ]
  refine takeAt 5 (some 7) ?_ rfl rfl (by kernel_rfl) (by kernel_rfl) (by kernel_rfl) (fun _ _ _ h => h) (Or.inl ⟨by rfl, ?_⟩) hHeld ?_
  rotate_left
  · intro w hSw
    go_simp <;> with_reducible rfl
  try simp only [Act.put, List.setIfInBounds_toArray, List.set_cons_zero, List.set_cons_succ]
  refine callAt 6 8 74 (vals := #[.pointer (some ⟨wb, 0, none⟩)]) (by kernel_rfl) rfl rfl rfl rfl (by simp [Act.eval]) Tryz.func74 (by kernel_rfl) (by kernel_rfl) ?_
  refine Calls.mono (HH.out) ?_
  rintro e w1 ⟨rfl, rfl⟩
  refine ⟨_, rfl, hS0, fun hHeld => ?_⟩
  try simp only [Act.put, List.setIfInBounds_toArray, List.set_cons_zero, List.set_cons_succ]
  refine takeAt 7 (some 9) ?_ rfl rfl (by kernel_rfl) (by kernel_rfl) (by kernel_rfl) (fun _ _ _ h => h) (Or.inl ⟨by rfl, ?_⟩) hHeld ?_
  rotate_left
  · intro w hSw
    go_simp <;> with_reducible rfl
  try simp only [Act.put, List.setIfInBounds_toArray, List.set_cons_zero, List.set_cons_succ]
  refine takeAt 8 (some 10) ?_ rfl rfl (by kernel_rfl) (by kernel_rfl) (by kernel_rfl) (fun _ _ _ h => h) (Or.inl ⟨by rfl, ?_⟩) hHeld ?_
  rotate_left
  · intro w hSw
    go_simp <;> with_reducible rfl
  try simp only [Act.put, List.setIfInBounds_toArray, List.set_cons_zero, List.set_cons_succ]
  obtain ⟨⟨d6, f6⟩, r2⟩ := q1.once HN.out.2 N
  have HF : Hid (Wr w0 wb v L (x.1.set p (jumpI N), x.2) (.slice (some ⟨g, 0, none⟩) N cap) (w1.setCell ⟨g, p * 8 + 6, none⟩ (.int .i64 N)) ∧ Adw wb (.slice (some ⟨g, 0, none⟩) N cap) w (.slice (some ⟨g, 0, none⟩) N cap) (w1.setCell ⟨g, p * 8 + 6, none⟩ (.int .i64 N))) := ⟨r2, (Adw.kp _ wb HX.out).trans (q1.putAdv _ _)⟩
  clear r2 q1 q2 HH
  refine wpAnyH_ready (rs := [9]) (by kernel_rfl) (by simp) ?_
  refine AllReadyH.cons rfl (fun K hK => ?_) AllReadyH.nil
  go_simp
  refine hK.out _ _ (⟨by rw [cell_oth (Ne.symm hgw)]; exact hHeld.1, by rw [cell_oth hg1]; exact hHeld.2.1, by rw [cell_oth hg2]; exact hHeld.2.2⟩) (fun hHeld => ?_)
  clear hK K
  try simp only [Act.put, List.setIfInBounds_toArray, List.set_cons_zero, List.set_cons_succ]
  refine wpAnyH_done (by kernel_rfl) ?_ _
  refine NoPanic.normal ?_
  go_wp2_with fail
  go_end0
  exact ⟨rfl, HF.out⟩
end
end Go.Proofs.YtlgemficalcghaaGreat
/- The writer's leaf. -/
namespace Go.Proofs.YtlgemficalcghaaGreat
open Go.ChangeShapes Go.WideShapes Go.ChangeAt Go.RowKit
set_option linter.unusedVariables false
set_option linter.unusedSimpArgs false
section
variable {w0 : World} {wb : Nat} {v cv cv1 cv2 u : Value} {L : List Nq} {x : List Ins × Nat} {w w1 w2 : World} {b p : Nat} {t : TypeId} {S : Nat → Prop}
def nqObj (d : Nq) (kv : Value) : Obj := .cells #[.int .u8 d.op, .int .u8 d.c, .int .u64 d.set.a, .int .u64 d.set.b, .int .u64 d.set.c, .int .u64 d.set.d, .int .i64 d.mn, .int .i64 d.mx, .bool d.lz, .int .i64 d.n, kv] 91
theorem leaf_2 (c : Nat) (set : S4) (mn mx : Int) (lz : Bool) (nn : Int) (a : Option Addr) (n cap : Nat) (w : World) : Calls Tryz.prog 50 #[.agg #[.int .u8 2, .int .u8 c, .int .u64 set.a, .int .u64 set.b, .int .u64 set.c, .int .u64 set.d, .int .i64 mn, .int .i64 mx, .bool lz, .int .i64 nn, .slice a n cap]] w fun e w' => e = .returned (.agg #[.int .u8 1, .int .u8 c, .int .u64 0, .int .u64 0, .int .u64 0, .int .u64 0, .int .i64 0, .int .i64 0]) ∧ Kp w w' := by
  go_enter Tryz.func50, Tryz.ntmps50
  go_wp2_with fail
  refine bodyPost_ret (v := .agg #[.int .u8 1, .int .u8 c, .int .u64 0, .int .u64 0, .int .u64 0, .int .u64 0, .int .i64 0, .int .i64 0]) (by simp [results, Tryz.results50, go_sem]) rfl ⟨rfl, ?_⟩
  first | exact kp_alloc _ _ | exact kp_trans (kp_alloc _ _) (kp_alloc _ _) | exact kp_trans (kp_trans (kp_alloc _ _) (kp_drew _)) (kp_alloc _ _) | exact kp_trans (kp_trans (kp_alloc _ _) (kp_alloc _ _)) (kp_drew _)
theorem leaf_4 (c : Nat) (set : S4) (mn mx : Int) (lz : Bool) (nn : Int) (a : Option Addr) (n cap : Nat) (w : World) : Calls Tryz.prog 50 #[.agg #[.int .u8 4, .int .u8 c, .int .u64 set.a, .int .u64 set.b, .int .u64 set.c, .int .u64 set.d, .int .i64 mn, .int .i64 mx, .bool lz, .int .i64 nn, .slice a n cap]] w fun e w' => e = .returned (.agg #[.int .u8 3, .int .u8 0, .int .u64 set.a, .int .u64 set.b, .int .u64 set.c, .int .u64 set.d, .int .i64 0, .int .i64 0]) ∧ Kp w w' := by
  go_enter Tryz.func50, Tryz.ntmps50
  go_wp2_with fail
  refine bodyPost_ret (v := .agg #[.int .u8 3, .int .u8 0, .int .u64 set.a, .int .u64 set.b, .int .u64 set.c, .int .u64 set.d, .int .i64 0, .int .i64 0]) (by simp [results, Tryz.results50, go_sem]) rfl ⟨rfl, ?_⟩
  first | exact kp_alloc _ _ | exact kp_trans (kp_alloc _ _) (kp_alloc _ _) | exact kp_trans (kp_trans (kp_alloc _ _) (kp_drew _)) (kp_alloc _ _) | exact kp_trans (kp_trans (kp_alloc _ _) (kp_alloc _ _)) (kp_drew _)
theorem leaf_10 (c : Nat) (set : S4) (mn mx : Int) (lz : Bool) (nn : Int) (a : Option Addr) (n cap : Nat) (w : World) : Calls Tryz.prog 50 #[.agg #[.int .u8 10, .int .u8 c, .int .u64 set.a, .int .u64 set.b, .int .u64 set.c, .int .u64 set.d, .int .i64 mn, .int .i64 mx, .bool lz, .int .i64 nn, .slice a n cap]] w fun e w' => e = .returned (.agg #[.int .u8 8, .int .u8 0, .int .u64 0, .int .u64 0, .int .u64 0, .int .u64 0, .int .i64 0, .int .i64 0]) ∧ Kp w w' := by
  go_enter Tryz.func50, Tryz.ntmps50
  go_wp2_with fail
  refine bodyPost_ret (v := .agg #[.int .u8 8, .int .u8 0, .int .u64 0, .int .u64 0, .int .u64 0, .int .u64 0, .int .i64 0, .int .i64 0]) (by simp [results, Tryz.results50, go_sem]) rfl ⟨rfl, ?_⟩
  first | exact kp_alloc _ _ | exact kp_trans (kp_alloc _ _) (kp_alloc _ _) | exact kp_trans (kp_trans (kp_alloc _ _) (kp_drew _)) (kp_alloc _ _) | exact kp_trans (kp_trans (kp_alloc _ _) (kp_alloc _ _)) (kp_drew _)
theorem leaf_11 (c : Nat) (set : S4) (mn mx : Int) (lz : Bool) (nn : Int) (a : Option Addr) (n cap : Nat) (w : World) : Calls Tryz.prog 50 #[.agg #[.int .u8 11, .int .u8 c, .int .u64 set.a, .int .u64 set.b, .int .u64 set.c, .int .u64 set.d, .int .i64 mn, .int .i64 mx, .bool lz, .int .i64 nn, .slice a n cap]] w fun e w' => e = .returned (.agg #[.int .u8 9, .int .u8 0, .int .u64 0, .int .u64 0, .int .u64 0, .int .u64 0, .int .i64 0, .int .i64 0]) ∧ Kp w w' := by
  go_enter Tryz.func50, Tryz.ntmps50
  go_wp2_with fail
  refine bodyPost_ret (v := .agg #[.int .u8 9, .int .u8 0, .int .u64 0, .int .u64 0, .int .u64 0, .int .u64 0, .int .i64 0, .int .i64 0]) (by simp [results, Tryz.results50, go_sem]) rfl ⟨rfl, ?_⟩
  first | exact kp_alloc _ _ | exact kp_trans (kp_alloc _ _) (kp_alloc _ _) | exact kp_trans (kp_trans (kp_alloc _ _) (kp_drew _)) (kp_alloc _ _) | exact kp_trans (kp_trans (kp_alloc _ _) (kp_alloc _ _)) (kp_drew _)
theorem leaf_12 (c : Nat) (set : S4) (mn mx : Int) (lz : Bool) (nn : Int) (a : Option Addr) (n cap : Nat) (w : World) : Calls Tryz.prog 50 #[.agg #[.int .u8 12, .int .u8 c, .int .u64 set.a, .int .u64 set.b, .int .u64 set.c, .int .u64 set.d, .int .i64 mn, .int .i64 mx, .bool lz, .int .i64 nn, .slice a n cap]] w fun e w' => e = .returned (.agg #[.int .u8 10, .int .u8 0, .int .u64 0, .int .u64 0, .int .u64 0, .int .u64 0, .int .i64 0, .int .i64 0]) ∧ Kp w w' := by
  go_enter Tryz.func50, Tryz.ntmps50
  go_wp2_with fail
  refine bodyPost_ret (v := .agg #[.int .u8 10, .int .u8 0, .int .u64 0, .int .u64 0, .int .u64 0, .int .u64 0, .int .i64 0, .int .i64 0]) (by simp [results, Tryz.results50, go_sem]) rfl ⟨rfl, ?_⟩
  first | exact kp_alloc _ _ | exact kp_trans (kp_alloc _ _) (kp_alloc _ _) | exact kp_trans (kp_trans (kp_alloc _ _) (kp_drew _)) (kp_alloc _ _) | exact kp_trans (kp_trans (kp_alloc _ _) (kp_alloc _ _)) (kp_drew _)
theorem leaf_13 (c : Nat) (set : S4) (mn mx : Int) (lz : Bool) (nn : Int) (a : Option Addr) (n cap : Nat) (w : World) : Calls Tryz.prog 50 #[.agg #[.int .u8 13, .int .u8 c, .int .u64 set.a, .int .u64 set.b, .int .u64 set.c, .int .u64 set.d, .int .i64 mn, .int .i64 mx, .bool lz, .int .i64 nn, .slice a n cap]] w fun e w' => e = .returned (.agg #[.int .u8 11, .int .u8 0, .int .u64 0, .int .u64 0, .int .u64 0, .int .u64 0, .int .i64 0, .int .i64 0]) ∧ Kp w w' := by
  go_enter Tryz.func50, Tryz.ntmps50
  go_wp2_with fail
  refine bodyPost_ret (v := .agg #[.int .u8 11, .int .u8 0, .int .u64 0, .int .u64 0, .int .u64 0, .int .u64 0, .int .i64 0, .int .i64 0]) (by simp [results, Tryz.results50, go_sem]) rfl ⟨rfl, ?_⟩
  first | exact kp_alloc _ _ | exact kp_trans (kp_alloc _ _) (kp_alloc _ _) | exact kp_trans (kp_trans (kp_alloc _ _) (kp_drew _)) (kp_alloc _ _) | exact kp_trans (kp_trans (kp_alloc _ _) (kp_alloc _ _)) (kp_drew _)
theorem leaf_14 (c : Nat) (set : S4) (mn mx : Int) (lz : Bool) (nn : Int) (a : Option Addr) (n cap : Nat) (w : World) : Calls Tryz.prog 50 #[.agg #[.int .u8 14, .int .u8 c, .int .u64 set.a, .int .u64 set.b, .int .u64 set.c, .int .u64 set.d, .int .i64 mn, .int .i64 mx, .bool lz, .int .i64 nn, .slice a n cap]] w fun e w' => e = .returned (.agg #[.int .u8 6, .int .u8 0, .int .u64 0, .int .u64 0, .int .u64 0, .int .u64 0, .int .i64 20, .int .i64 0]) ∧ Kp w w' := by
  go_enter Tryz.func50, Tryz.ntmps50
  go_wp2_with fail
  refine bodyPost_ret (v := .agg #[.int .u8 6, .int .u8 0, .int .u64 0, .int .u64 0, .int .u64 0, .int .u64 0, .int .i64 20, .int .i64 0]) (by simp [results, Tryz.results50, go_sem]) rfl ⟨rfl, ?_⟩
  first | exact kp_alloc _ _ | exact kp_trans (kp_alloc _ _) (kp_alloc _ _) | exact kp_trans (kp_trans (kp_alloc _ _) (kp_drew _)) (kp_alloc _ _) | exact kp_trans (kp_trans (kp_alloc _ _) (kp_alloc _ _)) (kp_drew _)
theorem leaf_15 (c : Nat) (set : S4) (mn mx : Int) (lz : Bool) (nn : Int) (a : Option Addr) (n cap : Nat) (w : World) : Calls Tryz.prog 50 #[.agg #[.int .u8 15, .int .u8 c, .int .u64 set.a, .int .u64 set.b, .int .u64 set.c, .int .u64 set.d, .int .i64 mn, .int .i64 mx, .bool lz, .int .i64 nn, .slice a n cap]] w fun e w' => e = .returned (.agg #[.int .u8 6, .int .u8 0, .int .u64 0, .int .u64 0, .int .u64 0, .int .u64 0, .int .i64 21, .int .i64 0]) ∧ Kp w w' := by
  go_enter Tryz.func50, Tryz.ntmps50
  go_wp2_with fail
  refine bodyPost_ret (v := .agg #[.int .u8 6, .int .u8 0, .int .u64 0, .int .u64 0, .int .u64 0, .int .u64 0, .int .i64 21, .int .i64 0]) (by simp [results, Tryz.results50, go_sem]) rfl ⟨rfl, ?_⟩
  first | exact kp_alloc _ _ | exact kp_trans (kp_alloc _ _) (kp_alloc _ _) | exact kp_trans (kp_trans (kp_alloc _ _) (kp_drew _)) (kp_alloc _ _) | exact kp_trans (kp_trans (kp_alloc _ _) (kp_alloc _ _)) (kp_drew _)
theorem leaf_9 (c : Nat) (set : S4) (mn mx : Int) (lz : Bool) (nn : Int) (a : Option Addr) (n cap : Nat) (w : World) : Calls Tryz.prog 50 #[.agg #[.int .u8 9, .int .u8 c, .int .u64 set.a, .int .u64 set.b, .int .u64 set.c, .int .u64 set.d, .int .i64 mn, .int .i64 mx, .bool lz, .int .i64 nn, .slice a n cap]] w fun e w' => e = .returned (.agg #[.int .u8 7, .int .u8 0, .int .u64 0, .int .u64 0, .int .u64 0, .int .u64 0, .int .i64 nn, .int .i64 0]) ∧ Kp w w' := by
  go_enter Tryz.func50, Tryz.ntmps50
  go_wp2_with fail
  refine bodyPost_ret (v := .agg #[.int .u8 7, .int .u8 0, .int .u64 0, .int .u64 0, .int .u64 0, .int .u64 0, .int .i64 nn, .int .i64 0]) (by simp [results, Tryz.results50, go_sem]) rfl ⟨rfl, ?_⟩
  first | exact kp_alloc _ _ | exact kp_trans (kp_alloc _ _) (kp_alloc _ _) | exact kp_trans (kp_trans (kp_alloc _ _) (kp_drew _)) (kp_alloc _ _) | exact kp_trans (kp_trans (kp_alloc _ _) (kp_alloc _ _)) (kp_drew _)
theorem leaf_else (op c : Nat) (set : S4) (mn mx : Int) (lz : Bool) (nn : Int) (a : Option Addr) (n cap : Nat) (w : World) (h2 : op ≠ 2) (h4 : op ≠ 4) (h10 : op ≠ 10) (h11 : op ≠ 11) (h12 : op ≠ 12) (h13 : op ≠ 13) (h14 : op ≠ 14) (h15 : op ≠ 15) (h9 : op ≠ 9) : Calls Tryz.prog 50 #[.agg #[.int .u8 op, .int .u8 c, .int .u64 set.a, .int .u64 set.b, .int .u64 set.c, .int .u64 set.d, .int .i64 mn, .int .i64 mx, .bool lz, .int .i64 nn, .slice a n cap]] w fun e w' => e = .returned (.agg #[.int .u8 2, .int .u8 0, .int .u64 0, .int .u64 0, .int .u64 0, .int .u64 0, .int .i64 0, .int .i64 0]) ∧ Kp w w' := by
  have e2 : ((op : Int) == 2) = false := by simp; omega
  have e4 : ((op : Int) == 4) = false := by simp; omega
  have e10 : ((op : Int) == 10) = false := by simp; omega
  have e11 : ((op : Int) == 11) = false := by simp; omega
  have e12 : ((op : Int) == 12) = false := by simp; omega
  have e13 : ((op : Int) == 13) = false := by simp; omega
  have e14 : ((op : Int) == 14) = false := by simp; omega
  have e15 : ((op : Int) == 15) = false := by simp; omega
  have e9 : ((op : Int) == 9) = false := by simp; omega
  clear h2 h4 h10 h11 h12 h13 h14 h15 h9
  go_enter Tryz.func50, Tryz.ntmps50
  go_wp2_with fail
  refine bodyPost_ret (v := .agg #[.int .u8 2, .int .u8 0, .int .u64 0, .int .u64 0, .int .u64 0, .int .u64 0, .int .i64 0, .int .i64 0]) (by simp [results, Tryz.results50, go_sem]) rfl ⟨rfl, ?_⟩
  first | exact kp_alloc _ _ | exact kp_trans (kp_alloc _ _) (kp_alloc _ _) | exact kp_trans (kp_trans (kp_alloc _ _) (kp_drew _)) (kp_alloc _ _) | exact kp_trans (kp_trans (kp_alloc _ _) (kp_alloc _ _)) (kp_drew _)
theorem leaf_any (d : Nq) (a : Option Addr) (n cap : Nat) (w : World) : Calls Tryz.prog 50 #[d.val (.slice a n cap)] w fun e w' => e = .returned (leafI d).val ∧ Kp w w' := by
  obtain ⟨op, c, set, mn, mx, lz, nn, kids⟩ := d
  by_cases h2 : op = 2
  · subst h2
    exact leaf_2 c set mn mx lz nn a n cap w
  by_cases h4 : op = 4
  · subst h4
    exact leaf_4 c set mn mx lz nn a n cap w
  by_cases h10 : op = 10
  · subst h10
    exact leaf_10 c set mn mx lz nn a n cap w
  by_cases h11 : op = 11
  · subst h11
    exact leaf_11 c set mn mx lz nn a n cap w
  by_cases h12 : op = 12
  · subst h12
    exact leaf_12 c set mn mx lz nn a n cap w
  by_cases h13 : op = 13
  · subst h13
    exact leaf_13 c set mn mx lz nn a n cap w
  by_cases h14 : op = 14
  · subst h14
    exact leaf_14 c set mn mx lz nn a n cap w
  by_cases h15 : op = 15
  · subst h15
    exact leaf_15 c set mn mx lz nn a n cap w
  by_cases h9 : op = 9
  · subst h9
    exact leaf_9 c set mn mx lz nn a n cap w
  have e : leafI ⟨op, c, set, mn, mx, lz, nn, kids⟩ = { op := 2 } := by simp [leafI, h2, h4, h10, h11, h12, h13, h14, h15, h9]
  rw [e]
  exact leaf_else op c set mn mx lz nn a n cap w h2 h4 h10 h11 h12 h13 h14 h15 h9
end
end Go.Proofs.YtlgemficalcghaaGreat
/- The writer's callAll: what was laid is told where it goes. -/
namespace Go.Proofs.YtlgemficalcghaaGreat
open Go.ChangeShapes Go.WideShapes Go.ChangeAt Go.RowKit
set_option linter.unusedVariables false
set_option linter.unusedSimpArgs false
/-- Splits (jumps) at these places are told where they go. -/
def putS (lz : Bool) (e : Nat) (ps : List Nat) (cs : List Ins) : List Ins := ps.foldl (fun cs p => cs.set p (splitI lz p e)) cs
def putJ (e : Nat) (ps : List Nat) (cs : List Ins) : List Ins := ps.foldl (fun cs p => cs.set p (jumpI e)) cs
theorem putS_len (lz : Bool) (e : Nat) (ps : List Nat) (cs : List Ins) : (putS lz e ps cs).length = cs.length := by
  induction ps generalizing cs with
  | nil => rfl
  | cons p ps ih => unfold putS at *; rw [List.foldl_cons, ih]; simp
theorem putJ_len (e : Nat) (ps : List Nat) (cs : List Ins) : (putJ e ps cs).length = cs.length := by
  induction ps generalizing cs with
  | nil => rfl
  | cons p ps ih => unfold putJ at *; rw [List.foldl_cons, ih]; simp
/-- A list of splits' answers in memory. -/
def SRow (w0 : World) (wb : Nat) (cv : Value) (lz : Bool) (lv : Value) (ps : List Nat) (w : World) : Prop :=
  ∃ bs : List (Nat × Nat × Nat), bs.length = ps.length ∧ w.ownsRow w0.heap.size 1 1 lv ps.length (bs.map sclo) ∧ (∀ j, lv.ownBlock = some j → Offw w0 wb cv j) ∧ ∀ (i p : Nat) (b : Nat × Nat × Nat), ps[i]? = some p → bs[i]? = some b → SClo w0 wb cv lz p b w
def JRow (w0 : World) (wb : Nat) (cv : Value) (lv : Value) (ps : List Nat) (w : World) : Prop :=
  ∃ bs : List (Nat × Nat), bs.length = ps.length ∧ w.ownsRow w0.heap.size 1 1 lv ps.length (bs.map jclo) ∧ (∀ j, lv.ownBlock = some j → Offw w0 wb cv j) ∧ ∀ (i p : Nat) (b : Nat × Nat), ps[i]? = some p → bs[i]? = some b → JClo w0 wb cv p b w
section
variable {w0 : World} {wb : Nat} {v cv cv1 cv2 u lv : Value} {L : List Nq} {x : List Ins × Nat} {w w1 w2 : World} {b p : Nat} {t : TypeId} {S : Nat → Prop} {ps : List Nat} {lz : Bool}
theorem SRow.adv (h : SRow w0 wb cv lz lv ps w) (a : Adw wb cv w cv1 w1) : SRow w0 wb cv1 lz lv ps w1 := by
  obtain ⟨bs, h1, h2, h3, h4⟩ := h
  exact ⟨bs, h1, row_fr h2 a.fr fun j hj => (h3 j hj).not, fun j hj => (h3 j hj).adv a (h2.lt j hj).2, fun i p b hp hb => (h4 i p b hp hb).adv a⟩
theorem JRow.adv (h : JRow w0 wb cv lv ps w) (a : Adw wb cv w cv1 w1) : JRow w0 wb cv1 lv ps w1 := by
  obtain ⟨bs, h1, h2, h3, h4⟩ := h
  exact ⟨bs, h1, row_fr h2 a.fr fun j hj => (h3 j hj).not, fun j hj => (h3 j hj).adv a (h2.lt j hj).2, fun i p b hp hb => (h4 i p b hp hb).adv a⟩
theorem row1_cell {B e n : Nat} {a : Option Addr} {cap : Nat} {xs : List Value} (h : w.ownsRow B e 1 (.slice a n cap) n xs) {i : Nat} {y : Value} (hi : xs[i]? = some y) : ∃ g, a = some ⟨g, 0, none⟩ ∧ w.cell? ⟨g, i, none⟩ = some y := by
  have hlt := (List.getElem?_eq_some_iff.1 hi).1
  have hl := h.1
  rcases h.2 with ⟨_, q⟩ | ⟨g, cap', cur, e', hb, hg, h1, h2, h3, h4⟩
  · omega
  · injection e' with e' _ _
    refine ⟨g, e', ?_⟩
    rw [cell_at hg]
    rw [← h4, List.getElem?_take] at hi
    split at hi
    · rw [Array.getElem?_toList] at hi; exact hi
    · cases hi
theorem putS_get {i : Nat} {q : Nat} {lz : Bool} {e : Nat} {ps : List Nat} {cs : List Ins} (h : q ∉ ps) : (putS lz e ps cs)[q]? = cs[q]? := by
  induction ps generalizing cs with
  | nil => rfl
  | cons p ps ih =>
    simp only [List.mem_cons, not_or] at h
    unfold putS at *
    rw [List.foldl_cons, ih h.2, List.getElem?_set_ne (Ne.symm h.1)]
theorem putJ_get {q : Nat} {e : Nat} {ps : List Nat} {cs : List Ins} (h : q ∉ ps) : (putJ e ps cs)[q]? = cs[q]? := by
  induction ps generalizing cs with
  | nil => rfl
  | cons p ps ih =>
    simp only [List.mem_cons, not_or] at h
    unfold putJ at *
    rw [List.foldl_cons, ih h.2, List.getElem?_set_ne (Ne.symm h.1)]
set_option maxHeartbeats 2000000 in
theorem callAll_sf (h : Wr w0 wb v L x cv w) (hr : SRow w0 wb cv false lv ps w) (hn : ps.Nodup) (hp : ∀ p ∈ ps, x.1[p]? = some { op := 4 }) :
    Calls Tryz.prog 63 #[lv] w fun e w' => e = .returned (.tuple #[]) ∧ Wr w0 wb v L (putS false x.1.length ps x.1, x.2) cv w' ∧ Adw wb cv w cv w' := by
  obtain ⟨bs, h1, h2, h3, h4⟩ := id hr
  obtain ⟨la, lc, rfl, l1, l2⟩ := owns_form h2
  obtain ⟨K, hK⟩ : ∃ K, ps.length = K := ⟨_, rfl⟩
  have HI : Hid (Wr w0 wb v L x cv w ∧ SRow w0 wb cv false (.slice la K lc) ps w ∧ ps.Nodup ∧ (∀ p ∈ ps, x.1[p]? = some { op := 4 }) ∧ ps.length = K) := ⟨h, hK ▸ hr, hn, hp, hK⟩
  rw [hK] at l1 ⊢
  unfold maxLen at l2
  clear h hr hn hp hK h1 h2 h3 h4
  go_enter Tryz.func63, Tryz.ntmps63
  go_wp2_with fail
  go_loopw [6] (fun v6 wr => ∃ i : Nat, i ≤ K ∧ v6 = .int .i64 i ∧ Hid (Wr w0 wb v L (putS false x.1.length (ps.take i) x.1, x.2) cv wr ∧ Adw wb cv w cv wr)) (fun v6 _ => K - (intOf v6).toNat)
  case atStart => exact ⟨0, Nat.zero_le _, rfl, by simpa [putS] using HI.out.1, Adw.refl _ _ _⟩
  case round =>
    obtain ⟨i, hi, rfl, HQ⟩ := hrel
    by_cases hlt : i < K
    · have dl : decide ((i : Int) < (K : Int)) = true := decide_eq_true (by omega)
      obtain ⟨hW, hR, hn, hp, hK⟩ := HI.out
      obtain ⟨bs, h1, h2, h3, h4⟩ := hR.adv HQ.out.2
      have hpi : ps[i]? = some (ps[i]'(by omega)) := List.getElem?_eq_getElem (by omega)
      have hbi : bs[i]? = some (bs[i]'(by omega)) := List.getElem?_eq_getElem (by omega)
      obtain ⟨p, hpp⟩ : ∃ p, ps[i]'(by omega) = p := ⟨_, rfl⟩
      obtain ⟨⟨b1, b2, b3⟩, hbb⟩ : ∃ b, bs[i]'(by omega) = b := ⟨_, rfl⟩
      rw [hpp] at hpi
      rw [hbb] at hbi
      have hcl := h4 i _ _ hpi hbi
      have hnot : p ∉ ps.take i := by
        intro hm
        obtain ⟨j, hj⟩ := List.getElem?_of_mem hm
        rw [List.getElem?_take] at hj
        split at hj
        · rename_i hji
          have := (List.getElem?_inj (by omega) hn).1 (hj.trans hpi.symm)
          omega
        · cases hj
      have hpx : (putS false x.1.length (ps.take i) x.1)[p]? = some { op := 4 } := by rw [putS_get (i := 0) hnot]; exact hp p (List.mem_of_getElem? hpi)
      have hnext : putS false x.1.length (ps.take (i + 1)) x.1 = (putS false x.1.length (ps.take i) x.1).set p (splitI false p (putS false x.1.length (ps.take i) x.1).length) := by
        rw [putS_len, List.take_add_one, hpi]
        simp [putS]
      rw [hK] at h2
      obtain ⟨g, rfl, hc⟩ := row1_cell h2 (i := i) (y := sclo (b1, b2, b3)) (by simp [hbi])
      unfold sclo at hc
      simp only at hc
      have HC : Hid (Calls Tryz.prog 73 #[.pointer (some ⟨b1, 0, none⟩), .pointer (some ⟨b2, 0, none⟩), .pointer (some ⟨b3, 0, none⟩)] wr fun e w' => e = .returned (.tuple #[]) ∧ Wr w0 wb v L (putS false x.1.length (ps.take (i + 1)) x.1, x.2) cv w' ∧ Adw wb cv wr cv w') := by
        have := split1_f HQ.out.1 hcl hpx
        rw [← hnext] at this
        exact this
      clear hW hR hn hp hK h1 h2 h3 h4 hpi hbi hpp hbb hcl hnot hpx hnext
      go_wp2_with fail
      refine Calls.mono HC.out ?_
      rintro e w3 ⟨rfl, r1, r2⟩
      have HR : Hid (Wr w0 wb v L (putS false x.1.length (ps.take (i + 1)) x.1, x.2) cv w3 ∧ Adw wb cv w cv w3) := ⟨r1, HQ.out.2.trans r2⟩
      clear r1 r2 HC hc
      go_wp2_with fail
      go_roundw
      case rel => exact ⟨i + 1, by omega, by go_num, HR⟩
      case measure =>
        simp only [intOf]
        omega
    · have hiK : i = K := by omega
      subst hiK
      have dl : decide ((i : Int) < (i : Int)) = false := by simp
      go_wp2_with fail
      go_end0
      refine ⟨rfl, ?_, HQ.out.2⟩
      have := HQ.out.1
      rw [List.take_of_length_le (Nat.le_of_eq HI.out.2.2.2.2)] at this
      exact this
set_option maxHeartbeats 2000000 in
theorem callAll_st (h : Wr w0 wb v L x cv w) (hr : SRow w0 wb cv true lv ps w) (hn : ps.Nodup) (hp : ∀ p ∈ ps, x.1[p]? = some { op := 4 }) :
    Calls Tryz.prog 63 #[lv] w fun e w' => e = .returned (.tuple #[]) ∧ Wr w0 wb v L (putS true x.1.length ps x.1, x.2) cv w' ∧ Adw wb cv w cv w' := by
  obtain ⟨bs, h1, h2, h3, h4⟩ := id hr
  obtain ⟨la, lc, rfl, l1, l2⟩ := owns_form h2
  obtain ⟨K, hK⟩ : ∃ K, ps.length = K := ⟨_, rfl⟩
  have HI : Hid (Wr w0 wb v L x cv w ∧ SRow w0 wb cv true (.slice la K lc) ps w ∧ ps.Nodup ∧ (∀ p ∈ ps, x.1[p]? = some { op := 4 }) ∧ ps.length = K) := ⟨h, hK ▸ hr, hn, hp, hK⟩
  rw [hK] at l1 ⊢
  unfold maxLen at l2
  clear h hr hn hp hK h1 h2 h3 h4
  go_enter Tryz.func63, Tryz.ntmps63
  go_wp2_with fail
  go_loopw [6] (fun v6 wr => ∃ i : Nat, i ≤ K ∧ v6 = .int .i64 i ∧ Hid (Wr w0 wb v L (putS true x.1.length (ps.take i) x.1, x.2) cv wr ∧ Adw wb cv w cv wr)) (fun v6 _ => K - (intOf v6).toNat)
  case atStart => exact ⟨0, Nat.zero_le _, rfl, by simpa [putS] using HI.out.1, Adw.refl _ _ _⟩
  case round =>
    obtain ⟨i, hi, rfl, HQ⟩ := hrel
    by_cases hlt : i < K
    · have dl : decide ((i : Int) < (K : Int)) = true := decide_eq_true (by omega)
      obtain ⟨hW, hR, hn, hp, hK⟩ := HI.out
      obtain ⟨bs, h1, h2, h3, h4⟩ := hR.adv HQ.out.2
      have hpi : ps[i]? = some (ps[i]'(by omega)) := List.getElem?_eq_getElem (by omega)
      have hbi : bs[i]? = some (bs[i]'(by omega)) := List.getElem?_eq_getElem (by omega)
      obtain ⟨p, hpp⟩ : ∃ p, ps[i]'(by omega) = p := ⟨_, rfl⟩
      obtain ⟨⟨b1, b2, b3⟩, hbb⟩ : ∃ b, bs[i]'(by omega) = b := ⟨_, rfl⟩
      rw [hpp] at hpi
      rw [hbb] at hbi
      have hcl := h4 i _ _ hpi hbi
      have hnot : p ∉ ps.take i := by
        intro hm
        obtain ⟨j, hj⟩ := List.getElem?_of_mem hm
        rw [List.getElem?_take] at hj
        split at hj
        · rename_i hji
          have := (List.getElem?_inj (by omega) hn).1 (hj.trans hpi.symm)
          omega
        · cases hj
      have hpx : (putS true x.1.length (ps.take i) x.1)[p]? = some { op := 4 } := by rw [putS_get (i := 0) hnot]; exact hp p (List.mem_of_getElem? hpi)
      have hnext : putS true x.1.length (ps.take (i + 1)) x.1 = (putS true x.1.length (ps.take i) x.1).set p (splitI true p (putS true x.1.length (ps.take i) x.1).length) := by
        rw [putS_len, List.take_add_one, hpi]
        simp [putS]
      rw [hK] at h2
      obtain ⟨g, rfl, hc⟩ := row1_cell h2 (i := i) (y := sclo (b1, b2, b3)) (by simp [hbi])
      unfold sclo at hc
      simp only at hc
      have HC : Hid (Calls Tryz.prog 73 #[.pointer (some ⟨b1, 0, none⟩), .pointer (some ⟨b2, 0, none⟩), .pointer (some ⟨b3, 0, none⟩)] wr fun e w' => e = .returned (.tuple #[]) ∧ Wr w0 wb v L (putS true x.1.length (ps.take (i + 1)) x.1, x.2) cv w' ∧ Adw wb cv wr cv w') := by
        have := split1_t HQ.out.1 hcl hpx
        rw [← hnext] at this
        exact this
      clear hW hR hn hp hK h1 h2 h3 h4 hpi hbi hpp hbb hcl hnot hpx hnext
      go_wp2_with fail
      refine Calls.mono HC.out ?_
      rintro e w3 ⟨rfl, r1, r2⟩
      have HR : Hid (Wr w0 wb v L (putS true x.1.length (ps.take (i + 1)) x.1, x.2) cv w3 ∧ Adw wb cv w cv w3) := ⟨r1, HQ.out.2.trans r2⟩
      clear r1 r2 HC hc
      go_wp2_with fail
      go_roundw
      case rel => exact ⟨i + 1, by omega, by go_num, HR⟩
      case measure =>
        simp only [intOf]
        omega
    · have hiK : i = K := by omega
      subst hiK
      have dl : decide ((i : Int) < (i : Int)) = false := by simp
      go_wp2_with fail
      go_end0
      refine ⟨rfl, ?_, HQ.out.2⟩
      have := HQ.out.1
      rw [List.take_of_length_le (Nat.le_of_eq HI.out.2.2.2.2)] at this
      exact this
set_option maxHeartbeats 2000000 in
theorem callAll_j (h : Wr w0 wb v L x cv w) (hr : JRow w0 wb cv lv ps w) (hn : ps.Nodup) (hp : ∀ p ∈ ps, x.1[p]? = some { op := 5 }) :
    Calls Tryz.prog 63 #[lv] w fun e w' => e = .returned (.tuple #[]) ∧ Wr w0 wb v L (putJ x.1.length ps x.1, x.2) cv w' ∧ Adw wb cv w cv w' := by
  obtain ⟨bs, h1, h2, h3, h4⟩ := id hr
  obtain ⟨la, lc, rfl, l1, l2⟩ := owns_form h2
  obtain ⟨K, hK⟩ : ∃ K, ps.length = K := ⟨_, rfl⟩
  have HI : Hid (Wr w0 wb v L x cv w ∧ JRow w0 wb cv (.slice la K lc) ps w ∧ ps.Nodup ∧ (∀ p ∈ ps, x.1[p]? = some { op := 5 }) ∧ ps.length = K) := ⟨h, hK ▸ hr, hn, hp, hK⟩
  rw [hK] at l1 ⊢
  unfold maxLen at l2
  clear h hr hn hp hK h1 h2 h3 h4
  go_enter Tryz.func63, Tryz.ntmps63
  go_wp2_with fail
  go_loopw [6] (fun v6 wr => ∃ i : Nat, i ≤ K ∧ v6 = .int .i64 i ∧ Hid (Wr w0 wb v L (putJ x.1.length (ps.take i) x.1, x.2) cv wr ∧ Adw wb cv w cv wr)) (fun v6 _ => K - (intOf v6).toNat)
  case atStart => exact ⟨0, Nat.zero_le _, rfl, by simpa [putJ] using HI.out.1, Adw.refl _ _ _⟩
  case round =>
    obtain ⟨i, hi, rfl, HQ⟩ := hrel
    by_cases hlt : i < K
    · have dl : decide ((i : Int) < (K : Int)) = true := decide_eq_true (by omega)
      obtain ⟨hW, hR, hn, hp, hK⟩ := HI.out
      obtain ⟨bs, h1, h2, h3, h4⟩ := hR.adv HQ.out.2
      have hpi : ps[i]? = some (ps[i]'(by omega)) := List.getElem?_eq_getElem (by omega)
      have hbi : bs[i]? = some (bs[i]'(by omega)) := List.getElem?_eq_getElem (by omega)
      obtain ⟨p, hpp⟩ : ∃ p, ps[i]'(by omega) = p := ⟨_, rfl⟩
      obtain ⟨⟨b1, b2⟩, hbb⟩ : ∃ b, bs[i]'(by omega) = b := ⟨_, rfl⟩
      rw [hpp] at hpi
      rw [hbb] at hbi
      have hcl := h4 i _ _ hpi hbi
      have hnot : p ∉ ps.take i := by
        intro hm
        obtain ⟨j, hj⟩ := List.getElem?_of_mem hm
        rw [List.getElem?_take] at hj
        split at hj
        · rename_i hji
          have := (List.getElem?_inj (by omega) hn).1 (hj.trans hpi.symm)
          omega
        · cases hj
      have hpx : (putJ x.1.length (ps.take i) x.1)[p]? = some { op := 5 } := by rw [putJ_get hnot]; exact hp p (List.mem_of_getElem? hpi)
      have hnext : putJ x.1.length (ps.take (i + 1)) x.1 = (putJ x.1.length (ps.take i) x.1).set p (jumpI (putJ x.1.length (ps.take i) x.1).length) := by
        rw [putJ_len, List.take_add_one, hpi]
        simp [putJ]
      rw [hK] at h2
      obtain ⟨g, rfl, hc⟩ := row1_cell h2 (i := i) (y := jclo (b1, b2)) (by simp [hbi])
      unfold jclo at hc
      simp only at hc
      have HC : Hid (Calls Tryz.prog 75 #[.pointer (some ⟨b1, 0, none⟩), .pointer (some ⟨b2, 0, none⟩)] wr fun e w' => e = .returned (.tuple #[]) ∧ Wr w0 wb v L (putJ x.1.length (ps.take (i + 1)) x.1, x.2) cv w' ∧ Adw wb cv wr cv w') := by
        have := jump1_any HQ.out.1 hcl hpx
        rw [← hnext] at this
        exact this
      clear hW hR hn hp hK h1 h2 h3 h4 hpi hbi hpp hbb hcl hnot hpx hnext
      go_wp2_with fail
      refine Calls.mono HC.out ?_
      rintro e w3 ⟨rfl, r1, r2⟩
      have HR : Hid (Wr w0 wb v L (putJ x.1.length (ps.take (i + 1)) x.1, x.2) cv w3 ∧ Adw wb cv w cv w3) := ⟨r1, HQ.out.2.trans r2⟩
      clear r1 r2 HC hc
      go_wp2_with fail
      go_roundw
      case rel => exact ⟨i + 1, by omega, by go_num, HR⟩
      case measure =>
        simp only [intOf]
        omega
    · have hiK : i = K := by omega
      subst hiK
      have dl : decide ((i : Int) < (i : Int)) = false := by simp
      go_wp2_with fail
      go_end0
      refine ⟨rfl, ?_, HQ.out.2⟩
      have := HQ.out.1
      rw [List.take_of_length_le (Nat.le_of_eq HI.out.2.2.2.2)] at this
      exact this
end
end Go.Proofs.YtlgemficalcghaaGreat
