/- An argument of calls. -/
import Derived.Test.YtfnhbjokokjhfabLaw2
namespace Go.Proofs.Ytfnhbjokokjhfab
open Go.ChangeShapes Go.WideShapes Go.ChangeAt Go.RowKit
structure OpD where
  kind : Nat
  i : Int
  n : Int
  s : ByteArray
  lv : Value
  l : List ByteArray
/-- What is said of a call that is read. -/
structure OpOk (W : World) (p : OpD) : Prop where
  kind : p.kind < 256
  i : -9223372036854775808 ≤ p.i ∧ p.i ≤ 9223372036854775807
  n : -9223372036854775808 ≤ p.n ∧ p.n ≤ 9223372036854775807
  l : Lies nobody W p.lv p.l
  nn : ∀ n c, p.lv = .slice none n c → n = 0 ∧ c = 0
structure OpSz (p : OpD) : Prop where
  s : p.s.size ≤ reachBytes
  l : ∀ y ∈ p.l, y.size ≤ reachBytes
/-- The cells of a call. -/
def OpAt (W : World) (b off : Nat) (p : OpD) : Prop := W.cell? ⟨b, off, none⟩ = some (.int .u8 p.kind) ∧ W.cell? ⟨b, off + 1, none⟩ = some (.int .i64 p.i) ∧ W.cell? ⟨b, off + 2, none⟩ = some (.int .i64 p.n) ∧ W.cell? ⟨b, off + 3, none⟩ = some (.string p.s) ∧ W.cell? ⟨b, off + 4, none⟩ = some p.lv
/-- The slice 'v' has the calls 'ps'. -/
def OpsAt (W : World) (v : Value) (ps : List OpD) : Prop :=
  ∃ a cap, v = .slice a ps.length cap ∧ ps.length ≤ cap ∧ cap ≤ maxLen ∧ (ps = [] ∨ ∃ b off, a = some ⟨b, off, none⟩ ∧ b < W.heap.size ∧ ∀ (j : Nat) p, ps[j]? = some p → OpAt W b (off + j * 5) p ∧ OpOk W p)
theorem underOp : (Try.prog.underlying 33).map (fun | .struct fs => fs.toList.map (fun f => (f.type, f.offset)) | _ => []) = some [(5, 0), (3, 1), (3, 2), (9, 3), (22, 4)] := by kernel_rfl
theorem underOps : Try.prog.underlying 23 = some (.slice 33) := by kernel_rfl
theorem cellsOp : Try.prog.cellsOf 33 = 5 := by kernel_rfl
theorem cellsUB : Try.prog.cellsOf 5 = 1 := by kernel_rfl
theorem cellsInt : Try.prog.cellsOf 3 = 1 := by kernel_rfl
theorem cellsStrs : Try.prog.cellsOf 22 = 1 := by kernel_rfl
theorem underUB : Try.prog.underlying 5 = some (.int .u8) := by kernel_rfl
theorem op_cells {H : Type} {enc : TypeId × Value → H} {W : World} {fuel : Nat} {cs : List Value} {x : DataW H × List MemPlace} (h : DataW.trod enc Try.prog W 0 (fun _ => true) true fuel 33 cs = some x) :
    ∃ p : OpD, cs = [.int .u8 p.kind, .int .i64 p.i, .int .i64 p.n, .string p.s, p.lv] ∧ OpOk W p ∧ ((∀ n ∈ x.1.weights Try.prog 33, n ≤ reachBytes) → OpSz p) := by
  have hu := underOp
  rw [Option.map_eq_some_iff] at hu
  obtain ⟨ty, hty, hfs⟩ := hu
  match ty, hty, hfs with
  | .struct fs, hty, hfs =>
    simp only at hfs
    obtain ⟨xs, n, _, rfl, hcl, hxl, hf⟩ := DataW.trod_struct hty h
    rw [cellsOp] at hcl
    match cs, hcl with
    | [k0, k1, k2, k3, k4], _ =>
      obtain ⟨fl⟩ := fs
      match fl, hfs with
      | [f0, f1, f2, f3, f4], hfs =>
        simp only [List.map_cons, List.map_nil, List.cons.injEq, Prod.mk.injEq, and_true] at hfs
        obtain ⟨⟨t0, o0⟩, ⟨t1, o1⟩, ⟨t2, o2⟩, ⟨t3, o3⟩, ⟨t4, o4⟩⟩ := hfs
        match xs, hxl with
        | [y0, y1, y2, y3, y4], _ =>
          have g0 := hf 0 f0 rfl
          have g1 := hf 1 f1 rfl
          have g2 := hf 2 f2 rfl
          have g3 := hf 3 f3 rfl
          have g4 := hf 4 f4 rfl
          rw [t0, o0, cellsUB] at g0
          rw [t1, o1, cellsInt] at g1
          rw [t2, o2, cellsInt] at g2
          rw [t3, o3, cells9] at g3
          rw [t4, o4, cellsStrs] at g4
          obtain ⟨a0, e0, r0, w0⟩ := DataW.trod_int underUB g0
          obtain ⟨a1, e1, r1, w1⟩ := DataW.trod_int under3 g1
          obtain ⟨a2, e2, r2, w2⟩ := DataW.trod_int under3 g2
          obtain ⟨a3, e3, r3, w3⟩ := DataW.trod_string under9 g3
          simp at e0 e1 e2 e3
          have g4' : DataW.trod enc Try.prog W 0 (fun _ => true) true n 22 [k4] = some (y4.1, y4.2) := g4
          obtain ⟨l, hl, hlz⟩ := strs_cells g4'
          have hnn : ∀ n c, k4 = .slice none n c → n = 0 ∧ c = 0 := by
            rcases Deep.open_strs under22 under9 cells9 g4' with ⟨hcs, _⟩ | ⟨a, len, cap, m, Sx, hcs, _⟩
            · intro n c e
              simp at hcs
              rw [hcs] at e; cases e; exact ⟨rfl, rfl⟩
            · intro n c e
              simp at hcs
              rw [hcs] at e; cases e
          simp only [Lit.wf, Bool.and_eq_true, decide_eq_true_eq] at w0
          have q1 : IntKind.u8.min = 0 := by decide
          have q2 : IntKind.u8.max = 255 := by decide
          refine ⟨⟨a0.toNat, a1, a2, a3, k4, l⟩, ?_, ⟨?_, i64_range w1, i64_range w2, hl, hnn⟩, fun hw => ?_⟩
          · rw [e0, e1, e2, e3, Int.toNat_of_nonneg (by omega)]
          · show a0.toNat < 256; omega
          · have hw' : ∀ n ∈ (DataW.agg [y0.1, y1.1, y2.1, y3.1, y4.1] : DataW H).weights Try.prog 33, n ≤ reachBytes := hw
            simp only [DataW.weights, hty, List.map_cons, List.map_nil, DataW.weightsEach, List.mem_append, t0, t1, t2, t3, t4] at hw'
            refine ⟨str_sized (H := H) (bs := a3) (fun m hm => hw' m ?_), hlz fun m hm => hw' m ?_⟩
            · rw [r3]; exact .inr (.inr (.inr (.inl hm)))
            · exact .inr (.inr (.inr (.inr (.inl hm))))
theorem ops_form {H : Type} {enc : TypeId × Value → H} {W : World} {base : Nat} {v : Value} {d : DataW H} {p : List MemPlace} (hval : Value.okWide Try.prog W .any base 23 v) (h : DataW.Trod enc Try.prog W 0 (fun _ => true) true 23 v d p) :
    ∃ ps, OpsAt W v ps ∧ ((∀ n ∈ d.weights Try.prog 23, n ≤ reachBytes) → ∀ p ∈ ps, OpSz p) := by
  obtain ⟨a0, len0, cap0, rfl⟩ := okWide_slice underOps hval
  obtain ⟨fuel, hf⟩ := h
  rcases Deep.open_slice underOps hf with ⟨hcs, hx⟩ | ⟨a, len, cap, m, n, D, Pl, hcs, _, hl, hm, hmm, hx, hcell⟩
  · simp [Value.cells] at hcs
    obtain ⟨rfl, rfl, rfl⟩ := hcs
    exact ⟨[], ⟨none, 0, rfl, by simp, by simp [maxLen], .inl rfl⟩, fun _ p hp => by cases hp⟩
  · simp [Value.cells] at hcs
    obtain ⟨rfl, rfl, rfl⟩ := hcs
    simp only [if_true] at hmm
    subst hmm
    simp only [Prod.mk.injEq] at hx
    rw [cellsOp] at hcell
    have each : ∀ i, i < m → ∃ p : OpD, (∀ c j, [Value.int .u8 p.kind, .int .i64 p.i, .int .i64 p.n, .string p.s, p.lv][j]? = some c → W.cell? ((a.add (i * 5)).add j) = some c) ∧ OpOk W p ∧ ((∀ n ∈ (D i).weights Try.prog 33, n ≤ reachBytes) → OpSz p) := fun i hi => by
      obtain ⟨cs', h1, h2⟩ := hcell i hi
      obtain ⟨p, e, r1, r2⟩ := op_cells h2
      obtain ⟨_, hlen, hc⟩ := World.cells?_some h1
      refine ⟨p, fun c j hj => ?_, r1, r2⟩
      rw [hc j (by have := (List.getElem?_eq_some_iff.1 hj).1; simpa using this), e]; exact hj
    haveI : Inhabited OpD := ⟨⟨0, 0, 0, ⟨#[]⟩, .slice none 0 0, []⟩⟩
    obtain ⟨F, hF⟩ := Deep.choose_lt each
    refine ⟨(List.range len0).map F, ⟨some a, m, by simp, by simpa using hl, hm, ?_⟩, fun hw p hp => ?_⟩
    · by_cases h0 : len0 = 0
      · left; subst h0; rfl
      · right
        obtain ⟨b, off, spot⟩ := a
        have hspot : spot = none := by
          have := (hF 0 (by omega)).1 _ 0 rfl
          simpa [Addr.add] using World.cell?_spot this
        subst hspot
        have hc : ∀ i, i < m → OpAt W b (off + i * 5) (F i) := fun i hi => by
          have q := (hF i hi).1
          have e : ∀ j, ((⟨b, off, none⟩ : Addr).add (i * 5)).add j = ⟨b, off + i * 5 + j, none⟩ := fun j => by rw [add_plain, add_plain]
          refine ⟨?_, ?_, ?_, ?_, ?_⟩
          · have := q _ 0 rfl; rw [e] at this; exact this
          · have := q _ 1 rfl; rw [e] at this; exact this
          · have := q _ 2 rfl; rw [e] at this; exact this
          · have := q _ 3 rfl; rw [e] at this; exact this
          · have := q _ 4 rfl; rw [e] at this; exact this
        refine ⟨b, off, rfl, ?_, fun j p hj => ?_⟩
        · exact World.block_lt_of_cell? _ _ (hc 0 (by omega)).1
        · simp only [List.getElem?_map, Option.map_eq_some_iff] at hj
          obtain ⟨i, hi, rfl⟩ := hj
          obtain ⟨hlt, hi⟩ := List.getElem?_eq_some_iff.1 hi
          simp at hi hlt
          subst hi
          exact ⟨hc j (by omega), (hF j (by omega)).2.1⟩
    · obtain ⟨i, hi, rfl⟩ := List.mem_map.1 hp
      have hi' : i < len0 := by simpa using hi
      refine (hF i (by omega)).2.2 fun n hn => ?_
      rw [hx.1] at hw
      refine hw n ?_
      simp only [DataW.weights, underOps]
      exact List.mem_cons_of_mem _ (List.mem_append_left _ (weights_mem (List.mem_map.2 ⟨i, hi, rfl⟩) hn))
end Go.Proofs.Ytfnhbjokokjhfab
