/- Texts that the proof of the law stands on: RL, RM, RO, WN, WA, RN, WK, SA. -/
import Derived.Test.YtbnlenanfhggiaaPartD
import Derived.Test.YtbnlenanfhggiaaRows
import Derived.Lib.SmallJoins
import Derived.OpenShut
import Derived.Deep.Slices
import Derived.Deep.Strs
/- known: the chapter's examples. -/
namespace Go.Proofs.Ytbnlenanfhggiaa
open Go.ChangeShapes Go.WideShapes Go.ChangeAt Go.RowKit Go.Maps Go.MapKept
set_option linter.unusedVariables false
set_option linter.unusedSimpArgs false
set_option maxRecDepth 100000
theorem eql_ptrR (t : Nat) (w : World) : Sem.run Try.prog (binOp BinOp.eql 30 (.pointer (some ⟨t, 0, none⟩)) (.pointer none)) w = .ok (.bool false) w := by kernel_rfl
set_option maxHeartbeats 8000000 in
theorem rknown_any (w : World) : Calls Try.prog 10 #[] w fun e w' => e = .returned (.bool true) ∧ Kp w w' := by
  have HN : Hid (Calls Try.prog 11 #[] w fun e w' => ∃ t b, e = .returned (.pointer (some ⟨t, 0, none⟩)) ∧ Hid (Rs t b (fun _ => none) Anyw w' ∧ Kp w w' ∧ w.heap.size ≤ b)) := by
    refine (gnew_any (P := Anyw) w).mono ?_
    rintro e w' ⟨t, b, he, q1, q2, _, q3⟩
    exact ⟨t, b, he, q1, q2, q3⟩
  go_enter Try.func10, Try.ntmps10
  go_wp2_with fail
  refine Calls.mono HN.out ?_
  rintro e x1 ⟨t, b, rfl, H1⟩
  have hq := eql_ptrR t
  clear HN
  have HY1 : Hid _ := yank_one H1.out.1 (x := 97) (by omega) (by omega) 120 true rfl
  go_wp2_with fail
  refine Calls.mono HY1.out ?_
  rintro e x2 ⟨n2, rfl, H2⟩
  clear HY1
  have HY2 : Hid _ := yank_one H2.out.1 (x := 65) (by omega) (by omega) 121 true rfl
  go_wp2_with fail
  refine Calls.mono HY2.out ?_
  rintro e x3 ⟨n3, rfl, H3⟩
  have HR3 : Hid (Rs t b kF2 Anyw x3) := H3.out.1
  have HK3 : Hid (Kp w x3) := kp_fr (kp_fr H1.out.2.1 H2.out.2 H1.out.2.2) H3.out.2 H1.out.2.2
  have HB : Hid (w.heap.size ≤ b) := H1.out.2.2
  clear HY2 H1 H2 H3
  have HG : Hid _ := get_some HR3.out (x := 97) (by omega) (by omega) kp1 kp2
  go_wp2_with fail
  refine Calls.mono HG.out ?_
  rintro e x4 ⟨a4, n4, c4, rfl, hn4, hc4, hd4, H4⟩
  obtain rfl : n4 = 2 := hn4
  clear HG
  obtain ⟨W4, hW4⟩ : ∃ W4, x4.alloc (.cells #[.slice a4 2 c4, .bool true] 24) = W4 := ⟨_, rfl⟩
  have hb4 : Lc 24 x4.heap.size [.slice a4 2 c4, .bool true] W4 := by rw [← hW4]; exact Lc.new x4 _ _
  have k4 : Kp x4 W4 := by rw [← hW4]; exact kp_alloc _ _
  have HS4 : Hid (Lc 24 x4.heap.size [.slice a4 2 c4, .bool true] W4 ∧ Sl Anyw (.slice a4 2 c4) [s1 120, s1 121] W4 ∧ Rs t b kF2 Anyw W4 ∧ Kp w W4) := ⟨hb4, ((Sl.of_row H4.out.1).mono fun _ _ _ => trivial).kp k4, (HR3.out.kp H4.out.2).kp k4, kp_trans (kp_trans HK3.out H4.out.2) k4⟩
  have HW : Hid (_ = W4) := hW4
  have HC1 : Hid _ := cut_one HS4.out.2.2.1 (x := 34) (by omega) (by omega) 112 false rfl
  obtain ⟨b4, hb4'⟩ : ∃ b4, x4.heap.size = b4 := ⟨_, rfl⟩
  rw [hb4'] at HS4
  clear hW4 hb4 k4 H4 HR3 HK3
  go_upto_region 7 with fail
  rw [HW.out]
  clear HW
  go_wp2_with fail
  refine Calls.mono HC1.out ?_
  rintro e x5 ⟨n5, rfl, H5⟩
  clear HC1
  have HC2 : Hid _ := cut_one H5.out.1 (x := 34) (by omega) (by omega) 113 false rfl
  go_wp2_with fail
  refine Calls.mono HC2.out ?_
  rintro e x6 ⟨n6, rfl, H6⟩
  clear HC2
  have HR6 : Hid (Rs t b kF4 Anyw x6 ∧ Fr (On b) W4 x6) := ⟨H6.out.1, H5.out.2.trans H6.out.2⟩
  clear H5 H6
  have HG : Hid _ := get_some HR6.out.1 (x := 50) (by omega) (by omega) kp3 kp4
  go_wp2_with fail
  refine Calls.mono HG.out ?_
  rintro e x7 ⟨a7, n7, c7, rfl, hn7, hc7, hd7, H7⟩
  obtain rfl : n7 = 1 := hn7
  clear HG
  obtain ⟨W7, hW7⟩ : ∃ W7, x7.alloc (.cells #[.slice a7 1 c7, .bool false] 24) = W7 := ⟨_, rfl⟩
  have hb7 : Lc 24 x7.heap.size [.slice a7 1 c7, .bool false] W7 := by rw [← hW7]; exact Lc.new x7 _ _
  have k7 : Kp x7 W7 := by rw [← hW7]; exact kp_alloc _ _
  have HS7 : Hid (Lc 24 x7.heap.size [.slice a7 1 c7, .bool false] W7 ∧ Sl Anyw (.slice a7 1 c7) [s1 112] W7 ∧ Rs t b kF4 Anyw W7 ∧ Kp x6 W7) := ⟨hb7, ((Sl.of_row H7.out.1).mono fun _ _ _ => trivial).kp k7, (HR6.out.1.kp H7.out.2).kp k7, kp_trans H7.out.2 k7⟩
  have HW : Hid (_ = W7) := hW7
  have HG : Hid _ := get_some HS7.out.2.2.1 (x := 51) (by omega) (by omega) kp5 kp6
  obtain ⟨b7, hb7'⟩ : ∃ b7, x7.heap.size = b7 := ⟨_, rfl⟩
  rw [hb7'] at HS7
  clear hW7 hb7 k7 H7
  go_upto_region 10 with fail
  rw [HW.out]
  clear HW
  go_wp2_with fail
  refine Calls.mono HG.out ?_
  rintro e x8 ⟨a8, n8, c8, rfl, hn8, hc8, hd8, H8⟩
  obtain rfl : n8 = 0 := hn8
  clear HG
  obtain ⟨W8, hW8⟩ : ∃ W8, x8.alloc (.cells #[.slice a8 0 c8, .bool false] 24) = W8 := ⟨_, rfl⟩
  have k8 : Kp W7 W8 := by rw [← hW8]; exact kp_trans H8.out.2 (kp_alloc _ _)
  have kk : Kp x6 W8 := kp_trans HS7.out.2.2.2 k8
  have l4 := (HS4.out.2.2.1.box_off HS4.out.1 HR6.out.2).kp kk
  have s4 := (HS4.out.2.2.1.sl_off HS4.out.2.1 HR6.out.2).kp kk
  have l7 := HS7.out.1.kp k8
  have s7 := HS7.out.2.1.kp k8
  obtain ⟨g4, o4, rfl, _, e4⟩ := s4.at_ (i := 1) rfl
  obtain ⟨g7, o7, rfl, _, e7⟩ := s7.at_ (i := 0) rfl
  have u1 := l4.at (j := 0) rfl
  have u2 := l4.at (j := 1) rfl
  have u3 := l7.at (j := 0) rfl
  rw [Nat.add_zero] at e7
  unfold s1 at e4 e7
  have HE : Hid (Kp w W8) := kp_trans (kp_fr HS4.out.2.2.2 HR6.out.2 HB.out) kk
  have HW : Hid (_ = W8) := hW8
  clear hW8 k8 kk l4 s4 l7 s7 HS4 HS7 HR6 H8 HB
  go_upto_region 11 with fail
  rw [HW.out]
  clear HW
  go_wp2_with fail
  go_ret
  exact ⟨rfl, HE.out⟩
end Go.Proofs.Ytbnlenanfhggiaa
/- heavy: it answers something; Same of registers that are the same. -/
namespace Go.Proofs.Ytbnlenanfhggiaa
open Go.ChangeShapes Go.WideShapes Go.ChangeAt Go.RowKit Go.Maps Go.MapKept
set_option linter.unusedVariables false
set_option linter.unusedSimpArgs false
set_option maxRecDepth 100000
/-- A call, as it is handed in. -/
structure Op11 where
  kd : Nat
  nm : Nat
  lv : Value
  r : Rv
/-- Calls that can be read. -/
def OpsL (P : Nat → Prop) (v : Value) (l : List Op11) (w : World) : Prop :=
  ∃ a cap, v = .slice a l.length cap ∧ l.length ≤ cap ∧ cap ≤ maxLen ∧ ∀ (i : Nat) (o : Op11), l[i]? = some o → ∃ B off, a = some ⟨B, off, none⟩ ∧ w.cell? ⟨B, off + i * 4, none⟩ = some (.int .u8 o.kd) ∧ w.cell? ⟨B, off + i * 4 + 1, none⟩ = some (.int .u8 o.nm) ∧ w.cell? ⟨B, off + i * 4 + 2, none⟩ = some o.lv ∧ w.cell? ⟨B, off + i * 4 + 3, none⟩ = some (.bool o.r.wh) ∧ Sl P o.lv o.r.ls w
theorem OpsL.kp {P : Nat → Prop} {v : Value} {l : List Op11} {w w1 : World} (h : OpsL P v l w) (k : Kp w w1) : OpsL P v l w1 := by
  obtain ⟨a, cap, rfl, h1, h2, h3⟩ := h
  refine ⟨a, cap, rfl, h1, h2, fun i o hi => ?_⟩
  obtain ⟨B, off, e, q1, q2, q3, q4, q5⟩ := h3 i o hi
  exact ⟨B, off, e, kp_cell k q1, kp_cell k q2, kp_cell k q3, kp_cell k q4, q5.kp k⟩
set_option maxHeartbeats 4000000 in
theorem heavy_any {P : Nat → Prop} {v : Value} {l : List Op11} {w : World} (h : OpsL P v l w) :
    Calls Try.prog 9 #[v] w fun e w' => ∃ hb, e = .returned (.bool hb) ∧ w' = w := by
  obtain ⟨va, vc, rfl, v1, v2, hc⟩ := h
  obtain ⟨N, hN⟩ : ∃ N, l.length = N := ⟨_, rfl⟩
  have HC : Hid (∀ i, i < N → ∃ B off a n c ls, va = some ⟨B, off, none⟩ ∧ w.cell? ⟨B, off + i * 4 + 2, none⟩ = some (.slice a n c) ∧ Sl P (.slice a n c) ls w ∧ n = ls.length ∧ n ≤ c ∧ c ≤ maxLen) := fun i hi => by
    obtain ⟨o, ho⟩ : ∃ o, l[i]? = some o := ⟨_, List.getElem?_eq_getElem (by omega)⟩
    obtain ⟨B, off, e, q1, q2, q3, q4, q5⟩ := hc i o ho
    obtain ⟨a, c, e2, r1, r2, _⟩ := q5.form
    rw [e2] at q3 q5
    exact ⟨B, off, a, _, c, _, e, q3, q5, rfl, r1, r2⟩
  rw [hN] at v1 ⊢
  unfold maxLen at v2
  clear hc hN
  go_enter Try.func9, Try.ntmps9
  go_wp2_with fail
  go_loopw [3, 4] (fun v3 v4 wr => ∃ (i : Nat) (z : Int), i ≤ N ∧ v4 = .int .i64 i ∧ v3 = .int .i64 z ∧ w = wr) (fun _ v4 _ => N - (intOf v4).toNat)
  case atStart => exact ⟨0, _, Nat.zero_le _, rfl, rfl, rfl⟩
  case round =>
    obtain ⟨i, z, hi, rfl, rfl, rfl⟩ := hrel
    by_cases hlt : i < N
    · have dl : decide ((i : Int) < (N : Int)) = true := decide_eq_true (by omega)
      have dl2 : decide (i < N) = true := decide_eq_true (by omega)
      obtain ⟨B, off, a, n, c, ls, rfl, c2, hsl, hn, hnc, hcm⟩ := HC.out i hlt
      unfold maxLen at hcm
      have HSL : Hid (Sl P (.slice a n c) ls w ∧ n = ls.length) := ⟨hsl, hn⟩
      clear hsl hn
      go_wp2_with fail
      go_loopw [3, 5] (fun v3 v5 wr => ∃ (k : Nat) (z : Int), k ≤ n ∧ v5 = .int .i64 k ∧ v3 = .int .i64 z ∧ w = wr) (fun _ v5 _ => n - (intOf v5).toNat)
      case atStart => exact ⟨0, _, Nat.zero_le _, rfl, rfl, rfl⟩
      case round =>
        obtain ⟨k, z, hk, rfl, rfl, rfl⟩ := hrel
        by_cases hkn : k < n
        · have dk : decide ((k : Int) < (n : Int)) = true := decide_eq_true (by omega)
          have dk2 : decide (k < n) = true := decide_eq_true (by omega)
          obtain ⟨s, hs⟩ : ∃ s, ls[k]? = some s := ⟨_, List.getElem?_eq_getElem (by have := HSL.out.2; omega)⟩
          obtain ⟨g, o, rfl, _, hc⟩ := HSL.out.1.at_ hs
          clear hs
          go_wp2_with fail
          go_roundw
          case rel => exact ⟨k + 1, _, by omega, by go_num, rfl, trivial⟩
          case measure => simp only [intOf]; omega
        · obtain rfl : k = n := by omega
          have dk : decide ((k : Int) < (k : Int)) = false := by simp
          go_wp2_with fail
          go_roundw
          case rel => exact ⟨i + 1, _, by omega, by go_num, rfl, trivial⟩
          case measure => simp only [intOf]; omega
    · obtain rfl : i = N := by omega
      have dl : decide ((i : Int) < (i : Int)) = false := by simp
      by_cases q1 : 100 < i
      · have e1 : decide ((100 : Int) < (i : Int)) = true := decide_eq_true (by omega)
        have e2 : decide ((i : Int) > 100) = true := decide_eq_true (by omega)
        go_wp2_with fail
        go_ret
        exact ⟨_, rfl, rfl⟩
      · have e1 : decide ((100 : Int) < (i : Int)) = false := decide_eq_false (by omega)
        have e2 : decide ((i : Int) > 100) = false := decide_eq_false (by omega)
        go_wp2_with fail
        go_ret
        exact ⟨_, rfl, rfl⟩
end Go.Proofs.Ytbnlenanfhggiaa
/- Registers and calls that are handed in. -/
namespace Go.Proofs.Ytbnlenanfhggiaa
open Go.ChangeShapes Go.WideShapes Go.ChangeAt Go.RowKit
set_option linter.unusedVariables false
set_option linter.unusedSimpArgs false
set_option maxRecDepth 100000
theorem fU8 {a : Int} (w : (Lit.int .u8 a).wf = true) : 0 ≤ a ∧ a < 256 := by
  have h : (decide (IntKind.u8.min ≤ a) && decide (a ≤ IntKind.u8.max)) = true := w
  rw [Bool.and_eq_true, decide_eq_true_eq, decide_eq_true_eq] at h
  have e1 : IntKind.u8.min = 0 := by decide
  have e2 : IntKind.u8.max = 255 := by decide
  omega
theorem underReg : (Try.prog.underlying 24).map (fun | .struct fs => fs.toList.map (fun f => (f.type, f.offset)) | _ => []) = some [(22, 0), (4, 1)] := by kernel_rfl
theorem underOp : (Try.prog.underlying 27).map (fun | .struct fs => fs.toList.map (fun f => (f.type, f.offset)) | _ => []) = some [(5, 0), (5, 1), (24, 2)] := by kernel_rfl
theorem cReg : Try.prog.cellsOf 24 = 2 := by kernel_rfl
theorem cOp : Try.prog.cellsOf 27 = 4 := by kernel_rfl
theorem cUB : Try.prog.cellsOf 5 = 1 := by kernel_rfl
theorem cStr : Try.prog.cellsOf 9 = 1 := by kernel_rfl
theorem cStrs : Try.prog.cellsOf 22 = 1 := by kernel_rfl
theorem cBool : Try.prog.cellsOf 4 = 1 := by kernel_rfl
theorem bStr : Try.prog.bytesOf 9 = 16 := by kernel_rfl
theorem weights_mem {H : Type} {P : Program} {e : TypeId} {ds : List (DataW H)} {d : DataW H} {n : Nat} (hd : d ∈ ds) (hn : n ∈ d.weights P e) : n ∈ DataW.weightsAll P e ds := by
  induction ds with
  | nil => cases hd
  | cons a r ih =>
    simp only [DataW.weightsAll, List.mem_append]
    rcases List.mem_cons.1 hd with rfl | hd
    · exact .inl hn
    · exact .inr (ih hd)
theorem weights_all {H : Type} {P : Program} {ts : List TypeId} {ds : List (DataW H)} (h : (DataW.weightsEach P ts ds).all (· ≤ reachBytes) = true) {j : Nat} {t : TypeId} {d : DataW H} (ht : ts[j]? = some t) (hd : ds[j]? = some d) : ∀ n ∈ d.weights P t, n ≤ reachBytes := fun n hn => by
  have := List.all_eq_true.1 h _ (DataW.weights_mem_each ht hd n hn)
  simpa using this
theorem reach_eq : reachBytes = 140737488351232 := by decide
theorem bulk_mem {H : Type} {d : DataW H} {l : List (DataW H)} (h : d ∈ l) : Rows.uptoBulk d ≤ Rows.uptoBulkAll l := by
  induction l with
  | nil => cases h
  | cons x r ih =>
    simp only [Rows.uptoBulkAll]
    cases List.mem_cons.1 h with
    | inl e => subst e; omega
    | inr e => have := ih e; omega
theorem bulk_of {H : Type} {l : List (DataW H)} (hk : Rows.uptoSmall H l = true) {j : Nat} {d : DataW H} (hd : l[j]? = some d) : Rows.uptoBulk d ≤ 1048576 := by
  have h : Rows.uptoBulkAll l ≤ 1048576 := of_decide_eq_true hk
  have := bulk_mem (List.mem_of_getElem? hd)
  omega
/-- What is said of lines that are handed in: by weight, by bulk. -/
structure Hnd (H : Type) (t : TypeId) (d : DataW H) (ls : List ByteArray) : Prop where
  wt : (∀ n ∈ d.weights Try.prog t, n ≤ reachBytes) → ls.length ≤ 8796093022208 ∧ ∀ s ∈ ls, s.size ≤ 140737488355328
  bk : szL ls ≤ Rows.uptoBulk d
theorem bulk_strs {H : Type} (S : Nat → ByteArray) : ∀ l : List Nat, Rows.uptoBulkAll (l.map fun i => (DataW.lit (.string (S i).data.toList) : DataW H)) = szL (l.map S)
  | [] => rfl
  | a :: r => by
    simp only [List.map_cons, Rows.uptoBulkAll, Rows.uptoBulk, bulk_strs S r]
    have : (S a).data.toList.length = (S a).size := by rw [Array.length_toList]; rfl
    rw [this]
    simp [szL]
theorem lines_cells {H : Type} {enc : TypeId × Value → H} {W : World} {fuel : Nat} {v : Value} {d : DataW H} {p : List MemPlace} (h : DataW.trod enc Try.prog W 0 (fun _ => true) true fuel 22 [v] = some (d, p)) :
    ∃ ls, Sl Anyw v ls W ∧ Hnd H 22 d ls := by
  rcases Deep.open_strs Try.underlying22 Try.underlying9 cStr h with ⟨hcs, hx⟩ | ⟨a, len, cap, m, Sx, hcs, _, hl, hm, hmm, hx, hcell⟩
  · simp only [List.cons.injEq, and_true] at hcs
    subst hcs
    exact ⟨[], Sl.nil _ _, ⟨(fun _ => ⟨by simp, (fun s hs => by cases hs)⟩), by simp [szL]⟩⟩
  · simp only [List.cons.injEq, and_true] at hcs
    subst hcs
    simp only [if_true] at hmm
    subst hmm
    simp only [Prod.mk.injEq] at hx
    refine ⟨(List.range len).map Sx, ⟨some a, m, by simp, by simpa using hl, hm, (fun e => by cases e), fun i s hi => ?_⟩, ⟨fun hw => ?_, ?_⟩⟩
    · simp only [List.getElem?_map, Option.map_eq_some_iff] at hi
      obtain ⟨k, hk, rfl⟩ := hi
      obtain ⟨hlt, hk⟩ := List.getElem?_eq_some_iff.1 hk
      simp at hk hlt
      subst hk
      obtain ⟨b, off, spot⟩ := a
      have hspot : spot = none := by simpa [Addr.add] using World.cell?_spot (hcell 0 (by omega)).1
      subst hspot
      refine ⟨b, off, rfl, trivial, ?_⟩
      have := (hcell i (by omega)).1
      rw [add2] at this
      exact this
    · rw [hx.1] at hw
      simp only [DataW.weights, Try.underlying22] at hw
      have h0 := hw _ (List.mem_cons_self ..)
      simp only [List.length_map, List.length_range, bStr] at h0
      rw [reach_eq] at h0
      refine ⟨by simp; omega, fun s hs => ?_⟩
      obtain ⟨i, hi, rfl⟩ := List.mem_map.1 hs
      have h1 := hw (Sx i).data.size (List.mem_cons_of_mem _ (List.mem_append_left _ (weights_mem (d := .lit (.string (Sx i).data.toList)) (List.mem_map.2 ⟨i, hi, rfl⟩) (by simp [DataW.weights]))))
      rw [reach_eq] at h1
      show (Sx i).data.size ≤ _
      omega
    · rw [hx.1]
      simp only [Rows.uptoBulk, bulk_strs]
      omega
theorem reg_cells {H : Type} {enc : TypeId × Value → H} {W : World} {fuel : Nat} {cs : List Value} {x : DataW H × List MemPlace} (h : DataW.trod enc Try.prog W 0 (fun _ => true) true fuel 24 cs = some x) :
    ∃ (v : Value) (r : Rv), cs = [v, .bool r.wh] ∧ Sl Anyw v r.ls W ∧ Hnd H 24 x.1 r.ls := by
  have hu := underReg
  rw [Option.map_eq_some_iff] at hu
  obtain ⟨ty, hty, hfs⟩ := hu
  match ty, hty, hfs with
  | .struct fs, hty, hfs =>
    simp only at hfs
    obtain ⟨xs, n, _, rfl, hcl, hxl, hf⟩ := DataW.trod_struct hty h
    rw [cReg] at hcl
    match cs, hcl with
    | [k0, k1], _ =>
      obtain ⟨fl⟩ := fs
      match fl, hfs with
      | [f0, f1], hfs =>
        simp only [List.map_cons, List.map_nil, List.cons.injEq, Prod.mk.injEq, and_true] at hfs
        obtain ⟨⟨t0, o0⟩, ⟨t1, o1⟩⟩ := hfs
        match xs, hxl with
        | [y0, y1], _ =>
          have g0 := hf 0 f0 rfl
          have g1 := hf 1 f1 rfl
          rw [t0, o0, cStrs] at g0
          rw [t1, o1, cBool] at g1
          have g0' : DataW.trod enc Try.prog W 0 (fun _ => true) true n 22 [k0] = some (y0.1, y0.2) := g0
          obtain ⟨ls, h1, h2⟩ := lines_cells g0'
          obtain ⟨b, e1, r1⟩ := DataW.trod_bool Try.underlying4 g1
          simp at e1
          refine ⟨k0, ⟨ls, b⟩, by rw [e1], h1, ⟨fun hw => ?_, ?_⟩⟩
          · have hw' : ∀ n ∈ (DataW.agg [y0.1, y1.1] : DataW H).weights Try.prog 24, n ≤ reachBytes := hw
            simp only [DataW.weights, hty, List.map_cons, List.map_nil, DataW.weightsEach, List.mem_append, t0, t1] at hw'
            exact h2.wt fun m hm => hw' m (.inl hm)
          · show szL ls ≤ Rows.uptoBulk (DataW.agg [y0.1, y1.1] : DataW H)
            simp only [Rows.uptoBulk, Rows.uptoBulkAll]
            have := h2.bk
            omega
theorem reg_form {H : Type} {enc : TypeId × Value → H} {W : World} {base : Nat} {v : Value} {d : DataW H} {p : List MemPlace} (hval : Value.okWide Try.prog W .any base 24 v) (h : DataW.Trod enc Try.prog W 0 (fun _ => true) true 24 v d p) :
    ∃ (u : Value) (r : Rv), v = .agg #[u, .bool r.wh] ∧ Sl Anyw u r.ls W ∧ Hnd H 24 d r.ls := by
  have hu := underReg
  rw [Option.map_eq_some_iff] at hu
  obtain ⟨ty, hty, hfs⟩ := hu
  match ty, hty, hfs with
  | .struct fs, hty, hfs =>
    obtain ⟨cs, rfl, hsz⟩ := okWide_struct hty hval
    obtain ⟨fuel, hf0⟩ := h
    obtain ⟨u, r, e, h1, h2⟩ := reg_cells hf0
    obtain ⟨cl⟩ := cs
    refine ⟨u, r, ?_, h1, h2⟩
    have e' : cl = [u, .bool r.wh] := e
    rw [e']
/-- Of a list that is handed in: of each of its parts. -/
structure HndL (H : Type) (t : TypeId) (d : DataW H) (l : List (List ByteArray)) : Prop where
  bk : l.length ≤ Rows.uptoBulk d ∧ ∀ ls ∈ l, szL ls ≤ Rows.uptoBulk d
theorem op_cells {H : Type} {enc : TypeId × Value → H} {W : World} {fuel : Nat} {cs : List Value} {x : DataW H × List MemPlace} (h : DataW.trod enc Try.prog W 0 (fun _ => true) true fuel 27 cs = some x) :
    ∃ o : Op11, cs = [.int .u8 o.kd, .int .u8 o.nm, o.lv, .bool o.r.wh] ∧ o.kd < 256 ∧ o.nm < 256 ∧ Sl Anyw o.lv o.r.ls W ∧ szL o.r.ls ≤ Rows.uptoBulk x.1 := by
  have hu := underOp
  rw [Option.map_eq_some_iff] at hu
  obtain ⟨ty, hty, hfs⟩ := hu
  match ty, hty, hfs with
  | .struct fs, hty, hfs =>
    simp only at hfs
    obtain ⟨xs, n, _, rfl, hcl, hxl, hf⟩ := DataW.trod_struct hty h
    rw [cOp] at hcl
    match cs, hcl with
    | [k0, k1, k2, k3], _ =>
      obtain ⟨fl⟩ := fs
      match fl, hfs with
      | [f0, f1, f2], hfs =>
        simp only [List.map_cons, List.map_nil, List.cons.injEq, Prod.mk.injEq, and_true] at hfs
        obtain ⟨⟨t0, o0⟩, ⟨t1, o1⟩, ⟨t2, o2⟩⟩ := hfs
        match xs, hxl with
        | [y0, y1, y2], _ =>
          have g0 := hf 0 f0 rfl
          have g1 := hf 1 f1 rfl
          have g2 := hf 2 f2 rfl
          rw [t0, o0, cUB] at g0
          rw [t1, o1, cUB] at g1
          rw [t2, o2, cReg] at g2
          obtain ⟨a0, e0, r0, w0⟩ := DataW.trod_int Try.underlying5 g0
          obtain ⟨a1, e1, r1, w1⟩ := DataW.trod_int Try.underlying5 g1
          have g2' : DataW.trod enc Try.prog W 0 (fun _ => true) true n 24 [k2, k3] = some y2 := g2
          obtain ⟨v, r, e2, h1, h2⟩ := reg_cells g2'
          simp at e0 e1 e2
          have u0 := fU8 w0
          have u1 := fU8 w1
          refine ⟨⟨a0.toNat, a1.toNat, v, r⟩, ?_, by show a0.toNat < 256; omega, by show a1.toNat < 256; omega, h1, ?_⟩
          · simp only [Int.toNat_of_nonneg u0.1, Int.toNat_of_nonneg u1.1]
            rw [e0, e1, e2.1, e2.2]
          · show szL r.ls ≤ Rows.uptoBulk (DataW.agg [y0.1, y1.1, y2.1] : DataW H)
            simp only [Rows.uptoBulk, Rows.uptoBulkAll]
            have := h2.bk
            omega
theorem bulk_len {H : Type} (l : List (DataW H)) : l.length ≤ Rows.uptoBulkAll l := by
  induction l with
  | nil => simp
  | cons x r ih =>
    have : 1 ≤ Rows.uptoBulk x := by
      cases x with
      | lit l => cases l <;> simp [Rows.uptoBulk]
      | _ => simp [Rows.uptoBulk]
    simp only [Rows.uptoBulkAll, List.length_cons]; omega
theorem ops_form {H : Type} {enc : TypeId × Value → H} {W : World} {base : Nat} {v : Value} {d : DataW H} {p : List MemPlace} (hval : Value.okWide Try.prog W .any base 28 v) (h : DataW.Trod enc Try.prog W 0 (fun _ => true) true 28 v d p) :
    ∃ l : List Op11, OpsL Anyw v l W ∧ (∀ o ∈ l, o.kd < 256 ∧ o.nm < 256 ∧ szL o.r.ls ≤ Rows.uptoBulk d) ∧ l.length ≤ Rows.uptoBulk d := by
  obtain ⟨a0, len0, cap0, rfl⟩ := okWide_slice Try.underlying28 hval
  obtain ⟨fuel, hf⟩ := h
  rcases Deep.open_slice Try.underlying28 hf with ⟨hcs, hx⟩ | ⟨a, len, cap, m, n, D, Pl, hcs, _, hl, hm, hmm, hx, hcell⟩
  · simp [Value.cells] at hcs
    obtain ⟨rfl, rfl, rfl⟩ := hcs
    exact ⟨[], ⟨none, 0, rfl, by simp, by simp [maxLen], fun i t hi => by cases hi⟩, (fun o ho => by cases ho), by simp⟩
  · simp [Value.cells] at hcs
    obtain ⟨rfl, rfl, rfl⟩ := hcs
    simp only [if_true] at hmm
    subst hmm
    simp only [Prod.mk.injEq] at hx
    rw [cOp] at hcell
    have each : ∀ i, i < m → ∃ o : Op11, (∀ (j : Nat) c, [Value.int .u8 o.kd, .int .u8 o.nm, o.lv, .bool o.r.wh][j]? = some c → W.cell? ((a.add (i * 4)).add j) = some c) ∧ o.kd < 256 ∧ o.nm < 256 ∧ Sl Anyw o.lv o.r.ls W ∧ szL o.r.ls ≤ Rows.uptoBulk (D i) := fun i hi => by
      obtain ⟨cs', h1, h2⟩ := hcell i hi
      obtain ⟨o, e, r1⟩ := op_cells h2
      obtain ⟨_, hlen, hc⟩ := World.cells?_some h1
      refine ⟨o, fun j c hj => ?_, r1⟩
      rw [hc j (by have := (List.getElem?_eq_some_iff.1 hj).1; simpa using this), e]; exact hj
    haveI : Inhabited Op11 := ⟨⟨0, 0, .slice none 0 0, ⟨[], false⟩⟩⟩
    obtain ⟨F, hF⟩ := Deep.choose_lt each
    refine ⟨(List.range len0).map F, ⟨some a, m, by simp, by simpa using hl, hm, fun i o hi => ?_⟩, fun o ho => ?_, ?_⟩
    · simp only [List.getElem?_map, Option.map_eq_some_iff] at hi
      obtain ⟨k, hk, rfl⟩ := hi
      obtain ⟨hlt, hk⟩ := List.getElem?_eq_some_iff.1 hk
      simp at hk hlt
      subst hk
      obtain ⟨b, off, spot⟩ := a
      have hs : spot = none := by simpa [Addr.add] using World.cell?_spot ((hF 0 (by omega)).1 0 _ rfl)
      subst hs
      have q := (hF i (by omega)).1
      have e : ∀ j, ((⟨b, off, none⟩ : Addr).add (i * 4)).add j = ⟨b, off + i * 4 + j, none⟩ := fun j => by rw [add2, add2]
      refine ⟨b, off, rfl, ?_, ?_, ?_, ?_, (hF i (by omega)).2.2.2.1⟩
      · have := q 0 _ rfl; rw [e] at this; exact this
      · have := q 1 _ rfl; rw [e] at this; exact this
      · have := q 2 _ rfl; rw [e] at this; exact this
      · have := q 3 _ rfl; rw [e] at this; exact this
    · obtain ⟨k, hk, rfl⟩ := List.mem_map.1 ho
      have hk' : k < len0 := by simpa using hk
      have q := hF k (by omega)
      refine ⟨q.2.1, q.2.2.1, ?_⟩
      rw [hx.1]
      simp only [Rows.uptoBulk]
      have := bulk_mem (d := D k) (l := (List.range len0).map D) (List.mem_map.2 ⟨k, hk, rfl⟩)
      have := q.2.2.2.2
      omega
    · rw [hx.1]
      simp only [Rows.uptoBulk, List.length_map, List.length_range]
      have := bulk_len ((List.range len0).map D)
      simp at this
      omega
/-- Registers in a list that can be read. -/
def RegL (P : Nat → Prop) (v : Value) (l : List (Value × Rv)) (w : World) : Prop :=
  ∃ a cap, v = .slice a l.length cap ∧ l.length ≤ cap ∧ cap ≤ maxLen ∧ ∀ (i : Nat) (o : Value × Rv), l[i]? = some o → ∃ B off, a = some ⟨B, off, none⟩ ∧ w.cell? ⟨B, off + i * 2, none⟩ = some o.1 ∧ w.cell? ⟨B, off + i * 2 + 1, none⟩ = some (.bool o.2.wh) ∧ Sl P o.1 o.2.ls w
theorem regl_form {H : Type} {enc : TypeId × Value → H} {W : World} {base : Nat} {v : Value} {d : DataW H} {p : List MemPlace} (hval : Value.okWide Try.prog W .any base 51 v) (h : DataW.Trod enc Try.prog W 0 (fun _ => true) true 51 v d p) :
    ∃ l : List (Value × Rv), RegL Anyw v l W ∧ (∀ o ∈ l, szL o.2.ls ≤ Rows.uptoBulk d) := by
  obtain ⟨a0, len0, cap0, rfl⟩ := okWide_slice Try.underlying51 hval
  obtain ⟨fuel, hf⟩ := h
  rcases Deep.open_slice Try.underlying51 hf with ⟨hcs, hx⟩ | ⟨a, len, cap, m, n, D, Pl, hcs, _, hl, hm, hmm, hx, hcell⟩
  · simp [Value.cells] at hcs
    obtain ⟨rfl, rfl, rfl⟩ := hcs
    exact ⟨[], ⟨none, 0, rfl, by simp, by simp [maxLen], fun i t hi => by cases hi⟩, (fun o ho => by cases ho)⟩
  · simp [Value.cells] at hcs
    obtain ⟨rfl, rfl, rfl⟩ := hcs
    simp only [if_true] at hmm
    subst hmm
    simp only [Prod.mk.injEq] at hx
    rw [cReg] at hcell
    have each : ∀ i, i < m → ∃ o : Value × Rv, (∀ (j : Nat) c, [o.1, .bool o.2.wh][j]? = some c → W.cell? ((a.add (i * 2)).add j) = some c) ∧ Sl Anyw o.1 o.2.ls W ∧ szL o.2.ls ≤ Rows.uptoBulk (D i) := fun i hi => by
      obtain ⟨cs', h1, h2⟩ := hcell i hi
      obtain ⟨u, r, e, r1, r2⟩ := reg_cells h2
      obtain ⟨_, hlen, hc⟩ := World.cells?_some h1
      refine ⟨(u, r), fun j c hj => ?_, r1, r2.bk⟩
      rw [hc j (by have := (List.getElem?_eq_some_iff.1 hj).1; simpa using this), e]; exact hj
    haveI : Inhabited (Value × Rv) := ⟨(.slice none 0 0, ⟨[], false⟩)⟩
    obtain ⟨F, hF⟩ := Deep.choose_lt each
    refine ⟨(List.range len0).map F, ⟨some a, m, by simp, by simpa using hl, hm, fun i o hi => ?_⟩, fun o ho => ?_⟩
    · simp only [List.getElem?_map, Option.map_eq_some_iff] at hi
      obtain ⟨k, hk, rfl⟩ := hi
      obtain ⟨hlt, hk⟩ := List.getElem?_eq_some_iff.1 hk
      simp at hk hlt
      subst hk
      obtain ⟨b, off, spot⟩ := a
      have q := (hF i (by omega)).1
      have hs : spot = none := by simpa [Addr.add] using World.cell?_spot ((hF 0 (by omega)).1 0 _ rfl)
      subst hs
      have e : ∀ j, ((⟨b, off, none⟩ : Addr).add (i * 2)).add j = ⟨b, off + i * 2 + j, none⟩ := fun j => by rw [add2, add2]
      refine ⟨b, off, rfl, ?_, ?_, (hF i (by omega)).2.1⟩
      · have := q 0 _ rfl; rw [e] at this; exact this
      · have := q 1 _ rfl; rw [e] at this; exact this
    · obtain ⟨k, hk, rfl⟩ := List.mem_map.1 ho
      have hk' : k < len0 := by simpa using hk
      have q := hF k (by omega)
      rw [hx.1]
      simp only [Rows.uptoBulk]
      have := bulk_mem (d := D k) (l := (List.range len0).map D) (List.mem_map.2 ⟨k, hk, rfl⟩)
      have := q.2.2
      omega
end Go.Proofs.Ytbnlenanfhggiaa
/- RegsNames: the walk. -/
namespace Go.Proofs.Ytbnlenanfhggiaa
open Go.ChangeShapes Go.WideShapes Go.ChangeAt Go.RowKit Go.Maps Go.MapKept
set_option linter.unusedVariables false
set_option linter.unusedSimpArgs false
set_option maxRecDepth 100000
/-- One call in a new list. -/
theorem ops_one {P : Nat → Prop} {X : World} {r : Rv} {a : Option Addr} {n c H : Nat} (h : Sl P (.slice a n c) r.ls X) (hH : X.heap.size = H) :
    OpsL P (.slice (some ⟨H, 0, none⟩) 1 1) [⟨0, 0, .slice a n c, r⟩] (X.alloc (.cells #[.int .u8 0, .int .u8 0, .slice a n c, .bool r.wh] 27)) := by
  subst hH
  have hl := Lc.new X [.int .u8 0, .int .u8 0, .slice a n c, .bool r.wh] 27
  refine ⟨_, 1, rfl, Nat.le_refl _, by simp [maxLen], fun i o hi => ?_⟩
  have q := (List.getElem?_eq_some_iff.1 hi).1
  obtain rfl : i = 0 := by simp at q; exact q
  cases hi
  exact ⟨X.heap.size, 0, rfl, hl.at (j := 0) rfl, hl.at (j := 1) rfl, hl.at (j := 2) rfl, hl.at (j := 3) rfl, h.kp (kp_alloc _ _)⟩
theorem lay_some_err (f : Rf) (x : Int) (r : Rv) : (layE f x r = 110) ↔ kwB x = false := by
  unfold layE
  constructor
  · intro h
    by_cases q : kwB x = false
    · exact q
    · rw [if_neg q] at h
      repeat' split at h
      all_goals omega
  · intro h; rw [if_pos h]
theorem yank_none {f : Rf} {x : Int} {r : Rv} (h : layE f x r ≠ 0) : yankF f x r = layF f x r := by unfold yankF; rw [if_neg fun e => h e.1]
theorem lay_same {f : Rf} {x : Int} {r : Rv} (h : layE f x r ≠ 0) : layF f x r = f := by
  unfold layF
  rw [if_neg]
  rintro ⟨h1, h2, h3⟩
  apply h
  unfold layE
  rw [if_neg (by rw [h1]; simp), if_neg h2, if_pos h3]
/-- What is yanked first into a register: there is little in it then. -/
theorem fit_again {x : Int} {r : Rv} (h : Fit (fun _ => none) x r) : Fit (yankF (fun _ => none) x r) x r := by
  refine ⟨h.len, fun hn => ?_, h.str⟩
  have hz : szL (ownR r).ls ≤ 20000 := by
    by_cases hE : layE (fun _ => none) x r = 0
    · have hi : isR (fun _ => none) x r = ownR r := by unfold isR; split <;> rfl
      by_cases q : szL (ownR r).ls ≤ 20000
      · exact q
      · exfalso
        have : layF (fun _ => none) x r = fun _ => none := by unfold layF; rw [if_neg]; rintro ⟨_, _, h3⟩; rw [hi] at h3; exact q h3
        unfold yankF at hn
        rw [this] at hn
        by_cases p : layE (fun _ => none) x r = 0 ∧ x = 34
        · obtain ⟨p1, rfl⟩ := p
          exact q (lay_34 _ r p1).2.2
        · rw [if_neg p] at hn; exact hn rfl
    · rw [yank_none hE, lay_same hE] at hn; exact absurd rfl hn
  have h2 := szL_len (ownR r).ls
  unfold ownR at h2 hz
  split at h2
  · rename_i e; rw [e]; simp
  · rename_i e; rw [if_neg e] at hz; omega
set_option maxHeartbeats 8000000 in
theorem names_walk (x : Nat) (hx : x < 256) {Q : Nat → Prop} {v : Value} {r : Rv} {w : World} (hv : Sl Q v r.ls w) (hl : r.ls.length ≤ 8796093022208) (hs : ∀ s ∈ r.ls, s.size ≤ 140737488355328) :
    Calls Try.prog 4 #[.int .u8 x, .agg #[v, .bool r.wh]] w fun e w' => e = .returned (.bool true) ∧ Kp w w' := by
  obtain ⟨a, c, rfl, _⟩ := hv.form
  have hfit : Fit (fun _ => none) (x : Int) r := ⟨hl, (fun q => absurd rfl q), hs⟩
  have HF : Hid (Fit (fun _ => none) (x : Int) r ∧ Fit (yankF (fun _ => none) (x : Int) r) (x : Int) r) := ⟨hfit, fit_again hfit⟩
  obtain ⟨N, hN⟩ : ∃ N, r.ls.length = N := ⟨_, rfl⟩
  rw [hN] at hv ⊢
  obtain ⟨W1, hW1⟩ : ∃ W1, w.alloc (.cells #[.slice a N c, .bool r.wh] 24) = W1 := ⟨_, rfl⟩
  have k1 : Kp w W1 := by rw [← hW1]; exact kp_alloc _ _
  have b3 : Lc 24 w.heap.size [.slice a N c, .bool r.wh] W1 := by rw [← hW1]; exact Lc.new w _ _
  have hz1 : W1.heap.size = w.heap.size + 1 := by rw [← hW1, alloc_size]
  have HH : Hid (Calls Try.prog 9 #[.slice (some ⟨w.heap.size + 1, 0, none⟩) 1 1] (W1.alloc (.cells #[.int .u8 0, .int .u8 0, .slice a N c, .bool r.wh] 27)) fun e w' => ∃ hb, e = .returned (.bool hb) ∧ w' = W1.alloc (.cells #[.int .u8 0, .int .u8 0, .slice a N c, .bool r.wh] 27)) := heavy_any (ops_one (hv.kp k1) hz1)
  have HB : Hid (Kp w W1 ∧ Lc 24 w.heap.size [.slice a N c, .bool r.wh] W1 ∧ Sl Q (.slice a N c) r.ls w) := ⟨k1, b3, hv⟩
  have u1 := b3.at (j := 0) rfl
  have u2 := b3.at (j := 1) rfl
  have HW : Hid (_ = W1) := hW1
  clear hv hl hs hfit hN hW1 k1 b3
  go_enter Try.func4, Try.ntmps4
  go_upto_region 1 with fail
  rw [HW.out]
  clear HW
  go_wp2_with fail
  refine Calls.mono HH.out ?_
  rintro e x2 ⟨hb, rfl, e2⟩
  have k2 : Kp W1 x2 := by rw [e2]; exact kp_alloc _ _
  have HK2 : Hid (Kp w x2 ∧ Kp W1 x2) := ⟨kp_trans HB.out.1 k2, k2⟩
  clear e2 k2 HH u1 u2 hz1
  have HKN : Hid (∀ X, Calls Try.prog 10 #[] X fun e w' => e = .returned (.bool true) ∧ Kp X w') := rknown_any
  cases hb
  · go_wp2_with fail
    refine Calls.mono (HKN.out _) ?_
    rintro e x3 ⟨rfl, k3⟩
    have HN : Hid (Calls Try.prog 11 #[] x3 fun e w' => ∃ t b, e = .returned (.pointer (some ⟨t, 0, none⟩)) ∧ Hid (Rs t b (fun _ => none) Anyw w' ∧ Kp x3 w' ∧ x3.heap.size ≤ b)) := by
      refine (gnew_any (P := Anyw) x3).mono ?_
      rintro e w' ⟨t, b, he, q1, q2, _, q3⟩
      exact ⟨t, b, he, q1, q2, q3⟩
    have HK3 : Hid (Kp w x3 ∧ Kp W1 x3) := ⟨kp_trans HK2.out.1 k3, kp_trans HK2.out.2 k3⟩
    clear k3 HK2 HKN
    go_wp2_with fail
    refine Calls.mono HN.out ?_
    rintro e x4 ⟨t, b, rfl, H4⟩
    have hq := eql_ptrR t
    have HK4 : Hid (Kp w x4 ∧ Kp W1 x4 ∧ w.heap.size ≤ b) := ⟨kp_trans HK3.out.1 H4.out.2.1, kp_trans HK3.out.2 H4.out.2.1, Nat.le_trans HK3.out.1.size H4.out.2.2⟩
    have HG : Hid _ := get_some H4.out.1 (x := (x : Int)) (by omega) (by omega) rfl rfl
    clear HN HK3
    go_wp2_with fail
    refine Calls.mono HG.out ?_
    rintro e x5 ⟨a5, n5, c5, rfl, hn5, hc5, hd5, H5⟩
    clear HG hn5 hc5 hd5
    obtain ⟨bw, hbw⟩ : ∃ bw, (getR (fun _ => none) (x : Int)).wh = bw := ⟨_, rfl⟩
    rw [hbw]
    clear hbw
    obtain ⟨F1, hF1⟩ : ∃ F1, yankF (fun _ => none) (x : Int) r = F1 := ⟨_, rfl⟩
    obtain ⟨F2, hF2⟩ : ∃ F2, cutF F1 (x : Int) r = F2 := ⟨_, rfl⟩
    obtain ⟨E0, hE0⟩ : ∃ E0, getE (fun _ => none) (x : Int) = E0 := ⟨_, rfl⟩
    obtain ⟨E1, hE1⟩ : ∃ E1, layE (fun _ => none) (x : Int) r = E1 := ⟨_, rfl⟩
    obtain ⟨E2, hE2⟩ : ∃ E2, layE F1 (x : Int) r = E2 := ⟨_, rfl⟩
    have HEE : Hid ((kwB (x : Int) = false → E0 = 110 ∧ E1 = 110 ∧ E2 = 110 ∧ F2 = fun _ => none) ∧ (kwB (x : Int) = true → E0 = 111 ∧ E1 ≠ 110 ∧ E2 ≠ 110)) := by
      refine ⟨fun hk => ?_, fun hk => ?_⟩
      · have e1 := (lay_some_err (fun _ => none) (x : Int) r).2 hk
        have n1 : layE (fun _ => none) (x : Int) r ≠ 0 := by omega
        have f1 : F1 = fun _ => none := by rw [← hF1, yank_none n1, lay_same n1]
        have e2 := (lay_some_err F1 (x : Int) r).2 hk
        have n2 : layE F1 (x : Int) r ≠ 0 := by omega
        refine ⟨by rw [← hE0]; unfold getE; rw [hk]; simp, by rw [← hE1]; exact e1, by rw [← hE2]; exact e2, ?_⟩
        rw [← hF2]; unfold cutF; rw [if_neg fun e => n2 e.1, lay_same n2, f1]
      · refine ⟨by rw [← hE0]; unfold getE; rw [hk]; simp, ?_, ?_⟩
        · rw [← hE1]; intro q; rw [(lay_some_err _ _ r).1 q] at hk; cases hk
        · rw [← hE2]; intro q; rw [(lay_some_err _ _ r).1 q] at hk; cases hk
    have HY : Hid (∀ X, Kp x4 X → Calls Try.prog 12 #[.pointer (some ⟨t, 0, none⟩), .int .u8 (x : Int), .agg #[.slice a N c, .bool r.wh]] X fun e w' => e = .returned (.int .u16 E1) ∧ Hid (Rs t b F1 Anyw w' ∧ Fr (On b) x4 w')) := fun X k => by
      refine (yank_any (H4.out.1.kp k) (anyw _) (by omega) (by omega) (HB.out.2.2.kp (kp_trans HK4.out.1 k)) HF.out.1).mono ?_
      rintro e w' ⟨he, q1, q2⟩
      rw [hE1] at he; rw [hF1] at q1
      exact ⟨he, q1, (Fr.of_below k).trans q2⟩
    have HKW : Hid (∀ X, Calls Try.prog 15 #[.int .u8 (x : Int)] X fun e w' => e = .returned (.bool (kwB (x : Int))) ∧ Kp X w') := gknown_any _
    have HFT : Hid (Fit F1 (x : Int) r ∧ cutF F1 (x : Int) r = F2 ∧ layE F1 (x : Int) r = E2) := ⟨by rw [← hF1]; exact HF.out.2, hF2, hE2⟩
    have kx : Kp x4 (x5.alloc (.cells #[.slice a5 n5 c5, .bool bw] 24)) := kp_trans H5.out.2 (kp_alloc _ _)
    rw [hE0]
    clear hF1 hF2 hE0 hE1 hE2 H5
    obtain ⟨W5, hW5⟩ : ∃ W5, x5.alloc (.cells #[.slice a5 n5 c5, .bool bw] 24) = W5 := ⟨_, rfl⟩
    have HW : Hid (_ = W5) := hW5
    rw [hW5] at kx
    have b5 := (HB.out.2.1.kp HK4.out.2.1).kp kx
    have u1 := b5.at (j := 0) rfl
    have u2 := b5.at (j := 1) rfl
    have HK5 : Hid (Kp x4 W5) := kx
    clear hW5 kx b5
    go_upto_region 7 with fail
    rw [HW.out]
    clear HW
    go_wp2_with fail
    refine Calls.mono (HY.out _ HK5.out) ?_
    rintro e x6 ⟨rfl, H6⟩
    have b6 := H4.out.1.box_off (HB.out.2.1.kp HK4.out.2.1) H6.out.2
    have v1 := b6.at (j := 0) rfl
    have v2 := b6.at (j := 1) rfl
    have HCu : Hid (Calls Try.prog 14 #[.pointer (some ⟨t, 0, none⟩), .int .u8 (x : Int), .agg #[.slice a N c, .bool r.wh]] x6 fun e w' => e = .returned (.int .u16 E2) ∧ Hid (Rs t b F2 Anyw w' ∧ Kp w w')) := by
      have hsl : Sl Q (.slice a N c) r.ls x6 := H4.out.1.sl_off (HB.out.2.2.kp HK4.out.1) H6.out.2
      refine (cut_any H6.out.1 (anyw _) (by omega) (by omega) hsl HFT.out.1).mono ?_
      rintro e w' ⟨he, q1, q2⟩
      rw [HFT.out.2.2] at he; rw [HFT.out.2.1] at q1
      exact ⟨he, q1, kp_fr (kp_fr HK4.out.1 H6.out.2 HK4.out.2.2) q2 HK4.out.2.2⟩
    clear u1 u2 HY H6 b6 HK5 H4 HK4 HFT HF HB
    go_wp2_with fail
    refine Calls.mono HCu.out ?_
    rintro e x7 ⟨rfl, H7⟩
    clear HCu v1 v2
    go_wp2_with fail
    refine Calls.mono (HKW.out _) ?_
    rintro e x8 ⟨rfl, k8⟩
    cases hk : kwB (x : Int)
    · obtain ⟨rfl, rfl, rfl, rfl⟩ := HEE.out.1 hk
      have HNm : Hid (Calls Try.prog 16 #[.pointer (some ⟨t, 0, none⟩)] x8 fun e w' => ∃ a' c', e = .returned (.slice a' 0 c') ∧ Hid (Kp w w')) := by
        refine (gnames_any (H7.out.1.kp k8)).mono ?_
        rintro e w' ⟨v', he, HH⟩
        have hnil : namesF (fun _ => none) = [] := by unfold namesF; simp
        rw [hnil] at HH
        rcases HH.out.1 with ⟨rfl, _⟩ | ⟨g', c', rfl, _⟩
        · exact ⟨none, 0, he, kp_trans (kp_trans H7.out.2 k8) HH.out.2⟩
        · exact ⟨_, c', he, kp_trans (kp_trans H7.out.2 k8) HH.out.2⟩
      clear HEE H7 k8 HKW
      go_wp2_with fail
      refine Calls.mono HNm.out ?_
      rintro e x9 ⟨a9, c9, rfl, H9⟩
      clear HNm
      go_wp2_with fail
      go_ret
      exact ⟨rfl, H9.out⟩
    · obtain ⟨rfl, e1, e2⟩ := HEE.out.2 hk
      have d1 : (E1 != 110) = true := by simpa using e1
      have d2 : (E2 != 110) = true := by simpa using e2
      have HE : Hid (Kp w x8) := kp_trans H7.out.2 k8
      clear HEE H7 k8 HKW e1 e2
      go_wp2_with fail
      go_ret
      exact ⟨rfl, HE.out⟩
  · go_wp2_with fail
    refine Calls.mono (HKN.out _) ?_
    rintro e x3 ⟨rfl, k3⟩
    have HE : Hid (Kp w x3) := kp_trans HK2.out.1 k3
    clear HK2 k3 HKN
    go_wp2_with fail
    go_ret
    exact ⟨rfl, HE.out⟩
end Go.Proofs.Ytbnlenanfhggiaa
/- RegsAdd: the walk. -/
namespace Go.Proofs.Ytbnlenanfhggiaa
open Go.ChangeShapes Go.WideShapes Go.ChangeAt Go.RowKit Go.Maps Go.MapKept
set_option linter.unusedVariables false
set_option linter.unusedSimpArgs false
set_option maxRecDepth 100000
/-- Two calls in a new list. -/
theorem ops_two {P : Nat → Prop} {X : World} {r q : Rv} {a : Option Addr} {n c H : Nat} {a' : Option Addr} {n' c' : Nat} (h : Sl P (.slice a n c) r.ls X) (h' : Sl P (.slice a' n' c') q.ls X) (hH : X.heap.size = H) :
    OpsL P (.slice (some ⟨H, 0, none⟩) 2 2) [⟨0, 0, .slice a n c, r⟩, ⟨0, 0, .slice a' n' c', q⟩] (X.alloc (.cells #[.int .u8 0, .int .u8 0, .slice a n c, .bool r.wh, .int .u8 0, .int .u8 0, .slice a' n' c', .bool q.wh] 27)) := by
  subst hH
  have hl := Lc.new X [.int .u8 0, .int .u8 0, .slice a n c, .bool r.wh, .int .u8 0, .int .u8 0, .slice a' n' c', .bool q.wh] 27
  refine ⟨_, 2, rfl, Nat.le_refl _, by simp [maxLen], fun i o hi => ?_⟩
  have hlt := (List.getElem?_eq_some_iff.1 hi).1
  rcases i with _ | _ | i
  · cases hi
    exact ⟨X.heap.size, 0, rfl, hl.at (j := 0) rfl, hl.at (j := 1) rfl, hl.at (j := 2) rfl, hl.at (j := 3) rfl, h.kp (kp_alloc _ _)⟩
  · cases hi
    exact ⟨X.heap.size, 0, rfl, hl.at (j := 4) rfl, hl.at (j := 5) rfl, hl.at (j := 6) rfl, hl.at (j := 7) rfl, h'.kp (kp_alloc _ _)⟩
  · exfalso; simp only [List.length_cons, List.length_nil] at hlt; omega
theorem small_kw {c : Int} (h0 : 97 ≤ c) (h1 : c ≤ 122) : kwB c = true ∧ smI c = c ∧ c ≠ 95 ∧ c ≠ 34 := by
  have : smlB c = true := smlB_iff.2 ⟨h0, h1⟩
  have g : grtB c = false := by
    cases q : grtB c with
    | false => rfl
    | true => have := grtB_iff.1 q; omega
  refine ⟨by simp [kwB, letB, this], by unfold smI; rw [g]; simp, by omega, by omega⟩
theorem great_kw {c : Int} (h0 : 97 ≤ c) (h1 : c ≤ 122) : kwB (c - 32) = true ∧ smI (c - 32) = c ∧ c - 32 ≠ 95 ∧ c - 32 ≠ 34 ∧ c - 32 ≠ c := by
  have g : grtB (c - 32) = true := grtB_iff.2 (by omega)
  refine ⟨by simp [kwB, letB, g], by unfold smI; rw [g, if_pos rfl]; omega, by omega, by omega, by omega⟩
/-- What a register has, with more behind it. -/
theorem add_facts {c : Int} (h0 : 97 ≤ c) (h1 : c ≤ 122) {a b : Rv} (ha : a.ls ≠ []) (hb : b.ls ≠ []) :
    let F1 := yankF (fun _ => none) c a
    let F2 := yankF F1 (c - 32) b
    let E1 := layE (fun _ => none) c a
    let E2 := layE F1 (c - 32) b
    (E1 = 0 ∨ E1 = 112) ∧ (E2 = 0 ∨ E2 = 112) ∧ (E1 = 0 → szL a.ls ≤ 20000 ∧ F1 c = some a ∧ (E2 = 0 → getR F2 c = addR a b ∧ getE F2 c = 0 ∧ szL (addR a b).ls ≤ 20000)) := by
  obtain ⟨k1, s1, n1, m1⟩ := small_kw h0 h1
  obtain ⟨k2, s2, n2, m2, d2⟩ := great_kw h0 h1
  intro F1 F2 E1 E2
  have i1 : isR (fun _ => none) c a = a := by unfold isR; rw [if_pos s1, ownR_idem ha]
  have e1 : E1 = if szL a.ls ≤ 20000 then 0 else 112 := by
    show layE _ _ _ = _
    unfold layE; rw [if_neg (by rw [k1]; simp), if_neg n1, i1]
  have e2 : E2 = if szL (isR F1 (c - 32) b).ls ≤ 20000 then 0 else 112 := by
    show layE _ _ _ = _
    unfold layE; rw [if_neg (by rw [k2]; simp), if_neg n2]
  refine ⟨?_, ?_, fun hE => ?_⟩
  · rw [e1]; split
    · exact .inl rfl
    · exact .inr rfl
  · rw [e2]; split
    · exact .inl rfl
    · exact .inr rfl
  · have hz : szL a.ls ≤ 20000 := by
      by_cases q : szL a.ls ≤ 20000
      · exact q
      · rw [e1, if_neg q] at hE; cases hE
    have f1 : F1 c = some a := by
      show yankF _ _ _ _ = _
      unfold yankF; rw [if_neg fun e => m1 e.2]
      unfold layF; rw [if_pos ⟨k1, n1, by rw [i1]; exact hz⟩, i1, s1]
      unfold setR
      rw [if_neg (by omega), if_pos rfl]
    have i2 : isR F1 (c - 32) b = addR a b := by
      unfold isR; rw [if_neg (by rw [s2]; omega), s2, f1]
      show addR a (ownR b) = _
      rw [ownR_idem hb]
    refine ⟨hz, f1, fun hE2 => ?_⟩
    have hz2 : szL (addR a b).ls ≤ 20000 := by
      by_cases q : szL (addR a b).ls ≤ 20000
      · exact q
      · rw [e2, i2, if_neg q] at hE2; cases hE2
    have f2 : F2 c = some (addR a b) := by
      show yankF _ _ _ _ = _
      unfold yankF; rw [if_neg fun e => m2 e.2]
      unfold layF; rw [if_pos ⟨k2, n2, by rw [i2]; exact hz2⟩, i2, s2]
      unfold setR
      rw [if_neg (by omega), if_pos rfl]
    refine ⟨?_, ?_, hz2⟩
    · unfold getR; rw [if_pos k1, s1, f2]; rfl
    · unfold getE; rw [if_pos k1, s1, f2]; rfl
theorem fit_sz {f : Rf} {x : Int} {r : Rv} (h : szL r.ls ≤ 1048576) : Fit f x r := by
  have hl := szL_len r.ls
  refine ⟨by omega, (fun _ => by omega), fun s hs => ?_⟩
  obtain ⟨i, hi⟩ := List.getElem?_of_mem hs
  have := szL_take r.ls hi
  have := szL_le r.ls (i + 1)
  omega
theorem emp_app (s : ByteArray) : (⟨#[]⟩ : ByteArray) ++ s = s := by
  apply ByteArray.ext
  rw [ByteArray.data_append]
  simp
theorem whole_at {a b : Rv} (ha : a.ls ≠ []) (hw : (a.wh || b.wh) = true) : addR a b = ⟨a.ls ++ b.ls, true⟩ := by
  unfold addR; rw [if_neg ha, if_pos hw]
theorem seam_eq {a b : Rv} (ha : a.ls ≠ []) (h1 : a.wh = false) (h2 : b.wh = false) : addR a b = ⟨a.ls.take (a.ls.length - 1) ++ (seam a.ls b.ls :: b.ls.drop 1), false⟩ := by
  unfold addR; rw [if_neg ha, if_neg (by rw [h1, h2]; simp)]
theorem seam_lo {a b : List ByteArray} {i : Nat} (h : i + 1 < a.length) : (a.take (a.length - 1) ++ (seam a b :: b.drop 1))[i]? = a[i]? := by
  rw [List.getElem?_append_left (by simp; omega), List.getElem?_take, if_pos (by omega)]
theorem seam_mid {a b : List ByteArray} {i : Nat} (h : i + 1 = a.length) : (a.take (a.length - 1) ++ (seam a b :: b.drop 1))[i]? = some (seam a b) := by
  rw [List.getElem?_append_right (by simp; omega)]
  have : i - (a.take (a.length - 1)).length = 0 := by simp; omega
  rw [this]; rfl
theorem seam_hi {a b : List ByteArray} {j : Nat} (h : 0 < a.length) : (a.take (a.length - 1) ++ (seam a b :: b.drop 1))[a.length + j]? = b[j + 1]? := by
  rw [List.getElem?_append_right (by simp; omega)]
  have : a.length + j - (a.take (a.length - 1)).length = j + 1 := by simp; omega
  rw [this, List.getElem?_cons_succ, List.getElem?_drop, Nat.add_comm]
theorem str_le {ls : List ByteArray} {i : Nat} {s : ByteArray} (h : ls[i]? = some s) (hz : szL ls ≤ 1048576) : s.size ≤ 1048576 := by
  have := szL_take ls h
  have := szL_le ls (i + 1)
  omega
set_option maxHeartbeats 8000000 in
theorem add_walk (x : Nat) (hx : x < 256) {Q : Nat → Prop} {va vb : Value} {ra rb : Rv} {w : World} (ha : Sl Q va ra.ls w) (hza : szL ra.ls ≤ 1048576) (hb : Sl Q vb rb.ls w) (hzb : szL rb.ls ≤ 1048576) :
    Calls Try.prog 3 #[.int .u8 x, .agg #[va, .bool ra.wh], .agg #[vb, .bool rb.wh]] w fun e w' => e = .returned (.bool true) ∧ Kp w w' := by
  obtain ⟨aa, ca, rfl, ga1, ga2, _⟩ := ha.form
  obtain ⟨ab, cb, rfl, gb1, gb2, _⟩ := hb.form
  obtain ⟨c0, hc0⟩ : ∃ c0 : Nat, x % 26 = c0 := ⟨_, rfl⟩
  have hc26 : c0 < 26 := by omega
  obtain ⟨N, hN⟩ : ∃ N, ra.ls.length = N := ⟨_, rfl⟩
  obtain ⟨M, hM⟩ : ∃ M, rb.ls.length = M := ⟨_, rfl⟩
  have hN20 : N ≤ 1048576 := by have := szL_len ra.ls; omega
  have hM20 : M ≤ 1048576 := by have := szL_len rb.ls; omega
  rw [hN] at ha ga1 ⊢
  rw [hM] at hb gb1 ⊢
  obtain ⟨W1, hW1⟩ : ∃ W1, (w.alloc (.cells #[.slice aa N ca, .bool ra.wh] 24)).alloc (.cells #[.slice ab M cb, .bool rb.wh] 24) = W1 := ⟨_, rfl⟩
  have k1 : Kp w W1 := by rw [← hW1]; exact kp_more (kp_alloc _ _) _
  have b4 : Lc 24 w.heap.size [.slice aa N ca, .bool ra.wh] W1 := by rw [← hW1]; exact (Lc.new w _ _).kp (kp_alloc _ _)
  have b5 : Lc 24 (w.heap.size + 1) [.slice ab M cb, .bool rb.wh] W1 := by
    have := Lc.new (w.alloc (.cells #[.slice aa N ca, .bool ra.wh] 24)) [.slice ab M cb, .bool rb.wh] 24
    rw [alloc_size, hW1] at this; exact this
  have hz1 : W1.heap.size = w.heap.size + 1 + 1 := by rw [← hW1, alloc_size, alloc_size]
  have HH : Hid (Calls Try.prog 9 #[.slice (some ⟨w.heap.size + 1 + 1, 0, none⟩) 2 2] (W1.alloc (.cells #[.int .u8 0, .int .u8 0, .slice aa N ca, .bool ra.wh, .int .u8 0, .int .u8 0, .slice ab M cb, .bool rb.wh] 27)) fun e w' => ∃ hb, e = .returned (.bool hb) ∧ w' = W1.alloc (.cells #[.int .u8 0, .int .u8 0, .slice aa N ca, .bool ra.wh, .int .u8 0, .int .u8 0, .slice ab M cb, .bool rb.wh] 27)) := heavy_any (ops_two (ha.kp k1) (hb.kp k1) hz1)
  have HB : Hid (Kp w W1 ∧ Lc 24 w.heap.size [.slice aa N ca, .bool ra.wh] W1 ∧ Lc 24 (w.heap.size + 1) [.slice ab M cb, .bool rb.wh] W1 ∧ Sl Q (.slice aa N ca) ra.ls w ∧ Sl Q (.slice ab M cb) rb.ls w) := ⟨k1, b4, b5, ha, hb⟩
  have HNM : Hid (ra.ls.length = N ∧ rb.ls.length = M ∧ szL ra.ls ≤ 1048576 ∧ szL rb.ls ≤ 1048576) := ⟨hN, hM, hza, hzb⟩
  have u1 := b4.at (j := 0) rfl
  have u2 := b4.at (j := 1) rfl
  have u3 := b5.at (j := 0) rfl
  have u4 := b5.at (j := 1) rfl
  have HW : Hid (_ = W1) := hW1
  clear ha hb hza hzb hN hM hW1 k1 b4 b5
  have HKN : Hid (∀ X, Calls Try.prog 10 #[] X fun e w' => e = .returned (.bool true) ∧ Kp X w') := rknown_any
  go_enter Try.func3, Try.ntmps3
  go_upto_region 1 with fail
  rw [HW.out]
  clear HW
  go_wp2_with fail
  refine Calls.mono HH.out ?_
  rintro e x2 ⟨hb, rfl, e2⟩
  have k2 : Kp W1 x2 := by rw [e2]; exact kp_alloc _ _
  have HK2 : Hid (Kp w x2 ∧ Kp W1 x2) := ⟨kp_trans HB.out.1 k2, k2⟩
  replace u1 := kp_cell k2 u1
  replace u2 := kp_cell k2 u2
  replace u3 := kp_cell k2 u3
  replace u4 := kp_cell k2 u4
  clear e2 k2 HH hz1
  cases hb
  rotate_left
  · go_wp2_with fail
    refine Calls.mono (HKN.out _) ?_
    rintro e x3 ⟨rfl, k3⟩
    have HE : Hid (Kp w x3) := kp_trans HK2.out.1 k3
    clear HK2 k3 HKN
    go_wp2_with fail
    go_ret
    exact ⟨rfl, HE.out⟩
  by_cases hN0 : N = 0
  · subst hN0
    go_wp2_with fail
    refine Calls.mono (HKN.out _) ?_
    rintro e x3 ⟨rfl, k3⟩
    have HE : Hid (Kp w x3) := kp_trans HK2.out.1 k3
    clear HK2 k3 HKN
    go_wp2_with fail
    go_ret
    exact ⟨rfl, HE.out⟩
  have dN1 : ((N : Int) == 0) = false := by simp; omega
  have dN2 : (N == 0) = false := by simp; omega
  by_cases hM0 : M = 0
  · subst hM0
    go_wp2_with fail
    refine Calls.mono (HKN.out _) ?_
    rintro e x3 ⟨rfl, k3⟩
    have HE : Hid (Kp w x3) := kp_trans HK2.out.1 k3
    clear HK2 k3 HKN
    go_wp2_with fail
    go_ret
    exact ⟨rfl, HE.out⟩
  have dM1 : ((M : Int) == 0) = false := by simp; omega
  have dM2 : (M == 0) = false := by simp; omega
  go_wp2_with fail
  refine Calls.mono (HKN.out _) ?_
  rintro e x3 ⟨rfl, k3⟩
  have HK3 : Hid (Kp w x3 ∧ Kp W1 x3) := ⟨kp_trans HK2.out.1 k3, kp_trans HK2.out.2 k3⟩
  have HN : Hid (Calls Try.prog 11 #[] x3 fun e w' => ∃ t b, e = .returned (.pointer (some ⟨t, 0, none⟩)) ∧ Hid (Rs t b (fun _ => none) Anyw w' ∧ Kp x3 w' ∧ x3.heap.size ≤ b)) := by
    refine (gnew_any (P := Anyw) x3).mono ?_
    rintro e w' ⟨t, b, he, q1, q2, _, q3⟩
    exact ⟨t, b, he, q1, q2, q3⟩
  clear k3 HK2 HKN u1 u2 u3 u4
  go_wp2_with fail
  refine Calls.mono HN.out ?_
  rintro e x4 ⟨t, b, rfl, H4⟩
  have hq := eql_ptrR t
  have HK4 : Hid (Kp w x4 ∧ Kp W1 x4 ∧ w.heap.size ≤ b) := ⟨kp_trans HK3.out.1 H4.out.2.1, kp_trans HK3.out.2 H4.out.2.1, Nat.le_trans HK3.out.1.size H4.out.2.2⟩
  obtain ⟨c, hc⟩ : ∃ c : Nat, 97 + c0 = c := ⟨_, rfl⟩
  have hcc : 97 ≤ c ∧ c ≤ 122 := by omega
  have hm1 : (x : Int).tmod 26 = (c0 : Int) := by rw [Int.tmod_eq_emod_of_nonneg (by omega)]; omega
  have hm2 : (97 : Int) + (c0 : Int) = (c : Int) := by omega
  have hm3 : IntKind.u8.wrap ((97 : Int) + (c0 : Int)) = (c : Int) := by rw [IntKind.wrap_u8]; omega
  have hm4 : IntKind.u8.wrap ((c : Int) - 32) = (c : Int) - 32 := by rw [IntKind.wrap_u8]; omega
  have AF := add_facts (c := (c : Int)) (by omega) (by omega) (a := ra) (b := rb) (by intro e; have := HNM.out.1; rw [e] at this; simp at this; omega) (by intro e; have := HNM.out.2.1; rw [e] at this; simp at this; omega)
  simp only at AF
  obtain ⟨F1, hF1⟩ : ∃ F1, yankF (fun _ => none) (c : Int) ra = F1 := ⟨_, rfl⟩
  obtain ⟨F2, hF2⟩ : ∃ F2, yankF F1 ((c : Int) - 32) rb = F2 := ⟨_, rfl⟩
  obtain ⟨E1, hE1⟩ : ∃ E1, layE (fun _ => none) (c : Int) ra = E1 := ⟨_, rfl⟩
  obtain ⟨E2, hE2⟩ : ∃ E2, layE F1 ((c : Int) - 32) rb = E2 := ⟨_, rfl⟩
  rw [hF1, hF2, hE1, hE2] at AF
  have HAF : Hid _ := AF
  clear AF hc hc0
  have HY : Hid (Calls Try.prog 12 #[.pointer (some ⟨t, 0, none⟩), .int .u8 (c : Int), .agg #[.slice aa N ca, .bool ra.wh]] x4 fun e w' => e = .returned (.int .u16 E1) ∧ Hid (Rs t b F1 Anyw w' ∧ Fr (On b) x4 w')) := by
    refine (yank_any H4.out.1 (anyw _) (by omega) (by omega) (HB.out.2.2.2.1.kp HK4.out.1) (fit_sz HNM.out.2.2.1)).mono ?_
    rintro e w' ⟨he, q1, q2⟩
    rw [hE1] at he; rw [hF1] at q1
    exact ⟨he, q1, q2⟩
  have HY2 : Hid (∀ X, Rs t b F1 Anyw X → Fr (On b) x4 X → Calls Try.prog 12 #[.pointer (some ⟨t, 0, none⟩), .int .u8 ((c : Int) - 32), .agg #[.slice ab M cb, .bool rb.wh]] X fun e w' => e = .returned (.int .u16 E2) ∧ Hid (Rs t b F2 Anyw w' ∧ Fr (On b) x4 w')) := fun X hR hf => by
    refine (yank_any hR (anyw _) (by omega) (by omega) (H4.out.1.sl_off (HB.out.2.2.2.2.kp HK4.out.1) hf) (fit_sz HNM.out.2.2.2)).mono ?_
    rintro e w' ⟨he, q1, q2⟩
    rw [hE2] at he; rw [hF2] at q1
    exact ⟨he, q1, hf.trans q2⟩
  have HBX : Hid (∀ X, Fr (On b) x4 X → (X.cell? ⟨w.heap.size, 0, none⟩ = some (.slice aa N ca) ∧ X.cell? ⟨w.heap.size, 1, none⟩ = some (.bool ra.wh)) ∧ (X.cell? ⟨w.heap.size + 1, 0, none⟩ = some (.slice ab M cb) ∧ X.cell? ⟨w.heap.size + 1, 1, none⟩ = some (.bool rb.wh)) ∧ Hid (Sl Q (.slice aa N ca) ra.ls X ∧ Sl Q (.slice ab M cb) rb.ls X ∧ Kp w X)) := fun X hf => by
    have l4 := H4.out.1.box_off (HB.out.2.1.kp HK4.out.2.1) hf
    have l5 := H4.out.1.box_off (HB.out.2.2.1.kp HK4.out.2.1) hf
    exact ⟨⟨l4.at (j := 0) rfl, l4.at (j := 1) rfl⟩, ⟨l5.at (j := 0) rfl, l5.at (j := 1) rfl⟩, H4.out.1.sl_off (HB.out.2.2.2.1.kp HK4.out.1) hf, H4.out.1.sl_off (HB.out.2.2.2.2.kp HK4.out.1) hf, kp_fr HK4.out.1 hf HK4.out.2.2⟩
  obtain ⟨⟨u1, u2⟩, ⟨u3, u4⟩, HU⟩ := HBX.out x4 (Fr.refl _ _)
  clear HN HK3 hF1 hF2 hE1 hE2 H4 HB HU
  go_wp2_with fail
  refine Calls.mono HY.out ?_
  rintro e x5 ⟨rfl, H5⟩
  clear HY u1 u2 u3 u4
  obtain ⟨⟨u1, u2⟩, ⟨u3, u4⟩, HU⟩ := HBX.out x5 H5.out.2
  have HC5 : Hid _ := HY2.out x5 H5.out.1 H5.out.2
  clear HU HY2 H5
  go_wp2_with fail
  refine Calls.mono HC5.out ?_
  rintro e x6 ⟨rfl, H6⟩
  clear HC5 u1 u2 u3 u4
  rcases HAF.out.1 with rfl | rfl
  rotate_left
  · have HE : Hid (Kp w x6) := by obtain ⟨_, _, H⟩ := HBX.out x6 H6.out.2; exact H.out.2.2
    clear HAF H6 HBX
    go_wp2_with fail
    go_ret
    exact ⟨rfl, HE.out⟩
  rcases HAF.out.2.1 with rfl | rfl
  rotate_left
  · have HE : Hid (Kp w x6) := by obtain ⟨_, _, H⟩ := HBX.out x6 H6.out.2; exact H.out.2.2
    clear HAF H6 HBX
    go_wp2_with fail
    go_ret
    exact ⟨rfl, HE.out⟩
  obtain ⟨_, _, hAF⟩ := HAF.out.2.2 rfl
  obtain ⟨hgR, hgE, hszR⟩ := hAF rfl
  obtain ⟨R, hR⟩ : ∃ R, addR ra rb = R := ⟨_, rfl⟩
  have HR : Hid (addR ra rb = R ∧ ra.ls ≠ []) := ⟨hR, by intro e; have := HNM.out.1; rw [e] at this; simp at this; omega⟩
  rw [hR] at hgR hszR
  have HG : Hid _ := get_some H6.out.1 (x := (c : Int)) (by omega) (by omega) hgR hgE
  have hl20 : R.ls.length ≤ 20000 := by have := szL_len R.ls; omega
  clear HAF hAF hgR hgE hR hszR
  go_wp2_with fail
  refine Calls.mono HG.out ?_
  rintro e x7 ⟨a7, L, c7, rfl, hL, hLc, hLm, H7⟩
  clear HG
  have HL : Hid (R.ls.length = L) := hL.symm
  have hl2 : L ≤ 20000 := by omega
  obtain ⟨W7, hW7⟩ : ∃ W7, x7.alloc (.cells #[.slice a7 L c7, .bool R.wh] 24) = W7 := ⟨_, rfl⟩
  have k7 : Kp x6 W7 := by rw [← hW7]; exact kp_trans H7.out.2 (kp_alloc _ _)
  obtain ⟨⟨u1, u2⟩, ⟨u3, u4⟩, HU⟩ := HBX.out W7 (H6.out.2.trans (Fr.of_below k7))
  have b7 : Lc 24 x7.heap.size [.slice a7 L c7, .bool R.wh] W7 := by rw [← hW7]; exact Lc.new x7 _ _
  have u5 := b7.at (j := 0) rfl
  have u6 := b7.at (j := 1) rfl
  have HS7 : Hid (Sl Anyw (.slice a7 L c7) R.ls W7) := by
    have := ((Sl.of_row H7.out.1).mono (Q := Anyw) fun _ _ _ => trivial).kp (kp_alloc x7 (.cells #[.slice a7 L c7, .bool R.wh] 24))
    rw [hW7] at this; exact this
  have HW : Hid (_ = W7) := hW7
  obtain ⟨b11, hb11⟩ : ∃ b11, x7.heap.size = b11 := ⟨_, rfl⟩
  rw [hb11] at u5 u6
  clear hL hW7 k7 b7 H6 H7 HBX hl20
  go_upto_region 12 with fail
  rw [HW.out]
  clear HW hb11
  unfold maxLen at ga2 gb2
  obtain ⟨S, hS⟩ : ∃ S, N + M = S := ⟨_, rfl⟩
  have hSi : (N : Int) + (M : Int) = (S : Int) := by omega
  by_cases hw : (ra.wh || rb.wh) = true
  · have hRe := whole_at HR.out.2 hw
    rw [HR.out.1] at hRe
    have hwR : R.wh = true := by rw [hRe]
    have hLS : L = S := by have := HL.out; rw [hRe] at this; simp only [List.length_append] at this; have := HNM.out; omega
    rw [hwR] at u6
    subst hLS
    have HLO : Hid (∀ i s, i < N → R.ls[i]? = some s → ra.ls[i]? = some s) := fun i s hi h => by
      rw [hRe] at h; simp only at h
      rw [List.getElem?_append_left (by have := HNM.out.1; omega)] at h; exact h
    have HHI : Hid (∀ i j s, i = N + j → R.ls[i]? = some s → rb.ls[j]? = some s) := fun i j s hi h => by
      rw [hRe] at h; simp only at h
      have hh := HNM.out.1
      rw [List.getElem?_append_right (by omega)] at h
      have e : i - ra.ls.length = j := by omega
      rw [e] at h; exact h
    have d1 : ((L : Int) != (L : Int)) = false := by simp
    clear hRe hwR HR
    cases hwa : ra.wh
    · have hwb : rb.wh = true := by rw [hwa] at hw; simpa using hw
      rw [hwa] at u2
      rw [hwb] at u4
      clear hwa hwb hw
      go_wp2_with fail
      go_loopw [15] (fun v15 wr => ∃ i : Nat, i ≤ L ∧ v15 = .int .i64 i ∧ W7 = wr) (fun v15 _ => L - (intOf v15).toNat)
      case atStart => exact ⟨0, Nat.zero_le _, rfl, rfl⟩
      case round =>
        obtain ⟨i, hi, rfl, rfl⟩ := hrel
        by_cases hlt : i < L
        · have g1 : decide ((i : Int) < (L : Int)) = true := decide_eq_true (by omega)
          have g2 : decide (i < L) = true := decide_eq_true (by omega)
          obtain ⟨s, hs⟩ : ∃ s, R.ls[i]? = some s := ⟨_, List.getElem?_eq_getElem (by rw [HL.out]; exact hlt)⟩
          obtain ⟨g7, o7, rfl, _, e7⟩ := HS7.out.at_ hs
          by_cases hn : i < N
          · have hp := HLO.out i s hn hs
            obtain ⟨ga, oa, rfl, _, ea⟩ := HU.out.1.at_ hp
            have g3 : decide ((i : Int) < (N : Int)) = true := decide_eq_true (by omega)
            have g4 : decide (i < N) = true := decide_eq_true (by omega)
            obtain ⟨z, hz⟩ : ∃ z : Int, (i : Int) - (N : Int) = z := ⟨_, rfl⟩
            have hzb : -2000000 ≤ z ∧ z < 0 := by omega
            have g5 : decide (z ≥ 0) = false := decide_eq_false (by omega)
            have g6 : decide (0 ≤ z) = false := decide_eq_false (by omega)
            clear hp hs
            go_wp2_with fail
            go_roundw
            case rel => exact ⟨i + 1, by omega, by go_num, trivial⟩
            case measure => simp only [intOf]; omega
          · obtain ⟨j, hj⟩ : ∃ j, i = N + j := ⟨i - N, by omega⟩
            have hp := HHI.out i j s hj hs
            obtain ⟨gb, ob, rfl, _, eb⟩ := HU.out.2.1.at_ hp
            have g3 : decide ((i : Int) < (N : Int)) = false := decide_eq_false (by omega)
            have g4 : decide (i < N) = false := decide_eq_false (by omega)
            have hz : (i : Int) - (N : Int) = (j : Int) := by omega
            have hjM : j < M := by omega
            have hjM2 : (j : Int) < (M : Int) := by omega
            have g5 : decide ((j : Int) ≥ 0) = true := decide_eq_true (by omega)
            have g6 : decide (0 ≤ (j : Int)) = true := decide_eq_true (by omega)
            have hadd : ∀ zz : World, (Op.stringOp .add ⟨#[]⟩ s).run Try.prog zz = .ok (.string s) zz := fun zz => by
              have := run_string_add_sum (P := Try.prog) zz ⟨#[]⟩ s (by have := str_le hp HNM.out.2.2.2; show 0 + s.size ≤ _; omega)
              rw [emp_app] at this; exact this
            clear hp hs hj
            go_wp2_with fail
            go_roundw
            case rel => exact ⟨i + 1, by omega, by go_num, trivial⟩
            case measure => simp only [intOf]; omega
        · obtain rfl : i = L := by omega
          have g1 : decide ((i : Int) < (i : Int)) = false := by simp
          have HE : Hid (Kp w W7) := HU.out.2.2
          clear HU HS7 HL HLO HHI
          go_wp2_with fail
          go_ret
          exact ⟨rfl, HE.out⟩
    · rw [hwa] at u2
      clear hwa hw
      go_wp2_with fail
      go_loopw [15] (fun v15 wr => ∃ i : Nat, i ≤ L ∧ v15 = .int .i64 i ∧ W7 = wr) (fun v15 _ => L - (intOf v15).toNat)
      case atStart => exact ⟨0, Nat.zero_le _, rfl, rfl⟩
      case round =>
        obtain ⟨i, hi, rfl, rfl⟩ := hrel
        by_cases hlt : i < L
        · have g1 : decide ((i : Int) < (L : Int)) = true := decide_eq_true (by omega)
          have g2 : decide (i < L) = true := decide_eq_true (by omega)
          obtain ⟨s, hs⟩ : ∃ s, R.ls[i]? = some s := ⟨_, List.getElem?_eq_getElem (by rw [HL.out]; exact hlt)⟩
          obtain ⟨g7, o7, rfl, _, e7⟩ := HS7.out.at_ hs
          by_cases hn : i < N
          · have hp := HLO.out i s hn hs
            obtain ⟨ga, oa, rfl, _, ea⟩ := HU.out.1.at_ hp
            have g3 : decide ((i : Int) < (N : Int)) = true := decide_eq_true (by omega)
            have g4 : decide (i < N) = true := decide_eq_true (by omega)
            obtain ⟨z, hz⟩ : ∃ z : Int, (i : Int) - (N : Int) = z := ⟨_, rfl⟩
            have hzb : -2000000 ≤ z ∧ z < 0 := by omega
            have g5 : decide (z ≥ 0) = false := decide_eq_false (by omega)
            have g6 : decide (0 ≤ z) = false := decide_eq_false (by omega)
            clear hp hs
            go_wp2_with fail
            go_roundw
            case rel => exact ⟨i + 1, by omega, by go_num, trivial⟩
            case measure => simp only [intOf]; omega
          · obtain ⟨j, hj⟩ : ∃ j, i = N + j := ⟨i - N, by omega⟩
            have hp := HHI.out i j s hj hs
            obtain ⟨gb, ob, rfl, _, eb⟩ := HU.out.2.1.at_ hp
            have g3 : decide ((i : Int) < (N : Int)) = false := decide_eq_false (by omega)
            have g4 : decide (i < N) = false := decide_eq_false (by omega)
            have hz : (i : Int) - (N : Int) = (j : Int) := by omega
            have hjM : j < M := by omega
            have hjM2 : (j : Int) < (M : Int) := by omega
            have g5 : decide ((j : Int) ≥ 0) = true := decide_eq_true (by omega)
            have g6 : decide (0 ≤ (j : Int)) = true := decide_eq_true (by omega)
            have hadd : ∀ zz : World, (Op.stringOp .add ⟨#[]⟩ s).run Try.prog zz = .ok (.string s) zz := fun zz => by
              have := run_string_add_sum (P := Try.prog) zz ⟨#[]⟩ s (by have := str_le hp HNM.out.2.2.2; show 0 + s.size ≤ _; omega)
              rw [emp_app] at this; exact this
            clear hp hs hj
            go_wp2_with fail
            go_roundw
            case rel => exact ⟨i + 1, by omega, by go_num, trivial⟩
            case measure => simp only [intOf]; omega
        · obtain rfl : i = L := by omega
          have g1 : decide ((i : Int) < (i : Int)) = false := by simp
          have HE : Hid (Kp w W7) := HU.out.2.2
          clear HU HS7 HL HLO HHI
          go_wp2_with fail
          go_ret
          exact ⟨rfl, HE.out⟩
  · have hwa : ra.wh = false := by cases h : ra.wh <;> simp_all
    have hwb : rb.wh = false := by cases h : rb.wh <;> simp_all
    have hRe := seam_eq HR.out.2 hwa hwb
    rw [HR.out.1] at hRe
    have hwR : R.wh = false := by rw [hRe]
    have hLS : L + 1 = S := by
      have := HL.out; rw [hRe] at this
      have hh := HNM.out
      simp only [List.length_append, List.length_take, List.length_cons, List.length_drop] at this; omega
    rw [hwR] at u6
    rw [hwa] at u2
    rw [hwb] at u4
    have hS1 : (S : Int) - 1 = (L : Int) := by omega
    have d1 : ((L : Int) != (S : Int)) = true := by simp; omega
    have d2 : ((L : Int) != (L : Int)) = false := by simp
    have HLO : Hid (∀ i s, i + 1 < N → R.ls[i]? = some s → ra.ls[i]? = some s) := fun i s hi h => by
      rw [hRe] at h; simp only at h
      rw [seam_lo (by have := HNM.out.1; omega)] at h; exact h
    have HMI : Hid (∀ i s, i + 1 = N → R.ls[i]? = some s → ∃ p q, ra.ls[i]? = some p ∧ rb.ls[0]? = some q ∧ s = p ++ q) := fun i s hi h => by
      rw [hRe] at h; simp only at h
      have h1 := HNM.out.1
      have h2 := HNM.out.2.1
      rw [seam_mid (by omega)] at h
      cases h
      obtain ⟨p, hp⟩ : ∃ p, ra.ls[i]? = some p := ⟨_, List.getElem?_eq_getElem (by omega)⟩
      obtain ⟨q, hq⟩ : ∃ q, rb.ls[0]? = some q := ⟨_, List.getElem?_eq_getElem (by omega)⟩
      refine ⟨p, q, hp, hq, ?_⟩
      unfold seam
      have e : ra.ls.length - 1 = i := by omega
      rw [e, hp, hq]; rfl
    have HHI : Hid (∀ i j s, i = N + j → R.ls[i]? = some s → rb.ls[j + 1]? = some s) := fun i j s hi h => by
      rw [hRe] at h; simp only at h
      have h1 := HNM.out.1
      have e : i = ra.ls.length + j := by omega
      rw [e, seam_hi (by omega)] at h; exact h
    clear hRe hwR HR hwa hwb hw
    go_wp2_with fail
    go_loopw [15] (fun v15 wr => ∃ i : Nat, i ≤ L ∧ v15 = .int .i64 i ∧ W7 = wr) (fun v15 _ => L - (intOf v15).toNat)
    case atStart => exact ⟨0, Nat.zero_le _, rfl, rfl⟩
    case round =>
      obtain ⟨i, hi, rfl, rfl⟩ := hrel
      by_cases hlt : i < L
      · have g1 : decide ((i : Int) < (L : Int)) = true := decide_eq_true (by omega)
        have g2 : decide (i < L) = true := decide_eq_true (by omega)
        obtain ⟨s, hs⟩ : ∃ s, R.ls[i]? = some s := ⟨_, List.getElem?_eq_getElem (by rw [HL.out]; exact hlt)⟩
        obtain ⟨g7, o7, rfl, _, e7⟩ := HS7.out.at_ hs
        by_cases hn : i + 1 < N
        · have hp := HLO.out i s hn hs
          obtain ⟨ga, oa, rfl, _, ea⟩ := HU.out.1.at_ hp
          have g3 : decide ((i : Int) < (N : Int)) = true := decide_eq_true (by omega)
          have g4 : decide (i < N) = true := decide_eq_true (by omega)
          obtain ⟨z, hz⟩ : ∃ z : Int, (i : Int) - (N : Int) = z := ⟨_, rfl⟩
          have hzb : -2000000 ≤ z ∧ z < -1 := by omega
          have g5 : decide (z + 1 ≥ 0) = false := decide_eq_false (by omega)
          have g6 : decide (0 ≤ z + 1) = false := decide_eq_false (by omega)
          clear hp hs
          go_wp2_with fail
          go_roundw
          case rel => exact ⟨i + 1, by omega, by go_num, trivial⟩
          case measure => simp only [intOf]; omega
        by_cases hn2 : i + 1 = N
        · obtain ⟨p, q, hp, hq2, rfl⟩ := HMI.out i s hn2 hs
          obtain ⟨ga, oa, rfl, _, ea⟩ := HU.out.1.at_ hp
          obtain ⟨gb, ob, rfl, _, eb⟩ := HU.out.2.1.at_ hq2
          rw [Nat.add_zero] at eb
          have g3 : decide ((i : Int) < (N : Int)) = true := decide_eq_true (by omega)
          have g4 : decide (i < N) = true := decide_eq_true (by omega)
          have hz : (i : Int) - (N : Int) = -1 := by omega
          have hadd : ∀ zz : World, (Op.stringOp .add p q).run Try.prog zz = .ok (.string (p ++ q)) zz := fun zz => run_string_add_sum (P := Try.prog) zz p q (by have := str_le hp HNM.out.2.2.1; have := str_le hq2 HNM.out.2.2.2; omega)
          have hM2 : (0 : Int) < (M : Int) := by omega
          have hM3 : 0 < M := by omega
          obtain ⟨pq, hpq⟩ : ∃ pq, p ++ q = pq := ⟨_, rfl⟩
          rw [hpq] at hadd e7
          clear hp hs hq2 hpq hn hn2
          go_wp2_with fail
          go_roundw
          case rel => exact ⟨i + 1, by omega, by go_num, trivial⟩
          case measure => simp only [intOf]; omega
        · obtain ⟨j, hj⟩ : ∃ j, i = N + j := ⟨i - N, by omega⟩
          have hp := HHI.out i j s hj hs
          obtain ⟨gb, ob, rfl, _, eb⟩ := HU.out.2.1.at_ hp
          have g3 : decide ((i : Int) < (N : Int)) = false := decide_eq_false (by omega)
          have g4 : decide (i < N) = false := decide_eq_false (by omega)
          have hz : (i : Int) - (N : Int) = (j : Int) := by omega
          obtain ⟨j1, hj1⟩ : ∃ j1, j + 1 = j1 := ⟨_, rfl⟩
          have hz2 : (j : Int) + 1 = (j1 : Int) := by omega
          rw [hj1] at eb hp
          have hjM : j1 < M := by omega
          have hjM2 : (j1 : Int) < (M : Int) := by omega
          have g5 : decide ((j1 : Int) ≥ 0) = true := decide_eq_true (by omega)
          have g6 : decide (0 ≤ (j1 : Int)) = true := decide_eq_true (by omega)
          have hadd : ∀ zz : World, (Op.stringOp .add ⟨#[]⟩ s).run Try.prog zz = .ok (.string s) zz := fun zz => by
            have := run_string_add_sum (P := Try.prog) zz ⟨#[]⟩ s (by have := str_le hp HNM.out.2.2.2; show 0 + s.size ≤ _; omega)
            rw [emp_app] at this; exact this
          have hj20 : j < 2000000 := by omega
          clear hp hs hj hj1 hn hn2
          go_wp2_with fail
          go_roundw
          case rel => exact ⟨i + 1, by omega, by go_num, trivial⟩
          case measure => simp only [intOf]; omega
      · obtain rfl : i = L := by omega
        have g1 : decide ((i : Int) < (i : Int)) = false := by simp
        have HE : Hid (Kp w W7) := HU.out.2.2
        clear HU HS7 HL HLO HHI
        go_wp2_with fail
        go_ret
        exact ⟨rfl, HE.out⟩
end Go.Proofs.Ytbnlenanfhggiaa
/- Same of registers that are the same. -/
namespace Go.Proofs.Ytbnlenanfhggiaa
open Go.ChangeShapes Go.WideShapes Go.ChangeAt Go.RowKit Go.Maps Go.MapKept
set_option linter.unusedVariables false
set_option linter.unusedSimpArgs false
set_option maxRecDepth 100000
set_option maxHeartbeats 4000000 in
theorem same_any {P Q : Nat → Prop} {va vb : Value} {r : Rv} {w : World} (ha : Sl P va r.ls w) (hb : Sl Q vb r.ls w) :
    Calls Try.prog 22 #[.agg #[va, .bool r.wh], .agg #[vb, .bool r.wh]] w fun e w' => e = .returned (.bool true) ∧ Kp w w' := by
  obtain ⟨a1, c1, rfl, x1, x2, _⟩ := ha.form
  obtain ⟨a2, c2, rfl, y1, y2, _⟩ := hb.form
  obtain ⟨n, hn⟩ : ∃ n, r.ls.length = n := ⟨_, rfl⟩
  rw [hn] at x1 y1 ⊢
  unfold maxLen at x2 y2
  obtain ⟨W, hW⟩ : ∃ W, (w.alloc (.cells #[.slice a1 n c1, .bool r.wh] 24)).alloc (.cells #[.slice a2 n c2, .bool r.wh] 24) = W := ⟨_, rfl⟩
  have k : Kp w W := by rw [← hW]; exact kp_more (kp_alloc _ _) _
  have b1 : Lc 24 w.heap.size [.slice a1 n c1, .bool r.wh] W := by rw [← hW]; exact (Lc.new w _ _).kp (kp_alloc _ _)
  have b2 : Lc 24 (w.heap.size + 1) [.slice a2 n c2, .bool r.wh] W := by
    have := Lc.new (w.alloc (.cells #[.slice a1 n c1, .bool r.wh] 24)) [.slice a2 n c2, .bool r.wh] 24
    rw [alloc_size, hW] at this; exact this
  have HA : Hid (Sl P (.slice a1 n c1) r.ls W ∧ Sl Q (.slice a2 n c2) r.ls W ∧ r.ls.length = n) := ⟨by rw [← hn]; exact ha.kp k, by rw [← hn]; exact hb.kp k, hn⟩
  have u1 := b1.at (j := 0) rfl
  have u2 := b1.at (j := 1) rfl
  have u3 := b2.at (j := 0) rfl
  have u4 := b2.at (j := 1) rfl
  have HW : Hid (_ = W) := hW
  have HK : Hid (Kp w W) := k
  have d0 : ((n : Int) != (n : Int)) = false := by simp
  have d1 : (r.wh != r.wh) = false := by simp
  obtain ⟨wh, hwh⟩ : ∃ wh, r.wh = wh := ⟨_, rfl⟩
  rw [hwh] at u2 u4 HW d1 ⊢
  clear ha hb hn hW k b1 b2 hwh
  cases wh <;> (
    go_enter Try.func22, Try.ntmps22
    go_upto_region 1 with fail
    rw [HW.out]
    clear HW
    go_wp2_with fail
    go_loopw [5] (fun vi wr => ∃ i : Nat, i ≤ n ∧ vi = .int .i64 i ∧ ∃ q, wr = W.drewN q) (fun vi _ => n - (intOf vi).toNat)
    case atStart => exact ⟨0, Nat.zero_le _, rfl, 0, rfl⟩
    case round =>
      obtain ⟨i, hi, rfl, q, rfl⟩ := hrel
      by_cases hlt : i < n
      · have hdl : decide ((i : Int) < (n : Int)) = true := decide_eq_true (by omega)
        obtain ⟨s, hs⟩ : ∃ s, r.ls[i]? = some s := ⟨_, List.getElem?_eq_getElem (by rw [HA.out.2.2]; exact hlt)⟩
        obtain ⟨g1, o1, rfl, _, e1⟩ := HA.out.1.at_ hs
        obtain ⟨g2, o2, rfl, _, e2⟩ := HA.out.2.1.at_ hs
        have hli : (i : Int) < (n : Int) := by omega
        clear hs
        go_wp2_with fail
        go_quiet (fail)
        go_wp2_with fail
        go_roundw
        case rel => exact ⟨i + 1, by omega, by go_num, _, rfl⟩
        case measure => simp only [intOf]; omega
      · obtain rfl : i = n := by omega
        have hdl : decide ((i : Int) < (i : Int)) = false := by simp
        go_wp2_with fail
        go_ret
        exact ⟨rfl, kp_trans HK.out (kp_drewN _ _)⟩)
end Go.Proofs.Ytbnlenanfhggiaa
/- RegsKeep: the walk. -/
namespace Go.Proofs.Ytbnlenanfhggiaa
open Go.ChangeShapes Go.WideShapes Go.ChangeAt Go.RowKit Go.Maps Go.MapKept
set_option linter.unusedVariables false
set_option linter.unusedSimpArgs false
set_option maxRecDepth 100000
theorem Rs.cell_off {t b : Nat} {f : Rf} {P : Nat → Prop} {w w1 : World} (h : Rs t b f P w) (k : Fr (On b) w w1) {a : Addr} {u : Value} (hc : w.cell? a = some u) : w1.cell? a = some u := by
  obtain ⟨m, ⟨es, cl, hb, _⟩, _⟩ := h.map
  rw [World.cell?_of_block (k.block a.block (World.block_lt_of_cell? w a hc) ?_)]
  · exact hc
  · intro e
    unfold On at e
    rw [← e] at hb
    obtain ⟨ab, ao, asp⟩ := a
    simp [World.cell?, hb] at hc
theorem keep_facts {c o : Int} (c0 : 97 ≤ c) (c1 : c ≤ 122) (o0 : 97 ≤ o) (o1 : o ≤ 122) (hco : c ≠ o) (F : Rf) (x : Rv) :
    getR (yankF F c x) o = getR F o ∧ getE (yankF F c x) o = getE F o ∧ (layE F c x = 0 ∨ layE F c x = 112) ∧
    (layE F c x = 0 → getR (yankF F c x) c = ownR x ∧ getE (yankF F c x) c = 0 ∧ getR (yankF F c x) 34 = ownR x ∧ getE (yankF F c x) 34 = 0 ∧ getR (yankF F c x) (c - 32) = ownR x ∧ getE (yankF F c x) (c - 32) = 0) := by
  obtain ⟨k1, s1, n1, m1⟩ := small_kw c0 c1
  obtain ⟨k2, s2, n2, m2, d2⟩ := great_kw c0 c1
  obtain ⟨k3, s3, n3, m3⟩ := small_kw o0 o1
  have hk34 : kwB 34 = true := by simp [kwB]
  have i1 : isR F c x = ownR x := by unfold isR; rw [if_pos s1]
  have e1 : layE F c x = if szL (ownR x).ls ≤ 20000 then 0 else 112 := by unfold layE; rw [if_neg (by rw [k1]; simp), if_neg n1, i1]
  have y1 : yankF F c x = layF F c x := by unfold yankF; rw [if_neg fun e => m1 e.2]
  have f1 : layF F c x = if szL (ownR x).ls ≤ 20000 then setR (setR F c (some (ownR x))) 34 (some (ownR x)) else F := by
    unfold layF; rw [i1, s1]
    by_cases q : szL (ownR x).ls ≤ 20000
    · rw [if_pos ⟨k1, n1, q⟩, if_pos q]
    · rw [if_neg fun e => q e.2.2, if_neg q]
  have fo : layF F c x o = F o := by
    rw [f1]; split
    · unfold setR; rw [if_neg (by omega), if_neg (by omega)]
    · rfl
  rw [y1]
  refine ⟨?_, ?_, ?_, fun hE => ?_⟩
  · unfold getR; rw [if_pos k3, s3, fo, if_pos k3]
  · unfold getE; rw [if_pos k3, s3, fo, if_pos k3]
  · rw [e1]; split
    · exact .inl rfl
    · exact .inr rfl
  · have hz : szL (ownR x).ls ≤ 20000 := by
      by_cases q : szL (ownR x).ls ≤ 20000
      · exact q
      · rw [e1, if_neg q] at hE; cases hE
    rw [if_pos hz] at f1
    have fc : layF F c x c = some (ownR x) := by rw [f1]; unfold setR; rw [if_neg (by omega), if_pos rfl]
    have f34 : layF F c x 34 = some (ownR x) := by rw [f1]; unfold setR; rw [if_pos rfl]
    unfold getR getE
    rw [if_pos k1, s1, fc, if_pos k1, if_pos hk34, sm34, f34, if_pos hk34, if_pos k2, s2, fc, if_pos k2]
    exact ⟨rfl, rfl, rfl, rfl, rfl, rfl⟩
set_option maxHeartbeats 8000000 in
theorem keep_walk {Q : Nat → Prop} {vl : Value} {l : List Op11} {w : World} (hl : OpsL Q vl l w) (hok : ∀ o ∈ l, o.kd < 256 ∧ o.nm < 256 ∧ szL o.r.ls ≤ 1048576) (hln : l.length ≤ 1048576) (x : Nat) (hx : x < 256) {v : Value} {r : Rv} (hv : Sl Q v r.ls w) (hz : szL r.ls ≤ 1048576) :
    Calls Try.prog 6 #[vl, .int .u8 x, .agg #[v, .bool r.wh]] w fun e w' => e = .returned (.bool true) ∧ Kp w w' := by
  obtain ⟨a, c, rfl, gr1, gr2, _⟩ := hv.form
  have HL0 : Hid (OpsL Q vl l w) := hl
  obtain ⟨la, lc, rfl, l1, l2, l3⟩ := hl
  obtain ⟨N, hN⟩ : ∃ N, r.ls.length = N := ⟨_, rfl⟩
  obtain ⟨K, hK⟩ : ∃ K, l.length = K := ⟨_, rfl⟩
  rw [hN] at hv gr1 ⊢
  rw [hK] at HL0 l1 hln ⊢
  have HL : Hid (∀ i, i < K → ∃ B off nm a n c o, la = some ⟨B, off, none⟩ ∧ w.cell? ⟨B, off + i * 4 + 1, none⟩ = some (.int .u8 ((nm : Nat) : Int)) ∧ w.cell? ⟨B, off + i * 4 + 2, none⟩ = some (.slice a n c) ∧ w.cell? ⟨B, off + i * 4 + 3, none⟩ = some (.bool o.wh) ∧ nm < 256 ∧ Sl Q (.slice a n c) (o : Rv).ls w ∧ szL o.ls ≤ 1048576) := fun i hi => by
    obtain ⟨o, ho⟩ : ∃ o, l[i]? = some o := ⟨_, List.getElem?_eq_getElem (by omega)⟩
    obtain ⟨B, off, e, q1, q2, q3, q4, q5⟩ := l3 i o ho
    obtain ⟨a, c, e2, r1, r2, _⟩ := q5.form
    rw [e2] at q3 q5
    have := hok o (List.mem_of_getElem? ho)
    exact ⟨B, off, o.nm, a, _, c, o.r, e, q2, q3, q4, this.2.1, q5, this.2.2⟩
  obtain ⟨W1, hW1⟩ : ∃ W1, w.alloc (.cells #[.slice a N c, .bool r.wh] 24) = W1 := ⟨_, rfl⟩
  have k1 : Kp w W1 := by rw [← hW1]; exact kp_alloc _ _
  have b5 : Lc 24 w.heap.size [.slice a N c, .bool r.wh] W1 := by rw [← hW1]; exact Lc.new w _ _
  have hz1 : W1.heap.size = w.heap.size + 1 := by rw [← hW1, alloc_size]
  have HH0 : Hid (Calls Try.prog 9 #[.slice la K lc] W1 fun e w' => ∃ hb, e = .returned (.bool hb) ∧ w' = W1) := heavy_any (HL0.out.kp k1)
  have HH : Hid (Calls Try.prog 9 #[.slice (some ⟨w.heap.size + 1, 0, none⟩) 1 1] (W1.alloc (.cells #[.int .u8 0, .int .u8 0, .slice a N c, .bool r.wh] 27)) fun e w' => ∃ hb, e = .returned (.bool hb) ∧ w' = W1.alloc (.cells #[.int .u8 0, .int .u8 0, .slice a N c, .bool r.wh] 27)) := heavy_any (ops_one (hv.kp k1) hz1)
  have HB : Hid (Kp w W1 ∧ Lc 24 w.heap.size [.slice a N c, .bool r.wh] W1 ∧ Sl Q (.slice a N c) r.ls w ∧ r.ls.length = N ∧ szL r.ls ≤ 1048576) := ⟨k1, b5, hv, hN, hz⟩
  have u1 := b5.at (j := 0) rfl
  have u2 := b5.at (j := 1) rfl
  have HW : Hid (_ = W1) := hW1
  have HKN : Hid (∀ X, Calls Try.prog 10 #[] X fun e w' => e = .returned (.bool true) ∧ Kp X w') := rknown_any
  unfold maxLen at l2 gr2
  clear hv hz hN hK hW1 k1 b5 HL0 l3 hok
  go_enter Try.func6, Try.ntmps6
  go_upto_region 1 with fail
  rw [HW.out]
  clear HW
  go_wp2_with fail
  refine Calls.mono HH0.out ?_
  rintro e x0 ⟨hb0, rfl, e0⟩
  rw [e0]
  clear e0 HH0
  cases hb0
  rotate_left
  · clear HH
    go_wp2_with fail
    refine Calls.mono (HKN.out _) ?_
    rintro e x3 ⟨rfl, k3⟩
    have HE : Hid (Kp w x3) := kp_trans HB.out.1 k3
    clear k3 HKN
    go_wp2_with fail
    go_ret
    exact ⟨rfl, HE.out⟩
  go_wp2_with fail
  refine Calls.mono HH.out ?_
  rintro e x2 ⟨hb, rfl, e2⟩
  have k2 : Kp W1 x2 := by rw [e2]; exact kp_alloc _ _
  have HK2 : Hid (Kp w x2 ∧ Kp W1 x2) := ⟨kp_trans HB.out.1 k2, k2⟩
  clear e2 k2 HH hz1 u1 u2
  cases hb
  rotate_left
  · go_wp2_with fail
    refine Calls.mono (HKN.out _) ?_
    rintro e x3 ⟨rfl, k3⟩
    have HE : Hid (Kp w x3) := kp_trans HK2.out.1 k3
    clear HK2 k3 HKN
    go_wp2_with fail
    go_ret
    exact ⟨rfl, HE.out⟩
  go_wp2_with fail
  refine Calls.mono (HKN.out _) ?_
  rintro e x3 ⟨rfl, k3⟩
  have HK3 : Hid (Kp w x3 ∧ Kp W1 x3) := ⟨kp_trans HK2.out.1 k3, kp_trans HK2.out.2 k3⟩
  have HN : Hid (Calls Try.prog 11 #[] x3 fun e w' => ∃ t b, e = .returned (.pointer (some ⟨t, 0, none⟩)) ∧ Hid (Rs t b (fun _ => none) Anyw w' ∧ Kp x3 w' ∧ x3.heap.size ≤ b)) := by
    refine (gnew_any (P := Anyw) x3).mono ?_
    rintro e w' ⟨t, b, he, q1, q2, _, q3⟩
    exact ⟨t, b, he, q1, q2, q3⟩
  clear k3 HK2 HKN
  go_wp2_with fail
  refine Calls.mono HN.out ?_
  rintro e x4 ⟨t, b, rfl, H4⟩
  have hq := eql_ptrR t
  have HK4 : Hid (Kp w x4 ∧ Kp W1 x4 ∧ w.heap.size ≤ b) := ⟨kp_trans HK3.out.1 H4.out.2.1, kp_trans HK3.out.2 H4.out.2.1, Nat.le_trans HK3.out.1.size H4.out.2.2⟩
  have HR4 : Hid (Rs t b (fun _ => none) Anyw x4) := H4.out.1
  clear HN HK3 H4
  go_wp2_with fail
  go_loopw [8] (fun v8 wr => ∃ (i : Nat) (F : Rf), i ≤ K ∧ v8 = .int .i64 i ∧ Hid (Rs t b F Anyw wr ∧ Fr (On b) x4 wr)) (fun v8 _ => K - (intOf v8).toNat)
  case atStart => exact ⟨0, _, Nat.zero_le _, rfl, HR4.out, Fr.refl _ _⟩
  case round =>
    obtain ⟨i, F, hi, rfl, HI⟩ := hrel
    by_cases hlt : i < K
    · have g1 : decide ((i : Int) < (K : Int)) = true := decide_eq_true (by omega)
      have g2 : decide (i < K) = true := decide_eq_true (by omega)
      obtain ⟨B, off, nm, oa, on, oc, o, rfl, e1, e2, e3, hnm, hsl, hoz⟩ := HL.out i hlt
      have f1 := HR4.out.cell_off HI.out.2 (kp_cell HK4.out.1 e1)
      have f2 := HR4.out.cell_off HI.out.2 (kp_cell HK4.out.1 e2)
      have f3 := HR4.out.cell_off HI.out.2 (kp_cell HK4.out.1 e3)
      have HS : Hid (∀ mm, Calls Try.prog 12 #[.pointer (some ⟨t, 0, none⟩), .int .u8 (nm : Int), .agg #[.slice oa on oc, .bool o.wh]] (wr.drewN mm) fun e w' => ∃ E, e = .returned (.int .u16 E) ∧ Hid (∃ F', Rs t b F' Anyw w' ∧ Fr (On b) x4 w')) := fun mm => by
        have hs2 : Sl Q (.slice oa on oc) o.ls (wr.drewN mm) := (HR4.out.sl_off (hsl.kp HK4.out.1) HI.out.2).kp (kp_drewN _ mm)
        refine (yank_any (HI.out.1.kp (kp_drewN _ mm)) (anyw _) (by omega) (by omega) hs2 (fit_sz hoz)).mono ?_
        rintro e w' ⟨he, q1, q2⟩
        exact ⟨_, he, _, q1, (HI.out.2.trans (Fr.of_below (kp_drewN _ mm))).trans q2⟩
      clear HI e1 e2 e3 hsl hoz
      go_wp2_with fail
      go_region_with (go_at_call 12; refine Calls.mono (HS.out _) ?_; rintro e w5 ⟨E5, rfl, H5⟩)
      all_goals
        clear HS f1 f2 f3
        go_wp2_with fail
        obtain ⟨F', h5⟩ := H5.out
        exact ⟨⟨i + 1, F', by omega, by go_num, h5⟩, by simp only [intOf]; omega⟩
    · obtain rfl : i = K := by omega
      have g1 : decide ((i : Int) < (i : Int)) = false := by simp
      clear hlt HL hi
      obtain ⟨c0, hc0⟩ : ∃ c0 : Nat, x % 26 = c0 := ⟨_, rfl⟩
      obtain ⟨x1, hx1⟩ : ∃ x1 : Nat, (x + 1) % 256 = x1 := ⟨_, rfl⟩
      obtain ⟨o0, ho0⟩ : ∃ o0 : Nat, x1 % 26 = o0 := ⟨_, rfl⟩
      obtain ⟨cc, hcc⟩ : ∃ cc : Nat, 97 + c0 = cc := ⟨_, rfl⟩
      obtain ⟨oo, hoo⟩ : ∃ oo : Nat, 97 + o0 = oo := ⟨_, rfl⟩
      have hcb : 97 ≤ cc ∧ cc ≤ 122 := by omega
      have hob : 97 ≤ oo ∧ oo ≤ 122 := by omega
      have hne : cc ≠ oo := by omega
      have hm1 : (x : Int).tmod 26 = (c0 : Int) := by rw [Int.tmod_eq_emod_of_nonneg (by omega)]; omega
      have hm2 : (97 : Int) + (c0 : Int) = (cc : Int) := by omega
      have hm3 : IntKind.u8.wrap ((97 : Int) + (c0 : Int)) = (cc : Int) := by rw [IntKind.wrap_u8]; omega
      have hm4 : IntKind.u8.wrap ((x : Int) + 1) = (x1 : Int) := by rw [IntKind.wrap_u8]; omega
      have hm5 : (x1 : Int).tmod 26 = (o0 : Int) := by rw [Int.tmod_eq_emod_of_nonneg (by omega)]; omega
      have hm6 : (97 : Int) + (o0 : Int) = (oo : Int) := by omega
      have hm7 : IntKind.u8.wrap ((97 : Int) + (o0 : Int)) = (oo : Int) := by rw [IntKind.wrap_u8]; omega
      have hm8 : IntKind.u8.wrap ((cc : Int) - 32) = (cc : Int) - 32 := by rw [IntKind.wrap_u8]; omega
      have hm9 : ((x : Int) + 1) % 256 = (x1 : Int) := by omega
      have KF := keep_facts (c := (cc : Int)) (o := (oo : Int)) (by omega) (by omega) (by omega) (by omega) (by omega) F r
      obtain ⟨F1, hF1⟩ : ∃ F1, yankF F (cc : Int) r = F1 := ⟨_, rfl⟩
      obtain ⟨E1, hE1⟩ : ∃ E1, layE F (cc : Int) r = E1 := ⟨_, rfl⟩
      obtain ⟨Ro, hRo⟩ : ∃ Ro, getR F (oo : Int) = Ro := ⟨_, rfl⟩
      obtain ⟨Eo, hEo⟩ : ∃ Eo, getE F (oo : Int) = Eo := ⟨_, rfl⟩
      rw [hF1, hE1, hRo, hEo] at KF
      have HKF : Hid _ := KF
      have HG : Hid _ := get_some HI.out.1 (x := (oo : Int)) (by omega) (by omega) hRo hEo
      have HF1 : Hid (yankF F (cc : Int) r = F1 ∧ layE F (cc : Int) r = E1) := ⟨hF1, hE1⟩
      clear KF hc0 hx1 ho0 hcc hoo hF1 hE1 hRo hEo hne
      go_wp2_with fail
      refine Calls.mono HG.out ?_
      rintro e x6 ⟨a6, n6, c6, rfl, qn, hn6, hn6', H6⟩
      clear HG qn
      obtain ⟨W6, hW6⟩ : ∃ W6, x6.alloc (.cells #[.slice a6 n6 c6, .bool Ro.wh] 24) = W6 := ⟨_, rfl⟩
      have k6 : Kp wr W6 := by rw [← hW6]; exact kp_trans H6.out.2 (kp_alloc _ _)
      have b6 : Lc 24 x6.heap.size [.slice a6 n6 c6, .bool Ro.wh] W6 := by rw [← hW6]; exact Lc.new x6 _ _
      have s6 : Sl Anyw (.slice a6 n6 c6) Ro.ls W6 := by
        have := ((Sl.of_row H6.out.1).mono (Q := Anyw) fun _ _ _ => trivial).kp (kp_alloc x6 (.cells #[.slice a6 n6 c6, .bool Ro.wh] 24))
        rw [hW6] at this; exact this
      have hf6 : Fr (On b) x4 W6 := HI.out.2.trans (Fr.of_below k6)
      have hR6 := HI.out.1.kp k6
      have l5 := HR4.out.box_off (HB.out.2.1.kp HK4.out.2.1) hf6
      have sv6 : Sl Q (.slice a N c) r.ls W6 := HR4.out.sl_off (HB.out.2.2.1.kp HK4.out.1) hf6
      have HY : Hid (Calls Try.prog 12 #[.pointer (some ⟨t, 0, none⟩), .int .u8 (cc : Int), .agg #[.slice a N c, .bool r.wh]] W6 fun e w' => e = .returned (.int .u16 E1) ∧ Hid (Rs t b F1 Anyw w' ∧ Fr (On b) W6 w')) := by
        refine (yank_any hR6 (anyw _) (by omega) (by omega) sv6 (fit_sz HB.out.2.2.2.2)).mono ?_
        rintro e w' ⟨he, q1, q2⟩
        rw [HF1.out.2] at he; rw [HF1.out.1] at q1
        exact ⟨he, q1, q2⟩
      have u1 := l5.at (j := 0) rfl
      have u2 := l5.at (j := 1) rfl
      obtain ⟨b11, hb11⟩ : ∃ b11, x6.heap.size = b11 := ⟨_, rfl⟩
      rw [hb11] at b6
      have HS6 : Hid (Lc 24 b11 [.slice a6 n6 c6, .bool Ro.wh] W6 ∧ Sl Anyw (.slice a6 n6 c6) Ro.ls W6 ∧ Rs t b F Anyw W6 ∧ Kp w W6 ∧ Lc 24 w.heap.size [.slice a N c, .bool r.wh] W6 ∧ Sl Q (.slice a N c) r.ls W6 ∧ w.heap.size ≤ b) := ⟨b6, s6, hR6, kp_fr HK4.out.1 hf6 HK4.out.2.2, l5, sv6, HK4.out.2.2⟩
      have HRN : Hid (r.ls.length = N) := HB.out.2.2.2.1
      have HW : Hid (_ = W6) := hW6
      clear hW6 k6 b6 s6 hf6 hR6 l5 sv6 H6 HI HR4 HK4 HB HF1
      go_upto_region 13 with fail
      rw [HW.out]
      clear HW hb11
      go_wp2_with fail
      refine Calls.mono HY.out ?_
      rintro e x7 ⟨rfl, H7⟩
      clear HY u1 u2
      have h6 := HS6.out
      have l11 := h6.2.2.1.box_off h6.1 H7.out.2
      have s11 := h6.2.2.1.sl_off h6.2.1 H7.out.2
      have l5 := h6.2.2.1.box_off h6.2.2.2.2.1 H7.out.2
      have sv7 := h6.2.2.1.sl_off h6.2.2.2.2.2.1 H7.out.2
      have HS7 : Hid (Lc 24 b11 [.slice a6 n6 c6, .bool Ro.wh] x7 ∧ Sl Anyw (.slice a6 n6 c6) Ro.ls x7 ∧ Rs t b F1 Anyw x7 ∧ Kp w x7 ∧ Lc 24 w.heap.size [.slice a N c, .bool r.wh] x7 ∧ Sl Q (.slice a N c) r.ls x7) := ⟨l11, s11, H7.out.1, kp_fr h6.2.2.2.1 H7.out.2 h6.2.2.2.2.2.2, l5, sv7⟩
      have HG : Hid _ := get_some HS7.out.2.2.1 (x := (oo : Int)) (by omega) (by omega) HKF.out.1 HKF.out.2.1
      clear h6 l11 s11 l5 sv7 H7 HS6
      go_wp2_with fail
      refine Calls.mono HG.out ?_
      rintro e x8 ⟨a8, n8, c8, rfl, qn, hn8, hn8', H8⟩
      clear HG qn
      obtain ⟨W8, hW8⟩ : ∃ W8, x8.alloc (.cells #[.slice a8 n8 c8, .bool Ro.wh] 24) = W8 := ⟨_, rfl⟩
      have k8 : Kp x7 W8 := by rw [← hW8]; exact kp_trans H8.out.2 (kp_alloc _ _)
      have b8 : Lc 24 x8.heap.size [.slice a8 n8 c8, .bool Ro.wh] W8 := by rw [← hW8]; exact Lc.new x8 _ _
      have s8 : Sl Anyw (.slice a8 n8 c8) Ro.ls W8 := by
        have := ((Sl.of_row H8.out.1).mono (Q := Anyw) fun _ _ _ => trivial).kp (kp_alloc x8 (.cells #[.slice a8 n8 c8, .bool Ro.wh] 24))
        rw [hW8] at this; exact this
      have HSA : Hid (Calls Try.prog 22 #[.agg #[.slice a6 n6 c6, .bool Ro.wh], .agg #[.slice a8 n8 c8, .bool Ro.wh]] W8 fun e w' => e = .returned (.bool true) ∧ Kp W8 w') := same_any (HS7.out.2.1.kp k8) s8
      have v1 := (HS7.out.1.kp k8).at (j := 0) rfl
      have v2 := (HS7.out.1.kp k8).at (j := 1) rfl
      have v3 := b8.at (j := 0) rfl
      have v4 := b8.at (j := 1) rfl
      obtain ⟨b14, hb14⟩ : ∃ b14, x8.heap.size = b14 := ⟨_, rfl⟩
      rw [hb14] at v3 v4
      have HS8 : Hid (Rs t b F1 Anyw W8 ∧ Kp w W8 ∧ Lc 24 w.heap.size [.slice a N c, .bool r.wh] W8 ∧ Sl Q (.slice a N c) r.ls W8) := ⟨HS7.out.2.2.1.kp k8, kp_trans HS7.out.2.2.2.1 k8, HS7.out.2.2.2.2.1.kp k8, HS7.out.2.2.2.2.2.kp k8⟩
      have HW : Hid (_ = W8) := hW8
      have dE : (Eo != Eo) = false := by simp
      clear hW8 k8 b8 s8 H8 HS7
      go_upto_region 15 with fail
      rw [HW.out]
      clear HW hb14
      go_wp2_with fail
      refine Calls.mono HSA.out ?_
      rintro e x9 ⟨rfl, k9⟩
      have HS9 : Hid (Rs t b F1 Anyw x9 ∧ Kp w x9 ∧ Lc 24 w.heap.size [.slice a N c, .bool r.wh] x9 ∧ Sl Q (.slice a N c) r.ls x9) := ⟨HS8.out.1.kp k9, kp_trans HS8.out.2.1 k9, HS8.out.2.2.1.kp k9, HS8.out.2.2.2.kp k9⟩
      clear HSA v1 v2 v3 v4 HS8 k9 dE
      rcases HKF.out.2.2.1 with rfl | rfl
      rotate_left
      · have HE : Hid (Kp w x9) := HS9.out.2.1
        clear HS9 HKF
        go_wp2_with fail
        go_ret
        exact ⟨rfl, HE.out⟩
      obtain ⟨p1, p2, p3, p4, p5, p6⟩ := HKF.out.2.2.2 rfl
      have HP : Hid (getR F1 34 = ownR r ∧ getE F1 34 = 0 ∧ getR F1 ((cc : Int) - 32) = ownR r ∧ getE F1 ((cc : Int) - 32) = 0) := ⟨p3, p4, p5, p6⟩
      have HG : Hid _ := get_some HS9.out.1 (x := (cc : Int)) (by omega) (by omega) p1 p2
      clear p1 p2 p3 p4 p5 p6 HKF
      go_wp2_with fail
      refine Calls.mono HG.out ?_
      rintro e y1 ⟨a1, n1, d1, rfl, qn, hh1, hh1', H1⟩
      clear HG qn
      obtain ⟨V1, hV1⟩ : ∃ V1, y1.alloc (.cells #[.slice a1 n1 d1, .bool (ownR r).wh] 24) = V1 := ⟨_, rfl⟩
      have kv1 : Kp x9 V1 := by rw [← hV1]; exact kp_trans H1.out.2 (kp_alloc _ _)
      have bv1 : Lc 24 y1.heap.size [.slice a1 n1 d1, .bool (ownR r).wh] V1 := by rw [← hV1]; exact Lc.new y1 _ _
      have sv1 : Sl Anyw (.slice a1 n1 d1) (ownR r).ls V1 := by
        have := ((Sl.of_row H1.out.1).mono (Q := Anyw) fun _ _ _ => trivial).kp (kp_alloc y1 (.cells #[.slice a1 n1 d1, .bool (ownR r).wh] 24))
        rw [hV1] at this; exact this
      obtain ⟨b16, hb16⟩ : ∃ b16, y1.heap.size = b16 := ⟨_, rfl⟩
      rw [hb16] at bv1
      have HT1 : Hid (Lc 24 b16 [.slice a1 n1 d1, .bool (ownR r).wh] V1 ∧ Sl Anyw (.slice a1 n1 d1) (ownR r).ls V1 ∧ Kp x9 V1) := ⟨bv1, sv1, kv1⟩
      have HG : Hid _ := get_some (HS9.out.1.kp kv1) (x := 34) (by omega) (by omega) HP.out.1 HP.out.2.1
      have HW : Hid (_ = V1) := hV1
      clear hV1 kv1 bv1 sv1 H1
      go_upto_region 20 with fail
      rw [HW.out]
      clear HW hb16
      go_wp2_with fail
      refine Calls.mono HG.out ?_
      rintro e y2 ⟨a2, n2, d2, rfl, qn, hh2, hh2', H2⟩
      clear HG qn
      obtain ⟨V2, hV2⟩ : ∃ V2, y2.alloc (.cells #[.slice a2 n2 d2, .bool (ownR r).wh] 24) = V2 := ⟨_, rfl⟩
      have kv2 : Kp V1 V2 := by rw [← hV2]; exact kp_trans H2.out.2 (kp_alloc _ _)
      have bv2 : Lc 24 y2.heap.size [.slice a2 n2 d2, .bool (ownR r).wh] V2 := by rw [← hV2]; exact Lc.new y2 _ _
      have sv2 : Sl Anyw (.slice a2 n2 d2) (ownR r).ls V2 := by
        have := ((Sl.of_row H2.out.1).mono (Q := Anyw) fun _ _ _ => trivial).kp (kp_alloc y2 (.cells #[.slice a2 n2 d2, .bool (ownR r).wh] 24))
        rw [hV2] at this; exact this
      obtain ⟨b18, hb18⟩ : ∃ b18, y2.heap.size = b18 := ⟨_, rfl⟩
      rw [hb18] at bv2
      have HT2 : Hid (Lc 24 b18 [.slice a2 n2 d2, .bool (ownR r).wh] V2 ∧ Sl Anyw (.slice a2 n2 d2) (ownR r).ls V2 ∧ Kp V1 V2) := ⟨bv2, sv2, kv2⟩
      have HG : Hid _ := get_some ((HS9.out.1.kp HT1.out.2.2).kp kv2) (x := (cc : Int) - 32) (by omega) (by omega) HP.out.2.2.1 HP.out.2.2.2
      have HW : Hid (_ = V2) := hV2
      clear hV2 kv2 bv2 sv2 H2 HP
      go_upto_region 21 with fail
      rw [HW.out]
      clear HW hb18
      go_wp2_with fail
      refine Calls.mono HG.out ?_
      rintro e y3 ⟨a3, n3, d3, rfl, qn, hh3, hh3', H3⟩
      clear HG qn
      obtain ⟨V3, hV3⟩ : ∃ V3, y3.alloc (.cells #[.slice a3 n3 d3, .bool (ownR r).wh] 24) = V3 := ⟨_, rfl⟩
      have kv3 : Kp V2 V3 := by rw [← hV3]; exact kp_trans H3.out.2 (kp_alloc _ _)
      have bv3 : Lc 24 y3.heap.size [.slice a3 n3 d3, .bool (ownR r).wh] V3 := by rw [← hV3]; exact Lc.new y3 _ _
      have sv3 : Sl Anyw (.slice a3 n3 d3) (ownR r).ls V3 := by
        have := ((Sl.of_row H3.out.1).mono (Q := Anyw) fun _ _ _ => trivial).kp (kp_alloc y3 (.cells #[.slice a3 n3 d3, .bool (ownR r).wh] 24))
        rw [hV3] at this; exact this
      obtain ⟨b20, hb20⟩ : ∃ b20, y3.heap.size = b20 := ⟨_, rfl⟩
      rw [hb20] at bv3
      have k9 : Kp x9 V3 := kp_trans HT1.out.2.2 (kp_trans HT2.out.2.2 kv3)
      have HT : Hid (Lc 24 b16 [.slice a1 n1 d1, .bool (ownR r).wh] V3 ∧ Lc 24 b18 [.slice a2 n2 d2, .bool (ownR r).wh] V3 ∧ Lc 24 b20 [.slice a3 n3 d3, .bool (ownR r).wh] V3 ∧ Sl Anyw (.slice a1 n1 d1) (ownR r).ls V3 ∧ Sl Anyw (.slice a2 n2 d2) (ownR r).ls V3 ∧ Sl Anyw (.slice a3 n3 d3) (ownR r).ls V3 ∧ Kp w V3 ∧ Sl Q (.slice a N c) r.ls V3) :=
        ⟨HT1.out.1.kp (kp_trans HT2.out.2.2 kv3), HT2.out.1.kp kv3, bv3, HT1.out.2.1.kp (kp_trans HT2.out.2.2 kv3), HT2.out.2.1.kp kv3, sv3, kp_trans HS9.out.2.1 k9, HS9.out.2.2.2.kp k9⟩
      have u1 := (HS9.out.2.2.1.kp k9).at (j := 0) rfl
      have u2 := (HS9.out.2.2.1.kp k9).at (j := 1) rfl
      have HL5 : Hid (Lc 24 w.heap.size [.slice a N c, .bool r.wh] V3) := HS9.out.2.2.1.kp k9
      have HW : Hid (_ = V3) := hV3
      clear hV3 kv3 bv3 sv3 H3 HT1 HT2 HS9 k9
      go_upto_region 22 with fail
      rw [HW.out]
      clear HW hb20
      obtain ⟨hv3, hhv3⟩ : ∃ hv3, V3.heap.size = hv3 := ⟨_, rfl⟩
      by_cases hN0 : N = 0
      · subst hN0
        have hr0 : r.ls = [] := List.eq_nil_of_length_eq_zero HRN.out
        have ho : (ownR r).ls = [emp] ∧ (ownR r).wh = false := by unfold ownR; rw [if_pos hr0]; exact ⟨rfl, rfl⟩
        obtain ⟨Z, hZ⟩ : ∃ Z, (V3.alloc (.cells #[.slice (some ⟨hv3 + 1, 0, none⟩) 1 1, .bool false] 24)).alloc (.cells #[.string ⟨#[]⟩] 9) = Z := ⟨_, rfl⟩
        have kZ : Kp V3 Z := by rw [← hZ]; exact kp_more (kp_alloc _ _) _
        have bZ : Lc 24 hv3 [.slice (some ⟨hv3 + 1, 0, none⟩) 1 1, .bool false] Z := by rw [← hZ, ← hhv3]; exact (Lc.new V3 _ _).kp (kp_alloc _ _)
        have sZ : Sl Anyw (.slice (some ⟨hv3 + 1, 0, none⟩) 1 1) [emp] Z := by
          have := Sl.str (P := Anyw) emp (V3.alloc (.cells #[.slice (some ⟨hv3 + 1, 0, none⟩) 1 1, .bool false] 24)) (anyw _)
          rw [alloc_size, hhv3] at this
          rw [← hZ]; exact this
        have h9 := HT.out
        have HZ : Hid (Lc 24 hv3 [.slice (some ⟨hv3 + 1, 0, none⟩) 1 1, .bool (ownR r).wh] Z ∧ Lc 24 b18 [.slice a2 n2 d2, .bool (ownR r).wh] Z ∧ Lc 24 b20 [.slice a3 n3 d3, .bool (ownR r).wh] Z ∧ Lc 24 b16 [.slice a1 n1 d1, .bool (ownR r).wh] Z ∧ Sl Anyw (.slice a1 n1 d1) (ownR r).ls Z ∧ Sl Anyw (.slice a2 n2 d2) (ownR r).ls Z ∧ Sl Anyw (.slice a3 n3 d3) (ownR r).ls Z ∧ Sl Anyw (.slice (some ⟨hv3 + 1, 0, none⟩) 1 1) (ownR r).ls Z ∧ Kp w Z) :=
          ⟨by rw [ho.2]; exact bZ, h9.2.1.kp kZ, h9.2.2.1.kp kZ, h9.1.kp kZ, h9.2.2.2.1.kp kZ, h9.2.2.2.2.1.kp kZ, h9.2.2.2.2.2.1.kp kZ, by rw [ho.1]; exact sZ, kp_trans h9.2.2.2.2.2.2.1 kZ⟩
        have HW : Hid (_ = Z) := hZ
        have u3 := kp_cell (kp_alloc V3 (.cells #[.slice a 0 c, .bool r.wh] 24)) u1
        clear hr0 ho hZ kZ bZ sZ h9 HT HL5
        go_upto_region 25 with fail
        rw [HW.out]
        clear HW u1 u2 u3 hhv3
        have HS1 : Hid (∀ Y, Kp Z Y → Calls Try.prog 22 #[.agg #[.slice a1 n1 d1, .bool (ownR r).wh], .agg #[.slice (some ⟨hv3 + 1, 0, none⟩) 1 1, .bool (ownR r).wh]] Y fun e w' => e = .returned (.bool true) ∧ Kp Y w') := fun Y k => same_any (HZ.out.2.2.2.2.1.kp k) (HZ.out.2.2.2.2.2.2.2.1.kp k)
        have HS2 : Hid (∀ Y, Kp Z Y → Calls Try.prog 22 #[.agg #[.slice a2 n2 d2, .bool (ownR r).wh], .agg #[.slice (some ⟨hv3 + 1, 0, none⟩) 1 1, .bool (ownR r).wh]] Y fun e w' => e = .returned (.bool true) ∧ Kp Y w') := fun Y k => same_any (HZ.out.2.2.2.2.2.1.kp k) (HZ.out.2.2.2.2.2.2.2.1.kp k)
        have HS3 : Hid (∀ Y, Kp Z Y → Calls Try.prog 22 #[.agg #[.slice a3 n3 d3, .bool (ownR r).wh], .agg #[.slice (some ⟨hv3 + 1, 0, none⟩) 1 1, .bool (ownR r).wh]] Y fun e w' => e = .returned (.bool true) ∧ Kp Y w') := fun Y k => same_any (HZ.out.2.2.2.2.2.2.1.kp k) (HZ.out.2.2.2.2.2.2.2.1.kp k)
        have p1 := HZ.out.1.at (j := 0) rfl
        have p2 := HZ.out.1.at (j := 1) rfl
        have p3 := HZ.out.2.1.at (j := 0) rfl
        have p4 := HZ.out.2.1.at (j := 1) rfl
        have p5 := HZ.out.2.2.1.at (j := 0) rfl
        have p6 := HZ.out.2.2.1.at (j := 1) rfl
        have p7 := HZ.out.2.2.2.1.at (j := 0) rfl
        have p8 := HZ.out.2.2.2.1.at (j := 1) rfl
        have HKZ : Hid (Kp w Z) := HZ.out.2.2.2.2.2.2.2.2
        clear HZ
        generalize (ownR r).wh = ww at *
        go_wp2_with fail
        refine Calls.mono (HS1.out Z (Below.refl _ _)) ?_
        rintro e z1 ⟨rfl, kz1⟩
        replace p1 := kp_cell kz1 p1
        replace p2 := kp_cell kz1 p2
        replace p3 := kp_cell kz1 p3
        replace p4 := kp_cell kz1 p4
        replace p5 := kp_cell kz1 p5
        replace p6 := kp_cell kz1 p6
        have HK1 : Hid (Kp Z z1) := kz1
        clear kz1 HS1 p7 p8
        go_wp2_with fail
        refine Calls.mono (HS2.out z1 HK1.out) ?_
        rintro e z2 ⟨rfl, kz2⟩
        replace p1 := kp_cell kz2 p1
        replace p2 := kp_cell kz2 p2
        replace p5 := kp_cell kz2 p5
        replace p6 := kp_cell kz2 p6
        have HK2 : Hid (Kp Z z2) := kp_trans HK1.out kz2
        clear kz2 HS2 p3 p4 HK1
        go_wp2_with fail
        refine Calls.mono (HS3.out z2 HK2.out) ?_
        rintro e z3 ⟨rfl, kz3⟩
        have HE : Hid (Kp w z3) := kp_trans HKZ.out (kp_trans HK2.out kz3)
        clear kz3 HS3 p1 p2 p5 p6 HK2 HKZ
        go_wp2_with fail
        go_ret
        exact ⟨rfl, HE.out⟩
      · have gg1 : ((N : Int) == 0) = false := by simp; omega
        have gg2 : (N == 0) = false := by simp; omega
        have ho : ownR r = r := ownR_idem (by intro e; have := HRN.out; rw [e] at this; simp at this; omega)
        obtain ⟨Z, hZ⟩ : ∃ Z, V3.alloc (.cells #[.slice a N c, .bool r.wh] 24) = Z := ⟨_, rfl⟩
        have kZ : Kp V3 Z := by rw [← hZ]; exact kp_alloc _ _
        have bZ : Lc 24 hv3 [.slice a N c, .bool r.wh] Z := by rw [← hZ, ← hhv3]; exact Lc.new V3 _ _
        have h9 := HT.out
        have HZ : Hid (Lc 24 hv3 [.slice a N c, .bool (ownR r).wh] Z ∧ Lc 24 b18 [.slice a2 n2 d2, .bool (ownR r).wh] Z ∧ Lc 24 b20 [.slice a3 n3 d3, .bool (ownR r).wh] Z ∧ Lc 24 b16 [.slice a1 n1 d1, .bool (ownR r).wh] Z ∧ Sl Anyw (.slice a1 n1 d1) (ownR r).ls Z ∧ Sl Anyw (.slice a2 n2 d2) (ownR r).ls Z ∧ Sl Anyw (.slice a3 n3 d3) (ownR r).ls Z ∧ Sl Q (.slice a N c) (ownR r).ls Z ∧ Kp w Z) :=
          ⟨by rw [ho]; exact bZ, h9.2.1.kp kZ, h9.2.2.1.kp kZ, h9.1.kp kZ, h9.2.2.2.1.kp kZ, h9.2.2.2.2.1.kp kZ, h9.2.2.2.2.2.1.kp kZ, by rw [ho]; exact h9.2.2.2.2.2.2.2.kp kZ, kp_trans h9.2.2.2.2.2.2.1 kZ⟩
        have HW : Hid (_ = Z) := hZ
        have u3 := kp_cell (kp_alloc V3 (.cells #[.slice a N c, .bool r.wh] 24)) u1
        clear ho hZ kZ bZ h9 HT HL5
        go_upto_region 25 with fail
        rw [HW.out]
        clear HW u1 u2 u3 hhv3
        have HS1 : Hid (∀ Y, Kp Z Y → Calls Try.prog 22 #[.agg #[.slice a1 n1 d1, .bool (ownR r).wh], .agg #[.slice a N c, .bool (ownR r).wh]] Y fun e w' => e = .returned (.bool true) ∧ Kp Y w') := fun Y k => same_any (HZ.out.2.2.2.2.1.kp k) (HZ.out.2.2.2.2.2.2.2.1.kp k)
        have HS2 : Hid (∀ Y, Kp Z Y → Calls Try.prog 22 #[.agg #[.slice a2 n2 d2, .bool (ownR r).wh], .agg #[.slice a N c, .bool (ownR r).wh]] Y fun e w' => e = .returned (.bool true) ∧ Kp Y w') := fun Y k => same_any (HZ.out.2.2.2.2.2.1.kp k) (HZ.out.2.2.2.2.2.2.2.1.kp k)
        have HS3 : Hid (∀ Y, Kp Z Y → Calls Try.prog 22 #[.agg #[.slice a3 n3 d3, .bool (ownR r).wh], .agg #[.slice a N c, .bool (ownR r).wh]] Y fun e w' => e = .returned (.bool true) ∧ Kp Y w') := fun Y k => same_any (HZ.out.2.2.2.2.2.2.1.kp k) (HZ.out.2.2.2.2.2.2.2.1.kp k)
        have p1 := HZ.out.1.at (j := 0) rfl
        have p2 := HZ.out.1.at (j := 1) rfl
        have p3 := HZ.out.2.1.at (j := 0) rfl
        have p4 := HZ.out.2.1.at (j := 1) rfl
        have p5 := HZ.out.2.2.1.at (j := 0) rfl
        have p6 := HZ.out.2.2.1.at (j := 1) rfl
        have p7 := HZ.out.2.2.2.1.at (j := 0) rfl
        have p8 := HZ.out.2.2.2.1.at (j := 1) rfl
        have HKZ : Hid (Kp w Z) := HZ.out.2.2.2.2.2.2.2.2
        clear HZ
        generalize (ownR r).wh = ww at *
        go_wp2_with fail
        refine Calls.mono (HS1.out Z (Below.refl _ _)) ?_
        rintro e z1 ⟨rfl, kz1⟩
        replace p1 := kp_cell kz1 p1
        replace p2 := kp_cell kz1 p2
        replace p3 := kp_cell kz1 p3
        replace p4 := kp_cell kz1 p4
        replace p5 := kp_cell kz1 p5
        replace p6 := kp_cell kz1 p6
        have HK1 : Hid (Kp Z z1) := kz1
        clear kz1 HS1 p7 p8
        go_wp2_with fail
        refine Calls.mono (HS2.out z1 HK1.out) ?_
        rintro e z2 ⟨rfl, kz2⟩
        replace p1 := kp_cell kz2 p1
        replace p2 := kp_cell kz2 p2
        replace p5 := kp_cell kz2 p5
        replace p6 := kp_cell kz2 p6
        have HK2 : Hid (Kp Z z2) := kp_trans HK1.out kz2
        clear kz2 HS2 p3 p4 HK1
        go_wp2_with fail
        refine Calls.mono (HS3.out z2 HK2.out) ?_
        rintro e z3 ⟨rfl, kz3⟩
        have HE : Hid (Kp w z3) := kp_trans HKZ.out (kp_trans HK2.out kz3)
        clear kz3 HS3 p1 p2 p5 p6 HK2 HKZ
        go_wp2_with fail
        go_ret
        exact ⟨rfl, HE.out⟩
end Go.Proofs.Ytbnlenanfhggiaa
/- The document's registers: lent, size, Known; the law's lent. -/
namespace Go.Proofs.Ytbnlenanfhggiaa
open Go.ChangeShapes Go.WideShapes Go.ChangeAt Go.RowKit Go.Maps Go.MapKept
set_option linter.unusedVariables false
set_option linter.unusedSimpArgs false
set_option maxRecDepth 100000
theorem kp_grown0 {w w' : World} {v : Value} (h : w.grownBy w' v.ownBlock) (hv : v.ownBlock = none) : Kp w w' :=
  ⟨h.os, h.tape, h.output, h.size, fun k hk => h.block k hk (by rw [hv]; simp)⟩
set_option maxHeartbeats 4000000 in
theorem llent_any {Q : Nat → Prop} {v : Value} {r : Rv} {w : World} (h : Sl Q v r.ls w) (hl : r.ls.length ≤ 8796093022208) :
    Calls Try.prog 18 #[.agg #[v, .bool r.wh]] w fun e w' => ∃ v', e = .returned (.agg #[v', .bool r.wh]) ∧ Row w.heap.size v' r.ls w' ∧ Kp w w' := by
  obtain ⟨a, c, rfl, g1, g2, _⟩ := h.form
  obtain ⟨n, hn⟩ : ∃ n, r.ls.length = n := ⟨_, rfl⟩
  rw [hn] at h hl ⊢
  obtain ⟨W2, hW2⟩ : ∃ W2, (w.alloc (.cells #[.slice a n c, .bool r.wh] 24)).alloc (.cells #[.slice none 0 0, .bool false] 24) = W2 := ⟨_, rfl⟩
  have k2 : Kp w W2 := by rw [← hW2]; exact kp_more (kp_alloc _ _) _
  have b1 : Lc 24 w.heap.size [.slice a n c, .bool r.wh] W2 := by rw [← hW2]; exact (Lc.new w _ _).kp (kp_alloc _ _)
  have b2 : Lc 24 (w.heap.size + 1) [.slice none 0 0, .bool false] W2 := by
    have := Lc.new (w.alloc (.cells #[.slice a n c, .bool r.wh] 24)) [.slice none 0 0, .bool false] 24
    rw [alloc_size, hW2] at this; exact this
  have HR0 : Hid (Row w.heap.size (.slice none 0 0) [] W2) := World.ownsRow_nil _ _ _ _
  have HS : Hid (Sl Q (.slice a n c) r.ls W2 ∧ ([] : List ByteArray).length + r.ls.length = n ∧ w.heap.size ≤ W2.heap.size) := ⟨h.kp k2, by simpa using hn, k2.size⟩
  have HF : Hid (∀ a' c' w3, Row w.heap.size (.slice a' n c') ([] ++ r.ls) w3 → W2.grownBy w3 (Value.slice none 0 0).ownBlock → (w3.cell? ⟨w.heap.size, 1, none⟩ = some (.bool r.wh)) ∧ (w3.cell? ⟨w.heap.size + 1, 0, none⟩ = some (.slice none 0 0) ∧ w3.cell? ⟨w.heap.size + 1, 1, none⟩ = some (.bool false)) ∧ (w3.frozen? ⟨w.heap.size + 1, 0, none⟩ = false ∧ w3.frozen? ⟨w.heap.size + 1, 1, none⟩ = false) ∧ Hid (Lc 24 (w.heap.size + 1) [.slice a' n c', .bool r.wh] ((w3.setCell ⟨w.heap.size + 1, 0, none⟩ (.slice a' n c')).setCell ⟨w.heap.size + 1, 1, none⟩ (.bool r.wh)) ∧ Row w.heap.size (.slice a' n c') r.ls ((w3.setCell ⟨w.heap.size + 1, 0, none⟩ (.slice a' n c')).setCell ⟨w.heap.size + 1, 1, none⟩ (.bool r.wh)) ∧ Kp w ((w3.setCell ⟨w.heap.size + 1, 0, none⟩ (.slice a' n c')).setCell ⟨w.heap.size + 1, 1, none⟩ (.bool r.wh)))) := fun a' c' w3 q1 q2 => by
    have k3 := kp_grown0 q2 rfl
    have l1 := b1.kp k3
    have l2 := b2.kp k3
    exact ⟨l1.at (j := 1) rfl, ⟨l2.at (j := 0) rfl, l2.at (j := 1) rfl⟩, ⟨l2.fz _, l2.fz _⟩, box_put l2 q1 (kp_trans k2 k3) (by omega) _ _⟩
  have u1 := b1.at (j := 0) rfl
  have HW : Hid (_ = W2) := hW2
  clear h hn hW2 k2 b1 b2
  go_enter Try.func18, Try.ntmps18
  go_upto_region 1 with fail
  rw [HW.out]
  clear HW
  go_wp2_with (at_builtin; refine wpl_str (K := n) rfl (.tmp 4) (.tmp 6) rfl rfl HR0.out rfl HS.out.1 HS.out.2.1 hl HS.out.2.2 ?_; intro a' c' w3 _ _ q1 q2; obtain ⟨y1, ⟨y2, y3⟩, ⟨y4, y5⟩, HX⟩ := HF.out a' c' w3 q1 q2; clear q1 q2)
  refine bodyPost_ret (results_box1 rfl rfl HX.out.1 Try.underlying24 rfl (by kernel_rfl)) rfl ?_
  exact ⟨_, rfl, HX.out.2⟩
set_option maxHeartbeats 4000000 in
theorem rlent_any {Q : Nat → Prop} {v : Value} {r : Rv} {w : World} (h : Sl Q v r.ls w) (hl : r.ls.length ≤ 8796093022208) :
    Calls Try.prog 34 #[.agg #[v, .bool r.wh]] w fun e w' => ∃ v', e = .returned (.agg #[v', .bool (ownR r).wh]) ∧ Row w.heap.size v' (ownR r).ls w' ∧ Kp w w' := by
  obtain ⟨a, c, rfl, g1, g2, _⟩ := h.form
  obtain ⟨n, hn⟩ : ∃ n, r.ls.length = n := ⟨_, rfl⟩
  rw [hn] at h hl ⊢
  obtain ⟨W2, hW2⟩ : ∃ W2, (w.alloc (.cells #[.slice a n c, .bool r.wh] 24)).alloc (.cells #[.slice none 0 0, .bool false] 24) = W2 := ⟨_, rfl⟩
  have k2 : Kp w W2 := by rw [← hW2]; exact kp_more (kp_alloc _ _) _
  have b1 : Lc 24 w.heap.size [.slice a n c, .bool r.wh] W2 := by rw [← hW2]; exact (Lc.new w _ _).kp (kp_alloc _ _)
  have b2 : Lc 24 (w.heap.size + 1) [.slice none 0 0, .bool false] W2 := by
    have := Lc.new (w.alloc (.cells #[.slice a n c, .bool r.wh] 24)) [.slice none 0 0, .bool false] 24
    rw [alloc_size, hW2] at this; exact this
  have HR0 : Hid (Row w.heap.size (.slice none 0 0) [] W2) := World.ownsRow_nil _ _ _ _
  have HS : Hid (Sl Q (.slice a n c) r.ls W2 ∧ ([] : List ByteArray).length + r.ls.length = n ∧ w.heap.size ≤ W2.heap.size) := ⟨h.kp k2, by simpa using hn, k2.size⟩
  have u1 := b1.at (j := 0) rfl
  have HW : Hid (_ = W2) := hW2
  by_cases hn0 : n = 0
  · have hr0 : r.ls = [] := List.eq_nil_of_length_eq_zero (by omega)
    have ho : ownR r = ⟨[emp], false⟩ := by unfold ownR; rw [if_pos hr0]
    rw [ho]
    have HF : Hid (∀ a' c' w3, Row w.heap.size (.slice a' n c') ([] ++ r.ls) w3 → W2.grownBy w3 (Value.slice none 0 0).ownBlock → ∃ w4 H, w3.alloc (.cells #[.string ⟨#[]⟩] 9) = w4 ∧ w3.heap.size = H ∧ (w4.cell? ⟨w.heap.size + 1, 0, none⟩ = some (.slice none 0 0) ∧ w4.cell? ⟨w.heap.size + 1, 1, none⟩ = some (.bool false)) ∧ (w4.frozen? ⟨w.heap.size + 1, 0, none⟩ = false ∧ w4.frozen? ⟨w.heap.size + 1, 1, none⟩ = false) ∧ Hid (Lc 24 (w.heap.size + 1) [.slice (some ⟨H, 0, none⟩) 1 1, .bool false] ((w4.setCell ⟨w.heap.size + 1, 0, none⟩ (.slice (some ⟨H, 0, none⟩) 1 1)).setCell ⟨w.heap.size + 1, 1, none⟩ (.bool false)) ∧ Row w.heap.size (.slice (some ⟨H, 0, none⟩) 1 1) [emp] ((w4.setCell ⟨w.heap.size + 1, 0, none⟩ (.slice (some ⟨H, 0, none⟩) 1 1)).setCell ⟨w.heap.size + 1, 1, none⟩ (.bool false)) ∧ Kp w ((w4.setCell ⟨w.heap.size + 1, 0, none⟩ (.slice (some ⟨H, 0, none⟩) 1 1)).setCell ⟨w.heap.size + 1, 1, none⟩ (.bool false)))) := fun a' c' w3 q1 q2 => by
      have k3 := kp_grown0 q2 rfl
      have k4 := kp_alloc w3 (.cells #[.string ⟨#[]⟩] 9)
      have l2 := (b2.kp k3).kp k4
      have hsz := (kp_trans k2 k3).size
      have hrow : Row w.heap.size (.slice (some ⟨w3.heap.size, 0, none⟩) 1 1) [emp] (w3.alloc (.cells #[.string ⟨#[]⟩] 9)) := ⟨rfl, .inr ⟨w3.heap.size, 1, #[.string emp], rfl, hsz, alloc_new w3 _, Nat.le_refl _, by simp [maxLen], rfl, rfl⟩⟩
      exact ⟨_, _, rfl, rfl, ⟨l2.at (j := 0) rfl, l2.at (j := 1) rfl⟩, ⟨l2.fz _, l2.fz _⟩, box_put l2 hrow (kp_trans (kp_trans k2 k3) k4) (by omega) _ _⟩
    subst hn0
    clear h hn hW2 k2 b1 b2 hr0 ho
    go_enter Try.func34, Try.ntmps34
    go_upto_region 1 with fail
    rw [HW.out]
    clear HW
    go_upto_region 4 with (at_builtin; refine wpl_str (K := 0) rfl (.tmp 4) (.tmp 6) rfl rfl HR0.out rfl HS.out.1 HS.out.2.1 hl HS.out.2.2 ?_; intro a' c' w3 _ _ q1 q2; have HP : Hid _ := HF.out a' c' w3 q1 q2; clear q1 q2)
    obtain ⟨w4, H, e4, eH, ⟨y2, y3⟩, ⟨y4, y5⟩, HX⟩ := HP.out
    clear HP HF
    go_wp2_with fail
    refine bodyPost_ret (results_box1 rfl rfl HX.out.1 Try.underlying24 rfl (by kernel_rfl)) rfl ?_
    exact ⟨_, rfl, HX.out.2⟩
  · have ho : ownR r = r := ownR_idem (by intro e; rw [e] at hn; simp at hn; omega)
    rw [ho]
    have HF : Hid (∀ a' c' w3, Row w.heap.size (.slice a' n c') ([] ++ r.ls) w3 → W2.grownBy w3 (Value.slice none 0 0).ownBlock → (w3.cell? ⟨w.heap.size, 1, none⟩ = some (.bool r.wh)) ∧ (w3.cell? ⟨w.heap.size + 1, 0, none⟩ = some (.slice none 0 0) ∧ w3.cell? ⟨w.heap.size + 1, 1, none⟩ = some (.bool false)) ∧ (w3.frozen? ⟨w.heap.size + 1, 0, none⟩ = false ∧ w3.frozen? ⟨w.heap.size + 1, 1, none⟩ = false) ∧ Hid (Lc 24 (w.heap.size + 1) [.slice a' n c', .bool r.wh] ((w3.setCell ⟨w.heap.size + 1, 0, none⟩ (.slice a' n c')).setCell ⟨w.heap.size + 1, 1, none⟩ (.bool r.wh)) ∧ Row w.heap.size (.slice a' n c') r.ls ((w3.setCell ⟨w.heap.size + 1, 0, none⟩ (.slice a' n c')).setCell ⟨w.heap.size + 1, 1, none⟩ (.bool r.wh)) ∧ Kp w ((w3.setCell ⟨w.heap.size + 1, 0, none⟩ (.slice a' n c')).setCell ⟨w.heap.size + 1, 1, none⟩ (.bool r.wh)))) := fun a' c' w3 q1 q2 => by
      have k3 := kp_grown0 q2 rfl
      have l1 := b1.kp k3
      have l2 := b2.kp k3
      exact ⟨l1.at (j := 1) rfl, ⟨l2.at (j := 0) rfl, l2.at (j := 1) rfl⟩, ⟨l2.fz _, l2.fz _⟩, box_put l2 q1 (kp_trans k2 k3) (by omega) _ _⟩
    have d1 : ((n : Int) == 0) = false := by simp; omega
    have d2 : (n == 0) = false := by simp; omega
    clear h hn hW2 k2 b1 b2 ho
    go_enter Try.func34, Try.ntmps34
    go_upto_region 1 with fail
    rw [HW.out]
    clear HW
    go_wp2_with (at_builtin; refine wpl_str (K := n) rfl (.tmp 4) (.tmp 6) rfl rfl HR0.out rfl HS.out.1 HS.out.2.1 hl HS.out.2.2 ?_; intro a' c' w3 _ _ q1 q2; obtain ⟨y1, ⟨y2, y3⟩, ⟨y4, y5⟩, HX⟩ := HF.out a' c' w3 q1 q2; clear q1 q2)
    refine bodyPost_ret (results_box1 rfl rfl HX.out.1 Try.underlying24 rfl (by kernel_rfl)) rfl ?_
    exact ⟨_, rfl, HX.out.2⟩
set_option maxHeartbeats 4000000 in
theorem rsize_any {P : Nat → Prop} {v : Value} {r : Rv} {w : World} (h : Sl P v r.ls w) (hl : szL r.ls ≤ 4194304) :
    Calls Try.prog 51 #[.agg #[v, .bool r.wh]] w fun e w' => e = .returned (.int .i64 (szL r.ls : Int)) ∧ Kp w w' := by
  obtain ⟨a, cap, rfl, h1, h2, h3⟩ := h.form
  obtain ⟨N, hN⟩ : ∃ N, r.ls.length = N := ⟨_, rfl⟩
  obtain ⟨W, hW⟩ : ∃ W, w.alloc (.cells #[.slice a N cap, .bool r.wh] 24) = W := ⟨_, rfl⟩
  have k : Kp w W := by rw [← hW]; exact kp_alloc _ _
  have b1 : Lc 24 w.heap.size [.slice a N cap, .bool r.wh] W := by rw [← hW]; exact Lc.new w _ _
  have HS : Hid (Sl P (.slice a N cap) r.ls W ∧ r.ls.length = N ∧ szL r.ls ≤ 4194304) := ⟨by rw [← hN]; exact h.kp k, hN, hl⟩
  have HK : Hid (Kp w W) := k
  have hN2 : N ≤ 4194304 := by have := szL_len r.ls; omega
  have u1 := b1.at (j := 0) rfl
  have HW : Hid (_ = W) := hW
  rw [hN] at h1 ⊢
  unfold maxLen at h2
  clear h h3 hN hW k b1 hl
  go_enter Try.func51, Try.ntmps51
  go_upto_region 1 with fail
  rw [HW.out]
  clear HW
  go_wp2_with fail
  go_loopw [3, 4] (fun v3 v4 wr => ∃ (i n : Nat), i ≤ N ∧ v4 = .int .i64 i ∧ v3 = .int .i64 n ∧ n ≤ 4194304 ∧ W = wr ∧ Hid (szL (r.ls.take i) = n)) (fun _ v4 _ => N - (intOf v4).toNat)
  case atStart => exact ⟨0, 0, Nat.zero_le _, rfl, rfl, Nat.zero_le _, rfl, rfl⟩
  case round =>
    obtain ⟨i, n, hi, rfl, rfl, hn, rfl, HM⟩ := hrel
    by_cases q : i < N
    · have d1 : decide ((i : Int) < (N : Int)) = true := decide_eq_true (by omega)
      have d2 : decide (i < N) = true := decide_eq_true (by omega)
      obtain ⟨s, hs⟩ : ∃ s, r.ls[i]? = some s := ⟨_, List.getElem?_eq_getElem (by rw [HS.out.2.1]; exact q)⟩
      obtain ⟨g, o, rfl, _, hc⟩ := HS.out.1.at_ hs
      have hz := szL_take r.ls hs
      have hle := szL_le r.ls (i + 1)
      obtain ⟨L, hL⟩ : ∃ L, s.size = L := ⟨_, rfl⟩
      have hb : n + (L + 1) ≤ 4194304 := by have := HM.out; have := HS.out.2.2; omega
      have HN2 : Hid (szL (r.ls.take (i + 1)) = n + (L + 1)) := by have := HM.out; show _ = _; omega
      clear hs hz hle HM
      go_wp2_with fail
      go_roundw
      case rel => exact ⟨i + 1, n + (L + 1), by omega, by go_num, by go_num, by omega, trivial, HN2.out⟩
      case measure => simp only [intOf]; omega
    · obtain rfl : i = N := by omega
      have d1 : decide ((i : Int) < (i : Int)) = false := by simp
      have HE : Hid ((n : Int) = (szL r.ls : Int)) := by
        have := HM.out
        rw [List.take_of_length_le (by rw [HS.out.2.1]; exact Nat.le_refl _)] at this
        show _ = _; omega
      clear HM
      go_wp2_with fail
      go_ret
      exact ⟨by rw [← HE.out]; rfl, HK.out⟩
set_option maxHeartbeats 2000000 in
theorem rrknown_any (x : Int) (w : World) : Calls Try.prog 19 #[.int .u8 x] w fun e w' => e = .returned (.bool (kwB x)) ∧ Kp w w' := by
  have h1 := fun w => rIs_any 100 x w
  have h2 := fun w => rIs_any 97 x w
  unfold kwB
  rw [is_d] at h1
  rw [is_a] at h2
  have H1 : Hid _ := h1
  have H2 : Hid _ := h2
  clear h1 h2
  cases q1 : (x == 34)
  · cases q2 : (x == 95)
    · go_enter Try.func19, Try.ntmps19
      go_wp2_with fail
      refine Calls.mono (H1.out _) ?_
      rintro e w1 ⟨rfl, rfl⟩
      cases q3 : digB x
      · go_wp2_with fail
        refine Calls.mono (H2.out _) ?_
        rintro e w2 ⟨rfl, rfl⟩
        go_wp2_with fail
        go_ret
        exact ⟨by simp [q3], Below.refl _ _⟩
      · go_wp2_with fail
        go_ret
        exact ⟨by simp [q3], Below.refl _ _⟩
    · go_enter Try.func19, Try.ntmps19
      go_wp2_with fail
      go_ret
      exact ⟨by simp, Below.refl _ _⟩
  · go_enter Try.func19, Try.ntmps19
    go_wp2_with fail
    go_ret
    exact ⟨by simp, Below.refl _ _⟩
end Go.Proofs.Ytbnlenanfhggiaa
