/- Texts that the proof of the law stands on: VW, TB, TC, TD, HB, HC, HD, HE, HF, HG, HH, HI, HJ, HK, HL, HM. -/
import Derived.Test.YtbkhhgaihhbhjaaPartC
import Derived.Test.YtbkhhgaihhbhjaaPartD
import Derived.Lib.MinMax
import Derived.Test.YtbkhhgaihhbhjaaPartB
import Derived.Test.YtbkhhgaihhbhjaaPartA
/- The chapter's example. -/
namespace Go.Proofs.Ytbkhhgaihhbhjaa
open Go.ChangeShapes Go.WideShapes Go.ChangeAt Go.RowKit Go.Maps Go.MapKept
set_option linter.unusedVariables false
set_option linter.unusedSimpArgs false
set_option maxRecDepth 100000
theorem eqlT (ad : Addr) (w : World) : Sem.run Try.prog (binOp BinOp.eql 22 (.pointer (some ad)) (.pointer none)) w = .ok (.bool false) w := by kernel_rfl
theorem eqlT0 (w : World) : Sem.run Try.prog (binOp BinOp.eql 22 (.pointer none) (.pointer none)) w = .ok (.bool true) w := by kernel_rfl
theorem eqlS1 (w : World) : Sem.run Try.prog (binOp BinOp.eql 64 (.agg #[.int .i64 0, .int .i64 (-1)]) (.agg #[.int .i64 0, .int .i64 (-1)])) w = .ok (.bool true) w := by kernel_rfl
theorem eqlS2 (w : World) : Sem.run Try.prog (binOp BinOp.eql 64 (.agg #[.int .i64 2, .int .i64 0]) (.agg #[.int .i64 2, .int .i64 0])) w = .ok (.bool true) w := by kernel_rfl
theorem row_one {w : World} {b : Nat} {s : ByteArray} (h : Lc 9 b [.string s] w) : Row 0 (.slice (some ⟨b, 0, none⟩) 1 1) [s] w :=
  ⟨rfl, .inr ⟨b, 1, _, rfl, Nat.zero_le _, h, Nat.le_refl _, by simp [maxLen], rfl, rfl⟩⟩
theorem row_nil0 (B : Nat) (w : World) : Row B (.slice none 0 0) [] w := ⟨rfl, .inl ⟨rfl, rfl⟩⟩
theorem few_one (d : Dl) (h1 : d.old.length ≤ 2000) (h2 : d.nw.length ≤ 2000) : Few 2000 [d] := ⟨by simp, fun x hx => by simp only [List.mem_singleton] at hx; subst hx; exact ⟨by omega, by omega⟩⟩
/-- Add of one line that is put in. -/
theorem add_line {B C t : Nat} {m : Tr} {w : World} (h : Tw B C t m w) (I : Inv m) (hn : m.next ≤ 10000) (hm : (m.L.length : Int) + 1 ≤ m.most) (hB : B ≤ w.heap.size) (s : ByteArray) :
    Calls Try.prog 12 #[.pointer (some ⟨t, 0, none⟩), .slice (some ⟨w.heap.size + 1, 0, none⟩) 1 1] ((w.alloc (.cells #[.string s] 9)).alloc (.cells #[.int .i64 0, .slice none 0 0, .slice (some ⟨w.heap.size, 0, none⟩) 1 1] 35)) fun e w' => e = .returned (.int .i64 m.next) ∧ Tw B w'.heap.size t (addT m [⟨0, [], [s]⟩]) w' ∧ Ff TP B w w' := by
  have k : Kp w ((w.alloc (.cells #[.string s] 9)).alloc (.cells #[.int .i64 0, .slice none 0 0, .slice (some ⟨w.heap.size, 0, none⟩) 1 1] 35)) := kp_more (kp_alloc _ _) _
  have b1 := (Lc.new w [.string s] 9).kp (kp_alloc _ (.cells #[.int .i64 0, .slice none 0 0, .slice (some ⟨w.heap.size, 0, none⟩) 1 1] 35))
  have b2 := Lc.new (w.alloc (.cells #[.string s] 9)) [.int .i64 0, .slice none 0 0, .slice (some ⟨w.heap.size, 0, none⟩) 1 1] 35
  rw [alloc_size] at b2
  have hd : Dr (fun _ => True) (Row 0) (.slice (some ⟨w.heap.size + 1, 0, none⟩) 1 1) [⟨0, [], [s]⟩] _ := Dr.one (d := ⟨0, [], [s]⟩) (row_nil0 0 _) (row_one b1) b2
  refine (add_few (h.kp k) I.fam hn I.nodup I.nw hm (Nat.le_trans hB k.size) (okRow 0 0) hd (few_one _ (by simp) (by simp)) (by omega)).mono ?_
  rintro e w' ⟨rfl, q1, q2⟩
  exact ⟨rfl, q1, (Ff.kp k).trans q2⟩
def kA : ByteArray := ⟨#[97]⟩
def kB : ByteArray := ⟨#[98]⟩
def km1 : Tr := addT (first 9) [⟨0, [], [kA]⟩]
def km2 : Tr := addT { km1 with now := 0 } [⟨0, [], [kB]⟩]
theorem km1_inv : Inv km1 := (inv_first 9).add (few_one _ (by simp) (by simp))
theorem km1_now : look km1.L km1.now = some ⟨1, 0, -1, [⟨0, [], [kA]⟩]⟩ := rfl
theorem km1_up : Inv { km1 with now := 0 } := km1_inv.up km1_now (by decide)
theorem km2_inv : Inv km2 := km1_up.add (few_one _ (by simp) (by simp))
theorem km2_L : km2.L = [⟨0, -1, 2, []⟩, ⟨1, 0, -1, [⟨0, [], [kA]⟩]⟩, ⟨2, 0, -1, [⟨0, [], [kB]⟩]⟩] := rfl
theorem km2_meet : Meet km2.L km2.now 1 0 [2] [1] := by
  have h2 : look km2.L 2 = some ⟨2, 0, -1, [⟨0, [], [kB]⟩]⟩ := rfl
  have h1 : look km2.L 1 = some ⟨1, 0, -1, [⟨0, [], [kA]⟩]⟩ := rfl
  refine ⟨.cons h2 (by decide) (.nil _), .cons h1 (by decide) (.nil _), fun x hx l hl => ?_⟩
  simp only [List.mem_singleton] at hx
  subst hx
  have := (km2_inv.fam.up_le hl).1
  omega
set_option maxHeartbeats 16000000 in
theorem known_any (w : World) : Calls Try.prog 16 #[] w fun e w' => e = .returned (.bool true) ∧ Kp w w' := by
  have HN : Hid _ := new_any (most := 9) (by decide) (by decide) w
  have he := eqlT
  have he0 := eqlT0
  have hs1 := eqlS1
  have hs2 := eqlS2
  go_enter Try.func16, Try.ntmps16
  go_wp2_with fail
  refine Calls.mono HN.out ?_
  rintro e w1 ⟨t, rfl, t1, k1⟩
  have HA : Hid _ := add_line t1 (inv_first 9) (by decide) (by decide) k1.size kA
  have H1 : Hid (Kp w w1) := k1
  clear HN t1 k1
  go_wp2_with fail
  refine Calls.mono HA.out ?_
  rintro e w2 ⟨rfl, t2, f2⟩
  have H2 : Hid (Kp w w2) := H1.out.trans (f2.below H1.out.size)
  have HU : Hid _ := undo_any t2 (by constructor <;> decide) km1_now (by decide) (few_one ⟨0, [], [kA]⟩ (by simp) (by simp)) (by omega)
  clear HA H1 t2 f2
  go_wp2_with fail
  refine Calls.mono HU.out ?_
  rintro e w3 ⟨v3, rfl, d3, t3, f3⟩
  have H3 : Hid (Kp w w3) := H2.out.trans (f3.below H2.out.size)
  have HA : Hid _ := add_line (m := { km1 with now := 0 }) t3 km1_up (by decide) (by decide) H3.out.size kB
  clear HU H2 d3 t3 f3
  go_wp2_with fail
  refine Calls.mono HA.out ?_
  rintro e w4 ⟨rfl, t4, f4⟩
  have H4 : Hid (Kp w w4 ∧ Tw w.heap.size w4.heap.size t km2 w4) := ⟨H3.out.trans (f4.below H3.out.size), t4⟩
  have HS : Hid _ := states_any (m := km2) t4 km2_inv.fam (by decide) (by decide) km2_inv.sq
  clear HA H3 t4 f4
  go_wp2_with fail
  refine Calls.mono HS.out ?_
  rintro e w5 ⟨v5, rfl, s5, k5⟩
  obtain ⟨g5, c5, rfl⟩ : ∃ g c, v5 = .slice (some ⟨g, 0, none⟩) 3 c := by
    rcases s5.2 with ⟨_, e0⟩ | ⟨g, c, cur, e, _⟩
    · cases e0
    · exact ⟨g, c, e⟩
  have HG : Hid _ := go_any (m := km2) (seq := 1) (H4.out.2.kp k5) k5.size km2_inv.fam (by decide) km2_inv.nw (by decide)
  have H5 : Hid (Kp w w5 ∧ Sr w4.heap.size (.slice (some ⟨g5, 0, none⟩) 3 c5) km2.L w5) := ⟨kp_trans H4.out.1 k5, s5⟩
  clear HS H4 s5 k5
  go_wp2_with fail
  refine Calls.mono HG.out ?_
  rintro e w6 ⟨v6, rfl, top, l1, l2, hm, d6, t6, f6⟩
  obtain ⟨rfl, rfl, rfl⟩ := km2_inv.fam.meet_one hm km2_meet
  have hds : upsD km2.L [2] ++ dnD km2.L [1] = [⟨0, [kB], []⟩, ⟨0, [], [kA]⟩] := rfl
  rw [hds] at d6
  have s6 : Sr w4.heap.size (.slice (some ⟨g5, 0, none⟩) 3 c5) km2.L w6 := row_ff H5.out.2 f6 fun _ _ q => by rcases q with q | q <;> exact absurd q (by decide)
  have y0 : w6.cell? ⟨g5, 0, none⟩ = some (.int .i64 0) := (s6.cellAt 0 (by decide)).trans rfl
  have y1 : w6.cell? ⟨g5, 1, none⟩ = some (.int .i64 (-1)) := (s6.cellAt 1 (by decide)).trans rfl
  have y4 : w6.cell? ⟨g5, 4, none⟩ = some (.int .i64 2) := (s6.cellAt 4 (by decide)).trans rfl
  have y5 : w6.cell? ⟨g5, 5, none⟩ = some (.int .i64 0) := (s6.cellAt 5 (by decide)).trans rfl
  obtain ⟨a6, c6, rfl, _⟩ := d6.form
  obtain ⟨g6, o6, x0, x1, e6, _, z0, z1, z2, r0, r1⟩ := d6.dr.at_ (i := 0) rfl
  obtain ⟨g7, o7, x2, x3, e7, _, z3, z4, z5, r2, r3⟩ := d6.dr.at_ (i := 1) rfl
  rw [e6] at e7
  cases e7
  subst e6
  obtain ⟨a7, c7, rfl, _⟩ := r0.form
  obtain ⟨a8, c8, rfl, _⟩ := r3.form
  obtain ⟨h7, p7, rfl, _, m7⟩ := (Sl.of_row r0).at_ (i := 0) rfl
  obtain ⟨h8, p8, rfl, _, m8⟩ := (Sl.of_row r3).at_ (i := 0) rfl
  have H6 : Hid (Kp w w6) := H5.out.1.trans (f6.below H5.out.1.size)
  have HX : Hid _ := new_none (most := 0) (by decide) w6
  clear HG H5 hm d6 t6 f6 hds s6 r0 r1 r2 r3
  simp only [Nat.zero_mul, Nat.add_zero, Nat.one_mul] at z0 z1 z2 z3 z4 z5 m7 m8
  simp only [List.length_cons, List.length_nil, Nat.zero_add] at z1 z5
  have m7' : w6.cell? ⟨h7, p7, none⟩ = some (.string ⟨#[98]⟩) := m7
  have m8' : w6.cell? ⟨h8, p8, none⟩ = some (.string ⟨#[97]⟩) := m8
  clear m7 m8
  go_wp2_with fail
  refine Calls.mono HX.out ?_
  rintro e w7 ⟨rfl, rfl⟩
  clear HX
  go_wp2_with fail
  go_ret
  exact ⟨rfl, H6.out⟩
end Go.Proofs.Ytbkhhgaihhbhjaa
/- The document's lines: New, Part, Splice. -/
namespace Go.Proofs.Ytbkhhgaihhbhjaa
open Go.ChangeShapes Go.WideShapes Go.ChangeAt Go.RowKit Go.Maps Go.MapKept
set_option linter.unusedVariables false
set_option linter.unusedSimpArgs false
set_option maxRecDepth 100000
/-- At t lies the document's list of lines. -/
def O2 (B t : Nat) (ls : List ByteArray) (w : World) : Prop := ∃ v, B ≤ t ∧ Lc 92 t [v] w ∧ Row B v ls w
section
variable {B t : Nat} {P : Nat → Prop} {v : Value} {ls : List ByteArray} {w w1 : World}
theorem O2.kp (h : O2 B t ls w) (k : Kp w w1) : O2 B t ls w1 := by
  obtain ⟨v, h1, h2, h3⟩ := h
  exact ⟨v, h1, h2.kp k, row_kp h3 k⟩
/-- A part of lines that can be read. -/
theorem Sl.sub {a : Option Addr} {n c : Nat} (h : Sl P (.slice a n c) ls w) {i k c' : Nat} (hik : i + k ≤ ls.length) (hc : c' + i = c) {a' : Option Addr} (ha : a' = (if c = i then a else a.map (·.add i)) ) : Sl P (.slice a' k c') ((ls.drop i).take k) w := by
  obtain ⟨a0, cap, e, h1, h2, h3, h4⟩ := h
  cases e
  have hlen : ((ls.drop i).take k).length = k := by rw [List.length_take, List.length_drop]; omega
  refine ⟨a', c', by rw [hlen], by rw [hlen]; omega, by omega, fun e => ?_, fun j s hj => ?_⟩
  · rw [ha] at e
    split at e
    · omega
    · cases a with
      | none => have := h3 rfl; omega
      | some ad => cases e
  · have hjl := (List.getElem?_eq_some_iff.1 hj).1
    rw [hlen] at hjl
    rw [List.getElem?_take, if_pos hjl, List.getElem?_drop] at hj
    obtain ⟨g, o, e, q, cc⟩ := h4 _ _ hj
    subst e
    refine ⟨g, o + i, ?_, q, by rw [show o + i + j = o + (i + j) by omega]; exact cc⟩
    rw [ha, if_neg (by omega)]
    show some ((⟨g, o, none⟩ : Addr).add i) = _
    rw [add2]
theorem Sl.take {a : Option Addr} {n c : Nat} (h : Sl P (.slice a n c) ls w) {k : Nat} (hk : k ≤ ls.length) : Sl P (.slice a k c) (ls.take k) w := by
  obtain ⟨a0, cap, e, h1, h2, h3, h4⟩ := h
  cases e
  have hlen : (ls.take k).length = k := by rw [List.length_take]; omega
  refine ⟨a, c, by rw [hlen], by rw [hlen]; omega, h2, h3, fun j s hj => ?_⟩
  have hjl := (List.getElem?_eq_some_iff.1 hj).1
  rw [hlen] at hjl
  rw [List.getElem?_take, if_pos hjl] at hj
  exact h4 _ _ hj
theorem Row.sl {v : Value} (h : Row B v ls w) : Sl (fun k => B ≤ k) v ls w := Sl.of_row h
set_option maxHeartbeats 8000000 in
theorem o2new_any (h : Sl P v ls w) (hl : ls.length ≤ 8796093022208) : Calls Try.prog 48 #[v] w fun e w' => ∃ t, e = .returned (.pointer (some ⟨t, 0, none⟩)) ∧ O2 w.heap.size t ls w' ∧ Kp w w' := by
  obtain ⟨a, c, rfl, h1, h2, h3⟩ := h.form
  obtain ⟨W1, hW1⟩ : ∃ W1, w.alloc (.cells #[.slice none 0 0] 92) = W1 := ⟨_, rfl⟩
  have k1 : Kp w W1 := by rw [← hW1]; exact kp_alloc _ _
  have b1 : Lc 92 w.heap.size [.slice none 0 0] W1 := by rw [← hW1]; exact Lc.new w _ _
  have c0 := b1.at (j := 0) rfl
  have HW : Hid (Kp w W1 ∧ Lc 92 w.heap.size [.slice none 0 0] W1 ∧ Sl P (.slice a ls.length c) ls W1 ∧ Row w.heap.size (.slice none 0 0) [] W1 ∧ w.heap.size ≤ W1.heap.size) := ⟨k1, b1, h.kp k1, row_nil0 _ _, k1.size⟩
  obtain ⟨N, hN⟩ : ∃ N, ls.length = N := ⟨_, rfl⟩
  have hN0 : ([] : List ByteArray).length + ls.length = N := by simpa using hN
  have HN : Hid (([] : List ByteArray).length + ls.length = N) := hN0
  rw [hN] at HW ⊢
  rw [hN] at hl
  have HX : Hid (∀ a' c' w', Row w.heap.size (.slice a' N c') ([] ++ ls) w' → W1.grownBy w' (Value.slice none 0 0).ownBlock → w'.cell? ⟨w.heap.size, 0, none⟩ = some (.slice none 0 0) ∧ w'.frozen? ⟨w.heap.size, 0, none⟩ = false ∧ Hid (O2 w.heap.size w.heap.size ls (w'.setCell ⟨w.heap.size, 0, none⟩ (.slice a' N c')) ∧ Kp w (w'.setCell ⟨w.heap.size, 0, none⟩ (.slice a' N c')))) := fun a' c' w' q1 q2 => by
    have k2 := kp_nil q2
    have b2 := HW.out.2.1.kp k2
    have f := fr_set w.heap.size 0 (.slice a' N c') w'
    refine ⟨b2.at (j := 0) rfl, b2.fz 0, ⟨_, Nat.le_refl _, b2.set 0 _, row_fr q1 f fun j hj e => row_ne q1 b2 (by decide) (by rw [hj, e])⟩, ?_⟩
    exact kp_new (kp_trans HW.out.1 k2) (Nat.le_refl _)
  have HWe : Hid (_ = W1) := hW1
  clear h hN k1 b1 hW1
  go_enter Try.func48, Try.ntmps48
  go_upto_region 2 with fail
  rw [HWe.out]
  go_wp2_with (at_builtin; refine wpl_str rfl (.tmp 10) (.tmp 11) rfl (K := N) rfl HW.out.2.2.2.1 rfl HW.out.2.2.1 HN.out (by omega) HW.out.2.2.2.2 ?_; intro a' c' w' _ _ q1 q2; obtain ⟨x0, x1, HE⟩ := HX.out a' c' w' q1 q2; clear q1 q2)
  go_ret
  exact ⟨_, rfl, HE.out⟩
end
end Go.Proofs.Ytbkhhgaihhbhjaa
/- The document's Part. -/
namespace Go.Proofs.Ytbkhhgaihhbhjaa
open Go.ChangeShapes Go.WideShapes Go.ChangeAt Go.RowKit Go.Maps Go.MapKept
set_option linter.unusedVariables false
set_option linter.unusedSimpArgs false
set_option maxRecDepth 100000
section
variable {B t : Nat} {P : Nat → Prop} {v : Value} {ls : List ByteArray} {w w1 : World}
set_option maxHeartbeats 8000000 in
theorem o2part_ok (h : O2 B t ls w) (hl : ls.length ≤ 8796093022208) {i n : Nat} (hin : i + n ≤ ls.length) :
    Calls Try.prog 49 #[.pointer (some ⟨t, 0, none⟩), .int .i64 i, .int .i64 n] w fun e w' => ∃ v, e = .returned (.tuple #[v, .bool true]) ∧ Row w.heap.size v ((ls.drop i).take n) w' ∧ Kp w w' := by
  obtain ⟨v, hB, hb, hr⟩ := h
  have c0 := hb.at (j := 0) rfl
  have hlen : ((ls.drop i).take n).length = n := by rw [List.length_take, List.length_drop]; omega
  rcases hr.2 with ⟨rfl, h0⟩ | ⟨g, c, cur, rfl, hBg, hg, p1, p2, p3, p4⟩
  · obtain rfl : i = 0 := by omega
    obtain rfl : n = 0 := by omega
    have HX : Hid (Row w.heap.size (.slice none 0 0) ((ls.drop 0).take 0) w) := by rw [List.take_zero]; exact row_nil0 _ _
    have HN : Hid (Row w.heap.size (.slice none 0 0) [] w) := row_nil0 _ _
    have HS : Hid (Sl (fun _ => True) (.slice none 0 0) [] w) := Sl.nil _ _
    clear hb hr hin hl hlen h0
    go_enter Try.func49, Try.ntmps49
    go_wp2_with (at_builtin; refine wpl_str rfl (.tmp 35) (.tmp 44) rfl (v := .slice none 0 0) (K := 0) rfl HN.out rfl HS.out rfl (by omega) (Nat.le_refl _) ?_; intro a' c' w' _ _ q1 q2)
    go_ret2
    exact ⟨_, rfl, by rw [List.take_zero]; exact q1, kp_nil q2⟩
  · obtain ⟨N, hN⟩ : ∃ N, ls.length = N := ⟨_, rfl⟩
    rw [hN] at c0 hl hin p1
    obtain ⟨sa, hsa⟩ : ∃ sa, (if c = i then some (⟨g, 0, none⟩ : Addr) else some ⟨g, i, none⟩) = sa := ⟨_, rfl⟩
    have hsl : Sl (fun _ => True) (.slice sa n (c - i)) ((ls.drop i).take n) w := by
      have q := (Row.sl hr).mono (Q := fun _ => True) fun _ _ _ => trivial
      refine q.sub (i := i) (by omega) (by omega) ?_
      rw [← hsa]
      by_cases e : c = i
      · rw [if_pos e, if_pos e]
      · rw [if_neg e, if_neg e]; show _ = some ((⟨g, 0, none⟩ : Addr).add i); rw [addr_add]
    have HS : Hid (Sl (fun _ => True) (.slice sa (i + n - i) (c - i)) ((ls.drop i).take n) w ∧ ([] : List ByteArray).length + ((ls.drop i).take n).length = n) := ⟨by rw [show i + n - i = n by omega]; exact hsl, by rw [hlen]; simp⟩
    have HN : Hid (Row w.heap.size (.slice none 0 0) [] w) := row_nil0 _ _
    have d1 : decide ((i : Int) < 0) = false := decide_eq_false (by omega)
    have d2 : decide ((n : Int) < 0) = false := decide_eq_false (by omega)
    have d3 : decide ((i : Int) > (N : Int)) = false := decide_eq_false (by omega)
    have d4 : decide ((N : Int) < (i : Int)) = false := decide_eq_false (by omega)
    have d5 : decide ((n : Int) > (N : Int) - (i : Int)) = false := decide_eq_false (by omega)
    have d6 : decide ((N : Int) - (i : Int) < (n : Int)) = false := decide_eq_false (by omega)
    have hiI : (i : Int) + (n : Int) ≤ (N : Int) := by omega
    have hcI : (N : Int) ≤ (c : Int) := by omega
    have hic : i + n ≤ c := by omega
    unfold maxLen at p2
    clear hb hr hsl hlen hg p3 p4 hN
    go_enter Try.func49, Try.ntmps49
    go_upto_region 4 with fail
    go_wp2_with (at_builtin; refine wpl_str rfl (.tmp 35) (.tmp 44) rfl (v := .slice none 0 0) (K := n) rfl HN.out rfl HS.out.1 HS.out.2 (by omega) (Nat.le_refl _) ?_; intro a' c' w' _ _ q1 q2)
    go_ret2
    exact ⟨_, rfl, q1, kp_nil q2⟩
/-- What a splice makes of lines. -/
def spl2 (ls : List ByteArray) (i n : Nat) (ms : List ByteArray) : List ByteArray := ls.take i ++ ms ++ ls.drop (i + n)
set_option maxHeartbeats 16000000 in
theorem o2splice_ok (h : O2 B t ls w) (hBw : B ≤ w.heap.size) (hl : ls.length ≤ 100000000) {i n : Nat} (hin : i + n ≤ ls.length) {mv : Value} {ms : List ByteArray} (hm : Sl P mv ms w) (hml : ms.length ≤ 100000000) :
    Calls Try.prog 50 #[.pointer (some ⟨t, 0, none⟩), .int .i64 i, .int .i64 n, mv] w fun e w' => e = .returned (.bool true) ∧ O2 B t (spl2 ls i n ms) w' ∧ Below B w w' := by
  have HP : Hid _ := o2part_ok h (by omega) hin
  obtain ⟨v, hB, hb, hr⟩ := h
  have c0 := hb.at (j := 0) rfl
  obtain ⟨ma, mc, rfl, m1, m2, m3⟩ := hm.form
  obtain ⟨M, hM⟩ : ∃ M, ms.length = M := ⟨_, rfl⟩
  obtain ⟨N, hN⟩ : ∃ N, ls.length = N := ⟨_, rfl⟩
  rw [hM] at hm hml m1 ⊢
  rw [hN] at hl hin
  have htk : (ls.take i).length = i := by rw [List.length_take]; omega
  have hdp : (ls.drop (i + n)).length = N - (i + n) := by rw [List.length_drop, hN]
  have HB : Hid (B ≤ t ∧ Lc 92 t [v] w ∧ Row B v ls w ∧ B ≤ w.heap.size) := ⟨hB, hb, hr, hBw⟩
  -- the three sources
  obtain ⟨va, vc, rfl, hvc, hvc2⟩ : ∃ a c, v = .slice a N c ∧ N ≤ c ∧ c ≤ maxLen := by obtain ⟨a, c, e, q1, q2⟩ := owns_form hr; rw [hN] at e q1; exact ⟨a, c, e, q1, q2⟩
  have hva : (va = none ∧ N = 0 ∧ vc = 0) ∨ ∃ g, va = some ⟨g, 0, none⟩ := by
    rcases hr.2 with ⟨e, h0⟩ | ⟨g, c, cur, e, _⟩
    · simp only [Value.slice.injEq] at e; exact .inl ⟨e.1, e.2.1, e.2.2⟩
    · simp only [Value.slice.injEq] at e; exact .inr ⟨g, e.1⟩
  have hslA : Sl (fun _ => True) (.slice va N vc) ls w := (Row.sl hr).mono fun _ _ _ => trivial
  obtain ⟨sa, hsa⟩ : ∃ sa, (if vc = i + n then va else va.map (·.add (i + n))) = sa := ⟨_, rfl⟩
  have HS : Hid (∀ z, Kp w z → Sl (fun _ => True) (.slice va i vc) (ls.take i) z ∧ Sl P (.slice ma M mc) ms z ∧ Sl (fun _ => True) (.slice sa (N - (i + n)) (vc - (i + n))) (ls.drop (i + n)) z) := fun z kz => by
    refine ⟨(hslA.kp kz).take (by omega), hm.kp kz, ?_⟩
    have q := (hslA.kp kz).sub (i := i + n) (k := N - (i + n)) (c' := vc - (i + n)) (a' := sa) (by omega) (by omega) hsa.symm
    have e : (ls.drop (i + n)).take (N - (i + n)) = ls.drop (i + n) := List.take_of_length_le (by rw [hdp]; exact Nat.le_refl _)
    rw [e] at q; exact q
  have HLEN : Hid (([] : List ByteArray).length + (ls.take i).length = i ∧ ([] ++ ls.take i).length + ms.length = i + M ∧ (([] ++ ls.take i) ++ ms).length + (ls.drop (i + n)).length = i + M + (N - (i + n))) := ⟨by rw [htk]; simp, by simp only [List.nil_append]; rw [htk, hM], by simp only [List.nil_append, List.length_append]; rw [htk, hM, hdp]⟩
  have hinI : (i : Int) + (n : Int) ≤ (N : Int) := by omega
  have hicI : (i : Int) ≤ (vc : Int) := by omega
  have hic : i ≤ vc := by omega
  have hnc : i + n ≤ vc := by omega
  have hNcI : (N : Int) ≤ (vc : Int) := by omega
  unfold maxLen at hvc2
  have HVA : Hid _ := hva
  have HSA : Hid ((if vc = i + n then va else va.map (·.add (i + n))) = sa) := hsa
  clear hb hr hm hslA hsa hN htk hdp hM hva hB hBw
  go_enter Try.func50, Try.ntmps50
  go_wp2_with fail
  refine Calls.mono HP.out ?_
  rintro e w1 ⟨pv, rfl, _, k1⟩
  obtain ⟨s1, s2, s3⟩ := HS.out w1 k1
  have c1 := kp_cell k1 c0
  have H1 : Hid (Sl (fun _ => True) (.slice va i vc) (ls.take i) w1 ∧ Row w.heap.size (.slice none 0 0) [] w1 ∧ w.heap.size ≤ w1.heap.size ∧ Kp w w1) := ⟨s1, row_nil0 _ _, k1.size, k1⟩
  clear HP s1 s2 s3
  rcases HVA.out with ⟨rfl, rfl, rfl⟩ | ⟨g, rfl⟩
  · obtain rfl : i = 0 := by omega
    obtain rfl : n = 0 := by omega
    have HSn : Hid (∀ z, Sl (fun _ => True) (.slice none 0 0) ([] : List ByteArray) z) := fun z => Sl.nil _ _
    have hms : ms.length = M := by
      have h := HLEN.out.2.1
      simp only [List.take_zero, List.append_nil, List.length_nil, Nat.zero_add] at h
      exact h
    have HL0 : Hid (([] : List ByteArray).length + ([] : List ByteArray).length = 0 ∧ ([] : List ByteArray).length + ms.length = M ∧ ms.length + ([] : List ByteArray).length = M) := ⟨rfl, by rw [List.length_nil, Nat.zero_add]; exact hms, by rw [List.length_nil, Nat.add_zero]; exact hms⟩
    have hls : ls = [] := by
      have h3 := HLEN.out.2.2
      have h1 := HLEN.out.2.1
      simp only [List.take_zero, List.append_nil, List.nil_append, List.length_append, List.length_nil, Nat.zero_add, Nat.add_zero, List.drop_zero] at h1 h3
      exact List.length_eq_zero_iff.1 (by omega)
    have HLS : Hid (spl2 ls 0 0 ms = ms) := by
      show spl2 ls 0 0 ms = ms
      rw [hls]; simp [spl2]
    clear hms hls
    go_upto_region 6 with (at_builtin; refine wpl_str rfl (.tmp 21) (.tmp 27) rfl (v := .slice none 0 0) (K := 0) rfl H1.out.2.1 rfl (HSn.out _) HL0.out.1 (by omega) H1.out.2.2.1 ?_; intro a2 d2 w2 _ _ q1 q2)
    have k2 : Kp w w2 := kp_trans k1 (kp_nil q2)
    have H2 : Hid (Row w.heap.size (.slice a2 0 d2) [] w2 ∧ Sl P (.slice ma M mc) ms w2 ∧ w.heap.size ≤ w2.heap.size ∧ Kp w w2) := ⟨by simpa using q1, (HS.out w2 k2).2.1, k2.size, k2⟩
    clear q1 q2 k1 H1 c1
    go_upto_region 7 with (at_builtin; refine wpl_str rfl (.tmp 29) (.tmp 30) rfl (v := .slice a2 0 d2) (K := M) rfl H2.out.1 rfl H2.out.2.1 HL0.out.2.1 (by omega) H2.out.2.2.1 ?_; intro a3 d3 w3 _ _ q1 q2)
    have k3 : Kp w w3 := H2.out.2.2.2.trans (below_grown H2.out.1 H2.out.2.2.1 q2)
    have H3 : Hid (Row w.heap.size (.slice a3 M d3) ms w3 ∧ w.heap.size ≤ w3.heap.size ∧ Kp w w3) := ⟨by simpa using q1, k3.size, k3⟩
    have c3 := kp_cell k3 c0
    clear q1 q2 k2 H2 k3
    go_upto_region 8 with (at_builtin; refine wpl_str rfl (.tmp 32) (.tmp 40) rfl (v := .slice a3 M d3) (K := M) rfl H3.out.1 rfl (HSn.out _) HL0.out.2.2 (by omega) H3.out.2.1 ?_; intro a4 d4 w4 _ _ q1 q2)
    have k4 : Kp w w4 := H3.out.2.2.trans (below_grown H3.out.1 H3.out.2.1 q2)
    have b4 := HB.out.2.1.kp k4
    have c4 := b4.at (j := 0) rfl
    have f4 := b4.fz 0
    have HX : Hid (O2 B t (spl2 ls 0 0 ms) (w4.setCell ⟨t, 0, none⟩ (.slice a4 M d4)) ∧ Below B w (w4.setCell ⟨t, 0, none⟩ (.slice a4 M d4))) := by
      have f := fr_set t 0 (.slice a4 M d4) w4
      have q1' : Row w.heap.size (.slice a4 M d4) (spl2 ls 0 0 ms) w4 := by rw [HLS.out]; simpa using q1
      refine ⟨⟨_, HB.out.1, b4.set 0 _, row_fr (row_lift q1' fun j hj => Nat.le_trans HB.out.2.2.2 (q1'.lt j hj).1) f fun j hj e => row_ne q1' b4 (by decide) (by rw [hj, e])⟩, ?_⟩
      exact (k4.mono HB.out.2.2.2).trans (f.below (Nat.le_trans HB.out.2.2.2 k4.size) fun k hk e => by unfold On at e; have := HB.out.1; omega)
    clear q1 q2 k4 b4 H3 c3
    go_wp2_with fail
    go_ret
    exact ⟨rfl, HX.out⟩
  · have hsa2 : (if vc = i + n then some (⟨g, 0, none⟩ : Addr) else some ⟨g, i + n, none⟩) = sa := by
      rw [← HSA.out]
      by_cases e : vc = i + n
      · rw [if_pos e, if_pos e]
      · rw [if_neg e, if_neg e]; show _ = some ((⟨g, 0, none⟩ : Addr).add (i + n)); rw [addr_add]
    go_upto_region 6 with (at_builtin; refine wpl_str rfl (.tmp 21) (.tmp 27) rfl (v := .slice none 0 0) (K := i) rfl H1.out.2.1 rfl H1.out.1 HLEN.out.1 (by omega) H1.out.2.2.1 ?_; intro a2 d2 w2 _ _ q1 q2)
    have k2 : Kp w w2 := kp_trans k1 (kp_nil q2)
    have H2 : Hid (Row w.heap.size (.slice a2 i d2) ([] ++ ls.take i) w2 ∧ Sl P (.slice ma M mc) ms w2 ∧ w.heap.size ≤ w2.heap.size ∧ Kp w w2) := ⟨q1, (HS.out w2 k2).2.1, k2.size, k2⟩
    clear q1 q2 k1 H1 c1
    go_upto_region 7 with (at_builtin; refine wpl_str rfl (.tmp 29) (.tmp 30) rfl (v := .slice a2 i d2) (K := i + M) rfl H2.out.1 rfl H2.out.2.1 HLEN.out.2.1 (by omega) H2.out.2.2.1 ?_; intro a3 d3 w3 _ _ q1 q2)
    have k3 : Kp w w3 := H2.out.2.2.2.trans (below_grown H2.out.1 H2.out.2.2.1 q2)
    have H3 : Hid (Row w.heap.size (.slice a3 (i + M) d3) (([] ++ ls.take i) ++ ms) w3 ∧ Sl (fun _ => True) (.slice sa (N - (i + n)) (vc - (i + n))) (ls.drop (i + n)) w3 ∧ w.heap.size ≤ w3.heap.size ∧ Kp w w3) := ⟨q1, (HS.out w3 k3).2.2, k3.size, k3⟩
    have c3 := kp_cell k3 c0
    have H3' : Hid (Sl (fun _ => True) (.slice (if vc = i + n then some ⟨g, 0, none⟩ else some ⟨g, i + n, none⟩) (N - (i + n)) (vc - (i + n))) (ls.drop (i + n)) w3) := by rw [hsa2]; exact H3.out.2.1
    clear q1 q2 k2 H2 k3 hsa2 HSA
    go_upto_region 8 with (at_builtin; refine wpl_str rfl (.tmp 32) (.tmp 40) rfl (v := .slice a3 (i + M) d3) (K := i + M + (N - (i + n))) rfl H3.out.1 rfl H3'.out HLEN.out.2.2 (by omega) H3.out.2.2.1 ?_; intro a4 d4 w4 _ _ q1 q2)
    all_goals
      have k4 : Kp w w4 := H3.out.2.2.2.trans (below_grown H3.out.1 H3.out.2.2.1 q2)
      have b4 := HB.out.2.1.kp k4
      have c4 := b4.at (j := 0) rfl
      have f4 := b4.fz 0
      have HX : Hid (O2 B t (spl2 ls i n ms) (w4.setCell ⟨t, 0, none⟩ (.slice a4 (i + M + (N - (i + n))) d4)) ∧ Below B w (w4.setCell ⟨t, 0, none⟩ (.slice a4 (i + M + (N - (i + n))) d4))) := by
        have f := fr_set t 0 (.slice a4 (i + M + (N - (i + n))) d4) w4
        have q1' : Row w.heap.size (.slice a4 (i + M + (N - (i + n))) d4) (spl2 ls i n ms) w4 := by unfold spl2; simpa using q1
        refine ⟨⟨_, HB.out.1, b4.set 0 _, row_fr (row_lift q1' fun j hj => Nat.le_trans HB.out.2.2.2 (q1'.lt j hj).1) f fun j hj e => row_ne q1' b4 (by decide) (by rw [hj, e])⟩, ?_⟩
        exact (k4.mono HB.out.2.2.2).trans (f.below (Nat.le_trans HB.out.2.2.2 k4.size) fun k hk e => by unfold On at e; have := HB.out.1; omega)
      clear q1 q2 k4 b4 H3 c3
      go_wp2_with fail
      all_goals
        go_ret
        exact ⟨rfl, HX.out⟩
end
end Go.Proofs.Ytbkhhgaihhbhjaa
/- made: what changes make of lines. -/
namespace Go.Proofs.Ytbkhhgaihhbhjaa
open Go.ChangeShapes Go.WideShapes Go.ChangeAt Go.RowKit Go.Maps Go.MapKept
set_option linter.unusedVariables false
set_option linter.unusedSimpArgs false
set_option maxRecDepth 100000
set_option maxHeartbeats 4000000 in
theorem o2same_eq {P Q : Nat → Prop} {v1 v2 : Value} {l : List ByteArray} {w : World} (h1 : Sl P v1 l w) (h2 : Sl Q v2 l w) :
    Calls Try.prog 30 #[v1, v2] w fun e w' => e = .returned (.bool true) ∧ ∃ q, w' = w.drewN q := by
  obtain ⟨a1, c1, rfl, p1, p2, _⟩ := h1.form
  obtain ⟨a2, c2, rfl, _⟩ := h2.form
  obtain ⟨n, hn⟩ : ∃ n, l.length = n := ⟨_, rfl⟩
  rw [hn] at h1 h2 p1 ⊢
  have HA : Hid (Sl P (.slice a1 n c1) l w ∧ Sl Q (.slice a2 n c2) l w ∧ l.length = n) := ⟨h1, h2, hn⟩
  have hd0 : ((n : Int) != (n : Int)) = false := by simp
  unfold maxLen at p2
  have hn9 : n ≤ 9223372036854775807 := by omega
  clear h1 h2 hn p1 p2
  go_enter Try.func30, Try.ntmps30
  go_wp2_with fail
  go_loopw [5] (fun vi wr => ∃ i : Nat, i ≤ n ∧ vi = .int .i64 i ∧ ∃ q, wr = w.drewN q) (fun vi _ => n - (intOf vi).toNat)
  case atStart => exact ⟨0, Nat.zero_le _, rfl, 0, rfl⟩
  case round =>
    obtain ⟨i, hi, rfl, q, rfl⟩ := hrel
    by_cases hlt : i < n
    · have hdl : decide ((i : Int) < (n : Int)) = true := decide_eq_true (by omega)
      obtain ⟨s, hs⟩ : ∃ s, l[i]? = some s := ⟨_, List.getElem?_eq_getElem (by rw [HA.out.2.2]; exact hlt)⟩
      obtain ⟨g1, o1, rfl, _, e1⟩ := HA.out.1.at_ hs
      obtain ⟨g2, o2, rfl, _, e2⟩ := HA.out.2.1.at_ hs
      have hli : (i : Int) < (n : Int) := by omega
      clear hs
      go_wp2_with fail
      go_quiet (fail)
      go_wp2_with fail
      go_roundw
      case rel => exact ⟨i + 1, by omega, by go_num, _, rfl⟩
      case measure => simp only [intOf]; omega
    · obtain rfl : i = n := by omega
      have hdl : decide ((i : Int) < (i : Int)) = false := by simp
      go_wp2_with fail
      go_ret
      exact ⟨rfl, _, rfl⟩
/-- How many lines changes put. -/
def wN (ds : List Dl) : Nat := (ds.map fun d => d.nw.length).sum
theorem app1_parts {l l' : List ByteArray} {d : Dl} (h : app1 l d = some l') : ∃ a : Nat, d.at_ = (a : Int) ∧ a + d.old.length ≤ l.length ∧ (l.drop a).take d.old.length = d.old ∧ l' = spl2 l a d.old.length d.nw := by
  unfold app1 at h
  split at h
  · rename_i c
    obtain ⟨c1, c2, c3, c4⟩ := c
    cases h
    exact ⟨d.at_.toNat, by omega, by omega, c4, rfl⟩
  · cases h
theorem apps_drop {l lf : List ByteArray} {ds : List Dl} {i : Nat} {d : Dl} (hd : ds[i]? = some d) (h : apps l (ds.drop i) = some lf) : ∃ l', app1 l d = some l' ∧ apps l' (ds.drop (i + 1)) = some lf := by
  obtain ⟨hl, rfl⟩ := List.getElem?_eq_some_iff.1 hd
  rw [List.drop_eq_getElem_cons hl] at h
  have h' : (app1 l ds[i]).bind (fun l' => apps l' (ds.drop (i + 1))) = some lf := h
  cases e : app1 l ds[i] with
  | none => rw [e] at h'; cases h'
  | some l' => rw [e] at h'; exact ⟨l', rfl, h'⟩
theorem wN_drop {ds : List Dl} {i : Nat} {d : Dl} (hd : ds[i]? = some d) : wN (ds.drop i) = d.nw.length + wN (ds.drop (i + 1)) := by
  obtain ⟨hl, rfl⟩ := List.getElem?_eq_some_iff.1 hd
  unfold wN
  rw [List.drop_eq_getElem_cons hl, List.map_cons, List.sum_cons]
/-- Where a round of made stands. -/
def Mde (B t i : Nat) (ds : List Dl) (lf : List ByteArray) (w wr : World) : Prop := ∃ li, O2 B t li wr ∧ apps li (ds.drop i) = some lf ∧ li.length + wN (ds.drop i) ≤ 100000000 ∧ Kp w wr
set_option maxHeartbeats 32000000 in
theorem made_any {P Q : Nat → Prop} {X : Xl} {w : World} {lv dv : Value} {l lf : List ByteArray} {ds : List Dl} (hl : Sl P lv l w) (ok : Okx w.heap.size X) (hd : Dr Q X dv ds w) (ha : apps l ds = some lf) (hb : l.length + wN ds ≤ 100000000) (hn : ds.length ≤ 100000000) :
    Calls Try.prog 29 #[lv, dv] w fun e w' => ∃ v, e = .returned (.tuple #[v, .bool true]) ∧ Row w.heap.size v lf w' ∧ Kp w w' := by
  have HNW : Hid _ := o2new_any hl (by omega)
  obtain ⟨da, dc, rfl, d1, d2, d3⟩ := hd.form
  obtain ⟨n, hn0⟩ : ∃ n, ds.length = n := ⟨_, rfl⟩
  have HD : Hid (Dr Q X (.slice da n dc) ds w ∧ ds.length = n) := ⟨by rw [← hn0]; exact hd, hn0⟩
  have HA : Hid (apps l (ds.drop 0) = some lf ∧ l.length + wN (ds.drop 0) ≤ 100000000) := ⟨by rw [List.drop_zero]; exact ha, by rw [List.drop_zero]; exact hb⟩
  obtain ⟨la, lc, rfl, _⟩ := hl.form
  obtain ⟨N, hN⟩ : ∃ N, l.length = N := ⟨_, rfl⟩
  rw [hN] at HNW ⊢
  rw [hn0] at hn d1 ⊢
  clear hl hd ha hb hn0 hN
  go_enter Try.func29, Try.ntmps29
  go_wp2_with fail
  refine Calls.mono HNW.out ?_
  rintro e w1 ⟨t, rfl, h1, k1⟩
  have H1 : Hid (Mde w.heap.size t 0 ds lf w w1) := ⟨l, h1, HA.out.1, HA.out.2, k1⟩
  clear HNW h1 k1 HA
  go_wp2_with fail
  go_loopw [7] (fun v7 wr => ∃ i : Nat, i ≤ n ∧ v7 = .int .i64 i ∧ Hid (Mde w.heap.size t i ds lf w wr)) (fun v7 _ => n - (intOf v7).toNat)
  case atStart => exact ⟨0, Nat.zero_le _, rfl, H1.out⟩
  case round =>
    obtain ⟨i, hi, rfl, HI⟩ := hrel
    clear H1
    rcases Nat.lt_or_ge i n with p | p
    · have g1 : decide ((i : Int) < (n : Int)) = true := decide_eq_true (by omega)
      have g2 : decide (i < n) = true := decide_eq_true p
      have hiI : (i : Int) < (n : Int) := by omega
      obtain ⟨li, ho, hap, hbd, hk⟩ := HI.out
      obtain ⟨d, hdi⟩ : ∃ d, ds[i]? = some d := ⟨_, List.getElem?_eq_getElem (by rw [HD.out.2]; exact p)⟩
      obtain ⟨l', h1, h2⟩ := apps_drop hdi hap
      obtain ⟨a, ea, hal, hold, hl'⟩ := app1_parts h1
      have hwn := wN_drop hdi
      obtain ⟨g, o, x, y, rfl, _, c0, c1, c2, hx, hy⟩ := HD.out.1.at_ hdi
      replace c0 := kp_cell hk c0
      replace c1 := kp_cell hk c1
      replace c2 := kp_cell hk c2
      replace hx := ok.kp hx hk
      replace hy := ok.kp hy hk
      rw [ea] at c0
      obtain ⟨xa, xc, rfl, _⟩ := (ok.sl hx).form
      obtain ⟨ya, yc, rfl, _⟩ := (ok.sl hy).form
      have hll : l'.length = li.length - d.old.length + d.nw.length := by
        rw [hl']; unfold spl2
        rw [List.length_append, List.length_append, List.length_take, List.length_drop]; omega
      obtain ⟨ko, hko⟩ : ∃ ko, d.old.length = ko := ⟨_, rfl⟩
      obtain ⟨kn, hkn⟩ : ∃ kn, d.nw.length = kn := ⟨_, rfl⟩
      rw [hko] at c1 hx hal hold hl' hll
      rw [hkn] at c2 hy hll hwn
      have HPt : Hid (∀ z, Kp wr z → Calls Try.prog 49 #[.pointer (some ⟨t, 0, none⟩), .int .i64 a, .int .i64 ko] z fun e w' => ∃ pa pc, e = .returned (.tuple #[.slice pa ko pc, .bool true]) ∧ Hid (Kp wr w' ∧ w'.cell? ⟨g, o + i * 3, none⟩ = some (.int .i64 a) ∧ w'.cell? ⟨g, o + i * 3 + 1, none⟩ = some (.slice xa ko xc) ∧ w'.cell? ⟨g, o + i * 3 + 2, none⟩ = some (.slice ya kn yc) ∧ ∀ z2, Kp w' z2 → Calls Try.prog 30 #[.slice pa ko pc, .slice xa ko xc] z2 fun e w2 => e = .returned (.bool true) ∧ ∃ q, w2 = z2.drewN q)) := fun z kz => (o2part_ok (ho.kp kz) (by omega) (i := a) (n := ko) (by omega)).mono (by
        rintro e w' ⟨v, rfl, r1, r2⟩
        rw [hold] at r1
        obtain ⟨pa, pc, rfl, _⟩ := owns_form r1
        rw [hko] at r1 ⊢
        have k := kp_trans kz r2
        refine ⟨pa, pc, rfl, k, kp_cell k c0, kp_cell k c1, kp_cell k c2, fun z2 kz2 => ?_⟩
        exact o2same_eq (Row.sl (row_kp r1 kz2)) ((ok.sl hx).kp (kp_trans k kz2)))
      have HSp : Hid (∀ z, Kp wr z → Calls Try.prog 50 #[.pointer (some ⟨t, 0, none⟩), .int .i64 a, .int .i64 ko, .slice ya kn yc] z fun e w' => e = .returned (.bool true) ∧ Hid (Mde w.heap.size t (i + 1) ds lf w w')) := fun z kz => (o2splice_ok (ho.kp kz) (Nat.le_trans hk.size kz.size) (by omega) (i := a) (n := ko) (by omega) ((ok.sl hy).kp kz) (by omega)).mono (by
        rintro e w' ⟨rfl, r1, r2⟩
        refine ⟨rfl, l', by rw [hl']; exact r1, h2, by omega, ?_⟩
        exact (kp_trans hk kz).trans r2)
      clear HI ho hap hbd hdi h1 h2 hold hl' hwn hx hy hll hko hkn ea hal
      go_upto_region 5 with fail
      go_region_with (go_at_call 49; refine Calls.mono (HPt.out _ (by first | exact Below.refl _ _ | exact kp_drew _)) ?_; rintro e w5 ⟨pa, pc, rfl, HZ⟩)
      all_goals
        obtain ⟨kz, z0, z1, z2, hsame⟩ := HZ.out
        have HSM : Hid _ := hsame
        have HSp2 : Hid (∀ z, Kp w5 z → Calls Try.prog 50 #[.pointer (some ⟨t, 0, none⟩), .int .i64 a, .int .i64 ko, .slice ya kn yc] z fun e w' => e = .returned (.bool true) ∧ Hid (Mde w.heap.size t (i + 1) ds lf w w')) := fun z k => HSp.out z (kp_trans kz k)
        clear HZ hsame HPt HSp kz c0 c1 c2
        go_wp2_with fail
        refine Calls.mono (HSM.out _ (Below.refl _ _)) ?_
        rintro e w6 ⟨rfl, q6, rfl⟩
        clear HSM
        go_upto_region 8 with fail
        go_region_with (go_at_call 50; refine Calls.mono (HSp2.out _ (by first | exact kp_drewN _ _ | exact kp_trans (kp_drewN _ _) (kp_drew _))) ?_; rintro e w7 ⟨rfl, HY⟩)
        all_goals
          go_wp2_with fail
          go_roundw
          case rel => exact ⟨i + 1, by omega, by go_num, HY⟩
          case measure => simp only [intOf]; omega
    · have g1 : decide ((i : Int) < (n : Int)) = false := decide_eq_false (by omega)
      have g2 : decide (i < n) = false := decide_eq_false (by omega)
      obtain rfl : i = n := by omega
      obtain ⟨li, ⟨v, _, hb2, hr2⟩, hap, hbd, hk⟩ := HI.out
      have e1 : ds.drop i = [] := List.drop_eq_nil_of_le (by rw [HD.out.2]; exact Nat.le_refl _)
      rw [e1] at hap
      cases hap
      have c0 := hb2.at (j := 0) rfl
      obtain ⟨va, vc, rfl, _⟩ := owns_form hr2
      have HX : Hid (Row w.heap.size (.slice va lf.length vc) lf wr ∧ Kp w wr) := ⟨hr2, hk⟩
      generalize lf.length = M at c0 HX
      clear hb2 hr2 hk HI
      go_wp2_with fail
      go_ret2
      exact ⟨_, rfl, HX.out⟩
end Go.Proofs.Ytbkhhgaihhbhjaa
/- A heap of numbers in memory; what its methods are, called through an interface. -/
namespace Go.Proofs.Ytbkhhgaihhbhjaa
open Go.ChangeShapes Go.WideShapes Go.ChangeAt Go.RowKit Go.Maps Go.MapKept
set_option linter.unusedVariables false
set_option linter.unusedSimpArgs false
set_option maxRecDepth 100000
theorem mrow_len : (Try.prog.info? 94).map (fun i => (i.methods.find? (·.name == "Len")).map fun m => (m.path, m.func)) = some (some (#[⟨98, 0, true⟩], some (53, false))) := by kernel_rfl
theorem mrow_less : (Try.prog.info? 94).map (fun i => (i.methods.find? (·.name == "Less")).map fun m => (m.path, m.func)) = some (some (#[⟨98, 0, true⟩], some (114, false))) := by kernel_rfl
theorem mrow_swap : (Try.prog.info? 94).map (fun i => (i.methods.find? (·.name == "Swap")).map fun m => (m.path, m.func)) = some (some (#[⟨98, 0, true⟩], some (118, false))) := by kernel_rfl
theorem mrow_push : (Try.prog.info? 94).map (fun i => (i.methods.find? (·.name == "Push")).map fun m => (m.path, m.func)) = some (some (#[], some (116, true))) := by kernel_rfl
theorem mrow_pop : (Try.prog.info? 94).map (fun i => (i.methods.find? (·.name == "Pop")).map fun m => (m.path, m.func)) = some (some (#[], some (115, true))) := by kernel_rfl
theorem underLeast : (Try.prog.underlying 98).map (fun d => match d with | .struct fs => (fs[0]?).map fun f => (f.type, f.offset) | _ => none) = some (some (96, 0)) := by kernel_rfl
theorem run_find {t : TypeId} {name : String} {p : Array FieldStep} {f : FuncId} {ptr : Bool} (h : (Try.prog.info? t).map (fun i => (i.methods.find? (·.name == name)).map fun m => (m.path, m.func)) = some (some (p, some (f, ptr)))) (n : Nat) (v : Value) (w : World) :
    (method (n + 1) t v name).run Try.prog w = (do
      let (xt, x) ← follow p.toList t (.val v)
      pure (f, ← receiverAt xt x ptr (if p.isEmpty then some ((name.splitOn ".").getLastD name) else none)) : Sem (FuncId × Value)).run Try.prog w := by
  obtain ⟨i, hi, h1⟩ := Option.map_eq_some_iff.1 h
  obtain ⟨m, hm, h2⟩ := Option.map_eq_some_iff.1 h1
  obtain ⟨nm, sg, pp, ff⟩ := m
  simp only [Prod.mk.injEq] at h2
  obtain ⟨rfl, rfl⟩ := h2
  unfold method
  simp only [Sem.run_bind, show (typeInfo t).run Try.prog w = .ok i w by simp [typeInfo, hi], Result.andThen_ok, hm]
theorem run_m0 {name : String} {f : FuncId} (h : (Try.prog.info? 94).map (fun i => (i.methods.find? (·.name == name)).map fun m => (m.path, m.func)) = some (some (#[], some (f, true)))) (n : Nat) (ad : Addr) (w : World) :
    (method (n + 1) 94 (.pointer (some ad)) name).run Try.prog w = .ok (f, .pointer (some ad)) w := by
  rw [run_find h]
  simp [follow, receiverAt, Place.get, run_underlying Try.underlying94, Result.andThen]
theorem run_m1 {name : String} {f : FuncId} (h : (Try.prog.info? 94).map (fun i => (i.methods.find? (·.name == name)).map fun m => (m.path, m.func)) = some (some (#[⟨98, 0, true⟩], some (f, false)))) (n : Nat) {b : Nat} {w : World} {v : Value} (hv : w.cell? ⟨b, 0, none⟩ = some v) :
    (method (n + 1) 94 (.pointer (some ⟨b, 0, none⟩)) name).run Try.prog w = .ok (f, v) w := by
  obtain ⟨d, hd, h1⟩ := Option.map_eq_some_iff.1 underLeast
  cases d with
  | struct fs =>
    obtain ⟨x, hx, h2⟩ := Option.map_eq_some_iff.1 h1
    obtain ⟨t, o⟩ := Prod.mk.inj h2
    rw [run_find h]
    have hsz : (sizeOf x.type).run Try.prog w = .ok 1 w := by rw [t]; kernel_rfl
    have hag : (isAgg 96).run Try.prog w = .ok false w := by kernel_rfl
    have hld : (load ⟨b, 0, none⟩).run Try.prog w = .ok v w := by simp [hv]
    simp [follow, receiverAt, Place.get, run_underlying hd, run_underlying Try.underlying96, hx, Result.andThen, asAddr, fieldPlace, hsz, t, o, loadVar, hag, hld, addr_add]
  | _ => cases h1
end Go.Proofs.Ytbkhhgaihhbhjaa
/- Len, Less, Swap of a heap's numbers; Push. -/
namespace Go.Proofs.Ytbkhhgaihhbhjaa
open Go.ChangeShapes Go.WideShapes Go.ChangeAt Go.RowKit Go.Maps Go.MapKept
set_option linter.unusedVariables false
set_option linter.unusedSimpArgs false
set_option maxRecDepth 100000
/-- What a heap's calls turn of what was there. -/
def TH : Obj → Prop
  | .cells _ e _ => e = 98 ∨ e = 3
  | _ => False
/-- At h lies a heap's box, in it v, which reads as these numbers. -/
structure Hq (D h : Nat) (v : Value) (l : List Int) (w : World) : Prop where
  lh : D ≤ h
  box : Lc 98 h [v] w
  row : Ir D v l w
def Hw (D h : Nat) (l : List Int) (w : World) : Prop := ∃ v, Hq D h v l w
section
variable {D h : Nat} {v : Value} {l : List Int} {w w1 : World}
theorem Hq.kp (q : Hq D h v l w) (k : Kp w w1) : Hq D h v l w1 := ⟨q.lh, q.box.kp k, q.row.kp k⟩
theorem Hw.kp (q : Hw D h l w) (k : Kp w w1) : Hw D h l w1 := by obtain ⟨v, q⟩ := q; exact ⟨v, q.kp k⟩
theorem Hq.fr {S : Nat → Prop} (q : Hq D h v l w) (k : Fr S w w1) (hS : ∀ j cur e fr, S j → w.heap[j]? = some (.cells cur e fr) → e ≠ 98 ∧ e ≠ 3) : Hq D h v l w1 := by
  refine ⟨q.lh, q.box.fr k fun e => (hS h _ _ _ e q.box).1 rfl, row_fr q.row k fun j hj e => ?_⟩
  rcases q.row.2 with ⟨z, _⟩ | ⟨g, cap, cur, z, hb, hg, _⟩
  · rw [z] at hj; cases hj
  · rw [z] at hj; simp only [Value.ownBlock, Option.some.injEq] at hj; subst hj; exact (hS g _ _ _ e hg).2 rfl
theorem ir_cells (q : Ir D v l w) (hl : l ≠ []) : ∃ g c, v = .slice (some ⟨g, 0, none⟩) l.length c ∧ D ≤ g ∧ l.length ≤ c ∧ c ≤ maxLen ∧ (∀ i x, l[i]? = some x → w.cell? ⟨g, i, none⟩ = some (.int .i64 x)) ∧ (∀ j, w.frozen? ⟨g, j, none⟩ = false) := by
  rcases q.2 with ⟨_, e0⟩ | ⟨g, c, cur, e, hb, hg, p1, p2, p3, p4⟩
  · exact absurd (List.length_eq_zero_iff.1 e0) hl
  refine ⟨g, c, e, hb, p1, p2, fun i x hi => ?_, fun j => by simp [World.frozen?, hg]⟩
  have hil := (List.getElem?_eq_some_iff.1 hi).1
  have hz : (zcs l)[i]? = some (.int .i64 x) := by simp [zcs, hi]
  rw [cell_at hg, ← Array.getElem?_toList]
  rw [← p4, List.getElem?_take, if_pos (by omega)] at hz
  exact hz
theorem row_put {B n size g c j : Nat} {e : TypeId} {xs : List Value} {w : World} {u : Value} (h : w.ownsRow B e size (.slice (some ⟨g, 0, none⟩) n c) n xs) (hj : j < n * size) : (w.setCell ⟨g, j, none⟩ u).ownsRow B e size (.slice (some ⟨g, 0, none⟩) n c) n (xs.set j u) := by
  refine ⟨by rw [List.length_set]; exact h.1, ?_⟩
  rcases h.2 with ⟨e0, _⟩ | ⟨g', c', cur, e0, hb, hg, p1, p2, p3, p4⟩
  · cases e0
  cases e0
  refine .inr ⟨g, c, _, rfl, hb, heap_setCell hg, p1, p2, by simpa using p3, ?_⟩
  rw [Array.toList_setIfInBounds, List.take_set, p4]
theorem ir_set {g c i : Nat} (q : Ir D (.slice (some ⟨g, 0, none⟩) l.length c) l w) (hi : i < l.length) (x : Int) : Ir D (.slice (some ⟨g, 0, none⟩) l.length c) (l.set i x) (w.setCell ⟨g, i, none⟩ (.int .i64 x)) := by
  have h0 := row_put (u := .int .i64 x) q (j := i) (by omega)
  have e : (zcs l).set i (.int .i64 x) = zcs (l.set i x) := by simp [zcs, List.map_set]
  rw [e] at h0
  unfold Ir
  rw [List.length_set]
  exact h0
end
section
variable {D h : Nat} {v : Value} {l : List Int} {w w1 : World}
set_option maxHeartbeats 4000000 in
theorem len_any (a : Option Addr) (n c : Nat) (w : World) : Calls Try.prog 53 #[.slice a n c] w fun e w' => e = .returned (.int .i64 n) ∧ w' = w := by
  go_enter Try.func53, Try.ntmps53
  go_wp2
  go_ret
  exact ⟨rfl, rfl⟩
set_option maxHeartbeats 4000000 in
theorem less_any (q : Ir D v l w) (hl : l.length ≤ 1000) {i j : Nat} {x y : Int} (hi : l[i]? = some x) (hj : l[j]? = some y) : Calls Try.prog 114 #[v, .int .i64 i, .int .i64 j] w fun e w' => e = .returned (.bool (decide (x < y))) ∧ ∃ k, w' = w.drewN k := by
  have hil := (List.getElem?_eq_some_iff.1 hi).1
  have hjl := (List.getElem?_eq_some_iff.1 hj).1
  obtain ⟨g, c, rfl, _, hc1, hc2, hcl, _⟩ := ir_cells q (by rintro rfl; cases hi)
  have c1 := hcl _ _ hi
  have c2 := hcl _ _ hj
  have hiI : (i : Int) < (l.length : Int) := by omega
  have hjI : (j : Int) < (l.length : Int) := by omega
  generalize l.length = N at *
  clear q hcl hi hj
  go_enter Try.func114, Try.ntmps114
  go_wp2_with fail
  go_quiet (fail)
  go_wp2_with fail
  go_ret
  exact ⟨rfl, _, rfl⟩
set_option maxHeartbeats 8000000 in
theorem swap_any (q : Ir D v l w) (hl : l.length ≤ 1000) {i j : Nat} {x y : Int} (hi : l[i]? = some x) (hj : l[j]? = some y) : Calls Try.prog 118 #[v, .int .i64 i, .int .i64 j] w fun e w' => e = .returned (.tuple #[]) ∧ Ir D v ((l.set i y).set j x) w' ∧ Ff TH D w w' ∧ ∀ h u, Lc 98 h [u] w → Lc 98 h [u] w' := by
  have hil := (List.getElem?_eq_some_iff.1 hi).1
  have hjl := (List.getElem?_eq_some_iff.1 hj).1
  obtain ⟨g, c, rfl, hDg, hc1, hc2, hcl, hfz⟩ := ir_cells q (by rintro rfl; cases hi)
  have c1 := hcl _ _ hi
  have c2 := hcl _ _ hj
  have f1 := hfz i
  have f2 := hfz j
  have HP : Hid (∀ k, Ir D (.slice (some ⟨g, 0, none⟩) l.length c) ((l.set i y).set j x) (((w.setCell ⟨g, i, none⟩ (.int .i64 y)).setCell ⟨g, j, none⟩ (.int .i64 x)).drewN k) ∧ Ff TH D w (((w.setCell ⟨g, i, none⟩ (.int .i64 y)).setCell ⟨g, j, none⟩ (.int .i64 x)).drewN k) ∧ ∀ h u, Lc 98 h [u] w → Lc 98 h [u] (((w.setCell ⟨g, i, none⟩ (.int .i64 y)).setCell ⟨g, j, none⟩ (.int .i64 x)).drewN k)) := fun k => by
    have r1 := ir_set q (i := i) hil y
    have e1 : l.length = (l.set i y).length := by rw [List.length_set]
    rw [e1] at r1
    have r2 := ir_set (i := j) r1 (by rw [List.length_set]; exact hjl) x
    rw [← e1] at r2
    refine ⟨r2.kp (kp_drewN _ _), ?_, fun h u hb => ?_⟩
    rotate_left
    · have hn : h ≠ g := fun e => by have := row_ne q hb (by decide); rw [e] at this; exact this rfl
      exact ((hb.other (Ne.symm hn)).other (Ne.symm hn)).kp (kp_drewN _ _)
    have hg : ∃ cur fr, w.heap[g]? = some (.cells cur 3 fr) := by
      rcases q.2 with ⟨z, _⟩ | ⟨g', c', cur, e, hb, hg, _⟩
      · cases z
      · cases e; exact ⟨cur, _, hg⟩
    obtain ⟨cur, fr, hg⟩ := hg
    exact Ff.on (((fr_set g i (.int .i64 y) w).trans (fr_set g j (.int .i64 x) _)).trans (Fr.drewN _ _ _)) hDg hg (.inr rfl)
  have hiI : (i : Int) < (l.length : Int) := by omega
  have hjI : (j : Int) < (l.length : Int) := by omega
  have HIJ : i = j ∨ i ≠ j := by omega
  generalize l.length = N at *
  clear q hcl hi hj hfz
  rcases HIJ with rfl | hij
  · rw [c1] at c2; cases c2
    go_enter Try.func118, Try.ntmps118
    go_wp2_with fail
    go_region
    go_wp2_with fail
    go_end0
    exact ⟨rfl, HP.out 1⟩
  · have hji : j ≠ i := fun e => hij e.symm
    go_enter Try.func118, Try.ntmps118
    go_wp2_with fail
    go_region
    go_wp2_with fail
    go_end0
    exact ⟨rfl, HP.out 1⟩
end
end Go.Proofs.Ytbkhhgaihhbhjaa
/- A heap's Push. -/
namespace Go.Proofs.Ytbkhhgaihhbhjaa
open Go.ChangeShapes Go.WideShapes Go.ChangeAt Go.RowKit Go.Maps Go.MapKept
set_option linter.unusedVariables false
set_option linter.unusedSimpArgs false
set_option maxRecDepth 100000
theorem asInt (x : Int) (w : World) : (Instr.typeAssert (.iface 3 (.int .i64 x)) 20 3 false).run Try.prog w = .ok (.int .i64 x) w := by
  kernel_rfl
section
variable {D h : Nat} {v : Value} {l : List Int} {w w1 : World}
theorem Hq.grown (q : Hq D h v l w) {w2 : World} {v' : Value} {x : Int} (hr : w2.ownsRow D 3 1 v' (l.length + 1) (zcs l ++ [.int .i64 x])) (hg : w.grownBy w2 v.ownBlock) :
    Lc 98 h [v] w2 ∧ Hq D h v' (l ++ [x]) (w2.setCell ⟨h, 0, none⟩ v') ∧ Ff TH D w (w2.setCell ⟨h, 0, none⟩ v') := by
  have hb : Lc 98 h [v] w2 := q.box.fr (fr_grown hg) fun e => row_ne q.row q.box (by decide) e.symm
  have f0 : Ff TH D w w2 := Fr.mono (fr_grown hg) fun k _ e => by
    rcases q.row.2 with ⟨z, _⟩ | ⟨g, c, cur, z, hb, hgg, _⟩
    · rw [z] at e; cases e
    · rw [z] at e; simp only [Value.ownBlock, Option.some.injEq] at e; subst e; exact ⟨hb, _, hgg, .inr rfl⟩
  have f := fr_set h 0 v' w2
  refine ⟨hb, ⟨q.lh, hb.set 0 v', ?_⟩, f0.trans (Ff.on f q.lh hb (.inl rfl))⟩
  have e1 : zcs (l ++ [x]) = zcs l ++ [.int .i64 x] := by simp [zcs]
  unfold Ir
  rw [List.length_append, List.length_singleton, e1]
  exact row_fr hr f fun j hj e => row_ne hr hb (by decide) (by rw [hj, e])
set_option maxHeartbeats 8000000 in
theorem push_any (q : Hw D h l w) (hl : l.length ≤ 1000) (hD : D ≤ w.heap.size) (x : Int) :
    Calls Try.prog 116 #[.pointer (some ⟨h, 0, none⟩), .iface 3 (.int .i64 x)] w fun e w' => e = .returned (.tuple #[]) ∧ Hw D h (l ++ [x]) w' ∧ Ff TH D w w' := by
  obtain ⟨v, q⟩ := q
  obtain ⟨i9, hi9, z0, z1, z2⟩ := info_parts infoInt
  have c0 := q.box.at (j := 0) rfl
  obtain ⟨va, vc, rfl, v1, v2⟩ := q.row.form
  have HF : Hid (∀ w2 v', w2.ownsRow D 3 1 v' (l.length + 1) (zcs l ++ [.int .i64 x]) → (w.alloc (.cells #[.int .i64 x] 3)).drew.grownBy w2 (Value.slice va l.length vc).ownBlock →
      w2.cell? ⟨h, 0, none⟩ = some (.slice va l.length vc) ∧ w2.frozen? ⟨h, 0, none⟩ = false ∧ Hid (∀ k, Hw D h (l ++ [x]) ((w2.setCell ⟨h, 0, none⟩ v').drewN k) ∧ Ff TH D w ((w2.setCell ⟨h, 0, none⟩ v').drewN k))) := fun w2 v' x1 x2 => by
    obtain ⟨r1, r2, r3⟩ := (q.kp (kp_trans (kp_alloc w (.cells #[.int .i64 x] 3)) (kp_drew _))).grown x1 x2
    exact ⟨r1.at (j := 0) rfl, r1.fz 0, fun k => ⟨⟨v', r2.kp (kp_drewN _ _)⟩, ((Ff.kp (kp_trans (kp_alloc _ _) (kp_drew _))).trans r3).trans (Ff.kp (kp_drewN _ _))⟩⟩
  have HR : Hid ((w.alloc (.cells #[.int .i64 x] 3)).drew.ownsRow D 3 1 (.slice va l.length vc) l.length (zcs l)) := row_kp q.row (kp_trans (kp_alloc _ _) (kp_drew _))
  have HN0 : Hid (D ≤ (w.alloc (.cells #[.int .i64 x] 3)).drew.heap.size) := by have := alloc_size w (.cells #[.int .i64 x] 3); show D ≤ (w.alloc (.cells #[.int .i64 x] 3)).heap.size; omega
  have HSZ : Hid ((w.alloc (.cells #[.int .i64 x] 3)).drew.heap.size = w.heap.size + 1) := alloc_size _ _
  have HNW : Hid (∀ j u, ([.int .i64 x] : List Value)[j]? = some u → (w.alloc (.cells #[.int .i64 x] 3)).drew.cell? ((⟨w.heap.size, 0, none⟩ : Addr).add j) = some u) := fun j u hj => by rw [addr_add]; exact ((Lc.new w [.int .i64 x] 3).kp (kp_drew _)).at hj
  have c1 := kp_cell (kp_alloc w (.cells #[.int .i64 x] 3)) c0
  generalize l.length = N at *
  have hty := asInt x
  clear q v1 v2
  go_enter Try.func116, Try.ntmps116
  go_wp2_with fail
  go_region_law (refine step_append_lies _ rfl (.tmp 8) (.tmp 11) 96 rfl D 3 i9 _ 1 8 Try.underlying96 hi9 z0 z1 z2 rfl (by decide) (.slice va N vc) N (zcs l) rfl HR.out ⟨w.heap.size, 0, none⟩ 1 1 [.int .i64 x] rfl rfl HNW.out (by simp [Value.oneCell']) (by omega) (by unfold maxLen; omega) (by omega) HN0.out (w.heap.size + 1) HSZ.out ?_; intro g cp w2 q1 q2 q3 q4; obtain ⟨y1, y2, HE⟩ := HF.out w2 _ q1 q2; clear q1 q2 q3 q4)
  all_goals
    go_wp2_with fail
    go_end0
    exact ⟨rfl, HE.out 0⟩
end
end Go.Proofs.Ytbkhhgaihhbhjaa
/- A heap's up. -/
namespace Go.Proofs.Ytbkhhgaihhbhjaa
open Go.ChangeShapes Go.WideShapes Go.ChangeAt Go.RowKit Go.Maps Go.MapKept
set_option linter.unusedVariables false
set_option linter.unusedSimpArgs false
set_option maxRecDepth 100000
/-- While x goes up from the end of l0: it stands at j. -/
structure Sif (l0 : List Int) (x : Int) (l : List Int) (j : Nat) : Prop where
  len : l.length = l0.length + 1
  at_ : l[j]? = some x
  old : ∀ i y, i ≠ j → l[i]? = some y → y ∈ l0
  all : ∀ y ∈ l0, y ∈ l
  top : j ≠ 0 → l[0]? = l0[0]?
  low : j = 0 → ∀ y ∈ l0, x ≤ y
/-- The first one is the least of them. -/
def Hmin (l : List Int) : Prop := ∀ m, l[0]? = some m → ∀ y ∈ l, m ≤ y
section
variable {l0 l : List Int} {x : Int} {j : Nat}
theorem Sif.start (l0 : List Int) (x : Int) : Sif l0 x (l0 ++ [x]) l0.length := by
  refine ⟨by simp, by simp, fun i y hi h => ?_, fun y hy => by simp [hy], fun hj => ?_, fun hj y hy => ?_⟩
  · have hl := (List.getElem?_eq_some_iff.1 h).1
    simp at hl
    rw [List.getElem?_append_left (by omega)] at h
    exact List.mem_of_getElem? h
  · rw [List.getElem?_append_left (by omega)]
  · rw [List.length_eq_zero_iff.1 hj] at hy; cases hy
theorem Sif.mem (h : Sif l0 x l j) (y : Int) : y ∈ l ↔ y = x ∨ y ∈ l0 := by
  constructor
  · intro hy
    obtain ⟨i, hi⟩ := List.getElem?_of_mem hy
    by_cases q : i = j
    · subst q; rw [h.at_] at hi; cases hi; exact .inl rfl
    · exact .inr (h.old i y q hi)
  · rintro (rfl | hy)
    · exact List.mem_of_getElem? h.at_
    · exact h.all y hy
theorem Sif.top_end (h : Sif l0 x l 0) : Hmin l := fun m hm y hy => by
  rw [h.at_] at hm; cases hm
  rcases (h.mem y).1 hy with rfl | q
  · exact Int.le_refl _
  · exact h.low rfl y q
theorem Sif.mid_end (h : Sif l0 x l j) (hm0 : Hmin l0) (hj : j ≠ 0) {i : Nat} {y : Int} (hi : i ≠ j) (hy : l[i]? = some y) (hn : ¬ x < y) : Hmin l := fun m hm z hz => by
  rw [h.top hj] at hm
  have h1 := hm0 m hm y (h.old i y hi hy)
  rcases (h.mem z).1 hz with rfl | q
  · omega
  · exact hm0 m hm z q
theorem Sif.step (h : Sif l0 x l j) (hm0 : Hmin l0) (hj : j ≠ 0) {i : Nat} {y : Int} (hi : i ≠ j) (hy : l[i]? = some y) (hn : x < y) : Sif l0 x ((l.set i x).set j y) i := by
  have hjl := (List.getElem?_eq_some_iff.1 h.at_).1
  have hil := (List.getElem?_eq_some_iff.1 hy).1
  have g : ∀ k, ((l.set i x).set j y)[k]? = if k = j then some y else if k = i then some x else l[k]? := fun k => by
    by_cases q : k = j
    · subst q; rw [if_pos rfl, List.getElem?_set_self (by rw [List.length_set]; exact hjl)]
    · rw [if_neg q, List.getElem?_set_ne (Ne.symm q)]
      by_cases p : k = i
      · subst p; rw [if_pos rfl, List.getElem?_set_self hil]
      · rw [if_neg p, List.getElem?_set_ne (Ne.symm p)]
  refine ⟨by rw [List.length_set, List.length_set]; exact h.len, by rw [g, if_neg hi, if_pos rfl], fun k z hk hz => ?_, fun z hz => ?_, fun h0 => ?_, fun h0 z hz => ?_⟩
  · rw [g] at hz
    by_cases q : k = j
    · rw [if_pos q] at hz; cases hz; exact h.old i y hi hy
    · rw [if_neg q, if_neg hk] at hz; exact h.old k z q hz
  · obtain ⟨k, hk⟩ := List.getElem?_of_mem (h.all z hz)
    by_cases q : k = j
    · subst q; rw [h.at_] at hk; cases hk
      exact List.mem_of_getElem? (i := i) (by rw [g, if_neg hi, if_pos rfl])
    · by_cases p : k = i
      · subst p; rw [hy] at hk; cases hk
        exact List.mem_of_getElem? (i := j) (by rw [g, if_pos rfl])
      · exact List.mem_of_getElem? (i := k) (by rw [g, if_neg q, if_neg p]; exact hk)
  · rw [g, if_neg (Ne.symm hj), if_neg (Ne.symm h0)]; exact h.top hj
  · subst h0
    rw [h.top hj] at hy
    have := hm0 y hy z hz
    omega
end
section
variable {D h : Nat} {l0 l : List Int} {w w1 : World} {x : Int}
set_option maxHeartbeats 16000000 in
theorem up_heap (q : Hw D h l w) (hl : l.length ≤ 500) (hD : D ≤ w.heap.size) {j : Nat} (hs : Sif l0 x l j) (hm : Hmin l0) :
    Calls Try.prog 73 #[.iface 94 (.pointer (some ⟨h, 0, none⟩)), .int .i64 j] w fun e w' => e = .returned (.tuple #[]) ∧ ∃ l' j', Sif l0 x l' j' ∧ Hmin l' ∧ Hw D h l' w' ∧ Ff TH D w w' := by
  have H0 : Hid (Hw D h l w ∧ Sif l0 x l j ∧ l.length ≤ 500 ∧ D ≤ w.heap.size ∧ Hmin l0) := ⟨q, hs, hl, hD, hm⟩
  have hj : (j : Int) < 500 := by have := (List.getElem?_eq_some_iff.1 hs.at_).1; omega
  clear q hs hl hD hm
  go_enter Try.func73, Try.ntmps73
  go_wp2_with fail
  go_loopw [1] (fun v1 wr => ∃ (j : Nat) (l : List Int), v1 = .int .i64 j ∧ (j : Int) < 500 ∧ Hid (Hw D h l wr ∧ Sif l0 x l j ∧ l.length ≤ 500 ∧ D ≤ wr.heap.size ∧ Hmin l0 ∧ Ff TH D w wr)) (fun v1 _ => (intOf v1).toNat)
  case atStart => exact ⟨j, l, rfl, hj, H0.out.1, H0.out.2.1, H0.out.2.2.1, H0.out.2.2.2.1, H0.out.2.2.2.2, Ff.refl _ _ _⟩
  case round =>
    obtain ⟨j, l, rfl, hj, HI⟩ := hrel
    clear H0
    rcases Nat.eq_zero_or_pos j with p | p
    · subst p
      have HX : Hid (∃ l' j', Sif l0 x l' j' ∧ Hmin l' ∧ Hw D h l' wr ∧ Ff TH D w wr) := ⟨l, 0, HI.out.2.1, HI.out.2.1.top_end, HI.out.1, HI.out.2.2.2.2.2⟩
      clear HI
      go_wp2_with fail
      go_end0
      exact ⟨rfl, HX.out⟩
    · obtain ⟨k, rfl⟩ : ∃ k, j = k + 1 := ⟨j - 1, by omega⟩
      obtain ⟨i, hi⟩ : ∃ i, k / 2 = i := ⟨_, rfl⟩
      have hi2 : (k : Int) / 2 = (i : Int) := by omega
      have d1 : ((i : Int) == (k : Int) + 1) = false := beq_eq_false_iff_ne.2 (by omega)
      have hne : i ≠ k + 1 := by omega
      obtain ⟨v, hq⟩ := HI.out.1
      have c0 := hq.box.at (j := 0) rfl
      have hle := fun n => run_m1 mrow_less n c0
      have hjl := (List.getElem?_eq_some_iff.1 HI.out.2.1.at_).1
      obtain ⟨y, hy⟩ : ∃ y, l[i]? = some y := ⟨_, List.getElem?_eq_getElem (by omega)⟩
      have HL : Hid (Calls Try.prog 114 #[v, .int .i64 ((k : Int) + 1), .int .i64 i] wr fun e w' => e = .returned (.bool (decide (x < y))) ∧ ∃ k, w' = wr.drewN k) := less_any hq.row (by have := HI.out.2.2.1; omega) HI.out.2.1.at_ hy
      have HQ : Hid (Hq D h v l wr ∧ l[i]? = some y ∧ i ≠ k + 1) := ⟨hq, hy, hne⟩
      clear hq hy c0 hi hne hjl
      by_cases hxy : x < y
      · have d2 : decide (x < y) = true := decide_eq_true hxy
        have HX : Hid (∀ z, Kp wr z → Hid ((∀ n, (method (n + 1) 94 (.pointer (some ⟨h, 0, none⟩)) "Swap").run Try.prog z = .ok (118, v) z) ∧ Calls Try.prog 118 #[v, .int .i64 i, .int .i64 ((k : Int) + 1)] z fun e w' => e = .returned (.tuple #[]) ∧ Hw D h ((l.set i x).set (k + 1) y) w' ∧ Sif l0 x ((l.set i x).set (k + 1) y) i ∧ ((l.set i x).set (k + 1) y).length ≤ 500 ∧ D ≤ w'.heap.size ∧ Hmin l0 ∧ Ff TH D w w')) := fun z kz => by
          have hq := HQ.out.1.kp kz
          refine ⟨fun n => run_m1 mrow_swap n (hq.box.at (j := 0) rfl), (swap_any hq.row (by have := HI.out.2.2.1; omega) HQ.out.2.1 HI.out.2.1.at_).mono ?_⟩
          rintro e w' ⟨rfl, r1, r2, r3⟩
          exact ⟨rfl, ⟨v, hq.lh, r3 _ _ hq.box, r1⟩, HI.out.2.1.step HI.out.2.2.2.2.1 (by omega) HQ.out.2.2 HQ.out.2.1 hxy, by rw [List.length_set, List.length_set]; exact HI.out.2.2.1, Nat.le_trans (Nat.le_trans HI.out.2.2.2.1 kz.size) r2.size, HI.out.2.2.2.2.1, (HI.out.2.2.2.2.2.trans (Ff.kp kz)).trans r2⟩
        clear HI
        go_wp2_with fail
        refine Calls.mono HL.out ?_
        rintro e w' ⟨rfl, n, rfl⟩
        clear HL hle
        obtain ⟨hsw, hSW⟩ := (HX.out _ (kp_drewN wr n)).out
        have HS : Hid _ := hSW
        clear hSW HX HQ hxy
        go_wp2_with fail
        refine Calls.mono HS.out ?_
        rintro e w2 ⟨rfl, r⟩
        have HR : Hid _ := r
        clear HS r hsw
        go_wp2_with fail
        go_roundw
        case rel => exact ⟨i, _, rfl, by omega, HR.out⟩
        case measure => simp only [intOf]; omega
      · have d2 : decide (x < y) = false := decide_eq_false hxy
        have HX : Hid (∃ l' j', Sif l0 x l' j' ∧ Hmin l' ∧ Hw D h l' wr ∧ Ff TH D w wr) := ⟨l, k + 1, HI.out.2.1, HI.out.2.1.mid_end HI.out.2.2.2.2.1 (by omega) HQ.out.2.2 HQ.out.2.1 hxy, HI.out.1, HI.out.2.2.2.2.2⟩
        clear HI HQ hxy
        go_wp2_with fail
        refine Calls.mono HL.out ?_
        rintro e w' ⟨rfl, n, rfl⟩
        clear HL
        go_wp2_with fail
        go_end0
        obtain ⟨l', j', x1, x2, x3, x4⟩ := HX.out
        exact ⟨rfl, l', j', x1, x2, x3.kp (kp_drewN _ _), x4.trans (Ff.kp (kp_drewN _ _))⟩
end
end Go.Proofs.Ytbkhhgaihhbhjaa
/- heap.Push, heap.down, heap.Pop. -/
namespace Go.Proofs.Ytbkhhgaihhbhjaa
open Go.ChangeShapes Go.WideShapes Go.ChangeAt Go.RowKit Go.Maps Go.MapKept
set_option linter.unusedVariables false
set_option linter.unusedSimpArgs false
set_option maxRecDepth 100000
section
variable {D h : Nat} {v : Value} {l0 l : List Int} {w w1 : World} {x : Int}
theorem Hq.less (q : Hq D h v l w) (hl : l.length ≤ 500) {a b : Nat} {x y : Int} (ha : l[a]? = some x) (hb : l[b]? = some y) {z : World} (k : Kp w z) :
    (∀ n, (method (n + 1) 94 (.pointer (some ⟨h, 0, none⟩)) "Less").run Try.prog z = .ok (114, v) z) ∧ Calls Try.prog 114 #[v, .int .i64 a, .int .i64 b] z fun e w' => e = .returned (.bool (decide (x < y))) ∧ ∃ k, w' = z.drewN k :=
  ⟨fun n => run_m1 mrow_less n ((q.kp k).box.at (j := 0) rfl), less_any (q.kp k).row (by omega) ha hb⟩
theorem Hq.swap (q : Hq D h v l w) (hl : l.length ≤ 500) {a b : Nat} {x y : Int} (ha : l[a]? = some x) (hb : l[b]? = some y) {z : World} (k : Kp w z) :
    (∀ n, (method (n + 1) 94 (.pointer (some ⟨h, 0, none⟩)) "Swap").run Try.prog z = .ok (118, v) z) ∧ Calls Try.prog 118 #[v, .int .i64 a, .int .i64 b] z fun e w' => e = .returned (.tuple #[]) ∧ Hw D h ((l.set a y).set b x) w' ∧ Ff TH D w w' := by
  refine ⟨fun n => run_m1 mrow_swap n ((q.kp k).box.at (j := 0) rfl), (swap_any (q.kp k).row (by omega) ha hb).mono ?_⟩
  rintro e w' ⟨rfl, r1, r2, r3⟩
  exact ⟨rfl, ⟨v, q.lh, r3 _ _ (q.kp k).box, r1⟩, (Ff.kp k).trans r2⟩
set_option maxHeartbeats 8000000 in
theorem pushH_any (q : Hw D h l w) (hl : l.length ≤ 400) (hD : D ≤ w.heap.size) (hm : Hmin l) (x : Int) :
    Calls Try.prog 65 #[.iface 94 (.pointer (some ⟨h, 0, none⟩)), .iface 3 (.int .i64 x)] w fun e w' => e = .returned (.tuple #[]) ∧ ∃ l', Hw D h l' w' ∧ Hmin l' ∧ l'.length = l.length + 1 ∧ (∀ y, y ∈ l' ↔ y = x ∨ y ∈ l) ∧ Ff TH D w w' := by
  have hpu := fun n => run_m0 mrow_push n ⟨h, 0, none⟩ w
  have HP : Hid _ := push_any q (by omega) hD x
  have HD : Hid (D ≤ w.heap.size ∧ l.length ≤ 400 ∧ Hmin l) := ⟨hD, hl, hm⟩
  clear q hl hD hm
  go_enter Try.func65, Try.ntmps65
  go_wp2_with fail
  refine Calls.mono HP.out ?_
  rintro e w1 ⟨rfl, ⟨v1, q1⟩, f1⟩
  obtain ⟨a1, c1, rfl, _⟩ := q1.row.form
  obtain ⟨N, hN⟩ : ∃ N, l.length = N := ⟨_, rfl⟩
  have e1 : (l ++ [x]).length = N + 1 := by rw [List.length_append, hN]; rfl
  have HU : Hid (Calls Try.prog 73 #[.iface 94 (.pointer (some ⟨h, 0, none⟩)), .int .i64 N] w1 fun e w' => e = .returned (.tuple #[]) ∧ ∃ l', Hw D h l' w' ∧ Hmin l' ∧ l'.length = N + 1 ∧ (∀ y, y ∈ l' ↔ y = x ∨ y ∈ l) ∧ Ff TH D w w') := by
    rw [← hN]
    refine (up_heap ⟨_, q1⟩ (by rw [e1]; have := HD.out; omega) (Nat.le_trans HD.out.1 f1.size) (Sif.start l x) HD.out.2.2).mono ?_
    rintro e w' ⟨rfl, l', j', r1, r2, r3, r4⟩
    exact ⟨rfl, l', r3, r2, r1.len, r1.mem, f1.trans r4⟩
  have hNI : (N : Int) ≤ 400 := by have := HD.out.2.1; omega
  have hle := fun n => run_m1 mrow_len n (q1.box.at (j := 0) rfl)
  rw [e1] at hle
  have HLen : Hid _ := len_any a1 (N + 1) c1 w1
  clear HP hpu q1 f1
  go_wp2_with fail
  refine Calls.mono HLen.out ?_
  rintro e w2 ⟨rfl, rfl⟩
  clear HLen hle
  go_wp2_with fail
  refine Calls.mono HU.out ?_
  rintro e w2 ⟨rfl, r⟩
  have HR : Hid _ := r
  clear HU r
  go_wp2_with fail
  go_end0
  obtain ⟨l', r1, r2, r3, r4, r5⟩ := HR.out
  exact ⟨rfl, l', r1, r2, by rw [r3, hN], r4, r5⟩
set_option maxHeartbeats 8000000 in
theorem pop_any (q : Hw D h l w) (hl : l.length ≤ 500) {n : Nat} (hn : l.length = n + 1) {z : Int} (hz : l[n]? = some z) :
    Calls Try.prog 115 #[.pointer (some ⟨h, 0, none⟩)] w fun e w' => e = .returned (.iface 3 (.int .i64 z)) ∧ Ff TH D w w' := by
  obtain ⟨v, q⟩ := q
  have c0 := q.box.at (j := 0) rfl
  have f0 := q.box.fz 0
  obtain ⟨g, c, hv, hDg, hc1, hc2, hcl, hfz⟩ := ir_cells q.row (by rintro rfl; cases hz)
  subst hv
  have c1 := hcl _ _ hz
  have HF : Hid (∀ u, Ff TH D w (w.setCell ⟨h, 0, none⟩ u)) := fun u => Ff.on (fr_set h 0 u w) q.lh q.box (.inl rfl)
  have hc : n ≤ c := by omega
  have hcI : (n : Int) ≤ (c : Int) := by omega
  unfold maxLen at hc2
  have HLen : Hid _ := len_any (some ⟨g, 0, none⟩) (n + 1) c w
  rw [hn] at c0
  clear q hcl hfz hz hn hl hc1
  go_enter Try.func115, Try.ntmps115
  go_wp2_with fail
  refine Calls.mono HLen.out ?_
  rintro e w2 ⟨rfl, rfl⟩
  clear HLen
  go_wp2_with fail
  go_ret
  exact ⟨rfl, HF.out _⟩
end
end Go.Proofs.Ytbkhhgaihhbhjaa
/- heap.down. -/
namespace Go.Proofs.Ytbkhhgaihhbhjaa
open Go.ChangeShapes Go.WideShapes Go.ChangeAt Go.RowKit Go.Maps Go.MapKept
set_option linter.unusedVariables false
set_option linter.unusedSimpArgs false
set_option maxRecDepth 100000
section
variable {D h : Nat} {v : Value} {l0 l : List Int} {w w1 : World} {x : Int}
/-- While one goes down. -/
def Dwn (D h n i len : Nat) (lst : Option Int) (w wr : World) : Prop := ∃ l v, Hq D h v l wr ∧ l.length = len ∧ l[n]? = lst ∧ Ff TH D w wr
theorem Dwn.swap {n i j len : Nat} {lst : Option Int} {wr wz : World} (hq : Hq D h v l wr) (hlen : l.length = len) (hl : len ≤ 500) (hlst : l[n]? = lst) (f : Ff TH D w wr) {x y : Int} (hi : l[i]? = some x) (hj : l[j]? = some y) (hin : i < n) (hjn : j < n) (k : Kp wr wz) :
    (∀ n, (method (n + 1) 94 (.pointer (some ⟨h, 0, none⟩)) "Swap").run Try.prog wz = .ok (118, v) wz) ∧ Calls Try.prog 118 #[v, .int .i64 i, .int .i64 j] wz fun e w' => e = .returned (.tuple #[]) ∧ Dwn D h n j len lst w w' := by
  obtain ⟨h1, h2⟩ := hq.swap (by omega) hi hj k
  refine ⟨h1, h2.mono ?_⟩
  rintro e w' ⟨rfl, ⟨v', q'⟩, f'⟩
  exact ⟨rfl, _, v', q', by rw [List.length_set, List.length_set]; exact hlen, by rw [List.getElem?_set_ne (by omega), List.getElem?_set_ne (by omega)]; exact hlst, f.trans f'⟩
set_option maxHeartbeats 32000000 in
theorem down_heap (q : Hw D h l w) (hl : l.length ≤ 500) {n : Nat} (hn : n < l.length) :
    Calls Try.prog 67 #[.iface 94 (.pointer (some ⟨h, 0, none⟩)), .int .i64 0, .int .i64 n] w fun e w' => ∃ b l', e = .returned (.bool b) ∧ Hw D h l' w' ∧ l'.length = l.length ∧ l'[n]? = l[n]? ∧ Ff TH D w w' := by
  have H0 : Hid (Dwn D h n 0 l.length l[n]? w w) := by obtain ⟨v, q⟩ := q; exact ⟨l, v, q, rfl, rfl, Ff.refl _ _ _⟩
  have HB : Hid (l.length ≤ 500 ∧ n < l.length) := ⟨hl, hn⟩
  have hnI : (n : Int) < 500 := by omega
  clear q hl hn
  go_enter Try.func67, Try.ntmps67
  go_wp2_with fail
  go_loopw [7] (fun v7 wr => ∃ (i : Nat), v7 = .int .i64 i ∧ i ≤ n ∧ Hid (Dwn D h n i l.length l[n]? w wr)) (fun v7 _ => n - (intOf v7).toNat)
  case atStart => exact ⟨0, rfl, Nat.zero_le _, H0.out⟩
  case round =>
    obtain ⟨i, rfl, hi, HI⟩ := hrel
    clear H0
    obtain ⟨l1, v, hq, hlen, hlst, hff⟩ := HI.out
    have HQ : Hid (Hq D h v l1 wr ∧ l1.length = l.length ∧ l1[n]? = l[n]? ∧ Ff TH D w wr) := ⟨hq, hlen, hlst, hff⟩
    have HEND : Hid (∀ k, Hw D h l1 (wr.drewN k) ∧ l1.length = l.length ∧ l1[n]? = l[n]? ∧ Ff TH D w (wr.drewN k)) := fun k => ⟨⟨v, hq.kp (kp_drewN _ _)⟩, hlen, hlst, hff.trans (Ff.kp (kp_drewN _ _))⟩
    obtain ⟨c, hc⟩ : ∃ c, c = 2 * i + 1 := ⟨_, rfl⟩
    have u1 : 2 * (i : Int) + 1 = (c : Int) := by omega
    have HC : Hid (c = 2 * i + 1) := hc
    clear hq hlen hlst hff HI hc
    by_cases p : n ≤ c
    · have d1 : decide ((c : Int) ≥ (n : Int)) = true := decide_eq_true (by omega)
      have d2 : decide ((n : Int) ≤ (c : Int)) = true := decide_eq_true (by omega)
      have d3 : decide (n ≤ c) = true := decide_eq_true p
      clear HQ
      go_wp2_with fail
      go_ret
      exact ⟨_, l1, rfl, HEND.out 0⟩
    · have d1 : decide ((c : Int) ≥ (n : Int)) = false := decide_eq_false (by omega)
      have d2 : decide ((n : Int) ≤ (c : Int)) = false := decide_eq_false (by omega)
      have d3 : decide (n ≤ c) = false := decide_eq_false p
      have d4 : decide ((c : Int) < 0) = false := decide_eq_false (by omega)
      obtain ⟨z, hz⟩ : ∃ z, c + 1 = z := ⟨_, rfl⟩
      have u2 : (c : Int) + 1 = (z : Int) := by omega
      have HZ : Hid (c + 1 = z) := hz
      have HLT : Hid (n < l1.length ∧ l1.length ≤ 500) := by rw [HQ.out.2.1]; exact ⟨HB.out.2, HB.out.1⟩
      obtain ⟨yi, hyi⟩ : ∃ y, l1[i]? = some y := ⟨_, List.getElem?_eq_getElem (by have := HC.out; have := HLT.out; omega)⟩
      obtain ⟨yc, hyc⟩ : ∃ y, l1[c]? = some y := ⟨_, List.getElem?_eq_getElem (by have := HLT.out; omega)⟩
      have HY : Hid (l1[i]? = some yi ∧ l1[c]? = some yc) := ⟨hyi, hyc⟩
      have HR : Hid (∀ (j : Nat) (x y : Int) (m : Nat), l1[i]? = some x → l1[j]? = some y → i < n → j < n → Hid ((∀ n, (method (n + 1) 94 (.pointer (some ⟨h, 0, none⟩)) "Swap").run Try.prog (wr.drewN m) = .ok (118, v) (wr.drewN m)) ∧ Calls Try.prog 118 #[v, .int .i64 i, .int .i64 j] (wr.drewN m) fun e w' => e = .returned (.tuple #[]) ∧ Dwn D h n j l.length l[n]? w w')) := fun j x y m h1 h2 h3 h4 => Dwn.swap HQ.out.1 HQ.out.2.1 HB.out.1 HQ.out.2.2.1 HQ.out.2.2.2 h1 h2 h3 h4 (kp_drewN _ _)
      have HLS : Hid (∀ (a b : Nat) (x y : Int) (m : Nat), l1[a]? = some x → l1[b]? = some y → Hid ((∀ n, (method (n + 1) 94 (.pointer (some ⟨h, 0, none⟩)) "Less").run Try.prog (wr.drewN m) = .ok (114, v) (wr.drewN m)) ∧ Calls Try.prog 114 #[v, .int .i64 a, .int .i64 b] (wr.drewN m) fun e w' => e = .returned (.bool (decide (x < y))) ∧ ∃ k, w' = wr.drewN k)) := fun a b x y m h1 h2 => by
        obtain ⟨g1, g2⟩ := HQ.out.1.less HLT.out.2 h1 h2 (kp_drewN wr m)
        refine ⟨g1, g2.mono ?_⟩
        rintro e w' ⟨rfl, k, rfl⟩
        exact ⟨rfl, m + k, by rw [drew2]⟩
      clear hz hyi hyc HQ
      by_cases p2 : z < n
      · have b1 : decide ((z : Int) < (n : Int)) = true := decide_eq_true (by omega)
        have b2 : decide (z < n) = true := decide_eq_true p2
        obtain ⟨yz, hyz⟩ : ∃ y, l1[z]? = some y := ⟨_, List.getElem?_eq_getElem (by have := HLT.out; omega)⟩
        have HYZ : Hid (l1[z]? = some yz) := hyz
        obtain ⟨hl1, HL1⟩ := (HLS.out z c yz yc 0 hyz HY.out.2).out
        change ∀ n, (method (n + 1) 94 (.pointer (some ⟨h, 0, none⟩)) "Less").run Try.prog wr = .ok (114, v) wr at hl1
        have HL1' : Hid (Calls Try.prog 114 #[v, .int .i64 z, .int .i64 c] wr fun e w' => e = .returned (.bool (decide (yz < yc))) ∧ ∃ k, w' = wr.drewN k) := HL1
        clear hyz HL1
        by_cases p3 : yz < yc
        · have b3 : decide (yz < yc) = true := decide_eq_true p3
          clear p3
          go_wp2_with fail
          refine Calls.mono HL1'.out ?_
          rintro e w' ⟨rfl, m, rfl⟩
          clear HL1' hl1
          obtain ⟨hl3, HL3⟩ := (HLS.out z i yz yi m (HYZ.out) HY.out.1).out
          have HL3' : Hid _ := HL3
          have HLTi : Hid (z < n ∧ i < n ∧ i < z) := ⟨p2, by have := HC.out; omega, by have := HC.out; have := HZ.out; omega⟩
          clear HL3
          by_cases p5 : yz < yi
          · have b5 : decide (yz < yi) = true := decide_eq_true p5
            clear p5 HEND
            go_wp2_with fail
            refine Calls.mono HL3'.out ?_
            rintro e w' ⟨rfl, m5, rfl⟩
            clear HL3' hl3 HLS
            obtain ⟨hs5, HS5⟩ := (HR.out z yi yz m5 HY.out.1 (HYZ.out) HLTi.out.2.1 HLTi.out.1).out
            have HS : Hid _ := HS5
            clear HS5
            go_wp2_with fail
            refine Calls.mono HS.out ?_
            rintro e w6 ⟨rfl, r⟩
            have HX : Hid _ := r
            clear HS hs5 r HR
            go_wp2_with fail
            go_roundw
            case rel => exact ⟨z, rfl, by have := HLTi.out; omega, HX.out⟩
            case measure => have := HLTi.out; simp only [intOf]; omega
          · have b5 : decide (yz < yi) = false := decide_eq_false p5
            clear p5 HR
            go_wp2_with fail
            refine Calls.mono HL3'.out ?_
            rintro e w' ⟨rfl, m5, rfl⟩
            clear HL3' hl3 HLS
            go_wp2_with fail
            go_ret
            exact ⟨_, l1, rfl, HEND.out _⟩
        · have b3 : decide (yz < yc) = false := decide_eq_false p3
          clear p3
          go_wp2_with fail
          refine Calls.mono HL1'.out ?_
          rintro e w' ⟨rfl, m, rfl⟩
          clear HL1' hl1
          obtain ⟨hl3, HL3⟩ := (HLS.out c i yc yi m (HY.out.2) HY.out.1).out
          have HL3' : Hid _ := HL3
          have HLTi : Hid (c < n ∧ i < n ∧ i < c) := ⟨(by omega), by have := HC.out; omega, by have := HC.out; have := HZ.out; omega⟩
          clear HL3
          by_cases p5 : yc < yi
          · have b5 : decide (yc < yi) = true := decide_eq_true p5
            clear p5 HEND
            go_wp2_with fail
            refine Calls.mono HL3'.out ?_
            rintro e w' ⟨rfl, m5, rfl⟩
            clear HL3' hl3 HLS
            obtain ⟨hs5, HS5⟩ := (HR.out c yi yc m5 HY.out.1 (HY.out.2) HLTi.out.2.1 HLTi.out.1).out
            have HS : Hid _ := HS5
            clear HS5
            go_wp2_with fail
            refine Calls.mono HS.out ?_
            rintro e w6 ⟨rfl, r⟩
            have HX : Hid _ := r
            clear HS hs5 r HR
            go_wp2_with fail
            go_roundw
            case rel => exact ⟨c, rfl, by have := HLTi.out; omega, HX.out⟩
            case measure => have := HLTi.out; simp only [intOf]; omega
          · have b5 : decide (yc < yi) = false := decide_eq_false p5
            clear p5 HR
            go_wp2_with fail
            refine Calls.mono HL3'.out ?_
            rintro e w' ⟨rfl, m5, rfl⟩
            clear HL3' hl3 HLS
            go_wp2_with fail
            go_ret
            exact ⟨_, l1, rfl, HEND.out _⟩
      · have b1 : decide ((z : Int) < (n : Int)) = false := decide_eq_false (by omega)
        have b2 : decide (z < n) = false := decide_eq_false p2
        obtain ⟨hl3, HL3⟩ := (HLS.out c i yc yi 0 (HY.out.2) HY.out.1).out
        change ∀ n, (method (n + 1) 94 (.pointer (some ⟨h, 0, none⟩)) "Less").run Try.prog wr = .ok (114, v) wr at hl3
        have HL3' : Hid (Calls Try.prog 114 #[v, .int .i64 c, .int .i64 i] wr fun e w' => e = .returned (.bool (decide (yc < yi))) ∧ ∃ k, w' = wr.drewN k) := HL3
        have HLTi : Hid (c < n ∧ i < n ∧ i < c) := ⟨(by omega), by have := HC.out; omega, by have := HC.out; have := HZ.out; omega⟩
        clear HL3
        by_cases p5 : yc < yi
        · have b5 : decide (yc < yi) = true := decide_eq_true p5
          clear p5 HEND
          go_wp2_with fail
          refine Calls.mono HL3'.out ?_
          rintro e w' ⟨rfl, m5, rfl⟩
          clear HL3' hl3 HLS
          obtain ⟨hs5, HS5⟩ := (HR.out c yi yc m5 HY.out.1 (HY.out.2) HLTi.out.2.1 HLTi.out.1).out
          have HS : Hid _ := HS5
          clear HS5
          go_wp2_with fail
          refine Calls.mono HS.out ?_
          rintro e w6 ⟨rfl, r⟩
          have HX : Hid _ := r
          clear HS hs5 r HR
          go_wp2_with fail
          go_roundw
          case rel => exact ⟨c, rfl, by have := HLTi.out; omega, HX.out⟩
          case measure => have := HLTi.out; simp only [intOf]; omega
        · have b5 : decide (yc < yi) = false := decide_eq_false p5
          clear p5 HR
          go_wp2_with fail
          refine Calls.mono HL3'.out ?_
          rintro e w' ⟨rfl, m5, rfl⟩
          clear HL3' hl3 HLS
          go_wp2_with fail
          go_ret
          exact ⟨_, l1, rfl, HEND.out _⟩

end
end Go.Proofs.Ytbkhhgaihhbhjaa
/- heap.Pop. -/
namespace Go.Proofs.Ytbkhhgaihhbhjaa
open Go.ChangeShapes Go.WideShapes Go.ChangeAt Go.RowKit Go.Maps Go.MapKept
set_option linter.unusedVariables false
set_option linter.unusedSimpArgs false
set_option maxRecDepth 100000
section
variable {D h : Nat} {v : Value} {l0 l : List Int} {w w1 : World} {x : Int}
set_option maxHeartbeats 8000000 in
theorem popH_any (q : Hw D h l w) (hl : l.length ≤ 500) {n : Nat} (hn : l.length = n + 1) {m : Int} (hm : l[0]? = some m) :
    Calls Try.prog 56 #[.iface 94 (.pointer (some ⟨h, 0, none⟩))] w fun e w' => e = .returned (.iface 3 (.int .i64 m)) ∧ Ff TH D w w' := by
  obtain ⟨v, q⟩ := q
  obtain ⟨z, hz⟩ : ∃ z, l[n]? = some z := ⟨_, List.getElem?_eq_getElem (by omega)⟩
  obtain ⟨hs, HS⟩ := q.swap hl hm hz (Below.refl _ _)
  have hle := fun n => run_m1 mrow_len n (q.box.at (j := 0) rfl)
  obtain ⟨a1, c1, rfl, _⟩ := q.row.form
  have HLen : Hid _ := len_any a1 (n + 1) c1 w
  have hg : ((l.set 0 z).set n m)[n]? = some m := by rw [List.getElem?_set_self (by rw [List.length_set]; omega)]
  have H1 : Hid (Calls Try.prog 118 #[.slice a1 (n + 1) c1, .int .i64 0, .int .i64 n] w fun e w' => e = .returned (.tuple #[]) ∧ Hid (Ff TH D w w' ∧ Calls Try.prog 67 #[.iface 94 (.pointer (some ⟨h, 0, none⟩)), .int .i64 0, .int .i64 n] w' fun e w2 => ∃ b, e = .returned (.bool b) ∧ Hid (Ff TH D w w2 ∧ Calls Try.prog 115 #[.pointer (some ⟨h, 0, none⟩)] w2 fun e w3 => e = .returned (.iface 3 (.int .i64 m)) ∧ Ff TH D w w3))) := by
    rw [hn] at HS
    refine HS.mono ?_
    rintro e w' ⟨rfl, r1, r2⟩
    refine ⟨rfl, r2, (down_heap r1 (by rw [List.length_set, List.length_set]; exact hl) (n := n) (by rw [List.length_set, List.length_set]; omega)).mono ?_⟩
    rintro e w2 ⟨b, l', rfl, p1, p2, p3, p4⟩
    refine ⟨b, rfl, r2.trans p4, (pop_any p1 (by rw [p2, List.length_set, List.length_set]; exact hl) (n := n) (by rw [p2, List.length_set, List.length_set]; exact hn) (z := m) (by rw [p3]; exact hg)).mono ?_⟩
    rintro e w3 ⟨rfl, s1⟩
    exact ⟨rfl, (r2.trans p4).trans s1⟩
  rw [hn] at hs hle
  have hnI : (n : Int) ≤ 500 := by omega
  have hpo := fun n (w2 : World) => run_m0 mrow_pop n ⟨h, 0, none⟩ w2
  clear HS q hz hg
  go_enter Try.func56, Try.ntmps56
  go_wp2_with fail
  refine Calls.mono HLen.out ?_
  rintro e w2 ⟨rfl, rfl⟩
  clear HLen hle
  go_wp2_with fail
  refine Calls.mono H1.out ?_
  rintro e w2 ⟨rfl, H2⟩
  have H3 : Hid _ := H2.out.2
  clear H1 H2 hs
  go_wp2_with fail
  refine Calls.mono H3.out ?_
  rintro e w3 ⟨b, rfl, H4⟩
  have H5 : Hid _ := H4.out.2
  clear H3 H4
  go_wp2_with fail
  refine Calls.mono H5.out ?_
  rintro e w4 ⟨rfl, H6⟩
  have H7 : Hid _ := H6
  clear H5 H6
  go_wp2_with fail
  go_ret
  exact ⟨rfl, H7.out⟩
end
end Go.Proofs.Ytbkhhgaihhbhjaa
/- newest, bare: what a range over all states gathers. -/
namespace Go.Proofs.Ytbkhhgaihhbhjaa
open Go.ChangeShapes Go.WideShapes Go.ChangeAt Go.RowKit Go.Maps Go.MapKept
set_option linter.unusedVariables false
set_option linter.unusedSimpArgs false
set_option maxRecDepth 100000
/-- The greatest of those that came by. -/
def Nst (L : List St) (left : Int → Bool) (fr f : Int) : Prop := (∀ y s, look L y = some s → left y = false → s.fr = fr → y ≤ f) ∧ (f = -1 ∨ ∃ s, look L f = some s ∧ s.fr = fr)
/-- From this one none was made, and it is not the one that is. -/
def Bare (m : Tr) (y : Int) : Prop := ∃ s, look m.L y = some s ∧ s.on = -1 ∧ y ≠ m.now
section
variable {B C t b : Nat} {q : Int → Nat} {m : Tr} {w w1 : World} {next : Int}
theorem Nst.end_ {L : List St} {left : Int → Bool} {fr f : Int} (h : Nst L left fr f) (hl : ∀ x, left x = false) (hs : (L.map St.seq).Pairwise (· < ·)) (F : ∀ y s, look L y = some s → 0 ≤ y) : f = newest L fr := by
  rcases newest_cases hs fr with ⟨e, h1⟩ | ⟨s, h1, h2, h3⟩
  · rw [e]
    rcases h.2 with q | ⟨s, q1, q2⟩
    · exact q
    · exact absurd q2 (h1 _ _ q1)
  · have g1 := h.1 _ _ h1 (hl _) h2
    have g2 := F _ _ h1
    rcases h.2 with q | ⟨s', q1, q2⟩
    · omega
    · have := h3 _ _ q1 q2; omega
theorem Nst.start (L : List St) {left : Int → Bool} (fr : Int) (hl : ∀ y, look L y ≠ none → left y = true) : Nst L left fr (-1) := ⟨fun y s h q _ => absurd q (by rw [hl y (by rw [h]; simp)]; simp), .inl rfl⟩
theorem Nst.step {L : List St} {left : Int → Bool} {fr f y : Int} {s : St} (h : Nst L left fr f) (hy : look L y = some s) :
    Nst L (fun z => left z && !decide (z = y)) fr (if s.fr = fr then max f y else f) := by
  constructor
  · intro z u hz hl hf
    simp only [Bool.and_eq_false_iff, Bool.not_eq_false', decide_eq_true_eq] at hl
    rcases hl with q | rfl
    · have := h.1 z u hz q hf
      split <;> omega
    · rw [hy] at hz; cases hz
      rw [if_pos hf]; omega
  · split
    · rename_i e
      rcases Int.le_total f y with p | p
      · rw [Int.max_eq_right p]; exact .inr ⟨s, hy, e⟩
      · rw [Int.max_eq_left p]; exact h.2
    · exact h.2
theorem ptr_some {L : List St} {q : Int → Nat} {y : Int} {v : Value} (h : ptrs L q y = some v) : ∃ s, look L y = some s ∧ v = .pointer (some ⟨q y, 0, none⟩) := by
  unfold ptrs at h
  obtain ⟨s, h1, h2⟩ := Option.map_eq_some_iff.1 h
  exact ⟨s, h1, h2.symm⟩
set_option maxHeartbeats 16000000 in
theorem newest_any (h : Tw B C t m w) (F : ∀ y s, look m.L y = some s → 0 ≤ y) (hs : (m.L.map St.seq).Pairwise (· < ·)) (fr : Int) :
    Calls Try.prog 66 #[.pointer (some ⟨t, 0, none⟩), .int .i64 fr] w fun e w' => e = .returned (.int .i64 (newest m.L fr)) ∧ Kp w w' := by
  obtain ⟨b, q, h⟩ := h
  have c0 := h.box.at (j := 0) rfl
  have hm := h.map
  have HH : Hid (Tb B C t b q m w ∧ (∀ y s, look m.L y = some s → 0 ≤ y) ∧ (m.L.map St.seq).Pairwise (· < ·)) := ⟨h, F, hs⟩
  clear h F hs
  go_enter Try.func66, Try.ntmps66
  go_wp2_with (first | (at_range; refine wpl_range rfl _ 70 67 rfl Try.underlying70 rfl hm ?_; intro w0 n0 hr0 hk0 hs0) | go_in)
  go_frame
  have G0 : Hid (Rgg b w.heap.size (ptrs m.L q) (fun x => (ptrs m.L q x).isSome) n0 w0 ∧ Kp w w0) := ⟨hr0, hk0⟩
  clear hr0 hk0 hs0 c0 hm
  go_loopw [5] (fun v5 wr => ∃ (f : Int) (left : Int → Bool) (c : Nat), v5 = .int .i64 f ∧ Hid (Rgg b w.heap.size (ptrs m.L q) left c wr ∧ Kp w wr ∧ Nst m.L left fr f)) (fun _ wr => wr.rangeLeft b w.heap.size)
  case atStart =>
    refine ⟨-1, _, n0, rfl, G0.out.1, G0.out.2, Nst.start _ _ fun y hy => ?_⟩
    obtain ⟨s, hs⟩ := Option.ne_none_iff_exists'.1 hy
    unfold ptrs; rw [hs]; rfl
  case round =>
    obtain ⟨f, left, c, rfl, HG⟩ := hrel
    clear G0
    have hrg := HG.out.1
    go_wp2_with (first | (at_next; refine wpl_next rfl _ rfl rfl hrg ?_ ?_) | go_in)
    · intro hl
      have HE : Hid (newest m.L fr = f ∧ Kp w wr) := ⟨(HG.out.2.2.end_ hl HH.out.2.2 HH.out.2.1).symm, HG.out.2.1⟩
      clear hl hrg HG
      go_wp2
      go_ret
      exact ⟨by rw [HE.out.1]; rfl, HE.out.2⟩
    · intro y v w2 c2 y0 y1 hly hy hr2 hlt2 hf2 hs2 hen
      obtain ⟨s, hls, rfl⟩ := ptr_some hy
      have k2 : Kp w w2 := HG.out.2.1.trans (hf2.below HG.out.2.1.size fun k hk e => by unfold On at e; omega)
      obtain ⟨hp, u, hb, _⟩ := HH.out.1.st y s hls
      have p0 := (hb.kp k2).at (j := 0) rfl
      have HN : Hid (Rgg b w.heap.size (ptrs m.L q) (fun z => left z && !decide (z = y)) c2 w2 ∧ Kp w w2 ∧ Nst m.L (fun z => left z && !decide (z = y)) fr (if s.fr = fr then max f y else f)) := ⟨hr2, k2, HG.out.2.2.step hls⟩
      have HME : Hid (w2.rangeLeft b w.heap.size < wr.rangeLeft b w.heap.size) := by rw [hr2.left_eq, hrg.left_eq]; exact hlt2
      clear hrg HG hly hy hr2 hlt2 hf2 hs2 hls hb hp k2
      by_cases e : s.fr = fr
      · have d1 : (s.fr == fr) = true := by simpa using e
        rw [if_pos e] at HN
        clear e
        go_wp2_with fail
        go_roundw
        case rel => exact ⟨max f y, _, c2, rfl, HN.out⟩
        case measure => exact HME.out
      · have d1 : (s.fr == fr) = false := by simpa using e
        rw [if_neg e] at HN
        clear e
        go_wp2_with fail
        go_roundw
        case rel => exact ⟨f, _, c2, rfl, HN.out⟩
        case measure => exact HME.out
end
end Go.Proofs.Ytbkhhgaihhbhjaa
/- bare: a heap of those that may go. -/
namespace Go.Proofs.Ytbkhhgaihhbhjaa
open Go.ChangeShapes Go.WideShapes Go.ChangeAt Go.RowKit Go.Maps Go.MapKept
set_option linter.unusedVariables false
set_option linter.unusedSimpArgs false
set_option maxRecDepth 100000
theorem Rgg.ff {b r c : Nat} {f : Int → Option Value} {left : Int → Bool} {w w1 : World} {D : Nat} (h : Rgg b r f left c w) (k : Ff TH D w w1) : Rgg b r f left c w1 := by
  have h0 := h
  obtain ⟨es, cl, s, q, c0, hb, _, _, hr, _⟩ := h0
  exact h.heap ((k.keep hb (fun e => e.elim)).trans hb.symm) ((k.keep hr (fun e => e.elim)).trans hr.symm)
/-- While they are gathered. -/
def Brg (m : Tr) (b r h D : Nat) (f : Int → Option Value) (left : Int → Bool) (c : Nat) (w wr : World) : Prop :=
  ∃ l ss, Rgg b r f left c wr ∧ Hw D h l wr ∧ Hmin l ∧ Cld f left ss ∧ l.length ≤ ss.length ∧ (∀ y, y ∈ l ↔ Bare m y ∧ left y = false) ∧ Kp w wr ∧ D ≤ wr.heap.size
section
variable {B C t b r : Nat} {q : Int → Nat} {m : Tr} {w w1 : World} {next : Int}
theorem box_ne {h : Nat} {l : List Int} {f : Int → Option Value} {left : Int → Bool} {c D : Nat} (hw : Hw D h l w) (hr : Rgg b r f left c w) : ∀ j cur e fr, On r j → w.heap[j]? = some (.cells cur e fr) → e ≠ 98 ∧ e ≠ 3 := fun j cur e fr ho hj => by
  unfold On at ho; subst ho
  obtain ⟨es, cl, s, q, c0, hb, _, _, hr, _⟩ := hr
  rw [hr] at hj; cases hj
theorem Hw.fr {D h : Nat} {l : List Int} {S : Nat → Prop} (hw : Hw D h l w) (k : Fr S w w1) (hS : ∀ j cur e fr, S j → w.heap[j]? = some (.cells cur e fr) → e ≠ 98 ∧ e ≠ 3) : Hw D h l w1 := by
  obtain ⟨v, hq⟩ := hw; exact ⟨v, hq.fr k hS⟩
set_option maxHeartbeats 16000000 in
theorem bare_any (h : Tw B C t m w) (F : Fam m.L m.next) (hn : m.next ≤ 10000) (hl : m.L.length ≤ 250) :
    Calls Try.prog 52 #[.pointer (some ⟨t, 0, none⟩)] w fun e w' => ∃ h l, e = .returned (.pointer (some ⟨h, 0, none⟩)) ∧ Hw w.heap.size h l w' ∧ Hmin l ∧ l.length ≤ 250 ∧ (∀ y, y ∈ l ↔ Bare m y) ∧ Kp w w' := by
  obtain ⟨b, q, h⟩ := h
  have HKF : Hid (Kfew (ptrs m.L q)) := kfew_of hl
  obtain ⟨W0, hW0⟩ : ∃ W0, w.alloc (.cells #[.slice none 0 0] 98) = W0 := ⟨_, rfl⟩
  have k0 : Kp w W0 := by rw [← hW0]; exact kp_alloc _ _
  have hw0 : Hw w.heap.size w.heap.size [] W0 := by rw [← hW0]; exact ⟨.slice none 0 0, Nat.le_refl _, Lc.new w [.slice none 0 0] 98, World.ownsRow_nil _ _ _ _⟩
  have hz0 : W0.heap.size = w.heap.size + 1 := by rw [← hW0]; exact alloc_size _ _
  have c0 := (h.kp k0).box.at (j := 0) rfl
  have hm := (h.kp k0).map
  have HH : Hid (Tb B C t b q m w ∧ Fam m.L m.next ∧ m.next ≤ 10000 ∧ Hw w.heap.size w.heap.size [] W0 ∧ Kp w W0 ∧ W0.heap.size = w.heap.size + 1) := ⟨h, F, hn, hw0, k0, hz0⟩
  have HW : Hid (_ = W0) := hW0
  clear h F hn hl k0 hw0 hz0 hW0
  go_enter Try.func52, Try.ntmps52
  go_upto_region 2 with fail
  rw [HW.out]
  go_wp2_with (first | (at_range; refine wpl_range rfl _ 70 67 rfl Try.underlying70 rfl hm ?_; intro w0 n0 hr0 hk0 hs0) | go_in)
  go_frame
  have G0 : Hid (Brg m b W0.heap.size w.heap.size w.heap.size (ptrs m.L q) (fun x => (ptrs m.L q x).isSome) n0 w w0) := by
    refine ⟨[], [], hr0, HH.out.2.2.2.1.kp hk0, (fun m hm => by cases hm), Cld.start _, Nat.le_refl _, fun y => ⟨(fun h => by cases h), fun h => ?_⟩, kp_trans HH.out.2.2.2.2.1 hk0, Nat.le_trans HH.out.2.2.2.2.1.size hk0.size⟩
    obtain ⟨⟨s, h1, _⟩, h2⟩ := h
    have h3 : (ptrs m.L q y).isSome = false := h2
    unfold ptrs at h3; rw [h1] at h3; cases h3
  have hrs : W0.heap.size = w.heap.size + 1 := HH.out.2.2.2.2.2
  rw [hrs] at G0 ⊢
  clear hr0 hk0 hs0 c0 hm hrs
  go_loopw [] (fun wr => ∃ (left : Int → Bool) (c : Nat), Hid (Brg m b (w.heap.size + 1) w.heap.size w.heap.size (ptrs m.L q) left c w wr)) (fun wr => wr.rangeLeft b (w.heap.size + 1))
  case atStart => exact ⟨_, n0, G0⟩
  case round =>
    obtain ⟨left, c, HG⟩ := hrel
    clear G0
    obtain ⟨l, ss, hrg, hwl, hmn, hcl, hln, hmem, hkp, hsz⟩ := HG.out
    have HL : Hid (Hw w.heap.size w.heap.size l wr ∧ Hmin l ∧ Cld (ptrs m.L q) left ss ∧ l.length ≤ ss.length ∧ (∀ y, y ∈ l ↔ Bare m y ∧ left y = false) ∧ Kp w wr ∧ w.heap.size ≤ wr.heap.size) := ⟨hwl, hmn, hcl, hln, hmem, hkp, hsz⟩
    clear hwl hmn hcl hln hmem hkp hsz HG
    go_wp2_with (first | (at_next; refine wpl_next rfl _ rfl rfl hrg ?_ ?_) | go_in)
    · intro hl
      have HE : Hid (∃ l, Hw w.heap.size w.heap.size l wr ∧ Hmin l ∧ l.length ≤ 250 ∧ (∀ y, y ∈ l ↔ Bare m y) ∧ Kp w wr) := by
        obtain ⟨x1, x2, x3, x4, x5, x6, x7⟩ := HL.out
        refine ⟨l, x1, x2, ?_, fun y => ?_, x6⟩
        · have := HKF.out ss x3.1 (fun y hy => ((x3.2 y).1 hy).1); omega
        · rw [x5 y]; exact ⟨fun h => h.1, fun h => ⟨h, hl y⟩⟩
      clear hl hrg HL
      go_wp2
      go_ret
      obtain ⟨l, x⟩ := HE.out
      exact ⟨_, l, rfl, x⟩
    · intro y v w2 c2 y0 y1 hly hy hr2 hlt2 hf2 hs2 hen
      obtain ⟨s, hls, rfl⟩ := ptr_some hy
      obtain ⟨x1, x2, x3, x4, x5, x6, x7⟩ := HL.out
      have k2 : Kp w w2 := x6.trans (hf2.below x6.size fun k hk e => by unfold On at e; omega)
      have hw2 := x1.fr hf2 (box_ne x1 hrg)
      have hcs := x3.step hly (by rw [hy]; simp)
      have hlen := HKF.out _ hcs.1 (fun z hz => ((hcs.2 z).1 hz).1)
      rw [List.length_append, List.length_singleton] at hlen
      have hnl : y ∉ l := fun q => by have := ((x5 y).1 q).2; rw [hly] at this; cases this
      have bx0 := (HH.out.1.kp k2).box
      have c0 := bx0.at (j := 0) rfl
      have c1 := bx0.at (j := 1) rfl
      obtain ⟨hp, u, hb, _⟩ := HH.out.1.st y s hls
      have p1 := (hb.kp k2).at (j := 1) rfl
      have HME : Hid (c2 < c) := hlt2
      have hme : wr.rangeLeft b (w.heap.size + 1) = c := hrg.left_eq
      by_cases e : s.on = -1 ∧ y ≠ m.now
      · have d1 : (s.on == -1) = true := by rw [e.1]; rfl
        have d2 : (y != m.now) = true := by simpa using e.2
        have HP : Hid _ := pushH_any hw2 (by omega) (Nat.le_trans x7 (by omega)) x2 y
        have HN : Hid (∀ w3 l', Hw w.heap.size w.heap.size l' w3 → Hmin l' → l'.length = l.length + 1 → (∀ z, z ∈ l' ↔ z = y ∨ z ∈ l) → Ff TH w.heap.size w2 w3 → Brg m b (w.heap.size + 1) w.heap.size w.heap.size (ptrs m.L q) (fun z => left z && !decide (z = y)) c2 w w3) := fun w3 l' z1 z2 z3 z4 z5 => by
          refine ⟨l', _, hr2.ff z5, z1, z2, hcs, by rw [List.length_append, List.length_singleton]; omega, fun z => ?_, k2.trans (z5.below k2.size), Nat.le_trans k2.size z5.size⟩
          rw [z4 z, x5 z]
          simp only [Bool.and_eq_false_iff, Bool.not_eq_false', decide_eq_true_eq]
          constructor
          · rintro (rfl | ⟨q1, q2⟩)
            · exact ⟨⟨s, hls, e⟩, .inr rfl⟩
            · exact ⟨q1, .inl q2⟩
          · rintro ⟨q1, q2 | rfl⟩
            · exact .inr ⟨q1, q2⟩
            · exact .inl rfl
        clear hrg hly hy hr2 hlt2 hf2 hs2 hls hb hp k2 x1 x2 x3 x4 x5 x6 x7 HL hcs hlen hnl bx0 e hw2
        go_wp2_with fail
        refine Calls.mono HP.out ?_
        rintro e w3 ⟨rfl, l', z1, z2, z3, z4, z5⟩
        have HX : Hid (Brg m b (w.heap.size + 1) w.heap.size w.heap.size (ptrs m.L q) (fun z => left z && !decide (z = y)) c2 w w3) := HN.out w3 l' z1 z2 z3 z4 z5
        clear z1 z2 z3 z4 z5 HN HP
        go_wp2_with fail
        go_roundw
        case rel => exact ⟨_, c2, HX⟩
        case measure =>
          obtain ⟨_, _, hrg, _⟩ := HX.out
          rw [hrg.left_eq, hme]; exact HME.out
      · have HX : Hid (∀ k, Brg m b (w.heap.size + 1) w.heap.size w.heap.size (ptrs m.L q) (fun z => left z && !decide (z = y)) c2 w (w2.drewN k)) := fun k => by
          refine ⟨l, _, hr2.kp (kp_drewN _ _), hw2.kp (kp_drewN _ _), x2, hcs, by rw [List.length_append, List.length_singleton]; omega, fun z => ?_, kp_trans k2 (kp_drewN _ _), Nat.le_trans k2.size (kp_drewN w2 k).size⟩
          rw [x5 z]
          simp only [Bool.and_eq_false_iff, Bool.not_eq_false', decide_eq_true_eq]
          constructor
          · rintro ⟨q1, q2⟩; exact ⟨q1, .inl q2⟩
          · rintro ⟨q1, q2 | rfl⟩
            · exact ⟨q1, q2⟩
            · obtain ⟨s', h1, h2⟩ := q1
              rw [hls] at h1; cases h1
              exact absurd h2 e
        have HD : Hid (s.on ≠ -1 ∨ (s.on = -1 ∧ y = m.now)) := by
          by_cases p : s.on = -1
          · exact .inr ⟨p, Classical.byContradiction fun n => e ⟨p, n⟩⟩
          · exact .inl p
        clear hrg hly hy hr2 hlt2 hf2 hs2 hls hb hp k2 x1 x2 x3 x4 x5 x6 x7 HL hcs hlen hnl bx0 e hw2
        rcases HD.out with p | ⟨p, p2⟩
        · have d1 : (s.on == -1) = false := by simpa using p
          clear p HD
          go_wp2_with fail
          go_roundw
          case rel => exact ⟨_, c2, HX.out 0⟩
          case measure =>
            obtain ⟨_, _, hrg, _⟩ := HX.out 0
            have := hrg.left_eq
            rw [hme]; show w2.rangeLeft b (w.heap.size + 1) < c
            rw [show w2.rangeLeft b (w.heap.size + 1) = c2 from this]; exact HME.out
        · have d1 : (s.on == -1) = true := by rw [p]; rfl
          have d2 : (y != m.now) = false := by simp [p2]
          clear p p2 HD
          go_wp2_with fail
          go_roundw
          case rel => exact ⟨_, c2, HX.out 0⟩
          case measure =>
            obtain ⟨_, _, hrg, _⟩ := HX.out 0
            have := hrg.left_eq
            rw [hme]; show w2.rangeLeft b (w.heap.size + 1) < c
            rw [show w2.rangeLeft b (w.heap.size + 1) = c2 from this]; exact HME.out
end
end Go.Proofs.Ytbkhhgaihhbhjaa
/- drop, dropFirst. -/
namespace Go.Proofs.Ytbkhhgaihhbhjaa
open Go.ChangeShapes Go.WideShapes Go.ChangeAt Go.RowKit Go.Maps Go.MapKept
set_option linter.unusedVariables false
set_option linter.unusedSimpArgs false
set_option maxRecDepth 100000
/-- Taken out. -/
theorem Mp.drop {b : Nat} {f : Int → Option Value} {w : World} (h : Mp b f w) {x : Int} (h0 : -9223372036854775808 ≤ x) (h1 : x < 9223372036854775808) {t e : TypeId} (ht : Try.prog.underlying t = some (.map 3 e)) :
    ∃ w', (∀ ty, (Builtin.delete_ #[t, 3] ty #[.map (some b), .int .i64 x]).run Try.prog w = .ok (.tuple #[]) w') ∧ Mp b (upd f x none) w' ∧ Fr (On b) w w' ∧ w'.heap.size = w.heap.size := by
  have hl := h.lt
  obtain ⟨es, c, hb, S, H⟩ := h
  obtain ⟨es', hr, S', H', _⟩ := drop_who (ty := 0) hb S H h0 h1 ht
  refine ⟨_, fun ty => ?_, ⟨es', c, Go.ChangeMaps.heap_setBlock_same hb _, S', H'⟩, fr_block w b _ hl, by simp [Go.ChangeMaps.setBlock]⟩
  exact hr
section
variable {B C t b : Nat} {q : Int → Nat} {m : Tr} {w w1 : World} {x : Int} {s : St}
/-- A state is taken out. -/
theorem Tb.drop (h : Tb B C t b q m w) {x : Int} (h0 : -9223372036854775808 ≤ x) (h1 : x < 9223372036854775808) (L' : List St) (hL : ∀ y, look L' y = if y = x then none else look m.L y) :
    ∃ w', (∀ ty, (Builtin.delete_ #[70, 3] ty #[.map (some b), .int .i64 x]).run Try.prog w = .ok (.tuple #[]) w') ∧ Tb B C t b q { m with L := L' } w' ∧ Ff TP B w w' ∧ Fr (On b) w w' := by
  obtain ⟨w', hr, hm, f, hz⟩ := h.map.drop h0 h1 Try.underlying70
  obtain ⟨es, cl, hmb, _⟩ := h.map
  have e : ptrs L' q = upd (ptrs m.L q) x none := by
    funext y; unfold ptrs upd; rw [hL]
    by_cases c : y = x
    · rw [if_pos c, if_pos c]; rfl
    · rw [if_neg c, if_neg c]
  have hy0 : ∀ y s, look L' y = some s → look m.L y = some s := fun y s hy => by
    rw [hL] at hy
    by_cases c : y = x
    · rw [if_pos c] at hy; cases hy
    · rw [if_neg c] at hy; exact hy
  refine ⟨w', hr, ⟨h.lt, h.lb, h.box.fr f (h.map.ne h.box), by show Mp b (ptrs L' q) w'; rw [e]; exact hm, fun y s hy => (h.st y s (hy0 y s hy)).onMap f hmb, fun y z hy hz e => ?_⟩, Ff.on f h.lb hmb trivial, f⟩
  obtain ⟨s1, q1⟩ := Option.ne_none_iff_exists'.1 hy
  obtain ⟨s2, q2⟩ := Option.ne_none_iff_exists'.1 hz
  exact h.inj y z (by rw [hy0 _ _ q1]; simp) (by rw [hy0 _ _ q2]; simp) e
set_option maxHeartbeats 8000000 in
theorem drop_any (h : Tw B C t m w) (I : Inw m) (hn : m.next ≤ 10000) (hx : look m.L x = some s) (ho : s.on = -1) (hne : x ≠ m.now) :
    Calls Try.prog 55 #[.pointer (some ⟨t, 0, none⟩), .int .i64 x] w fun e w' => e = .returned (.tuple #[]) ∧ Tw B C t { m with L := cutT m.L x s.fr } w' ∧ Ff TP B w w' := by
  have F := I.inv.fam
  have hf := bare_fr F I.onk I.inv.nw hx ho hne
  have hxf := F.fr _ _ hx
  have hfx : s.fr ≠ x := by omega
  obtain ⟨p, hp⟩ := Option.ne_none_iff_exists'.1 (F.from_there hx hf)
  have hp2 : look (dropL m.L x) s.fr = some p := by rw [look_drop, if_neg hfx]; exact hp
  obtain ⟨b, q, h⟩ := h
  have c0 := h.box.at (j := 0) rfl
  have hk1 := h.get (x := x) (by omega) (by omega) hx w (Below.refl _ _)
  obtain ⟨_, u1, hb1, _⟩ := h.st _ _ hx
  have p0 := hb1.at (j := 0) rfl
  obtain ⟨w1, hdl, h1, f1, _⟩ := h.drop (x := x) (by omega) (by omega) (dropL m.L x) (look_drop m.L x)
  have c1 := h1.box.at (j := 0) rfl
  have hk2 := h1.get (x := s.fr) (by omega) (by omega) hp2 w1 (Below.refl _ _)
  obtain ⟨_, u2, hb2, _⟩ := h1.st _ _ hp2
  have p1 := hb2.at (j := 1) rfl
  have HN : Hid _ := newest_any (m := { m with L := dropL m.L x }) ⟨b, q, h1⟩ (fun y s' hy => by
    have hy' : look (dropL m.L x) y = some s' := hy
    rw [look_drop] at hy'
    split at hy'
    · cases hy'
    · exact (F.fr _ _ hy').2.2.1) (drop_sorted I.inv.sq x) s.fr
  have HT : Hid (Tb B C t b q { m with L := dropL m.L x } w1 ∧ Ff TP B w w1 ∧ look (dropL m.L x) s.fr = some p) := ⟨h1, f1, hp2⟩
  clear h hx hb1 h1 f1 hp2 hb2 hp I F
  go_enter Try.func55, Try.ntmps55
  by_cases e : p.on = x
  · have d1 : (p.on == x) = true := by simpa using e
    have HE : Hid (p.on = x) := e
    clear e
    go_wp2_with fail
    refine Calls.mono HN.out ?_
    rintro e w2 ⟨rfl, k2⟩
    have f2 := ((HT.out.1.kp k2).st _ _ HT.out.2.2)
    obtain ⟨_, u3, hb3, _⟩ := f2
    have g1 := hb3.fz 1
    have g2 := hb3.at (j := 1) rfl
    have HX : Hid (Tw B C t { m with L := cutT m.L x s.fr } (w2.setCell ⟨q s.fr, 1, none⟩ (.int .i64 (newest (dropL m.L x) s.fr))) ∧ Ff TP B w (w2.setCell ⟨q s.fr, 1, none⟩ (.int .i64 (newest (dropL m.L x) s.fr)))) := by
      obtain ⟨r1, r2⟩ := (HT.out.1.kp k2).on (x := s.fr) (by show look (dropL m.L x) s.fr ≠ none; rw [HT.out.2.2]; simp) (newest (dropL m.L x) s.fr)
      refine ⟨⟨b, q, ?_⟩, (HT.out.2.1.trans (Ff.kp k2)).trans r2⟩
      have e1 : cutT m.L x s.fr = setOn (dropL m.L x) s.fr (newest (dropL m.L x) s.fr) := by unfold cutT; rw [HT.out.2.2]; exact if_pos HE.out
      rw [e1]; exact r1
    clear hb3 k2 HN c0 hk1 p0 hdl c1 hk2 p1
    go_wp2_with fail
    go_end0
    exact ⟨rfl, HX.out⟩
  · have d1 : (p.on == x) = false := by simpa using e
    have HX : Hid (Tw B C t { m with L := cutT m.L x s.fr } w1 ∧ Ff TP B w w1) := by
      have e1 : cutT m.L x s.fr = dropL m.L x := by unfold cutT; rw [HT.out.2.2]; exact if_neg e
      rw [e1]; exact ⟨⟨b, q, HT.out.1⟩, HT.out.2.1⟩
    clear e HN
    go_wp2_with fail
    go_end0
    exact ⟨rfl, HX.out⟩
end
end Go.Proofs.Ytbkhhgaihhbhjaa
/- dropFirst, letGo. -/
namespace Go.Proofs.Ytbkhhgaihhbhjaa
open Go.ChangeShapes Go.WideShapes Go.ChangeAt Go.RowKit Go.Maps Go.MapKept
set_option linter.unusedVariables false
set_option linter.unusedSimpArgs false
set_option maxRecDepth 100000
theorem find_least {p : St → Bool} : ∀ {L : List St}, (L.map St.seq).Pairwise (· < ·) → ∀ {s}, L.find? p = some s → ∀ a ∈ L, p a = true → s.seq ≤ a.seq
  | [], _, _, h, _, _, _ => by cases h
  | c :: L, hs, s, h, a, ha, hp => by
    rw [List.map_cons, List.pairwise_cons] at hs
    rw [List.find?_cons] at h
    cases e : p c with
    | true =>
      rw [e] at h; cases h
      rcases List.mem_cons.1 ha with rfl | ha
      · exact Int.le_refl _
      · have := hs.1 a.seq (List.mem_map.2 ⟨a, ha, rfl⟩); omega
    | false =>
      rw [e] at h
      rcases List.mem_cons.1 ha with rfl | ha
      · rw [e] at hp; cases hp
      · exact find_least hs.2 h a ha hp
section
variable {B C t b : Nat} {q : Int → Nat} {m : Tr} {w w1 : World} {x : Int} {s : St}
/-- A state is made from none, and by nothing. -/
theorem Tb.bare (h : Tb B C t b q m w) {x : Int} (hx : look m.L x ≠ none) (L' : List St) (hL : ∀ y, look L' y = (look m.L y).map fun s => if y = x then { s with fr := -1, by_ := [] } else s) :
    Tb B C t b q { m with L := L' } ((w.setCell ⟨q x, 0, none⟩ (.int .i64 (-1))).setCell ⟨q x, 2, none⟩ (.slice none 0 0)) ∧ Ff TP B w ((w.setCell ⟨q x, 0, none⟩ (.int .i64 (-1))).setCell ⟨q x, 2, none⟩ (.slice none 0 0)) := by
  obtain ⟨s, hs⟩ := Option.ne_none_iff_exists'.1 hx
  obtain ⟨hp, v, h2, h3, h4⟩ := h.st x s hs
  have f := (fr_set (q x) 0 (.int .i64 (-1)) w).trans (fr_set (q x) 2 (.slice none 0 0) _)
  have hne : b ≠ q x := Ne.symm (h.map.ne h2)
  have ht : t ≠ q x := lc_ne h.box h2 (by decide)
  have hn : ∀ y, look L' y ≠ none → look m.L y ≠ none := fun y hy e => hy (by rw [hL, e]; rfl)
  have ep : ptrs L' q = ptrs m.L q := by
    funext y; unfold ptrs; rw [hL]
    cases look m.L y <;> rfl
  refine ⟨⟨h.lt, h.lb, h.box.fr f ht, by show Mp b (ptrs L' q) _; rw [ep]; exact h.map.fr f hne, fun z s' hz => ?_, fun a c h1 h2 h3 => h.inj a c (hn _ h1) (hn _ h2) h3⟩, Ff.on f hp h2 (.inr rfl)⟩
  have hz' : look L' z = some s' := hz
  rw [hL] at hz'
  obtain ⟨s0, hs0, rfl⟩ := Option.map_eq_some_iff.1 hz'
  by_cases e : z = x
  · subst e
    rw [if_pos rfl]
    rw [hs] at hs0; cases hs0
    exact ⟨hp, .slice none 0 0, (h2.set 0 _).set 2 _, Dx.nil _ _ _, fun j hj => by cases hj⟩
  · rw [if_neg e]
    exact (h.st z s0 hs0).on f h2 (fun e2 => e (h.inj z x (by rw [hs0]; simp) hx e2)) (by decide) (by decide)
set_option maxHeartbeats 8000000 in
theorem dropFirst_any (h : Tw B C t m w) (I : Inw m) (hn : m.next ≤ 10000) (hl : m.L.length ≤ 250) (h2 : 2 ≤ m.L.length) (H : Full m.L m.now) :
    Calls Try.prog 54 #[.pointer (some ⟨t, 0, none⟩)] w fun e w' => e = .returned (.tuple #[]) ∧ Tw B C t { m with L := rootT m.L } w' ∧ Ff TP B w w' := by
  obtain ⟨r, M, hL⟩ : ∃ r M, m.L = r :: M := by cases e : m.L with | nil => rw [e] at h2; simp at h2 | cons r M => exact ⟨r, M, rfl⟩
  have hM : M ≠ [] := by rintro rfl; rw [hL] at h2; simp at h2
  obtain ⟨_, hrn, bb, hbl, hbf, hlk⟩ := inw_root I hL hM H
  have F := I.inv.fam
  have hr : look m.L r.seq = some r := by rw [hL, look_cons, if_pos rfl]
  have g0 := F.fr _ _ hr
  have g1 := F.fr _ _ hbl
  have hne : r.on ≠ r.seq := fun e => by rw [e, hr] at hbl; cases hbl; omega
  have HN : Hid _ := numbers_any h hl I.inv.sq
  obtain ⟨b, q, h⟩ := h
  have HT : Hid (Tb B C t b q m w ∧ look m.L r.seq = some r ∧ look m.L r.on = some bb ∧ r.on ≠ r.seq ∧ ∀ y, look (rootT m.L) y = if y = r.seq then none else (look m.L y).map fun s => if y = r.on then { s with fr := -1, by_ := [] } else s) := ⟨h, hr, hbl, hne, hlk⟩
  have hr0 : -9223372036854775808 ≤ r.seq ∧ r.seq < 9223372036854775808 := by omega
  have hb0 : -9223372036854775808 ≤ r.on ∧ r.on < 9223372036854775808 := by omega
  have hz : (m.L.map St.seq)[0]? = some r.seq := by rw [hL]; rfl
  have hlen : 0 < (m.L.map St.seq).length := by rw [hL]; simp
  clear h hr hbl hlk hne F H I hL hM h2 hl hn hbf hrn g0 g1
  go_enter Try.func54, Try.ntmps54
  go_wp2_with fail
  refine Calls.mono HN.out ?_
  rintro e w1 ⟨v, rfl, hi, k1⟩
  obtain ⟨g, c, rfl, _, _, _, hcl, _⟩ := ir_cells hi (by intro e; rw [e] at hz; cases hz)
  have c1 := hcl _ _ hz
  have T1 := HT.out.1.kp k1
  have c0 := T1.box.at (j := 0) rfl
  have hk1 := fun k => T1.get hr0.1 hr0.2 HT.out.2.1 (w1.drewN k) (kp_drewN _ _)
  have hk2 := fun k => T1.get hb0.1 hb0.2 HT.out.2.2.1 (w1.drewN k) (kp_drewN _ _)
  obtain ⟨_, u1, hb1, _⟩ := T1.st _ _ HT.out.2.1
  have p1 := hb1.at (j := 1) rfl
  have HK : Hid (Kp w w1) := k1
  have hlI : (0 : Int) < ((m.L.map St.seq).length : Int) := by omega
  have HT1 : Hid (Tb B C t b q m w1) := T1
  generalize (m.L.map St.seq).length = N at hlen hlI
  clear hi hcl hz T1 hb1 k1 HN
  go_wp2_with fail
  go_quiet (fail)
  obtain ⟨W2, hW2⟩ : ∃ W2, w1.drewN nq = W2 := ⟨_, rfl⟩
  have T2 : Tb B C t b q m W2 := by rw [← hW2]; exact HT1.out.kp (kp_drewN _ _)
  have K2 : Hid (Kp w W2) := by rw [← hW2]; exact kp_trans HK.out (kp_drewN _ _)
  rw [hW2]
  obtain ⟨w3, hdl, T3, f3, _⟩ := T2.drop hr0.1 hr0.2 (dropL m.L r.seq) (look_drop _ _)
  have c0' := T2.box.at (j := 0) rfl
  have hbl3 : look (dropL m.L r.seq) r.on = some bb := by rw [look_drop, if_neg HT.out.2.2.2.1]; exact HT.out.2.2.1
  obtain ⟨_, u3, hb3, _⟩ := T3.st _ _ hbl3
  have z0 := hb3.at (j := 0) rfl
  have z2 := hb3.at (j := 2) rfl
  have y0 := hb3.fz 0
  have y2 := hb3.fz 2
  have HX : Hid (Tw B C t { m with L := rootT m.L } ((w3.setCell ⟨q r.on, 0, none⟩ (.int .i64 (-1))).setCell ⟨q r.on, 2, none⟩ (.slice none 0 0)) ∧ Ff TP B w ((w3.setCell ⟨q r.on, 0, none⟩ (.int .i64 (-1))).setCell ⟨q r.on, 2, none⟩ (.slice none 0 0))) := by
    obtain ⟨r1, r2⟩ := T3.bare (x := r.on) (by show look (dropL m.L r.seq) r.on ≠ none; rw [hbl3]; simp) (rootT m.L) (fun y => by
      show _ = (look (dropL m.L r.seq) y).map _
      rw [HT.out.2.2.2.2 y, look_drop]
      by_cases e : y = r.seq
      · rw [if_pos e, if_pos e]; rfl
      · rw [if_neg e, if_neg e])
    exact ⟨⟨b, q, r1⟩, ((Ff.kp K2.out).trans f3).trans r2⟩
  clear T2 T3 f3 hb3 hbl3 hW2 c0 c1 hk1 hk2 p1
  go_wp2_with fail
  go_end0
  exact ⟨rfl, HX.out⟩
end
end Go.Proofs.Ytbkhhgaihhbhjaa
/- letGo. -/
namespace Go.Proofs.Ytbkhhgaihhbhjaa
open Go.ChangeShapes Go.WideShapes Go.ChangeAt Go.RowKit Go.Maps Go.MapKept
set_option linter.unusedVariables false
set_option linter.unusedSimpArgs false
set_option maxRecDepth 100000
section
variable {B C t : Nat} {m : Tr} {w w1 : World}
set_option maxHeartbeats 8000000 in
theorem letGo_any (h : Tw B C t m w) (I : Inw m) (hn : m.next ≤ 10000) (hl : m.L.length ≤ 250) (h2 : 2 ≤ m.L.length) :
    Calls Try.prog 32 #[.pointer (some ⟨t, 0, none⟩)] w fun e w' => e = .returned (.tuple #[]) ∧ Tw B C t (evT m) w' ∧ Ff TP B w w' := by
  have HB : Hid _ := bare_any h I.inv.fam hn hl
  have HT : Hid (Tw B C t m w ∧ Inw m ∧ m.next ≤ 10000 ∧ m.L.length ≤ 250 ∧ 2 ≤ m.L.length) := ⟨h, I, hn, hl, h2⟩
  clear h I hn hl h2
  go_enter Try.func32, Try.ntmps32
  go_wp2_with fail
  refine Calls.mono HB.out ?_
  rintro e w1 ⟨hp, l, rfl, hw, hmin, hlen, hmem, k1⟩
  obtain ⟨v, hq⟩ := hw
  obtain ⟨a, c, rfl, _⟩ := hq.row.form
  have c0 := hq.box.at (j := 0) rfl
  have HLen : Hid _ := len_any a l.length c w1
  cases hfd : m.L.find? (bareP m) with
  | none =>
    have hfull := bare_none hfd
    have hnil : l = [] := by
      rw [List.eq_nil_iff_forall_not_mem]
      intro y hy
      obtain ⟨s, h1, h2, h3⟩ := (hmem y).1 hy
      exact hfull y s h1 h3 h2
    subst hnil
    have HD : Hid (Calls Try.prog 54 #[.pointer (some ⟨t, 0, none⟩)] w1 fun e w' => e = .returned (.tuple #[]) ∧ Tw B C t (evT m) w' ∧ Ff TP B w w') := by
      refine (dropFirst_any (HT.out.1.kp k1) HT.out.2.1 HT.out.2.2.1 HT.out.2.2.2.1 HT.out.2.2.2.2 hfull).mono ?_
      rintro e w' ⟨rfl, r1, r2⟩
      rw [ev_none hfd]
      exact ⟨rfl, r1, (Ff.kp k1).trans r2⟩
    clear HB hq hmin hlen hmem k1 hfd hfull
    go_wp2_with fail
    refine Calls.mono HLen.out ?_
    rintro e w2 ⟨rfl, rfl⟩
    clear HLen
    go_wp2_with fail
    refine Calls.mono HD.out ?_
    rintro e w2 ⟨rfl, r⟩
    have HR : Hid _ := r
    clear HD r
    go_wp2_with fail
    refine bodyPost_ret (results_none rfl _ _ _) rfl ?_
    exact ⟨rfl, HR.out⟩
  | some s =>
    obtain ⟨s1, s2, s3⟩ := bare_some hfd
    have hls := mem_look HT.out.2.1.inv.sq s1
    have hsl : s.seq ∈ l := (hmem _).2 ⟨s, hls, s2, s3⟩
    obtain ⟨n, hn⟩ : ∃ n, l.length = n + 1 := ⟨l.length - 1, by have := List.length_pos_of_mem hsl; omega⟩
    obtain ⟨m0, hm0⟩ : ∃ y, l[0]? = some y := ⟨_, List.getElem?_eq_getElem (by omega)⟩
    have e0 : m0 = s.seq := by
      have g1 := hmin m0 hm0 _ hsl
      obtain ⟨s', q1, q2, q3⟩ := (hmem m0).1 (List.mem_of_getElem? hm0)
      have g2 := find_least HT.out.2.1.inv.sq hfd s' (look_mem q1) (by rw [← look_seq q1] at q3; simp [bareP, q2, q3])
      rw [look_seq q1] at g2; omega
    subst e0
    have HP : Hid (Calls Try.prog 56 #[.iface 94 (.pointer (some ⟨hp, 0, none⟩))] w1 fun e w2 => e = .returned (.iface 3 (.int .i64 s.seq)) ∧ Hid (Calls Try.prog 55 #[.pointer (some ⟨t, 0, none⟩), .int .i64 s.seq] w2 fun e w' => e = .returned (.tuple #[]) ∧ Tw B C t (evT m) w' ∧ Ff TP B w w')) := by
      refine (popH_any ⟨_, hq⟩ (by omega) hn hm0).mono ?_
      rintro e w2 ⟨rfl, f⟩
      have k2 : Kp w w2 := k1.trans (f.below k1.size)
      refine ⟨rfl, (drop_any (HT.out.1.kp k2) HT.out.2.1 HT.out.2.2.1 hls s2 s3).mono ?_⟩
      rintro e w' ⟨rfl, r1, r2⟩
      rw [ev_some hfd]
      exact ⟨rfl, r1, (Ff.kp k2).trans r2⟩
    rw [hn] at c0 HLen
    have d1 : ((n : Int) + 1 == 0) = false := beq_eq_false_iff_ne.2 (by omega)
    have hti := asInt s.seq
    clear HB hq hmin hlen hmem k1 hfd s1 s2 s3 hls hsl hm0 hn
    go_wp2_with fail
    refine Calls.mono HLen.out ?_
    rintro e w2 ⟨rfl, rfl⟩
    clear HLen
    go_wp2_with fail
    refine Calls.mono HP.out ?_
    rintro e w2 ⟨rfl, r⟩
    have HR : Hid _ := r.out
    clear HP r
    go_wp2_with fail
    refine Calls.mono HR.out ?_
    rintro e w2 ⟨rfl, r⟩
    have HE : Hid _ := r
    clear HR r
    go_wp2_with fail
    go_end0
    exact ⟨rfl, HE.out⟩
end
end Go.Proofs.Ytbkhhgaihhbhjaa
