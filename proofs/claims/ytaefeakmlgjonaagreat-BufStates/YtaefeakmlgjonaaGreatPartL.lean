/- Texts that the proof of the law stands on: BY, BZ, CA, CB, CF, CC, CD, CE, CG, CH, CK, CL, CR. -/
import Derived.Test.YtaefeakmlgjonaaGreatPartK
import Derived.BigQuiet
import Derived.Test.YtaefeakmlgjonaaGreatRows
import Derived.Lib.SmallJoins
import Derived.OpenShut
import Derived.Deep.Slices
import Derived.Deep.Strs
import Derived.Lib.AppendZerosOnto
import Derived.Deep.RegionWith
import Derived.Lib.MinMax
/- New: a text, or why there is none. -/
namespace Go.Proofs.YtaefeakmlgjonaaGreat
open Go.ChangeShapes Go.WideShapes Go.ChangeAt Go.RowKit Go.Maps Go.MapKept
set_option linter.unusedVariables false
set_option linter.unusedSimpArgs false
set_option maxRecDepth 100000
theorem eqlT (ad : Addr) (w : World) : Sem.run Tryz.prog (binOp BinOp.eql 64 (.pointer (some ad)) (.pointer none)) w = .ok (.bool false) w := by kernel_rfl
section
variable {P : Nat → Prop} {B b M mb : Nat} {o : Tz.Own} {w w1 : World} {v : Value} {ls : List ByteArray}
theorem Tw.lowQ {Q : Nat → Prop} {B' C t : Nat} {m : Tr} (h : Tw Q B C t m w) (hB : B' ≤ B) : Tw Q B' C t m w := by
  obtain ⟨b, q, h⟩ := h
  refine ⟨b, q, Nat.le_trans hB h.lt, Nat.le_trans hB h.lb, h.box, h.map, fun x s hx => ?_, h.inj⟩
  obtain ⟨h1, v, h2⟩ := h.st x s hx
  exact ⟨Nat.le_trans hB h1, v, h2⟩
set_option maxHeartbeats 4000000 in
theorem atLeast_sl (h : Sl P v ls w) : Calls Tryz.prog 43 #[v] w fun e w' => ∃ v', e = .returned v' ∧ Sl (fun _ => True) v' (one1 ls) w' ∧ Kp w w' := by
  obtain ⟨a', c, rfl, _⟩ := h.form
  obtain ⟨n, hn⟩ : ∃ n, ls.length = n := ⟨_, rfl⟩
  have HR : Hid (Sl P (.slice a' n c) ls w ∧ ls.length = n) := ⟨by rw [← hn]; exact h, hn⟩
  rw [hn]
  clear h hn
  by_cases z : n = 0
  · subst z
    have HX : Hid (Sl (fun _ => True) (.slice (some ⟨w.heap.size, 0, none⟩) 1 1) (one1 ls) (w.alloc (.cells #[.string ⟨#[]⟩] 9)) ∧ Kp w (w.alloc (.cells #[.string ⟨#[]⟩] 9))) := by
      refine ⟨?_, kp_alloc _ _⟩
      unfold one1; rw [if_pos HR.out.2]
      exact (Sl.of_row (one_row w)).mono fun _ _ _ => trivial
    go_enter Tryz.func43, Tryz.ntmps43
    go_wp2_with fail
    go_ret
    exact ⟨_, rfl, HX.out⟩
  · have d1 : ((n : Int) == 0) = false := beq_eq_false_iff_ne.2 (by omega)
    have HX : Hid (Sl (fun _ => True) (.slice a' n c) (one1 ls) w ∧ Kp w w) := by
      refine ⟨?_, Below.refl _ _⟩
      unfold one1; rw [if_neg (by rw [HR.out.2]; exact z)]; exact HR.out.1.mono fun _ _ _ => trivial
    go_enter Tryz.func43, Tryz.ntmps43
    go_wp2_with fail
    go_ret
    exact ⟨_, rfl, HX.out⟩
/-- A text that begins. -/
def newS (ls : List ByteArray) (n : Int) : BS := ⟨one1 ls, fun _ => none, 1, first n, fun _ => one1 ls, [], fun _ => none, 1⟩
theorem stT_first {Q : Nat → Prop} {C t : Nat} {n : Int} {l : List ByteArray} (h : Tw Q B C t (first n) w) (hC : C ≤ w.heap.size) (hB : B ≤ w.heap.size) (hn : 1 ≤ n ∧ n ≤ 200) : StT Q B C t (first n) (fun _ => l) w := by
  refine ⟨h, hC, hB, inw_first n, hn, by show (1 : Int) ≤ n; exact hn.1, by show (1 : Int) ≤ 200; decide, fun x s hx hf => ?_, fun x s hx => ?_⟩
  · unfold first at hx; rw [look_cons] at hx
    split at hx
    · cases hx; exact absurd rfl hf
    · cases hx
  · unfold first at hx; rw [look_cons] at hx
    split at hx
    · cases hx; exact ⟨by simp, by simp⟩
    · cases hx
theorem fine_new (hl : Ln ls) (n : Int) : Fine ((newS ls n).ls.length : Int) (newS ls n) := by
  have h1 : TxtOk (one1 ls) := ⟨by unfold one1; split; exact Nat.le_refl 1; omega, one1_ln hl⟩
  have h2 : 1 ≤ (one1 ls).length := h1.1
  exact ⟨h1, ⟨by show (1 : Int) ≤ 1; decide, by show (1 : Int) ≤ ((one1 ls).length : Int); omega⟩, fun x _ => h1, ⟨by show (0 : Nat) ≤ 64; decide, fun d hd => by cases hd⟩, rfl, (fun x c h => by cases h), (fun x c h => by cases h), (fun x c h => by cases h), by show (-9223372036854775808 : Int) ≤ 1 ∧ (1 : Int) < 9223372036854775808; decide⟩
set_option maxHeartbeats 16000000 in
theorem bnew_no (hv : Sl P v ls w) {n : Int} (hn : 1 ≤ n ∧ n ≤ 200) {E : Int} (hE : beyondE (ls.length : Int) ls = E) (hE0 : E ≠ 0) (hE1 : 0 ≤ E ∧ E < 65536) : Calls Tryz.prog 11 #[v, .int .i64 n] w fun e w' => e = .returned (.tuple #[.pointer none, .int .u16 E]) ∧ Kp w w' := by
  have HN : Hid _ := new_any (Q := fun _ => False) hn.1 hn.2 w
  have HBy : Hid (∀ z, Kp w z → Calls Tryz.prog 41 #[.int .i64 (ls.length : Int), v] z fun e w' => e = .returned (.int .u16 E) ∧ ∃ q, w' = z.drewN q) := fun z kz => by
    have := beyond_any (hv.kp kz) (ls.length : Int)
    rw [hE] at this; exact this
  obtain ⟨va, vc, rfl, _⟩ := hv.form
  obtain ⟨k, hk⟩ : ∃ k, ls.length = k := ⟨_, rfl⟩
  rw [hk] at HBy ⊢
  have d1 : (E != 0) = true := by simpa using hE0
  have he := eqlT
  clear hv hE hk
  go_enter Tryz.func11, Tryz.ntmps11
  go_wp2_with fail
  refine Calls.mono HN.out ?_
  rintro e w2 ⟨t, rfl, t2, k2⟩
  have H2 : Hid (Kp w w2) := k2
  clear HN t2 k2
  go_wp2_with fail
  refine Calls.mono (HBy.out _ H2.out) ?_
  rintro e w3 ⟨rfl, q, rfl⟩
  have HX : Hid (Kp w (w2.drewN q)) := kp_trans H2.out (kp_drewN _ _)
  clear HBy H2
  go_wp2_with fail
  go_ret2
  exact ⟨rfl, HX.out⟩
set_option maxHeartbeats 32000000 in
theorem bnew_yes (hB : B ≤ w.heap.size) (hv : Sl P v ls w) {n : Int} (hn : 1 ≤ n ∧ n ≤ 200) (hE : beyondE (ls.length : Int) ls = 0) : Calls Tryz.prog 11 #[v, .int .i64 n] w fun e w' => ∃ b, e = .returned (.tuple #[.pointer (some ⟨b, 0, none⟩), .int .u16 0]) ∧ Kp w w' ∧ ∃ o a, Bf B b o 50000 a (newS ls n) w' ∧ (∀ k, k < w.heap.size → o k = .free) := by
  have hLn : Ln ls := by
    unfold beyondE at hE
    split at hE
    · cases hE
    · split at hE
      · cases hE
      · rename_i q1 q2
        exact ln_of (by omega) (by simpa using q2)
  have HN : Hid _ := new_any (Q := fun _ => False) hn.1 hn.2 w
  have HBy : Hid (∀ z, Kp w z → Calls Tryz.prog 41 #[.int .i64 (ls.length : Int), v] z fun e w' => e = .returned (.int .u16 0) ∧ ∃ q, w' = z.drewN q) := fun z kz => by
    have := beyond_any (hv.kp kz) (ls.length : Int)
    rw [hE] at this; exact this
  have HAt : Hid (∀ z, Kp w z → Calls Tryz.prog 43 #[v] z fun e w' => ∃ v', e = .returned v' ∧ Sl (fun _ => True) v' (one1 ls) w' ∧ Kp z w') := fun z kz => atLeast_sl (hv.kp kz)
  have HL1 : Hid (Ln (one1 ls) ∧ B ≤ w.heap.size ∧ 1 ≤ n ∧ n ≤ 200) := ⟨one1_ln hLn, hB, hn⟩
  obtain ⟨va, vc, rfl, _⟩ := hv.form
  obtain ⟨k, hk⟩ : ∃ k, ls.length = k := ⟨_, rfl⟩
  rw [hk] at HBy HAt ⊢
  have he := eqlT
  clear hv hE hk hLn hB hn
  go_enter Tryz.func11, Tryz.ntmps11
  go_wp2_with fail
  refine Calls.mono HN.out ?_
  rintro e w2 ⟨t, rfl, t2, k2⟩
  have H2 : Hid (Kp w w2 ∧ Tw (fun _ => False) w.heap.size w.heap.size t (first n) w2) := ⟨k2, t2⟩
  clear HN t2 k2
  go_wp2_with fail
  refine Calls.mono (HBy.out _ H2.out.1) ?_
  rintro e w3 ⟨rfl, q, rfl⟩
  have k3 : Kp w (w2.drewN q) := kp_trans H2.out.1 (kp_drewN _ _)
  clear HBy
  go_wp2_with fail
  refine Calls.mono (HAt.out _ k3) ?_
  rintro e w4 ⟨v4, rfl, s4, k4⟩
  obtain ⟨va4, vc4, rfl, _⟩ := s4.form
  have HT : Hid _ := newText_any s4 HL1.out.1
  have H4 : Hid (Kp w w4 ∧ Kp w2 w4) := ⟨kp_trans k3 k4, kp_trans (kp_drewN _ _) k4⟩
  obtain ⟨K4, hK4⟩ : ∃ k, (one1 ls).length = k := ⟨_, rfl⟩
  rw [hK4] at HT ⊢
  clear HAt k3 s4 k4 hK4
  go_wp2_with fail
  refine Calls.mono HT.out ?_
  rintro e w5 ⟨tt, mb, o, rfl, r1, r2, r3, r4, r5, k5⟩
  obtain ⟨b, hb⟩ : ∃ b, w5.heap.size = b := ⟨_, rfl⟩
  obtain ⟨W6, hW6⟩ : ∃ z, w5.alloc (.cells #[.pointer (some ⟨tt, 0, none⟩), .map (some mb), .int .i64 1, .pointer (some ⟨t, 0, none⟩), .slice none 0 0, .map none, .int .i64 0] 86) = z := ⟨_, rfl⟩
  have k6 : Kp w5 W6 := by rw [← hW6]; exact kp_alloc _ _
  have b6 : Lc 86 b [.pointer (some ⟨tt, 0, none⟩), .map (some mb), .int .i64 1, .pointer (some ⟨t, 0, none⟩), .slice none 0 0, .map none, .int .i64 0] W6 := by rw [← hW6, ← hb]; exact Lc.new w5 [.pointer (some ⟨tt, 0, none⟩), .map (some mb), .int .i64 1, .pointer (some ⟨t, 0, none⟩), .slice none 0 0, .map none, .int .i64 0] 86
  have HK : Hid _ := keep0_any b6 (r4.kp k6) (fun x c h => by cases h)
  have H6 : Hid (Kp w W6 ∧ Kp w2 W6 ∧ w.heap.size ≤ b ∧ mb < b ∧ w.heap.size ≤ mb ∧ Tz.Tr o W6 tt (one1 ls) 50000 ∧ OT o W6 ∧ (∀ k, k < w.heap.size → o k = .free) ∧ Mz.Mp mb (Mz.vals fun _ => none) W6 ∧ b < W6.heap.size ∧ o b = .free ∧ w2.heap.size ≤ b) := by
    have hs : ∀ j, o j ≠ .free → W6.heap[j]? = w5.heap[j]? := fun j hj => k6.block j (tz_lt r1 hj)
    have z5 := k5.size
    have z4 := H4.out.1.size
    refine ⟨kp_trans (kp_trans H4.out.1 k5) k6, kp_trans (kp_trans H4.out.2 k5) k6, by omega, ?_, by omega, tz_same r1 k6.size hs, r2.same hs, fun k hk => r3 k (by omega), r4.kp k6, b6.lt, tz_new r1 (by omega), by have := H4.out.2.size; omega⟩
    obtain ⟨es, cl, q, _⟩ := r4
    have := (Array.getElem?_eq_some_iff.1 q).1; omega
  clear HT r1 r2 r3 r4 r5 k5 k6 b6 H4
  go_wp2_with fail
  refine Calls.mono HK.out ?_
  rintro e w7 ⟨rfl, kb, bx, mk, hkb, f7⟩
  have HZ : Hid (Kp w w7 ∧ ∃ o a, Bf B b o 50000 a (newS ls n) w7 ∧ (∀ k, k < w.heap.size → o k = .free)) := by
    have hbo : ∀ j, On b j → j = b := fun j e => by unfold On at e; exact e
    obtain ⟨g1, g2, g3, g4, g5, g6, g7, g8, g9, g10, g11, g12⟩ := H6.out
    have hs : ∀ j, o j ≠ .free → w7.heap[j]? = W6.heap[j]? := fun j hj => f7.block j (tz_lt g6 hj) fun e => hj (by rw [hbo j e]; exact g11)
    have kw : Kp w w7 := g1.trans (f7.below g1.size fun q hq e => by have := hbo q e; omega)
    have kw2 : Below w2.heap.size w2 w7 := g2.trans (f7.below g2.size fun q hq e => by have := hbo q e; omega)
    refine ⟨kw, o, ⟨tt, t, mb, kb, w.heap.size, .slice none 0 0⟩, ⟨Nat.le_trans HL1.out.2.1 g3, bx, tz_same g6 f7.size hs, g7.same hs, fun j hj => g8 j (by have := HL1.out.2.1; omega), g9.fr (Fr.mz f7) fun e => by have := hbo _ e; omega, Nat.le_trans HL1.out.2.1 g5, mk, by show B ≤ kb; have := g1.size; have := HL1.out.2.1; omega, by show mb ≠ kb; omega, ?_, ⟨[], World.ownsRow_nil _ _ _ _, ⟨rfl, fun i d c h1 h2 => by simp [newS] at h1⟩⟩, HL1.out.2.1⟩, g8⟩
    exact stT_first (((H2.out.2.kp kw2).monoQ fun j _ q => q.elim).lowQ HL1.out.2.1) kw.size (Nat.le_trans HL1.out.2.1 kw.size) HL1.out.2.2
  clear HK bx mk hkb f7 H6 H2
  go_wp2_with fail
  go_ret2
  exact ⟨b, rfl, HZ.out⟩
end
end Go.Proofs.YtaefeakmlgjonaaGreat
/- What a text is behind a Splice and behind Commit; Lines of any text. -/
namespace Go.Proofs.YtaefeakmlgjonaaGreat
open Go.ChangeShapes Go.WideShapes Go.ChangeAt Go.RowKit Go.Maps Go.MapKept
set_option linter.unusedVariables false
set_option linter.unusedSimpArgs false
set_option maxRecDepth 100000
section
variable {P : Nat → Prop} {B b M : Nat} {o : Tz.Own} {a : At} {s : BS} {w w1 : World} {v : Value} {ls ms : List ByteArray} {i n : Nat}
theorem part_len (hin : i + n ≤ ls.length) : ((ls.drop i).take n).length = n := by rw [List.length_take, List.length_drop]; omega
theorem part_ln (h : Ln ls) (hin : i + n ≤ ls.length) : Ln ((ls.drop i).take n) := ⟨by rw [part_len hin]; have := h.1; omega, fun x hx => h.2 x (List.mem_of_mem_drop (List.mem_of_mem_take hx))⟩
theorem app1_one {put : List ByteArray} (hin : i + n ≤ ls.length) : apps ls [⟨(i : Int), (ls.drop i).take n, put⟩] = some (spl ls i n put) := by
  have hl := part_len hin
  show (app1 ls _).bind _ = _
  unfold app1
  simp only [Int.toNat_natCast]
  rw [if_pos ⟨by omega, by omega, by rw [hl]; omega, by rw [hl]⟩, hl]
  rfl
theorem far_ln (hE : beyondE ((ls.length : Int) - (n : Int) + (ms.length : Int)) ms = 0) (hn : n ≤ ls.length) : Ln ms ∧ ls.length - n + ms.length ≤ 2000 := by
  unfold beyondE at hE
  split at hE
  · cases hE
  · split at hE
    · cases hE
    · rename_i q1 q2
      exact ⟨ln_of (by omega) (by simpa using q2), by omega⟩
theorem putC_in {c : Int} {L : Nat} (h : 1 ≤ L) : 1 ≤ putC c L ∧ putC c L ≤ (L : Int) := by unfold putC; omega
theorem fine_sp (f : Fine (s.ls.length : Int) s) (hin : i + n ≤ s.ls.length) (hE : beyondE ((s.ls.length : Int) - (n : Int) + (ms.length : Int)) ms = 0) (ho : s.op.length < 64) : Fine ((spS s i n ms).ls.length : Int) (spS s i n ms) := by
  obtain ⟨q1, q2⟩ := far_ln hE (by omega)
  have hp := putL_ln q1 s.ls.length n
  have hpl := putL_len (ms := ms) (L := s.ls.length) (n := n)
  have hl1 := f.ls.1
  have hl2 := f.ls.2.1
  have hms := q1.1
  have hlen : (spl s.ls i n (putL s.ls.length n ms)).length = s.ls.length - n + (putL s.ls.length n ms).length := spl_len hin
  have hle : s.ls.length - n + (putL s.ls.length n ms).length ≤ 2000 := by rw [hpl]; split <;> omega
  have hge : 1 ≤ s.ls.length - n + (putL s.ls.length n ms).length := by
    rw [hpl]
    by_cases z : n = s.ls.length
    · split
      · omega
      · rename_i y; omega
    · split <;> omega
  have hpo := part_ln f.ls.2 hin
  refine ⟨⟨by show 1 ≤ (spl s.ls i n (putL s.ls.length n ms)).length; omega, spl_ln f.ls.2 hp hin hle⟩, putC_in (by omega), f.tx, ⟨?_, fun d hd => ?_⟩, ?_, spF_dom f.md _ _ _, f.kd, ?_, f.kcur⟩
  · show (s.op ++ [_]).length ≤ 64
    rw [List.length_append, List.length_singleton]; omega
  · have hd' : d ∈ s.op ++ [(⟨i, (s.ls.drop i).take n, putL s.ls.length n ms⟩ : Dl)] := hd
    rcases List.mem_append.1 hd' with q | q
    · exact f.op.2 d q
    · simp only [List.mem_singleton] at q; subst q; exact ⟨hpo, hp⟩
  · show apps (s.T s.m.now) (s.op ++ [_]) = some _
    rw [apps_app, f.ap]
    exact app1_one hin
  · show Mz.Bd (((spl s.ls i n (putL s.ls.length n ms)).length : Nat) : Int) (Mz.spF s.mf ((i : Int) + 1) n (putL s.ls.length n ms).length)
    rw [hlen]; exact spF_in f.mb hin (by omega) (by omega)
/-- Behind Commit of a text's first change. -/
theorem cm_first {k : Int} (hm : s.m = first k) (hk : 2 ≤ k) (hop : s.op ≠ []) : (cmS s).m = addT (first k) s.op ∧ (cmS s).T = putT s.T 1 s.ls ∧ (cmS s).op = [] ∧ (cmS s).ls = s.ls ∧ (cmS s).cur = s.cur := by
  unfold cmS
  rw [if_neg hop]
  refine ⟨?_, by rw [hm]; rfl, rfl, rfl, rfl⟩
  show addE s.m s.op = _
  rw [hm]
  unfold addE
  rw [if_neg (by show ¬ (k < ((addT (first k) s.op).L.length : Int)); show ¬ (k < (2 : Int)); omega)]
theorem first_look {k : Int} {ds : List Dl} : look (addT (first k) ds).L (addT (first k) ds).now = some ⟨1, 0, -1, ds⟩ := by
  show look (setOn [⟨0, -1, -1, []⟩] 0 1 ++ [⟨1, 0, -1, ds⟩]) 1 = _
  rfl
theorem fine_cm1 (f : Fine (s.ls.length : Int) s) (hT : ∀ x, TxtOk (s.T x)) : Fine ((cmS s).ls.length : Int) (cmS s) ∧ ∀ x, TxtOk ((cmS s).T x) := by
  unfold cmS
  split
  · rename_i z
    refine ⟨⟨f.ls, f.cur, f.tx, f.op, f.ap, f.md, f.md, f.mb, by have := f.cur; have := f.ls.2.1; show -9223372036854775808 ≤ s.cur ∧ s.cur < _; omega⟩, hT⟩
  · have hT2 : ∀ x, TxtOk (putT s.T s.m.next s.ls x) := fun x => by
      unfold putT; split
      · exact f.ls
      · exact hT x
    obtain ⟨e1, _, _⟩ := addE_parts s.m s.op
    refine ⟨⟨f.ls, f.cur, fun x _ => hT2 x, ⟨by show (0 : Nat) ≤ 64; decide, fun d hd => by cases hd⟩, ?_, f.md, f.md, f.mb, by have := f.cur; have := f.ls.2.1; show -9223372036854775808 ≤ s.cur ∧ s.cur < _; omega⟩, hT2⟩
    show apps (putT s.T s.m.next s.ls (addE s.m s.op).now) [] = some s.ls
    rw [e1]; unfold putT; rw [if_pos rfl]; rfl
set_option maxHeartbeats 4000000 in
theorem blinesL (h : Bf B b o M a s w) (hl : s.ls.length ≤ 1000000) : Calls Tryz.prog 14 #[.pointer (some ⟨b, 0, none⟩)] w fun e w' => ∃ gb, e = .returned (.slice (some ⟨gb, 0, none⟩) s.ls.length s.ls.length) ∧ Row w.heap.size (.slice (some ⟨gb, 0, none⟩) s.ls.length s.ls.length) s.ls w' ∧ Kp w w' := by
  have c0 := h.box.at (j := 0) rfl
  have HL : Hid _ := Tz.lines_any h.tr (by omega)
  obtain ⟨n, hn⟩ : ∃ n, s.ls.length = n := ⟨_, rfl⟩
  have HN : Hid (s.ls.length = n) := hn
  rw [hn]
  clear h hl hn
  go_enter Tryz.func14, Tryz.ntmps14
  go_wp2_with fail
  refine Calls.mono HL.out ?_
  rintro e w' ⟨v, rfl, k, gb, rfl, r⟩
  have HX : Hid (Row w.heap.size (.slice (some ⟨gb, 0, none⟩) n n) s.ls w' ∧ Kp w w') := by rw [← HN.out]; exact ⟨r, k⟩
  rw [HN.out]
  clear HL k r HN
  go_wp2_with fail
  go_ret
  exact ⟨gb, rfl, HX.out⟩
end
set_option maxHeartbeats 4000000 in
theorem o2same_eq {P Q : Nat → Prop} {v1 v2 : Value} {l : List ByteArray} {w : World} (h1 : Sl P v1 l w) (h2 : Sl Q v2 l w) :
    Calls Tryz.prog 13 #[v1, v2] w fun e w' => e = .returned (.bool true) ∧ ∃ q, w' = w.drewN q := by
  obtain ⟨a1, c1, rfl, p1, p2, _⟩ := h1.form
  obtain ⟨a2, c2, rfl, _⟩ := h2.form
  obtain ⟨n, hn⟩ : ∃ n, l.length = n := ⟨_, rfl⟩
  rw [hn] at h1 h2 p1 ⊢
  have HA : Hid (Sl P (.slice a1 n c1) l w ∧ Sl Q (.slice a2 n c2) l w ∧ l.length = n) := ⟨h1, h2, hn⟩
  have hd0 : ((n : Int) != (n : Int)) = false := by simp
  unfold maxLen at p2
  have hn9 : n ≤ 9223372036854775807 := by omega
  clear h1 h2 hn p1 p2
  go_enter Tryz.func13, Tryz.ntmps13
  go_wp2_with fail
  go_loopw [5] (fun vi wr => ∃ i : Nat, i ≤ n ∧ vi = .int .i64 i ∧ ∃ q, wr = w.drewN q) (fun vi _ => n - (intOf vi).toNat)
  case atStart => exact ⟨0, Nat.zero_le _, rfl, 0, rfl⟩
  case round =>
    obtain ⟨i, hi, rfl, q, rfl⟩ := hrel
    by_cases hlt : i < n
    · have hdl : decide ((i : Int) < (n : Int)) = true := decide_eq_true (by omega)
      obtain ⟨s, hs⟩ : ∃ s, l[i]? = some s := ⟨_, List.getElem?_eq_getElem (by rw [HA.out.2.2]; exact hlt)⟩
      obtain ⟨g1, o1, rfl, _, e1⟩ := HA.out.1.at_ hs
      obtain ⟨g2, o2, rfl, _, e2⟩ := HA.out.2.1.at_ hs
      have hli : (i : Int) < (n : Int) := by omega
      clear hs
      go_wp2_with fail
      go_quiet (fail)
      go_wp2_with fail
      go_roundw
      case rel => exact ⟨i + 1, by omega, by go_num, _, rfl⟩
      case measure => simp only [intOf]; omega
    · obtain rfl : i = n := by omega
      have hdl : decide ((i : Int) < (i : Int)) = false := by simp
      go_wp2_with fail
      go_ret
      exact ⟨rfl, _, rfl⟩
theorem eqB (ad : Addr) (w : World) : Sem.run Tryz.prog (binOp BinOp.eql 25 (.pointer (some ad)) (.pointer none)) w = .ok (.bool false) w := by kernel_rfl
theorem eqB0 (w : World) : Sem.run Tryz.prog (binOp BinOp.eql 25 (.pointer none) (.pointer none)) w = .ok (.bool true) w := by kernel_rfl
theorem eqM (ad : Addr) (w : World) : Sem.run Tryz.prog (binOp BinOp.eql 38 (.pointer (some ad)) (.pointer none)) w = .ok (.bool false) w := by kernel_rfl
end Go.Proofs.YtaefeakmlgjonaaGreat
/- law13's known. -/
namespace Go.Proofs.YtaefeakmlgjonaaGreat
open Go.ChangeShapes Go.WideShapes Go.ChangeAt Go.RowKit Go.Maps Go.MapKept
set_option linter.unusedVariables false
set_option linter.unusedSimpArgs false
set_option maxRecDepth 100000
/-- The lines of the chapter's example. -/
def abc : List ByteArray := [⟨#[97]⟩, ⟨#[98]⟩, ⟨#[99]⟩]
def xy : List ByteArray := [⟨#[120]⟩, ⟨#[121]⟩]
def kS1 : BS := spS (newS abc 9) 1 1 xy
theorem kS1_op : kS1.op = [⟨1, [⟨#[98]⟩], xy⟩] := rfl
theorem kS1_ls : kS1.ls.length = 4 := rfl
theorem abc_ln : Ln abc := ⟨by decide, fun s hs => by
  simp only [abc, List.mem_cons, List.not_mem_nil, or_false] at hs
  rcases hs with rfl | rfl | rfl <;> decide⟩
theorem kFar : beyondE ((((newS abc 9).ls.length : Nat) : Int) - ((1 : Nat) : Int) + ((xy.length : Nat) : Int)) xy = 0 := by decide
theorem kFine1 : Fine (kS1.ls.length : Int) kS1 := fine_sp (fine_new abc_ln 9) (by decide) kFar (by decide)
theorem kFine2 : Fine ((cmS kS1).ls.length : Int) (cmS kS1) := (fine_cm1 kFine1 (fun x => ⟨by show 1 ≤ abc.length; decide, abc_ln⟩)).1
theorem kCm : (cmS kS1).m = addT (first 9) kS1.op ∧ (cmS kS1).T = putT kS1.T 1 kS1.ls ∧ (cmS kS1).op = [] ∧ (cmS kS1).ls = kS1.ls ∧ (cmS kS1).cur = kS1.cur := cm_first rfl (by decide) (by rw [kS1_op]; simp)
theorem abc_row (w : World) : Lc 9 w.heap.size [.string ⟨#[97]⟩, .string ⟨#[98]⟩, .string ⟨#[99]⟩] (w.alloc (.cells #[.string ⟨#[97]⟩, .string ⟨#[98]⟩, .string ⟨#[99]⟩] 9)) := Lc.new w [.string ⟨#[97]⟩, .string ⟨#[98]⟩, .string ⟨#[99]⟩] 9
theorem lc_sl {p : Nat} {ls : List ByteArray} {w : World} (h : Lc 9 p (strs ls) w) (hm : ls.length ≤ 1000) : Sl (fun _ => True) (.slice (some ⟨p, 0, none⟩) ls.length ls.length) ls w :=
  ⟨_, _, rfl, Nat.le_refl _, by unfold maxLen; omega, (fun e => by cases e), fun i s hi => ⟨p, 0, rfl, trivial, by rw [Nat.zero_add]; exact h.at (by simp [strs, hi])⟩⟩
set_option maxHeartbeats 64000000 in
theorem bknown_any (W : World) : Calls Tryz.prog 10 #[] W fun e w' => e = .returned (.bool true) ∧ Kp W w' := by
  obtain ⟨W1, hW1⟩ : ∃ z, W.alloc (.cells #[.string ⟨#[97]⟩, .string ⟨#[98]⟩, .string ⟨#[99]⟩] 9) = z := ⟨_, rfl⟩
  obtain ⟨p, hp⟩ : ∃ p, W.heap.size = p := ⟨_, rfl⟩
  have b1 : Lc 9 p (strs abc) W1 := by rw [← hW1, ← hp]; exact abc_row W
  have k1 : Kp W W1 := by rw [← hW1]; exact kp_alloc _ _
  have HN : Hid _ := bnew_yes (B := W.heap.size) k1.size (lc_sl b1 (by decide)) (n := 9) (by decide) (by decide)
  have H1 : Hid (Kp W W1) := k1
  have e1 := eqB
  have e2 := eqM
  have e3 := eqlT
  clear b1 k1
  go_enter Tryz.func10, Tryz.ntmps10
  go_wp2_with fail
  refine Calls.mono HN.out ?_
  rintro e w2 ⟨b, rfl, k2, o, a, h2, _⟩
  have H2 : Hid (Kp W w2 ∧ Bf W.heap.size b o 50000 a (newS abc 9) w2) := ⟨kp_trans H1.out k2, h2⟩
  clear HN H1 k2 h2
  go_wp2_with fail
  refine Calls.mono (bmarks_any _ _) ?_
  rintro e w2' ⟨rfl, rfl⟩
  go_wp2_with fail
  refine Calls.mono (bstates_any H2.out.2) ?_
  rintro e w2'' ⟨rfl, rfl⟩
  obtain ⟨q, hq⟩ : ∃ q, w2''.heap.size = q := ⟨_, rfl⟩
  obtain ⟨W3, hW3⟩ : ∃ z, w2''.alloc (.cells #[.string ⟨#[120]⟩, .string ⟨#[121]⟩] 9) = z := ⟨_, rfl⟩
  have b3 : Lc 9 q (strs xy) W3 := by rw [← hW3, ← hq]; exact Lc.new w2'' [.string ⟨#[120]⟩, .string ⟨#[121]⟩] 9
  have k3 : Kp w2'' W3 := by rw [← hW3]; exact kp_alloc _ _
  have HS : Hid (Calls Tryz.prog 24 #[.pointer (some ⟨b, 0, none⟩), .int .i64 2, .int .i64 1, .slice (some ⟨q, 0, none⟩) 2 2] W3 fun e w' => e = .returned (.int .u16 0) ∧ ∃ o' ov', Bf W.heap.size b o' 140000 { a with ov := ov' } kS1 w' ∧ FK W.heap.size o o' W3 w') :=
    splice_done (H2.out.2.kp_ k3) (fine_new abc_ln 9) (by decide) (by decide) (i := 1) (n := 1) (by decide) (lc_sl b3 (by decide)) (by decide) kFar (by decide)
  have H3 : Hid (Kp W W3) := kp_trans H2.out.1 k3
  clear H2 b3 k3
  go_wp2_with fail
  refine Calls.mono HS.out ?_
  rintro e w4 ⟨rfl, o4, ov4, h4, f4⟩
  have HC : Hid _ := commit_yes h4 kFine1 (by rw [kS1_op]; simp) (by decide)
  have H4 : Hid (Kp W w4) := H3.out.trans (f4.below H3.out.size)
  clear HS H3 h4 f4
  go_wp2_with fail
  refine Calls.mono HC.out ?_
  rintro e w5 ⟨rfl, a5, ha5, h5, f5⟩
  have HLn : Hid (Calls Tryz.prog 20 #[.pointer (some ⟨b, 0, none⟩)] w5 fun e w' => e = .returned (.int .i64 4) ∧ ∃ q, w' = w5.drewN q) := by
    have := blen_any h5
    rw [kCm.2.2.2.1, kS1_ls] at this; exact this
  have H5 : Hid (Kp W w5 ∧ Bf W.heap.size b o4 140000 a5 (cmS kS1) w5) := ⟨H4.out.trans (f5.below H4.out.size), h5⟩
  have hnx : (kS1.m.next : Int) = 1 := rfl
  rw [hnx]
  clear HC H4 h5 f5 ha5 hnx
  go_wp2_with fail
  refine Calls.mono HLn.out ?_
  rintro e w6 ⟨rfl, q6, rfl⟩
  have h6 := H5.out.2.kp_ (kp_drewN w5 q6)
  have HU : Hid _ := bundo_any (c := 64) h6 kFine2 kCm.2.2.1 (by decide) (by decide) (st := ⟨1, 0, -1, kS1.op⟩) (by rw [kCm.1]; exact first_look) (fun x s' hx => (h6.st.sm x s' hx).1)
  have H6 : Hid (Kp W (w5.drewN q6)) := kp_trans H5.out.1 (kp_drewN _ _)
  clear HLn H5 h6
  go_wp2_with fail
  refine Calls.mono HU.out ?_
  rintro e w7 ⟨err, rfl, ⟨_, ⟨_, hbad⟩, _⟩ | ⟨rfl, o7, kb7, m', ds, ⟨_, rfl, rfl⟩, _, h7, f7⟩⟩
  · exact absurd hbad (by decide)
  have hls : (wyS (cmS kS1) { (cmS kS1).m with now := 0 } (turnD kS1.op)).ls = abc := by
    show (cmS kS1).T 0 = abc
    rw [kCm.2.1]; rfl
  have hcu : (wyS (cmS kS1) { (cmS kS1).m with now := 0 } (turnD kS1.op)).cur = 2 := by
    show curT (cmS kS1) (turnD kS1.op) ((cmS kS1).T 0).length = 2
    rw [kCm.2.1]; rfl
  have HLi : Hid _ := blinesL h7 (by show ((wyS (cmS kS1) { (cmS kS1).m with now := 0 } (turnD kS1.op)).ls).length ≤ _; rw [hls]; decide)
  have HCu : Hid (∀ z, Kp w7 z → Calls Tryz.prog 25 #[.pointer (some ⟨b, 0, none⟩)] z fun e w' => e = .returned (.int .i64 2) ∧ w' = z) := fun z kz => by
    have := bcursor_any (h7.kp_ kz)
    rw [show (wyS (cmS kS1) { (cmS kS1).m with now := (⟨1, 0, -1, kS1.op⟩ : St).fr } (turnD (⟨1, 0, -1, kS1.op⟩ : St).by_)).cur = 2 from hcu] at this
    exact this
  have H7 : Hid (Kp W w7) := H6.out.trans (f7.below H6.out.size)
  rw [show (wyS (cmS kS1) { (cmS kS1).m with now := (⟨1, 0, -1, kS1.op⟩ : St).fr } (turnD (⟨1, 0, -1, kS1.op⟩ : St).by_)).ls = abc from hls] at HLi
  rw [show abc.length = 3 from rfl] at HLi
  clear HU H6 h7 f7 hls hcu
  go_wp2_with fail
  refine Calls.mono HLi.out ?_
  rintro e w8 ⟨gb, rfl, r8, k8⟩
  obtain ⟨p8, hp8⟩ : ∃ p, w8.heap.size = p := ⟨_, rfl⟩
  obtain ⟨W9, hW9⟩ : ∃ z, w8.alloc (.cells #[.string ⟨#[97]⟩, .string ⟨#[98]⟩, .string ⟨#[99]⟩] 9) = z := ⟨_, rfl⟩
  have b9 : Lc 9 p8 (strs abc) W9 := by rw [← hW9, ← hp8]; exact abc_row w8
  have k9 : Kp w8 W9 := by rw [← hW9]; exact kp_alloc _ _
  have HSm : Hid (Calls Tryz.prog 13 #[.slice (some ⟨gb, 0, none⟩) 3 3, .slice (some ⟨p8, 0, none⟩) 3 3] W9 fun e w' => e = .returned (.bool true) ∧ ∃ q, w' = W9.drewN q) := o2same_eq ((Sl.of_row r8).kp k9) (lc_sl b9 (by decide))
  have H9 : Hid (Kp w7 W9 ∧ Kp W W9) := ⟨kp_trans k8 k9, kp_trans H7.out (kp_trans k8 k9)⟩
  clear HLi r8 k8 b9 k9 H7
  go_wp2_with fail
  refine Calls.mono HSm.out ?_
  rintro e w10 ⟨rfl, q10, rfl⟩
  clear HSm
  go_wp2_with fail
  refine Calls.mono (HCu.out _ (kp_trans H9.out.1 (kp_drewN _ _))) ?_
  rintro e w11 ⟨rfl, rfl⟩
  have HX : Hid (Kp W (W9.drewN q10)) := kp_trans H9.out.2 (kp_drewN _ _)
  clear HCu H9
  go_wp2_with fail
  go_ret
  exact ⟨rfl, HX.out⟩
end Go.Proofs.YtaefeakmlgjonaaGreat
namespace Go.Proofs.YtaefeakmlgjonaaGreat
open Go.ChangeShapes Go.WideShapes Go.ChangeAt Go.RowKit Go.Maps Go.MapKept
set_option linter.unusedVariables false
set_option linter.unusedSimpArgs false
set_option maxRecDepth 100000
section
variable {P : Nat → Prop} {B : Nat} {w w1 : World} {v : Value} {ls : List ByteArray}
theorem sl_below (h : Sl (fun k => k < B) v ls w) (k : Below B w w1) : Sl (fun k => k < B) v ls w1 := by
  obtain ⟨a, cap, rfl, q1, q2, q3, q4⟩ := h
  refine ⟨a, cap, rfl, q1, q2, q3, fun i s hi => ?_⟩
  obtain ⟨g, o, e, p, c⟩ := q4 i s hi
  exact ⟨g, o, e, p, by rw [World.cell?_of_block (k.block g p)]; exact c⟩
end
section
variable {ls : List ByteArray}
theorem ln_new (hE : beyondE (ls.length : Int) ls = 0) : Ln ls := by
  unfold beyondE at hE
  split at hE
  · cases hE
  · split at hE
    · cases hE
    · rename_i q1 q2
      exact ln_of (by omega) (by simpa using q2)
end
end Go.Proofs.YtaefeakmlgjonaaGreat
/- Lines that are handed in. -/
namespace Go.Proofs.YtaefeakmlgjonaaGreat
open Go.ChangeShapes Go.WideShapes Go.ChangeAt Go.RowKit
set_option linter.unusedVariables false
set_option linter.unusedSimpArgs false
set_option maxRecDepth 100000
def Anyw (_ : Nat) : Prop := True
theorem fU8 {a : Int} (w : (Lit.int .u8 a).wf = true) : 0 ≤ a ∧ a < 256 := by
  have h : (decide (IntKind.u8.min ≤ a) && decide (a ≤ IntKind.u8.max)) = true := w
  rw [Bool.and_eq_true, decide_eq_true_eq, decide_eq_true_eq] at h
  have e1 : IntKind.u8.min = 0 := by decide
  have e2 : IntKind.u8.max = 255 := by decide
  omega
theorem cInt : Tryz.prog.cellsOf 3 = 1 := by kernel_rfl
theorem cUB : Tryz.prog.cellsOf 5 = 1 := by kernel_rfl
theorem cStr : Tryz.prog.cellsOf 9 = 1 := by kernel_rfl
theorem cStrs : Tryz.prog.cellsOf 22 = 1 := by kernel_rfl
theorem bulk_mem {H : Type} {d : DataW H} {l : List (DataW H)} (h : d ∈ l) : Rows.uptoBulk d ≤ Rows.uptoBulkAll l := by
  induction l with
  | nil => cases h
  | cons x r ih =>
    simp only [Rows.uptoBulkAll]
    cases List.mem_cons.1 h with
    | inl e => subst e; omega
    | inr e => have := ih e; omega
theorem bulk_of {H : Type} {l : List (DataW H)} (hk : Rows.uptoSmall H l = true) {j : Nat} {d : DataW H} (hd : l[j]? = some d) : Rows.uptoBulk d ≤ 1048576 := by
  have h : Rows.uptoBulkAll l ≤ 1048576 := of_decide_eq_true hk
  have := bulk_mem (List.mem_of_getElem? hd)
  omega
theorem bulk_one {H : Type} (x : DataW H) : 1 ≤ Rows.uptoBulk x := by
  cases x with
  | lit l => cases l <;> simp [Rows.uptoBulk]
  | _ => simp [Rows.uptoBulk]
theorem bulk_sum {H : Type} (D : Nat → DataW H) (w : Nat → Nat) : ∀ l : List Nat, (∀ i ∈ l, w i ≤ Rows.uptoBulk (D i)) → (l.map w).sum ≤ Rows.uptoBulkAll (l.map D)
  | [], _ => by simp
  | a :: r, h => by
    have h1 := h a (by simp)
    have h2 := bulk_sum D w r fun i hi => h i (by simp [hi])
    simp only [List.map_cons, List.sum_cons, Rows.uptoBulkAll]
    omega
theorem bulk_len {H : Type} (l : List (DataW H)) : l.length ≤ Rows.uptoBulkAll l := by
  induction l with
  | nil => simp
  | cons x r ih =>
    have := bulk_one x
    simp only [Rows.uptoBulkAll, List.length_cons]; omega
theorem lines_cells {H : Type} {enc : TypeId × Value → H} {W : World} {fuel : Nat} {v : Value} {d : DataW H} {p : List MemPlace} (h : DataW.trod enc Tryz.prog W 0 (fun _ => true) true fuel 22 [v] = some (d, p)) :
    ∃ ls, Sl Anyw v ls W ∧ ls.length + 1 ≤ Rows.uptoBulk d := by
  rcases Deep.open_strs Tryz.underlying22 Tryz.underlying9 cStr h with ⟨hcs, hx⟩ | ⟨a, len, cap, m, Sx, hcs, _, hl, hm, hmm, hx, hcell⟩
  · simp only [List.cons.injEq, and_true] at hcs
    subst hcs
    exact ⟨[], Sl.nil _ _, bulk_one d⟩
  · simp only [List.cons.injEq, and_true] at hcs
    subst hcs
    simp only [if_true] at hmm
    subst hmm
    simp only [Prod.mk.injEq] at hx
    refine ⟨(List.range len).map Sx, ⟨some a, m, by simp, by simpa using hl, hm, (fun e => by cases e), fun i s hi => ?_⟩, ?_⟩
    · simp only [List.getElem?_map, Option.map_eq_some_iff] at hi
      obtain ⟨k, hk, rfl⟩ := hi
      obtain ⟨hlt, hk⟩ := List.getElem?_eq_some_iff.1 hk
      simp at hk hlt
      subst hk
      obtain ⟨b, off, spot⟩ := a
      have hspot : spot = none := by simpa [Addr.add] using World.cell?_spot (hcell 0 (by omega)).1
      subst hspot
      refine ⟨b, off, rfl, trivial, ?_⟩
      have := (hcell i (by omega)).1
      rw [add2] at this
      exact this
    · rw [hx.1]
      simp only [Rows.uptoBulk]
      have := bulk_len ((List.range len).map fun i => (DataW.lit (.string (Sx i).data.toList) : DataW H))
      simp only [List.length_map, List.length_range] at this ⊢
      omega
theorem strs_form {H : Type} {enc : TypeId × Value → H} {W : World} {base : Nat} {v : Value} {d : DataW H} {p : List MemPlace} (hval : Value.okWide Tryz.prog W .any base 22 v) (h : DataW.Trod enc Tryz.prog W 0 (fun _ => true) true 22 v d p) :
    ∃ ls, Sl (fun k => k < W.heap.size) v ls W ∧ ls.length + 1 ≤ Rows.uptoBulk d := by
  obtain ⟨a0, len0, cap0, rfl⟩ := okWide_slice Tryz.underlying22 hval
  obtain ⟨fuel, hf⟩ := h
  obtain ⟨ls, h1, h2⟩ := lines_cells hf
  exact ⟨ls, h1.mono fun k hk _ => hk, h2⟩
end Go.Proofs.YtaefeakmlgjonaaGreat
/- slices.Grow of nil, slices.Concat of lines. -/
namespace Go.Proofs.YtaefeakmlgjonaaGreat
open Go.ChangeShapes Go.WideShapes Go.ChangeAt Go.RowKit Go.Maps Go.MapKept
set_option linter.unusedVariables false
set_option linter.unusedSimpArgs false
set_option maxRecDepth 100000
set_option maxHeartbeats 2000000 in
theorem grow_any (n : Nat) (hn : 0 < n) (hl : n ≤ 8796093022208) (w : World) :
    Calls Tryz.prog 129 #[.slice none 0 0, .int .i64 n] w fun e w' => ∃ a c, e = .returned (.slice a 0 c) ∧ Row w.heap.size (.slice a 0 c) [] w' ∧ Kp w w' := by
  obtain ⟨i9, hi9, z0, z1, z2⟩ := info_parts infoStr
  have hge := grownCap_ge w n 0 9
  have hle := grownCap_le_maxLen w n 0 9 (by unfold maxLen; omega)
  obtain ⟨W1, hrz, hR⟩ : ∃ W1, (∀ ty, (Builtin.append_ #[22, 3] ty #[.slice none 0 0, .int .i64 n]).run Tryz.prog w = .ok (.slice (some ⟨w.heap.size, 0, none⟩) n (grownCap w n 0 9)) W1) ∧ Row w.heap.size (.slice (some ⟨w.heap.size, 0, none⟩) 0 (grownCap w n 0 9)) [] W1 ∧ Kp w W1 := by
    have hold : (Builtin.firstCells i9.size 0 (.slice none 0 0)).run Tryz.prog w.drew = .ok ([] : List Value).toArray w.drew := run_firstCells_none w.drew i9.size 0 0 0
    refine ⟨w.drew.alloc (.cells (Builtin.zeroCells #[.string ⟨#[]⟩] n ++ Builtin.zeroCells #[.string ⟨#[]⟩] (grownCap w n 0 9 - n)) 9), fun ty => ?_, ?_, ?_⟩
    rotate_left
    · exact World.ownsRow_made (e := 9) (size := 1) w.drew (Builtin.zeroCells #[.string ⟨#[]⟩] n ++ Builtin.zeroCells #[.string ⟨#[]⟩] (grownCap w n 0 9 - n)) _ (Nat.le_refl _) hle (by rw [Array.size_append, size_zeroCells, size_zeroCells]; simp; omega)
    · exact kp_more (kp_drew _) _
    · have h := Lib.run_append_grow_zeros w 22 3 ty 9 i9 (.string ⟨#[]⟩) .i64 .i64 Tryz.underlying22 Tryz.underlying3 hi9 z0 none 0 0 [] hold n hn (by rw [z1]; omega) (by omega) (by omega) (by rw [z2]; omega)
        (by rw [z2]; have := nextslicecap_le (need := 0 + n) (old := 0) (by omega); omega)
      have e : (Value.string ⟨#[]⟩).cells = #[.string ⟨#[]⟩] := rfl
      simp only [e, Nat.zero_add] at h
      simpa using h
  have HR : Hid _ := hR
  clear hR
  have d1 : decide ((n : Int) < 0) = false := decide_eq_false (by omega)
  have d2 : decide ((n : Int) > 0) = true := decide_eq_true (by omega)
  have d3 : decide ((0 : Int) < (n : Int)) = true := decide_eq_true (by omega)
  unfold maxLen at hle
  generalize grownCap w n 0 9 = G at *
  go_enter Tryz.func129, Tryz.ntmps129
  go_wp2_with (at_builtin; refine Lib.wpList_append_run _ rfl _ _ _ _ rfl _ _ rfl rfl _ _ (hrz _) ?_)
  go_ret
  exact ⟨_, _, rfl, HR.out⟩
theorem flat_take (lss : List (List ByteArray)) {i : Nat} {ls : List ByteArray} (h : lss[i]? = some ls) : (lss.take (i + 1)).flatten = (lss.take i).flatten ++ ls := by
  rw [List.take_add_one, h, Option.toList_some, List.flatten_append]; simp
theorem flat_le (lss : List (List ByteArray)) (i : Nat) : (lss.take i).flatten.length ≤ lss.flatten.length := by
  have h : lss.flatten = (lss.take i).flatten ++ (lss.drop i).flatten := by rw [← List.flatten_append, List.take_append_drop]
  rw [h, List.length_append]; omega
set_option maxHeartbeats 4000000 in
theorem concat_any {P : Nat → Prop} {gb k : Nat} {vs : List Value} {lss : List (List ByteArray)} {w : World} (hb : Lc 22 gb vs w) (hv : vs.length = k) (hk : lss.length = k) (hk9 : k ≤ 100)
    (hS : ∀ (j : Nat) (v : Value) (ls : List ByteArray), vs[j]? = some v → lss[j]? = some ls → Sl P v ls w) (hpos : 0 < lss.flatten.length) (hmax : lss.flatten.length ≤ 8796093022208) :
    Calls Tryz.prog 87 #[.slice (some ⟨gb, 0, none⟩) k k] w fun e w' => ∃ a c, e = .returned (.slice a lss.flatten.length c) ∧ Row w.heap.size (.slice a lss.flatten.length c) lss.flatten w' ∧ Kp w w' := by
  have HA : Hid (∀ i, i < k → ∃ (a : Option Addr) (ls : List ByteArray) (c : Nat), w.cell? ⟨gb, i, none⟩ = some (.slice a ls.length c) ∧ lss[i]? = some ls ∧ Sl P (.slice a ls.length c) ls w ∧ ls.length ≤ c ∧ c ≤ maxLen) := fun i hi => by
    obtain ⟨v, hvi⟩ : ∃ v, vs[i]? = some v := ⟨_, List.getElem?_eq_getElem (by omega)⟩
    obtain ⟨ls, hli⟩ : ∃ ls, lss[i]? = some ls := ⟨_, List.getElem?_eq_getElem (by omega)⟩
    have h1 := hS i v ls hvi hli
    obtain ⟨a, c, rfl, q1, q2, _⟩ := h1.form
    exact ⟨a, ls, c, hb.at hvi, hli, h1, q1, q2⟩
  have HT : Hid (∀ (i : Nat) (ls : List ByteArray), lss[i]? = some ls → (lss.take (i + 1)).flatten = (lss.take i).flatten ++ ls ∧ (lss.take (i + 1)).flatten.length ≤ lss.flatten.length) := fun i ls h => ⟨flat_take lss h, flat_le lss _⟩
  have HE : Hid (lss.take k = lss) := by exact List.take_of_length_le (by omega)
  obtain ⟨M, hM⟩ : ∃ M, lss.flatten.length = M := ⟨_, rfl⟩
  have HM : Hid (lss.flatten.length = M) := hM
  rw [hM] at hpos hmax HT ⊢
  clear hM hS hb hv hk
  go_enter Tryz.func87, Tryz.ntmps87
  go_wp2_with fail
  go_loopw [3, 11] (fun v3 v11 wr => ∃ i m : Nat, i ≤ k ∧ v11 = .int .i64 i ∧ v3 = .int .i64 m ∧ m ≤ M ∧ w = wr ∧ Hid ((lss.take i).flatten.length = m)) (fun _ v11 _ => k - (intOf v11).toNat)
  case atStart => exact ⟨0, 0, Nat.zero_le _, rfl, rfl, Nat.zero_le _, rfl, rfl⟩
  case round =>
    obtain ⟨i, m, hi, rfl, rfl, hmM, rfl, HI⟩ := hrel
    by_cases q : i < k
    · have d1 : decide ((i : Int) < (k : Int)) = true := decide_eq_true (by omega)
      have d2 : decide (i < k) = true := decide_eq_true (by omega)
      obtain ⟨a, ls, c, c1, hls, _, hc1, hc2⟩ := HA.out i q
      obtain ⟨e1, e2⟩ := HT.out i ls hls
      have HN : Hid ((lss.take (i + 1)).flatten.length = m + ls.length) := by show _ = _; rw [e1, List.length_append, HI.out]
      obtain ⟨L, hL⟩ : ∃ L, ls.length = L := ⟨_, rfl⟩
      have hLM : m + L ≤ M := by have := HN.out; omega
      rw [hL] at c1 HN
      clear e1 e2 hls hL hc1 hc2 HI
      go_wp2_with fail
      go_roundw
      case rel => exact ⟨i + 1, m + L, by omega, by go_num, by go_num, by omega, trivial, HN.out⟩
      case measure => simp only [intOf]; omega
    · obtain rfl : i = k := by omega
      have d1 : decide ((i : Int) < (i : Int)) = false := by simp
      have hmm : m = M := by have := HI.out; rw [HE.out, HM.out] at this; omega
      subst hmm
      clear HI hi q hmM
      have HG : Hid _ := grow_any m hpos hmax w
      go_wp2_with fail
      refine Calls.mono HG.out ?_
      rintro e w1 ⟨a0, c0, rfl, hr0, hk0⟩
      have H0 : Hid (Row w.heap.size (.slice a0 0 c0) [] w1 ∧ Kp w w1) := ⟨hr0, hk0⟩
      clear HG hr0 hk0
      go_wp2_with fail
      go_loopw [6, 27] (fun v6 v27 wr => ∃ (j n : Nat) (a : Option Addr) (c : Nat), j ≤ i ∧ v27 = .int .i64 j ∧ v6 = .slice a n c ∧ n ≤ m ∧ Hid (Row w.heap.size (.slice a n c) (lss.take j).flatten wr ∧ Kp w wr ∧ (lss.take j).flatten.length = n)) (fun _ v27 _ => i - (intOf v27).toNat)
      case atStart => exact ⟨0, 0, a0, c0, Nat.zero_le _, rfl, rfl, Nat.zero_le _, H0.out.1, H0.out.2, rfl⟩
      case round =>
        obtain ⟨j, n, a, c, hj, rfl, rfl, hnm, HI⟩ := hrel
        clear H0
        by_cases q : j < i
        · have d3 : decide ((j : Int) < (i : Int)) = true := decide_eq_true (by omega)
          have d4 : decide (j < i) = true := decide_eq_true (by omega)
          obtain ⟨b, ls, c', c1, hls, hsl, hc1, hc2⟩ := HA.out j q
          obtain ⟨e1, e2⟩ := HT.out j ls hls
          replace c1 := kp_cell HI.out.2.1 c1
          have HS2 : Hid (Sl P (.slice b ls.length c') ls wr) := hsl.kp HI.out.2.1
          have HN : Hid ((lss.take (j + 1)).flatten = (lss.take j).flatten ++ ls ∧ (lss.take j).flatten.length + ls.length ≤ m) := ⟨e1, by rw [e1, List.length_append] at e2; exact e2⟩
          have HR : Hid (Row w.heap.size (.slice a n c) (lss.take j).flatten wr) := HI.out.1
          have HD : Hid ((lss.take j).flatten.length = n) := HI.out.2.2
          obtain ⟨L, hL⟩ : ∃ L, ls.length = L := ⟨_, rfl⟩
          have HL : Hid (ls.length = L) := hL
          have hLM : n + L ≤ m := by have := HN.out.2; rw [HD.out] at this; omega
          have HB : Hid (w.heap.size ≤ wr.heap.size) := HI.out.2.1.size
          have HF : Hid (∀ a' c2 w', Row w.heap.size (.slice a' (n + L) c2) ((lss.take j).flatten ++ ls) w' → wr.grownBy w' (Value.slice a n c).ownBlock → Row w.heap.size (.slice a' (n + L) c2) (lss.take (j + 1)).flatten w' ∧ Kp w w' ∧ (lss.take (j + 1)).flatten.length = n + L) := fun a' c2 w' q1 q2 => by
            refine ⟨by rw [HN.out.1]; exact q1, HI.out.2.1.trans (below_grown HR.out HB.out q2), by rw [HN.out.1, List.length_append, HD.out, HL.out]⟩
          rw [hL] at c1 HS2
          clear e1 e2 hls hL hc1 hc2 HI hsl
          go_wp2_with (at_builtin; refine wpl_str (K := n + L) rfl (.tmp 31) (.tmp 32) rfl rfl HR.out rfl HS2.out (by rw [HD.out, HL.out]) (by omega) HB.out ?_; intro a' c2 w' r1 r2 r3 r4; have HX : Hid _ := HF.out a' c2 w' r3 r4; clear r3 r4)
          clear HF HR HS2 HD HL HB HN c1
          go_roundw
          case rel => exact ⟨j + 1, n + L, a', c2, by omega, by go_num, rfl, by omega, HX.out⟩
          case measure => simp only [intOf]; omega
        · obtain rfl : j = i := by omega
          have d3 : decide ((j : Int) < (j : Int)) = false := by simp
          have HX : Hid (Row w.heap.size (.slice a n c) lss.flatten wr ∧ Kp w wr) := by
            have h1 := HI.out
            rw [HE.out] at h1
            exact ⟨h1.1, h1.2.1⟩
          obtain rfl : n = m := by have h1 := HI.out.2.2; rw [HE.out, HM.out] at h1; omega
          clear HI
          go_wp2_with fail
          go_ret
          exact ⟨_, _, rfl, HX.out⟩
end Go.Proofs.YtaefeakmlgjonaaGreat
/- Lines that change places: plainly. -/
namespace Go.Proofs.YtaefeakmlgjonaaGreat
open Go.ChangeShapes Go.WideShapes Go.ChangeAt Go.RowKit Go.Maps Go.MapKept
set_option linter.unusedVariables false
set_option linter.unusedSimpArgs false
set_option maxRecDepth 100000
section
variable {ls : List ByteArray} {f p l : Nat}
/-- The lines from f on, up to l, those before p of them behind the others. -/
def exL (ls : List ByteArray) (f p l : Nat) : List ByteArray := ((ls.drop f).take (l - f)).drop p ++ ((ls.drop f).take (l - f)).take p
theorem prt_len {n : Nat} (h : f + n ≤ ls.length) : ((ls.drop f).take n).length = n := by rw [List.length_take, List.length_drop]; omega
theorem exL_len (h1 : f + p ≤ l) (h2 : l ≤ ls.length) : (exL ls f p l).length = l - f := by
  have e : ((ls.drop f).take (l - f)).length = l - f := by rw [List.length_take, List.length_drop]; omega
  unfold exL
  rw [List.length_append, List.length_drop, e, List.length_take, e]
  omega
theorem exL_ln (h : Ln ls) (h1 : f + p ≤ l) (h2 : l ≤ ls.length) : Ln (exL ls f p l) := by
  refine ⟨by rw [exL_len h1 h2]; have := h.1; omega, fun x hx => ?_⟩
  unfold exL at hx
  rcases List.mem_append.1 hx with q | q
  · exact h.2 x (List.mem_of_mem_drop (List.mem_of_mem_take (List.mem_of_mem_drop q)))
  · exact h.2 x (List.mem_of_mem_drop (List.mem_of_mem_take (List.mem_of_mem_take q)))
def mvL (ls : List ByteArray) (f p l : Nat) : List ByteArray := spl ls f (l - f) (exL ls f p l)
theorem mvL_len (h1 : f + p ≤ l) (h2 : l ≤ ls.length) : (mvL ls f p l).length = ls.length := by
  unfold mvL; rw [spl_len (by omega), exL_len h1 h2]; omega
theorem mvL_at (h1 : f + p ≤ l) (h2 : l ≤ ls.length) (j : Nat) : (mvL ls f p l)[j]? = if j < f then ls[j]? else if j < l - p then ls[j + p]? else if j < l then ls[j - (l - p) + f]? else ls[j]? := by
  unfold mvL spl exL
  have e1 : (ls.take f).length = f := by rw [List.length_take]; omega
  have e2 : ((ls.drop f).take (l - f)).length = l - f := by rw [List.length_take, List.length_drop]; omega
  have e3 : (((ls.drop f).take (l - f)).drop p).length = l - f - p := by rw [List.length_drop, e2]
  have e4 : (((ls.drop f).take (l - f)).take p).length = p := by rw [List.length_take, e2]; omega
  rw [List.append_assoc]
  by_cases c1 : j < f
  · rw [if_pos c1, List.getElem?_append_left (by omega), List.getElem?_take, if_pos c1]
  · rw [if_neg c1, List.getElem?_append_right (by omega), e1]
    by_cases c2 : j < l - p
    · rw [if_pos c2, List.getElem?_append_left (by rw [List.length_append]; omega), List.getElem?_append_left (by omega), List.getElem?_drop, List.getElem?_take, if_pos (by omega), List.getElem?_drop]
      congr 1; omega
    · rw [if_neg c2]
      by_cases c3 : j < l
      · rw [if_pos c3, List.getElem?_append_left (by rw [List.length_append]; omega), List.getElem?_append_right (by omega), e3, List.getElem?_take, if_pos (by omega), List.getElem?_take, if_pos (by omega), List.getElem?_drop]
        congr 1; omega
      · rw [if_neg c3, List.getElem?_append_right (by rw [List.length_append]; omega), List.length_append, e3, e4, List.getElem?_drop]
        congr 1; omega
/-- Lines that went up: those from p on, now at f. -/
theorem mvL_up (h1 : f + p ≤ l) (h2 : l ≤ ls.length) : ((mvL ls f p l).drop f).take (l - f - p) = (ls.drop (f + p)).take (l - f - p) := by
  refine List.ext_getElem? fun j => ?_
  rw [List.getElem?_take, List.getElem?_take]
  by_cases c : j < l - f - p
  · rw [if_pos c, if_pos c, List.getElem?_drop, List.getElem?_drop, mvL_at h1 h2, if_neg (by omega), if_pos (by omega)]
    congr 1; omega
  · rw [if_neg c, if_neg c]
/-- Lines that went down: the first p, now up to l. -/
theorem mvL_down (h1 : f + p ≤ l) (h2 : l ≤ ls.length) : ((mvL ls f p l).drop (l - p)).take p = (ls.drop f).take p := by
  refine List.ext_getElem? fun j => ?_
  rw [List.getElem?_take, List.getElem?_take]
  by_cases c : j < p
  · rw [if_pos c, if_pos c, List.getElem?_drop, List.getElem?_drop, mvL_at h1 h2, if_neg (by omega), if_neg (by omega), if_pos (by omega)]
    congr 1; omega
  · rw [if_neg c, if_neg c]
end
end Go.Proofs.YtaefeakmlgjonaaGreat
namespace Go.Proofs.YtaefeakmlgjonaaGreat
open Go.ChangeShapes Go.WideShapes Go.ChangeAt Go.RowKit Go.Maps Go.MapKept
set_option linter.unusedVariables false
set_option linter.unusedSimpArgs false
set_option maxRecDepth 100000
section
variable {P : Nat → Prop} {v : Value} {ls : List ByteArray} {w w1 : World}
theorem Sl.sub {a : Option Addr} {n c : Nat} (h : Sl P (.slice a n c) ls w) {i k c' : Nat} (hik : i + k ≤ ls.length) (hc : c' + i = c) {a' : Option Addr} (ha : a' = (if c = i then a else a.map (·.add i)) ) : Sl P (.slice a' k c') ((ls.drop i).take k) w := by
  obtain ⟨a0, cap, e, h1, h2, h3, h4⟩ := h
  cases e
  have hlen : ((ls.drop i).take k).length = k := by rw [List.length_take, List.length_drop]; omega
  refine ⟨a', c', by rw [hlen], by rw [hlen]; omega, by omega, fun e => ?_, fun j s hj => ?_⟩
  · rw [ha] at e
    split at e
    · omega
    · cases a with
      | none => have := h3 rfl; omega
      | some ad => cases e
  · have hjl := (List.getElem?_eq_some_iff.1 hj).1
    rw [hlen] at hjl
    rw [List.getElem?_take, if_pos hjl, List.getElem?_drop] at hj
    obtain ⟨g, o, e, q, cc⟩ := h4 _ _ hj
    subst e
    refine ⟨g, o + i, ?_, q, by rw [show o + i + j = o + (i + j) by omega]; exact cc⟩
    rw [ha, if_neg (by omega)]
    show some ((⟨g, o, none⟩ : Addr).add i) = _
    rw [add2]
theorem Sl.take {a : Option Addr} {n c : Nat} (h : Sl P (.slice a n c) ls w) {k : Nat} (hk : k ≤ ls.length) : Sl P (.slice a k c) (ls.take k) w := by
  obtain ⟨a0, cap, e, h1, h2, h3, h4⟩ := h
  cases e
  have hlen : (ls.take k).length = k := by rw [List.length_take]; omega
  refine ⟨a, c, by rw [hlen], by rw [hlen]; omega, h2, h3, fun j s hj => ?_⟩
  have hjl := (List.getElem?_eq_some_iff.1 hj).1
  rw [hlen] at hjl
  rw [List.getElem?_take, if_pos hjl] at hj
  exact h4 _ _ hj
end
section
variable {B b M : Nat} {o : Tz.Own} {a : At} {s : BS} {w : World}
set_option maxHeartbeats 32000000 in
theorem exch_any (h : Bf B b o M a s w) (hl : Ln s.ls) {f p n : Nat} (h0 : 0 < n) (h1 : p ≤ n) (h2 : f + n ≤ s.ls.length) {x y z : Int} (hx : x = (f : Int) + 1) (hy : y = (f : Int) + (p : Int)) (hz : z = (f : Int) + (n : Int)) :
    Calls Tryz.prog 46 #[.pointer (some ⟨b, 0, none⟩), .int .i64 x, .int .i64 y, .int .i64 z] w fun e w' => ∃ oa oc na nc, e = .returned (.agg #[.int .i64 f, .slice oa n oc, .slice na n nc]) ∧ Row w.heap.size (.slice oa n oc) ((s.ls.drop f).take n) w' ∧ Row w.heap.size (.slice na n nc) (exL s.ls f p (f + n)) w' ∧ Kp w w' := by
  have hl1 := hl.1
  obtain ⟨q, hq⟩ : ∃ p, w.heap.size = p := ⟨_, rfl⟩
  obtain ⟨W1, hW1⟩ : ∃ z, w.alloc (.cells #[.int .i64 0, .slice none 0 0, .slice none 0 0] 89) = z := ⟨_, rfl⟩
  have k1 : Kp w W1 := by rw [← hW1]; exact kp_alloc _ _
  have z1 : W1.heap.size = q + 1 := by rw [← hW1, alloc_size, hq]
  have b1 : Lc 89 q [.int .i64 0, .slice none 0 0, .slice none 0 0] W1 := by rw [← hW1, ← hq]; exact Lc.new w [.int .i64 0, .slice none 0 0, .slice none 0 0] 89
  have hb1 := h.kp_ k1
  have c0 := hb1.box.at (j := 0) rfl
  have HPt : Hid _ := bpart_ok hb1 hl h2
  have HB : Hid (Kp w W1 ∧ Lc 89 q [.int .i64 0, .slice none 0 0, .slice none 0 0] W1 ∧ W1.heap.size = q + 1 ∧ w.heap.size = q ∧ f + n ≤ s.ls.length) := ⟨k1, b1, z1, hq, h2⟩
  obtain ⟨t, ht⟩ : ∃ t, a.t = t := ⟨_, rfl⟩
  rw [ht] at HPt c0
  have e1 : x - 1 = (f : Int) := by omega
  have e2 : z - x + 1 = (n : Int) := by omega
  have e3 : y - x + 1 = (p : Int) := by omega
  have r1 : 1 ≤ x ∧ x ≤ 3000 := by omega
  have r2 : 0 ≤ y ∧ y ≤ 3000 := by omega
  have r3 : 0 ≤ z ∧ z ≤ 3000 := by omega
  have hpn : (p : Int) ≤ (n : Int) := by omega
  have hn3 : n ≤ 3000 := by omega
  clear h hl k1 b1 z1 hb1 ht hx hy hz hl1 h2
  go_enter Tryz.func46, Tryz.ntmps46
  go_wp2_with fail
  refine Calls.mono HPt.out ?_
  rintro e w2 ⟨oa, oc, rfl, r2', k2⟩
  obtain ⟨ho1, ho2⟩ : n ≤ oc ∧ oc ≤ maxLen := by
    obtain ⟨a', c', e, q1, q2⟩ := Row.form r2'
    simp only [Value.slice.injEq] at e
    rw [prt_len HB.out.2.2.2.2] at q1 e
    omega
  unfold maxLen at ho2
  obtain ⟨sa, hsa⟩ : ∃ sa, (if oc = p then oa else oa.map (·.add p)) = sa := ⟨_, rfl⟩
  obtain ⟨old, hold⟩ : ∃ l, (s.ls.drop f).take n = l := ⟨_, rfl⟩
  have holn : old.length = n := by rw [← hold]; exact prt_len HB.out.2.2.2.2
  rw [hold] at r2'
  have hsl := (Sl.of_row r2').mono (Q := fun _ => True) fun _ _ _ => trivial
  have HS : Hid (Row W1.heap.size (.slice oa n oc) old w2 ∧ Kp W1 w2 ∧ (s.ls.drop f).take n = old ∧ old.length = n ∧ Sl (fun _ => True) (.slice sa (n - p) (oc - p)) (old.drop p) w2 ∧ Sl (fun _ => True) (.slice oa p oc) (old.take p) w2) := by
    refine ⟨r2', k2, hold, holn, ?_, hsl.take (by omega)⟩
    have q := hsl.sub (i := p) (k := n - p) (c' := oc - p) (a' := sa) (by omega) (by omega) hsa.symm
    have e : (old.drop p).take (n - p) = old.drop p := List.take_of_length_le (by rw [List.length_drop]; omega)
    rw [e] at q; exact q
  obtain ⟨W3, hW3⟩ : ∃ z, w2.alloc (.cells #[.slice sa (n - p) (oc - p), .slice oa p oc] 22) = z := ⟨_, rfl⟩
  obtain ⟨r, hr⟩ : ∃ r, w2.heap.size = r := ⟨_, rfl⟩
  have HC : Hid (∀ z, Kp W3 z → Calls Tryz.prog 87 #[.slice (some ⟨r, 0, none⟩) 2 2] z fun e w' => ∃ na nc, e = .returned (.slice na n nc) ∧ (Row z.heap.size (.slice na n nc) (old.drop p ++ old.take p) w' ∧ Kp W3 w')) := fun z kz => by
    have b3 : Lc 22 r [.slice sa (n - p) (oc - p), .slice oa p oc] W3 := by rw [← hW3, ← hr]; exact Lc.new w2 [.slice sa (n - p) (oc - p), .slice oa p oc] 22
    have k3 : Kp w2 W3 := by rw [← hW3]; exact kp_alloc _ _
    have hfl : ([old.drop p, old.take p] : List (List ByteArray)).flatten = old.drop p ++ old.take p := by simp
    have hlen : (old.drop p ++ old.take p).length = n := by rw [List.length_append, List.length_drop, List.length_take, HS.out.2.2.2.1]; omega
    have q := concat_any (P := fun _ => True) (k := 2) (lss := [old.drop p, old.take p]) (b3.kp kz) rfl rfl (by omega) (fun j v ls hj hl => by
      match j with
      | 0 => simp at hj hl; subst hj; subst hl; exact HS.out.2.2.2.2.1.kp (kp_trans k3 kz)
      | 1 => simp at hj hl; subst hj; subst hl; exact HS.out.2.2.2.2.2.kp (kp_trans k3 kz)
      | j + 2 => simp at hj) (by rw [hfl, hlen]; exact h0) (by rw [hfl, hlen]; omega)
    rw [hfl, hlen] at q
    refine q.mono ?_
    rintro e w' ⟨na, nc, rfl, q1, q2⟩
    exact ⟨na, nc, rfl, q1, kp_trans kz q2⟩
  have HEND : Hid (∀ (w5 : World) (na : Option Addr) (nc : Nat) (D : Nat), W3.heap.size ≤ D → Row D (.slice na n nc) (old.drop p ++ old.take p) w5 → Kp W3 w5 → (w5.cell? ⟨q, 0, none⟩ = some (.int .i64 0) ∧ w5.cell? ⟨q, 1, none⟩ = some (.slice none 0 0) ∧ w5.cell? ⟨q, 2, none⟩ = some (.slice none 0 0) ∧ w5.frozen? ⟨q, 0, none⟩ = false ∧ w5.frozen? ⟨q, 1, none⟩ = false ∧ w5.frozen? ⟨q, 2, none⟩ = false) ∧
      Hid (Lc 89 q [.int .i64 f, .slice oa n oc, .slice na n nc] (((w5.setCell ⟨q, 0, none⟩ (.int .i64 f)).setCell ⟨q, 1, none⟩ (.slice oa n oc)).setCell ⟨q, 2, none⟩ (.slice na n nc)) ∧ Row w.heap.size (.slice oa n oc) ((s.ls.drop f).take n) (((w5.setCell ⟨q, 0, none⟩ (.int .i64 f)).setCell ⟨q, 1, none⟩ (.slice oa n oc)).setCell ⟨q, 2, none⟩ (.slice na n nc)) ∧ Row w.heap.size (.slice na n nc) (exL s.ls f p (f + n)) (((w5.setCell ⟨q, 0, none⟩ (.int .i64 f)).setCell ⟨q, 1, none⟩ (.slice oa n oc)).setCell ⟨q, 2, none⟩ (.slice na n nc)) ∧ Kp w (((w5.setCell ⟨q, 0, none⟩ (.int .i64 f)).setCell ⟨q, 1, none⟩ (.slice oa n oc)).setCell ⟨q, 2, none⟩ (.slice na n nc)))) := fun w5 na nc D hD hrn k5 => by
    have k3 : Kp w2 W3 := by rw [← hW3]; exact kp_alloc _ _
    have kz := kp_trans k3 k5
    have bz := (HB.out.2.1.kp HS.out.2.1).kp kz
    have s1 := bz.set 0 (.int .i64 f)
    have s2 := s1.set 1 (.slice oa n oc)
    have s3 := s2.set 2 (.slice na n nc)
    have row3 : ∀ {D : Nat} {v : Value} {l : List ByteArray}, Row D v l w5 → Row D v l (((w5.setCell ⟨q, 0, none⟩ (.int .i64 f)).setCell ⟨q, 1, none⟩ (.slice oa n oc)).setCell ⟨q, 2, none⟩ (.slice na n nc)) := fun hv => by
      have one : ∀ {y : World} {D : Nat} {v : Value} {l : List ByteArray} {bl : List Value} (j : Nat) (u : Value), Row D v l y → Lc 89 q bl y → Row D v l (y.setCell ⟨q, j, none⟩ u) := fun j u hv hb => row_fr hv (fr_set q j u _) fun k hk e => row_ne hv hb (by decide) (by unfold On at e; rw [hk, e])
      exact one 2 _ (one 1 _ (one 0 _ hv bz) s1) s2
    have hex : exL s.ls f p (f + n) = old.drop p ++ old.take p := by unfold exL; rw [Nat.add_sub_cancel_left, HS.out.2.2.1]
    have zz := HB.out.1.size
    have z2 := HS.out.2.1.size
    have z3 := k3.size
    refine ⟨⟨bz.at (j := 0) rfl, bz.at (j := 1) rfl, bz.at (j := 2) rfl, bz.fz 0, bz.fz 1, bz.fz 2⟩, s3, ?_, ?_, ?_⟩
    · rw [HS.out.2.2.1]; exact row3 (row_kp (row_lift HS.out.1 fun j hj => Nat.le_trans zz (HS.out.1.lt j hj).1) kz)
    · rw [hex]; exact row3 (row_lift hrn fun j hj => by have := (hrn.lt j hj).1; omega)
    · have k0 : Kp w w5 := kp_trans (kp_trans HB.out.1 HS.out.2.1) kz
      have hp := HB.out.2.2.2.1
      exact kp_set (kp_set (kp_set k0 (by omega) _ _) (by omega) _ _) (by omega) _ _
  have hoc : (n : Int) ≤ (oc : Int) := by omega
  clear HPt r2' k2 hsl hold holn c0
  go_wp2_with fail
  go_region_with (go_at_call 87; refine Calls.mono (HC.out _ (by first | exact Below.refl _ _ | exact kp_drew _ | exact kp_drewN _ _)) ?_; rintro e w5 ⟨na, nc, rfl, qr⟩; obtain ⟨⟨d0, d1, d2, f0, f1, f2⟩, HX⟩ := HEND.out w5 na nc _ (by first | exact Nat.le_refl _ | (rw [drew_heap]; exact Nat.le_refl _) | (rw [drewN_heap]; exact Nat.le_refl _)) qr.1 qr.2; clear qr)
  all_goals
    clear HC HEND HB HS
    go_wp2_with fail
    refine bodyPost_ret (results_box1 rfl rfl HX.out.1 Tryz.underlying89 rfl (by kernel_rfl)) rfl ?_
    exact ⟨_, _, _, _, rfl, HX.out.2⟩
end
end Go.Proofs.YtaefeakmlgjonaaGreat
namespace Go.Proofs.YtaefeakmlgjonaaGreat
open Go.ChangeShapes Go.WideShapes Go.ChangeAt Go.RowKit Go.Maps Go.MapKept
set_option linter.unusedVariables false
set_option linter.unusedSimpArgs false
set_option maxRecDepth 100000
section
variable {B b M M' : Nat} {o o' : Tz.Own} {a : At} {s : BS} {w w1 : World} {N : Int}
theorem bmm_any (h : Bf B b o M a s w) (hd : ∀ x c, s.mf x = some c → 97 ≤ x ∧ x ≤ 122) (hB : Mz.Bd N s.mf) (hN : N ≤ 1099511627776) (x y z : Int) :
    Calls Tryz.prog 47 #[.pointer (some ⟨b, 1, none⟩), .int .i64 x, .int .i64 y, .int .i64 z] w fun e w' => e = .returned (.tuple #[]) ∧ Bf B b o M a { s with mf := Mz.mvF s.mf x y z } w' ∧ FK B o o w w' := by
  refine (Mz.move_any (t := b) (o := 1) (b := a.mb) (f := s.mf) ⟨⟨_, _, h.box, rfl⟩, h.mp, hd⟩ hB hN x y z).mono ?_
  rintro e w' ⟨rfl, hm, ff⟩
  obtain ⟨q1, q2⟩ := h.mark (Fr.zm ff) hm.map
  exact ⟨rfl, q1, q2⟩
def mvS (s : BS) (f p n : Nat) (x y z : Int) : BS :=
  { s with ls := spl s.ls f n (exL s.ls f p (f + n)), mf := Mz.mvF s.mf x y z, op := s.op ++ [⟨f, (s.ls.drop f).take n, exL s.ls f p (f + n)⟩] }
set_option maxHeartbeats 16000000 in
theorem move_mid (h : Bf B b o M a s w) (hl : Ln s.ls) {x y z : Int} (h1 : 1 ≤ x) (h2 : x ≤ z) (h3 : z < y) (h4 : y ≤ (s.ls.length : Int)) :
    Calls Tryz.prog 12 #[.pointer (some ⟨b, 0, none⟩), .int .i64 x, .int .i64 y, .int .i64 z] w fun e w' => e = .returned (.int .u16 160) ∧ ∃ q, w' = w.drewN q := by
  have HL : Hid _ := blen_any h
  have hl1 := hl.1
  obtain ⟨L, hL⟩ : ∃ L, s.ls.length = L := ⟨_, rfl⟩
  rw [hL] at HL hl1 h4
  have d1 : decide (x < 1) = false := decide_eq_false (by omega)
  have d2 : decide (y < x) = false := decide_eq_false (by omega)
  have d3 : decide ((L : Int) < y) = false := decide_eq_false (by omega)
  have d4 : decide (z < 0) = false := decide_eq_false (by omega)
  have d5 : decide (z > (L : Int)) = false := decide_eq_false (by omega)
  have d6 : decide ((L : Int) < z) = false := decide_eq_false (by omega)
  have d7 : decide (x ≤ z) = true := decide_eq_true h2
  have d8 : decide (z < y) = true := decide_eq_true h3
  clear h hl hL
  go_enter Tryz.func12, Tryz.ntmps12
  go_wp2_with fail
  refine Calls.mono HL.out ?_
  rintro e w2 ⟨rfl, q, rfl⟩
  clear HL
  go_wp2_with fail
  go_ret
  exact ⟨rfl, _, rfl⟩
set_option maxHeartbeats 16000000 in
theorem move_stay (h : Bf B b o M a s w) (hl : Ln s.ls) (hd : ∀ x c, s.mf x = some c → 97 ≤ x ∧ x ≤ 122) (hB : Mz.Bd N s.mf) (hN : N ≤ 1099511627776) {x y z : Int} (h1 : 1 ≤ x) (h2 : x ≤ y) (h3 : z = x - 1 ∨ z = y) (h4 : y ≤ (s.ls.length : Int)) :
    Calls Tryz.prog 12 #[.pointer (some ⟨b, 0, none⟩), .int .i64 x, .int .i64 y, .int .i64 z] w fun e w' => e = .returned (.int .u16 0) ∧ Bf B b o M a { s with mf := Mz.mvF s.mf x y z } w' ∧ FK B o o w w' := by
  have HL : Hid _ := blen_any h
  have hl1 := hl.1
  obtain ⟨L, hL⟩ : ∃ L, s.ls.length = L := ⟨_, rfl⟩
  have HM : Hid (∀ q, Calls Tryz.prog 47 #[.pointer (some ⟨b, 1, none⟩), .int .i64 x, .int .i64 y, .int .i64 z] (w.drewN q) fun e w' => e = .returned (.tuple #[]) ∧ Hid (Bf B b o M a { s with mf := Mz.mvF s.mf x y z } w' ∧ FK B o o w w')) := fun q => (bmm_any (h.kp_ (kp_drewN w q)) hd hB hN x y z).mono (by
    rintro e w' ⟨rfl, q1, q2⟩
    exact ⟨rfl, q1, (FK.kp (kp_drewN w q) o).trans q2⟩)
  rw [hL] at HL hl1 h4
  have d1 : decide (x < 1) = false := decide_eq_false (by omega)
  have d2 : decide (y < x) = false := decide_eq_false (by omega)
  have d3 : decide ((L : Int) < y) = false := decide_eq_false (by omega)
  have d4 : decide (z < 0) = false := decide_eq_false (by omega)
  have d5 : decide (z > (L : Int)) = false := decide_eq_false (by omega)
  have d6 : decide ((L : Int) < z) = false := decide_eq_false (by omega)
  have d9 : decide (z > y) = false := decide_eq_false (by omega)
  have d10 : decide (y < z) = false := decide_eq_false (by omega)
  have d11 : decide (z < x - 1) = false := decide_eq_false (by omega)
  have hxI : x - 1 ≤ 9223372036854775807 ∧ -9223372036854775808 ≤ x - 1 := by omega
  clear h hl hL hd hB
  by_cases c : x ≤ z
  · have d7 : decide (x ≤ z) = true := decide_eq_true c
    have d8 : decide (z < y) = false := decide_eq_false (by omega)
    go_enter Tryz.func12, Tryz.ntmps12
    go_wp2_with fail
    refine Calls.mono HL.out ?_
    rintro e w2 ⟨rfl, q, rfl⟩
    clear HL
    go_wp2_with fail
    refine Calls.mono (bmarks_any _ _) ?_
    rintro e w3 ⟨rfl, rfl⟩
    go_wp2_with fail
    refine Calls.mono (HM.out _) ?_
    rintro e w4 ⟨rfl, HX⟩
    clear HM
    go_wp2_with fail
    go_ret
    exact ⟨rfl, HX.out⟩
  · have d7 : decide (x ≤ z) = false := decide_eq_false c
    go_enter Tryz.func12, Tryz.ntmps12
    go_wp2_with fail
    refine Calls.mono HL.out ?_
    rintro e w2 ⟨rfl, q, rfl⟩
    clear HL
    go_wp2_with fail
    refine Calls.mono (bmarks_any _ _) ?_
    rintro e w3 ⟨rfl, rfl⟩
    go_wp2_with fail
    refine Calls.mono (HM.out _) ?_
    rintro e w4 ⟨rfl, HX⟩
    clear HM
    go_wp2_with fail
    go_ret
    exact ⟨rfl, HX.out⟩
set_option maxHeartbeats 32000000 in
theorem move_down (h : Bf B b o M a s w) (hl : Ln s.ls) (hd : ∀ x c, s.mf x = some c → 97 ≤ x ∧ x ≤ 122) (hB : Mz.Bd N s.mf) (hN : N ≤ 1099511627776) (hM : M + 90000 < 280000000) (hop : s.op.length ≤ 1000) {f p n : Nat} {x y z : Int} (hf : (f : Int) + 1 = x) (hp : (f : Int) + (p : Int) = y) (hz : (f : Int) + (n : Int) = z) (h1 : x ≤ y) (h3 : y < z) (h0 : 0 < n) (hpn : p ≤ n) (hfn : f + n ≤ s.ls.length) :
    Calls Tryz.prog 12 #[.pointer (some ⟨b, 0, none⟩), .int .i64 x, .int .i64 y, .int .i64 z] w fun e w' => e = .returned (.int .u16 0) ∧ ∃ o' ov', Bf B b o' (M + 90000) { a with ov := ov' } (mvS s f p n x y z) w' ∧ FK B o o' w w' := by
  have HL : Hid _ := blen_any h
  have hl1 := hl.1
  have HEx : Hid (∀ q, Calls Tryz.prog 46 #[.pointer (some ⟨b, 0, none⟩), .int .i64 x, .int .i64 y, .int .i64 z] (w.drewN q) fun e w' => ∃ oa oc na nc, e = .returned (.agg #[.int .i64 f, .slice oa n oc, .slice na n nc]) ∧ (RQ (Fre o) (.slice oa n oc) ((s.ls.drop f).take n) w' ∧ RQ (Fre o) (.slice na n nc) (exL s.ls f p (f + n)) w' ∧ Kp w w')) := fun q => (exch_any (h.kp_ (kp_drewN w q)) hl (f := f) (p := p) (n := n) h0 hpn hfn (by omega) (by omega) (by omega)).mono (by
    rintro e w' ⟨oa, oc, na, nc, rfl, r1, r2, k2⟩
    have kk := kp_trans (kp_drewN w q) k2
    have hs : w.heap.size ≤ (w.drewN q).heap.size := (kp_drewN w q).size
    exact ⟨oa, oc, na, nc, rfl, row_rq h hs r1, row_rq h hs r2, kk⟩)
  have HH : Hid (Bf B b o M a s w ∧ Ln s.ls ∧ s.op.length ≤ 1000 ∧ (∀ x c, s.mf x = some c → 97 ≤ x ∧ x ≤ 122) ∧ Mz.Bd N s.mf ∧ f + n ≤ s.ls.length ∧ n ≤ 2000) := ⟨h, hl, hop, hd, hB, hfn, by omega⟩
  obtain ⟨L, hL⟩ : ∃ L, s.ls.length = L := ⟨_, rfl⟩
  rw [hL] at HL hl1 hfn
  have d1 : decide (x < 1) = false := decide_eq_false (by omega)
  have d2 : decide (y < x) = false := decide_eq_false (by omega)
  have d3 : decide ((L : Int) < y) = false := decide_eq_false (by omega)
  have d4 : decide (z < 0) = false := decide_eq_false (by omega)
  have d5 : decide (z > (L : Int)) = false := decide_eq_false (by omega)
  have d6 : decide ((L : Int) < z) = false := decide_eq_false (by omega)
  have d7 : decide (x ≤ z) = true := decide_eq_true (by omega)
  have d8 : decide (z < y) = false := decide_eq_false (by omega)
  have d9 : decide (z > y) = true := decide_eq_true h3
  have d10 : decide (y < z) = true := decide_eq_true h3
  have hxI : x - 1 ≤ 9223372036854775807 ∧ -9223372036854775808 ≤ x - 1 := by omega
  have hzI : z + 1 ≤ 9223372036854775807 ∧ -9223372036854775808 ≤ z + 1 := by omega
  clear h hl hL hd hB hf hp hz
  go_enter Tryz.func12, Tryz.ntmps12
  go_wp2_with fail
  refine Calls.mono HL.out ?_
  rintro e w2 ⟨rfl, q, rfl⟩
  clear HL
  go_wp2_with fail
  refine Calls.mono (HEx.out _) ?_
  rintro e w5 ⟨oa, oc, na, nc, rfl, r1, r2, k5⟩
  have HCh : Hid (Calls Tryz.prog 45 #[.pointer (some ⟨b, 0, none⟩), .agg #[.int .i64 f, .slice oa n oc, .slice na n nc]] w5 fun e w' => e = .returned (.tuple #[]) ∧ ∃ o' ov', Hid (Bf B b o' (M + 90000) { a with ov := ov' } { s with ls := spl s.ls f n (exL s.ls f p (f + n)), op := s.op ++ [⟨f, (s.ls.drop f).take n, exL s.ls f p (f + n)⟩] } w' ∧ FK B o o' w w')) :=
    (change_any (HH.out.1.kp_ k5) HH.out.2.1 (i := f) (n := n) (K := n) (oc := oc) (nc := nc) r1 r2 (by rw [exL_len (by omega) HH.out.2.2.2.2.2.1]; omega) (exL_ln HH.out.2.1 (by omega) HH.out.2.2.2.2.2.1) HH.out.2.2.2.2.2.1 (by have := HH.out.2.2.2.2.2.2; omega) HH.out.2.2.1).mono (by
      rintro e w' ⟨rfl, o', ov', h7, f7, _⟩
      exact ⟨rfl, o', ov', h7.upM (by have := HH.out.2.2.2.2.2.2; omega), (FK.kp k5 o).trans f7⟩)
  clear HEx r1 r2 k5
  go_wp2_with fail
  refine Calls.mono HCh.out ?_
  rintro e w7 ⟨rfl, o', ov', H7⟩
  clear HCh
  go_wp2_with fail
  refine Calls.mono (bmarks_any _ _) ?_
  rintro e w8 ⟨rfl, rfl⟩
  have HM : Hid (∀ q, Calls Tryz.prog 47 #[.pointer (some ⟨b, 1, none⟩), .int .i64 x, .int .i64 y, .int .i64 z] (w8.drewN q) fun e w' => e = .returned (.tuple #[]) ∧ Hid (Bf B b o' (M + 90000) { a with ov := ov' } (mvS s f p n x y z) w' ∧ FK B o o' w w')) := fun q =>
    (bmm_any (H7.out.1.kp_ (kp_drewN _ q)) HH.out.2.2.2.1 HH.out.2.2.2.2.1 hN x y z).mono (by
      rintro e w' ⟨rfl, q1, q2⟩
      exact ⟨rfl, q1, H7.out.2.trans ((FK.kp (kp_drewN _ q) o').trans q2)⟩)
  clear H7 HH
  go_wp2_with fail
  refine Calls.mono (HM.out 0) ?_
  rintro e w4 ⟨rfl, HX⟩
  clear HM
  go_wp2_with fail
  go_ret
  exact ⟨rfl, _, _, HX.out⟩
set_option maxHeartbeats 32000000 in
theorem move_up (h : Bf B b o M a s w) (hl : Ln s.ls) (hd : ∀ x c, s.mf x = some c → 97 ≤ x ∧ x ≤ 122) (hB : Mz.Bd N s.mf) (hN : N ≤ 1099511627776) (hM : M + 90000 < 280000000) (hop : s.op.length ≤ 1000) {f p n : Nat} {x y z : Int} (hf : (f : Int) = z) (hp : (f : Int) + (p : Int) = x - 1) (hz : (f : Int) + (n : Int) = y) (h1 : x ≤ y) (h3 : z < x - 1) (h0 : 0 < n) (hpn : p ≤ n) (hfn : f + n ≤ s.ls.length) :
    Calls Tryz.prog 12 #[.pointer (some ⟨b, 0, none⟩), .int .i64 x, .int .i64 y, .int .i64 z] w fun e w' => e = .returned (.int .u16 0) ∧ ∃ o' ov', Bf B b o' (M + 90000) { a with ov := ov' } (mvS s f p n x y z) w' ∧ FK B o o' w w' := by
  have HL : Hid _ := blen_any h
  have hl1 := hl.1
  have HEx : Hid (∀ q, Calls Tryz.prog 46 #[.pointer (some ⟨b, 0, none⟩), .int .i64 (z + 1), .int .i64 (x - 1), .int .i64 y] (w.drewN q) fun e w' => ∃ oa oc na nc, e = .returned (.agg #[.int .i64 f, .slice oa n oc, .slice na n nc]) ∧ (RQ (Fre o) (.slice oa n oc) ((s.ls.drop f).take n) w' ∧ RQ (Fre o) (.slice na n nc) (exL s.ls f p (f + n)) w' ∧ Kp w w')) := fun q => (exch_any (h.kp_ (kp_drewN w q)) hl (f := f) (p := p) (n := n) h0 hpn hfn (by omega) (by omega) (by omega)).mono (by
    rintro e w' ⟨oa, oc, na, nc, rfl, r1, r2, k2⟩
    have kk := kp_trans (kp_drewN w q) k2
    have hs : w.heap.size ≤ (w.drewN q).heap.size := (kp_drewN w q).size
    exact ⟨oa, oc, na, nc, rfl, row_rq h hs r1, row_rq h hs r2, kk⟩)
  have HH : Hid (Bf B b o M a s w ∧ Ln s.ls ∧ s.op.length ≤ 1000 ∧ (∀ x c, s.mf x = some c → 97 ≤ x ∧ x ≤ 122) ∧ Mz.Bd N s.mf ∧ f + n ≤ s.ls.length ∧ n ≤ 2000) := ⟨h, hl, hop, hd, hB, hfn, by omega⟩
  obtain ⟨L, hL⟩ : ∃ L, s.ls.length = L := ⟨_, rfl⟩
  rw [hL] at HL hl1 hfn
  have d1 : decide (x < 1) = false := decide_eq_false (by omega)
  have d2 : decide (y < x) = false := decide_eq_false (by omega)
  have d3 : decide ((L : Int) < y) = false := decide_eq_false (by omega)
  have d4 : decide (z < 0) = false := decide_eq_false (by omega)
  have d5 : decide (z > (L : Int)) = false := decide_eq_false (by omega)
  have d6 : decide ((L : Int) < z) = false := decide_eq_false (by omega)
  have d7 : decide (x ≤ z) = false := decide_eq_false (by omega)
  have d9 : decide (z > y) = false := decide_eq_false (by omega)
  have d10 : decide (y < z) = false := decide_eq_false (by omega)
  have d11 : decide (z < x - 1) = true := decide_eq_true h3
  have hxI : x - 1 ≤ 9223372036854775807 ∧ -9223372036854775808 ≤ x - 1 := by omega
  have hzI : z + 1 ≤ 9223372036854775807 ∧ -9223372036854775808 ≤ z + 1 := by omega
  clear h hl hL hd hB hf hp hz
  go_enter Tryz.func12, Tryz.ntmps12
  go_wp2_with fail
  refine Calls.mono HL.out ?_
  rintro e w2 ⟨rfl, q, rfl⟩
  clear HL
  go_wp2_with fail
  refine Calls.mono (HEx.out _) ?_
  rintro e w5 ⟨oa, oc, na, nc, rfl, r1, r2, k5⟩
  have HCh : Hid (Calls Tryz.prog 45 #[.pointer (some ⟨b, 0, none⟩), .agg #[.int .i64 f, .slice oa n oc, .slice na n nc]] w5 fun e w' => e = .returned (.tuple #[]) ∧ ∃ o' ov', Hid (Bf B b o' (M + 90000) { a with ov := ov' } { s with ls := spl s.ls f n (exL s.ls f p (f + n)), op := s.op ++ [⟨f, (s.ls.drop f).take n, exL s.ls f p (f + n)⟩] } w' ∧ FK B o o' w w')) :=
    (change_any (HH.out.1.kp_ k5) HH.out.2.1 (i := f) (n := n) (K := n) (oc := oc) (nc := nc) r1 r2 (by rw [exL_len (by omega) HH.out.2.2.2.2.2.1]; omega) (exL_ln HH.out.2.1 (by omega) HH.out.2.2.2.2.2.1) HH.out.2.2.2.2.2.1 (by have := HH.out.2.2.2.2.2.2; omega) HH.out.2.2.1).mono (by
      rintro e w' ⟨rfl, o', ov', h7, f7, _⟩
      exact ⟨rfl, o', ov', h7.upM (by have := HH.out.2.2.2.2.2.2; omega), (FK.kp k5 o).trans f7⟩)
  clear HEx r1 r2 k5
  go_wp2_with fail
  refine Calls.mono HCh.out ?_
  rintro e w7 ⟨rfl, o', ov', H7⟩
  clear HCh
  go_wp2_with fail
  refine Calls.mono (bmarks_any _ _) ?_
  rintro e w8 ⟨rfl, rfl⟩
  have HM : Hid (∀ q, Calls Tryz.prog 47 #[.pointer (some ⟨b, 1, none⟩), .int .i64 x, .int .i64 y, .int .i64 z] (w8.drewN q) fun e w' => e = .returned (.tuple #[]) ∧ Hid (Bf B b o' (M + 90000) { a with ov := ov' } (mvS s f p n x y z) w' ∧ FK B o o' w w')) := fun q =>
    (bmm_any (H7.out.1.kp_ (kp_drewN _ q)) HH.out.2.2.2.1 HH.out.2.2.2.2.1 hN x y z).mono (by
      rintro e w' ⟨rfl, q1, q2⟩
      exact ⟨rfl, q1, H7.out.2.trans ((FK.kp (kp_drewN _ q) o').trans q2)⟩)
  clear H7 HH
  go_wp2_with fail
  refine Calls.mono (HM.out 0) ?_
  rintro e w4 ⟨rfl, HX⟩
  clear HM
  go_wp2_with fail
  go_ret
  exact ⟨rfl, _, _, HX.out⟩
end
end Go.Proofs.YtaefeakmlgjonaaGreat
namespace Go.Proofs.YtaefeakmlgjonaaGreat
open Go.ChangeShapes Go.WideShapes Go.ChangeAt Go.RowKit Go.Maps Go.MapKept
set_option linter.unusedVariables false
set_option linter.unusedSimpArgs false
set_option maxRecDepth 100000
section
variable {s : BS} {ls : List ByteArray} {f p n : Nat} {x y z : Int}
theorem mvS_ls : (mvS s f p n x y z).ls = mvL s.ls f p (f + n) := by
  show spl s.ls f n _ = _
  unfold mvL
  rw [Nat.add_sub_cancel_left]
end
end Go.Proofs.YtaefeakmlgjonaaGreat
namespace Go.Proofs.YtaefeakmlgjonaaGreat
open Go.ChangeShapes Go.WideShapes Go.ChangeAt Go.RowKit Go.Maps Go.MapKept
set_option linter.unusedVariables false
set_option linter.unusedSimpArgs false
set_option maxRecDepth 100000
theorem mfT_dom {f : Mz.Mf} (ds : List Dl) (h : ∀ x c, f x = some c → 97 ≤ x ∧ x ≤ 122) : ∀ x c, mfT f ds x = some c → 97 ≤ x ∧ x ≤ 122 := by
  induction ds generalizing f with
  | nil => exact h
  | cons d r ih => exact ih (spF_dom h _ _ _)
theorem mfT_in {f : Mz.Mf} {l lf : List ByteArray} (ds : List Dl) (ha : apps l ds = some lf) (hs : ∀ d ∈ ds, Smd d) (hl : l.length + 2000 * ds.length ≤ 1000000000) (h : Mz.Bd (l.length : Int) f) : Mz.Bd (lf.length : Int) (mfT f ds) := by
  induction ds generalizing f l with
  | nil => cases ha; exact h
  | cons d r ih =>
    have ha' : (app1 l d).bind (fun l' => apps l' r) = some lf := ha
    cases q : app1 l d with
    | none => rw [q] at ha'; cases ha'
    | some l' =>
      rw [q] at ha'
      obtain ⟨i, hi, hin, rfl⟩ := app1_spl q
      have hd := hs d (by simp)
      have hn := hd.2.1
      rw [List.length_cons] at hl
      have hlen : (spl l i d.old.length d.nw).length = l.length - d.old.length + d.nw.length := spl_len hin
      refine ih ha' (fun d hd => hs d (by simp [hd])) (by rw [hlen]; omega) ?_
      rw [hlen]
      show Mz.Bd _ (Mz.spF f (d.at_ + 1) d.old.length d.nw.length)
      rw [hi]
      exact spF_in h hin (by omega) (by omega)
section
variable {s : BS} {N : Int}
theorem fine_wy (F : Fine (s.ls.length : Int) s) (hop : s.op = []) {m' : Tr} {ds : List Dl} (ha : apps s.ls ds = some (s.T m'.now)) (hm : look m'.L m'.now ≠ none) (hL : ∀ x, look m'.L x ≠ none → look s.m.L x ≠ none) (hs : ∀ d ∈ ds, Smd d) (hl : ds.length ≤ 1000) : Fine ((wyS s m' ds).ls.length : Int) (wyS s m' ds) := by
  have ht := F.tx _ (hL _ hm)
  have hl1 := F.ls.2.1
  have hc : 1 ≤ curT s ds (s.T m'.now).length ∧ curT s ds (s.T m'.now).length ≤ ((s.T m'.now).length : Int) := by
    unfold curT
    split
    · rename_i q
      have := List.getLast?_eq_none_iff.1 q
      subst this
      have ha' : some s.ls = some (s.T m'.now) := ha
      rw [Option.some.injEq] at ha'
      rw [← ha']
      exact F.cur
    · exact putC_in ht.1
  have hmb : Mz.Bd ((s.T m'.now).length : Int) (mfT s.mf ds) := mfT_in ds ha hs (by omega) F.mb
  have htl := ht.2.1
  refine ⟨ht, hc, fun x hx => F.tx x (hL x hx), F.op, ?_, mfT_dom ds F.md, mfT_dom ds F.md, hmb, by show -9223372036854775808 ≤ curT s ds _ ∧ curT s ds _ < _; omega⟩
  show apps (s.T m'.now) s.op = some (s.T m'.now)
  rw [hop]; rfl
theorem exc_in {a z d v : Int} {x : Int} (h1 : 1 ≤ a) (h2 : a ≤ z) (h3 : z < d) : Mz.exc a z d v = some x → 1 ≤ v → 1 ≤ x ∧ (x ≤ v ∨ x ≤ d) := by
  unfold Mz.exc
  intro h hv
  repeat' split at h
  all_goals first | (cases h; omega) | (cases h)
theorem mvF_dom {f : Mz.Mf} (h : ∀ x c, f x = some c → 97 ≤ x ∧ x ≤ 122) (a z d : Int) : ∀ x c, Mz.mvF f a z d x = some c → 97 ≤ x ∧ x ≤ 122 := fun x c hx => by
  unfold Mz.mvF at hx
  split at hx
  · exact h x c hx
  · split at hx
    · cases p : f x with
      | none => simp [p] at hx
      | some y => exact h x y p
    · split at hx
      · cases p : f x with
        | none => simp [p] at hx
        | some y => exact h x y p
      · exact h x c hx
theorem mvF_in {f : Mz.Mf} {L : Int} {a z d : Int} (h : Mz.Bd L f) (hz : z ≤ L) (hd : d ≤ L) : Mz.Bd L (Mz.mvF f a z d) := by
  intro x c hx
  unfold Mz.mvF at hx
  split at hx
  · exact h x c hx
  · split at hx
    · cases p : f x with
      | none => simp [p] at hx
      | some y =>
        simp only [p, Option.bind_some] at hx
        have h1 := h x y p
        have := exc_in (by omega) (by omega) (by omega) hx h1.1
        omega
    · split at hx
      · cases p : f x with
        | none => simp [p] at hx
        | some y =>
          simp only [p, Option.bind_some] at hx
          have h1 := h x y p
          have := exc_in (by omega) (by omega) (by omega) hx h1.1
          omega
      · exact h x c hx
end
end Go.Proofs.YtaefeakmlgjonaaGreat
namespace Go.Proofs.YtaefeakmlgjonaaGreat
open Go.ChangeShapes Go.WideShapes Go.ChangeAt Go.RowKit Go.Maps Go.MapKept
set_option linter.unusedVariables false
set_option linter.unusedSimpArgs false
set_option maxRecDepth 100000
section
variable {B b M : Nat} {o o' : Tz.Own} {a : At} {s : BS} {w w1 : World} {N : Int}
end
end Go.Proofs.YtaefeakmlgjonaaGreat
namespace Go.Proofs.YtaefeakmlgjonaaGreat
open Go.ChangeShapes Go.WideShapes Go.ChangeAt Go.RowKit Go.Maps Go.MapKept
set_option linter.unusedVariables false
set_option linter.unusedSimpArgs false
set_option maxRecDepth 100000
def Sm1 (L : List St) : Prop := ∀ x s, look L x = some s → s.by_.length ≤ 1
section
variable {L L' : List St} {m m' : Tr} {x y : Int} {l : List Int} {s : St} {ds : List Dl}
theorem Sm1.mono (h : Sm1 L) (hm : ∀ x s', look L' x = some s' → s'.by_ = [] ∨ ∃ s, look L x = some s ∧ s'.by_ = s.by_) : Sm1 L' := fun x s' hx => by
  rcases hm x s' hx with e | ⟨s, h1, h2⟩
  · rw [e]; simp
  · rw [h2]; exact h x s h1
theorem Sm1.add (h : Sm1 m.L) (I : Inw m) (hd : ds.length ≤ 1) : Sm1 (addT m ds).L := fun x s hx => by
  rw [addT_look I.inv] at hx
  by_cases e : x = m.next
  · rw [if_pos e] at hx; cases hx; exact hd
  · rw [if_neg e] at hx
    obtain ⟨s0, q1, q2⟩ := Option.map_eq_some_iff.1 hx
    have hs : s.by_ = s0.by_ := by rw [← q2]; split <;> rfl
    rw [hs]; exact h x s0 q1
theorem Sm1.ev (h : Sm1 m.L) (I : Inw m) (h2 : 2 ≤ m.L.length) : Sm1 (evT m).L := by
  cases hfd : m.L.find? (bareP m) with
  | some s =>
    obtain ⟨h1, h3, h4⟩ := bare_some hfd
    have hx := mem_look I.inv.sq h1
    have hf := bare_fr I.inv.fam I.onk I.inv.nw hx h3 h4
    have hxf := I.inv.fam.fr _ _ hx
    rw [ev_some hfd]
    refine h.mono fun y s' hy => .inr ?_
    have hy' : look (cutT m.L s.seq s.fr) y = some s' := hy
    rw [look_cut (by omega)] at hy'
    split at hy'
    · cases hy'
    · obtain ⟨s0, q1, q2⟩ := Option.map_eq_some_iff.1 hy'
      refine ⟨s0, q1, ?_⟩
      rw [← q2]; split <;> rfl
  | none =>
    obtain ⟨r, M, hL, hM⟩ := cons_of h2
    rw [ev_none hfd]
    refine h.mono fun y s' hy => ?_
    have hy' : look (rootT m.L) y = some s' := hy
    have hs := I.inv.sq
    rw [hL] at hy' hs
    rw [look_root r M hs] at hy'
    split at hy'
    · cases hy'
    · obtain ⟨s0, q1, q2⟩ := Option.map_eq_some_iff.1 hy'
      rw [← q2]
      unfold unroot
      split
      · exact .inl rfl
      · exact .inr ⟨s0, by rw [hL]; exact q1, rfl⟩
theorem Sm1.addE (h : Sm1 m.L) (I : Inw m) (hf : Few 2000 ds) (hmo : 1 ≤ m.most) (hd : ds.length ≤ 1) : Sm1 (Go.Proofs.YtaefeakmlgjonaaGreat.addE m ds).L := by
  unfold Go.Proofs.YtaefeakmlgjonaaGreat.addE
  split
  · exact (h.add I hd).ev (I.add hf) (by omega)
  · exact h.add I hd
end
structure Clm (B b : Nat) (o : Tz.Own) (M : Nat) (a : At) (s : BS) (k : Nat) (w : World) : Prop where
  bf : Bf B b o M a s w
  fine : Fine (s.ls.length : Int) s
  op : s.op = []
  sm : Sm1 s.m.L
  nx : s.m.next ≤ k
  ok : ∀ x, TxtOk (s.T x)
section
variable {B b M k : Nat} {o : Tz.Own} {a : At} {s : BS} {w : World}
theorem Clm.st (h : Clm B b o M a s k w) : ∃ st, look s.m.L s.m.now = some st := by
  cases q : look s.m.L s.m.now with
  | none => exact absurd q h.bf.st.inw.inv.nw
  | some st => exact ⟨st, rfl⟩
theorem clm_way (h : Clm B b o M a s k w) {m' : Tr} {ds : List Dl} (hL : m'.L = s.m.L) (hn : m'.next = s.m.next) (hm : look s.m.L m'.now ≠ none) (hd : ∀ d ∈ ds, Smd d) (hl : ds.length ≤ 64) (ha : apps s.ls ds = some (s.T m'.now)) {o' : Tz.Own} {M' : Nat} {a' : At} {w' : World} (h' : Bf B b o' M' a' (wyS s m' ds) w') : Clm B b o' M' a' (wyS s m' ds) k w' :=
  ⟨h', fine_wy h.fine h.op ha (by rw [hL]; exact hm) (fun x => by rw [hL]; exact id) hd (by omega), h.op, by show Sm1 m'.L; rw [hL]; exact h.sm, by show m'.next ≤ _; rw [hn]; exact h.nx, h.ok⟩
theorem Clm.undo (h : Clm B b o M a s k w) (hM : M + 180000 < 280000000) :
    Calls Tryz.prog 16 #[.pointer (some ⟨b, 0, none⟩)] w fun e w' => (∃ err, e = .returned (.int .u16 err)) ∧ ∃ o' a' s', Hid (Clm B b o' (M + 90000) a' s' k w' ∧ FK B o o' w w') := by
  obtain ⟨st, hs⟩ := h.st
  refine (bundo_any (c := 1) h.bf h.fine h.op (by decide) (by omega) hs h.sm).mono ?_
  rintro e w' ⟨err, rfl, ⟨_, _, q1, q2⟩ | ⟨rfl, o', kb', m', ds, ⟨g1, rfl, rfl⟩, ha, q1, q2⟩⟩
  · exact ⟨⟨_, rfl⟩, o, a, s, ⟨q1.upM (by omega), h.fine, h.op, h.sm, h.nx, h.ok⟩, q2⟩
  · have hsm := h.bf.st.sm _ _ hs
    exact ⟨⟨_, rfl⟩, o', _, _, clm_way (m' := { s.m with now := st.fr }) (ds := turnD st.by_) h rfl rfl (h.bf.st.inw.inv.fam.from_there hs g1) (smd_turn hsm.2) (by rw [turnD_len]; exact hsm.1) ha (by simpa using q1), q2⟩
def MarkAt (s s1 : BS) (x A C : Int) : Prop := ∀ n, s.mf x = some n → n < A ∨ A + C ≤ n → ∃ n1, s1.mf x = some n1 ∧ s1.ls[(n1 - 1).toNat]? = s.ls[(n - 1).toNat]?
theorem spl_at {ls ms : List ByteArray} {i n : Nat} (h : i + n ≤ ls.length) {j : Nat} : (j < i → (spl ls i n ms)[j]? = ls[j]?) ∧ (i + n ≤ j → (spl ls i n ms)[j - n + ms.length]? = ls[j]?) := by
  have e1 : (ls.take i).length = i := by rw [List.length_take]; omega
  unfold spl
  refine ⟨fun c => ?_, fun c => ?_⟩
  · rw [List.append_assoc, List.getElem?_append_left (by omega), List.getElem?_take, if_pos c]
  · rw [List.getElem?_append_right (by rw [List.length_append]; omega), List.length_append, e1, List.getElem?_drop]
    congr 1; omega
theorem mark_at (f : Fine (s.ls.length : Int) s) {i n : Nat} {ms : List ByteArray} (hin : i + n ≤ s.ls.length) (hm : ms.length ≤ 2000) (x : Int) : MarkAt s (spS s i n ms) x ((i : Int) + 1) n := by
  intro c hc hout
  have hl := f.ls.2.1
  have hb := f.mb x c hc
  have hpl := putL_len (ms := ms) (L := s.ls.length) (n := n)
  have hp2 : (putL s.ls.length n ms).length ≤ 2000 := by rw [hpl]; split <;> omega
  obtain ⟨K, hK⟩ : ∃ K, (putL s.ls.length n ms).length = K := ⟨_, rfl⟩
  have e0 : (spS s i n ms).mf x = Mz.spl ((i : Int) + 1) n (putL s.ls.length n ms).length c := by
    show Mz.spF s.mf _ _ _ x = _
    unfold Mz.spF
    rw [if_neg (by omega), hc]; rfl
  rw [hK] at e0 hp2
  have e1 : ∀ j : Nat, (spS s i n ms).ls[j]? = (spl s.ls i n (putL s.ls.length n ms))[j]? := fun j => rfl
  rw [e0]
  unfold Mz.spl
  rcases hout with q | q
  · rw [if_pos q]
    exact ⟨_, rfl, by rw [e1]; exact (spl_at hin).1 (by omega)⟩
  · rw [if_neg (by omega), if_neg (by omega)]
    refine ⟨_, rfl, ?_⟩
    have := (spl_at (ms := putL s.ls.length n ms) hin (j := (c - 1).toNat)).2 (by omega)
    rw [e1, ← this, hK]
    congr 1; omega
end
end Go.Proofs.YtaefeakmlgjonaaGreat
