/- Texts that the proof of the law stands on: BY, BZ, CA, CB, CF. -/
import Derived.Test.YtaefeakmlgjonaaGreatPartK
import Derived.BigQuiet
import Derived.Test.YtaefeakmlgjonaaGreatRows
import Derived.Lib.SmallJoins
import Derived.OpenShut
import Derived.Deep.Slices
import Derived.Deep.Strs
/- New: a text, or why there is none. -/
namespace Go.Proofs.YtaefeakmlgjonaaGreat
open Go.ChangeShapes Go.WideShapes Go.ChangeAt Go.RowKit Go.Maps Go.MapKept
set_option linter.unusedVariables false
set_option linter.unusedSimpArgs false
set_option maxRecDepth 100000
theorem eqlT (ad : Addr) (w : World) : Sem.run Tryz.prog (binOp BinOp.eql 64 (.pointer (some ad)) (.pointer none)) w = .ok (.bool false) w := by kernel_rfl
section
variable {P : Nat → Prop} {B b M mb : Nat} {o : Tz.Own} {w w1 : World} {v : Value} {ls : List ByteArray}
theorem Tw.lowQ {Q : Nat → Prop} {B' C t : Nat} {m : Tr} (h : Tw Q B C t m w) (hB : B' ≤ B) : Tw Q B' C t m w := by
  obtain ⟨b, q, h⟩ := h
  refine ⟨b, q, Nat.le_trans hB h.lt, Nat.le_trans hB h.lb, h.box, h.map, fun x s hx => ?_, h.inj⟩
  obtain ⟨h1, v, h2⟩ := h.st x s hx
  exact ⟨Nat.le_trans hB h1, v, h2⟩
set_option maxHeartbeats 4000000 in
theorem atLeast_sl (h : Sl P v ls w) : Calls Tryz.prog 43 #[v] w fun e w' => ∃ v', e = .returned v' ∧ Sl (fun _ => True) v' (one1 ls) w' ∧ Kp w w' := by
  obtain ⟨a', c, rfl, _⟩ := h.form
  obtain ⟨n, hn⟩ : ∃ n, ls.length = n := ⟨_, rfl⟩
  have HR : Hid (Sl P (.slice a' n c) ls w ∧ ls.length = n) := ⟨by rw [← hn]; exact h, hn⟩
  rw [hn]
  clear h hn
  by_cases z : n = 0
  · subst z
    have HX : Hid (Sl (fun _ => True) (.slice (some ⟨w.heap.size, 0, none⟩) 1 1) (one1 ls) (w.alloc (.cells #[.string ⟨#[]⟩] 9)) ∧ Kp w (w.alloc (.cells #[.string ⟨#[]⟩] 9))) := by
      refine ⟨?_, kp_alloc _ _⟩
      unfold one1; rw [if_pos HR.out.2]
      exact (Sl.of_row (one_row w)).mono fun _ _ _ => trivial
    go_enter Tryz.func43, Tryz.ntmps43
    go_wp2_with fail
    go_ret
    exact ⟨_, rfl, HX.out⟩
  · have d1 : ((n : Int) == 0) = false := beq_eq_false_iff_ne.2 (by omega)
    have HX : Hid (Sl (fun _ => True) (.slice a' n c) (one1 ls) w ∧ Kp w w) := by
      refine ⟨?_, Below.refl _ _⟩
      unfold one1; rw [if_neg (by rw [HR.out.2]; exact z)]; exact HR.out.1.mono fun _ _ _ => trivial
    go_enter Tryz.func43, Tryz.ntmps43
    go_wp2_with fail
    go_ret
    exact ⟨_, rfl, HX.out⟩
/-- A text that begins. -/
def newS (ls : List ByteArray) (n : Int) : BS := ⟨one1 ls, fun _ => none, 1, first n, fun _ => one1 ls, [], fun _ => none, 1⟩
theorem stT_first {Q : Nat → Prop} {C t : Nat} {n : Int} {l : List ByteArray} (h : Tw Q B C t (first n) w) (hC : C ≤ w.heap.size) (hB : B ≤ w.heap.size) (hn : 1 ≤ n ∧ n ≤ 200) : StT Q B C t (first n) (fun _ => l) w := by
  refine ⟨h, hC, hB, inw_first n, hn, by show (1 : Int) ≤ n; exact hn.1, by show (1 : Int) ≤ 200; decide, fun x s hx hf => ?_, fun x s hx => ?_⟩
  · unfold first at hx; rw [look_cons] at hx
    split at hx
    · cases hx; exact absurd rfl hf
    · cases hx
  · unfold first at hx; rw [look_cons] at hx
    split at hx
    · cases hx; exact ⟨by simp, by simp⟩
    · cases hx
theorem fine_new (hl : Ln ls) (n : Int) : Fine ((newS ls n).ls.length : Int) (newS ls n) := by
  have h1 : TxtOk (one1 ls) := ⟨by unfold one1; split; exact Nat.le_refl 1; omega, one1_ln hl⟩
  have h2 : 1 ≤ (one1 ls).length := h1.1
  exact ⟨h1, ⟨by show (1 : Int) ≤ 1; decide, by show (1 : Int) ≤ ((one1 ls).length : Int); omega⟩, fun x _ => h1, ⟨by show (0 : Nat) ≤ 64; decide, fun d hd => by cases hd⟩, rfl, (fun x c h => by cases h), (fun x c h => by cases h), (fun x c h => by cases h), by show (-9223372036854775808 : Int) ≤ 1 ∧ (1 : Int) < 9223372036854775808; decide⟩
set_option maxHeartbeats 16000000 in
theorem bnew_no (hv : Sl P v ls w) {n : Int} (hn : 1 ≤ n ∧ n ≤ 200) {E : Int} (hE : beyondE (ls.length : Int) ls = E) (hE0 : E ≠ 0) (hE1 : 0 ≤ E ∧ E < 65536) : Calls Tryz.prog 11 #[v, .int .i64 n] w fun e w' => e = .returned (.tuple #[.pointer none, .int .u16 E]) ∧ Kp w w' := by
  have HN : Hid _ := new_any (Q := fun _ => False) hn.1 hn.2 w
  have HBy : Hid (∀ z, Kp w z → Calls Tryz.prog 41 #[.int .i64 (ls.length : Int), v] z fun e w' => e = .returned (.int .u16 E) ∧ ∃ q, w' = z.drewN q) := fun z kz => by
    have := beyond_any (hv.kp kz) (ls.length : Int)
    rw [hE] at this; exact this
  obtain ⟨va, vc, rfl, _⟩ := hv.form
  obtain ⟨k, hk⟩ : ∃ k, ls.length = k := ⟨_, rfl⟩
  rw [hk] at HBy ⊢
  have d1 : (E != 0) = true := by simpa using hE0
  have he := eqlT
  clear hv hE hk
  go_enter Tryz.func11, Tryz.ntmps11
  go_wp2_with fail
  refine Calls.mono HN.out ?_
  rintro e w2 ⟨t, rfl, t2, k2⟩
  have H2 : Hid (Kp w w2) := k2
  clear HN t2 k2
  go_wp2_with fail
  refine Calls.mono (HBy.out _ H2.out) ?_
  rintro e w3 ⟨rfl, q, rfl⟩
  have HX : Hid (Kp w (w2.drewN q)) := kp_trans H2.out (kp_drewN _ _)
  clear HBy H2
  go_wp2_with fail
  go_ret2
  exact ⟨rfl, HX.out⟩
set_option maxHeartbeats 32000000 in
theorem bnew_yes (hB : B ≤ w.heap.size) (hv : Sl P v ls w) {n : Int} (hn : 1 ≤ n ∧ n ≤ 200) (hE : beyondE (ls.length : Int) ls = 0) : Calls Tryz.prog 11 #[v, .int .i64 n] w fun e w' => ∃ b, e = .returned (.tuple #[.pointer (some ⟨b, 0, none⟩), .int .u16 0]) ∧ Kp w w' ∧ ∃ o a, Bf B b o 50000 a (newS ls n) w' ∧ (∀ k, k < w.heap.size → o k = .free) := by
  have hLn : Ln ls := by
    unfold beyondE at hE
    split at hE
    · cases hE
    · split at hE
      · cases hE
      · rename_i q1 q2
        exact ln_of (by omega) (by simpa using q2)
  have HN : Hid _ := new_any (Q := fun _ => False) hn.1 hn.2 w
  have HBy : Hid (∀ z, Kp w z → Calls Tryz.prog 41 #[.int .i64 (ls.length : Int), v] z fun e w' => e = .returned (.int .u16 0) ∧ ∃ q, w' = z.drewN q) := fun z kz => by
    have := beyond_any (hv.kp kz) (ls.length : Int)
    rw [hE] at this; exact this
  have HAt : Hid (∀ z, Kp w z → Calls Tryz.prog 43 #[v] z fun e w' => ∃ v', e = .returned v' ∧ Sl (fun _ => True) v' (one1 ls) w' ∧ Kp z w') := fun z kz => atLeast_sl (hv.kp kz)
  have HL1 : Hid (Ln (one1 ls) ∧ B ≤ w.heap.size ∧ 1 ≤ n ∧ n ≤ 200) := ⟨one1_ln hLn, hB, hn⟩
  obtain ⟨va, vc, rfl, _⟩ := hv.form
  obtain ⟨k, hk⟩ : ∃ k, ls.length = k := ⟨_, rfl⟩
  rw [hk] at HBy HAt ⊢
  have he := eqlT
  clear hv hE hk hLn hB hn
  go_enter Tryz.func11, Tryz.ntmps11
  go_wp2_with fail
  refine Calls.mono HN.out ?_
  rintro e w2 ⟨t, rfl, t2, k2⟩
  have H2 : Hid (Kp w w2 ∧ Tw (fun _ => False) w.heap.size w.heap.size t (first n) w2) := ⟨k2, t2⟩
  clear HN t2 k2
  go_wp2_with fail
  refine Calls.mono (HBy.out _ H2.out.1) ?_
  rintro e w3 ⟨rfl, q, rfl⟩
  have k3 : Kp w (w2.drewN q) := kp_trans H2.out.1 (kp_drewN _ _)
  clear HBy
  go_wp2_with fail
  refine Calls.mono (HAt.out _ k3) ?_
  rintro e w4 ⟨v4, rfl, s4, k4⟩
  obtain ⟨va4, vc4, rfl, _⟩ := s4.form
  have HT : Hid _ := newText_any s4 HL1.out.1
  have H4 : Hid (Kp w w4 ∧ Kp w2 w4) := ⟨kp_trans k3 k4, kp_trans (kp_drewN _ _) k4⟩
  obtain ⟨K4, hK4⟩ : ∃ k, (one1 ls).length = k := ⟨_, rfl⟩
  rw [hK4] at HT ⊢
  clear HAt k3 s4 k4 hK4
  go_wp2_with fail
  refine Calls.mono HT.out ?_
  rintro e w5 ⟨tt, mb, o, rfl, r1, r2, r3, r4, r5, k5⟩
  obtain ⟨b, hb⟩ : ∃ b, w5.heap.size = b := ⟨_, rfl⟩
  obtain ⟨W6, hW6⟩ : ∃ z, w5.alloc (.cells #[.pointer (some ⟨tt, 0, none⟩), .map (some mb), .int .i64 1, .pointer (some ⟨t, 0, none⟩), .slice none 0 0, .map none, .int .i64 0] 86) = z := ⟨_, rfl⟩
  have k6 : Kp w5 W6 := by rw [← hW6]; exact kp_alloc _ _
  have b6 : Lc 86 b [.pointer (some ⟨tt, 0, none⟩), .map (some mb), .int .i64 1, .pointer (some ⟨t, 0, none⟩), .slice none 0 0, .map none, .int .i64 0] W6 := by rw [← hW6, ← hb]; exact Lc.new w5 [.pointer (some ⟨tt, 0, none⟩), .map (some mb), .int .i64 1, .pointer (some ⟨t, 0, none⟩), .slice none 0 0, .map none, .int .i64 0] 86
  have HK : Hid _ := keep0_any b6 (r4.kp k6) (fun x c h => by cases h)
  have H6 : Hid (Kp w W6 ∧ Kp w2 W6 ∧ w.heap.size ≤ b ∧ mb < b ∧ w.heap.size ≤ mb ∧ Tz.Tr o W6 tt (one1 ls) 50000 ∧ OT o W6 ∧ (∀ k, k < w.heap.size → o k = .free) ∧ Mz.Mp mb (Mz.vals fun _ => none) W6 ∧ b < W6.heap.size ∧ o b = .free ∧ w2.heap.size ≤ b) := by
    have hs : ∀ j, o j ≠ .free → W6.heap[j]? = w5.heap[j]? := fun j hj => k6.block j (tz_lt r1 hj)
    have z5 := k5.size
    have z4 := H4.out.1.size
    refine ⟨kp_trans (kp_trans H4.out.1 k5) k6, kp_trans (kp_trans H4.out.2 k5) k6, by omega, ?_, by omega, tz_same r1 k6.size hs, r2.same hs, fun k hk => r3 k (by omega), r4.kp k6, b6.lt, tz_new r1 (by omega), by have := H4.out.2.size; omega⟩
    obtain ⟨es, cl, q, _⟩ := r4
    have := (Array.getElem?_eq_some_iff.1 q).1; omega
  clear HT r1 r2 r3 r4 r5 k5 k6 b6 H4
  go_wp2_with fail
  refine Calls.mono HK.out ?_
  rintro e w7 ⟨rfl, kb, bx, mk, hkb, f7⟩
  have HZ : Hid (Kp w w7 ∧ ∃ o a, Bf B b o 50000 a (newS ls n) w7 ∧ (∀ k, k < w.heap.size → o k = .free)) := by
    have hbo : ∀ j, On b j → j = b := fun j e => by unfold On at e; exact e
    obtain ⟨g1, g2, g3, g4, g5, g6, g7, g8, g9, g10, g11, g12⟩ := H6.out
    have hs : ∀ j, o j ≠ .free → w7.heap[j]? = W6.heap[j]? := fun j hj => f7.block j (tz_lt g6 hj) fun e => hj (by rw [hbo j e]; exact g11)
    have kw : Kp w w7 := g1.trans (f7.below g1.size fun q hq e => by have := hbo q e; omega)
    have kw2 : Below w2.heap.size w2 w7 := g2.trans (f7.below g2.size fun q hq e => by have := hbo q e; omega)
    refine ⟨kw, o, ⟨tt, t, mb, kb, w.heap.size, .slice none 0 0⟩, ⟨Nat.le_trans HL1.out.2.1 g3, bx, tz_same g6 f7.size hs, g7.same hs, fun j hj => g8 j (by have := HL1.out.2.1; omega), g9.fr (Fr.mz f7) fun e => by have := hbo _ e; omega, Nat.le_trans HL1.out.2.1 g5, mk, by show B ≤ kb; have := g1.size; have := HL1.out.2.1; omega, by show mb ≠ kb; omega, ?_, ⟨[], World.ownsRow_nil _ _ _ _, ⟨rfl, fun i d c h1 h2 => by simp [newS] at h1⟩⟩, HL1.out.2.1⟩, g8⟩
    exact stT_first (((H2.out.2.kp kw2).monoQ fun j _ q => q.elim).lowQ HL1.out.2.1) kw.size (Nat.le_trans HL1.out.2.1 kw.size) HL1.out.2.2
  clear HK bx mk hkb f7 H6 H2
  go_wp2_with fail
  go_ret2
  exact ⟨b, rfl, HZ.out⟩
end
end Go.Proofs.YtaefeakmlgjonaaGreat
/- What a text is behind a Splice and behind Commit; Lines of any text. -/
namespace Go.Proofs.YtaefeakmlgjonaaGreat
open Go.ChangeShapes Go.WideShapes Go.ChangeAt Go.RowKit Go.Maps Go.MapKept
set_option linter.unusedVariables false
set_option linter.unusedSimpArgs false
set_option maxRecDepth 100000
section
variable {P : Nat → Prop} {B b M : Nat} {o : Tz.Own} {a : At} {s : BS} {w w1 : World} {v : Value} {ls ms : List ByteArray} {i n : Nat}
theorem part_len (hin : i + n ≤ ls.length) : ((ls.drop i).take n).length = n := by rw [List.length_take, List.length_drop]; omega
theorem part_ln (h : Ln ls) (hin : i + n ≤ ls.length) : Ln ((ls.drop i).take n) := ⟨by rw [part_len hin]; have := h.1; omega, fun x hx => h.2 x (List.mem_of_mem_drop (List.mem_of_mem_take hx))⟩
theorem app1_one {put : List ByteArray} (hin : i + n ≤ ls.length) : apps ls [⟨(i : Int), (ls.drop i).take n, put⟩] = some (spl ls i n put) := by
  have hl := part_len hin
  show (app1 ls _).bind _ = _
  unfold app1
  simp only [Int.toNat_natCast]
  rw [if_pos ⟨by omega, by omega, by rw [hl]; omega, by rw [hl]⟩, hl]
  rfl
theorem far_ln (hE : beyondE ((ls.length : Int) - (n : Int) + (ms.length : Int)) ms = 0) (hn : n ≤ ls.length) : Ln ms ∧ ls.length - n + ms.length ≤ 2000 := by
  unfold beyondE at hE
  split at hE
  · cases hE
  · split at hE
    · cases hE
    · rename_i q1 q2
      exact ⟨ln_of (by omega) (by simpa using q2), by omega⟩
theorem putC_in {c : Int} {L : Nat} (h : 1 ≤ L) : 1 ≤ putC c L ∧ putC c L ≤ (L : Int) := by unfold putC; omega
theorem fine_sp (f : Fine (s.ls.length : Int) s) (hin : i + n ≤ s.ls.length) (hE : beyondE ((s.ls.length : Int) - (n : Int) + (ms.length : Int)) ms = 0) (ho : s.op.length < 64) : Fine ((spS s i n ms).ls.length : Int) (spS s i n ms) := by
  obtain ⟨q1, q2⟩ := far_ln hE (by omega)
  have hp := putL_ln q1 s.ls.length n
  have hpl := putL_len (ms := ms) (L := s.ls.length) (n := n)
  have hl1 := f.ls.1
  have hl2 := f.ls.2.1
  have hms := q1.1
  have hlen : (spl s.ls i n (putL s.ls.length n ms)).length = s.ls.length - n + (putL s.ls.length n ms).length := spl_len hin
  have hle : s.ls.length - n + (putL s.ls.length n ms).length ≤ 2000 := by rw [hpl]; split <;> omega
  have hge : 1 ≤ s.ls.length - n + (putL s.ls.length n ms).length := by
    rw [hpl]
    by_cases z : n = s.ls.length
    · split
      · omega
      · rename_i y; omega
    · split <;> omega
  have hpo := part_ln f.ls.2 hin
  refine ⟨⟨by show 1 ≤ (spl s.ls i n (putL s.ls.length n ms)).length; omega, spl_ln f.ls.2 hp hin hle⟩, putC_in (by omega), f.tx, ⟨?_, fun d hd => ?_⟩, ?_, spF_dom f.md _ _ _, f.kd, ?_, f.kcur⟩
  · show (s.op ++ [_]).length ≤ 64
    rw [List.length_append, List.length_singleton]; omega
  · have hd' : d ∈ s.op ++ [(⟨i, (s.ls.drop i).take n, putL s.ls.length n ms⟩ : Dl)] := hd
    rcases List.mem_append.1 hd' with q | q
    · exact f.op.2 d q
    · simp only [List.mem_singleton] at q; subst q; exact ⟨hpo, hp⟩
  · show apps (s.T s.m.now) (s.op ++ [_]) = some _
    rw [apps_app, f.ap]
    exact app1_one hin
  · show Mz.Bd (((spl s.ls i n (putL s.ls.length n ms)).length : Nat) : Int) (Mz.spF s.mf ((i : Int) + 1) n (putL s.ls.length n ms).length)
    rw [hlen]; exact spF_in f.mb hin (by omega) (by omega)
/-- Behind Commit of a text's first change. -/
theorem cm_first {k : Int} (hm : s.m = first k) (hk : 2 ≤ k) (hop : s.op ≠ []) : (cmS s).m = addT (first k) s.op ∧ (cmS s).T = putT s.T 1 s.ls ∧ (cmS s).op = [] ∧ (cmS s).ls = s.ls ∧ (cmS s).cur = s.cur := by
  unfold cmS
  rw [if_neg hop]
  refine ⟨?_, by rw [hm]; rfl, rfl, rfl, rfl⟩
  show addE s.m s.op = _
  rw [hm]
  unfold addE
  rw [if_neg (by show ¬ (k < ((addT (first k) s.op).L.length : Int)); show ¬ (k < (2 : Int)); omega)]
theorem first_look {k : Int} {ds : List Dl} : look (addT (first k) ds).L (addT (first k) ds).now = some ⟨1, 0, -1, ds⟩ := by
  show look (setOn [⟨0, -1, -1, []⟩] 0 1 ++ [⟨1, 0, -1, ds⟩]) 1 = _
  rfl
theorem fine_cm1 (f : Fine (s.ls.length : Int) s) (hT : ∀ x, TxtOk (s.T x)) : Fine ((cmS s).ls.length : Int) (cmS s) ∧ ∀ x, TxtOk ((cmS s).T x) := by
  unfold cmS
  split
  · rename_i z
    refine ⟨⟨f.ls, f.cur, f.tx, f.op, f.ap, f.md, f.md, f.mb, by have := f.cur; have := f.ls.2.1; show -9223372036854775808 ≤ s.cur ∧ s.cur < _; omega⟩, hT⟩
  · have hT2 : ∀ x, TxtOk (putT s.T s.m.next s.ls x) := fun x => by
      unfold putT; split
      · exact f.ls
      · exact hT x
    obtain ⟨e1, _, _⟩ := addE_parts s.m s.op
    refine ⟨⟨f.ls, f.cur, fun x _ => hT2 x, ⟨by show (0 : Nat) ≤ 64; decide, fun d hd => by cases hd⟩, ?_, f.md, f.md, f.mb, by have := f.cur; have := f.ls.2.1; show -9223372036854775808 ≤ s.cur ∧ s.cur < _; omega⟩, hT2⟩
    show apps (putT s.T s.m.next s.ls (addE s.m s.op).now) [] = some s.ls
    rw [e1]; unfold putT; rw [if_pos rfl]; rfl
set_option maxHeartbeats 4000000 in
theorem blinesL (h : Bf B b o M a s w) (hl : s.ls.length ≤ 1000000) : Calls Tryz.prog 14 #[.pointer (some ⟨b, 0, none⟩)] w fun e w' => ∃ gb, e = .returned (.slice (some ⟨gb, 0, none⟩) s.ls.length s.ls.length) ∧ Row w.heap.size (.slice (some ⟨gb, 0, none⟩) s.ls.length s.ls.length) s.ls w' ∧ Kp w w' := by
  have c0 := h.box.at (j := 0) rfl
  have HL : Hid _ := Tz.lines_any h.tr (by omega)
  obtain ⟨n, hn⟩ : ∃ n, s.ls.length = n := ⟨_, rfl⟩
  have HN : Hid (s.ls.length = n) := hn
  rw [hn]
  clear h hl hn
  go_enter Tryz.func14, Tryz.ntmps14
  go_wp2_with fail
  refine Calls.mono HL.out ?_
  rintro e w' ⟨v, rfl, k, gb, rfl, r⟩
  have HX : Hid (Row w.heap.size (.slice (some ⟨gb, 0, none⟩) n n) s.ls w' ∧ Kp w w') := by rw [← HN.out]; exact ⟨r, k⟩
  rw [HN.out]
  clear HL k r HN
  go_wp2_with fail
  go_ret
  exact ⟨gb, rfl, HX.out⟩
end
set_option maxHeartbeats 4000000 in
theorem o2same_eq {P Q : Nat → Prop} {v1 v2 : Value} {l : List ByteArray} {w : World} (h1 : Sl P v1 l w) (h2 : Sl Q v2 l w) :
    Calls Tryz.prog 13 #[v1, v2] w fun e w' => e = .returned (.bool true) ∧ ∃ q, w' = w.drewN q := by
  obtain ⟨a1, c1, rfl, p1, p2, _⟩ := h1.form
  obtain ⟨a2, c2, rfl, _⟩ := h2.form
  obtain ⟨n, hn⟩ : ∃ n, l.length = n := ⟨_, rfl⟩
  rw [hn] at h1 h2 p1 ⊢
  have HA : Hid (Sl P (.slice a1 n c1) l w ∧ Sl Q (.slice a2 n c2) l w ∧ l.length = n) := ⟨h1, h2, hn⟩
  have hd0 : ((n : Int) != (n : Int)) = false := by simp
  unfold maxLen at p2
  have hn9 : n ≤ 9223372036854775807 := by omega
  clear h1 h2 hn p1 p2
  go_enter Tryz.func13, Tryz.ntmps13
  go_wp2_with fail
  go_loopw [5] (fun vi wr => ∃ i : Nat, i ≤ n ∧ vi = .int .i64 i ∧ ∃ q, wr = w.drewN q) (fun vi _ => n - (intOf vi).toNat)
  case atStart => exact ⟨0, Nat.zero_le _, rfl, 0, rfl⟩
  case round =>
    obtain ⟨i, hi, rfl, q, rfl⟩ := hrel
    by_cases hlt : i < n
    · have hdl : decide ((i : Int) < (n : Int)) = true := decide_eq_true (by omega)
      obtain ⟨s, hs⟩ : ∃ s, l[i]? = some s := ⟨_, List.getElem?_eq_getElem (by rw [HA.out.2.2]; exact hlt)⟩
      obtain ⟨g1, o1, rfl, _, e1⟩ := HA.out.1.at_ hs
      obtain ⟨g2, o2, rfl, _, e2⟩ := HA.out.2.1.at_ hs
      have hli : (i : Int) < (n : Int) := by omega
      clear hs
      go_wp2_with fail
      go_quiet (fail)
      go_wp2_with fail
      go_roundw
      case rel => exact ⟨i + 1, by omega, by go_num, _, rfl⟩
      case measure => simp only [intOf]; omega
    · obtain rfl : i = n := by omega
      have hdl : decide ((i : Int) < (i : Int)) = false := by simp
      go_wp2_with fail
      go_ret
      exact ⟨rfl, _, rfl⟩
theorem eqB (ad : Addr) (w : World) : Sem.run Tryz.prog (binOp BinOp.eql 25 (.pointer (some ad)) (.pointer none)) w = .ok (.bool false) w := by kernel_rfl
theorem eqB0 (w : World) : Sem.run Tryz.prog (binOp BinOp.eql 25 (.pointer none) (.pointer none)) w = .ok (.bool true) w := by kernel_rfl
theorem eqM (ad : Addr) (w : World) : Sem.run Tryz.prog (binOp BinOp.eql 38 (.pointer (some ad)) (.pointer none)) w = .ok (.bool false) w := by kernel_rfl
end Go.Proofs.YtaefeakmlgjonaaGreat
/- law13's known. -/
namespace Go.Proofs.YtaefeakmlgjonaaGreat
open Go.ChangeShapes Go.WideShapes Go.ChangeAt Go.RowKit Go.Maps Go.MapKept
set_option linter.unusedVariables false
set_option linter.unusedSimpArgs false
set_option maxRecDepth 100000
/-- The lines of the chapter's example. -/
def abc : List ByteArray := [⟨#[97]⟩, ⟨#[98]⟩, ⟨#[99]⟩]
def xy : List ByteArray := [⟨#[120]⟩, ⟨#[121]⟩]
def kS1 : BS := spS (newS abc 9) 1 1 xy
theorem kS1_op : kS1.op = [⟨1, [⟨#[98]⟩], xy⟩] := rfl
theorem kS1_ls : kS1.ls.length = 4 := rfl
theorem abc_ln : Ln abc := ⟨by decide, fun s hs => by
  simp only [abc, List.mem_cons, List.not_mem_nil, or_false] at hs
  rcases hs with rfl | rfl | rfl <;> decide⟩
theorem kFar : beyondE ((((newS abc 9).ls.length : Nat) : Int) - ((1 : Nat) : Int) + ((xy.length : Nat) : Int)) xy = 0 := by decide
theorem kFine1 : Fine (kS1.ls.length : Int) kS1 := fine_sp (fine_new abc_ln 9) (by decide) kFar (by decide)
theorem kFine2 : Fine ((cmS kS1).ls.length : Int) (cmS kS1) := (fine_cm1 kFine1 (fun x => ⟨by show 1 ≤ abc.length; decide, abc_ln⟩)).1
theorem kCm : (cmS kS1).m = addT (first 9) kS1.op ∧ (cmS kS1).T = putT kS1.T 1 kS1.ls ∧ (cmS kS1).op = [] ∧ (cmS kS1).ls = kS1.ls ∧ (cmS kS1).cur = kS1.cur := cm_first rfl (by decide) (by rw [kS1_op]; simp)
theorem abc_row (w : World) : Lc 9 w.heap.size [.string ⟨#[97]⟩, .string ⟨#[98]⟩, .string ⟨#[99]⟩] (w.alloc (.cells #[.string ⟨#[97]⟩, .string ⟨#[98]⟩, .string ⟨#[99]⟩] 9)) := Lc.new w [.string ⟨#[97]⟩, .string ⟨#[98]⟩, .string ⟨#[99]⟩] 9
theorem lc_sl {p : Nat} {ls : List ByteArray} {w : World} (h : Lc 9 p (strs ls) w) (hm : ls.length ≤ 1000) : Sl (fun _ => True) (.slice (some ⟨p, 0, none⟩) ls.length ls.length) ls w :=
  ⟨_, _, rfl, Nat.le_refl _, by unfold maxLen; omega, (fun e => by cases e), fun i s hi => ⟨p, 0, rfl, trivial, by rw [Nat.zero_add]; exact h.at (by simp [strs, hi])⟩⟩
set_option maxHeartbeats 64000000 in
theorem bknown_any (W : World) : Calls Tryz.prog 10 #[] W fun e w' => e = .returned (.bool true) ∧ Kp W w' := by
  obtain ⟨W1, hW1⟩ : ∃ z, W.alloc (.cells #[.string ⟨#[97]⟩, .string ⟨#[98]⟩, .string ⟨#[99]⟩] 9) = z := ⟨_, rfl⟩
  obtain ⟨p, hp⟩ : ∃ p, W.heap.size = p := ⟨_, rfl⟩
  have b1 : Lc 9 p (strs abc) W1 := by rw [← hW1, ← hp]; exact abc_row W
  have k1 : Kp W W1 := by rw [← hW1]; exact kp_alloc _ _
  have HN : Hid _ := bnew_yes (B := W.heap.size) k1.size (lc_sl b1 (by decide)) (n := 9) (by decide) (by decide)
  have H1 : Hid (Kp W W1) := k1
  have e1 := eqB
  have e2 := eqM
  have e3 := eqlT
  clear b1 k1
  go_enter Tryz.func10, Tryz.ntmps10
  go_wp2_with fail
  refine Calls.mono HN.out ?_
  rintro e w2 ⟨b, rfl, k2, o, a, h2, _⟩
  have H2 : Hid (Kp W w2 ∧ Bf W.heap.size b o 50000 a (newS abc 9) w2) := ⟨kp_trans H1.out k2, h2⟩
  clear HN H1 k2 h2
  go_wp2_with fail
  refine Calls.mono (bmarks_any _ _) ?_
  rintro e w2' ⟨rfl, rfl⟩
  go_wp2_with fail
  refine Calls.mono (bstates_any H2.out.2) ?_
  rintro e w2'' ⟨rfl, rfl⟩
  obtain ⟨q, hq⟩ : ∃ q, w2''.heap.size = q := ⟨_, rfl⟩
  obtain ⟨W3, hW3⟩ : ∃ z, w2''.alloc (.cells #[.string ⟨#[120]⟩, .string ⟨#[121]⟩] 9) = z := ⟨_, rfl⟩
  have b3 : Lc 9 q (strs xy) W3 := by rw [← hW3, ← hq]; exact Lc.new w2'' [.string ⟨#[120]⟩, .string ⟨#[121]⟩] 9
  have k3 : Kp w2'' W3 := by rw [← hW3]; exact kp_alloc _ _
  have HS : Hid (Calls Tryz.prog 24 #[.pointer (some ⟨b, 0, none⟩), .int .i64 2, .int .i64 1, .slice (some ⟨q, 0, none⟩) 2 2] W3 fun e w' => e = .returned (.int .u16 0) ∧ ∃ o' ov', Bf W.heap.size b o' 140000 { a with ov := ov' } kS1 w' ∧ FK W.heap.size o o' W3 w') :=
    splice_done (H2.out.2.kp_ k3) (fine_new abc_ln 9) (by decide) (by decide) (i := 1) (n := 1) (by decide) (lc_sl b3 (by decide)) (by decide) kFar (by decide)
  have H3 : Hid (Kp W W3) := kp_trans H2.out.1 k3
  clear H2 b3 k3
  go_wp2_with fail
  refine Calls.mono HS.out ?_
  rintro e w4 ⟨rfl, o4, ov4, h4, f4⟩
  have HC : Hid _ := commit_yes h4 kFine1 (by rw [kS1_op]; simp) (by decide)
  have H4 : Hid (Kp W w4) := H3.out.trans (f4.below H3.out.size)
  clear HS H3 h4 f4
  go_wp2_with fail
  refine Calls.mono HC.out ?_
  rintro e w5 ⟨rfl, a5, ha5, h5, f5⟩
  have HLn : Hid (Calls Tryz.prog 20 #[.pointer (some ⟨b, 0, none⟩)] w5 fun e w' => e = .returned (.int .i64 4) ∧ ∃ q, w' = w5.drewN q) := by
    have := blen_any h5
    rw [kCm.2.2.2.1, kS1_ls] at this; exact this
  have H5 : Hid (Kp W w5 ∧ Bf W.heap.size b o4 140000 a5 (cmS kS1) w5) := ⟨H4.out.trans (f5.below H4.out.size), h5⟩
  have hnx : (kS1.m.next : Int) = 1 := rfl
  rw [hnx]
  clear HC H4 h5 f5 ha5 hnx
  go_wp2_with fail
  refine Calls.mono HLn.out ?_
  rintro e w6 ⟨rfl, q6, rfl⟩
  have h6 := H5.out.2.kp_ (kp_drewN w5 q6)
  have HU : Hid _ := bundo_any (c := 64) h6 kFine2 kCm.2.2.1 (by decide) (by decide) (st := ⟨1, 0, -1, kS1.op⟩) (by rw [kCm.1]; exact first_look) (fun x s' hx => (h6.st.sm x s' hx).1)
  have H6 : Hid (Kp W (w5.drewN q6)) := kp_trans H5.out.1 (kp_drewN _ _)
  clear HLn H5 h6
  go_wp2_with fail
  refine Calls.mono HU.out ?_
  rintro e w7 ⟨err, rfl, ⟨_, ⟨_, hbad⟩, _⟩ | ⟨rfl, o7, kb7, m', ds, ⟨_, rfl, rfl⟩, _, h7, f7⟩⟩
  · exact absurd hbad (by decide)
  have hls : (wyS (cmS kS1) { (cmS kS1).m with now := 0 } (turnD kS1.op)).ls = abc := by
    show (cmS kS1).T 0 = abc
    rw [kCm.2.1]; rfl
  have hcu : (wyS (cmS kS1) { (cmS kS1).m with now := 0 } (turnD kS1.op)).cur = 2 := by
    show curT (cmS kS1) (turnD kS1.op) ((cmS kS1).T 0).length = 2
    rw [kCm.2.1]; rfl
  have HLi : Hid _ := blinesL h7 (by show ((wyS (cmS kS1) { (cmS kS1).m with now := 0 } (turnD kS1.op)).ls).length ≤ _; rw [hls]; decide)
  have HCu : Hid (∀ z, Kp w7 z → Calls Tryz.prog 25 #[.pointer (some ⟨b, 0, none⟩)] z fun e w' => e = .returned (.int .i64 2) ∧ w' = z) := fun z kz => by
    have := bcursor_any (h7.kp_ kz)
    rw [show (wyS (cmS kS1) { (cmS kS1).m with now := (⟨1, 0, -1, kS1.op⟩ : St).fr } (turnD (⟨1, 0, -1, kS1.op⟩ : St).by_)).cur = 2 from hcu] at this
    exact this
  have H7 : Hid (Kp W w7) := H6.out.trans (f7.below H6.out.size)
  rw [show (wyS (cmS kS1) { (cmS kS1).m with now := (⟨1, 0, -1, kS1.op⟩ : St).fr } (turnD (⟨1, 0, -1, kS1.op⟩ : St).by_)).ls = abc from hls] at HLi
  rw [show abc.length = 3 from rfl] at HLi
  clear HU H6 h7 f7 hls hcu
  go_wp2_with fail
  refine Calls.mono HLi.out ?_
  rintro e w8 ⟨gb, rfl, r8, k8⟩
  obtain ⟨p8, hp8⟩ : ∃ p, w8.heap.size = p := ⟨_, rfl⟩
  obtain ⟨W9, hW9⟩ : ∃ z, w8.alloc (.cells #[.string ⟨#[97]⟩, .string ⟨#[98]⟩, .string ⟨#[99]⟩] 9) = z := ⟨_, rfl⟩
  have b9 : Lc 9 p8 (strs abc) W9 := by rw [← hW9, ← hp8]; exact abc_row w8
  have k9 : Kp w8 W9 := by rw [← hW9]; exact kp_alloc _ _
  have HSm : Hid (Calls Tryz.prog 13 #[.slice (some ⟨gb, 0, none⟩) 3 3, .slice (some ⟨p8, 0, none⟩) 3 3] W9 fun e w' => e = .returned (.bool true) ∧ ∃ q, w' = W9.drewN q) := o2same_eq ((Sl.of_row r8).kp k9) (lc_sl b9 (by decide))
  have H9 : Hid (Kp w7 W9 ∧ Kp W W9) := ⟨kp_trans k8 k9, kp_trans H7.out (kp_trans k8 k9)⟩
  clear HLi r8 k8 b9 k9 H7
  go_wp2_with fail
  refine Calls.mono HSm.out ?_
  rintro e w10 ⟨rfl, q10, rfl⟩
  clear HSm
  go_wp2_with fail
  refine Calls.mono (HCu.out _ (kp_trans H9.out.1 (kp_drewN _ _))) ?_
  rintro e w11 ⟨rfl, rfl⟩
  have HX : Hid (Kp W (W9.drewN q10)) := kp_trans H9.out.2 (kp_drewN _ _)
  clear HCu H9
  go_wp2_with fail
  go_ret
  exact ⟨rfl, HX.out⟩
end Go.Proofs.YtaefeakmlgjonaaGreat
/- heavy without calls; BufEmpty, walked. -/
namespace Go.Proofs.YtaefeakmlgjonaaGreat
open Go.ChangeShapes Go.WideShapes Go.ChangeAt Go.RowKit Go.Maps Go.MapKept
set_option linter.unusedVariables false
set_option linter.unusedSimpArgs false
set_option maxRecDepth 100000
section
variable {P : Nat → Prop} {B : Nat} {w w1 : World} {v : Value} {ls : List ByteArray}
theorem sl_below (h : Sl (fun k => k < B) v ls w) (k : Below B w w1) : Sl (fun k => k < B) v ls w1 := by
  obtain ⟨a, cap, rfl, q1, q2, q3, q4⟩ := h
  refine ⟨a, cap, rfl, q1, q2, q3, fun i s hi => ?_⟩
  obtain ⟨g, o, e, p, c⟩ := q4 i s hi
  exact ⟨g, o, e, p, by rw [World.cell?_of_block (k.block g p)]; exact c⟩
set_option maxHeartbeats 16000000 in
theorem heavy0_any (h : Sl P v ls w) : Calls Tryz.prog 9 #[v, .slice none 0 0] w fun e w' => (∃ x, e = .returned (.bool x)) ∧ ∃ q, w' = w.drewN q := by
  obtain ⟨a', c, rfl, h1, h2, _⟩ := h.form
  obtain ⟨n, hn⟩ : ∃ n, ls.length = n := ⟨_, rfl⟩
  have HS : Hid (Sl P (.slice a' n c) ls w ∧ ls.length = n) := ⟨by rw [← hn]; exact h, hn⟩
  rw [hn] at h1 ⊢
  unfold maxLen at h2
  have hn9 : n ≤ 9223372036854775807 := by omega
  clear h hn h1 h2
  go_enter Tryz.func9, Tryz.ntmps9
  go_wp2_with fail
  go_loopw [5, 6] (fun v5 v6 wr => ∃ (i : Nat) (x : Int), i ≤ n ∧ v5 = .int .i64 x ∧ v6 = .int .i64 i ∧ ∃ q, wr = w.drewN q) (fun _ v6 _ => n - (intOf v6).toNat)
  case atStart => exact ⟨0, 0, Nat.zero_le _, rfl, rfl, 0, rfl⟩
  case round =>
    obtain ⟨i, x, hi, rfl, rfl, q, rfl⟩ := hrel
    by_cases hlt : i < n
    · have g1 : decide ((i : Int) < (n : Int)) = true := decide_eq_true (by omega)
      have g2 : decide (i < n) = true := decide_eq_true hlt
      obtain ⟨y, hy⟩ : ∃ x, ls[i]? = some x := ⟨_, List.getElem?_eq_getElem (by rw [HS.out.2]; exact hlt)⟩
      obtain ⟨g, off, rfl, _, e1⟩ := HS.out.1.at_ hy
      clear hy
      go_wp2_with fail
      go_roundw
      case rel => exact ⟨i + 1, _, by omega, rfl, by go_num, _, rfl⟩
      case measure => simp only [intOf]; omega
    · obtain rfl : i = n := by omega
      have g1 : decide ((i : Int) < (i : Int)) = false := by simp
      clear HS
      by_cases z : 2100 < i
      · have d1 : decide ((i : Int) > 2100) = true := decide_eq_true (by omega)
        have d2 : decide ((2100 : Int) < (i : Int)) = true := decide_eq_true (by omega)
        have d3 : decide (2100 < i) = true := decide_eq_true z
        go_wp2_with fail
        go_loopw [5, 7] (fun v5 v7 wr => v5 = .int .i64 x ∧ v7 = .int .i64 0 ∧ ∃ q, wr = w.drewN q) (fun _ _ _ => 0)
        case atStart => exact ⟨rfl, rfl, _, rfl⟩
        case round =>
          obtain ⟨rfl, rfl, q2, rfl⟩ := hrel
          go_wp2_with fail
          go_ret
          exact ⟨⟨_, rfl⟩, _, rfl⟩
      · have d1 : decide ((i : Int) > 2100) = false := decide_eq_false (by omega)
        have d2 : decide ((2100 : Int) < (i : Int)) = false := decide_eq_false (by omega)
        have d3 : decide (2100 < i) = false := decide_eq_false z
        by_cases y : 20000 < x
        · have d4 : decide (x > 20000) = true := decide_eq_true y
          have d5 : decide (20000 < x) = true := decide_eq_true y
          go_wp2_with fail
          go_loopw [5, 7] (fun v5 v7 wr => v5 = .int .i64 x ∧ v7 = .int .i64 0 ∧ ∃ q, wr = w.drewN q) (fun _ _ _ => 0)
          case atStart => exact ⟨rfl, rfl, _, rfl⟩
          case round =>
            obtain ⟨rfl, rfl, q2, rfl⟩ := hrel
            go_wp2_with fail
            go_ret
            exact ⟨⟨_, rfl⟩, _, rfl⟩
        · have d4 : decide (x > 20000) = false := decide_eq_false y
          have d5 : decide (20000 < x) = false := decide_eq_false y
          go_wp2_with fail
          go_loopw [5, 7] (fun v5 v7 wr => v5 = .int .i64 x ∧ v7 = .int .i64 0 ∧ ∃ q, wr = w.drewN q) (fun _ _ _ => 0)
          case atStart => exact ⟨rfl, rfl, _, rfl⟩
          case round =>
            obtain ⟨rfl, rfl, q2, rfl⟩ := hrel
            go_wp2_with fail
            go_ret
            exact ⟨⟨_, rfl⟩, _, rfl⟩
end
/-- A text of which all is taken. -/
def eS (ls : List ByteArray) : BS := spS (newS ls 20) 0 (one1 ls).length []
section
variable {ls : List ByteArray}
theorem one1_pos : 1 ≤ (one1 ls).length := by unfold one1; split; exact Nat.le_refl 1; omega
theorem eS_ls : (eS ls).ls = [⟨#[]⟩] := by
  show spl (one1 ls) 0 (one1 ls).length (putL (one1 ls).length (one1 ls).length []) = _
  unfold spl putL
  rw [if_pos rfl, Nat.zero_add, List.take_zero, List.drop_length]
  rfl
theorem eS_cur : (eS ls).cur = 1 := by
  show putC 1 (eS ls).ls.length = 1
  rw [eS_ls]; rfl
theorem eS_op : (eS ls).op ≠ [] := by show ([] ++ [_] : List Dl) ≠ []; simp
theorem eFar : beyondE ((((newS ls 20).ls.length : Nat) : Int) - (((one1 ls).length : Nat) : Int) + ((([] : List ByteArray).length : Nat) : Int)) [] = 0 := by
  show beyondE ((((one1 ls).length : Nat) : Int) - (((one1 ls).length : Nat) : Int) + ((0 : Nat) : Int)) [] = 0
  unfold beyondE
  rw [if_neg (by omega)]; rfl
theorem eFine1 (h : Ln ls) : Fine ((eS ls).ls.length : Int) (eS ls) := fine_sp (fine_new h 20) (by show 0 + (one1 ls).length ≤ (one1 ls).length; omega) eFar (by show (0 : Nat) < 64; decide)
theorem eFine2 (h : Ln ls) : Fine ((cmS (eS ls)).ls.length : Int) (cmS (eS ls)) := (fine_cm1 (eFine1 h) (fun x => ⟨one1_pos, one1_ln h⟩)).1
theorem eCm : (cmS (eS ls)).m = addT (first 20) (eS ls).op ∧ (cmS (eS ls)).T = putT (eS ls).T 1 (eS ls).ls ∧ (cmS (eS ls)).op = [] ∧ (cmS (eS ls)).ls = (eS ls).ls ∧ (cmS (eS ls)).cur = (eS ls).cur := cm_first rfl (by decide) eS_op
theorem ln_new (hE : beyondE (ls.length : Int) ls = 0) : Ln ls := by
  unfold beyondE at hE
  split at hE
  · cases hE
  · split at hE
    · cases hE
    · rename_i q1 q2
      exact ln_of (by omega) (by simpa using q2)
end
set_option maxHeartbeats 64000000 in
theorem empty_law {v : Value} {ls : List ByteArray} {W : World} (hF : Sl (fun k => k < W.heap.size) v ls W) : Calls Tryz.prog 5 #[v] W fun e w' => e = .returned (.bool true) ∧ Below W.heap.size W w' := by
  have HV : Hid _ := heavy0_any hF
  obtain ⟨va, vc, rfl, c1, c2, _⟩ := hF.form
  obtain ⟨n, hn⟩ : ∃ n, ls.length = n := ⟨_, rfl⟩
  have HF : Hid (Sl (fun k => k < W.heap.size) (.slice va n vc) ls W ∧ ls.length = n) := ⟨by rw [← hn]; exact hF, hn⟩
  rw [hn] at HV c1 ⊢
  unfold maxLen at c2
  have hn9 : n ≤ 9223372036854775807 := by omega
  have e1 := eqB
  have e2 := eqB0
  have HK : Hid (∀ z, Kp W z → Calls Tryz.prog 10 #[] z fun e w' => e = .returned (.bool true) ∧ Hid (Kp W w')) := fun z kz => (bknown_any z).mono (by rintro e w' ⟨rfl, k⟩; exact ⟨rfl, kp_trans kz k⟩)
  clear hF hn c1 c2
  go_enter Tryz.func5, Tryz.ntmps5
  go_wp2_with fail
  refine Calls.mono HV.out ?_
  rintro e w1 ⟨⟨hv, rfl⟩, q1, rfl⟩
  clear HV
  cases hv with
  | true =>
    go_wp2_with fail
    refine Calls.mono (HK.out _ (kp_drewN _ _)) ?_
    rintro e w2 ⟨rfl, H2⟩
    clear HK
    go_wp2_with fail
    go_ret
    exact ⟨rfl, H2.out⟩
  | false =>
    by_cases h300 : 300 < n
    · have d1 : decide ((n : Int) > 300) = true := decide_eq_true (by omega)
      have d2 : decide ((300 : Int) < (n : Int)) = true := decide_eq_true (by omega)
      have d3 : decide (300 < n) = true := decide_eq_true h300
      go_wp2_with fail
      refine Calls.mono (HK.out _ (kp_drewN _ _)) ?_
      rintro e w2 ⟨rfl, H2⟩
      clear HK
      go_wp2_with fail
      go_ret
      exact ⟨rfl, H2.out⟩
    · have d1 : decide ((n : Int) > 300) = false := decide_eq_false (by omega)
      have d2 : decide ((300 : Int) < (n : Int)) = false := decide_eq_false (by omega)
      have d3 : decide (300 < n) = false := decide_eq_false h300
      go_wp2_with fail
      refine Calls.mono (HK.out _ (kp_drewN _ _)) ?_
      rintro e w2 ⟨rfl, H2⟩
      have hsl2 := HF.out.1.kp H2.out
      clear HK
      by_cases hE : beyondE (ls.length : Int) ls = 0
      · as_aux_lemma =>
        have HN : Hid _ := bnew_yes (B := W.heap.size) H2.out.size hsl2 (n := 20) (by decide) hE
        have HLn : Hid (Ln ls) := ln_new hE
        clear hE hsl2
        go_wp2_with fail
        refine Calls.mono HN.out ?_
        rintro e w3 ⟨b, rfl, k3, o, a, h3, _⟩
        have H3 : Hid (Kp W w3 ∧ Bf W.heap.size b o 50000 a (newS ls 20) w3) := ⟨kp_trans H2.out k3, h3⟩
        have HLe : Hid _ := blen_any h3
        obtain ⟨L, hL⟩ : ∃ L, (newS ls 20).ls.length = L := ⟨_, rfl⟩
        have HL : Hid ((one1 ls).length = L ∧ (newS ls 20).ls.length = L ∧ 1 ≤ L) := ⟨hL, hL, by rw [← hL]; exact one1_pos⟩
        rw [hL] at HLe
        clear HN k3 h3 hL H2
        go_wp2_with fail
        refine Calls.mono HLe.out ?_
        rintro e w4 ⟨rfl, q4, rfl⟩
        have HS : Hid (Calls Tryz.prog 24 #[.pointer (some ⟨b, 0, none⟩), .int .i64 1, .int .i64 L, .slice none 0 0] (w3.drewN q4) fun e w' => e = .returned (.int .u16 0) ∧ ∃ o' ov', Bf W.heap.size b o' 140000 { a with ov := ov' } (eS ls) w' ∧ FK W.heap.size o o' (w3.drewN q4) w') := by
          have := splice_done (H3.out.2.kp_ (kp_drewN w3 q4)) (fine_new HLn.out 20) (by have := HLn.out.1; show (((one1 ls).length : Nat) : Int) ≤ _; have := (one1_ln HLn.out).1; omega) (by decide) (i := 0) (n := (one1 ls).length) (by show 0 + (one1 ls).length ≤ (one1 ls).length; omega) (Sl.nil (fun _ => True) _) (by decide) eFar (by rintro ⟨q, _⟩; have := HL.out.2.2; have := HL.out.1; omega)
          have e9 : (eS ls) = spS (newS ls 20) 0 (one1 ls).length [] := rfl
          rw [e9]
          rw [HL.out.1] at this ⊢
          exact this
        have H4 : Hid (Kp W (w3.drewN q4)) := kp_trans H3.out.1 (kp_drewN _ _)
        clear HLe H3
        go_wp2_with fail
        refine Calls.mono HS.out ?_
        rintro e w5 ⟨rfl, o5, ov5, h5, f5⟩
        have HLi : Hid _ := blinesL h5 (by rw [eS_ls]; decide)
        have HCu : Hid (∀ z, Kp w5 z → Calls Tryz.prog 25 #[.pointer (some ⟨b, 0, none⟩)] z fun e w' => e = .returned (.int .i64 1) ∧ w' = z) := fun z kz => by
          have := bcursor_any (h5.kp_ kz)
          rw [eS_cur] at this; exact this
        have HC : Hid (∀ z, Kp w5 z → Calls Tryz.prog 15 #[.pointer (some ⟨b, 0, none⟩)] z fun e w' => e = .returned (.tuple #[.int .i64 1, .bool true]) ∧ ∃ a', Bf W.heap.size b o5 140000 a' (cmS (eS ls)) w' ∧ FK W.heap.size o5 o5 z w') := fun z kz => (commit_yes (h5.kp_ kz) (eFine1 HLn.out) eS_op (by show (1 : Int) ≤ 199; decide)).mono (by
            rintro e w' ⟨rfl, a', _, q1, q2⟩
            exact ⟨rfl, a', q1, q2⟩)
        have H5 : Hid (Kp W w5) := H4.out.trans (f5.below H4.out.size)
        rw [eS_ls] at HLi
        rw [show ([⟨#[]⟩] : List ByteArray).length = 1 from rfl] at HLi
        clear HS H4 h5 f5
        go_wp2_with fail
        refine Calls.mono HLi.out ?_
        rintro e w6 ⟨gb, rfl, r6, k6⟩
        have HSm : Hid (Calls Tryz.prog 13 #[.slice (some ⟨gb, 0, none⟩) 1 1, .slice (some ⟨w6.heap.size, 0, none⟩) 1 1] (w6.alloc (.cells #[.string ⟨#[]⟩] 9)) fun e w' => e = .returned (.bool true) ∧ ∃ q, w' = (w6.alloc (.cells #[.string ⟨#[]⟩] 9)).drewN q) := o2same_eq ((Sl.of_row r6).kp (kp_alloc _ _)) (Sl.of_row (one_row w6))
        have H6 : Hid (Kp w5 (w6.alloc (.cells #[.string ⟨#[]⟩] 9))) := kp_trans k6 (kp_alloc _ _)
        clear HLi r6 k6
        go_wp2_with fail
        refine Calls.mono HSm.out ?_
        rintro e w7 ⟨rfl, q7, rfl⟩
        clear HSm
        go_wp2_with fail
        refine Calls.mono (HCu.out _ (kp_trans H6.out (kp_drewN _ _))) ?_
        rintro e w8 ⟨rfl, rfl⟩
        clear HCu
        go_wp2_with fail
        refine Calls.mono (HC.out _ (kp_trans H6.out (kp_drewN _ _))) ?_
        rintro e w9 ⟨rfl, a9, h9, f9⟩
        have HU : Hid _ := bundo_any (c := 64) h9 (eFine2 HLn.out) eCm.2.2.1 (by decide) (by decide) (st := ⟨1, 0, -1, (eS ls).op⟩) (by rw [eCm.1]; exact first_look) (fun x s' hx => (h9.st.sm x s' hx).1)
        have H9 : Hid (Kp W w9) := by
          have k0 := kp_trans H5.out (kp_trans H6.out (kp_drewN _ q7))
          exact k0.trans (f9.below k0.size)
        clear HC h9 f9 H5 H6
        go_wp2_with fail
        refine Calls.mono HU.out ?_
        rintro e w10 ⟨err, rfl, ⟨_, ⟨_, hbad⟩, _⟩ | ⟨rfl, o10, kb10, m', ds, ⟨_, rfl, rfl⟩, _, h10, f10⟩⟩
        · exact absurd hbad (by decide)
        have hls : (wyS (cmS (eS ls)) { (cmS (eS ls)).m with now := (⟨1, 0, -1, (eS ls).op⟩ : St).fr } (turnD (⟨1, 0, -1, (eS ls).op⟩ : St).by_)).ls = one1 ls := by
          show (cmS (eS ls)).T 0 = one1 ls
          rw [eCm.2.1]; rfl
        have H10 : Hid (Below W.heap.size W w10) := H9.out.trans (f10.below H9.out.size)
        have HLi : Hid (∀ z, Kp w10 z → Calls Tryz.prog 14 #[.pointer (some ⟨b, 0, none⟩)] z fun e w' => ∃ gb, e = .returned (.slice (some ⟨gb, 0, none⟩) L L) ∧ Sl (fun _ => True) (.slice (some ⟨gb, 0, none⟩) L L) (one1 ls) w' ∧ Kp z w') := fun z kz => by
          have := blinesL (h10.kp_ kz) (by rw [hls, HL.out.1]; have := (one1_ln HLn.out).1; have := HL.out.1; omega)
          rw [hls, HL.out.1] at this
          exact this.mono (by rintro e w' ⟨gb, rfl, r, k⟩; exact ⟨gb, rfl, (Sl.of_row r).mono fun _ _ _ => trivial, k⟩)
        clear HU H9 h10 f10 hls
        by_cases z : n = 0
        · subst z
          have HW : Hid (one1 ls = [⟨#[]⟩] ∧ L = 1) := by
            have e : one1 ls = [⟨#[]⟩] := by unfold one1; rw [if_pos HF.out.2]
            exact ⟨e, by rw [← HL.out.1, e]; rfl⟩
          obtain ⟨W11, hW11⟩ : ∃ z, w10.alloc (.cells #[.string ⟨#[]⟩] 9) = z := ⟨_, rfl⟩
          have HR : Hid (∀ z, Kp W11 z → Sl (fun _ => True) (.slice (some ⟨w10.heap.size, 0, none⟩) 1 1) (one1 ls) z) := fun z kz => by
            rw [HW.out.1]
            have := (Sl.of_row (one_row w10)).mono (Q := fun _ => True) fun _ _ _ => trivial
            rw [hW11] at this
            exact this.kp kz
          have k11 : Kp w10 W11 := by rw [← hW11]; exact kp_alloc _ _
          have H11 : Hid (Kp w10 W11) := k11
          clear k11
          go_wp2_with fail
          refine Calls.mono (HLi.out _ H11.out) ?_
          rintro e w12 ⟨gb, rfl, s12, k12⟩
          have HSm : Hid (Calls Tryz.prog 13 #[.slice (some ⟨gb, 0, none⟩) L L, .slice (some ⟨w10.heap.size, 0, none⟩) 1 1] w12 fun e w' => e = .returned (.bool true) ∧ ∃ q, w' = w12.drewN q) := by
            have hh := HR.out w12 k12
            exact o2same_eq s12 hh
          have HX : Hid (∀ q, Below W.heap.size W (w12.drewN q)) := fun q => H10.out.trans ((kp_trans (kp_trans H11.out k12) (kp_drewN _ _)).mono H10.out.size)
          clear HLi s12 k12 HR HW H11 H10
          go_wp2_with fail
          refine Calls.mono HSm.out ?_
          rintro e w13 ⟨rfl, q13, rfl⟩
          clear HSm
          go_wp2_with fail
          go_ret
          exact ⟨rfl, HX.out _⟩
        · have dz : ((n : Int) == 0) = false := beq_eq_false_iff_ne.2 (by omega)
          have HW : Hid (one1 ls = ls ∧ L = n) := by
            have e : one1 ls = ls := by unfold one1; rw [if_neg (by rw [HF.out.2]; exact z)]
            exact ⟨e, by rw [← HL.out.1, e]; exact HF.out.2⟩
          go_wp2_with fail
          refine Calls.mono (HLi.out _ (Below.refl _ _)) ?_
          rintro e w12 ⟨gb, rfl, s12, k12⟩
          have HSm : Hid (Calls Tryz.prog 13 #[.slice (some ⟨gb, 0, none⟩) L L, .slice va n vc] w12 fun e w' => e = .returned (.bool true) ∧ ∃ q, w' = w12.drewN q) := by
            rw [HW.out.1] at s12
            exact o2same_eq s12 ((sl_below HF.out.1 H10.out).kp k12)
          have HX : Hid (∀ q, Below W.heap.size W (w12.drewN q)) := fun q => H10.out.trans ((kp_trans k12 (kp_drewN _ _)).mono H10.out.size)
          clear HLi s12 k12 HW H10
          go_wp2_with fail
          refine Calls.mono HSm.out ?_
          rintro e w13 ⟨rfl, q13, rfl⟩
          clear HSm
          go_wp2_with fail
          go_ret
          exact ⟨rfl, HX.out _⟩
      · as_aux_lemma =>
        have hE90 : beyondE (ls.length : Int) ls = 90 := by
          have hl := HF.out.2
          unfold beyondE at hE ⊢
          rw [if_neg (by omega)] at hE ⊢
          split
          · rfl
          · rename_i q; rw [if_neg q] at hE; exact absurd rfl hE
        have HN : Hid _ := bnew_no hsl2 (n := 20) (by decide) hE90 (by decide) (by decide)
        clear hE hsl2 hE90
        go_wp2_with fail
        refine Calls.mono HN.out ?_
        rintro e w3 ⟨rfl, k3⟩
        have HX : Hid (Kp W w3) := kp_trans H2.out k3
        clear HN k3
        go_wp2_with fail
        go_ret
        exact ⟨rfl, HX.out⟩
end Go.Proofs.YtaefeakmlgjonaaGreat
/- Lines that are handed in. -/
namespace Go.Proofs.YtaefeakmlgjonaaGreat
open Go.ChangeShapes Go.WideShapes Go.ChangeAt Go.RowKit
set_option linter.unusedVariables false
set_option linter.unusedSimpArgs false
set_option maxRecDepth 100000
def Anyw (_ : Nat) : Prop := True
theorem fU8 {a : Int} (w : (Lit.int .u8 a).wf = true) : 0 ≤ a ∧ a < 256 := by
  have h : (decide (IntKind.u8.min ≤ a) && decide (a ≤ IntKind.u8.max)) = true := w
  rw [Bool.and_eq_true, decide_eq_true_eq, decide_eq_true_eq] at h
  have e1 : IntKind.u8.min = 0 := by decide
  have e2 : IntKind.u8.max = 255 := by decide
  omega
theorem cInt : Tryz.prog.cellsOf 3 = 1 := by kernel_rfl
theorem cUB : Tryz.prog.cellsOf 5 = 1 := by kernel_rfl
theorem cStr : Tryz.prog.cellsOf 9 = 1 := by kernel_rfl
theorem cStrs : Tryz.prog.cellsOf 22 = 1 := by kernel_rfl
theorem bulk_mem {H : Type} {d : DataW H} {l : List (DataW H)} (h : d ∈ l) : Rows.uptoBulk d ≤ Rows.uptoBulkAll l := by
  induction l with
  | nil => cases h
  | cons x r ih =>
    simp only [Rows.uptoBulkAll]
    cases List.mem_cons.1 h with
    | inl e => subst e; omega
    | inr e => have := ih e; omega
theorem bulk_of {H : Type} {l : List (DataW H)} (hk : Rows.uptoSmall H l = true) {j : Nat} {d : DataW H} (hd : l[j]? = some d) : Rows.uptoBulk d ≤ 1048576 := by
  have h : Rows.uptoBulkAll l ≤ 1048576 := of_decide_eq_true hk
  have := bulk_mem (List.mem_of_getElem? hd)
  omega
theorem bulk_one {H : Type} (x : DataW H) : 1 ≤ Rows.uptoBulk x := by
  cases x with
  | lit l => cases l <;> simp [Rows.uptoBulk]
  | _ => simp [Rows.uptoBulk]
theorem bulk_sum {H : Type} (D : Nat → DataW H) (w : Nat → Nat) : ∀ l : List Nat, (∀ i ∈ l, w i ≤ Rows.uptoBulk (D i)) → (l.map w).sum ≤ Rows.uptoBulkAll (l.map D)
  | [], _ => by simp
  | a :: r, h => by
    have h1 := h a (by simp)
    have h2 := bulk_sum D w r fun i hi => h i (by simp [hi])
    simp only [List.map_cons, List.sum_cons, Rows.uptoBulkAll]
    omega
theorem bulk_len {H : Type} (l : List (DataW H)) : l.length ≤ Rows.uptoBulkAll l := by
  induction l with
  | nil => simp
  | cons x r ih =>
    have := bulk_one x
    simp only [Rows.uptoBulkAll, List.length_cons]; omega
theorem lines_cells {H : Type} {enc : TypeId × Value → H} {W : World} {fuel : Nat} {v : Value} {d : DataW H} {p : List MemPlace} (h : DataW.trod enc Tryz.prog W 0 (fun _ => true) true fuel 22 [v] = some (d, p)) :
    ∃ ls, Sl Anyw v ls W ∧ ls.length + 1 ≤ Rows.uptoBulk d := by
  rcases Deep.open_strs Tryz.underlying22 Tryz.underlying9 cStr h with ⟨hcs, hx⟩ | ⟨a, len, cap, m, Sx, hcs, _, hl, hm, hmm, hx, hcell⟩
  · simp only [List.cons.injEq, and_true] at hcs
    subst hcs
    exact ⟨[], Sl.nil _ _, bulk_one d⟩
  · simp only [List.cons.injEq, and_true] at hcs
    subst hcs
    simp only [if_true] at hmm
    subst hmm
    simp only [Prod.mk.injEq] at hx
    refine ⟨(List.range len).map Sx, ⟨some a, m, by simp, by simpa using hl, hm, (fun e => by cases e), fun i s hi => ?_⟩, ?_⟩
    · simp only [List.getElem?_map, Option.map_eq_some_iff] at hi
      obtain ⟨k, hk, rfl⟩ := hi
      obtain ⟨hlt, hk⟩ := List.getElem?_eq_some_iff.1 hk
      simp at hk hlt
      subst hk
      obtain ⟨b, off, spot⟩ := a
      have hspot : spot = none := by simpa [Addr.add] using World.cell?_spot (hcell 0 (by omega)).1
      subst hspot
      refine ⟨b, off, rfl, trivial, ?_⟩
      have := (hcell i (by omega)).1
      rw [add2] at this
      exact this
    · rw [hx.1]
      simp only [Rows.uptoBulk]
      have := bulk_len ((List.range len).map fun i => (DataW.lit (.string (Sx i).data.toList) : DataW H))
      simp only [List.length_map, List.length_range] at this ⊢
      omega
theorem strs_form {H : Type} {enc : TypeId × Value → H} {W : World} {base : Nat} {v : Value} {d : DataW H} {p : List MemPlace} (hval : Value.okWide Tryz.prog W .any base 22 v) (h : DataW.Trod enc Tryz.prog W 0 (fun _ => true) true 22 v d p) :
    ∃ ls, Sl (fun k => k < W.heap.size) v ls W ∧ ls.length + 1 ≤ Rows.uptoBulk d := by
  obtain ⟨a0, len0, cap0, rfl⟩ := okWide_slice Tryz.underlying22 hval
  obtain ⟨fuel, hf⟩ := h
  obtain ⟨ls, h1, h2⟩ := lines_cells hf
  exact ⟨ls, h1.mono fun k hk _ => hk, h2⟩
end Go.Proofs.YtaefeakmlgjonaaGreat
