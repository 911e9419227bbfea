/- Texts that the proof of the law stands on: QL, RA, RF, RC, RD, RE. -/
import Derived.Test.YtbnlenanfhggiaaPartB
import Derived.Test.YtbnlenanfhggiaaPartA
import Derived.Lib.AppendZerosOnto
import Derived.Deep.RegionHeld3
/- Keys are gathered and sorted: AppendSeq, Collect, Sorted. -/
namespace Go.Proofs.Ytbnlenanfhggiaa
open Go.ChangeShapes Go.WideShapes Go.ChangeAt Go.RowKit Go.Maps Go.MapKept Go.Shelf Go.Sort
set_option linter.unusedVariables false
set_option linter.unusedSimpArgs false
attribute [local go_sem] Oper.semAt_some
/-- Bytes as they lie in memory. -/
def zcs (l : List Int) : List Value := l.map (Value.int .u8)
theorem zcs_len (l : List Int) : (zcs l).length = l.length := by simp [zcs]
theorem zcs_one (l : List Int) : ∀ u ∈ zcs l, u.oneCell' = true := fun u hu => by
  obtain ⟨b, _, rfl⟩ := List.mem_map.1 hu
  rfl
/-- What is gathered lies in box B. -/
structure Apd (w : World) (B : Nat) (pre : List Int) (v : Value) (W : World) : Prop where
  box : Lc 39 B [v] W
  row : W.ownsRow w.heap.size 5 1 v pre.length (zcs pre)
  kp : Kp w W
  ge : w.heap.size ≤ B
section
variable {w W W1 : World} {B : Nat} {pre : List Int} {v : Value}
theorem Apd.grown (h : Apd w B pre v W) {row : Option Nat} {B0 : Nat} (hg : W.grownBy W1 row) (hr : ∀ r, row = some r → B0 ≤ r ∧ ∃ o : Obj, W.heap[r]? = some o ∧ o.isCells = false) (hB : w.heap.size ≤ B0) : Apd w B pre v W1 := by
  have f : Fr (fun k => row = some k) W W1 := ⟨hg.os, hg.tape, hg.output, hg.size, fun k hk q => hg.block k hk fun e => q e.symm⟩
  have hn : ∀ k c e g, W.heap[k]? = some (.cells c e g) → ¬ row = some k := fun k c e g hk q => by
    obtain ⟨_, o, h1, h2⟩ := hr k q
    rw [hk] at h1; cases h1; cases h2
  refine ⟨h.box.fr f (hn B _ _ _ h.box), row_fr h.row f fun j hj q => ?_, h.kp.trans (f.below h.kp.size fun k hk q => by have := (hr k q).1; omega), h.ge⟩
  rcases h.row.2 with ⟨e, _⟩ | ⟨g, cap, cur, e, _, hgr, _⟩
  · rw [e] at hj; cases hj
  · rw [e] at hj; simp only [Value.ownBlock, Option.some.injEq] at hj
    subst hj; exact hn g _ _ _ hgr q
/-- One more. -/
theorem Apd.more (h : Apd w B pre v W) {w1 : World} {v' : Value} {x : Int} (ho : w1.ownsRow w.heap.size 5 1 v' (pre.length + 1) (zcs pre ++ [.int .u8 x])) (hg : (W.alloc (.cells #[.int .u8 x] 5)).grownBy w1 v.ownBlock) :
    (w1.cell? ⟨B, 0, none⟩ = some v ∧ w1.frozen? ⟨B, 0, none⟩ = false) ∧ Apd w B (pre ++ [x]) v' (w1.setCell ⟨B, 0, none⟩ v') ∧ KeepsWalks W (w1.setCell ⟨B, 0, none⟩ v') ∧ ∀ B0, KeepsFrom B0 W (w1.setCell ⟨B, 0, none⟩ v') := by
  have k := kp_alloc W (.cells #[.int .u8 x] 5)
  have hb0 := h.box.kp k
  have hr0 := row_kp h.row k
  have hb1 : Lc 39 B [v] w1 := hb0.heap (hg.block B hb0.lt fun e => row_ne hr0 hb0 (by decide) e.symm)
  have f0 : Fr (fun k => v.ownBlock = some k) W w1 := ⟨hg.os.trans k.os, hg.tape.trans k.tape, hg.output.trans k.output, Nat.le_trans k.size hg.size, fun j hj q => by
    rw [hg.block j (Nat.lt_of_lt_of_le hj k.size) fun e => q e.symm]; exact k.block j hj⟩
  have f1 : Fr (fun k => k = B ∨ v.ownBlock = some k) W (w1.setCell ⟨B, 0, none⟩ v') := (f0.mono fun k _ q => Or.inr q).trans (Fr.setCell (Or.inl rfl) w1)
  have hcells : ∀ k, (k = B ∨ v.ownBlock = some k) → ∃ c e g, W.heap[k]? = some (.cells c e g) := fun k hk => by
    rcases hk with rfl | hk
    · exact ⟨_, _, _, h.box⟩
    · rcases h.row.2 with ⟨q, _⟩ | ⟨g, cap, cur, rfl, _, hg, _⟩
      · rw [q] at hk; cases hk
      · simp only [Value.ownBlock, Option.some.injEq] at hk
        exact ⟨_, _, _, hk ▸ hg⟩
  have hsame : ∀ (k : Nat) (o : Obj), W.heap[k]? = some o → o.isCells = false → (w1.setCell ⟨B, 0, none⟩ v').heap[k]? = some o := fun k o hk ho => by
    rw [f1.block k (Array.getElem?_eq_some_iff.1 hk).1 fun q => ?_]
    · exact hk
    · obtain ⟨c, e, g, hc⟩ := hcells k q
      rw [hc] at hk; cases hk; cases ho
  refine ⟨⟨hb1.at rfl, hb1.fz _⟩, ⟨by simpa using hb1.set 0 v', ?_, h.kp.trans (f1.below h.kp.size fun k hk q => ?_), h.ge⟩, ⟨f1.size, fun k o hk ho => hsame k o hk (by cases o <;> first | rfl | cases ho)⟩, fun B0 => ⟨f1.size, fun k o _ hk ho => hsame k o hk ho⟩⟩
  · have e1 : (pre ++ [x]).length = pre.length + 1 := by simp
    have e2 : zcs (pre ++ [x]) = zcs pre ++ [.int .u8 x] := by simp [zcs]
    rw [e1, e2]
    exact row_fr ho (fr_set B 0 v' w1) fun j hj q => by
      unfold On at q
      subst q
      exact row_ne ho hb1 (by decide) hj
  · rcases q with rfl | q
    · have := h.ge; omega
    · have := (h.row.lt k q).1; omega
end
/-- A map has few keys. -/
def Kfew (f : Int → Option Value) : Prop := ∀ ss : List Int, ss.Nodup → (∀ y ∈ ss, f y ≠ none) → ss.length ≤ 40
theorem kfew_az {f : Int → Option Value} (hd : ∀ x, f x ≠ none → 97 ≤ x ∧ x ≤ 122) : Kfew f := fun ss h1 h2 => nodup_len 40 97 ss h1 fun y hy => by have := hd y (h2 y hy); omega
set_option maxHeartbeats 4000000 in
set_option maxRecDepth 100000 in
theorem appendSeq_any {b Bm : Nat} {f : Int → Option Value} {w : World} (hB : Lc 54 Bm [.map (some b)] w) (hm : Mp b f w) (hd : Kfew f) :
    Calls Try.prog 55 #[.slice none 0 0, .func (.func 47) #[] #[.pointer (some ⟨Bm, 0, none⟩)]] w fun e w' => ∃ (v : Value) (ss : List Int), e = .returned v ∧ Kys f ss ∧ w'.ownsRow w.heap.size 5 1 v ss.length (zcs ss) ∧ Kp w w' := by
  obtain ⟨i9, hi9, z0, z1, z2⟩ := info_parts infoUB
  have hN : ∀ (ss : List Int) (x : Int), (ss ++ [x]).Nodup → (∀ y ∈ ss ++ [x], f y ≠ none) → ss.length < 40 := fun ss x h1 h2 => by
    have := hd (ss ++ [x]) h1 h2
    simp at this; omega
  refine (callsIn_wide (n := 4)).1 ?_
  refine callsIn_of_wp_marks Try.func55 rfl trivial ?_ rfl
  simp only [Try.ntmps55, List.size_toArray, List.length_cons, List.length_nil, Nat.reduceAdd, Nat.reduceSub, Array.replicate_succ, Array.replicate_zero, List.push_toArray, List.append_toArray, List.nil_append, List.cons_append]
  refine wpIn_wide.2 ?_
  have H0 : Hid (Apd w w.heap.size [] (.slice none 0 0) (w.alloc (.cells #[.slice none 0 0] 39))) := ⟨Lc.new w [.slice none 0 0] 39, World.ownsRow_nil _ _ _ _, kp_alloc _ _, Nat.le_refl _⟩
  have HSQ : Hid (SeqStopsK Fence.wide 3 Try.prog 47 #[.pointer (some ⟨Bm, 0, none⟩)] (fun x : Int => #[.int .u8 x]) KeepsWalks (fun ss => Kys f ss) (fun _ => True) 40 (w.alloc (.cells #[.slice none 0 0] 39))) := keys_seq Fence.wide 3 trivial rfl (by omega) Bm b 40 f hN (hB.kp (kp_alloc _ _)) (hm.kp (kp_alloc _ _))
  have hz := alloc_size w (.cells #[.slice none 0 0] 39)
  clear hB hm hN hd
  go_wp2_with fail
  generalize w.alloc (.cells #[.slice none 0 0] 39) = W0 at H0 HSQ hz ⊢
  refine (wpIn_wide (n := 4)).1 (wpIn_rangeFunc_ownG rfl (by omega) (gf := 47) (lb := #[.pointer (some ⟨Bm, 0, none⟩)]) rfl trivial (enters_of Try.func47 (by kernel_rfl) rfl)
    HSQ.out (fun h k => h.trans k) (fun W l o o' hl h1 h2 h3 => KeepsWalks.putObj o' h1 h3) (Below.refl _ _) (fun _ => rfl)
    (fun pre W => ∃ v, Apd w w.heap.size pre v W) (fun _ _ _ => False)
    (fun s A B row hs hg hr => by obtain ⟨v, hs⟩ := hs; exact ⟨v, hs.grown hg hr (by omega)⟩)
    (fun _ _ _ _ _ hs _ _ => hs) ⟨_, H0.out⟩
    (fun x => { tmps := #[.slice none 0 0, .func (.func 47) #[] #[.pointer (some ⟨Bm, 0, none⟩)], .pointer (some ⟨w.heap.size, 0, none⟩), undef, .slice none 0 0, .int .u8 x, .func (.func 47) #[] #[.pointer (some ⟨Bm, 0, none⟩)], .int .u8 x, undef, undef, undef, undef, undef], defers := [] }) ?assign ?body ?done ?stop)
  case assign =>
    intro l p W K hK
    gi_wp2
    exact hK
  case body =>
    rintro l pre x W ⟨v, hR⟩ hpre
    have c0 := hR.box.at (j := 0) rfl
    obtain ⟨va, vc, rfl, v1, v2⟩ := owns_form hR.row
    obtain ⟨K, hK⟩ : ∃ K, pre.length = K := ⟨_, rfl⟩
    have HM : Hid (∀ w1 v', w1.ownsRow w.heap.size 5 1 v' (K + 1) (zcs pre ++ [.int .u8 x]) → (W.alloc (.cells #[.int .u8 x] 5)).grownBy w1 (Value.slice va pre.length vc).ownBlock → (w1.cell? ⟨w.heap.size, 0, none⟩ = some (Value.slice va pre.length vc) ∧ w1.frozen? ⟨w.heap.size, 0, none⟩ = false) ∧ Hid (Apd w w.heap.size (pre ++ [x]) v' (w1.setCell ⟨w.heap.size, 0, none⟩ v') ∧ KeepsWalks W (w1.setCell ⟨w.heap.size, 0, none⟩ v') ∧ ∀ B0, KeepsFrom B0 W (w1.setCell ⟨w.heap.size, 0, none⟩ v'))) := by
      intro w1 v' q1 q2
      rw [← hK] at q1
      exact hR.more q1 q2
    have HR : Hid ((W.alloc (.cells #[.int .u8 x] 5)).ownsRow w.heap.size 5 1 (.slice va K vc) K (zcs pre)) := by rw [← hK]; exact row_kp hR.row (kp_alloc _ _)
    have HNN : Hid (w.heap.size ≤ (W.alloc (.cells #[.int .u8 x] 5)).heap.size) := by
      have := alloc_size W (.cells #[.int .u8 x] 5)
      have := hR.kp.size
      show _ ≤ _
      omega
    rw [hK] at c0 HM hpre
    clear hR hK v1 v2 HSQ H0
    gi_wp2_with (first | (gi_at_builtin; refine wpListIn_append_own _ rfl (.tmp 8) (.tmp 10) 39 rfl w.heap.size 5 i9 _ 1 1 Try.underlying39 hi9 z0 z1 z2 rfl (by decide) (.slice va K vc) K (zcs pre) rfl HR.out ⟨W.heap.size, 0, none⟩ 1 1 [.int .u8 x] rfl rfl (cell_one_new _ _ _) (by simp [Value.oneCell']) (by unfold maxLen; omega) (by omega) HNN.out ?_; intro v' w1 q1 q2 q3; clear q3; obtain ⟨⟨c1, f1⟩, HP⟩ := HM.out w1 v' q1 q2; obtain ⟨a', c', rfl, q4, q5⟩ := owns_form q1; clear q1 q2 q4 q5) | gi_in)
    gi_wp2
    exact ⟨HP.out.2.2 _, HP.out.2.1, _, HP.out.1⟩
  case done =>
    rintro D xs W hD hxs ⟨v, hR⟩ hK
    have c0 := hR.box.at (j := 0) rfl
    obtain ⟨va, vc, rfl, v1, v2⟩ := owns_form hR.row
    have HK : Hid (Kp w (W.putObj D (.deferred none)) ∧ (W.putObj D (.deferred none)).ownsRow w.heap.size 5 1 (.slice va xs.length vc) xs.length (zcs xs)) := by
      have hf : Fr (On D) W (W.putObj D (.deferred none)) := ⟨rfl, rfl, rfl, by simp, fun k _ hn => World.putObj_heap_other hn⟩
      refine ⟨hR.kp.trans (hf.below hR.kp.size fun k hk q => by unfold On at q; omega), row_fr hR.row hf fun j hj q => ?_⟩
      unfold On at q
      subst q
      rcases hR.row.2 with ⟨e, _⟩ | ⟨g, cap, cur, e, _, hg, _⟩
      · rw [e] at hj; cases hj
      · rw [e] at hj; simp only [Value.ownBlock, Option.some.injEq] at hj
        rw [hj, hK] at hg; cases hg
    have HX : Hid (Kys f xs) := hxs
    clear v1 v2 hR HSQ H0 hxs
    go_wp2_with fail
    refine ⟨by simp, .inl ⟨_, _, rfl, run_takeDeferred hK, ?_⟩⟩
    exact ⟨_, results_tmp rfl _ _ _, .slice va xs.length vc, xs, rfl, HX.out, HK.out.2, HK.out.1⟩
  case stop =>
    rintro D c pre W _ _ h _
    exact h.elim
set_option maxHeartbeats 1000000 in
theorem collect_any {b Bm : Nat} {f : Int → Option Value} {w : World} (hB : Lc 54 Bm [.map (some b)] w) (hm : Mp b f w) (hd : Kfew f) :
    Calls Try.prog 45 #[.func (.func 47) #[] #[.pointer (some ⟨Bm, 0, none⟩)]] w fun e w' => ∃ (v : Value) (ss : List Int), e = .returned v ∧ Kys f ss ∧ w'.ownsRow w.heap.size 5 1 v ss.length (zcs ss) ∧ Kp w w' := by
  have HC : Hid _ := appendSeq_any hB hm hd
  clear hB hm hd
  go_enter Try.func45, Try.ntmps45
  go_wp2_with fail
  refine Calls.mono HC.out ?_
  rintro e w2 ⟨v, ss, rfl, h1, h2, h3⟩
  have HH : Hid (Kys f ss ∧ w2.ownsRow w.heap.size 5 1 v ss.length (zcs ss) ∧ Kp w w2) := ⟨h1, h2, h3⟩
  clear HC h1 h2 h3
  go_wp2_with fail
  go_ret
  exact ⟨v, ss, rfl, HH.out⟩
set_option maxHeartbeats 1000000 in
theorem ins_nil (w : World) : Calls Try.prog 70 #[.slice none 0 0, .int .i64 0, .int .i64 0] w fun e w' => e = .returned (.tuple #[]) ∧ w' = w := by
  go_enter Try.func70, Try.ntmps70
  go_wp2_with fail
  go_loopw [6] (fun v6 wr => v6 = .int .i64 1 ∧ w = wr) (fun _ _ => 0)
  case atStart => exact ⟨rfl, rfl⟩
  case round =>
    obtain ⟨rfl, rfl⟩ := hrel
    go_wp2_with fail
    go_end0
    exact ⟨rfl, rfl⟩
set_option maxHeartbeats 4000000 in
theorem pdq_nil (w : World) : Calls Try.prog 56 #[.slice none 0 0, .int .i64 0, .int .i64 0, .int .i64 0] w fun e w' => e = .returned (.tuple #[]) ∧ w' = w := by
  go_enter Try.func56, Try.ntmps56
  go_wp2_with fail
  go_loopw [1, 2, 3, 8, 9] (fun v1 v2 v3 v8 v9 wr => v1 = .int .i64 0 ∧ v2 = .int .i64 0 ∧ w = wr) (fun _ _ _ _ _ _ => 0)
  case atStart => exact ⟨rfl, rfl, rfl⟩
  case round =>
    obtain ⟨rfl, rfl, rfl⟩ := hrel
    go_wp2_with fail
    refine Calls.mono (ins_nil _) ?_
    rintro e _ ⟨rfl, rfl⟩
    go_wp2_with fail
    first | go_end0 | refine bodyPost_ret (results_none rfl _ _ _) rfl ?_
    exact ⟨rfl, rfl⟩
set_option maxHeartbeats 1000000 in
theorem sort_nil (w : World) : Calls Try.prog 46 #[.slice none 0 0] w fun e w' => e = .returned (.tuple #[]) ∧ w' = w := by
  go_enter Try.func46, Try.ntmps46
  go_wp2_with fail
  refine Calls.mono (len_any (x := 0) (by decide)) ?_
  rintro r _ ⟨rfl, rfl⟩
  rw [show ((blen 0 : Nat) : Int) = 0 from rfl]
  go_wp2_with fail
  refine Calls.mono (pdq_nil _) ?_
  rintro r _ ⟨rfl, rfl⟩
  go_wp2_with fail
  go_end0
  exact ⟨rfl, rfl⟩
/-- The keys, rising. -/
def Srt (f : Int → Option Value) (ss : List Int) : Prop := ss.Pairwise (· < ·) ∧ ∀ x, x ∈ ss ↔ f x ≠ none
/-- A list of bytes that can be read. -/
def Zl (v : Value) (ss : List Int) (w : World) : Prop := (v = .slice none 0 0 ∧ ss = []) ∨ ∃ g cap, v = .slice (some ⟨g, 0, none⟩) ss.length cap ∧ ss.length ≤ cap ∧ cap ≤ maxLen ∧ Rw g ss.toArray w
theorem srt_of {f : Int → Option Value} {ss : List Int} (hk : Kys f ss) {e : Array Int} (hp : PermIn 0 ss.length ss.toArray e) (hs : SortedIn ltZ 0 ss.length e) : Srt f e.toList := by
  have hz : e.size = ss.length := by rw [hp.1]; simp
  have hperm : e.toList.Perm ss := by
    have := hp.2.2
    have e1 : (e.extract 0 ss.length).toList = e.toList := by rw [← hz]; simp
    have e2 : (ss.toArray.extract 0 ss.length).toList = ss := by simp
    rw [e1, e2] at this
    exact this
  refine ⟨?_, fun x => by rw [hperm.mem_iff]; exact hk.2 x⟩
  have hn : e.toList.Nodup := hperm.nodup_iff.2 hk.1
  rw [List.pairwise_iff_getElem]
  intro i j hi hj hij
  simp only [Array.length_toList] at hi hj
  have h1 := hs i j (Nat.zero_le _) hij (by omega)
  have h2 : e.toList[i] ≠ e.toList[j] := fun q => by
    have := (List.pairwise_iff_getElem.1 hn) i j (by simpa using hi) (by simpa using hj) hij
    exact this q
  simp only [ltZ, decide_eq_false_iff_not, getElem!_pos e j (by omega), getElem!_pos e i (by omega)] at h1
  simp only [Array.getElem_toList] at h2 ⊢
  omega
set_option maxHeartbeats 4000000 in
theorem sorted_any {b Bm : Nat} {f : Int → Option Value} {w : World} (hB : Lc 54 Bm [.map (some b)] w) (hm : Mp b f w) (hd : Kfew f) :
    Calls Try.prog 31 #[.func (.func 47) #[] #[.pointer (some ⟨Bm, 0, none⟩)]] w fun e w' => ∃ (v : Value) (ss : List Int), e = .returned v ∧ Hid (Srt f ss ∧ Zl v ss w' ∧ Kp w w') := by
  have HC : Hid _ := collect_any hB hm hd
  have HD : Hid (Kfew f) := hd
  clear hB hm hd
  go_enter Try.func31, Try.ntmps31
  go_wp2_with fail
  refine Calls.mono HC.out ?_
  rintro e w2 ⟨v, ss, rfl, h1, h2, h3⟩
  have hl : ss.length ≤ 40 := HD.out ss h1.1 fun y hy => (h1.2 y).1 hy
  have HK : Hid (Kp w w2) := h3
  clear HC h3
  rcases h2.2 with ⟨rfl, h0⟩ | ⟨g, cap, cur, rfl, hbase, hg, r1, r2, r3, r4⟩
  · have hss : ss = [] := List.eq_nil_of_length_eq_zero h0
    subst hss
    have HX : Hid (Srt f []) := ⟨List.Pairwise.nil, h1.2⟩
    clear h0 h2 h1
    go_wp2_with fail
    refine Calls.mono (sort_nil _) ?_
    rintro r _ ⟨rfl, rfl⟩
    go_wp2_with fail
    go_ret
    exact ⟨_, [], rfl, HX.out, .inl ⟨rfl, rfl⟩, HK.out⟩
  · have hR : Rw g ss.toArray w2 := by
      refine ⟨cur, hg, by simp; omega, fun i hi => ?_⟩
      simp only [List.size_toArray] at hi
      have : (zcs ss)[i]? = some (.int .u8 ss[i]) := by simp [zcs, hi]
      rw [← r4, List.getElem?_take] at this
      split at this
      · rw [← Array.getElem?_toList, this]
        simp [getElem!_pos, hi]
      · cases this
    obtain ⟨N, hN⟩ : ∃ N, ss.length = N := ⟨_, rfl⟩
    have HS : Hid (Calls Try.prog 46 #[.slice (some ⟨g, 0, none⟩) N cap] w2 fun r w' => r = .returned (.tuple #[]) ∧ Hid (∃ e, PermIn 0 N ss.toArray e ∧ SortedIn ltZ 0 N e ∧ e.size = N ∧ Rw g e w' ∧ Fr (On g) w2 w')) := by
      refine sort_any hR (by simpa using hN) (by omega) ?_
      rw [dis_iff (by simp; omega)]
      have : (ss.toArray.extract 0 N).toList = ss := by rw [← hN]; simp
      rw [this]; exact h1.1
    have HX : Hid (∀ w', (∃ e, PermIn 0 N ss.toArray e ∧ SortedIn ltZ 0 N e ∧ e.size = N ∧ Rw g e w' ∧ Fr (On g) w2 w') → ∃ s' : List Int, Srt f s' ∧ Zl (.slice (some ⟨g, 0, none⟩) N cap) s' w' ∧ Kp w w') := by
      rintro w' ⟨e, p1, p2, p3, p4, p5⟩
      rw [← hN] at p1 p2
      refine ⟨e.toList, srt_of h1 p1 p2, .inr ⟨g, cap, by rw [Array.length_toList, p3], by rw [Array.length_toList]; omega, r2, by simpa using p4⟩, ?_⟩
      exact HK.out.trans (p5.below HK.out.size fun k hk q => by unfold On at q; omega)
    rw [hN]
    clear h2 hg r1 r2 r3 r4 hR h1 hN hl HD
    go_wp2_with fail
    refine Calls.mono HS.out ?_
    rintro r w3 ⟨rfl, H3⟩
    obtain ⟨s', hs'⟩ := HX.out w3 H3.out
    have HY : Hid _ := hs'
    clear HS H3 HX hs'
    go_wp2_with fail
    go_ret
    exact ⟨_, s', rfl, HY.out⟩
end Go.Proofs.Ytbnlenanfhggiaa
/- Lines in memory; slices.Clone of lines. -/
namespace Go.Proofs.Ytbnlenanfhggiaa
open Go.ChangeShapes Go.WideShapes Go.ChangeAt Go.RowKit Go.Maps Go.MapKept
set_option linter.unusedVariables false
set_option linter.unusedSimpArgs false
set_option maxRecDepth 100000
/-- Lines as they lie in memory. -/
def strs (ls : List ByteArray) : List Value := ls.map Value.string
theorem strs_len (ls : List ByteArray) : (strs ls).length = ls.length := by simp [strs]
theorem strs_app (a b : List ByteArray) : strs (a ++ b) = strs a ++ strs b := by simp [strs]
theorem strs_one (ls : List ByteArray) : ∀ u ∈ strs ls, u.oneCell' = true := fun u hu => by
  obtain ⟨b, _, rfl⟩ := List.mem_map.1 hu
  rfl
theorem strs_at {ls : List ByteArray} {j : Nat} {u : Value} (h : (strs ls)[j]? = some u) : ∃ s, ls[j]? = some s ∧ u = .string s := by
  unfold strs at h
  rw [List.getElem?_map] at h
  obtain ⟨x, h1, h2⟩ := Option.map_eq_some_iff.1 h
  exact ⟨x, h1, h2.symm⟩
theorem add2 (g o j : Nat) : (⟨g, o, none⟩ : Addr).add j = ⟨g, o + j, none⟩ := by unfold Addr.add; split <;> simp_all
theorem infoStr : (Try.prog.info? 9).map (fun i => (i.zero, i.size, i.bytes)) = some (some (.string ⟨#[]⟩), 1, 16) := by kernel_rfl
/-- Lines that can be read; where they lie P holds. -/
def Sl (P : Nat → Prop) (v : Value) (ls : List ByteArray) (w : World) : Prop :=
  ∃ a cap, v = .slice a ls.length cap ∧ ls.length ≤ cap ∧ cap ≤ maxLen ∧ (a = none → cap = 0) ∧ ∀ i s, ls[i]? = some s → ∃ g o, a = some ⟨g, o, none⟩ ∧ P g ∧ w.cell? ⟨g, o + i, none⟩ = some (.string s)
section
variable {P Q S : Nat → Prop} {v : Value} {ls : List ByteArray} {w w1 : World}
theorem Sl.mono (h : Sl P v ls w) (hq : ∀ k, k < w.heap.size → P k → Q k) : Sl Q v ls w := by
  obtain ⟨a, cap, rfl, h1, h2, h3, h4⟩ := h
  refine ⟨a, cap, rfl, h1, h2, h3, fun i s hi => ?_⟩
  obtain ⟨g, o, e, q, c⟩ := h4 i s hi
  exact ⟨g, o, e, hq g (World.block_lt_of_cell? _ _ c) q, c⟩
theorem Sl.fr (h : Sl P v ls w) (k : Fr S w w1) (hn : ∀ g, P g → ¬ S g) : Sl P v ls w1 := by
  obtain ⟨a, cap, rfl, h1, h2, h3, h4⟩ := h
  refine ⟨a, cap, rfl, h1, h2, h3, fun i s hi => ?_⟩
  obtain ⟨g, o, e, q, c⟩ := h4 i s hi
  refine ⟨g, o, e, q, ?_⟩
  rw [World.cell?_of_block (k.block g (World.block_lt_of_cell? _ _ c) (hn g q))]
  exact c
theorem Sl.kp (h : Sl P v ls w) (k : Kp w w1) : Sl P v ls w1 := by
  obtain ⟨a, cap, rfl, h1, h2, h3, h4⟩ := h
  refine ⟨a, cap, rfl, h1, h2, h3, fun i s hi => ?_⟩
  obtain ⟨g, o, e, q, c⟩ := h4 i s hi
  exact ⟨g, o, e, q, kp_cell k c⟩
theorem Sl.form (h : Sl P v ls w) : ∃ a cap, v = .slice a ls.length cap ∧ ls.length ≤ cap ∧ cap ≤ maxLen ∧ (a = none → cap = 0) := by
  obtain ⟨a, cap, rfl, h1, h2, h3, h4⟩ := h
  exact ⟨a, cap, rfl, h1, h2, h3⟩
theorem Sl.nil (P : Nat → Prop) (w : World) : Sl P (.slice none 0 0) [] w := ⟨none, 0, rfl, Nat.le_refl _, by simp [maxLen], (fun _ => rfl), fun i s hi => by cases hi⟩
theorem Sl.of_row {B : Nat} (h : w.ownsRow B 9 1 v ls.length (strs ls)) : Sl (fun k => B ≤ k) v ls w := by
  rcases h.2 with ⟨rfl, h0⟩ | ⟨g, cap, cur, rfl, hb, hg, h1, h2, h3, h4⟩
  · obtain rfl : ls = [] := List.eq_nil_of_length_eq_zero h0
    exact Sl.nil _ _
  · refine ⟨_, cap, rfl, h1, h2, (fun e => by cases e), fun i s hi => ⟨g, 0, rfl, hb, ?_⟩⟩
    have hl := (List.getElem?_eq_some_iff.1 hi).1
    rw [cell_at hg, Nat.zero_add, ← Array.getElem?_toList]
    have q : (strs ls)[i]? = some (.string s) := by unfold strs; rw [List.getElem?_map, hi]; rfl
    rw [← h4, List.getElem?_take, if_pos (by omega)] at q
    exact q
/-- A slice of lines as the source of an append. -/
theorem Sl.src {a : Option Addr} {n c : Nat} (h : Sl P (.slice a n c) ls w) : n = ls.length ∧ (a = none → n = 0 ∧ c = 0) ∧ ∀ ad, a = some ad → ∀ j u, (strs ls)[j]? = some u → w.cell? (ad.add j) = some u := by
  obtain ⟨a', cap, e, h1, h2, h3, h4⟩ := h
  cases e
  refine ⟨rfl, fun q => ⟨by have := h3 q; omega, h3 q⟩, fun ad q j u hj => ?_⟩
  obtain ⟨s, hs, rfl⟩ := strs_at hj
  obtain ⟨g, o, e, _, c⟩ := h4 j s hs
  rw [e, Option.some.injEq] at q
  rw [← q, add2]; exact c
theorem Sl.at_ {a : Option Addr} {n c : Nat} (h : Sl P (.slice a n c) ls w) {i : Nat} {s : ByteArray} (hi : ls[i]? = some s) : ∃ g o, a = some ⟨g, o, none⟩ ∧ P g ∧ w.cell? ⟨g, o + i, none⟩ = some (.string s) := by
  obtain ⟨a', cap, e, h1, h2, h3, h4⟩ := h
  cases e
  exact h4 i s hi
end
/-- Lines of the call's own. -/
def Row (B : Nat) (v : Value) (ls : List ByteArray) (w : World) : Prop := w.ownsRow B 9 1 v ls.length (strs ls)
theorem Row.form {B : Nat} {v : Value} {ls : List ByteArray} {w : World} (h : Row B v ls w) : ∃ a cap, v = .slice a ls.length cap ∧ ls.length ≤ cap ∧ cap ≤ maxLen := owns_form h
/-- Lines are laid behind those that a row has. -/
theorem wpl_str {P : Nat → Prop} {w : World} {ops : Array Oper} {rest : List Oper} {o : Oper} {ac : Act} {Q : Exit → Act → World → Prop} (hgd : o.guard = none) (s x : Operand) (ho : o.op = .call { callee := .builtin .append, args := #[s, x], argTypes := #[22, 22] })
    {B K : Nat} {v : Value} {ls ms : List ByteArray} (hs : ac.eval s = v) (hr : Row B v ls w) {sa : Option Addr} {m c : Nat} (hx : ac.eval x = .slice sa m c) (hm : Sl P (.slice sa m c) ms w)
    (hK : ls.length + ms.length = K) (hl : K ≤ 8796093022208) (hB : B ≤ w.heap.size)
    (k : ∀ a' c' w', K ≤ c' → c' ≤ 9223372036854775807 → Row B (.slice a' K c') (ls ++ ms) w' → w.grownBy w' v.ownBlock → wpList Try.prog ops Q rest (ac.put o.dst (.slice a' K c')) w') : wpList Try.prog ops Q (o :: rest) ac w := by
  obtain ⟨i9, hi9, z0, z1, z2⟩ := info_parts infoStr
  obtain ⟨rfl, hn, hc⟩ := hm.src
  subst hK
  have hm9 : ls.length + ms.length ≤ maxLen := by unfold maxLen; omega
  cases sa with
  | some ad =>
    refine wpList_append_own w hgd s x 22 ho B 9 i9 _ 1 16 Try.underlying22 hi9 z0 z1 z2 rfl (by decide) v ls.length (strs ls) hs hr ad ms.length c (strs ms) hx (by rw [strs_len]; omega) (hc ad rfl) (strs_one ms) hm9 (by omega) hB ?_
    intro v' w' q1 q2 _
    obtain ⟨a', c', rfl, q3, q4⟩ := owns_form q1
    exact k a' c' w' q3 q4 (by unfold Row; rw [strs_app, List.length_append]; exact q1) q2
  | none =>
    obtain ⟨h0, rfl⟩ := hn rfl
    obtain rfl : ms = [] := List.eq_nil_of_length_eq_zero h0
    refine wpList_append_own_none hgd s x 22 ho B 9 i9 1 Try.underlying22 hi9 v ls.length (strs ls) hs hr (by rw [hx]; rfl) ?_
    obtain ⟨a', c', rfl, q3, q4⟩ := owns_form hr
    exact k a' c' w q3 q4 (by simpa using hr) (World.grownBy.refl _ _)
theorem below_grown {w w' : World} {B n : Nat} {v : Value} {xs : List Value} {e : TypeId} {size : Nat} (hr : w.ownsRow B e size v n xs) (hB : B ≤ w.heap.size) (hg : w.grownBy w' v.ownBlock) : Below B w w' :=
  ⟨hg.os, hg.tape, hg.output, hg.size, fun k hk => hg.block k (by omega) fun e => by have := (hr.lt k e.symm).1; omega⟩
theorem row_made (w : World) : Row w.heap.size (.slice (some ⟨w.heap.size, 0, none⟩) 0 0) [] (w.alloc (.cells #[] 9)) :=
  ⟨rfl, .inr ⟨w.heap.size, 0, #[], rfl, Nat.le_refl _, alloc_new _ _, Nat.le_refl _, by simp [maxLen], rfl, rfl⟩⟩
theorem eql_sl (ad : Addr) (n c : Nat) (w : World) : Sem.run Try.prog (binOp BinOp.eql 22 (.slice (some ad) n c) (.slice none 0 0)) w = .ok (.bool false) w := by kernel_rfl
set_option maxHeartbeats 2000000 in
theorem clone_any {P : Nat → Prop} {v : Value} {ls : List ByteArray} {w : World} (h : Sl P v ls w) (hne : ls ≠ []) (hl : ls.length ≤ 8796093022208) :
    Calls Try.prog 42 #[v] w fun e w' => ∃ v', e = .returned v' ∧ Row w.heap.size v' ls w' ∧ Kp w w' := by
  obtain ⟨a, cap, rfl, h1, h2, h3, h4⟩ := h
  have hpos : 0 < ls.length := List.length_pos_iff.2 hne
  obtain ⟨g, o, rfl⟩ : ∃ g o, a = some ⟨g, o, none⟩ := by
    obtain ⟨g, o, e, _⟩ := h4 0 ls[0] (List.getElem?_eq_getElem hpos)
    exact ⟨g, o, e⟩
  have HS : Hid (Sl P (.slice (some ⟨g, o, none⟩) ls.length cap) ls (w.alloc (.cells #[] 9))) := Sl.kp ⟨_, cap, rfl, h1, h2, h3, h4⟩ (kp_alloc _ _)
  have HR : Hid (Row w.heap.size (.slice (some ⟨w.heap.size, 0, none⟩) 0 0) [] (w.alloc (.cells #[] 9))) := row_made w
  have HL : Hid (ls.length ≤ 8796093022208 ∧ w.heap.size ≤ (w.alloc (.cells #[] 9)).heap.size) := ⟨hl, by rw [alloc_size]; omega⟩
  clear h1 h2 h3 h4 hne hl hpos
  have hq := eql_sl ⟨g, o, none⟩ ls.length cap
  go_enter Try.func42, Try.ntmps42
  go_wp2_with (at_builtin; refine wpl_str (K := ls.length) rfl (.tmp 5) (.tmp 6) rfl rfl HR.out rfl HS.out (by simp) HL.out.1 HL.out.2 ?_; intro a' c' w' _ _ q1 q2)
  go_ret
  exact ⟨_, rfl, q1, (kp_alloc w _).trans (below_grown HR.out HL.out.2 q2)⟩
/-- A register, plainly. -/
structure Rv where
  ls : List ByteArray
  wh : Bool
def emp : ByteArray := ⟨#[]⟩
/-- What is kept of it: no lines are one empty one. -/
def ownR (r : Rv) : Rv := if r.ls = [] then ⟨[emp], false⟩ else r
theorem ownR_ne (r : Rv) : (ownR r).ls ≠ [] := by unfold ownR; split <;> simp_all
theorem ownR_idem {r : Rv} (h : r.ls ≠ []) : ownR r = r := by unfold ownR; rw [if_neg h]
theorem box_put {w W : World} {B b2 : Nat} {v x y : Value} {ls : List ByteArray} (h : Lc 24 b2 [x, y] W) (hr : Row B v ls W) (hk : Kp w W) (hb : w.heap.size ≤ b2) (p q : Value) :
    Lc 24 b2 [p, q] ((W.setCell ⟨b2, 0, none⟩ p).setCell ⟨b2, 1, none⟩ q) ∧ Row B v ls ((W.setCell ⟨b2, 0, none⟩ p).setCell ⟨b2, 1, none⟩ q) ∧ Kp w ((W.setCell ⟨b2, 0, none⟩ p).setCell ⟨b2, 1, none⟩ q) := by
  have f : Fr (On b2) W ((W.setCell ⟨b2, 0, none⟩ p).setCell ⟨b2, 1, none⟩ q) := (fr_set b2 0 p W).trans (fr_set b2 1 q _)
  refine ⟨(h.set 0 p).set 1 q, row_fr hr f fun j hj e => row_ne hr h (by decide) (by rw [hj, e]), kp_new (kp_new hk hb) hb⟩
set_option maxHeartbeats 2000000 in
theorem own_any {P : Nat → Prop} {v : Value} {r : Rv} {w : World} (h : Sl P v r.ls w) (hl : r.ls.length ≤ 8796093022208) :
    Calls Try.prog 28 #[.agg #[v, .bool r.wh]] w fun e w' => ∃ v', e = .returned (.agg #[v', .bool (ownR r).wh]) ∧ Row w.heap.size v' (ownR r).ls w' ∧ Kp w w' := by
  by_cases hn : r.ls = []
  · obtain ⟨a, cap, rfl, h1, h2, h3⟩ := h.form
    unfold ownR
    rw [if_pos hn, hn]
    clear h hl h1 h2 h3
    go_enter Try.func28, Try.ntmps28
    go_wp2
    refine bodyPost_ret (results_box1 rfl rfl (Lc.kp (by simpa [alloc_size] using Lc.new (w.alloc (.cells #[.slice a 0 cap, .bool r.wh] 24)) [.slice (some ⟨w.heap.size + 1 + 1, 0, none⟩) 1 1, .bool false] 24) (kp_alloc _ _)) Try.underlying24 rfl (by kernel_rfl)) rfl ?_
    refine ⟨_, rfl, ?_, kp_more (kp_more (kp_alloc _ _) _) _⟩
    refine ⟨rfl, .inr ⟨w.heap.size + 1 + 1, 1, #[.string emp], rfl, by omega, ?_, Nat.le_refl _, by simp [maxLen], rfl, rfl⟩⟩
    have := alloc_new ((w.alloc (.cells #[.slice a 0 cap, .bool r.wh] 24)).alloc (.cells #[.slice (some ⟨w.heap.size + 1 + 1, 0, none⟩) 1 1, .bool false] 24)) (.cells #[.string emp] 9)
    rw [alloc_size, alloc_size] at this
    exact this
  · obtain ⟨a, cap, rfl, h1, h2, h3⟩ := h.form
    have hpos : 0 < r.ls.length := List.length_pos_iff.2 hn
    have d1 : ((r.ls.length : Int) == 0) = false := by simp; omega
    have d2 : (r.ls.length == 0) = false := by simp; omega
    rw [ownR_idem hn]
    obtain ⟨W1, hW1⟩ : ∃ W1, (w.alloc (.cells #[.slice a r.ls.length cap, .bool r.wh] 24)).alloc (.cells #[.slice none 0 0, .bool false] 24) = W1 := ⟨_, rfl⟩
    have hb1 : Lc 24 w.heap.size [.slice a r.ls.length cap, .bool r.wh] W1 := by rw [← hW1]; exact (Lc.new w _ _).kp (kp_alloc _ _)
    have hb2 : Lc 24 (w.heap.size + 1) [.slice none 0 0, .bool false] W1 := by rw [← hW1]; simpa [alloc_size] using Lc.new (w.alloc (.cells #[.slice a r.ls.length cap, .bool r.wh] 24)) [.slice none 0 0, .bool false] 24
    have HC : Hid (∀ m, Calls Try.prog 42 #[.slice a r.ls.length cap] (W1.drewN m) fun e w' => ∃ a' c', e = .returned (.slice a' r.ls.length c') ∧ w'.cell? ⟨w.heap.size, 0, none⟩ = some (.slice a r.ls.length cap) ∧ w'.cell? ⟨w.heap.size, 1, none⟩ = some (.bool r.wh) ∧ w'.cell? ⟨w.heap.size + 1, 0, none⟩ = some (.slice none 0 0) ∧ w'.cell? ⟨w.heap.size + 1, 1, none⟩ = some (.bool false) ∧ w'.frozen? ⟨w.heap.size + 1, 0, none⟩ = false ∧ w'.frozen? ⟨w.heap.size + 1, 1, none⟩ = false ∧ Hid (Row w.heap.size (.slice a' r.ls.length c') r.ls w' ∧ Kp w w' ∧ Lc 24 (w.heap.size + 1) [.slice none 0 0, .bool false] w')) := fun m => by
      have k0 : Kp w W1 := by rw [← hW1]; exact kp_more (kp_alloc _ _) _
      have k1 : Kp w (W1.drewN m) := kp_trans k0 (kp_drewN _ _)
      refine (clone_any (h.kp k1) hn hl).mono ?_
      rintro e w' ⟨v', he, q1, q2⟩
      obtain ⟨a', c', rfl, _, _⟩ := q1.form
      have k2 : Kp W1 w' := kp_trans (kp_drewN _ _) q2
      have b2 := hb2.kp k2
      exact ⟨a', c', he, kp_cell k2 (hb1.at (j := 0) rfl), kp_cell k2 (hb1.at (j := 1) rfl), b2.at (j := 0) rfl, b2.at (j := 1) rfl, b2.fz _, b2.fz _, row_lift q1 fun j hj => Nat.le_trans k1.size (q1.lt j hj).1, kp_trans k1 q2, b2⟩
    have c1 := hb1.at (j := 0) rfl
    have c2 := hb1.at (j := 1) rfl
    obtain ⟨N, hN⟩ : ∃ N, r.ls.length = N := ⟨_, rfl⟩
    rw [hN] at HC hW1 d1 d2 c1 ⊢
    have HW : Hid (_ = W1) := hW1
    clear h hl h1 h2 h3 hn hpos hN hW1 hb1 hb2
    go_enter Try.func28, Try.ntmps28
    go_wp2_with fail
    rw [HW.out]
    clear HW
    go_region_with (go_at_call 42; refine Calls.mono (HC.out _) ?_; rintro e w4 ⟨a', c', rfl, y1, y2, y3, y4, y5, y6, q⟩)
    all_goals
      have HQ : Hid _ := box_put q.out.2.2 q.out.1 q.out.2.1 (by omega) (.slice a' N c') (.bool r.wh)
      clear y1 y2 y3 y4 y5 y6 q HC c1 c2
      go_wp2_with fail
      refine bodyPost_ret (results_box1 rfl rfl HQ.out.1 Try.underlying24 rfl (by kernel_rfl)) rfl ?_
      exact ⟨_, rfl, HQ.out.2⟩
end Go.Proofs.Ytbnlenanfhggiaa
/- fits: is there room for a register? -/
namespace Go.Proofs.Ytbnlenanfhggiaa
open Go.ChangeShapes Go.WideShapes Go.ChangeAt Go.RowKit Go.Maps Go.MapKept
set_option linter.unusedVariables false
set_option linter.unusedSimpArgs false
set_option maxRecDepth 100000
/-- The bytes of lines, one more for each. -/
def szL (ls : List ByteArray) : Nat := (ls.map fun s => s.size + 1).sum
theorem szL_nil : szL [] = 0 := rfl
theorem szL_app (a b : List ByteArray) : szL (a ++ b) = szL a + szL b := by simp [szL]
theorem szL_one (s : ByteArray) : szL [s] = s.size + 1 := by simp [szL]
theorem szL_take (ls : List ByteArray) {i : Nat} {s : ByteArray} (h : ls[i]? = some s) : szL (ls.take (i + 1)) = szL (ls.take i) + s.size + 1 := by
  rw [List.take_add_one, h, Option.toList_some, szL_app, szL_one]; omega
theorem szL_le (ls : List ByteArray) (i : Nat) : szL (ls.take i) ≤ szL ls := by
  have h : szL ls = szL (ls.take i) + szL (ls.drop i) := by rw [← szL_app, List.take_append_drop]
  omega
theorem szL_len (ls : List ByteArray) : ls.length ≤ szL ls := by
  induction ls with
  | nil => simp
  | cons a r ih => simp only [szL, List.map_cons, List.sum_cons, List.length_cons] at *; omega
set_option maxHeartbeats 4000000 in
theorem fits_any {P : Nat → Prop} {v : Value} {r : Rv} {w : World} (h : Sl P v r.ls w) (hl : r.ls.length ≤ 8796093022208) :
    Calls Try.prog 40 #[.agg #[v, .bool r.wh]] w fun e w' => e = .returned (.bool (decide (szL r.ls ≤ 20000))) ∧ Kp w w' := by
  obtain ⟨a, cap, rfl, h1, h2, h3⟩ := h.form
  obtain ⟨N, hN⟩ : ∃ N, r.ls.length = N := ⟨_, rfl⟩
  have HS : Hid (Sl P (.slice a N cap) r.ls (w.alloc (.cells #[.slice a N cap, .bool r.wh] 24)) ∧ r.ls.length = N) := ⟨by rw [← hN]; exact h.kp (kp_alloc _ _), hN⟩
  have HK : Hid (Kp w (w.alloc (.cells #[.slice a N cap, .bool r.wh] 24))) := kp_alloc _ _
  rw [hN] at h1 hl ⊢
  unfold maxLen at h2
  clear h h3 hN
  go_enter Try.func40, Try.ntmps40
  go_wp2_with fail
  generalize hW : w.alloc (.cells #[.slice a N cap, .bool r.wh] 24) = W at HS HK ⊢
  clear hW
  go_loopw [3, 9] (fun v3 v9 wr => ∃ i m : Nat, i ≤ N ∧ v9 = .int .i64 i ∧ v3 = .int .i64 m ∧ wr = W ∧ Hid (m + szL (r.ls.take i) = 20000)) (fun _ v9 _ => N - (intOf v9).toNat)
  case atStart => exact ⟨0, 20000, Nat.zero_le _, rfl, rfl, rfl, rfl⟩
  case round =>
    obtain ⟨i, m, hi, rfl, rfl, rfl, HM⟩ := hrel
    by_cases q : i < N
    · have d1 : decide ((i : Int) < (N : Int)) = true := decide_eq_true (by omega)
      have d2 : decide (i < N) = true := decide_eq_true (by omega)
      obtain ⟨s, hs⟩ : ∃ s, r.ls[i]? = some s := ⟨_, List.getElem?_eq_getElem (by rw [HS.out.2]; exact q)⟩
      obtain ⟨g, o, rfl, _, hc⟩ := HS.out.1.at_ hs
      have hz := szL_take r.ls hs
      have hle := szL_le r.ls (i + 1)
      obtain ⟨L, hL⟩ : ∃ L, s.size = L := ⟨_, rfl⟩
      by_cases p : m ≤ L
      · have d3 : decide ((m : Int) ≤ (L : Int)) = true := decide_eq_true (by omega)
        have d4 : decide ((L : Int) ≥ (m : Int)) = true := decide_eq_true (by omega)
        have d5 : decide (m ≤ L) = true := decide_eq_true (by omega)
        have HE : Hid (decide (szL r.ls ≤ 20000) = false) := decide_eq_false (by have := HM.out; omega)
        clear hz hle HM hs
        go_wp2_with fail
        go_ret
        exact ⟨by rw [HE.out]; rfl, HK.out⟩
      · have d3 : decide ((m : Int) ≤ (L : Int)) = false := decide_eq_false (by omega)
        have d4 : decide ((L : Int) ≥ (m : Int)) = false := decide_eq_false (by omega)
        have d5 : decide (m ≤ L) = false := decide_eq_false (by omega)
        have HE : Hid ((m - (L + 1)) + szL (r.ls.take (i + 1)) = 20000 ∧ ((m - (L + 1) : Nat) : Int) = (m : Int) - ((L : Int) + 1)) := ⟨by have := HM.out; omega, by omega⟩
        have hm : m ≤ 20000 := by have := HM.out; omega
        clear hz hle HM hs
        go_wp2_with fail
        go_roundw
        case rel => exact ⟨i + 1, m - (L + 1), by omega, by go_num, by rw [HE.out.2], trivial, HE.out.1⟩
        case measure => simp only [intOf]; omega
    · obtain rfl : i = N := by omega
      have d1 : decide ((i : Int) < (i : Int)) = false := by simp
      have HE : Hid (decide (szL r.ls ≤ 20000) = true) := by
        have := HM.out
        rw [List.take_of_length_le (by rw [HS.out.2]; exact Nat.le_refl _)] at this
        exact decide_eq_true (by omega)
      clear HM
      go_wp2_with fail
      go_ret
      exact ⟨by rw [HE.out]; rfl, HK.out⟩
end Go.Proofs.Ytbnlenanfhggiaa
/- slices.Grow of nil, slices.Concat of lines. -/
namespace Go.Proofs.Ytbnlenanfhggiaa
open Go.ChangeShapes Go.WideShapes Go.ChangeAt Go.RowKit Go.Maps Go.MapKept
set_option linter.unusedVariables false
set_option linter.unusedSimpArgs false
set_option maxRecDepth 100000
set_option maxHeartbeats 2000000 in
theorem grow_any (n : Nat) (hn : 0 < n) (hl : n ≤ 8796093022208) (w : World) :
    Calls Try.prog 61 #[.slice none 0 0, .int .i64 n] w fun e w' => ∃ a c, e = .returned (.slice a 0 c) ∧ Row w.heap.size (.slice a 0 c) [] w' ∧ Kp w w' := by
  obtain ⟨i9, hi9, z0, z1, z2⟩ := info_parts infoStr
  have hge := grownCap_ge w n 0 9
  have hle := grownCap_le_maxLen w n 0 9 (by unfold maxLen; omega)
  obtain ⟨W1, hrz, hR⟩ : ∃ W1, (∀ ty, (Builtin.append_ #[22, 3] ty #[.slice none 0 0, .int .i64 n]).run Try.prog w = .ok (.slice (some ⟨w.heap.size, 0, none⟩) n (grownCap w n 0 9)) W1) ∧ Row w.heap.size (.slice (some ⟨w.heap.size, 0, none⟩) 0 (grownCap w n 0 9)) [] W1 ∧ Kp w W1 := by
    have hold : (Builtin.firstCells i9.size 0 (.slice none 0 0)).run Try.prog w.drew = .ok ([] : List Value).toArray w.drew := run_firstCells_none w.drew i9.size 0 0 0
    refine ⟨w.drew.alloc (.cells (Builtin.zeroCells #[.string ⟨#[]⟩] n ++ Builtin.zeroCells #[.string ⟨#[]⟩] (grownCap w n 0 9 - n)) 9), fun ty => ?_, ?_, ?_⟩
    rotate_left
    · exact World.ownsRow_made (e := 9) (size := 1) w.drew (Builtin.zeroCells #[.string ⟨#[]⟩] n ++ Builtin.zeroCells #[.string ⟨#[]⟩] (grownCap w n 0 9 - n)) _ (Nat.le_refl _) hle (by rw [Array.size_append, size_zeroCells, size_zeroCells]; simp; omega)
    · exact kp_more (kp_drew _) _
    · have h := Lib.run_append_grow_zeros w 22 3 ty 9 i9 (.string ⟨#[]⟩) .i64 .i64 Try.underlying22 Try.underlying3 hi9 z0 none 0 0 [] hold n hn (by rw [z1]; omega) (by omega) (by omega) (by rw [z2]; omega)
        (by rw [z2]; have := nextslicecap_le (need := 0 + n) (old := 0) (by omega); omega)
      have e : (Value.string ⟨#[]⟩).cells = #[.string ⟨#[]⟩] := rfl
      simp only [e, Nat.zero_add] at h
      simpa using h
  have HR : Hid _ := hR
  clear hR
  have d1 : decide ((n : Int) < 0) = false := decide_eq_false (by omega)
  have d2 : decide ((n : Int) > 0) = true := decide_eq_true (by omega)
  have d3 : decide ((0 : Int) < (n : Int)) = true := decide_eq_true (by omega)
  unfold maxLen at hle
  generalize grownCap w n 0 9 = G at *
  go_enter Try.func61, Try.ntmps61
  go_wp2_with (at_builtin; refine Lib.wpList_append_run _ rfl _ _ _ _ rfl _ _ rfl rfl _ _ (hrz _) ?_)
  go_ret
  exact ⟨_, _, rfl, HR.out⟩
theorem flat_take (lss : List (List ByteArray)) {i : Nat} {ls : List ByteArray} (h : lss[i]? = some ls) : (lss.take (i + 1)).flatten = (lss.take i).flatten ++ ls := by
  rw [List.take_add_one, h, Option.toList_some, List.flatten_append]; simp
theorem flat_le (lss : List (List ByteArray)) (i : Nat) : (lss.take i).flatten.length ≤ lss.flatten.length := by
  have h : lss.flatten = (lss.take i).flatten ++ (lss.drop i).flatten := by rw [← List.flatten_append, List.take_append_drop]
  rw [h, List.length_append]; omega
set_option maxHeartbeats 4000000 in
theorem concat_any {P : Nat → Prop} {gb k : Nat} {vs : List Value} {lss : List (List ByteArray)} {w : World} (hb : Lc 22 gb vs w) (hv : vs.length = k) (hk : lss.length = k) (hk9 : k ≤ 100)
    (hS : ∀ (j : Nat) (v : Value) (ls : List ByteArray), vs[j]? = some v → lss[j]? = some ls → Sl P v ls w) (hpos : 0 < lss.flatten.length) (hmax : lss.flatten.length ≤ 8796093022208) :
    Calls Try.prog 52 #[.slice (some ⟨gb, 0, none⟩) k k] w fun e w' => ∃ a c, e = .returned (.slice a lss.flatten.length c) ∧ Row w.heap.size (.slice a lss.flatten.length c) lss.flatten w' ∧ Kp w w' := by
  have HA : Hid (∀ i, i < k → ∃ (a : Option Addr) (ls : List ByteArray) (c : Nat), w.cell? ⟨gb, i, none⟩ = some (.slice a ls.length c) ∧ lss[i]? = some ls ∧ Sl P (.slice a ls.length c) ls w ∧ ls.length ≤ c ∧ c ≤ maxLen) := fun i hi => by
    obtain ⟨v, hvi⟩ : ∃ v, vs[i]? = some v := ⟨_, List.getElem?_eq_getElem (by omega)⟩
    obtain ⟨ls, hli⟩ : ∃ ls, lss[i]? = some ls := ⟨_, List.getElem?_eq_getElem (by omega)⟩
    have h1 := hS i v ls hvi hli
    obtain ⟨a, c, rfl, q1, q2, _⟩ := h1.form
    exact ⟨a, ls, c, hb.at hvi, hli, h1, q1, q2⟩
  have HT : Hid (∀ (i : Nat) (ls : List ByteArray), lss[i]? = some ls → (lss.take (i + 1)).flatten = (lss.take i).flatten ++ ls ∧ (lss.take (i + 1)).flatten.length ≤ lss.flatten.length) := fun i ls h => ⟨flat_take lss h, flat_le lss _⟩
  have HE : Hid (lss.take k = lss) := by exact List.take_of_length_le (by omega)
  obtain ⟨M, hM⟩ : ∃ M, lss.flatten.length = M := ⟨_, rfl⟩
  have HM : Hid (lss.flatten.length = M) := hM
  rw [hM] at hpos hmax HT ⊢
  clear hM hS hb hv hk
  go_enter Try.func52, Try.ntmps52
  go_wp2_with fail
  go_loopw [3, 11] (fun v3 v11 wr => ∃ i m : Nat, i ≤ k ∧ v11 = .int .i64 i ∧ v3 = .int .i64 m ∧ m ≤ M ∧ w = wr ∧ Hid ((lss.take i).flatten.length = m)) (fun _ v11 _ => k - (intOf v11).toNat)
  case atStart => exact ⟨0, 0, Nat.zero_le _, rfl, rfl, Nat.zero_le _, rfl, rfl⟩
  case round =>
    obtain ⟨i, m, hi, rfl, rfl, hmM, rfl, HI⟩ := hrel
    by_cases q : i < k
    · have d1 : decide ((i : Int) < (k : Int)) = true := decide_eq_true (by omega)
      have d2 : decide (i < k) = true := decide_eq_true (by omega)
      obtain ⟨a, ls, c, c1, hls, _, hc1, hc2⟩ := HA.out i q
      obtain ⟨e1, e2⟩ := HT.out i ls hls
      have HN : Hid ((lss.take (i + 1)).flatten.length = m + ls.length) := by show _ = _; rw [e1, List.length_append, HI.out]
      obtain ⟨L, hL⟩ : ∃ L, ls.length = L := ⟨_, rfl⟩
      have hLM : m + L ≤ M := by have := HN.out; omega
      rw [hL] at c1 HN
      clear e1 e2 hls hL hc1 hc2 HI
      go_wp2_with fail
      go_roundw
      case rel => exact ⟨i + 1, m + L, by omega, by go_num, by go_num, by omega, trivial, HN.out⟩
      case measure => simp only [intOf]; omega
    · obtain rfl : i = k := by omega
      have d1 : decide ((i : Int) < (i : Int)) = false := by simp
      have hmm : m = M := by have := HI.out; rw [HE.out, HM.out] at this; omega
      subst hmm
      clear HI hi q hmM
      have HG : Hid _ := grow_any m hpos hmax w
      go_wp2_with fail
      refine Calls.mono HG.out ?_
      rintro e w1 ⟨a0, c0, rfl, hr0, hk0⟩
      have H0 : Hid (Row w.heap.size (.slice a0 0 c0) [] w1 ∧ Kp w w1) := ⟨hr0, hk0⟩
      clear HG hr0 hk0
      go_wp2_with fail
      go_loopw [6, 27] (fun v6 v27 wr => ∃ (j n : Nat) (a : Option Addr) (c : Nat), j ≤ i ∧ v27 = .int .i64 j ∧ v6 = .slice a n c ∧ n ≤ m ∧ Hid (Row w.heap.size (.slice a n c) (lss.take j).flatten wr ∧ Kp w wr ∧ (lss.take j).flatten.length = n)) (fun _ v27 _ => i - (intOf v27).toNat)
      case atStart => exact ⟨0, 0, a0, c0, Nat.zero_le _, rfl, rfl, Nat.zero_le _, H0.out.1, H0.out.2, rfl⟩
      case round =>
        obtain ⟨j, n, a, c, hj, rfl, rfl, hnm, HI⟩ := hrel
        clear H0
        by_cases q : j < i
        · have d3 : decide ((j : Int) < (i : Int)) = true := decide_eq_true (by omega)
          have d4 : decide (j < i) = true := decide_eq_true (by omega)
          obtain ⟨b, ls, c', c1, hls, hsl, hc1, hc2⟩ := HA.out j q
          obtain ⟨e1, e2⟩ := HT.out j ls hls
          replace c1 := kp_cell HI.out.2.1 c1
          have HS2 : Hid (Sl P (.slice b ls.length c') ls wr) := hsl.kp HI.out.2.1
          have HN : Hid ((lss.take (j + 1)).flatten = (lss.take j).flatten ++ ls ∧ (lss.take j).flatten.length + ls.length ≤ m) := ⟨e1, by rw [e1, List.length_append] at e2; exact e2⟩
          have HR : Hid (Row w.heap.size (.slice a n c) (lss.take j).flatten wr) := HI.out.1
          have HD : Hid ((lss.take j).flatten.length = n) := HI.out.2.2
          obtain ⟨L, hL⟩ : ∃ L, ls.length = L := ⟨_, rfl⟩
          have HL : Hid (ls.length = L) := hL
          have hLM : n + L ≤ m := by have := HN.out.2; rw [HD.out] at this; omega
          have HB : Hid (w.heap.size ≤ wr.heap.size) := HI.out.2.1.size
          have HF : Hid (∀ a' c2 w', Row w.heap.size (.slice a' (n + L) c2) ((lss.take j).flatten ++ ls) w' → wr.grownBy w' (Value.slice a n c).ownBlock → Row w.heap.size (.slice a' (n + L) c2) (lss.take (j + 1)).flatten w' ∧ Kp w w' ∧ (lss.take (j + 1)).flatten.length = n + L) := fun a' c2 w' q1 q2 => by
            refine ⟨by rw [HN.out.1]; exact q1, HI.out.2.1.trans (below_grown HR.out HB.out q2), by rw [HN.out.1, List.length_append, HD.out, HL.out]⟩
          rw [hL] at c1 HS2
          clear e1 e2 hls hL hc1 hc2 HI hsl
          go_wp2_with (at_builtin; refine wpl_str (K := n + L) rfl (.tmp 31) (.tmp 32) rfl rfl HR.out rfl HS2.out (by rw [HD.out, HL.out]) (by omega) HB.out ?_; intro a' c2 w' r1 r2 r3 r4; have HX : Hid _ := HF.out a' c2 w' r3 r4; clear r3 r4)
          clear HF HR HS2 HD HL HB HN c1
          go_roundw
          case rel => exact ⟨j + 1, n + L, a', c2, by omega, by go_num, rfl, by omega, HX.out⟩
          case measure => simp only [intOf]; omega
        · obtain rfl : j = i := by omega
          have d3 : decide ((j : Int) < (j : Int)) = false := by simp
          have HX : Hid (Row w.heap.size (.slice a n c) lss.flatten wr ∧ Kp w wr) := by
            have h1 := HI.out
            rw [HE.out] at h1
            exact ⟨h1.1, h1.2.1⟩
          obtain rfl : n = m := by have h1 := HI.out.2.2; rw [HE.out, HM.out] at h1; omega
          clear HI
          go_wp2_with fail
          go_ret
          exact ⟨_, _, rfl, HX.out⟩
end Go.Proofs.Ytbnlenanfhggiaa
/- added: what is in a register, with something behind it. -/
namespace Go.Proofs.Ytbnlenanfhggiaa
open Go.ChangeShapes Go.WideShapes Go.ChangeAt Go.RowKit Go.Maps Go.MapKept
set_option linter.unusedVariables false
set_option linter.unusedSimpArgs false
set_option maxRecDepth 100000
theorem takeAt {P : Program} {ops : Array Oper} {Q : Exit → Act → World → Prop} {md : Region.Mode} {S : World → Prop} (i : Nat) (dst : Option Tmp) (v : Value) {oi : Oper} {fuel : Nat} {listed : Array Bool} {a : Act} {w : World} (hi : ops[i]? = some oi) (hd : oi.dst = dst)
    (hs : Region.noSelect ops = true) (hf : Region.free md ops listed i = true) (hr : (Region.ready md ops listed).contains i = true)
    (hQ : ∀ c a w, Q (.panic c) (a.put dst v) w → Q (.panic c) a w) (hy : YieldsIf P ops S oi v a) (hS : S w)
    (h : wpAnyH P md ops Q S fuel (listed.setIfInBounds i true) (a.put dst v) w) : wpAnyH P md ops Q S (fuel + 1) listed a w := by
  subst hd
  exact wpAnyH_take hi hs hf hr hQ hy hS h
theorem run_callGo {P : Program} {f : FuncId} {fn : Func} (args : Array Value) (w : World) (hf : P.funcs[f]? = some fn) (hn : (fn.name == "runtime.NumGoroutine") = false) (hb : fn.body.isNone = false) : (callFunc f args).run P w = .ok (.enter f args) w := by
  have h1 : ¬ fn.name = "runtime.NumGoroutine" := by simpa using hn
  have h2 : ¬ fn.body = none := by intro e; rw [e] at hb; cases hb
  simp [callFunc, hf, h1, h2]
/-- The call of a Go function comes up alone. -/
theorem callAt {P : Program} {ops : Array Oper} {Q : Exit → Act → World → Prop} {md : Region.Mode} {S : World → Prop} (i : Nat) (d : Tmp) (f : FuncId) {o : Oper} {fn : Func} {fuel : Nat} {listed : Array Bool} {a : Act} {w : World} {xs : Array Operand} {ats : Array TypeId} {vals : Array Value}
    (hr : Region.ready md ops listed = [i]) (ho : ops[i]? = some o) (hop : o.op = .call { callee := .value (.func f), args := xs, argTypes := ats }) (hd : o.dst = some d) (hg : o.guard = none) (hv : xs.map a.eval = vals)
    (hf : P.funcs[f]? = some fn) (hn : (fn.name == "runtime.NumGoroutine") = false) (hb : fn.body.isNone = false)
    (h : Calls P f vals w fun e w' => ∃ v, e = .returned v ∧ S w' ∧ (S w' → wpAnyH P md ops Q S fuel (listed.setIfInBounds i true) (a.put (some d) v) w')) : wpAnyH P md ops Q S (fuel + 1) listed a w := by
  refine wpAnyH_ready hr (by simp) ?_
  refine AllReadyH.cons ho (fun K hK => ?_) AllReadyH.nil
  have hw : Region.wanted o (yielded ops a.tmps) = true := by simp [Region.wanted, hg]
  rw [if_pos hw]
  obtain ⟨dst, op, type, pos, after, guard⟩ := o
  simp only at hop hd hg
  subst hop; subst hd; subst hg
  unfold Oper.wp
  rw [execOp_call_go, show (#[] ++ xs.map a.eval ++ #[]) = vals by simp [hv], run_callGo vals w hf hn hb]
  simp only [Oper.upon]
  refine Calls.mono h ?_
  rintro e w' ⟨v, rfl, hS, hW⟩
  exact hK.out _ _ hS hW
theorem callAtG {P : Program} {ops : Array Oper} {Q : Exit → Act → World → Prop} {md : Region.Mode} {S : World → Prop} (i : Nat) (d : Tmp) (f : FuncId) {o : Oper} {fn : Func} {fuel : Nat} {listed : Array Bool} {a : Act} {w : World} {xs : Array Operand} {ats : Array TypeId} {vals : Array Value}
    (hr : Region.ready md ops listed = [i]) (ho : ops[i]? = some o) (hop : o.op = .call { callee := .value (.func f), args := xs, argTypes := ats }) (hd : o.dst = some d) (hw : Region.wanted o (yielded ops a.tmps) = true) (hv : xs.map a.eval = vals)
    (hf : P.funcs[f]? = some fn) (hn : (fn.name == "runtime.NumGoroutine") = false) (hb : fn.body.isNone = false)
    (h : Calls P f vals w fun e w' => ∃ v, e = .returned v ∧ S w' ∧ (S w' → wpAnyH P md ops Q S fuel (listed.setIfInBounds i true) (a.put (some d) v) w')) : wpAnyH P md ops Q S (fuel + 1) listed a w := by
  refine wpAnyH_ready hr (by simp) ?_
  refine AllReadyH.cons ho (fun K hK => ?_) AllReadyH.nil
  rw [if_pos hw]
  obtain ⟨dst, op, type, pos, after, guard⟩ := o
  simp only at hop hd
  subst hop; subst hd
  unfold Oper.wp
  rw [execOp_call_go, show (#[] ++ xs.map a.eval ++ #[]) = vals by simp [hv], run_callGo vals w hf hn hb]
  simp only [Oper.upon]
  refine Calls.mono h ?_
  rintro e w' ⟨v, rfl, hS, hW⟩
  exact hK.out _ _ hS hW
def seam (a b : List ByteArray) : ByteArray := a[a.length - 1]?.getD emp ++ b[0]?.getD emp
/-- Something behind what is in a register (no lines: nothing). -/
def addR (a b : Rv) : Rv := if a.ls = [] then b else if (a.wh || b.wh) = true then ⟨a.ls ++ b.ls, true⟩ else ⟨a.ls.take (a.ls.length - 1) ++ (seam a.ls b.ls :: b.ls.drop 1), false⟩
theorem addR_ne {a b : Rv} (h : b.ls ≠ []) : (addR a b).ls ≠ [] := by
  unfold addR; split
  · exact h
  · split <;> simp_all
theorem cell_so {w : World} {b off : Nat} {v : Value} {a : Addr} (h : a.block ≠ b) : (w.setCell ⟨b, off, none⟩ v).cell? a = w.cell? a := World.cell?_of_block (heap_setCell_other h)
section
variable {P : Nat → Prop} {w : World} {a b : Rv} {va vb : Value}
theorem Sl.take {aa : Option Addr} {n c m : Nat} {ls : List ByteArray} (h : Sl P (.slice aa n c) ls w) (hm : m ≤ n) : Sl P (.slice aa m c) (ls.take m) w := by
  obtain ⟨a', cap, e, h1, h2, h3, h4⟩ := h
  cases e
  have hl : (ls.take m).length = m := by simp; omega
  refine ⟨aa, c, by rw [hl], by omega, h2, h3, fun i s hi => h4 i s ?_⟩
  have q := (List.getElem?_eq_some_iff.1 hi).1
  rw [List.getElem?_take, if_pos (by omega)] at hi
  exact hi
theorem Sl.drop1 {g o n c : Nat} {ls : List ByteArray} (h : Sl P (.slice (some ⟨g, o, none⟩) n c) ls w) (hn : 1 ≤ n) : Sl P (.slice (if c = 1 then some ⟨g, o, none⟩ else some ⟨g, o + 1, none⟩) (n - 1) (c - 1)) (ls.drop 1) w := by
  obtain ⟨a', cap, e, h1, h2, h3, h4⟩ := h
  cases e
  have hl : (ls.drop 1).length = ls.length - 1 := by simp
  refine ⟨_, c - 1, by rw [hl], by omega, by omega, (fun q => by split at q <;> cases q), fun i s hi => ?_⟩
  rw [List.getElem?_drop] at hi
  obtain ⟨g', o', q1, q2, q3⟩ := h4 (1 + i) s hi
  have q := (List.getElem?_eq_some_iff.1 hi).1
  cases q1
  refine ⟨g, o + 1, by rw [if_neg (by omega)], q2, ?_⟩
  rw [Nat.add_assoc]; exact q3
theorem Sl.str (s : ByteArray) (w : World) (hP : ∀ k, w.heap.size ≤ k → P k) : Sl P (.slice (some ⟨w.heap.size, 0, none⟩) 1 1) [s] (w.alloc (.cells #[.string s] 9)) := by
  refine ⟨_, 1, rfl, Nat.le_refl _, by simp [maxLen], (fun q => by cases q), fun i t hi => ⟨w.heap.size, 0, rfl, hP _ (Nat.le_refl _), ?_⟩⟩
  have q := (List.getElem?_eq_some_iff.1 hi).1
  obtain rfl : i = 0 := by simp at q; exact q
  cases hi
  exact (Lc.new w [.string s] 9).at rfl
set_option maxHeartbeats 4000000 in
theorem added_none (ha : Sl P va a.ls w) (hb : Sl P vb b.ls w) (h0 : a.ls = []) :
    Calls Try.prog 39 #[.agg #[va, .bool a.wh], .agg #[vb, .bool b.wh]] w fun e w' => e = .returned (.agg #[vb, .bool b.wh]) ∧ Kp w w' := by
  obtain ⟨aa, ca, rfl, _⟩ := ha.form
  obtain ⟨ab, cb, rfl, _⟩ := hb.form
  rw [h0]
  obtain ⟨M, hM⟩ : ∃ M, b.ls.length = M := ⟨_, rfl⟩
  rw [hM]
  have HB : Hid (∀ x y, Lc 24 (w.heap.size + 1 + 1) [x, y] (((w.alloc (.cells #[.slice aa 0 ca, .bool a.wh] 24)).alloc (.cells #[.slice ab M cb, .bool b.wh] 24)).alloc (.cells #[x, y] 24))) := fun x y => by
    have := Lc.new ((w.alloc (.cells #[.slice aa 0 ca, .bool a.wh] 24)).alloc (.cells #[.slice ab M cb, .bool b.wh] 24)) [x, y] 24
    rw [alloc_size, alloc_size] at this
    exact this
  clear ha hb h0 hM
  go_enter Try.func39, Try.ntmps39
  go_wp2_with fail
  refine bodyPost_ret (results_box1 rfl rfl (HB.out _ _) Try.underlying24 rfl (by kernel_rfl)) rfl ?_
  exact ⟨rfl, kp_more (kp_more (kp_alloc _ _) _) _⟩
set_option maxHeartbeats 4000000 in
theorem added_whole (ha : Sl P va a.ls w) (hb : Sl P vb b.ls w) (h0 : a.ls ≠ []) (h1 : (a.wh || b.wh) = true) (hl : a.ls.length + b.ls.length ≤ 8796093022208) :
    Calls Try.prog 39 #[.agg #[va, .bool a.wh], .agg #[vb, .bool b.wh]] w fun e w' => ∃ v', e = .returned (.agg #[v', .bool true]) ∧ Row w.heap.size v' (a.ls ++ b.ls) w' ∧ Kp w w' := by
  obtain ⟨aa, ca, rfl, _⟩ := ha.form
  obtain ⟨ab, cb, rfl, _⟩ := hb.form
  have hpos : 0 < a.ls.length := List.length_pos_iff.2 h0
  obtain ⟨W1, hW1⟩ : ∃ W1, ((w.alloc (.cells #[.slice aa a.ls.length ca, .bool a.wh] 24)).alloc (.cells #[.slice ab b.ls.length cb, .bool b.wh] 24)).alloc (.cells #[.slice none 0 0, .bool false] 24) = W1 := ⟨_, rfl⟩
  have k1 : Kp w W1 := by rw [← hW1]; exact kp_more (kp_more (kp_alloc _ _) _) _
  have hz1 : W1.heap.size = w.heap.size + 1 + 1 + 1 := by rw [← hW1, alloc_size, alloc_size, alloc_size]
  have hb3 : Lc 24 (w.heap.size + 1 + 1) [.slice none 0 0, .bool false] W1 := by
    have := Lc.new ((w.alloc (.cells #[.slice aa a.ls.length ca, .bool a.wh] 24)).alloc (.cells #[.slice ab b.ls.length cb, .bool b.wh] 24)) [.slice none 0 0, .bool false] 24
    rw [alloc_size, alloc_size, hW1] at this
    exact this
  have HC : Hid (Calls Try.prog 52 #[.slice (some ⟨w.heap.size + 1 + 1 + 1, 0, none⟩) 2 2] (W1.alloc (.cells #[.slice aa a.ls.length ca, .slice ab b.ls.length cb] 22)) fun e w' => ∃ a' n c', e = .returned (.slice a' n c') ∧ w'.cell? ⟨w.heap.size + 1 + 1, 0, none⟩ = some (.slice none 0 0) ∧ w'.cell? ⟨w.heap.size + 1 + 1, 1, none⟩ = some (.bool false) ∧ w'.frozen? ⟨w.heap.size + 1 + 1, 0, none⟩ = false ∧ w'.frozen? ⟨w.heap.size + 1 + 1, 1, none⟩ = false ∧ Hid (Row w.heap.size (.slice a' n c') (a.ls ++ b.ls) w' ∧ Kp w w' ∧ Lc 24 (w.heap.size + 1 + 1) [.slice none 0 0, .bool false] w')) := by
    have k2 : Kp w (W1.alloc (.cells #[.slice aa a.ls.length ca, .slice ab b.ls.length cb] 22)) := kp_more k1 _
    have hb4 := Lc.new W1 [.slice aa a.ls.length ca, .slice ab b.ls.length cb] 22
    rw [hz1] at hb4
    have e1 : [a.ls, b.ls].flatten = a.ls ++ b.ls := by simp
    refine (concat_any (P := P) (k := 2) (lss := [a.ls, b.ls]) hb4 rfl rfl (by omega) (fun j v ls hj hl => ?_) (by rw [e1, List.length_append]; omega) (by rw [e1, List.length_append]; omega)).mono ?_
    · rcases j with _ | _ | j
      · cases hj; cases hl; exact ha.kp k2
      · cases hj; cases hl; exact hb.kp k2
      · cases hj
    · rintro e w' ⟨a', c', he, q1, q2⟩
      have k3 : Kp W1 w' := kp_trans (kp_alloc _ _) q2
      have b2 := hb3.kp k3
      rw [e1] at q1 he
      exact ⟨a', _, c', he, b2.at (j := 0) rfl, b2.at (j := 1) rfl, b2.fz _, b2.fz _, row_lift q1 fun j hj => Nat.le_trans k2.size (q1.lt j hj).1, kp_trans k1 k3, b2⟩
  obtain ⟨N, hN⟩ : ∃ N, a.ls.length = N := ⟨_, rfl⟩
  obtain ⟨M, hM⟩ : ∃ M, b.ls.length = M := ⟨_, rfl⟩
  rw [hN] at hpos HC hW1 hl ⊢
  rw [hM] at HC hW1 hl ⊢
  have HW : Hid (_ = W1) := hW1
  have d1 : decide ((N : Int) - 1 < 0) = false := decide_eq_false (by omega)
  have c1 : W1.cell? ⟨w.heap.size, 0, none⟩ = some (.slice aa N ca) := by rw [← hW1]; exact (((Lc.new w [.slice aa N ca, .bool a.wh] 24).kp (kp_alloc _ _)).kp (kp_alloc _ _)).at rfl
  have c2 : W1.cell? ⟨w.heap.size + 1, 0, none⟩ = some (.slice ab M cb) := by
    have := (Lc.new (w.alloc (.cells #[.slice aa N ca, .bool a.wh] 24)) [.slice ab M cb, .bool b.wh] 24).kp (kp_alloc _ (.cells #[.slice none 0 0, .bool false] 24))
    rw [alloc_size] at this
    rw [← hW1]; exact this.at rfl
  clear ha hb h0 hN hM hb3 hW1 k1
  cases hw1 : a.wh with
  | true =>
    rw [hw1] at HW
    clear h1 hw1
    go_enter Try.func39, Try.ntmps39
    go_upto_region 7 with fail
    rw [HW.out]
    go_wp2_with fail
    refine Calls.mono HC.out ?_
    rintro e w4 ⟨a', n', c', rfl, y3, y4, y5, y6, q⟩
    have HQ : Hid _ := box_put q.out.2.2 q.out.1 q.out.2.1 (by omega) (.slice a' n' c') (.bool true)
    clear q HC HW c1 c2 hz1
    go_wp2_with fail
    refine bodyPost_ret (results_box1 rfl rfl HQ.out.1 Try.underlying24 rfl (by kernel_rfl)) rfl ?_
    exact ⟨_, rfl, HQ.out.2⟩
  | false =>
    rw [hw1] at HW h1
    have hw2 : b.wh = true := by simpa using h1
    rw [hw2] at HW ⊢
    clear h1 hw1 hw2
    go_enter Try.func39, Try.ntmps39
    go_upto_region 7 with fail
    rw [HW.out]
    go_wp2_with fail
    refine Calls.mono HC.out ?_
    rintro e w4 ⟨a', n', c', rfl, y3, y4, y5, y6, q⟩
    have HQ : Hid _ := box_put q.out.2.2 q.out.1 q.out.2.1 (by omega) (.slice a' n' c') (.bool true)
    clear q HC HW c1 c2 hz1
    go_wp2_with fail
    refine bodyPost_ret (results_box1 rfl rfl HQ.out.1 Try.underlying24 rfl (by kernel_rfl)) rfl ?_
    exact ⟨_, rfl, HQ.out.2⟩
set_option maxHeartbeats 4000000 in
theorem added_seam (ha : Sl P va a.ls w) (hb : Sl P vb b.ls w) (hP : ∀ k, w.heap.size ≤ k → P k) (h0 : a.ls ≠ []) (h0' : b.ls ≠ []) (h1 : a.wh = false) (h2 : b.wh = false) (hl : a.ls.length + b.ls.length ≤ 8796093022208) (hsz : (a.ls[a.ls.length - 1]?.getD emp).size + (b.ls[0]?.getD emp).size ≤ 9223372036854775807) :
    Calls Try.prog 39 #[.agg #[va, .bool a.wh], .agg #[vb, .bool b.wh]] w fun e w' => ∃ v', e = .returned (.agg #[v', .bool false]) ∧ Row w.heap.size v' (a.ls.take (a.ls.length - 1) ++ (seam a.ls b.ls :: b.ls.drop 1)) w' ∧ Kp w w' := by
  obtain ⟨aa, ca, rfl, g1, g2, _⟩ := ha.form
  obtain ⟨ab, cb, rfl, g3, g4, _⟩ := hb.form
  have hpos : 0 < a.ls.length := List.length_pos_iff.2 h0
  have hpos' : 0 < b.ls.length := List.length_pos_iff.2 h0'
  obtain ⟨s1, hs1⟩ : ∃ s, a.ls[a.ls.length - 1]? = some s := ⟨_, List.getElem?_eq_getElem (by omega)⟩
  obtain ⟨s2, hs2⟩ : ∃ s, b.ls[0]? = some s := ⟨_, List.getElem?_eq_getElem (by omega)⟩
  have hse : seam a.ls b.ls = s1 ++ s2 := by unfold seam; rw [hs1, hs2]; rfl
  rw [hs1, hs2] at hsz
  rw [hse]
  obtain ⟨ga, oa, rfl, _, e1⟩ := ha.at_ hs1
  obtain ⟨gb, ob, rfl, _, e2⟩ := hb.at_ hs2
  rw [Nat.add_zero] at e2
  obtain ⟨W1, hW1⟩ : ∃ W1, ((w.alloc (.cells #[.slice (some ⟨ga, oa, none⟩) a.ls.length ca, .bool false] 24)).alloc (.cells #[.slice (some ⟨gb, ob, none⟩) b.ls.length cb, .bool false] 24)).alloc (.cells #[.slice none 0 0, .bool false] 24) = W1 := ⟨_, rfl⟩
  have k1 : Kp w W1 := by rw [← hW1]; exact kp_more (kp_more (kp_alloc _ _) _) _
  have hz1 : W1.heap.size = w.heap.size + 1 + 1 + 1 := by rw [← hW1, alloc_size, alloc_size, alloc_size]
  have hb1 : Lc 24 w.heap.size [.slice (some ⟨ga, oa, none⟩) a.ls.length ca, .bool false] W1 := by rw [← hW1]; exact ((Lc.new w _ 24).kp (kp_alloc _ _)).kp (kp_alloc _ _)
  have hb2 : Lc 24 (w.heap.size + 1) [.slice (some ⟨gb, ob, none⟩) b.ls.length cb, .bool false] W1 := by
    have := (Lc.new (w.alloc (.cells #[.slice (some ⟨ga, oa, none⟩) a.ls.length ca, .bool false] 24)) [.slice (some ⟨gb, ob, none⟩) b.ls.length cb, .bool false] 24).kp (kp_alloc _ (.cells #[.slice none 0 0, .bool false] 24))
    rw [alloc_size, hW1] at this
    exact this
  have hb3 : Lc 24 (w.heap.size + 1 + 1) [.slice none 0 0, .bool false] W1 := by
    have := Lc.new ((w.alloc (.cells #[.slice (some ⟨ga, oa, none⟩) a.ls.length ca, .bool false] 24)).alloc (.cells #[.slice (some ⟨gb, ob, none⟩) b.ls.length cb, .bool false] 24)) [.slice none 0 0, .bool false] 24
    rw [alloc_size, alloc_size, hW1] at this
    exact this
  have c1 := hb1.at (j := 0) rfl
  have c2 := hb2.at (j := 0) rfl
  have f1 := kp_cell k1 e1
  have f2 := kp_cell k1 e2
  have had : ∀ z : World, (Op.stringOp .add s1 s2).run Try.prog z = .ok (.string (s1 ++ s2)) z := fun z => run_string_add_sum z _ _ hsz
  obtain ⟨N, hN⟩ : ∃ N, a.ls.length = N := ⟨_, rfl⟩
  obtain ⟨M, hM⟩ : ∃ M, b.ls.length = M := ⟨_, rfl⟩
  have HN : Hid (a.ls.length = N ∧ b.ls.length = M) := ⟨hN, hM⟩
  rw [hN] at hpos hl c1 g1 hW1 f1 ⊢
  rw [hM] at hpos' hl c2 g3 hW1 ⊢
  unfold maxLen at g2 g4
  obtain ⟨n, hn⟩ : ∃ n, N - 1 = n := ⟨_, rfl⟩
  rw [hn] at f1 ⊢
  have hNn : (N : Int) - 1 = (n : Int) := by omega
  have hnN : n < N := by omega
  have HW : Hid (_ = W1) := hW1
  have d1 : decide ((n : Int) < 0) = false := decide_eq_false (by omega)
  have HBX : Hid (Lc 24 (w.heap.size + 1 + 1) [.slice none 0 0, .bool false] W1 ∧ Kp w W1) := ⟨hb3, k1⟩
  rw [h1, h2]
  clear h0 h0' hN hM hb1 hb2 hb3 hW1 k1 e1 e2 hs1 hs2 hse hsz h1 h2 hn
  have HA : Hid (Sl P (.slice (some ⟨ga, oa, none⟩) a.ls.length ca) a.ls w) := ha
  have HB : Hid (Sl P (.slice (some ⟨gb, ob, none⟩) b.ls.length cb) b.ls w) := hb
  clear ha hb
  go_enter Try.func39, Try.ntmps39
  go_upto_region 2 with fail
  rw [HW.out]
  go_region
  go_wp2_with fail
  clear HW f1 f2 had
  have q1 : n ≤ ca := by omega
  have q2 : (1 : Int) ≤ (M : Int) := by omega
  have HD := HB.out.drop1 (by have := HN.out.2; omega)
  rw [HN.out.2] at HD
  obtain ⟨sp, hsp⟩ : ∃ sp, (if cb = 1 then some (⟨gb, ob, none⟩ : Addr) else some ⟨gb, ob + 1, none⟩) = sp := ⟨_, rfl⟩
  rw [hsp] at HD
  have HC : Hid (∀ X, Kp W1 X → X.heap.size = w.heap.size + 1 + 1 + 1 → Calls Try.prog 52 #[.slice (some ⟨w.heap.size + 1 + 1 + 1 + 1, 0, none⟩) 3 3] ((X.alloc (.cells #[.string (s1 ++ s2)] 9)).alloc (.cells #[.slice (some ⟨ga, oa, none⟩) n ca, .slice (some ⟨w.heap.size + 1 + 1 + 1, 0, none⟩) 1 1, .slice sp (M - 1) (cb - 1)] 22)) fun e w' => ∃ a' n' c', e = .returned (.slice a' n' c') ∧ (w'.cell? ⟨w.heap.size, 0, none⟩ = some (.slice (some ⟨ga, oa, none⟩) N ca) ∧ w'.cell? ⟨w.heap.size + 1, 0, none⟩ = some (.slice (some ⟨gb, ob, none⟩) M cb)) ∧ w'.cell? ⟨w.heap.size + 1 + 1, 0, none⟩ = some (.slice none 0 0) ∧ w'.cell? ⟨w.heap.size + 1 + 1, 1, none⟩ = some (.bool false) ∧ w'.frozen? ⟨w.heap.size + 1 + 1, 0, none⟩ = false ∧ w'.frozen? ⟨w.heap.size + 1 + 1, 1, none⟩ = false ∧ Hid (Row w.heap.size (.slice a' n' c') (a.ls.take n ++ ((s1 ++ s2) :: b.ls.drop 1)) w' ∧ Kp w w' ∧ Lc 24 (w.heap.size + 1 + 1) [.slice none 0 0, .bool false] w')) := by
    intro X kX hX
    have kw : Kp w X := kp_trans HBX.out.2 kX
    have k2 := kp_alloc X (.cells #[.string (s1 ++ s2)] 9)
    have k3 := kp_more k2 (.cells #[.slice (some ⟨ga, oa, none⟩) n ca, .slice (some ⟨w.heap.size + 1 + 1 + 1, 0, none⟩) 1 1, .slice sp (M - 1) (cb - 1)] 22)
    have hb4 := Lc.new (X.alloc (.cells #[.string (s1 ++ s2)] 9)) [.slice (some ⟨ga, oa, none⟩) n ca, .slice (some ⟨w.heap.size + 1 + 1 + 1, 0, none⟩) 1 1, .slice sp (M - 1) (cb - 1)] 22
    rw [alloc_size, hX] at hb4
    have hstr : Sl P (.slice (some ⟨w.heap.size + 1 + 1 + 1, 0, none⟩) 1 1) [s1 ++ s2] (X.alloc (.cells #[.string (s1 ++ s2)] 9)) := by
      rw [← hX]; exact Sl.str _ _ fun k hk => hP k (by have := kw.size; omega)
    have e1 : [a.ls.take n, [s1 ++ s2], b.ls.drop 1].flatten = a.ls.take n ++ ((s1 ++ s2) :: b.ls.drop 1) := by simp
    have e2 : (a.ls.take n ++ ((s1 ++ s2) :: b.ls.drop 1)).length ≤ N + M := by
      have := HN.out.1
      have := HN.out.2
      simp; omega
    refine (concat_any (P := P) (k := 3) (lss := [a.ls.take n, [s1 ++ s2], b.ls.drop 1]) hb4 rfl rfl (by omega) (fun j v ls hj hl => ?_) (by rw [e1]; simp; omega) (by rw [e1]; omega)).mono ?_
    · rcases j with _ | _ | _ | j
      · cases hj; cases hl
        exact (HA.out.kp (kp_trans kw k3)).take (by have := HN.out.1; omega)
      · cases hj; cases hl; exact hstr.kp (kp_alloc _ _)
      · cases hj; cases hl; exact HD.kp (kp_trans kw k3)
      · cases hj
    · rintro e w' ⟨a', c', he, r1, r2⟩
      have k4 : Kp X w' := kp_trans k3 r2
      have k5 : Kp W1 w' := kp_trans kX k4
      have b3 := HBX.out.1.kp k5
      rw [e1] at r1 he
      exact ⟨a', _, c', he, ⟨kp_cell k5 c1, kp_cell k5 c2⟩, b3.at (j := 0) rfl, b3.at (j := 1) rfl, b3.fz _, b3.fz _, row_lift r1 fun j hj => Nat.le_trans (kp_trans kw k3).size (r1.lt j hj).1, kp_trans HBX.out.2 k5, b3⟩
  clear HD HA HB
  refine wp_region_noPanic ?_
  refine wp_region_held_drew (S := fun z => z.cell? ⟨w.heap.size, 0, none⟩ = some (.slice (some ⟨ga, oa, none⟩) N ca) ∧ z.cell? ⟨w.heap.size + 1, 0, none⟩ = some (.slice (some ⟨gb, ob, none⟩) M cb)) (by kernel_rfl) (⟨c1, c2⟩) (fun hHeld => ?_)
  refine takeAt 0 (some 21) ?_ rfl rfl (by kernel_rfl) (by kernel_rfl) (by kernel_rfl) (fun _ _ _ h => h) (Or.inl ⟨by rfl, ?_⟩) hHeld ?_
  rotate_left
  · intro w hSw
    go_simp <;> with_reducible rfl
  try simp only [Act.put, List.setIfInBounds_toArray, List.set_cons_zero, List.set_cons_succ]
  refine takeAt 1 (some 22) ?_ rfl rfl (by kernel_rfl) (by kernel_rfl) (by kernel_rfl) (fun _ _ _ h => h) (Or.inl ⟨by rfl, ?_⟩) hHeld ?_
  rotate_left
  · intro w hSw
    go_simp <;> with_reducible rfl
  try simp only [Act.put, List.setIfInBounds_toArray, List.set_cons_zero, List.set_cons_succ]
  refine takeAt 2 (some 23) ?_ rfl rfl (by kernel_rfl) (by kernel_rfl) (by kernel_rfl) (fun _ _ _ h => h) (Or.inl ⟨by rfl, ?_⟩) hHeld ?_
  rotate_left
  · intro w hSw
    go_simp <;> with_reducible rfl
  try simp only [Act.put, List.setIfInBounds_toArray, List.set_cons_zero, List.set_cons_succ]
  refine takeAt 3 (some 24) ?_ rfl rfl (by kernel_rfl) (by kernel_rfl) (by kernel_rfl) (fun _ _ _ h => h) (Or.inl ⟨by rfl, ?_⟩) hHeld ?_
  rotate_left
  · intro w hSw
    go_simp <;> with_reducible rfl
  try simp only [Act.put, List.setIfInBounds_toArray, List.set_cons_zero, List.set_cons_succ]
  refine takeAt 4 (some 25) ?_ rfl rfl (by kernel_rfl) (by kernel_rfl) (by kernel_rfl) (fun _ _ _ h => h) (Or.inl ⟨by rfl, ?_⟩) hHeld ?_
  rotate_left
  · intro w hSw
    go_simp <;> with_reducible rfl
  try simp only [Act.put, List.setIfInBounds_toArray, List.set_cons_zero, List.set_cons_succ]
  refine takeAt 6 (some 27) ?_ rfl rfl (by kernel_rfl) (by kernel_rfl) (by kernel_rfl) (fun _ _ _ h => h) (Or.inl ⟨by rfl, ?_⟩) hHeld ?_
  rotate_left
  · intro w hSw
    go_simp <;> with_reducible rfl
  try simp only [Act.put, List.setIfInBounds_toArray, List.set_cons_zero, List.set_cons_succ]
  refine takeAt 7 (some 28) ?_ rfl rfl (by kernel_rfl) (by kernel_rfl) (by kernel_rfl) (fun _ _ _ h => h) (Or.inl ⟨by rfl, ?_⟩) hHeld ?_
  rotate_left
  · intro w hSw
    go_simp <;> with_reducible rfl
  try simp only [Act.put, List.setIfInBounds_toArray, List.set_cons_zero, List.set_cons_succ]
  refine takeAt 8 (some 29) ?_ rfl rfl (by kernel_rfl) (by kernel_rfl) (by kernel_rfl) (fun _ _ _ h => h) (Or.inl ⟨by rfl, ?_⟩) hHeld ?_
  rotate_left
  · intro w hSw
    go_simp <;> with_reducible rfl
  try simp only [Act.put, List.setIfInBounds_toArray, List.set_cons_zero, List.set_cons_succ]
  refine wpAnyH_ready (rs := [5]) (by kernel_rfl) (by simp) ?_
  refine AllReadyH.cons rfl (fun K hK => ?_) AllReadyH.nil
  go_simp
  refine hK.out _ _ (⟨kp_cell (kp_alloc _ _) hHeld.1, kp_cell (kp_alloc _ _) hHeld.2⟩) (fun hHeld => ?_)
  clear hK K
  try simp only [Act.put, List.setIfInBounds_toArray, List.set_cons_zero, List.set_cons_succ]
  refine wpAnyH_ready (rs := [9]) (by kernel_rfl) (by simp) ?_
  refine AllReadyH.cons rfl (fun K hK => ?_) AllReadyH.nil
  go_simp
  refine hK.out _ _ (⟨kp_cell (kp_alloc _ _) hHeld.1, kp_cell (kp_alloc _ _) hHeld.2⟩) (fun hHeld => ?_)
  clear hK K
  try simp only [Act.put, List.setIfInBounds_toArray, List.set_cons_zero, List.set_cons_succ]
  refine callAt 10 31 52 (vals := #[.slice (some ⟨w.heap.size + 1 + 1 + 1 + 1, 0, none⟩) 3 3]) (by kernel_rfl) rfl rfl rfl rfl (by simp [Act.eval]) Try.func52 (by kernel_rfl) (by kernel_rfl) ?_
  refine Calls.mono (HC.out W1.drew.drew (kp_trans (kp_drew _) (kp_drew _)) hz1) ?_
  rintro e w4 ⟨a', n', c', rfl, hS4, y3, y4, y5, y6, q⟩
  have HQ : Hid _ := box_put q.out.2.2 q.out.1 q.out.2.1 (by omega) (.slice a' n' c') (.bool false)
  clear q HC
  refine ⟨_, rfl, hS4, fun hHeld => ?_⟩
  try simp only [Act.put, List.setIfInBounds_toArray, List.set_cons_zero, List.set_cons_succ]
  refine takeAt 11 (some 32) ?_ rfl rfl (by kernel_rfl) (by kernel_rfl) (by kernel_rfl) (fun _ _ _ h => h) (Or.inl ⟨by rfl, ?_⟩) hHeld ?_
  rotate_left
  · intro w hSw
    go_simp <;> with_reducible rfl
  try simp only [Act.put, List.setIfInBounds_toArray, List.set_cons_zero, List.set_cons_succ]
  refine wpAnyH_ready (rs := [12]) (by kernel_rfl) (by simp) ?_
  refine AllReadyH.cons rfl (fun K hK => ?_) AllReadyH.nil
  go_simp
  refine hK.out _ _ (⟨by rw [cell_so (by show w.heap.size ≠ _; omega), cell_so (by show w.heap.size ≠ _; omega)]; exact hS4.1, by rw [cell_so (by show w.heap.size + 1 ≠ _; omega), cell_so (by show w.heap.size + 1 ≠ _; omega)]; exact hS4.2⟩) (fun hHeld => ?_)
  clear hK K
  try simp only [Act.put, List.setIfInBounds_toArray, List.set_cons_zero, List.set_cons_succ]
  refine wpAnyH_done (by kernel_rfl) ?_ _
  refine NoPanic.normal ?_
  go_wp2_with fail
  refine bodyPost_ret (results_box1 rfl rfl HQ.out.1 Try.underlying24 rfl (by kernel_rfl)) rfl ?_
  exact ⟨_, rfl, HQ.out.2⟩
end
end Go.Proofs.Ytbnlenanfhggiaa
/- Registers: what they are, in memory and plainly; New, Known. -/
namespace Go.Proofs.Ytbnlenanfhggiaa
open Go.ChangeShapes Go.WideShapes Go.ChangeAt Go.RowKit Go.Maps Go.MapKept
set_option linter.unusedVariables false
set_option linter.unusedSimpArgs false
set_option maxRecDepth 100000
theorem added_any {P : Nat → Prop} {w : World} {a b : Rv} {va vb : Value} (ha : Sl P va a.ls w) (hb : Sl P vb b.ls w) (hP : ∀ k, w.heap.size ≤ k → P k) (h0 : b.ls ≠ []) (hl : a.ls.length + b.ls.length ≤ 8796093022208) (hsz : (a.ls[a.ls.length - 1]?.getD emp).size + (b.ls[0]?.getD emp).size ≤ 9223372036854775807) :
    Calls Try.prog 39 #[.agg #[va, .bool a.wh], .agg #[vb, .bool b.wh]] w fun e w' => ∃ v', e = .returned (.agg #[v', .bool (addR a b).wh]) ∧ Sl P v' (addR a b).ls w' ∧ Kp w w' := by
  unfold addR
  by_cases q : a.ls = []
  · rw [if_pos q]
    refine (added_none ha hb q).mono ?_
    rintro e w' ⟨he, k⟩
    exact ⟨vb, he, hb.kp k, k⟩
  rw [if_neg q]
  by_cases p : (a.wh || b.wh) = true
  · rw [if_pos p]
    refine (added_whole ha hb q p hl).mono ?_
    rintro e w' ⟨v', he, r, k⟩
    exact ⟨v', he, (Sl.of_row r).mono fun j _ hj => hP j hj, k⟩
  · rw [if_neg p]
    have h1 : a.wh = false := by cases h : a.wh <;> simp_all
    have h2 : b.wh = false := by cases h : b.wh <;> simp_all
    refine (added_seam ha hb hP q h0 h1 h2 hl hsz).mono ?_
    rintro e w' ⟨v', he, r, k⟩
    exact ⟨v', he, (Sl.of_row r).mono fun j _ hj => hP j hj, k⟩
/-- A register's name; all names that may be said. -/
def nmB (x : Int) : Bool := x == 34 || digB x || smlB x
def kwB (x : Int) : Bool := x == 34 || x == 95 || digB x || letB x
theorem is_d (x : Int) : isB 100 x = digB x := by simp [isB, smI, grtB, bt, knB, clsB]
theorem is_a (x : Int) : isB 97 x = letB x := by simp [isB, smI, grtB, bt, knB, clsB]
set_option maxHeartbeats 2000000 in
theorem gknown_any (x : Int) (w : World) : Calls Try.prog 15 #[.int .u8 x] w fun e w' => e = .returned (.bool (kwB x)) ∧ Kp w w' := by
  have h1 := fun w => kIs_any 100 x w
  have h2 := fun w => kIs_any 97 x w
  unfold kwB
  rw [is_d] at h1
  rw [is_a] at h2
  have H1 : Hid _ := h1
  have H2 : Hid _ := h2
  clear h1 h2
  cases q1 : (x == 34)
  · cases q2 : (x == 95)
    · go_enter Try.func15, Try.ntmps15
      go_wp2_with fail
      refine Calls.mono (H1.out _) ?_
      rintro e w1 ⟨rfl, k1⟩
      cases q3 : digB x
      · go_wp2_with fail
        refine Calls.mono (H2.out _) ?_
        rintro e w2 ⟨rfl, k2⟩
        go_wp2_with fail
        go_ret
        exact ⟨by simp [q3], kp_trans k1 k2⟩
      · go_wp2_with fail
        go_ret
        exact ⟨by simp [q3], k1⟩
    · go_enter Try.func15, Try.ntmps15
      go_wp2_with fail
      go_ret
      exact ⟨by simp, Below.refl _ _⟩
  · go_enter Try.func15, Try.ntmps15
    go_wp2_with fail
    go_ret
    exact ⟨by simp, Below.refl _ _⟩
abbrev Rf := Int → Option Rv
/-- What stands in the map is what is in the register. -/
def Hv (P : Nat → Prop) (w : World) (u : Option Value) (r : Option Rv) : Prop :=
  (u = none ∧ r = none) ∨ ∃ v q, u = some (.agg #[v, .bool q.wh]) ∧ r = some q ∧ Sl P v q.ls w
/-- Registers at block t, their map at block b; where their lines lie P holds. -/
structure Rs (t b : Nat) (f : Rf) (P : Nat → Prop) (w : World) : Prop where
  box : Lc 56 t [.map (some b)] w
  map : ∃ m, Mp b m w ∧ ∀ x, Hv P w (m x) (f x)
  dom : ∀ x r, f x = some r → nmB x = true
  ok : ∀ x r, f x = some r → r.ls ≠ [] ∧ szL r.ls ≤ 20000
def setR (f : Rf) (x : Int) (r : Option Rv) : Rf := fun y => if y = x then r else f y
section
variable {t b : Nat} {f : Rf} {P Q : Nat → Prop} {w w1 : World} {v : Value} {ls : List ByteArray}
theorem Sl.onMap {m : Int → Option Value} (h : Sl P v ls w) (hm : Mp b m w) (k : Fr (On b) w w1) : Sl P v ls w1 := by
  have h' : Sl (fun g => P g ∧ g ≠ b) v ls w := by
    obtain ⟨a, cap, rfl, h1, h2, h3, h4⟩ := h
    refine ⟨a, cap, rfl, h1, h2, h3, fun i s hi => ?_⟩
    obtain ⟨g, o, e, q, c⟩ := h4 i s hi
    refine ⟨g, o, e, ⟨q, ?_⟩, c⟩
    rintro rfl
    obtain ⟨es, cl, hb, _⟩ := hm
    simp [World.cell?, hb] at c
  exact (h'.fr k fun g q e => q.2 e).mono fun _ _ q => q.1
theorem Sl.off {T : TypeId} {m : Nat} {l : List Value} (h : Sl P v ls w) (hm : Lc T m l w) (hl : ∀ (i : Nat) (s : ByteArray), l[i]? ≠ some (.string s)) (k : Fr (On m) w w1) : Sl P v ls w1 := by
  have h' : Sl (fun g => P g ∧ g ≠ m) v ls w := by
    obtain ⟨a, cap, rfl, h1, h2, h3, h4⟩ := h
    refine ⟨a, cap, rfl, h1, h2, h3, fun i s hi => ?_⟩
    obtain ⟨g, o, e, q, c⟩ := h4 i s hi
    refine ⟨g, o, e, ⟨q, ?_⟩, c⟩
    rintro rfl
    rw [hm.cell] at c
    exact hl _ _ c
  exact (h'.fr k fun g q e => q.2 e).mono fun _ _ q => q.1
theorem Hv.kp {u : Option Value} {r : Option Rv} (h : Hv P w u r) (k : Kp w w1) : Hv P w1 u r := by
  rcases h with h | ⟨v, q, h1, h2, h3⟩
  · exact .inl h
  · exact .inr ⟨v, q, h1, h2, h3.kp k⟩
theorem Hv.mono {u : Option Value} {r : Option Rv} (h : Hv P w u r) (hq : ∀ k, k < w.heap.size → P k → Q k) : Hv Q w u r := by
  rcases h with h | ⟨v, q, h1, h2, h3⟩
  · exact .inl h
  · exact .inr ⟨v, q, h1, h2, h3.mono hq⟩
theorem Hv.onMap {u : Option Value} {r : Option Rv} {m : Int → Option Value} (h : Hv P w u r) (hm : Mp b m w) (k : Fr (On b) w w1) : Hv P w1 u r := by
  rcases h with h | ⟨v, q, h1, h2, h3⟩
  · exact .inl h
  · exact .inr ⟨v, q, h1, h2, h3.onMap hm k⟩
theorem Hv.fr {S : Nat → Prop} {u : Option Value} {r : Option Rv} (h : Hv P w u r) (k : Fr S w w1) (hn : ∀ g, P g → ¬ S g) : Hv P w1 u r := by
  rcases h with h | ⟨v, q, h1, h2, h3⟩
  · exact .inl h
  · exact .inr ⟨v, q, h1, h2, h3.fr k hn⟩
theorem Rs.kp (h : Rs t b f P w) (k : Kp w w1) : Rs t b f P w1 := by
  obtain ⟨m, hm, hv⟩ := h.map
  exact ⟨h.box.kp k, ⟨m, hm.kp k, fun x => (hv x).kp k⟩, h.dom, h.ok⟩
theorem Rs.mono (h : Rs t b f P w) (hq : ∀ k, k < w.heap.size → P k → Q k) : Rs t b f Q w := by
  obtain ⟨m, hm, hv⟩ := h.map
  exact ⟨h.box, ⟨m, hm, fun x => (hv x).mono hq⟩, h.dom, h.ok⟩
theorem Rs.fr {S : Nat → Prop} (h : Rs t b f P w) (k : Fr S w w1) (hn : ∀ g, P g → ¬ S g) (ht : ¬ S t) (hb : ¬ S b) : Rs t b f P w1 := by
  obtain ⟨m, hm, hv⟩ := h.map
  exact ⟨h.box.fr k ht, ⟨m, hm.fr k hb, fun x => (hv x).fr k hn⟩, h.dom, h.ok⟩
/-- Something is laid in a register. -/
theorem Rs.store (h : Rs t b f P w) {m : Int → Option Value} {x : Int} {u : Value} {r : Rv} (hm : Mp b m w) (hv : ∀ y, Hv P w (m y) (f y)) (hm1 : Mp b (upd m x (some u)) w1) (k : Fr (On b) w w1)
    (hu : Hv P w (some u) (some r)) (hd : nmB x = true) (hr : r.ls ≠ [] ∧ szL r.ls ≤ 20000) : Rs t b (setR f x (some r)) P w1 := by
  refine ⟨h.box.fr k (hm.ne h.box), ⟨_, hm1, fun y => ?_⟩, fun y q hy => ?_, fun y q hy => ?_⟩
  · unfold upd setR
    by_cases e : y = x
    · rw [if_pos e, if_pos e]; exact hu.onMap hm k
    · rw [if_neg e, if_neg e]; exact (hv y).onMap hm k
  · unfold setR at hy
    split at hy
    · rename_i e; rw [e]; exact hd
    · exact h.dom y q hy
  · unfold setR at hy
    split at hy
    · cases hy; exact hr
    · exact h.ok y q hy
theorem Rs.drop (h : Rs t b f P w) {m : Int → Option Value} {x : Int} (hm : Mp b m w) (hv : ∀ y, Hv P w (m y) (f y)) (hm1 : Mp b (upd m x none) w1) (k : Fr (On b) w w1) : Rs t b (setR f x none) P w1 := by
  refine ⟨h.box.fr k (hm.ne h.box), ⟨_, hm1, fun y => ?_⟩, fun y q hy => ?_, fun y q hy => ?_⟩
  · unfold upd setR
    by_cases e : y = x
    · rw [if_pos e, if_pos e]; exact .inl ⟨rfl, rfl⟩
    · rw [if_neg e, if_neg e]; exact (hv y).onMap hm k
  · unfold setR at hy
    split at hy
    · cases hy
    · exact h.dom y q hy
  · unfold setR at hy
    split at hy
    · cases hy
    · exact h.ok y q hy
set_option maxHeartbeats 1000000 in
theorem gnew_any (w : World) : Calls Try.prog 11 #[] w fun e w' => ∃ t b, e = .returned (.pointer (some ⟨t, 0, none⟩)) ∧ Rs t b (fun _ => none) P w' ∧ Kp w w' ∧ w.heap.size ≤ t ∧ w.heap.size ≤ b := by
  have hmm := @run_makeMap Try.prog
  go_enter Try.func11, Try.ntmps11
  go_wp2
  go_ret
  refine ⟨_, w.heap.size, rfl, ⟨by simpa [alloc_size] using Lc.new (w.alloc (.map #[] 0)) [.map (some w.heap.size)] 56, ⟨fun _ => none, ⟨#[], 0, ?_, stamped_empty 0, ⟨by simp, by simp⟩⟩, fun _ => .inl ⟨rfl, rfl⟩⟩, by simp, by simp⟩, kp_more (kp_alloc _ _) _, ?_, Nat.le_refl _⟩
  · rw [alloc_old _ _ _ (by rw [alloc_size]; omega)]; exact alloc_new _ _
  · simp
end
end Go.Proofs.Ytbnlenanfhggiaa
