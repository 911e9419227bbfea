/- Texts that the proof of the law stands on: QO, QK, QSame, QSam2, QGp, QWp, QWq, QWo. -/
import Derived.Test.YtfgapmfjfienhaaGreatDoorPartF
import Derived.Great.Walk
import Derived.Laws.StructEq
import Derived.Laws.Tables
import Derived.Test.YtfgapmfjfienhaaGreatDoorPartC
/- Names: the walk. -/
namespace Go.Proofs.YtfgapmfjfienhaaGreatDoor
open Go.ChangeShapes Go.WideShapes Go.ChangeAt Go.RowKit Go.Maps Go.MapKept
set_option linter.unusedVariables false
set_option linter.unusedSimpArgs false
set_option maxRecDepth 100000
def nmR (i : Fin 23) : ByteArray := bA (entR i).name
theorem frG {w w' : World} {o : Option Nat} (hg : w.grownBy w' o) : Fr (fun k => some k = o) w w' := ⟨hg.os, hg.tape, hg.output, hg.size, fun k hk hn => hg.block k hk hn⟩
theorem row_tyg {B g : Nat} {v : Value} {ls : List ByteArray} {w : World} (h : Row B v ls w) (t : TyG g w) : ∀ k, v.ownBlock = some k → k ≠ g := by
  intro k hk
  rcases h.2 with ⟨rfl, _⟩ | ⟨g', cap, cur, rfl, hb, hg, _⟩
  · cases hk
  · simp only [Value.ownBlock, Option.some.injEq] at hk
    subst hk
    intro e
    obtain ⟨cur', fr, ht⟩ := t
    rw [e, ht] at hg
    cases hg
section
variable {w : World}
set_option maxHeartbeats 64000000 in
theorem names_any (hw : Gs w) :
    Calls Tryz.prog 16 #[] w fun e w' => ∃ v, e = .returned v ∧ Row w.heap.size v (gud.map nmR) w' ∧ Kp w w' := by
  obtain ⟨i9, hi9, z0, z1, z2⟩ := info_parts infoCom
  have HC : Hid _ := commands_any hw
  clear hw
  go_enter Tryz.func16, Tryz.ntmps16
  go_wp2_with fail
  refine Calls.mono HC.out ?_
  rintro e w2 ⟨bm, rfl, hm, k2, b2⟩
  have HA : Hid (Kp w w2 ∧ w.heap.size ≤ bm) := ⟨k2, b2⟩
  clear HC k2 b2
  go_wp2_with (first | (at_range; refine wpl_range rfl _ 59 63 rfl Tryz.underlying59 rfl hm ?_; intro w0 n0 hr0 hk0 hs0) | go_in)
  go_frame
  obtain ⟨r, hr⟩ : ∃ r, w2.heap.size = r := ⟨_, rfl⟩
  have G0 : Hid (Gth bm r (fun x => (mapF tabC x).isSome) (fun x => (mapF tabC x).isSome) n0 [] (.slice none 0 0) w w0) := by
    rw [← hr]
    refine ⟨hr0, World.ownsRow_nil _ _ _ _, List.nodup_nil, fun i => ⟨fun h => (by cases h), fun h => ?_⟩, kp_trans HA.out.1 hk0, HA.out.2, HA.out.1.size⟩
    have h2 := h.2
    rw [mapF_at] at h2
    have e : (bA (entR i).name).data.toList = (entR i).name := by simp [bA]
    rw [e, ent_at i] at h2
    cases h2
  rw [hr]
  clear hr0 hk0 hs0 hm hr
  go_loopw [1] (fun v1 wr => ∃ (left : ByteArray → Bool) (c : Nat) (acc : List (Fin 23)), Hid (Gth bm r left left c acc v1 w wr)) (fun _ wr => wr.rangeLeft bm r)
  case atStart => exact ⟨_, n0, [], G0⟩
  case round =>
    obtain ⟨left, c, acc, HG⟩ := hrel
    clear G0
    obtain ⟨va, vc, rfl, v1, v2⟩ := owns_form HG.out.row
    have hrg := HG.out.rg
    have hme : wr.rangeLeft bm r = c := hrg.left_eq
    go_wp2_with (first | (at_next; refine wpl_next rfl _ rfl rfl hrg ?_ ?_) | go_in)
    · intro hl
      have hp : acc.Perm gud := perm_gud HG.out.nd fun i => by rw [HG.out.mem i]; exact ⟨fun h => h.1, fun h => ⟨h, hl _⟩⟩
      have HN : Hid _ := nsort_any HG.out.row hp
      have HKw : Hid (Kp w wr) := HG.out.kp
      have hal : acc.length = 16 := by rw [hp.length_eq, gud_len]
      rw [hal] at HN ⊢
      clear HG hrg hme hl hp hal v1
      go_wp2_with fail
      refine Calls.mono HN.out ?_
      rintro e w3 ⟨rfl, g, rfl, hB, f3, hH, hty⟩
      have HX : Hid (Kp w w3 ∧ Sort.HoldsK enR 4 w3 g 0 gud.toArray ∧ TyG g w3) := ⟨kp_on HKw.out f3 hB, hH, hty⟩
      have HgB : Hid (w.heap.size ≤ g) := hB
      clear HN HKw hB f3 hH hty
      go_wp2_with fail
      go_loopw [4, 31] (fun v4 v31 wx => ∃ j : Nat, j ≤ 16 ∧ v31 = .int .i64 (j : Int) ∧ Hid (Row w.heap.size v4 ((gud.take j).map nmR) wx ∧ Kp w wx ∧ Sort.HoldsK enR 4 wx g 0 gud.toArray ∧ TyG g wx)) (fun _ v31 _ => 16 - (intOf v31).toNat)
      case atStart => exact ⟨0, Nat.zero_le _, rfl, World.ownsRow_nil _ _ _ _, HX.out⟩
      case round =>
        clear HX
        obtain ⟨j, hj, rfl, HI⟩ := hrel
        obtain ⟨na, nc, rfl, n1, n2⟩ := HI.out.1.form
        by_cases hlt : j < 16
        · have g1 : decide ((j : Int) < 16) = true := decide_eq_true (by omega)
          have hjg : j < gud.length := by rw [gud_len]; exact hlt
          obtain ⟨i, hi⟩ : ∃ i, gud[j]? = some i := ⟨gud[j], List.getElem?_eq_getElem hjg⟩
          have hel : gud.toArray[j]! = i := by
            obtain ⟨hl, e⟩ := List.getElem?_eq_some_iff.1 hi
            simp [getElem!_pos, hl, e]
          have HRg : Hid (wr.rangeAt g (j * 4) (enR i)) := fun t u ht => by
            have h4 : t < 4 := (List.getElem?_eq_some_iff.1 ht).1
            have := (HI.out.2.2.1.cell (i := j) (c := t) (by simpa using hjg) h4).1
            rw [hel, Nat.zero_add] at this
            rw [this]
            obtain ⟨hl, e⟩ := List.getElem?_eq_some_iff.1 ht
            rw [getElem!_pos (enR i) t hl, e]
          have htk : (gud.take (j + 1)).map nmR = (gud.take j).map nmR ++ [nmR i] := by
            rw [List.take_add_one, hi]; simp
          have HTk : Hid _ := htk
          have hlen : ((gud.take j).map nmR).length = j := by rw [List.length_map, List.length_take]; omega
          obtain ⟨q, hq⟩ : ∃ q, wr.heap.size = q := ⟨_, rfl⟩
          obtain ⟨W4, hW4⟩ : ∃ z, wr.alloc (.cells #[.string ⟨#[]⟩, .int .i64 0, .bool false, .nilFunc] 63) = z := ⟨_, rfl⟩
          have HQ : Hid (Row w.heap.size (.slice na j nc) ((gud.take j).map nmR) W4 ∧ Kp w W4 ∧ Sort.HoldsK enR 4 W4 g 0 gud.toArray ∧ TyG g W4 ∧ Lc 63 q zeC W4 ∧ w.heap.size ≤ q ∧ g < q ∧ (∀ x, (Value.slice na j nc).ownBlock = some x → x ≠ q)) := by
            have k := kp_alloc wr (.cells #[.string ⟨#[]⟩, .int .i64 0, .bool false, .nilFunc] 63)
            rw [hW4] at k
            have hr := HI.out.1
            rw [hlen] at hr
            refine ⟨row_kp hr k, kp_trans HI.out.2.1 k, holds_fr HI.out.2.2.1 HI.out.2.2.2 (Fr.of_below k) (S := fun _ => False) (fun h => h), HI.out.2.2.2.fr (Fr.of_below k) (S := fun _ => False) (fun h => h), by rw [← hW4, ← hq]; exact Lc.new wr zeC 63, by rw [← hq]; exact HI.out.2.1.size, ?_, fun x hx e => by have := (hr.lt x hx).2; omega⟩
            obtain ⟨cur, fr, ht⟩ := HI.out.2.2.2
            rw [← hq]; exact (Array.getElem?_eq_some_iff.1 ht).1
          rw [hlen] at *
          clear hlen htk hi hel hjg HI n1 n2
          go_upto_region 12 with (first | (refine wpList_store_box HQ.out.2.2.2.2.1 0 (enR i) rfl 63 (.tmp 6) (.tmp 34) rfl rfl rfl (Nat.le_refl 4) sizeCom (enR_one i) rfl ?_; intro w5 q1 q2 q3; have HT : Hid (Row w.heap.size (.slice na j nc) ((gud.take j).map nmR) w5 ∧ Kp w w5 ∧ Sort.HoldsK enR 4 w5 g 0 gud.toArray ∧ TyG g w5 ∧ Lc 63 q (enR i) w5) := ⟨row_fr HQ.out.1 q2 (fun x hx hn => HQ.out.2.2.2.2.2.2.2 x hx hn), kp_on HQ.out.2.1 q2 HQ.out.2.2.2.2.2.1, holds_fr HQ.out.2.2.1 HQ.out.2.2.2.1 q2 (by unfold On; have := HQ.out.2.2.2.2.2.2.1; omega), HQ.out.2.2.2.1.fr q2 (by unfold On; have := HQ.out.2.2.2.2.2.2.1; omega), q1⟩; clear q1 q2 q3) | (refine wpList_load_mid rfl 63 (.tmp 33) rfl g (j * 4) rfl (enR i) _ HRg.out Tryz.underlying63 rfl sizeCom ?_))
          clear HQ HRg hq hW4
          have c0 : w5.cell? ⟨q, 0, none⟩ = some (.string (nmR i)) := HT.out.2.2.2.2.at (j := 0) rfl
          have kA := kp_alloc w5 (.cells #[.string (nmR i)] 9)
          have HR : Hid (Row w.heap.size (.slice na j nc) ((gud.take j).map nmR) (w5.alloc (.cells #[.string (nmR i)] 9))) := row_kp HT.out.1 kA
          have HS : Hid (Sl (fun _ => True) (.slice (some ⟨w5.heap.size, 0, none⟩) 1 1) [nmR i] (w5.alloc (.cells #[.string (nmR i)] 9))) := ⟨_, 1, rfl, Nat.le_refl _, by simp [maxLen], fun e => (by cases e), fun t u ht => ⟨w5.heap.size, 0, rfl, trivial, by
            rw [cell_at (alloc_new w5 _), Nat.zero_add]
            cases t with
            | zero => cases ht; rfl
            | succ t => simp at ht⟩⟩
          have HB : Hid (((gud.take j).map nmR).length + [nmR i].length = j + 1 ∧ w.heap.size ≤ (w5.alloc (.cells #[.string (nmR i)] 9)).heap.size) := ⟨by rw [List.length_map, List.length_take, gud_len]; simp; omega, (kp_trans HT.out.2.1 kA).size⟩
          have HA2 : Hid (∀ w', (w5.alloc (.cells #[.string (nmR i)] 9)).grownBy w' (Value.slice na j nc).ownBlock → Kp w w' ∧ Sort.HoldsK enR 4 w' g 0 gud.toArray ∧ TyG g w') := fun w' hg => by
            have ht := HT.out.2.2.2.1.fr (Fr.of_below kA) (S := fun _ => False) (fun h => h)
            have hh := holds_fr HT.out.2.2.1 HT.out.2.2.2.1 (Fr.of_below kA) (S := fun _ => False) (fun h => h)
            have hn : ¬ some g = (Value.slice na j nc).ownBlock := fun e => row_tyg HR.out ht g e.symm rfl
            exact ⟨(kp_trans HT.out.2.1 kA).trans (below_grown HR.out HB.out.2 hg), holds_fr hh ht (frG hg) hn, ht.fr (frG hg) hn⟩
          have hj1 : j + 1 ≤ 8796093022208 := by omega
          clear HT kA
          go_wp2_with (at_builtin; refine wpl_str (K := j + 1) rfl (.tmp 35) (.tmp 38) rfl rfl HR.out rfl HS.out HB.out.1 hj1 HB.out.2 ?_; intro a' c' w' hk1 hk2 q1 q2; obtain ⟨x1, x2, x3⟩ := HA2.out w' q2; have HF : Hid (Row w.heap.size (.slice a' (j + 1) c') ((gud.take (j + 1)).map nmR) w' ∧ Kp w w' ∧ Sort.HoldsK enR 4 w' g 0 gud.toArray ∧ TyG g w') := ⟨by rw [HTk.out]; exact q1, x1, x2, x3⟩; clear q1 q2 x1 x2 x3 hk1 hk2)
          exact ⟨⟨j + 1, by omega, by go_num, HF.out⟩, by show 16 - (((j : Int) + 1).toNat) < 16 - ((j : Int).toNat); omega⟩
        · obtain rfl : j = 16 := by omega
          have g1 : decide (((16 : Nat) : Int) < 16) = false := by decide
          have HF : Hid (Row w.heap.size (.slice na ((gud.take 16).map nmR).length nc) (gud.map nmR) wr ∧ Kp w wr) := by
            refine ⟨?_, HI.out.2.1⟩
            have := HI.out.1
            rw [List.take_of_length_le (Nat.le_of_eq gud_len)] at this ⊢
            exact this
          clear HI hlt hj n1 n2
          go_wp2_with fail
          go_ret
          exact ⟨_, rfl, HF.out⟩
    · intro y u w3 c2 y0 hly hy hr2 hlt2 hf2 hs2 hen
      rw [mapF_at] at hy
      obtain ⟨en, he1, he2⟩ := Option.map_eq_some_iff.1 hy
      obtain ⟨i, rfl⟩ := tabF_ent he1
      subst he2
      have hen2 : (Instr.entry (.pointer (some ⟨r, 0, none⟩))).run Tryz.prog w3 = .ok (.tuple #[.string y, .agg #[.string (bA (entR i).name), .int .i64 (i.val : Int), .bool (entR i).bold, .func (.func (flN (entR i).fl)) #[] #[]]]) w3 := hen
      have HME : Hid (c2 < c) := hlt2
      obtain ⟨q, hq⟩ : ∃ q, w3.heap.size = q := ⟨_, rfl⟩
      obtain ⟨W4, hW4⟩ : ∃ z, w3.alloc (.cells #[.string ⟨#[]⟩, .int .i64 0, .bool false, .nilFunc] 63) = z := ⟨_, rfl⟩
      have HS : Hid (Gth bm r (fun z => left z && !decide (z = y)) left c2 acc (.slice va acc.length vc) w W4 ∧ Lc 63 q zeC W4 ∧ w.heap.size ≤ q ∧ (∀ j, (Value.slice va acc.length vc).ownBlock = some j → j ≠ q)) := by
        have h3 := HG.out.step hr2 hf2
        rw [← hW4, ← hq]
        exact ⟨h3.keep (kp_alloc _ _), Lc.new w3 zeC 63, h3.kp.size, fun j hj e => by have := (h3.row.lt j hj).2; omega⟩
      have HY : Hid (tabF y.data.toList = some (entR i) ∧ left y = true ∧ y.size ≤ maxLen) := ⟨he1, hly, y0⟩
      clear HG hrg hy he1 hf2 hs2 hly hlt2 hen hr2 y0
      go_upto_region 5 with (refine wpList_store_box HS.out.2.1 0 [.string (bA (entR i).name), .int .i64 (i.val : Int), .bool (entR i).bold, .func (.func (flN (entR i).fl)) #[] #[]] rfl 63 (.tmp 3) (.tmp 13) rfl rfl rfl (Nat.le_refl 4) sizeCom (one4 ⟨rfl, rfl, rfl, rfl⟩) rfl ?_; intro w5 q1 q2 q3; have HT : Hid (Gth bm r (fun z => left z && !decide (z = y)) left c2 acc (.slice va acc.length vc) w w5 ∧ Lc 63 q (enR i) w5) := ⟨HS.out.1.off HS.out.2.1 HS.out.2.2.1 HS.out.2.2.2 q2, q1⟩; clear q1 q2 q3)
      clear HS hq hW4 hen2
      obtain ⟨NM, hNM⟩ : ∃ NM, bA (entR i).name = NM := ⟨_, rfl⟩
      have c0 : w5.cell? ⟨q, 0, none⟩ = some (.string NM) := by rw [← hNM]; exact HT.out.2.at (j := 0) rfl
      have HNM : Hid (bA (entR i).name = NM) := hNM
      by_cases he : y = NM
      · have hpos : 0 < NM.size := by
          rw [← hNM]
          have := ent_ne i
          show 0 < (entR i).name.toArray.size
          rw [List.size_toArray]
          exact List.length_pos_iff.2 this
        have hb0 : ((NM[0]'hpos).toNat : Int) = (((entR i).name.headD 0).toNat : Int) := by
          have h1 := byteAt_eq NM 0 hpos
          have h2 : byteAt NM 0 = ((entR i).name.headD 0).toNat := by
            rw [← hNM]
            cases hn : (entR i).name with
            | nil => exact absurd hn (ent_ne i)
            | cons a r => rfl
          rw [← h1, h2]
        have HK : Hid (∀ z, Calls Tryz.prog 27 #[.int .u8 108, .int .u8 ((NM[0]'hpos).toNat : Int)] z fun e w' => e = .returned (.bool (decide (i.val < 16))) ∧ Kp z w') := fun z => by
          have := kIs_any (k := 108) (c := ((NM[0]'hpos).toNat : Int)) (w := z)
          rw [hb0, ent_let i] at this
          rw [hb0]
          exact this
        have hp1 : (0 < NM.size) = True := by simpa using hpos
        subst he
        clear hb0 hNM
        go_wp2_with fail
        refine Calls.mono (HK.out _) ?_
        rintro e w6 ⟨rfl, k6⟩
        have HU : Hid (Gth bm r (fun z => left z && !decide (z = y)) left c2 acc (.slice va acc.length vc) w w6 ∧ Lc 63 q (enR i) w6) := ⟨HT.out.1.keep k6, HT.out.2.kp k6⟩
        clear HT HK k6 c0
        by_cases hlt : i.val < 16
        · have hd : decide (i.val < 16) = true := decide_eq_true hlt
          rw [hd]
          clear hd
          have HR : Hid ((w6.alloc (.cells (enR i).toArray 63)).ownsRow w.heap.size 63 4 (.slice va acc.length vc) acc.length (rowR acc)) := row_kp HU.out.1.row (kp_alloc _ _)
          have HB : Hid (w.heap.size ≤ (w6.alloc (.cells (enR i).toArray 63)).heap.size) := Nat.le_trans HU.out.1.kp.size (by rw [alloc_size]; omega)
          have HV : Hid _ := HU.out.1.keep (kp_alloc w6 (.cells (enR i).toArray 63))
          have HN6 : Hid (∀ (t : Nat) (u : Value), (enR i)[t]? = some u → (w6.alloc (.cells (enR i).toArray 63)).cell? ((⟨w6.heap.size, 0, none⟩ : Addr).add t) = some u) := by
            intro t u ht
            rw [addr_add, cell_at (alloc_new w6 _)]
            simpa using ht
          have hal : acc.length ≤ 23 := by
            have h1 := HU.out.1.nd.length_le_of_subset (l₂ := List.finRange 23) (fun x _ => List.mem_finRange x)
            simpa using h1
          go_wp2_with (first | (at_builtin; refine wpList_append_own _ rfl (.tmp 23) (.tmp 25) 58 rfl w.heap.size 63 i9 _ 4 40 Tryz.underlying58 hi9 z0 z1 z2 rfl (by decide) (.slice va acc.length vc) acc.length (rowR acc) rfl HR.out ⟨w6.heap.size, 0, none⟩ 1 1 (enR i) rfl rfl HN6.out (enR_one i) (by unfold maxLen; omega) (by omega) HB.out ?_; intro v9 w9 q1 q2 q3; clear q3; have HF : Hid _ := HV.out.more hlt HNM.out.symm HY.out.2.1 q1 q2; obtain ⟨a9, c9, rfl, q4, q5⟩ := owns_form q1; clear q1 q2 q4 q5) | (refine Great.wpList_buildSliceTo rfl 58 63 1 #[(0, .tmp 24)] rfl w6.heap.size rfl (some 25) rfl Tryz.underlying58 (enR i).toArray (by kernel_rfl) ?_) | (refine wpList_load_box HU.out.2 0 (enR i) rfl 63 (.tmp 3) rfl rfl rfl _ Tryz.underlying63 rfl sizeCom ?_))
          exact ⟨⟨_, c2, _, HF.out⟩, by rw [HF.out.rg.left_eq, hme]; exact HME.out⟩
        · have hd : decide (i.val < 16) = false := decide_eq_false hlt
          rw [hd]
          have HF : Hid _ := HU.out.1.no HY.out.1 (fun q => hlt q.2)
          clear hd HU hlt
          go_wp2_with fail
          exact ⟨⟨_, c2, _, HF.out⟩, by rw [HF.out.rg.left_eq, hme]; exact HME.out⟩
      · have hl : y.toList ≠ NM.toList := fun q => he (by
          rw [Lib.toList_data, Lib.toList_data] at q
          exact ByteArray.ext (Array.toList_inj.1 q))
        have g1 : (y.toList == NM.toList) = false := beq_eq_false_iff_ne.2 hl
        have g2 : decide (y.toList = NM.toList) = false := decide_eq_false hl
        have g3 : decide (y = NM) = false := decide_eq_false he
        clear hl
        have HF : Hid _ := HT.out.1.no HY.out.1 (fun q => he (q.1.trans HNM.out))
        clear HT hNM
        go_wp2_with fail
        exact ⟨⟨_, c2, _, HF.out⟩, by rw [HF.out.rg.left_eq, hme]; exact HME.out⟩
end
end Go.Proofs.YtfgapmfjfienhaaGreatDoor
/- The laws' known(). -/
namespace Go.Proofs.YtfgapmfjfienhaaGreatDoor
open Go.ChangeShapes Go.WideShapes Go.ChangeAt Go.RowKit Go.Maps Go.MapKept
set_option linter.unusedVariables false
set_option linter.unusedSimpArgs false
set_option maxRecDepth 100000
def zmC : List Value := cmC { cnt := 0 } (.slice none 0 0) (.slice none 0 0)
section
variable {w w1 : World}
/-- Parse at a text of which it is known what it says. -/
theorem parse_at (s : ByteArray) (hs : s.size ≤ 1000000) {n : Nat} {c : CmP} (h : cmdL s.data.toList = (n, c)) (hw : Gs w) :
    Calls Tryz.prog 12 #[.string s] w fun e w' => ∃ ra rc da dc, e = .returned (.tuple #[.agg (cmC c (.slice ra c.rg.length rc) (.slice da c.dest.length dc)).toArray, .int .u16 (n : Int)]) ∧
      Hid (w'.ownsRow w.heap.size 43 6 (.slice ra c.rg.length rc) c.rg.length (adCs c.rg) ∧ w'.ownsRow w.heap.size 43 6 (.slice da c.dest.length dc) c.dest.length (adCs c.dest) ∧ Kp w w') := by
  refine (cparse_any s hs w hw).mono ?_
  intro e w' q
  unfold CpR at q
  rw [h] at q
  obtain ⟨rv, dv, rfl, h1, h2, h3⟩ := q
  obtain ⟨ra, rc, rfl, _, _⟩ := owns_form h1
  obtain ⟨da, dc, rfl, _, _⟩ := owns_form h2
  exact ⟨ra, rc, da, dc, rfl, h1, h2, h3⟩
theorem kn1 : cmdL [37, 115, 47, 97, 92, 47, 98, 47, 99, 47, 103, 32, 51] = (0, { rg := [{ kd := 1, n := 1 }, { kd := 3 }], name := [115], cnt := 3, pat := [97, 47, 98], rep := [99], flags := [103], arg := [61] }) := by decide +kernel
theorem kn2 : cmdL [100, 120] = (0, { name := [100], reg := 120 }) := by decide +kernel
theorem kn3 : cmdL [122, 122] = (150, { cnt := 0 }) := by decide +kernel
/-- A command that is kept in a box of its own. -/
theorem box_new (w : World) : Lc 27 w.heap.size zmC (w.alloc (.cells #[.slice none 0 0, .string ⟨#[]⟩, .bool false, .int .u8 0, .int .i64 0, .slice none 0 0, .string ⟨#[]⟩, .string ⟨#[]⟩, .string ⟨#[]⟩, .string ⟨#[]⟩] 27)) := Lc.new w zmC 27
set_option maxHeartbeats 32000000 in
theorem known_any (hw : Gs w) : Calls Tryz.prog 11 #[] w fun e w' => e = .returned (.bool true) ∧ Kp w w' := by
  have H1 : Hid (Calls Tryz.prog 12 #[.string ⟨#[37, 115, 47, 97, 92, 47, 98, 47, 99, 47, 103, 32, 51]⟩] w _) := parse_at ⟨#[37, 115, 47, 97, 92, 47, 98, 47, 99, 47, 103, 32, 51]⟩ (by decide) kn1 hw
  have H2 : Hid (∀ z, Gs z → Calls Tryz.prog 12 #[.string ⟨#[100, 120]⟩] z _) := fun z hz => parse_at ⟨#[100, 120]⟩ (by decide) kn2 hz
  have H3 : Hid (∀ z, Gs z → Calls Tryz.prog 12 #[.string ⟨#[122, 122]⟩] z _) := fun z hz => parse_at ⟨#[122, 122]⟩ (by decide) kn3 hz
  have H4 : Hid (∀ z, Gs z → Calls Tryz.prog 16 #[] z fun e w' => ∃ v, e = .returned v ∧ Row z.heap.size v (gud.map nmR) w' ∧ Kp z w') := fun z hz => names_any hz
  have Hg : Hid (∀ z, Kp w z → Gs z) := fun z k => hw.kp k
  clear hw
  go_enter Tryz.func11, Tryz.ntmps11
  go_wp2_with fail
  refine Calls.mono H1.out ?_
  rintro e w1 ⟨ra, rc, da, dc, rfl, HA⟩
  clear H1
  obtain ⟨q1, hq1⟩ : ∃ q, w1.heap.size = q := ⟨_, rfl⟩
  obtain ⟨V1, hV1⟩ : ∃ z, w1.alloc (.cells #[.slice none 0 0, .string ⟨#[]⟩, .bool false, .int .u8 0, .int .i64 0, .slice none 0 0, .string ⟨#[]⟩, .string ⟨#[]⟩, .string ⟨#[]⟩, .string ⟨#[]⟩] 27) = z := ⟨_, rfl⟩
  have HB : Hid (Lc 27 q1 zmC V1 ∧ Kp w V1 ∧ w.heap.size ≤ q1) := by
    rw [← hV1, ← hq1]; exact ⟨box_new w1, kp_trans HA.out.2.2 (kp_alloc _ _), HA.out.2.2.size⟩
  go_wp2_with (refine wpList_store_box HB.out.1 0 (cmC { rg := [{ kd := 1, n := 1 }, { kd := 3 }], name := [115], cnt := 3, pat := [97, 47, 98], rep := [99], flags := [103], arg := [61] } (.slice ra 2 rc) (.slice da 0 dc)) rfl 27 (.tmp 1) (.tmp 9) rfl rfl rfl (Nat.le_refl 10) sizeCmd (cmC_one _ _ _ _ _ _ _) rfl ?_; intro w2 x1 x2 x3; have HC : Hid (Lc 27 q1 (cmC { rg := [{ kd := 1, n := 1 }, { kd := 3 }], name := [115], cnt := 3, pat := [97, 47, 98], rep := [99], flags := [103], arg := [61] } (.slice ra 2 rc) (.slice da 0 dc)) w2 ∧ Kp w w2) := ⟨x1, kp_on HB.out.2.1 x2 HB.out.2.2⟩; clear x1 x2 x3)
  clear HA HB hq1 hV1
  refine Calls.mono (H2.out _ (Hg.out _ HC.out.2)) ?_
  rintro e w3 ⟨rb, rd, db, dd, rfl, HA⟩
  clear H2
  obtain ⟨q2, hq2⟩ : ∃ q, w3.heap.size = q := ⟨_, rfl⟩
  obtain ⟨V2, hV2⟩ : ∃ z, w3.alloc (.cells #[.slice none 0 0, .string ⟨#[]⟩, .bool false, .int .u8 0, .int .i64 0, .slice none 0 0, .string ⟨#[]⟩, .string ⟨#[]⟩, .string ⟨#[]⟩, .string ⟨#[]⟩] 27) = z := ⟨_, rfl⟩
  have HB : Hid (Lc 27 q2 zmC V2 ∧ Kp w V2 ∧ w.heap.size ≤ q2 ∧ Lc 27 q1 (cmC { rg := [{ kd := 1, n := 1 }, { kd := 3 }], name := [115], cnt := 3, pat := [97, 47, 98], rep := [99], flags := [103], arg := [61] } (.slice ra 2 rc) (.slice da 0 dc)) V2 ∧ q1 < q2) := by
    rw [← hV2, ← hq2]; exact ⟨box_new w3, kp_trans (kp_trans HC.out.2 HA.out.2.2) (kp_alloc _ _), Nat.le_trans HC.out.2.size HA.out.2.2.size, (HC.out.1.kp HA.out.2.2).kp (kp_alloc _ _), (HC.out.1.kp HA.out.2.2).lt⟩
  go_wp2_with (refine wpList_store_box HB.out.1 0 (cmC { name := [100], reg := 120 } (.slice rb 0 rd) (.slice db 0 dd)) rfl 27 (.tmp 3) (.tmp 13) rfl rfl rfl (Nat.le_refl 10) sizeCmd (cmC_one _ _ _ _ _ _ _) rfl ?_; intro w4 x1 x2 x3; have HD : Hid (Lc 27 q2 (cmC { name := [100], reg := 120 } (.slice rb 0 rd) (.slice db 0 dd)) w4 ∧ Kp w w4 ∧ Lc 27 q1 (cmC { rg := [{ kd := 1, n := 1 }, { kd := 3 }], name := [115], cnt := 3, pat := [97, 47, 98], rep := [99], flags := [103], arg := [61] } (.slice ra 2 rc) (.slice da 0 dc)) w4) := ⟨x1, kp_on HB.out.2.1 x2 HB.out.2.2.1, HB.out.2.2.2.1.fr x2 (by unfold On; have := HB.out.2.2.2.2; omega)⟩; clear x1 x2 x3)
  clear HA HB hq2 hV2 HC
  refine Calls.mono (H3.out _ (Hg.out _ HD.out.2.1)) ?_
  rintro e w5 ⟨rx, ry, dx, dy, rfl, HA⟩
  clear H3
  obtain ⟨q3, hq3⟩ : ∃ q, w5.heap.size = q := ⟨_, rfl⟩
  obtain ⟨V3, hV3⟩ : ∃ z, w5.alloc (.cells #[.slice none 0 0, .string ⟨#[]⟩, .bool false, .int .u8 0, .int .i64 0, .slice none 0 0, .string ⟨#[]⟩, .string ⟨#[]⟩, .string ⟨#[]⟩, .string ⟨#[]⟩] 27) = z := ⟨_, rfl⟩
  have HB : Hid (Lc 27 q3 zmC V3 ∧ Kp w V3 ∧ w.heap.size ≤ q3 ∧ Lc 27 q1 (cmC { rg := [{ kd := 1, n := 1 }, { kd := 3 }], name := [115], cnt := 3, pat := [97, 47, 98], rep := [99], flags := [103], arg := [61] } (.slice ra 2 rc) (.slice da 0 dc)) V3 ∧ Lc 27 q2 (cmC { name := [100], reg := 120 } (.slice rb 0 rd) (.slice db 0 dd)) V3 ∧ q1 < q3 ∧ q2 < q3) := by
    rw [← hV3, ← hq3]; exact ⟨box_new w5, kp_trans (kp_trans HD.out.2.1 HA.out.2.2) (kp_alloc _ _), Nat.le_trans HD.out.2.1.size HA.out.2.2.size, (HD.out.2.2.kp HA.out.2.2).kp (kp_alloc _ _), (HD.out.1.kp HA.out.2.2).kp (kp_alloc _ _), (HD.out.2.2.kp HA.out.2.2).lt, (HD.out.1.kp HA.out.2.2).lt⟩
  go_upto_region 4 with (refine wpList_store_box HB.out.1 0 (cmC { cnt := 0 } (.slice rx 0 ry) (.slice dx 0 dy)) rfl 27 (.tmp 5) (.tmp 17) rfl rfl rfl (Nat.le_refl 10) sizeCmd (cmC_one _ _ _ _ _ _ _) rfl ?_; intro w6 x1 x2 x3; have HE : Hid (Kp w w6 ∧ Lc 27 q1 (cmC { rg := [{ kd := 1, n := 1 }, { kd := 3 }], name := [115], cnt := 3, pat := [97, 47, 98], rep := [99], flags := [103], arg := [61] } (.slice ra 2 rc) (.slice da 0 dc)) w6 ∧ Lc 27 q2 (cmC { name := [100], reg := 120 } (.slice rb 0 rd) (.slice db 0 dd)) w6) := ⟨kp_on HB.out.2.1 x2 HB.out.2.2.1, HB.out.2.2.2.1.fr x2 (by unfold On; have := HB.out.2.2.2.2.2.1; omega), HB.out.2.2.2.2.1.fr x2 (by unfold On; have := HB.out.2.2.2.2.2.2; omega)⟩; clear x1 x2 x3)
  clear HA HB hq3 hV3 HD
  have c6 : w6.cell? ⟨q1, 6, none⟩ = some (.string ⟨#[97, 47, 98]⟩) := HE.out.2.1.at (j := 6) rfl
  have c7 : w6.cell? ⟨q1, 7, none⟩ = some (.string ⟨#[99]⟩) := HE.out.2.1.at (j := 7) rfl
  have c8 : w6.cell? ⟨q1, 8, none⟩ = some (.string ⟨#[103]⟩) := HE.out.2.1.at (j := 8) rfl
  have c4 : w6.cell? ⟨q1, 4, none⟩ = some (.int .i64 3) := HE.out.2.1.at (j := 4) rfl
  have d3 : w6.cell? ⟨q2, 3, none⟩ = some (.int .u8 120) := HE.out.2.2.at (j := 3) rfl
  have HK : Hid (Kp w w6) := HE.out.1
  clear HE
  go_wp2_with fail
  refine Calls.mono (H4.out _ (Hg.out _ HK.out)) ?_
  rintro e w7 ⟨v, rfl, hv, k7⟩
  obtain ⟨va, vc, rfl, _, _⟩ := hv.form
  have hlen : (gud.map nmR).length = 16 := by rw [List.length_map, gud_len]
  rw [hlen]
  have HX : Hid (Kp w w7) := kp_trans HK.out k7
  clear hv k7 hlen H4 HK Hg
  go_wp2_with fail
  go_ret
  exact ⟨rfl, HX.out⟩
end
end Go.Proofs.YtfgapmfjfienhaaGreatDoor
/- The document's Same: of commands that say the same. -/
namespace Go.Proofs.YtfgapmfjfienhaaGreatDoor
open Go.ChangeShapes Go.WideShapes Go.ChangeAt Go.RowKit Go.Maps Go.MapKept
set_option linter.unusedVariables false
set_option linter.unusedSimpArgs false
set_option maxRecDepth 100000
section
variable {w : World}
theorem eqAd (k n c o : Int) (p : ByteArray) (b : Bool) (w : World) : Sem.run Tryz.prog (Op.equal 43 (.agg #[.int .u8 k, .int .i64 n, .int .u8 c, .string p, .int .i64 o, .bool b]) (.agg #[.int .u8 k, .int .i64 n, .int .u8 c, .string p, .int .i64 o, .bool b])) w = .ok true w := by
  have u3 := Tryz.underlying3
  have a3 := Tryz.isAgg3
  have z3 := Tryz.sizeOf3
  have u5 := Tryz.underlying5
  have a5 := Tryz.isAgg5
  have z5 := Tryz.sizeOf5
  have u9 := Tryz.underlying9
  have a9 := Tryz.isAgg9
  have z9 := Tryz.sizeOf9
  have u4 := Tryz.underlying4
  have a4 := Tryz.isAgg4
  have z4 := Tryz.sizeOf4
  have hS : Tryz.prog.underlying 43 = some (.struct (Tryz.prog.fieldsOf 43)) := by kernel_rfl
  have hp : Tryz.prog.stoodInHeld 43 = false := by kernel_rfl
  show Sem.run Tryz.prog (Op.equalIn (9999 + 1) 43 _ _) w = _
  rw [run_equalIn_agg w 9999 43 _ _ hS hp]
  simp only [Program.fieldsOf, Tryz.underlying43]
  go_simp
theorem neqAd (k n c o : Int) (p : ByteArray) (b : Bool) (w : World) : Sem.run Tryz.prog (binOp BinOp.neq 43 (.agg #[.int .u8 k, .int .i64 n, .int .u8 c, .string p, .int .i64 o, .bool b]) (.agg #[.int .u8 k, .int .i64 n, .int .u8 c, .string p, .int .i64 o, .bool b])) w = .ok (.bool false) w := by
  simp [binOp, eqAd]
theorem ads_at : ∀ {l : List AdP} {i : Nat} {a : AdP}, l[i]? = some a → ∀ j, j < 6 → (adCs l)[i * 6 + j]? = (adC a)[j]?
  | [], i, a, h, j, hj => by simp at h
  | x :: r, 0, a, h, j, hj => by
    obtain rfl : x = a := by simpa using h
    unfold adCs
    rw [List.flatMap_cons, List.getElem?_append_left (by rw [adC_len]; omega)]
    simp
  | x :: r, i + 1, a, h, j, hj => by
    have := ads_at (l := r) (i := i) (a := a) (by simpa using h) j hj
    unfold adCs at this ⊢
    rw [List.flatMap_cons, List.getElem?_append_right (by rw [adC_len]; omega), adC_len, ← this]
    congr 1; omega
/-- The six cells of an address within a row of its own. -/
structure Six (g i : Nat) (k n c o : Int) (p : ByteArray) (b : Bool) (w : World) : Prop where
  k0 : w.cell? ⟨g, i * 6, none⟩ = some (.int .u8 k)
  k1 : w.cell? ⟨g, i * 6 + 1, none⟩ = some (.int .i64 n)
  k2 : w.cell? ⟨g, i * 6 + 2, none⟩ = some (.int .u8 c)
  k3 : w.cell? ⟨g, i * 6 + 3, none⟩ = some (.string p)
  k4 : w.cell? ⟨g, i * 6 + 4, none⟩ = some (.int .i64 o)
  k5 : w.cell? ⟨g, i * 6 + 5, none⟩ = some (.bool b)
theorem six_of {B g c i : Nat} {l : List AdP} {a : AdP} (h : w.ownsRow B 43 6 (.slice (some ⟨g, 0, none⟩) l.length c) l.length (adCs l)) (hi : l[i]? = some a) : Six g i (a.kd : Int) (a.n : Int) (a.c : Int) a.off ⟨a.pt.toArray⟩ a.semi w := by
  have hl := (List.getElem?_eq_some_iff.1 hi).1
  have q : ∀ j, j < 6 → w.cell? ⟨g, i * 6 + j, none⟩ = (adC a)[j]? := fun j hj => (World.ownsRow.cellAt (size := 6) (n := l.length) h (i * 6 + j) (by omega)).trans (ads_at hi j hj)
  exact ⟨q 0 (by omega), q 1 (by omega), q 2 (by omega), q 3 (by omega), q 4 (by omega), q 5 (by omega)⟩
set_option maxHeartbeats 16000000 in
theorem adsame_core {n c1 c2 : Nat} {a1 a2 : Option Addr} {w : World} (p2 : n ≤ maxLen) (hA : ∀ i < n, ∃ g1 g2 k m c o p b, a1 = some ⟨g1, 0, none⟩ ∧ a2 = some ⟨g2, 0, none⟩ ∧ Six g1 i k m c o p b w ∧ Six g2 i k m c o p b w) :
    Calls Tryz.prog 19 #[.slice a1 n c1, .slice a2 n c2] w fun e w' => e = .returned (.bool true) ∧ ∃ q, w' = w.drewN q := by
  have HA : Hid (∀ i < n, ∃ g1 g2 k m c o p b, a1 = some ⟨g1, 0, none⟩ ∧ a2 = some ⟨g2, 0, none⟩ ∧ Six g1 i k m c o p b w ∧ Six g2 i k m c o p b w) := hA
  have hd0 : ((n : Int) != (n : Int)) = false := by simp
  have he := neqAd
  unfold maxLen at p2
  have hn9 : n ≤ 9223372036854775807 := by omega
  clear hA p2
  go_enter Tryz.func19, Tryz.ntmps19
  go_wp2_with fail
  go_loopw [5] (fun vi wr => ∃ i : Nat, i ≤ n ∧ vi = .int .i64 i ∧ ∃ q, wr = w.drewN q) (fun vi _ => n - (intOf vi).toNat)
  case atStart => exact ⟨0, Nat.zero_le _, by go_num, 0, rfl⟩
  case round =>
    obtain ⟨i, hi, rfl, q0, rfl⟩ := hrel
    by_cases hlt : i < n
    · have hdl : decide ((i : Int) < (n : Int)) = true := decide_eq_true (by omega)
      have hdm : decide (i < n) = true := decide_eq_true (by omega)
      have hli : (i : Int) < (n : Int) := by omega
      obtain ⟨g1, g2, k, m, c, o, p, b, rfl, rfl, S1, S2⟩ := HA.out i hlt
      have x0 := S1.k0; have x1 := S1.k1; have x2 := S1.k2; have x3 := S1.k3; have x4 := S1.k4; have x5 := S1.k5
      have y0 := S2.k0; have y1 := S2.k1; have y2 := S2.k2; have y3 := S2.k3; have y4 := S2.k4; have y5 := S2.k5
      clear S1 S2
      go_wp2_with fail
      go_quiet (fail)
      go_wp2_with fail
      go_roundw
      case rel => exact ⟨i + 1, by omega, by go_num, _, rfl⟩
      case measure => simp only [intOf]; omega
    · obtain rfl : i = n := by omega
      have hdl : decide ((i : Int) < (i : Int)) = false := by simp
      go_wp2_with fail
      go_ret
      exact ⟨rfl, _, rfl⟩
theorem adsame0 (a1 a2 : Option Addr) (c1 c2 : Nat) (w : World) : Calls Tryz.prog 19 #[.slice a1 0 c1, .slice a2 0 c2] w fun e w' => e = .returned (.bool true) ∧ ∃ q, w' = w.drewN q :=
  adsame_core (Nat.zero_le _) (fun i hi => absurd hi (Nat.not_lt_zero _))
theorem adsame_any {B C : Nat} {v1 v2 : Value} {l : List AdP} {w : World} (h1 : w.ownsRow B 43 6 v1 l.length (adCs l)) (h2 : w.ownsRow C 43 6 v2 l.length (adCs l)) :
    Calls Tryz.prog 19 #[v1, v2] w fun e w' => e = .returned (.bool true) ∧ ∃ q, w' = w.drewN q := by
  obtain ⟨a1, c1, rfl, p1, p2⟩ := owns_form h1
  obtain ⟨a2, c2, rfl, _, _⟩ := owns_form h2
  obtain ⟨n, hn⟩ : ∃ n, l.length = n := ⟨_, rfl⟩
  have HA : (∀ i < n, ∃ g1 g2 k m c o p b, a1 = some ⟨g1, 0, none⟩ ∧ a2 = some ⟨g2, 0, none⟩ ∧ Six g1 i k m c o p b w ∧ Six g2 i k m c o p b w) := by
    intro i hi
    obtain ⟨g1, rfl⟩ : ∃ g, a1 = some ⟨g, 0, none⟩ := by
      rcases h1.2 with ⟨_, e0⟩ | ⟨g, _, _, e, _⟩
      · omega
      · cases e; exact ⟨g, rfl⟩
    obtain ⟨g2, rfl⟩ : ∃ g, a2 = some ⟨g, 0, none⟩ := by
      rcases h2.2 with ⟨_, e0⟩ | ⟨g, _, _, e, _⟩
      · omega
      · cases e; exact ⟨g, rfl⟩
    have hs : l[i]? = some l[i] := List.getElem?_eq_getElem (by omega)
    exact ⟨g1, g2, _, _, _, _, _, _, rfl, rfl, six_of h1 hs, six_of h2 hs⟩
  rw [hn] at p1 ⊢
  exact adsame_core (by omega) HA
end
end Go.Proofs.YtfgapmfjfienhaaGreatDoor
/- The document's Same: of commands that say the same: commands. -/
namespace Go.Proofs.YtfgapmfjfienhaaGreatDoor
open Go.ChangeShapes Go.WideShapes Go.ChangeAt Go.RowKit Go.Maps Go.MapKept
set_option linter.unusedVariables false
set_option linter.unusedSimpArgs false
set_option maxRecDepth 100000
section
variable {w : World}
set_option maxHeartbeats 16000000 in
theorem same_core {r1 d1 r2 d2 : Value} (c : CmP) (hr : ∀ z, Kp w z → Calls Tryz.prog 19 #[r1, r2] z fun e w' => e = .returned (.bool true) ∧ ∃ q, w' = z.drewN q) (hd : ∀ z, Kp w z → Calls Tryz.prog 19 #[d1, d2] z fun e w' => e = .returned (.bool true) ∧ ∃ q, w' = z.drewN q) :
    Calls Tryz.prog 14 #[.agg (cmC c r1 d1).toArray, .agg (cmC c r2 d2).toArray] w fun e w' => e = .returned (.bool true) ∧ Kp w w' := by
  have HR : Hid (∀ z, Kp w z → Calls Tryz.prog 19 #[r1, r2] z fun e w' => e = .returned (.bool true) ∧ ∃ q, w' = z.drewN q) := hr
  have HD : Hid (∀ z, Kp w z → Calls Tryz.prog 19 #[d1, d2] z fun e w' => e = .returned (.bool true) ∧ ∃ q, w' = z.drewN q) := hd
  clear hr hd
  obtain ⟨p, hp⟩ : ∃ p, w.heap.size = p := ⟨_, rfl⟩
  obtain ⟨W1, hW1⟩ : ∃ z, w.alloc (.cells (cmC c r1 d1).toArray 27) = z := ⟨_, rfl⟩
  obtain ⟨b, hb⟩ : ∃ b, W1.heap.size = b := ⟨_, rfl⟩
  obtain ⟨W2, hW2⟩ : ∃ z, W1.alloc (.cells (cmC c r2 d2).toArray 27) = z := ⟨_, rfl⟩
  have k1 : Kp w W1 := by rw [← hW1]; exact kp_alloc _ _
  have k2 : Kp W1 W2 := by rw [← hW2]; exact kp_alloc _ _
  have L1 : Lc 27 p (cmC c r1 d1) W2 := by
    have : Lc 27 p (cmC c r1 d1) W1 := by rw [← hW1, ← hp]; exact Lc.new w (cmC c r1 d1) 27
    exact this.kp k2
  have L2 : Lc 27 b (cmC c r2 d2) W2 := by rw [← hW2, ← hb]; exact Lc.new W1 (cmC c r2 d2) 27
  have HK : Hid (Kp w W2) := kp_trans k1 k2
  obtain ⟨nm, hnm⟩ : ∃ x, bA c.name = x := ⟨_, rfl⟩
  obtain ⟨pt, hpt⟩ : ∃ x, bA c.pat = x := ⟨_, rfl⟩
  obtain ⟨rp, hrp⟩ : ∃ x, bA c.rep = x := ⟨_, rfl⟩
  obtain ⟨fl, hfl⟩ : ∃ x, bA c.flags = x := ⟨_, rfl⟩
  obtain ⟨ag, hag⟩ : ∃ x, bA c.arg = x := ⟨_, rfl⟩
  have x0 : W2.cell? ⟨p, 0, none⟩ = some r1 := L1.at (j := 0) rfl
  have x1 : W2.cell? ⟨p, 1, none⟩ = some (.string nm) := by rw [← hnm]; exact L1.at (j := 1) rfl
  have x2 : W2.cell? ⟨p, 2, none⟩ = some (.bool c.bang) := L1.at (j := 2) rfl
  have x3 : W2.cell? ⟨p, 3, none⟩ = some (.int .u8 (c.reg : Int)) := L1.at (j := 3) rfl
  have x4 : W2.cell? ⟨p, 4, none⟩ = some (.int .i64 c.cnt) := L1.at (j := 4) rfl
  have x5 : W2.cell? ⟨p, 5, none⟩ = some d1 := L1.at (j := 5) rfl
  have x6 : W2.cell? ⟨p, 6, none⟩ = some (.string pt) := by rw [← hpt]; exact L1.at (j := 6) rfl
  have x7 : W2.cell? ⟨p, 7, none⟩ = some (.string rp) := by rw [← hrp]; exact L1.at (j := 7) rfl
  have x8 : W2.cell? ⟨p, 8, none⟩ = some (.string fl) := by rw [← hfl]; exact L1.at (j := 8) rfl
  have x9 : W2.cell? ⟨p, 9, none⟩ = some (.string ag) := by rw [← hag]; exact L1.at (j := 9) rfl
  have y0 : W2.cell? ⟨b, 0, none⟩ = some r2 := L2.at (j := 0) rfl
  have y1 : W2.cell? ⟨b, 1, none⟩ = some (.string nm) := by rw [← hnm]; exact L2.at (j := 1) rfl
  have y2 : W2.cell? ⟨b, 2, none⟩ = some (.bool c.bang) := L2.at (j := 2) rfl
  have y3 : W2.cell? ⟨b, 3, none⟩ = some (.int .u8 (c.reg : Int)) := L2.at (j := 3) rfl
  have y4 : W2.cell? ⟨b, 4, none⟩ = some (.int .i64 c.cnt) := L2.at (j := 4) rfl
  have y5 : W2.cell? ⟨b, 5, none⟩ = some d2 := L2.at (j := 5) rfl
  have y6 : W2.cell? ⟨b, 6, none⟩ = some (.string pt) := by rw [← hpt]; exact L2.at (j := 6) rfl
  have y7 : W2.cell? ⟨b, 7, none⟩ = some (.string rp) := by rw [← hrp]; exact L2.at (j := 7) rfl
  have y8 : W2.cell? ⟨b, 8, none⟩ = some (.string fl) := by rw [← hfl]; exact L2.at (j := 8) rfl
  have y9 : W2.cell? ⟨b, 9, none⟩ = some (.string ag) := by rw [← hag]; exact L2.at (j := 9) rfl
  clear L1 L2 k1 k2 hnm hpt hrp hfl hag
  go_enter Tryz.func14, Tryz.ntmps14
  go_wp2_with fail
  refine Calls.mono (HR.out _ HK.out) ?_
  rintro e w1 ⟨rfl, q1, rfl⟩
  clear HR
  have HK1 : Hid (Kp w (W2.drewN q1)) := kp_trans HK.out (kp_drewN _ _)
  have HW : Hid (Kp w W2) := HK.out
  clear HK
  go_wp2_with fail
  refine Calls.mono (HD.out _ HK1.out) ?_
  rintro e w1 ⟨rfl, q2, rfl⟩
  clear HK1 HD
  go_wp2_with fail
  go_ret
  exact ⟨rfl, kp_trans HW.out (kp_drewN _ _)⟩
theorem same_any {B1 B2 B3 B4 : Nat} {r1 d1 r2 d2 : Value} (c : CmP) (h1 : w.ownsRow B1 43 6 r1 c.rg.length (adCs c.rg)) (h2 : w.ownsRow B2 43 6 d1 c.dest.length (adCs c.dest))
    (h3 : w.ownsRow B3 43 6 r2 c.rg.length (adCs c.rg)) (h4 : w.ownsRow B4 43 6 d2 c.dest.length (adCs c.dest)) :
    Calls Tryz.prog 14 #[.agg (cmC c r1 d1).toArray, .agg (cmC c r2 d2).toArray] w fun e w' => e = .returned (.bool true) ∧ Kp w w' :=
  same_core c (fun z k => adsame_any (row_kp h1 k) (row_kp h3 k)) (fun z k => adsame_any (row_kp h2 k) (row_kp h4 k))
theorem same0 (c : CmP) (a1 a2 a3 a4 : Option Addr) (c1 c2 c3 c4 : Nat) : Calls Tryz.prog 14 #[.agg (cmC c (.slice a1 0 c1) (.slice a2 0 c2)).toArray, .agg (cmC c (.slice a3 0 c3) (.slice a4 0 c4)).toArray] w fun e w' => e = .returned (.bool true) ∧ Kp w w' :=
  same_core c (fun z k => adsame0 _ _ _ _ z) (fun z k => adsame0 _ _ _ _ z)
end
end Go.Proofs.YtfgapmfjfienhaaGreatDoor
/- CmdGlobal: what is read, plainly. -/
namespace Go.Proofs.YtfgapmfjfienhaaGreatDoor
open Go.ChangeShapes Go.WideShapes Go.ChangeAt Go.RowKit Go.Maps Go.MapKept
set_option linter.unusedVariables false
set_option linter.unusedSimpArgs false
set_option maxRecDepth 100000
/-- No address begins with this byte. -/
def noAd (a : UInt8) : Bool := !dgB a && (!ahB a && (!bkB a && !([37, 43, 45, 46, 36, 39, 47, 63, 44, 59] : List UInt8).contains a))
theorem par_none {a : UInt8} (t : List UInt8) (h : noAd a = true) : parL (a :: t) = some ([], a :: t) := by
  unfold noAd at h
  simp only [Bool.and_eq_true, Bool.not_eq_true', List.contains_cons, List.contains_nil, Bool.or_false, Bool.or_eq_false_iff, beq_eq_false_iff_ne, ne_eq] at h
  obtain ⟨hd, ha, hb, h1, h2, h3, h4, h5, h6, h7, h8, h9, h10⟩ := h
  have en : numL (a :: t) = some (none, a :: t) := by
    unfold numL
    simp [List.takeWhile_cons, hd]
  have ep : plainL (a :: t) = some ({}, a :: t) := by
    unfold plainL
    rw [en]
    simp [h4, h5, h6, h7, h8]
  have eo : offL ((a :: t).length + 1) (a :: t) 0 = some (0, a :: t) := by
    show offL ((a :: t).length + 1) (a :: t) 0 = _
    unfold offL
    simp [h2, h3]
  have ea : addrL (a :: t) = some ({}, a :: t) := by
    unfold addrL
    rw [ep]
    simp only
    rw [eo]
    simp
  have eb : (a :: t).dropWhile bkB = a :: t := by rw [List.dropWhile_cons, hb]; rfl
  have es : signL (a :: t) = (none, a :: t) := by unfold signL; simp [h9, h10]
  unfold parL
  rw [List.dropWhile_cons, ha]
  simp only [Bool.false_eq_true, if_false, if_neg h1]
  unfold adsL
  rw [ea]
  simp only [eb, es]
  simp
theorem tab_none {a c : UInt8} (h : (tabC.all fun p => p.1.take 2 != [a, c]) = true) (y : List UInt8) : tabF (a :: c :: y) = none := by
  unfold tabF
  have : tabC.find? (fun p => p.1 == a :: c :: y) = none := by
    rw [List.find?_eq_none]
    intro p hp hq
    have := List.all_eq_true.1 h p hp
    rw [eq_of_beq hq] at this
    simp at this
  rw [this]; rfl
theorem word_one {a c : UInt8} {e : Ent} (h1 : tabF [a] = some e) (h : (tabC.all fun p => p.1.take 2 != [a, c]) = true) (r : List UInt8) : ∀ n, wordG (n + 1) (a :: c :: r) = some (e, c :: r)
  | 0 => by unfold wordG; simp [h1]
  | n + 1 => by
    unfold wordG
    have e1 : (a :: c :: r).take (n + 1 + 1) = a :: c :: r.take n := by simp
    rw [e1, tab_none h]
    exact word_one h1 h r n
theorem wordL_one {a c : UInt8} {e : Ent} (h1 : tabF [a] = some e) (h : (tabC.all fun p => p.1.take 2 != [a, c]) = true) (r : List UInt8) : wordL (a :: c :: r) = some (e, c :: r) := by
  unfold wordL
  obtain ⟨n, hn⟩ : ∃ n, min (a :: c :: r).length 10 = n + 1 := ⟨min (r.length + 1) 9, by simp only [List.length_cons]; omega⟩
  rw [hn]
  exact word_one h1 h r n
theorem one_yes {p : Nat → Bool} {a : UInt8} (h : p a.toNat = true) (r : List UInt8) : oneL p (a :: r) = (some a, r) := by unfold oneL; simp [h]
theorem one_no {p : Nat → Bool} {a : UInt8} (h : p a.toNat = false) (r : List UInt8) : oneL p (a :: r) = (none, a :: r) := by unfold oneL; simp [h]
theorem up_x (s : List UInt8) : upL 47 (120 :: 47 :: s) = ([120], s) := by
  cases s <;> simp [upL]
def glC (n : UInt8) (b : Bool) (s : List UInt8) : CmP := { name := [n], bang := b, pat := [120], arg := if s = [] then [112] else s }
theorem vis_x (c : CmP) (s : List UInt8) : visitsC c (47 :: 120 :: 47 :: s) = (0, { c with pat := [120], arg := if s = [] then [112] else s }, []) := by
  have e1 : blkL (47 :: 120 :: 47 :: s) = 47 :: 120 :: 47 :: s := by
    unfold blkL
    rw [List.dropWhile_cons, show bkB 47 = false by decide +kernel]; rfl
  have e2 : oneL sgnF (47 :: 120 :: 47 :: s) = (some 47, 120 :: 47 :: s) := one_yes (by decide +kernel) _
  unfold visitsC
  simp only [e1, e2, up_x]
theorem tg : tabF [103] = some { name := [103], place := 8, bold := true, fl := .visits } := by decide +kernel
theorem tv : tabF [118] = some { name := [118], place := 9, bold := false, fl := .visits } := by decide +kernel
theorem read_g (s : List UInt8) : readC (103 :: 47 :: 120 :: 47 :: s) = (0, glC 103 false s) := by
  have e1 := par_none (a := 103) (47 :: 120 :: 47 :: s) (by decide +kernel)
  have e2 := wordL_one (a := 103) (c := 47) tg (by decide +kernel) (120 :: 47 :: s)
  have e3 : oneL bldF (47 :: 120 :: 47 :: s) = (none, 47 :: 120 :: 47 :: s) := one_no (by decide +kernel) _
  unfold readC
  rw [e1]
  simp only [e2, e3, followC, vis_x, if_true]
  rfl
theorem read_v (s : List UInt8) : readC (118 :: 47 :: 120 :: 47 :: s) = (0, glC 118 false s) := by
  have e1 := par_none (a := 118) (47 :: 120 :: 47 :: s) (by decide +kernel)
  have e2 := wordL_one (a := 118) (c := 47) tv (by decide +kernel) (120 :: 47 :: s)
  unfold readC
  rw [e1]
  simp only [e2, followC, vis_x, if_true, Bool.false_eq_true, if_false]
  rfl
theorem read_gb (s : List UInt8) : readC (103 :: 33 :: 47 :: 120 :: 47 :: s) = (0, glC 103 true s) := by
  have e1 := par_none (a := 103) (33 :: 47 :: 120 :: 47 :: s) (by decide +kernel)
  have e2 := wordL_one (a := 103) (c := 33) tg (by decide +kernel) (47 :: 120 :: 47 :: s)
  have e3 : oneL bldF (33 :: 47 :: 120 :: 47 :: s) = (some 33, 47 :: 120 :: 47 :: s) := one_yes (by decide +kernel) _
  unfold readC
  rw [e1]
  simp only [e2, e3, followC, vis_x, if_true]
  rfl
theorem cmd_of_read {l : List UInt8} {c : CmP} (hl : l.length ≤ 1000) (h : readC l = (0, c)) : cmdL l = (0, c) := by
  unfold cmdL
  rw [if_neg (by omega)]
  simp only [h, if_true]
/-- The name that the law makes, and its sign. -/
def nmG (v b : Bool) : List UInt8 := if v then [118] else if b then [103, 33] else [103]
theorem cmd_glob (v b : Bool) {s : List UInt8} (hs : s.length ≤ 500) : cmdL (nmG v b ++ ([47, 120, 47] ++ s)) = (0, glC (if v then 118 else 103) (b && !v) s) := by
  cases v <;> cases b
  · exact cmd_of_read (by simp [nmG]; omega) (read_g s)
  · exact cmd_of_read (by simp [nmG]; omega) (read_gb s)
  · exact cmd_of_read (by simp [nmG]; omega) (read_v s)
  · exact cmd_of_read (by simp [nmG]; omega) (read_v s)
end Go.Proofs.YtfgapmfjfienhaaGreatDoor
/- CmdWords: what is read, plainly. -/
namespace Go.Proofs.YtfgapmfjfienhaaGreatDoor
open Go.ChangeShapes Go.WideShapes Go.ChangeAt Go.RowKit Go.Maps Go.MapKept
set_option linter.unusedVariables false
set_option linter.unusedSimpArgs false
set_option maxRecDepth 100000
def lowB (c : UInt8) : Bool := decide (97 ≤ c.toNat ∧ c.toNat ≤ 122)
/-- No word goes on behind this one but by a letter. -/
def onlyB (x : List UInt8) : Bool := tabC.all fun p => p.1.take x.length != x || (match p.1.drop x.length with | [] => true | d :: _ => lowB d)
theorem tab_more {x : List UInt8} (hc : onlyB x = true) {c : UInt8} (hl : lowB c = false) (y : List UInt8) : tabF (x ++ c :: y) = none := by
  unfold tabF
  have : tabC.find? (fun p => p.1 == x ++ c :: y) = none := by
    rw [List.find?_eq_none]
    intro p hp hq
    have := List.all_eq_true.1 hc p hp
    rw [eq_of_beq hq] at this
    simp [hl] at this
  rw [this]; rfl
theorem wordG_more {x more : List UInt8} {e : Ent} (h1 : tabF x = some e) (hc : onlyB x = true) (hm : ∀ c r, more = c :: r → lowB c = false) (h0 : 0 < x.length) : ∀ n, x.length ≤ n → wordG n (x ++ more) = some (e, more)
  | 0, h => by omega
  | n + 1, h => by
    unfold wordG
    by_cases q : n + 1 = x.length
    · rw [q, List.take_left, h1, List.drop_left]
    · cases more with
      | nil =>
        rw [List.append_nil, List.take_of_length_le (by omega), h1, List.drop_eq_nil_of_le (by omega)]
      | cons c r =>
        obtain ⟨m, hm1⟩ : ∃ m, n + 1 = x.length + (m + 1) := ⟨n - x.length, by omega⟩
        have e1 : (x ++ c :: r).take (n + 1) = x ++ c :: r.take m := by rw [hm1, List.take_append, List.take_of_length_le (by omega)]; simp
        rw [e1, tab_more hc (hm c r rfl)]
        exact wordG_more h1 hc hm h0 n (by omega)
theorem wordL_more {x more : List UInt8} {e : Ent} (h1 : tabF x = some e) (hc : onlyB x = true) (hm : ∀ c r, more = c :: r → lowB c = false) (h0 : 0 < x.length) (hl : x.length ≤ 10) : wordL (x ++ more) = some (e, more) := by
  unfold wordL
  exact wordG_more h1 hc hm h0 _ (by rw [List.length_append]; omega)
/-- A word of the table and what the law asks of it. -/
def wOk (x : List UInt8) (e : Ent) : Bool := decide (tabF x = some e) && (onlyB x && (decide (x.length ≤ 10) && (match x with | [] => false | a :: _ => noAd a)))
theorem read_more {x y more : List UInt8} {e : Ent} (hx : wOk x e = true) (hy : wOk y e = true) (hm : ∀ c r, more = c :: r → lowB c = false) : readC (x ++ more) = readC (y ++ more) := by
  have key : ∀ z : List UInt8, wOk z e = true → readC (z ++ more) = (let q := if e.bold then oneL bldF more else (none, more)
        let x := followC e.fl { rg := [], name := e.name, bang := q.1.isSome } q.2
        if x.1 ≠ 0 then (x.1, {}) else if blkL x.2.2 = [] then (0, x.2.1) else (151, {})) := by
    intro z hz
    unfold wOk at hz
    simp only [Bool.and_eq_true, decide_eq_true_eq] at hz
    obtain ⟨h1, hc, hl, hn⟩ := hz
    cases z with
    | nil => simp at hn
    | cons a t =>
      have e1 := par_none (a := a) (t ++ more) hn
      have e2 := wordL_more h1 hc hm (by simp) hl
      rw [List.cons_append] at e2 ⊢
      unfold readC
      rw [e1]
      simp only [e2]
      rw [if_neg (by simp)]
  rw [key x hx, key y hy]
theorem cmd_more {x y more : List UInt8} {e : Ent} (hx : wOk x e = true) (hy : wOk y e = true) (hm : ∀ c r, more = c :: r → lowB c = false) (hl : more.length ≤ 100) : cmdL (x ++ more) = cmdL (y ++ more) := by
  have q : ∀ z : List UInt8, wOk z e = true → ¬ 1000 < (z ++ more).length := by
    intro z hz
    unfold wOk at hz
    simp only [Bool.and_eq_true, decide_eq_true_eq] at hz
    have := hz.2.2.1
    rw [List.length_append]; omega
  unfold cmdL
  rw [if_neg (q x hx), if_neg (q y hy), read_more hx hy hm]
end Go.Proofs.YtfgapmfjfienhaaGreatDoor
/- CmdWords: the walk, its words. -/
namespace Go.Proofs.YtfgapmfjfienhaaGreatDoor
open Go.ChangeShapes Go.WideShapes Go.ChangeAt Go.RowKit Go.Maps Go.MapKept
set_option linter.unusedVariables false
set_option linter.unusedSimpArgs false
set_option maxRecDepth 100000
def lngA : Array Value := #[.string ⟨#[100, 101, 108, 101, 116, 101]⟩, .string ⟨#[109, 111, 118, 101]⟩, .string ⟨#[99, 111, 112, 121]⟩, .string ⟨#[99, 111]⟩, .string ⟨#[106, 111, 105, 110]⟩, .string ⟨#[121, 97, 110, 107]⟩, .string ⟨#[112, 117, 116]⟩, .string ⟨#[109, 97, 114, 107]⟩, .string ⟨#[115, 117, 98, 115, 116, 105, 116, 117, 116, 101]⟩, .string ⟨#[103, 108, 111, 98, 97, 108]⟩, .string ⟨#[118, 103, 108, 111, 98, 97, 108]⟩, .string ⟨#[110, 111, 114, 109, 97, 108]⟩, .string ⟨#[117, 110, 100, 111]⟩, .string ⟨#[114, 101, 100, 111]⟩, .string ⟨#[112, 114, 105, 110, 116]⟩]
def shtA : Array Value := #[.string ⟨#[100]⟩, .string ⟨#[109]⟩, .string ⟨#[116]⟩, .string ⟨#[116]⟩, .string ⟨#[106]⟩, .string ⟨#[121]⟩, .string ⟨#[112, 117]⟩, .string ⟨#[107]⟩, .string ⟨#[115]⟩, .string ⟨#[103]⟩, .string ⟨#[118]⟩, .string ⟨#[110, 111, 114, 109]⟩, .string ⟨#[117]⟩, .string ⟨#[114, 101, 100]⟩, .string ⟨#[112]⟩]
/-- A long and a short word of one row. -/
structure Wds (i : Nat) (L S s : ByteArray) : Prop where
  hl : lngA[i]? = some (.string L)
  hsh : shtA[i]? = some (.string S)
  ls : L.size ≤ 10
  ss : S.size ≤ 10
  same : cmdL (L ++ s).data.toList = cmdL (S ++ s).data.toList
theorem app_list (a : List UInt8) (s : ByteArray) : (bA a ++ s).data.toList = a ++ s.data.toList := by simp [ByteArray.data_append, bA]
theorem wds_of {i : Nat} (hi : i < 15) {s : ByteArray} (hs : s.size ≤ 100) (hl : ∀ c r, s.data.toList = c :: r → lowB c = false) : ∃ L S, Wds i L S s := by
  have hs' : s.data.toList.length ≤ 100 := by rw [← Lib.size_eq]; exact hs
  have key : ∀ {x y : List UInt8} {e : Ent}, wOk x e = true → wOk y e = true → cmdL (bA x ++ s).data.toList = cmdL (bA y ++ s).data.toList := fun hx hy => by
    rw [app_list, app_list]; exact cmd_more hx hy hl hs'
  rcases (show i = 0 ∨ i = 1 ∨ i = 2 ∨ i = 3 ∨ i = 4 ∨ i = 5 ∨ i = 6 ∨ i = 7 ∨ i = 8 ∨ i = 9 ∨ i = 10 ∨ i = 11 ∨ i = 12 ∨ i = 13 ∨ i = 14 by omega) with rfl | rfl | rfl | rfl | rfl | rfl | rfl | rfl | rfl | rfl | rfl | rfl | rfl | rfl | rfl
  · exact ⟨bA [100, 101, 108, 101, 116, 101], bA [100], rfl, rfl, by decide, by decide, key (e := { name := [100], place := 0, bold := true, fl := .regnum }) (by decide +kernel) (by decide +kernel)⟩
  · exact ⟨bA [109, 111, 118, 101], bA [109], rfl, rfl, by decide, by decide, key (e := { name := [109], place := 1, bold := false, fl := .dest }) (by decide +kernel) (by decide +kernel)⟩
  · exact ⟨bA [99, 111, 112, 121], bA [116], rfl, rfl, by decide, by decide, key (e := { name := [116], place := 2, bold := false, fl := .dest }) (by decide +kernel) (by decide +kernel)⟩
  · exact ⟨bA [99, 111], bA [116], rfl, rfl, by decide, by decide, key (e := { name := [116], place := 2, bold := false, fl := .dest }) (by decide +kernel) (by decide +kernel)⟩
  · exact ⟨bA [106, 111, 105, 110], bA [106], rfl, rfl, by decide, by decide, key (e := { name := [106], place := 3, bold := true, fl := .num }) (by decide +kernel) (by decide +kernel)⟩
  · exact ⟨bA [121, 97, 110, 107], bA [121], rfl, rfl, by decide, by decide, key (e := { name := [121], place := 4, bold := true, fl := .regnum }) (by decide +kernel) (by decide +kernel)⟩
  · exact ⟨bA [112, 117, 116], bA [112, 117], rfl, rfl, by decide, by decide, key (e := { name := [112, 117], place := 5, bold := true, fl := .reg }) (by decide +kernel) (by decide +kernel)⟩
  · exact ⟨bA [109, 97, 114, 107], bA [107], rfl, rfl, by decide, by decide, key (e := { name := [107], place := 6, bold := false, fl := .mark }) (by decide +kernel) (by decide +kernel)⟩
  · exact ⟨bA [115, 117, 98, 115, 116, 105, 116, 117, 116, 101], bA [115], rfl, rfl, by decide, by decide, key (e := { name := [115], place := 7, bold := false, fl := .subst }) (by decide +kernel) (by decide +kernel)⟩
  · exact ⟨bA [103, 108, 111, 98, 97, 108], bA [103], rfl, rfl, by decide, by decide, key (e := { name := [103], place := 8, bold := true, fl := .visits }) (by decide +kernel) (by decide +kernel)⟩
  · exact ⟨bA [118, 103, 108, 111, 98, 97, 108], bA [118], rfl, rfl, by decide, by decide, key (e := { name := [118], place := 9, bold := false, fl := .visits }) (by decide +kernel) (by decide +kernel)⟩
  · exact ⟨bA [110, 111, 114, 109, 97, 108], bA [110, 111, 114, 109], rfl, rfl, by decide, by decide, key (e := { name := [110, 111, 114, 109], place := 10, bold := true, fl := .keys }) (by decide +kernel) (by decide +kernel)⟩
  · exact ⟨bA [117, 110, 100, 111], bA [117], rfl, rfl, by decide, by decide, key (e := { name := [117], place := 11, bold := true, fl := .num }) (by decide +kernel) (by decide +kernel)⟩
  · exact ⟨bA [114, 101, 100, 111], bA [114, 101, 100], rfl, rfl, by decide, by decide, key (e := { name := [114, 101, 100], place := 12, bold := false, fl := .nothing }) (by decide +kernel) (by decide +kernel)⟩
  · exact ⟨bA [112, 114, 105, 110, 116], bA [112], rfl, rfl, by decide, by decide, key (e := { name := [112], place := 15, bold := false, fl := .num }) (by decide +kernel) (by decide +kernel)⟩
section
variable {w : World}
set_option maxHeartbeats 8000000 in
theorem words_big (k : Nat) (s : ByteArray) (hs : 100 < s.size) (hw : Gs w) : Calls Tryz.prog 4 #[.int .u8 (k : Int), .string s] w fun e w' => e = .returned (.bool true) ∧ Kp w w' := by
  have H1 : Hid (Calls Tryz.prog 11 #[] w fun e w' => e = .returned (.bool true) ∧ Kp w w') := known_any hw
  have g1 : decide ((s.size : Int) > 100) = true := decide_eq_true (by omega)
  have g2 : decide ((100 : Int) < (s.size : Int)) = true := decide_eq_true (by omega)
  have g3 : decide (100 < s.size) = true := decide_eq_true hs
  clear hs hw
  go_enter Tryz.func4, Tryz.ntmps4
  go_wp2_with fail
  refine Calls.mono H1.out ?_
  rintro e w1 ⟨rfl, k⟩
  have HK : Hid (Kp w w1) := k
  clear k
  go_wp2_with fail
  go_ret
  exact ⟨rfl, HK.out⟩
end
end Go.Proofs.YtfgapmfjfienhaaGreatDoor
/- CmdWords: the walk, all of it. -/
namespace Go.Proofs.YtfgapmfjfienhaaGreatDoor
open Go.ChangeShapes Go.WideShapes Go.ChangeAt Go.RowKit Go.Maps Go.MapKept
set_option linter.unusedVariables false
set_option linter.unusedSimpArgs false
set_option maxRecDepth 100000
section
variable {w : World}
set_option maxHeartbeats 16000000 in
theorem wo_e {k i : Nat} (s : ByteArray) (hk : k < 256) (hi : i < 15) (hm : k % 15 = i) (hs : s.size ≤ 100) {L S : ByteArray} (hW : Wds i L S s) (he : s.toList.isEmpty = true) (hw : Gs w) : Calls Tryz.prog 4 #[.int .u8 (k : Int), .string s] w fun e w' => e = .returned (.bool true) ∧ Kp w w' := by
  obtain ⟨n, c, hX⟩ : ∃ n c, cmdL (L ++ s).data.toList = (n, c) := ⟨_, _, rfl⟩
  have hY : cmdL (S ++ s).data.toList = (n, c) := by rw [← hW.same]; exact hX
  have z1 : (L ++ s).size ≤ 1000000 := by rw [ByteArray.size_append]; have := hW.ls; omega
  have z2 : (S ++ s).size ≤ 1000000 := by rw [ByteArray.size_append]; have := hW.ss; omega
  have H1 : Hid (Calls Tryz.prog 11 #[] w fun e w' => e = .returned (.bool true) ∧ Kp w w') := known_any hw
  have H2 : Hid (∀ z, Gs z → Calls Tryz.prog 12 #[.string (L ++ s)] z _) := fun z hz => parse_at (L ++ s) z1 hX hz
  have H3 : Hid (∀ z, Gs z → Calls Tryz.prog 12 #[.string (S ++ s)] z _) := fun z hz => parse_at (S ++ s) z2 hY hz
  have Hg : Hid (∀ z, Kp w z → Gs z) := fun z k => hw.kp k
  have hm1 : ((k : Int)).tmod 15 = (i : Int) := by rw [Int.tmod_eq_emod_of_nonneg (by omega)]; omega
  have hm2 : ((k : Int)) % 15 = (i : Int) := by omega
  have g1 : decide ((s.size : Int) > 100) = false := decide_eq_false (by omega)
  have g2 : decide ((100 : Int) < (s.size : Int)) = false := decide_eq_false (by omega)
  have g3 : decide (100 < s.size) = false := decide_eq_false (by omega)
  have l1 : L.size ≤ 10 := hW.ls
  have l2 : S.size ≤ 10 := hW.ss
  have HW : Hid (lngA[i]? = some (.string L) ∧ shtA[i]? = some (.string S)) := ⟨hW.hl, hW.hsh⟩
  have p1 : (9223372036854775807 < L.size + s.size) = False := by rw [eq_iff_iff]; exact ⟨fun q => by omega, False.elim⟩
  have p2 : (9223372036854775807 < S.size + s.size) = False := by rw [eq_iff_iff]; exact ⟨fun q => by omega, False.elim⟩
  clear hw hX hY z1 z2 hW hm
  go_enter Tryz.func4, Tryz.ntmps4
  go_wp2_with fail
  refine Calls.mono H1.out ?_
  rintro e w1 ⟨rfl, k1⟩
  have HK : Hid (Kp w w1) := k1
  clear k1 H1
  obtain ⟨b1, hb1⟩ : ∃ b, w1.heap.size = b := ⟨_, rfl⟩
  obtain ⟨V1, hV1⟩ : ∃ z, w1.alloc (.cells #[.string ⟨#[100, 101, 108, 101, 116, 101]⟩, .string ⟨#[109, 111, 118, 101]⟩, .string ⟨#[99, 111, 112, 121]⟩, .string ⟨#[99, 111]⟩, .string ⟨#[106, 111, 105, 110]⟩, .string ⟨#[121, 97, 110, 107]⟩, .string ⟨#[112, 117, 116]⟩, .string ⟨#[109, 97, 114, 107]⟩, .string ⟨#[115, 117, 98, 115, 116, 105, 116, 117, 116, 101]⟩, .string ⟨#[103, 108, 111, 98, 97, 108]⟩, .string ⟨#[118, 103, 108, 111, 98, 97, 108]⟩, .string ⟨#[110, 111, 114, 109, 97, 108]⟩, .string ⟨#[117, 110, 100, 111]⟩, .string ⟨#[114, 101, 100, 111]⟩, .string ⟨#[112, 114, 105, 110, 116]⟩] 9) = z := ⟨_, rfl⟩
  obtain ⟨b2, hb2⟩ : ∃ b, V1.heap.size = b := ⟨_, rfl⟩
  obtain ⟨V2, hV2⟩ : ∃ z, V1.alloc (.cells #[.string ⟨#[100]⟩, .string ⟨#[109]⟩, .string ⟨#[116]⟩, .string ⟨#[116]⟩, .string ⟨#[106]⟩, .string ⟨#[121]⟩, .string ⟨#[112, 117]⟩, .string ⟨#[107]⟩, .string ⟨#[115]⟩, .string ⟨#[103]⟩, .string ⟨#[118]⟩, .string ⟨#[110, 111, 114, 109]⟩, .string ⟨#[117]⟩, .string ⟨#[114, 101, 100]⟩, .string ⟨#[112]⟩] 9) = z := ⟨_, rfl⟩
  have HV : Hid (Kp w V2 ∧ V2.cell? ⟨b1, i, none⟩ = some (.string L) ∧ V2.cell? ⟨b2, i, none⟩ = some (.string S)) := by
    have k1 : Kp w1 V1 := by rw [← hV1]; exact kp_alloc _ _
    have k2 : Kp V1 V2 := by rw [← hV2]; exact kp_alloc _ _
    have x1 : Lc 9 b1 lngA.toList V1 := by rw [← hV1, ← hb1]; exact Lc.new w1 lngA.toList 9
    have x2 : Lc 9 b2 shtA.toList V2 := by rw [← hV2, ← hb2]; exact Lc.new V1 shtA.toList 9
    exact ⟨kp_trans HK.out (kp_trans k1 k2), (x1.kp k2).at (by rw [← HW.out.1]; simp), x2.at (by rw [← HW.out.2]; simp)⟩
  have cl : V2.cell? ⟨b1, i, none⟩ = some (.string L) := HV.out.2.1
  clear HK HW
  go_wp2_with fail
  refine Calls.mono (H2.out _ (Hg.out _ HV.out.1)) ?_
  rintro e w3 ⟨ra, rc, da, dc, rfl, HA⟩
  clear H2 cl
  obtain ⟨q1, hq1⟩ : ∃ q, w3.heap.size = q := ⟨_, rfl⟩
  obtain ⟨U1, hU1⟩ : ∃ z, w3.alloc (.cells #[.slice none 0 0, .string ⟨#[]⟩, .bool false, .int .u8 0, .int .i64 0, .slice none 0 0, .string ⟨#[]⟩, .string ⟨#[]⟩, .string ⟨#[]⟩, .string ⟨#[]⟩] 27) = z := ⟨_, rfl⟩
  have HB : Hid (Lc 27 q1 zmC U1 ∧ Kp w3 U1 ∧ w3.heap.size ≤ q1) := by
    rw [← hU1, ← hq1]; exact ⟨box_new w3, kp_alloc _ _, Nat.le_refl _⟩
  go_upto_region 9 with (refine wpList_store_box HB.out.1 0 (cmC c (.slice ra c.rg.length rc) (.slice da c.dest.length dc)) rfl 27 (.tmp 8) (.tmp 52) rfl rfl rfl (Nat.le_refl 10) sizeCmd (cmC_one _ _ _ _ _ _ _) rfl ?_; intro w4 x1 x2 x3; have HC : Hid (Lc 27 q1 (cmC c (.slice ra c.rg.length rc) (.slice da c.dest.length dc)) w4 ∧ Kp w3 w4 ∧ Kp w w4) := ⟨x1, kp_on HB.out.2.1 x2 HB.out.2.2, kp_trans (kp_trans HV.out.1 HA.out.2.2) (kp_on HB.out.2.1 x2 HB.out.2.2)⟩; clear x1 x2 x3)
  have HD : Hid (w4.ownsRow V2.heap.size 43 6 (.slice ra c.rg.length rc) c.rg.length (adCs c.rg) ∧ w4.ownsRow V2.heap.size 43 6 (.slice da c.dest.length dc) c.dest.length (adCs c.dest) ∧ w4.cell? ⟨b2, i, none⟩ = some (.string S)) := ⟨row_kp HA.out.1 HC.out.2.1, row_kp HA.out.2.1 HC.out.2.1, kp_cell (kp_trans HA.out.2.2 HC.out.2.1) HV.out.2.2⟩
  clear HA HB hq1 hU1 HV
  have cs : w4.cell? ⟨b2, i, none⟩ = some (.string S) := HD.out.2.2
  go_wp2_with fail
  refine Calls.mono (H3.out _ (Hg.out _ HC.out.2.2)) ?_
  rintro e w5 ⟨rb, rd, db, dd, rfl, HA⟩
  clear H3 cs
  obtain ⟨q2, hq2⟩ : ∃ q, w5.heap.size = q := ⟨_, rfl⟩
  obtain ⟨U2, hU2⟩ : ∃ z, w5.alloc (.cells #[.slice none 0 0, .string ⟨#[]⟩, .bool false, .int .u8 0, .int .i64 0, .slice none 0 0, .string ⟨#[]⟩, .string ⟨#[]⟩, .string ⟨#[]⟩, .string ⟨#[]⟩] 27) = z := ⟨_, rfl⟩
  have HB : Hid (Lc 27 q2 zmC U2 ∧ Kp w5 U2 ∧ w5.heap.size ≤ q2) := by
    rw [← hU2, ← hq2]; exact ⟨box_new w5, kp_alloc _ _, Nat.le_refl _⟩
  go_upto_region 10 with (refine wpList_store_box HB.out.1 0 (cmC c (.slice rb c.rg.length rd) (.slice db c.dest.length dd)) rfl 27 (.tmp 10) (.tmp 62) rfl rfl rfl (Nat.le_refl 10) sizeCmd (cmC_one _ _ _ _ _ _ _) rfl ?_; intro w7 x1 x2 x3; have HE0 : Hid (Lc 27 q2 (cmC c (.slice rb c.rg.length rd) (.slice db c.dest.length dd)) w7 ∧ Kp w5 w7) := ⟨x1, kp_on HB.out.2.1 x2 HB.out.2.2⟩; clear x1 x2 x3)
  have k47 : Kp w4 w7 := kp_trans HA.out.2.2 HE0.out.2
  have HE : Hid (Lc 27 q1 (cmC c (.slice ra c.rg.length rc) (.slice da c.dest.length dc)) w7 ∧ Lc 27 q2 (cmC c (.slice rb c.rg.length rd) (.slice db c.dest.length dd)) w7 ∧ Kp w w7) := ⟨HC.out.1.kp k47, HE0.out.1, kp_trans HC.out.2.2 k47⟩
  have HS : Hid (Calls Tryz.prog 14 #[.agg (cmC c (.slice ra c.rg.length rc) (.slice da c.dest.length dc)).toArray, .agg (cmC c (.slice rb c.rg.length rd) (.slice db c.dest.length dd)).toArray] w7 _) := same_any c (row_kp HD.out.1 k47) (row_kp HD.out.2.1 k47) (row_kp HA.out.1 HE0.out.2) (row_kp HA.out.2.1 HE0.out.2)
  clear HA HB hq2 hU2 HC HD HE0 k47 Hg
  have x0 : w7.cell? ⟨q1, 0, none⟩ = some (.slice ra c.rg.length rc) := HE.out.1.at (j := 0) rfl
  have x1 : w7.cell? ⟨q1, 1, none⟩ = some (.string (bA c.name)) := HE.out.1.at (j := 1) rfl
  have x2 : w7.cell? ⟨q1, 2, none⟩ = some (.bool c.bang) := HE.out.1.at (j := 2) rfl
  have x3 : w7.cell? ⟨q1, 3, none⟩ = some (.int .u8 (c.reg : Int)) := HE.out.1.at (j := 3) rfl
  have x4 : w7.cell? ⟨q1, 4, none⟩ = some (.int .i64 c.cnt) := HE.out.1.at (j := 4) rfl
  have x5 : w7.cell? ⟨q1, 5, none⟩ = some (.slice da c.dest.length dc) := HE.out.1.at (j := 5) rfl
  have x6 : w7.cell? ⟨q1, 6, none⟩ = some (.string (bA c.pat)) := HE.out.1.at (j := 6) rfl
  have x7 : w7.cell? ⟨q1, 7, none⟩ = some (.string (bA c.rep)) := HE.out.1.at (j := 7) rfl
  have x8 : w7.cell? ⟨q1, 8, none⟩ = some (.string (bA c.flags)) := HE.out.1.at (j := 8) rfl
  have x9 : w7.cell? ⟨q1, 9, none⟩ = some (.string (bA c.arg)) := HE.out.1.at (j := 9) rfl
  have y0 : w7.cell? ⟨q2, 0, none⟩ = some (.slice rb c.rg.length rd) := HE.out.2.1.at (j := 0) rfl
  have y1 : w7.cell? ⟨q2, 1, none⟩ = some (.string (bA c.name)) := HE.out.2.1.at (j := 1) rfl
  have y2 : w7.cell? ⟨q2, 2, none⟩ = some (.bool c.bang) := HE.out.2.1.at (j := 2) rfl
  have y3 : w7.cell? ⟨q2, 3, none⟩ = some (.int .u8 (c.reg : Int)) := HE.out.2.1.at (j := 3) rfl
  have y4 : w7.cell? ⟨q2, 4, none⟩ = some (.int .i64 c.cnt) := HE.out.2.1.at (j := 4) rfl
  have y5 : w7.cell? ⟨q2, 5, none⟩ = some (.slice db c.dest.length dd) := HE.out.2.1.at (j := 5) rfl
  have y6 : w7.cell? ⟨q2, 6, none⟩ = some (.string (bA c.pat)) := HE.out.2.1.at (j := 6) rfl
  have y7 : w7.cell? ⟨q2, 7, none⟩ = some (.string (bA c.rep)) := HE.out.2.1.at (j := 7) rfl
  have y8 : w7.cell? ⟨q2, 8, none⟩ = some (.string (bA c.flags)) := HE.out.2.1.at (j := 8) rfl
  have y9 : w7.cell? ⟨q2, 9, none⟩ = some (.string (bA c.arg)) := HE.out.2.1.at (j := 9) rfl
  have HX : Hid (Kp w w7) := HE.out.2.2
  clear HE
  go_wp2_with fail
  refine Calls.mono HS.out ?_
  rintro e w8 ⟨rfl, k⟩
  have HZ : Hid (Kp w w8) := kp_trans HX.out k
  clear k HS HX x0 x1 x2 x3 x4 x5 x6 x7 x8 x9 y0 y1 y2 y3 y4 y5 y6 y7 y8 y9
  go_wp2_with fail
  go_ret
  exact ⟨rfl, HZ.out⟩
set_option maxHeartbeats 16000000 in
theorem wo_lo {k i : Nat} (s : ByteArray) (hk : k < 256) (hi : i < 15) (hm : k % 15 = i) (hs : s.size ≤ 100) {L S : ByteArray} (hW : Wds i L S s) (h0 : 0 < s.size) (hc : (s[0]'h0).toNat < 97) (hn : (s[0]'h0).toNat ≠ 33) (hw : Gs w) : Calls Tryz.prog 4 #[.int .u8 (k : Int), .string s] w fun e w' => e = .returned (.bool true) ∧ Kp w w' := by
  obtain ⟨n, c, hX⟩ : ∃ n c, cmdL (L ++ s).data.toList = (n, c) := ⟨_, _, rfl⟩
  have hY : cmdL (S ++ s).data.toList = (n, c) := by rw [← hW.same]; exact hX
  have z1 : (L ++ s).size ≤ 1000000 := by rw [ByteArray.size_append]; have := hW.ls; omega
  have z2 : (S ++ s).size ≤ 1000000 := by rw [ByteArray.size_append]; have := hW.ss; omega
  have H1 : Hid (Calls Tryz.prog 11 #[] w fun e w' => e = .returned (.bool true) ∧ Kp w w') := known_any hw
  have H2 : Hid (∀ z, Gs z → Calls Tryz.prog 12 #[.string (L ++ s)] z _) := fun z hz => parse_at (L ++ s) z1 hX hz
  have H3 : Hid (∀ z, Gs z → Calls Tryz.prog 12 #[.string (S ++ s)] z _) := fun z hz => parse_at (S ++ s) z2 hY hz
  have Hg : Hid (∀ z, Kp w z → Gs z) := fun z k => hw.kp k
  have hm1 : ((k : Int)).tmod 15 = (i : Int) := by rw [Int.tmod_eq_emod_of_nonneg (by omega)]; omega
  have hm2 : ((k : Int)) % 15 = (i : Int) := by omega
  have g1 : decide ((s.size : Int) > 100) = false := decide_eq_false (by omega)
  have g2 : decide ((100 : Int) < (s.size : Int)) = false := decide_eq_false (by omega)
  have g3 : decide (100 < s.size) = false := decide_eq_false (by omega)
  have l1 : L.size ≤ 10 := hW.ls
  have l2 : S.size ≤ 10 := hW.ss
  have HW : Hid (lngA[i]? = some (.string L) ∧ shtA[i]? = some (.string S)) := ⟨hW.hl, hW.hsh⟩
  have p1 : (9223372036854775807 < L.size + s.size) = False := by rw [eq_iff_iff]; exact ⟨fun q => by omega, False.elim⟩
  have p2 : (9223372036854775807 < S.size + s.size) = False := by rw [eq_iff_iff]; exact ⟨fun q => by omega, False.elim⟩
  have f0 : s.toList.isEmpty = false := by
    rw [Lib.toList_data]; cases h : s.data.toList with
    | nil =>
      have q : s.size = 0 := by rw [Lib.size_eq, h]; rfl
      omega
    | cons a r => rfl
  have f1 : decide ((97 : Int) ≤ ((s[0]'h0).toNat : Int)) = false := decide_eq_false (by omega)
  have f2 : decide (((s[0]'h0).toNat : Int) ≥ 97) = false := decide_eq_false (by omega)
  have f3 : (((s[0]'h0).toNat : Int) == 33) = false := by rw [beq_eq_false_iff_ne]; omega
  have f4 : (97 ≤ (s[0]'h0).toNat) = False := by rw [eq_iff_iff]; exact ⟨fun q => by omega, False.elim⟩
  clear hw hX hY z1 z2 hW hm
  go_enter Tryz.func4, Tryz.ntmps4
  go_wp2_with fail
  refine Calls.mono H1.out ?_
  rintro e w1 ⟨rfl, k1⟩
  have HK : Hid (Kp w w1) := k1
  clear k1 H1
  obtain ⟨b1, hb1⟩ : ∃ b, w1.heap.size = b := ⟨_, rfl⟩
  obtain ⟨V1, hV1⟩ : ∃ z, w1.alloc (.cells #[.string ⟨#[100, 101, 108, 101, 116, 101]⟩, .string ⟨#[109, 111, 118, 101]⟩, .string ⟨#[99, 111, 112, 121]⟩, .string ⟨#[99, 111]⟩, .string ⟨#[106, 111, 105, 110]⟩, .string ⟨#[121, 97, 110, 107]⟩, .string ⟨#[112, 117, 116]⟩, .string ⟨#[109, 97, 114, 107]⟩, .string ⟨#[115, 117, 98, 115, 116, 105, 116, 117, 116, 101]⟩, .string ⟨#[103, 108, 111, 98, 97, 108]⟩, .string ⟨#[118, 103, 108, 111, 98, 97, 108]⟩, .string ⟨#[110, 111, 114, 109, 97, 108]⟩, .string ⟨#[117, 110, 100, 111]⟩, .string ⟨#[114, 101, 100, 111]⟩, .string ⟨#[112, 114, 105, 110, 116]⟩] 9) = z := ⟨_, rfl⟩
  obtain ⟨b2, hb2⟩ : ∃ b, V1.heap.size = b := ⟨_, rfl⟩
  obtain ⟨V2, hV2⟩ : ∃ z, V1.alloc (.cells #[.string ⟨#[100]⟩, .string ⟨#[109]⟩, .string ⟨#[116]⟩, .string ⟨#[116]⟩, .string ⟨#[106]⟩, .string ⟨#[121]⟩, .string ⟨#[112, 117]⟩, .string ⟨#[107]⟩, .string ⟨#[115]⟩, .string ⟨#[103]⟩, .string ⟨#[118]⟩, .string ⟨#[110, 111, 114, 109]⟩, .string ⟨#[117]⟩, .string ⟨#[114, 101, 100]⟩, .string ⟨#[112]⟩] 9) = z := ⟨_, rfl⟩
  have HV : Hid (Kp w V2 ∧ V2.cell? ⟨b1, i, none⟩ = some (.string L) ∧ V2.cell? ⟨b2, i, none⟩ = some (.string S)) := by
    have k1 : Kp w1 V1 := by rw [← hV1]; exact kp_alloc _ _
    have k2 : Kp V1 V2 := by rw [← hV2]; exact kp_alloc _ _
    have x1 : Lc 9 b1 lngA.toList V1 := by rw [← hV1, ← hb1]; exact Lc.new w1 lngA.toList 9
    have x2 : Lc 9 b2 shtA.toList V2 := by rw [← hV2, ← hb2]; exact Lc.new V1 shtA.toList 9
    exact ⟨kp_trans HK.out (kp_trans k1 k2), (x1.kp k2).at (by rw [← HW.out.1]; simp), x2.at (by rw [← HW.out.2]; simp)⟩
  have cl : V2.cell? ⟨b1, i, none⟩ = some (.string L) := HV.out.2.1
  clear HK HW
  go_wp2_with fail
  refine Calls.mono (H2.out _ (Hg.out _ HV.out.1)) ?_
  rintro e w3 ⟨ra, rc, da, dc, rfl, HA⟩
  clear H2 cl
  obtain ⟨q1, hq1⟩ : ∃ q, w3.heap.size = q := ⟨_, rfl⟩
  obtain ⟨U1, hU1⟩ : ∃ z, w3.alloc (.cells #[.slice none 0 0, .string ⟨#[]⟩, .bool false, .int .u8 0, .int .i64 0, .slice none 0 0, .string ⟨#[]⟩, .string ⟨#[]⟩, .string ⟨#[]⟩, .string ⟨#[]⟩] 27) = z := ⟨_, rfl⟩
  have HB : Hid (Lc 27 q1 zmC U1 ∧ Kp w3 U1 ∧ w3.heap.size ≤ q1) := by
    rw [← hU1, ← hq1]; exact ⟨box_new w3, kp_alloc _ _, Nat.le_refl _⟩
  go_upto_region 9 with (refine wpList_store_box HB.out.1 0 (cmC c (.slice ra c.rg.length rc) (.slice da c.dest.length dc)) rfl 27 (.tmp 8) (.tmp 52) rfl rfl rfl (Nat.le_refl 10) sizeCmd (cmC_one _ _ _ _ _ _ _) rfl ?_; intro w4 x1 x2 x3; have HC : Hid (Lc 27 q1 (cmC c (.slice ra c.rg.length rc) (.slice da c.dest.length dc)) w4 ∧ Kp w3 w4 ∧ Kp w w4) := ⟨x1, kp_on HB.out.2.1 x2 HB.out.2.2, kp_trans (kp_trans HV.out.1 HA.out.2.2) (kp_on HB.out.2.1 x2 HB.out.2.2)⟩; clear x1 x2 x3)
  have HD : Hid (w4.ownsRow V2.heap.size 43 6 (.slice ra c.rg.length rc) c.rg.length (adCs c.rg) ∧ w4.ownsRow V2.heap.size 43 6 (.slice da c.dest.length dc) c.dest.length (adCs c.dest) ∧ w4.cell? ⟨b2, i, none⟩ = some (.string S)) := ⟨row_kp HA.out.1 HC.out.2.1, row_kp HA.out.2.1 HC.out.2.1, kp_cell (kp_trans HA.out.2.2 HC.out.2.1) HV.out.2.2⟩
  clear HA HB hq1 hU1 HV
  have cs : w4.cell? ⟨b2, i, none⟩ = some (.string S) := HD.out.2.2
  go_wp2_with fail
  refine Calls.mono (H3.out _ (Hg.out _ HC.out.2.2)) ?_
  rintro e w5 ⟨rb, rd, db, dd, rfl, HA⟩
  clear H3 cs
  obtain ⟨q2, hq2⟩ : ∃ q, w5.heap.size = q := ⟨_, rfl⟩
  obtain ⟨U2, hU2⟩ : ∃ z, w5.alloc (.cells #[.slice none 0 0, .string ⟨#[]⟩, .bool false, .int .u8 0, .int .i64 0, .slice none 0 0, .string ⟨#[]⟩, .string ⟨#[]⟩, .string ⟨#[]⟩, .string ⟨#[]⟩] 27) = z := ⟨_, rfl⟩
  have HB : Hid (Lc 27 q2 zmC U2 ∧ Kp w5 U2 ∧ w5.heap.size ≤ q2) := by
    rw [← hU2, ← hq2]; exact ⟨box_new w5, kp_alloc _ _, Nat.le_refl _⟩
  go_upto_region 10 with (refine wpList_store_box HB.out.1 0 (cmC c (.slice rb c.rg.length rd) (.slice db c.dest.length dd)) rfl 27 (.tmp 10) (.tmp 62) rfl rfl rfl (Nat.le_refl 10) sizeCmd (cmC_one _ _ _ _ _ _ _) rfl ?_; intro w7 x1 x2 x3; have HE0 : Hid (Lc 27 q2 (cmC c (.slice rb c.rg.length rd) (.slice db c.dest.length dd)) w7 ∧ Kp w5 w7) := ⟨x1, kp_on HB.out.2.1 x2 HB.out.2.2⟩; clear x1 x2 x3)
  have k47 : Kp w4 w7 := kp_trans HA.out.2.2 HE0.out.2
  have HE : Hid (Lc 27 q1 (cmC c (.slice ra c.rg.length rc) (.slice da c.dest.length dc)) w7 ∧ Lc 27 q2 (cmC c (.slice rb c.rg.length rd) (.slice db c.dest.length dd)) w7 ∧ Kp w w7) := ⟨HC.out.1.kp k47, HE0.out.1, kp_trans HC.out.2.2 k47⟩
  have HS : Hid (Calls Tryz.prog 14 #[.agg (cmC c (.slice ra c.rg.length rc) (.slice da c.dest.length dc)).toArray, .agg (cmC c (.slice rb c.rg.length rd) (.slice db c.dest.length dd)).toArray] w7 _) := same_any c (row_kp HD.out.1 k47) (row_kp HD.out.2.1 k47) (row_kp HA.out.1 HE0.out.2) (row_kp HA.out.2.1 HE0.out.2)
  clear HA HB hq2 hU2 HC HD HE0 k47 Hg
  have x0 : w7.cell? ⟨q1, 0, none⟩ = some (.slice ra c.rg.length rc) := HE.out.1.at (j := 0) rfl
  have x1 : w7.cell? ⟨q1, 1, none⟩ = some (.string (bA c.name)) := HE.out.1.at (j := 1) rfl
  have x2 : w7.cell? ⟨q1, 2, none⟩ = some (.bool c.bang) := HE.out.1.at (j := 2) rfl
  have x3 : w7.cell? ⟨q1, 3, none⟩ = some (.int .u8 (c.reg : Int)) := HE.out.1.at (j := 3) rfl
  have x4 : w7.cell? ⟨q1, 4, none⟩ = some (.int .i64 c.cnt) := HE.out.1.at (j := 4) rfl
  have x5 : w7.cell? ⟨q1, 5, none⟩ = some (.slice da c.dest.length dc) := HE.out.1.at (j := 5) rfl
  have x6 : w7.cell? ⟨q1, 6, none⟩ = some (.string (bA c.pat)) := HE.out.1.at (j := 6) rfl
  have x7 : w7.cell? ⟨q1, 7, none⟩ = some (.string (bA c.rep)) := HE.out.1.at (j := 7) rfl
  have x8 : w7.cell? ⟨q1, 8, none⟩ = some (.string (bA c.flags)) := HE.out.1.at (j := 8) rfl
  have x9 : w7.cell? ⟨q1, 9, none⟩ = some (.string (bA c.arg)) := HE.out.1.at (j := 9) rfl
  have y0 : w7.cell? ⟨q2, 0, none⟩ = some (.slice rb c.rg.length rd) := HE.out.2.1.at (j := 0) rfl
  have y1 : w7.cell? ⟨q2, 1, none⟩ = some (.string (bA c.name)) := HE.out.2.1.at (j := 1) rfl
  have y2 : w7.cell? ⟨q2, 2, none⟩ = some (.bool c.bang) := HE.out.2.1.at (j := 2) rfl
  have y3 : w7.cell? ⟨q2, 3, none⟩ = some (.int .u8 (c.reg : Int)) := HE.out.2.1.at (j := 3) rfl
  have y4 : w7.cell? ⟨q2, 4, none⟩ = some (.int .i64 c.cnt) := HE.out.2.1.at (j := 4) rfl
  have y5 : w7.cell? ⟨q2, 5, none⟩ = some (.slice db c.dest.length dd) := HE.out.2.1.at (j := 5) rfl
  have y6 : w7.cell? ⟨q2, 6, none⟩ = some (.string (bA c.pat)) := HE.out.2.1.at (j := 6) rfl
  have y7 : w7.cell? ⟨q2, 7, none⟩ = some (.string (bA c.rep)) := HE.out.2.1.at (j := 7) rfl
  have y8 : w7.cell? ⟨q2, 8, none⟩ = some (.string (bA c.flags)) := HE.out.2.1.at (j := 8) rfl
  have y9 : w7.cell? ⟨q2, 9, none⟩ = some (.string (bA c.arg)) := HE.out.2.1.at (j := 9) rfl
  have HX : Hid (Kp w w7) := HE.out.2.2
  clear HE
  go_wp2_with fail
  refine Calls.mono HS.out ?_
  rintro e w8 ⟨rfl, k⟩
  have HZ : Hid (Kp w w8) := kp_trans HX.out k
  clear k HS HX x0 x1 x2 x3 x4 x5 x6 x7 x8 x9 y0 y1 y2 y3 y4 y5 y6 y7 y8 y9
  go_wp2_with fail
  go_ret
  exact ⟨rfl, HZ.out⟩
set_option maxHeartbeats 16000000 in
theorem wo_hi {k i : Nat} (s : ByteArray) (hk : k < 256) (hi : i < 15) (hm : k % 15 = i) (hs : s.size ≤ 100) {L S : ByteArray} (hW : Wds i L S s) (h0 : 0 < s.size) (hc : 122 < (s[0]'h0).toNat) (hw : Gs w) : Calls Tryz.prog 4 #[.int .u8 (k : Int), .string s] w fun e w' => e = .returned (.bool true) ∧ Kp w w' := by
  obtain ⟨n, c, hX⟩ : ∃ n c, cmdL (L ++ s).data.toList = (n, c) := ⟨_, _, rfl⟩
  have hY : cmdL (S ++ s).data.toList = (n, c) := by rw [← hW.same]; exact hX
  have z1 : (L ++ s).size ≤ 1000000 := by rw [ByteArray.size_append]; have := hW.ls; omega
  have z2 : (S ++ s).size ≤ 1000000 := by rw [ByteArray.size_append]; have := hW.ss; omega
  have H1 : Hid (Calls Tryz.prog 11 #[] w fun e w' => e = .returned (.bool true) ∧ Kp w w') := known_any hw
  have H2 : Hid (∀ z, Gs z → Calls Tryz.prog 12 #[.string (L ++ s)] z _) := fun z hz => parse_at (L ++ s) z1 hX hz
  have H3 : Hid (∀ z, Gs z → Calls Tryz.prog 12 #[.string (S ++ s)] z _) := fun z hz => parse_at (S ++ s) z2 hY hz
  have Hg : Hid (∀ z, Kp w z → Gs z) := fun z k => hw.kp k
  have hm1 : ((k : Int)).tmod 15 = (i : Int) := by rw [Int.tmod_eq_emod_of_nonneg (by omega)]; omega
  have hm2 : ((k : Int)) % 15 = (i : Int) := by omega
  have g1 : decide ((s.size : Int) > 100) = false := decide_eq_false (by omega)
  have g2 : decide ((100 : Int) < (s.size : Int)) = false := decide_eq_false (by omega)
  have g3 : decide (100 < s.size) = false := decide_eq_false (by omega)
  have l1 : L.size ≤ 10 := hW.ls
  have l2 : S.size ≤ 10 := hW.ss
  have HW : Hid (lngA[i]? = some (.string L) ∧ shtA[i]? = some (.string S)) := ⟨hW.hl, hW.hsh⟩
  have p1 : (9223372036854775807 < L.size + s.size) = False := by rw [eq_iff_iff]; exact ⟨fun q => by omega, False.elim⟩
  have p2 : (9223372036854775807 < S.size + s.size) = False := by rw [eq_iff_iff]; exact ⟨fun q => by omega, False.elim⟩
  have f0 : s.toList.isEmpty = false := by
    rw [Lib.toList_data]; cases h : s.data.toList with
    | nil =>
      have q : s.size = 0 := by rw [Lib.size_eq, h]; rfl
      omega
    | cons a r => rfl
  have f1 : decide ((97 : Int) ≤ ((s[0]'h0).toNat : Int)) = true := decide_eq_true (by omega)
  have f2 : decide (((s[0]'h0).toNat : Int) ≤ 122) = false := decide_eq_false (by omega)
  have f3 : (((s[0]'h0).toNat : Int) == 33) = false := by rw [beq_eq_false_iff_ne]; omega
  have f4 : decide ((s[0]'h0).toNat ≤ 122) = false := decide_eq_false (by omega)
  clear hw hX hY z1 z2 hW hm
  go_enter Tryz.func4, Tryz.ntmps4
  go_wp2_with fail
  refine Calls.mono H1.out ?_
  rintro e w1 ⟨rfl, k1⟩
  have HK : Hid (Kp w w1) := k1
  clear k1 H1
  obtain ⟨b1, hb1⟩ : ∃ b, w1.heap.size = b := ⟨_, rfl⟩
  obtain ⟨V1, hV1⟩ : ∃ z, w1.alloc (.cells #[.string ⟨#[100, 101, 108, 101, 116, 101]⟩, .string ⟨#[109, 111, 118, 101]⟩, .string ⟨#[99, 111, 112, 121]⟩, .string ⟨#[99, 111]⟩, .string ⟨#[106, 111, 105, 110]⟩, .string ⟨#[121, 97, 110, 107]⟩, .string ⟨#[112, 117, 116]⟩, .string ⟨#[109, 97, 114, 107]⟩, .string ⟨#[115, 117, 98, 115, 116, 105, 116, 117, 116, 101]⟩, .string ⟨#[103, 108, 111, 98, 97, 108]⟩, .string ⟨#[118, 103, 108, 111, 98, 97, 108]⟩, .string ⟨#[110, 111, 114, 109, 97, 108]⟩, .string ⟨#[117, 110, 100, 111]⟩, .string ⟨#[114, 101, 100, 111]⟩, .string ⟨#[112, 114, 105, 110, 116]⟩] 9) = z := ⟨_, rfl⟩
  obtain ⟨b2, hb2⟩ : ∃ b, V1.heap.size = b := ⟨_, rfl⟩
  obtain ⟨V2, hV2⟩ : ∃ z, V1.alloc (.cells #[.string ⟨#[100]⟩, .string ⟨#[109]⟩, .string ⟨#[116]⟩, .string ⟨#[116]⟩, .string ⟨#[106]⟩, .string ⟨#[121]⟩, .string ⟨#[112, 117]⟩, .string ⟨#[107]⟩, .string ⟨#[115]⟩, .string ⟨#[103]⟩, .string ⟨#[118]⟩, .string ⟨#[110, 111, 114, 109]⟩, .string ⟨#[117]⟩, .string ⟨#[114, 101, 100]⟩, .string ⟨#[112]⟩] 9) = z := ⟨_, rfl⟩
  have HV : Hid (Kp w V2 ∧ V2.cell? ⟨b1, i, none⟩ = some (.string L) ∧ V2.cell? ⟨b2, i, none⟩ = some (.string S)) := by
    have k1 : Kp w1 V1 := by rw [← hV1]; exact kp_alloc _ _
    have k2 : Kp V1 V2 := by rw [← hV2]; exact kp_alloc _ _
    have x1 : Lc 9 b1 lngA.toList V1 := by rw [← hV1, ← hb1]; exact Lc.new w1 lngA.toList 9
    have x2 : Lc 9 b2 shtA.toList V2 := by rw [← hV2, ← hb2]; exact Lc.new V1 shtA.toList 9
    exact ⟨kp_trans HK.out (kp_trans k1 k2), (x1.kp k2).at (by rw [← HW.out.1]; simp), x2.at (by rw [← HW.out.2]; simp)⟩
  have cl : V2.cell? ⟨b1, i, none⟩ = some (.string L) := HV.out.2.1
  clear HK HW
  go_wp2_with fail
  refine Calls.mono (H2.out _ (Hg.out _ HV.out.1)) ?_
  rintro e w3 ⟨ra, rc, da, dc, rfl, HA⟩
  clear H2 cl
  obtain ⟨q1, hq1⟩ : ∃ q, w3.heap.size = q := ⟨_, rfl⟩
  obtain ⟨U1, hU1⟩ : ∃ z, w3.alloc (.cells #[.slice none 0 0, .string ⟨#[]⟩, .bool false, .int .u8 0, .int .i64 0, .slice none 0 0, .string ⟨#[]⟩, .string ⟨#[]⟩, .string ⟨#[]⟩, .string ⟨#[]⟩] 27) = z := ⟨_, rfl⟩
  have HB : Hid (Lc 27 q1 zmC U1 ∧ Kp w3 U1 ∧ w3.heap.size ≤ q1) := by
    rw [← hU1, ← hq1]; exact ⟨box_new w3, kp_alloc _ _, Nat.le_refl _⟩
  go_upto_region 9 with (refine wpList_store_box HB.out.1 0 (cmC c (.slice ra c.rg.length rc) (.slice da c.dest.length dc)) rfl 27 (.tmp 8) (.tmp 52) rfl rfl rfl (Nat.le_refl 10) sizeCmd (cmC_one _ _ _ _ _ _ _) rfl ?_; intro w4 x1 x2 x3; have HC : Hid (Lc 27 q1 (cmC c (.slice ra c.rg.length rc) (.slice da c.dest.length dc)) w4 ∧ Kp w3 w4 ∧ Kp w w4) := ⟨x1, kp_on HB.out.2.1 x2 HB.out.2.2, kp_trans (kp_trans HV.out.1 HA.out.2.2) (kp_on HB.out.2.1 x2 HB.out.2.2)⟩; clear x1 x2 x3)
  have HD : Hid (w4.ownsRow V2.heap.size 43 6 (.slice ra c.rg.length rc) c.rg.length (adCs c.rg) ∧ w4.ownsRow V2.heap.size 43 6 (.slice da c.dest.length dc) c.dest.length (adCs c.dest) ∧ w4.cell? ⟨b2, i, none⟩ = some (.string S)) := ⟨row_kp HA.out.1 HC.out.2.1, row_kp HA.out.2.1 HC.out.2.1, kp_cell (kp_trans HA.out.2.2 HC.out.2.1) HV.out.2.2⟩
  clear HA HB hq1 hU1 HV
  have cs : w4.cell? ⟨b2, i, none⟩ = some (.string S) := HD.out.2.2
  go_wp2_with fail
  refine Calls.mono (H3.out _ (Hg.out _ HC.out.2.2)) ?_
  rintro e w5 ⟨rb, rd, db, dd, rfl, HA⟩
  clear H3 cs
  obtain ⟨q2, hq2⟩ : ∃ q, w5.heap.size = q := ⟨_, rfl⟩
  obtain ⟨U2, hU2⟩ : ∃ z, w5.alloc (.cells #[.slice none 0 0, .string ⟨#[]⟩, .bool false, .int .u8 0, .int .i64 0, .slice none 0 0, .string ⟨#[]⟩, .string ⟨#[]⟩, .string ⟨#[]⟩, .string ⟨#[]⟩] 27) = z := ⟨_, rfl⟩
  have HB : Hid (Lc 27 q2 zmC U2 ∧ Kp w5 U2 ∧ w5.heap.size ≤ q2) := by
    rw [← hU2, ← hq2]; exact ⟨box_new w5, kp_alloc _ _, Nat.le_refl _⟩
  go_upto_region 10 with (refine wpList_store_box HB.out.1 0 (cmC c (.slice rb c.rg.length rd) (.slice db c.dest.length dd)) rfl 27 (.tmp 10) (.tmp 62) rfl rfl rfl (Nat.le_refl 10) sizeCmd (cmC_one _ _ _ _ _ _ _) rfl ?_; intro w7 x1 x2 x3; have HE0 : Hid (Lc 27 q2 (cmC c (.slice rb c.rg.length rd) (.slice db c.dest.length dd)) w7 ∧ Kp w5 w7) := ⟨x1, kp_on HB.out.2.1 x2 HB.out.2.2⟩; clear x1 x2 x3)
  have k47 : Kp w4 w7 := kp_trans HA.out.2.2 HE0.out.2
  have HE : Hid (Lc 27 q1 (cmC c (.slice ra c.rg.length rc) (.slice da c.dest.length dc)) w7 ∧ Lc 27 q2 (cmC c (.slice rb c.rg.length rd) (.slice db c.dest.length dd)) w7 ∧ Kp w w7) := ⟨HC.out.1.kp k47, HE0.out.1, kp_trans HC.out.2.2 k47⟩
  have HS : Hid (Calls Tryz.prog 14 #[.agg (cmC c (.slice ra c.rg.length rc) (.slice da c.dest.length dc)).toArray, .agg (cmC c (.slice rb c.rg.length rd) (.slice db c.dest.length dd)).toArray] w7 _) := same_any c (row_kp HD.out.1 k47) (row_kp HD.out.2.1 k47) (row_kp HA.out.1 HE0.out.2) (row_kp HA.out.2.1 HE0.out.2)
  clear HA HB hq2 hU2 HC HD HE0 k47 Hg
  have x0 : w7.cell? ⟨q1, 0, none⟩ = some (.slice ra c.rg.length rc) := HE.out.1.at (j := 0) rfl
  have x1 : w7.cell? ⟨q1, 1, none⟩ = some (.string (bA c.name)) := HE.out.1.at (j := 1) rfl
  have x2 : w7.cell? ⟨q1, 2, none⟩ = some (.bool c.bang) := HE.out.1.at (j := 2) rfl
  have x3 : w7.cell? ⟨q1, 3, none⟩ = some (.int .u8 (c.reg : Int)) := HE.out.1.at (j := 3) rfl
  have x4 : w7.cell? ⟨q1, 4, none⟩ = some (.int .i64 c.cnt) := HE.out.1.at (j := 4) rfl
  have x5 : w7.cell? ⟨q1, 5, none⟩ = some (.slice da c.dest.length dc) := HE.out.1.at (j := 5) rfl
  have x6 : w7.cell? ⟨q1, 6, none⟩ = some (.string (bA c.pat)) := HE.out.1.at (j := 6) rfl
  have x7 : w7.cell? ⟨q1, 7, none⟩ = some (.string (bA c.rep)) := HE.out.1.at (j := 7) rfl
  have x8 : w7.cell? ⟨q1, 8, none⟩ = some (.string (bA c.flags)) := HE.out.1.at (j := 8) rfl
  have x9 : w7.cell? ⟨q1, 9, none⟩ = some (.string (bA c.arg)) := HE.out.1.at (j := 9) rfl
  have y0 : w7.cell? ⟨q2, 0, none⟩ = some (.slice rb c.rg.length rd) := HE.out.2.1.at (j := 0) rfl
  have y1 : w7.cell? ⟨q2, 1, none⟩ = some (.string (bA c.name)) := HE.out.2.1.at (j := 1) rfl
  have y2 : w7.cell? ⟨q2, 2, none⟩ = some (.bool c.bang) := HE.out.2.1.at (j := 2) rfl
  have y3 : w7.cell? ⟨q2, 3, none⟩ = some (.int .u8 (c.reg : Int)) := HE.out.2.1.at (j := 3) rfl
  have y4 : w7.cell? ⟨q2, 4, none⟩ = some (.int .i64 c.cnt) := HE.out.2.1.at (j := 4) rfl
  have y5 : w7.cell? ⟨q2, 5, none⟩ = some (.slice db c.dest.length dd) := HE.out.2.1.at (j := 5) rfl
  have y6 : w7.cell? ⟨q2, 6, none⟩ = some (.string (bA c.pat)) := HE.out.2.1.at (j := 6) rfl
  have y7 : w7.cell? ⟨q2, 7, none⟩ = some (.string (bA c.rep)) := HE.out.2.1.at (j := 7) rfl
  have y8 : w7.cell? ⟨q2, 8, none⟩ = some (.string (bA c.flags)) := HE.out.2.1.at (j := 8) rfl
  have y9 : w7.cell? ⟨q2, 9, none⟩ = some (.string (bA c.arg)) := HE.out.2.1.at (j := 9) rfl
  have HX : Hid (Kp w w7) := HE.out.2.2
  clear HE
  go_wp2_with fail
  refine Calls.mono HS.out ?_
  rintro e w8 ⟨rfl, k⟩
  have HZ : Hid (Kp w w8) := kp_trans HX.out k
  clear k HS HX x0 x1 x2 x3 x4 x5 x6 x7 x8 x9 y0 y1 y2 y3 y4 y5 y6 y7 y8 y9
  go_wp2_with fail
  go_ret
  exact ⟨rfl, HZ.out⟩
set_option maxHeartbeats 8000000 in
theorem wo_low {k i : Nat} (s : ByteArray) (hk : k < 256) (hi : i < 15) (hm : k % 15 = i) (hs : s.size ≤ 100) (h0 : 0 < s.size) (hc : 97 ≤ (s[0]'h0).toNat) (hd : (s[0]'h0).toNat ≤ 122) (hw : Gs w) : Calls Tryz.prog 4 #[.int .u8 (k : Int), .string s] w fun e w' => e = .returned (.bool true) ∧ Kp w w' := by
  have H1 : Hid (Calls Tryz.prog 11 #[] w fun e w' => e = .returned (.bool true) ∧ Kp w w') := known_any hw
  have hm1 : ((k : Int)).tmod 15 = (i : Int) := by rw [Int.tmod_eq_emod_of_nonneg (by omega)]; omega
  have hm2 : ((k : Int)) % 15 = (i : Int) := by omega
  have g1 : decide ((s.size : Int) > 100) = false := decide_eq_false (by omega)
  have g2 : decide ((100 : Int) < (s.size : Int)) = false := decide_eq_false (by omega)
  have g3 : decide (100 < s.size) = false := decide_eq_false (by omega)
  have f0 : s.toList.isEmpty = false := by
    rw [Lib.toList_data]; cases h : s.data.toList with
    | nil =>
      have q : s.size = 0 := by rw [Lib.size_eq, h]; rfl
      omega
    | cons a r => rfl
  have f1 : decide ((97 : Int) ≤ ((s[0]'h0).toNat : Int)) = true := decide_eq_true (by omega)
  have f2 : decide (((s[0]'h0).toNat : Int) ≤ 122) = true := decide_eq_true (by omega)
  have f3 : (((s[0]'h0).toNat : Int) == 33) = false := by rw [beq_eq_false_iff_ne]; omega
  have f4 : decide ((s[0]'h0).toNat ≤ 122) = true := decide_eq_true (by omega)
  clear hw hm
  go_enter Tryz.func4, Tryz.ntmps4
  go_wp2_with fail
  refine Calls.mono H1.out ?_
  rintro e w1 ⟨rfl, k1⟩
  have HK : Hid (Kp w w1) := k1
  clear k1 H1
  obtain ⟨b1, hb1⟩ : ∃ b, w1.heap.size = b := ⟨_, rfl⟩
  obtain ⟨V1, hV1⟩ : ∃ z, w1.alloc (.cells #[.string ⟨#[100, 101, 108, 101, 116, 101]⟩, .string ⟨#[109, 111, 118, 101]⟩, .string ⟨#[99, 111, 112, 121]⟩, .string ⟨#[99, 111]⟩, .string ⟨#[106, 111, 105, 110]⟩, .string ⟨#[121, 97, 110, 107]⟩, .string ⟨#[112, 117, 116]⟩, .string ⟨#[109, 97, 114, 107]⟩, .string ⟨#[115, 117, 98, 115, 116, 105, 116, 117, 116, 101]⟩, .string ⟨#[103, 108, 111, 98, 97, 108]⟩, .string ⟨#[118, 103, 108, 111, 98, 97, 108]⟩, .string ⟨#[110, 111, 114, 109, 97, 108]⟩, .string ⟨#[117, 110, 100, 111]⟩, .string ⟨#[114, 101, 100, 111]⟩, .string ⟨#[112, 114, 105, 110, 116]⟩] 9) = z := ⟨_, rfl⟩
  obtain ⟨b2, hb2⟩ : ∃ b, V1.heap.size = b := ⟨_, rfl⟩
  obtain ⟨V2, hV2⟩ : ∃ z, V1.alloc (.cells #[.string ⟨#[100]⟩, .string ⟨#[109]⟩, .string ⟨#[116]⟩, .string ⟨#[116]⟩, .string ⟨#[106]⟩, .string ⟨#[121]⟩, .string ⟨#[112, 117]⟩, .string ⟨#[107]⟩, .string ⟨#[115]⟩, .string ⟨#[103]⟩, .string ⟨#[118]⟩, .string ⟨#[110, 111, 114, 109]⟩, .string ⟨#[117]⟩, .string ⟨#[114, 101, 100]⟩, .string ⟨#[112]⟩] 9) = z := ⟨_, rfl⟩
  have HV : Hid (Kp w V2) := by
    have k1 : Kp w1 V1 := by rw [← hV1]; exact kp_alloc _ _
    have k2 : Kp V1 V2 := by rw [← hV2]; exact kp_alloc _ _
    exact kp_trans HK.out (kp_trans k1 k2)
  clear HK
  go_wp2_with fail
  go_ret
  exact ⟨rfl, HV.out⟩
set_option maxHeartbeats 8000000 in
theorem wo_sgn {k i : Nat} (s : ByteArray) (hk : k < 256) (hi : i < 15) (hm : k % 15 = i) (hs : s.size ≤ 100) (h0 : 0 < s.size) (hc : (s[0]'h0).toNat = 33) (hw : Gs w) : Calls Tryz.prog 4 #[.int .u8 (k : Int), .string s] w fun e w' => e = .returned (.bool true) ∧ Kp w w' := by
  have H1 : Hid (Calls Tryz.prog 11 #[] w fun e w' => e = .returned (.bool true) ∧ Kp w w') := known_any hw
  have hm1 : ((k : Int)).tmod 15 = (i : Int) := by rw [Int.tmod_eq_emod_of_nonneg (by omega)]; omega
  have hm2 : ((k : Int)) % 15 = (i : Int) := by omega
  have g1 : decide ((s.size : Int) > 100) = false := decide_eq_false (by omega)
  have g2 : decide ((100 : Int) < (s.size : Int)) = false := decide_eq_false (by omega)
  have g3 : decide (100 < s.size) = false := decide_eq_false (by omega)
  have f0 : s.toList.isEmpty = false := by
    rw [Lib.toList_data]; cases h : s.data.toList with
    | nil =>
      have q : s.size = 0 := by rw [Lib.size_eq, h]; rfl
      omega
    | cons a r => rfl
  have f1 : decide ((97 : Int) ≤ ((s[0]'h0).toNat : Int)) = false := decide_eq_false (by omega)
  have f2 : decide (((s[0]'h0).toNat : Int) ≥ 97) = false := decide_eq_false (by omega)
  have f3 : (((s[0]'h0).toNat : Int) == 33) = true := by rw [beq_iff_eq]; omega
  have f4 : (97 ≤ (s[0]'h0).toNat) = False := by rw [eq_iff_iff]; exact ⟨fun q => by omega, False.elim⟩
  clear hw hm
  go_enter Tryz.func4, Tryz.ntmps4
  go_wp2_with fail
  refine Calls.mono H1.out ?_
  rintro e w1 ⟨rfl, k1⟩
  have HK : Hid (Kp w w1) := k1
  clear k1 H1
  obtain ⟨b1, hb1⟩ : ∃ b, w1.heap.size = b := ⟨_, rfl⟩
  obtain ⟨V1, hV1⟩ : ∃ z, w1.alloc (.cells #[.string ⟨#[100, 101, 108, 101, 116, 101]⟩, .string ⟨#[109, 111, 118, 101]⟩, .string ⟨#[99, 111, 112, 121]⟩, .string ⟨#[99, 111]⟩, .string ⟨#[106, 111, 105, 110]⟩, .string ⟨#[121, 97, 110, 107]⟩, .string ⟨#[112, 117, 116]⟩, .string ⟨#[109, 97, 114, 107]⟩, .string ⟨#[115, 117, 98, 115, 116, 105, 116, 117, 116, 101]⟩, .string ⟨#[103, 108, 111, 98, 97, 108]⟩, .string ⟨#[118, 103, 108, 111, 98, 97, 108]⟩, .string ⟨#[110, 111, 114, 109, 97, 108]⟩, .string ⟨#[117, 110, 100, 111]⟩, .string ⟨#[114, 101, 100, 111]⟩, .string ⟨#[112, 114, 105, 110, 116]⟩] 9) = z := ⟨_, rfl⟩
  obtain ⟨b2, hb2⟩ : ∃ b, V1.heap.size = b := ⟨_, rfl⟩
  obtain ⟨V2, hV2⟩ : ∃ z, V1.alloc (.cells #[.string ⟨#[100]⟩, .string ⟨#[109]⟩, .string ⟨#[116]⟩, .string ⟨#[116]⟩, .string ⟨#[106]⟩, .string ⟨#[121]⟩, .string ⟨#[112, 117]⟩, .string ⟨#[107]⟩, .string ⟨#[115]⟩, .string ⟨#[103]⟩, .string ⟨#[118]⟩, .string ⟨#[110, 111, 114, 109]⟩, .string ⟨#[117]⟩, .string ⟨#[114, 101, 100]⟩, .string ⟨#[112]⟩] 9) = z := ⟨_, rfl⟩
  have HV : Hid (Kp w V2) := by
    have k1 : Kp w1 V1 := by rw [← hV1]; exact kp_alloc _ _
    have k2 : Kp V1 V2 := by rw [← hV2]; exact kp_alloc _ _
    exact kp_trans HK.out (kp_trans k1 k2)
  clear HK
  go_wp2_with fail
  go_ret
  exact ⟨rfl, HV.out⟩
theorem words_law (k : Nat) (hk : k < 256) (s : ByteArray) {w : World} (hw : Gs w) : Calls Tryz.prog 4 #[.int .u8 (k : Int), .string s] w fun e w' => e = .returned (.bool true) ∧ Kp w w' := by
  by_cases hs : 100 < s.size
  · exact words_big k s hs hw
  · have hs' : s.size ≤ 100 := by omega
    have hi : k % 15 < 15 := Nat.mod_lt _ (by decide)
    by_cases h0 : 0 < s.size
    · have e0 : ∀ c r, s.data.toList = c :: r → c = s[0]'h0 := fun c r e => by
        have : s.data.toList[0]? = some c := by rw [e]; rfl
        have h1 : s.data.toList[0]? = some (s[0]'h0) := by
          rw [List.getElem?_eq_getElem (by rw [← Lib.size_eq]; exact h0)]; rfl
        rw [h1] at this; exact (Option.some.inj this).symm
      by_cases c1 : 97 ≤ (s[0]'h0).toNat
      · by_cases c2 : (s[0]'h0).toNat ≤ 122
        · exact wo_low s hk hi rfl hs' h0 c1 c2 hw
        · obtain ⟨L, S, hW⟩ := wds_of hi hs' (fun c r e => by rw [e0 c r e]; unfold lowB; exact decide_eq_false (by omega))
          exact wo_hi s hk hi rfl hs' hW h0 (by omega) hw
      · by_cases c2 : (s[0]'h0).toNat = 33
        · exact wo_sgn s hk hi rfl hs' h0 c2 hw
        · obtain ⟨L, S, hW⟩ := wds_of hi hs' (fun c r e => by rw [e0 c r e]; unfold lowB; exact decide_eq_false (by omega))
          exact wo_lo s hk hi rfl hs' hW h0 (by omega) c2 hw
    · have hn : s.data.toList = [] := by
        have := Lib.size_eq s
        cases h : s.data.toList with
        | nil => rfl
        | cons a r => rw [h] at this; simp at this; omega
      obtain ⟨L, S, hW⟩ := wds_of hi hs' (fun c r e => by rw [hn] at e; cases e)
      exact wo_e s hk hi rfl hs' hW (by rw [Lib.toList_data, hn]; rfl) hw
end
end Go.Proofs.YtfgapmfjfienhaaGreatDoor
