/- Texts that the proof of the law stands on: QO, QK, QSame, QSam2, QGp, QDg, QRgp, QDh, QRh, QRa. -/
import Derived.Test.YtfgapmfjfienhaaGreatDoorPartF
import Derived.Great.Walk
import Derived.Laws.StructEq
import Derived.Laws.Tables
import Derived.Test.YtfgapmfjfienhaaGreatDoorPartC
/- Names: the walk. -/
namespace Go.Proofs.YtfgapmfjfienhaaGreatDoor
open Go.ChangeShapes Go.WideShapes Go.ChangeAt Go.RowKit Go.Maps Go.MapKept
set_option linter.unusedVariables false
set_option linter.unusedSimpArgs false
set_option maxRecDepth 100000
def nmR (i : Fin 23) : ByteArray := bA (entR i).name
theorem frG {w w' : World} {o : Option Nat} (hg : w.grownBy w' o) : Fr (fun k => some k = o) w w' := ⟨hg.os, hg.tape, hg.output, hg.size, fun k hk hn => hg.block k hk hn⟩
theorem row_tyg {B g : Nat} {v : Value} {ls : List ByteArray} {w : World} (h : Row B v ls w) (t : TyG g w) : ∀ k, v.ownBlock = some k → k ≠ g := by
  intro k hk
  rcases h.2 with ⟨rfl, _⟩ | ⟨g', cap, cur, rfl, hb, hg, _⟩
  · cases hk
  · simp only [Value.ownBlock, Option.some.injEq] at hk
    subst hk
    intro e
    obtain ⟨cur', fr, ht⟩ := t
    rw [e, ht] at hg
    cases hg
section
variable {w : World}
set_option maxHeartbeats 64000000 in
theorem names_any (hw : Gs w) :
    Calls Tryz.prog 16 #[] w fun e w' => ∃ v, e = .returned v ∧ Row w.heap.size v (gud.map nmR) w' ∧ Kp w w' := by
  obtain ⟨i9, hi9, z0, z1, z2⟩ := info_parts infoCom
  have HC : Hid _ := commands_any hw
  clear hw
  go_enter Tryz.func16, Tryz.ntmps16
  go_wp2_with fail
  refine Calls.mono HC.out ?_
  rintro e w2 ⟨bm, rfl, hm, k2, b2⟩
  have HA : Hid (Kp w w2 ∧ w.heap.size ≤ bm) := ⟨k2, b2⟩
  clear HC k2 b2
  go_wp2_with (first | (at_range; refine wpl_range rfl _ 59 63 rfl Tryz.underlying59 rfl hm ?_; intro w0 n0 hr0 hk0 hs0) | go_in)
  go_frame
  obtain ⟨r, hr⟩ : ∃ r, w2.heap.size = r := ⟨_, rfl⟩
  have G0 : Hid (Gth bm r (fun x => (mapF tabC x).isSome) (fun x => (mapF tabC x).isSome) n0 [] (.slice none 0 0) w w0) := by
    rw [← hr]
    refine ⟨hr0, World.ownsRow_nil _ _ _ _, List.nodup_nil, fun i => ⟨fun h => (by cases h), fun h => ?_⟩, kp_trans HA.out.1 hk0, HA.out.2, HA.out.1.size⟩
    have h2 := h.2
    rw [mapF_at] at h2
    have e : (bA (entR i).name).data.toList = (entR i).name := by simp [bA]
    rw [e, ent_at i] at h2
    cases h2
  rw [hr]
  clear hr0 hk0 hs0 hm hr
  go_loopw [1] (fun v1 wr => ∃ (left : ByteArray → Bool) (c : Nat) (acc : List (Fin 23)), Hid (Gth bm r left left c acc v1 w wr)) (fun _ wr => wr.rangeLeft bm r)
  case atStart => exact ⟨_, n0, [], G0⟩
  case round =>
    obtain ⟨left, c, acc, HG⟩ := hrel
    clear G0
    obtain ⟨va, vc, rfl, v1, v2⟩ := owns_form HG.out.row
    have hrg := HG.out.rg
    have hme : wr.rangeLeft bm r = c := hrg.left_eq
    go_wp2_with (first | (at_next; refine wpl_next rfl _ rfl rfl hrg ?_ ?_) | go_in)
    · intro hl
      have hp : acc.Perm gud := perm_gud HG.out.nd fun i => by rw [HG.out.mem i]; exact ⟨fun h => h.1, fun h => ⟨h, hl _⟩⟩
      have HN : Hid _ := nsort_any HG.out.row hp
      have HKw : Hid (Kp w wr) := HG.out.kp
      have hal : acc.length = 16 := by rw [hp.length_eq, gud_len]
      rw [hal] at HN ⊢
      clear HG hrg hme hl hp hal v1
      go_wp2_with fail
      refine Calls.mono HN.out ?_
      rintro e w3 ⟨rfl, g, rfl, hB, f3, hH, hty⟩
      have HX : Hid (Kp w w3 ∧ Sort.HoldsK enR 4 w3 g 0 gud.toArray ∧ TyG g w3) := ⟨kp_on HKw.out f3 hB, hH, hty⟩
      have HgB : Hid (w.heap.size ≤ g) := hB
      clear HN HKw hB f3 hH hty
      go_wp2_with fail
      go_loopw [4, 31] (fun v4 v31 wx => ∃ j : Nat, j ≤ 16 ∧ v31 = .int .i64 (j : Int) ∧ Hid (Row w.heap.size v4 ((gud.take j).map nmR) wx ∧ Kp w wx ∧ Sort.HoldsK enR 4 wx g 0 gud.toArray ∧ TyG g wx)) (fun _ v31 _ => 16 - (intOf v31).toNat)
      case atStart => exact ⟨0, Nat.zero_le _, rfl, World.ownsRow_nil _ _ _ _, HX.out⟩
      case round =>
        clear HX
        obtain ⟨j, hj, rfl, HI⟩ := hrel
        obtain ⟨na, nc, rfl, n1, n2⟩ := HI.out.1.form
        by_cases hlt : j < 16
        · have g1 : decide ((j : Int) < 16) = true := decide_eq_true (by omega)
          have hjg : j < gud.length := by rw [gud_len]; exact hlt
          obtain ⟨i, hi⟩ : ∃ i, gud[j]? = some i := ⟨gud[j], List.getElem?_eq_getElem hjg⟩
          have hel : gud.toArray[j]! = i := by
            obtain ⟨hl, e⟩ := List.getElem?_eq_some_iff.1 hi
            simp [getElem!_pos, hl, e]
          have HRg : Hid (wr.rangeAt g (j * 4) (enR i)) := fun t u ht => by
            have h4 : t < 4 := (List.getElem?_eq_some_iff.1 ht).1
            have := (HI.out.2.2.1.cell (i := j) (c := t) (by simpa using hjg) h4).1
            rw [hel, Nat.zero_add] at this
            rw [this]
            obtain ⟨hl, e⟩ := List.getElem?_eq_some_iff.1 ht
            rw [getElem!_pos (enR i) t hl, e]
          have htk : (gud.take (j + 1)).map nmR = (gud.take j).map nmR ++ [nmR i] := by
            rw [List.take_add_one, hi]; simp
          have HTk : Hid _ := htk
          have hlen : ((gud.take j).map nmR).length = j := by rw [List.length_map, List.length_take]; omega
          obtain ⟨q, hq⟩ : ∃ q, wr.heap.size = q := ⟨_, rfl⟩
          obtain ⟨W4, hW4⟩ : ∃ z, wr.alloc (.cells #[.string ⟨#[]⟩, .int .i64 0, .bool false, .nilFunc] 63) = z := ⟨_, rfl⟩
          have HQ : Hid (Row w.heap.size (.slice na j nc) ((gud.take j).map nmR) W4 ∧ Kp w W4 ∧ Sort.HoldsK enR 4 W4 g 0 gud.toArray ∧ TyG g W4 ∧ Lc 63 q zeC W4 ∧ w.heap.size ≤ q ∧ g < q ∧ (∀ x, (Value.slice na j nc).ownBlock = some x → x ≠ q)) := by
            have k := kp_alloc wr (.cells #[.string ⟨#[]⟩, .int .i64 0, .bool false, .nilFunc] 63)
            rw [hW4] at k
            have hr := HI.out.1
            rw [hlen] at hr
            refine ⟨row_kp hr k, kp_trans HI.out.2.1 k, holds_fr HI.out.2.2.1 HI.out.2.2.2 (Fr.of_below k) (S := fun _ => False) (fun h => h), HI.out.2.2.2.fr (Fr.of_below k) (S := fun _ => False) (fun h => h), by rw [← hW4, ← hq]; exact Lc.new wr zeC 63, by rw [← hq]; exact HI.out.2.1.size, ?_, fun x hx e => by have := (hr.lt x hx).2; omega⟩
            obtain ⟨cur, fr, ht⟩ := HI.out.2.2.2
            rw [← hq]; exact (Array.getElem?_eq_some_iff.1 ht).1
          rw [hlen] at *
          clear hlen htk hi hel hjg HI n1 n2
          go_upto_region 12 with (first | (refine wpList_store_box HQ.out.2.2.2.2.1 0 (enR i) rfl 63 (.tmp 6) (.tmp 34) rfl rfl rfl (Nat.le_refl 4) sizeCom (enR_one i) rfl ?_; intro w5 q1 q2 q3; have HT : Hid (Row w.heap.size (.slice na j nc) ((gud.take j).map nmR) w5 ∧ Kp w w5 ∧ Sort.HoldsK enR 4 w5 g 0 gud.toArray ∧ TyG g w5 ∧ Lc 63 q (enR i) w5) := ⟨row_fr HQ.out.1 q2 (fun x hx hn => HQ.out.2.2.2.2.2.2.2 x hx hn), kp_on HQ.out.2.1 q2 HQ.out.2.2.2.2.2.1, holds_fr HQ.out.2.2.1 HQ.out.2.2.2.1 q2 (by unfold On; have := HQ.out.2.2.2.2.2.2.1; omega), HQ.out.2.2.2.1.fr q2 (by unfold On; have := HQ.out.2.2.2.2.2.2.1; omega), q1⟩; clear q1 q2 q3) | (refine wpList_load_mid rfl 63 (.tmp 33) rfl g (j * 4) rfl (enR i) _ HRg.out Tryz.underlying63 rfl sizeCom ?_))
          clear HQ HRg hq hW4
          have c0 : w5.cell? ⟨q, 0, none⟩ = some (.string (nmR i)) := HT.out.2.2.2.2.at (j := 0) rfl
          have kA := kp_alloc w5 (.cells #[.string (nmR i)] 9)
          have HR : Hid (Row w.heap.size (.slice na j nc) ((gud.take j).map nmR) (w5.alloc (.cells #[.string (nmR i)] 9))) := row_kp HT.out.1 kA
          have HS : Hid (Sl (fun _ => True) (.slice (some ⟨w5.heap.size, 0, none⟩) 1 1) [nmR i] (w5.alloc (.cells #[.string (nmR i)] 9))) := ⟨_, 1, rfl, Nat.le_refl _, by simp [maxLen], fun e => (by cases e), fun t u ht => ⟨w5.heap.size, 0, rfl, trivial, by
            rw [cell_at (alloc_new w5 _), Nat.zero_add]
            cases t with
            | zero => cases ht; rfl
            | succ t => simp at ht⟩⟩
          have HB : Hid (((gud.take j).map nmR).length + [nmR i].length = j + 1 ∧ w.heap.size ≤ (w5.alloc (.cells #[.string (nmR i)] 9)).heap.size) := ⟨by rw [List.length_map, List.length_take, gud_len]; simp; omega, (kp_trans HT.out.2.1 kA).size⟩
          have HA2 : Hid (∀ w', (w5.alloc (.cells #[.string (nmR i)] 9)).grownBy w' (Value.slice na j nc).ownBlock → Kp w w' ∧ Sort.HoldsK enR 4 w' g 0 gud.toArray ∧ TyG g w') := fun w' hg => by
            have ht := HT.out.2.2.2.1.fr (Fr.of_below kA) (S := fun _ => False) (fun h => h)
            have hh := holds_fr HT.out.2.2.1 HT.out.2.2.2.1 (Fr.of_below kA) (S := fun _ => False) (fun h => h)
            have hn : ¬ some g = (Value.slice na j nc).ownBlock := fun e => row_tyg HR.out ht g e.symm rfl
            exact ⟨(kp_trans HT.out.2.1 kA).trans (below_grown HR.out HB.out.2 hg), holds_fr hh ht (frG hg) hn, ht.fr (frG hg) hn⟩
          have hj1 : j + 1 ≤ 8796093022208 := by omega
          clear HT kA
          go_wp2_with (at_builtin; refine wpl_str (K := j + 1) rfl (.tmp 35) (.tmp 38) rfl rfl HR.out rfl HS.out HB.out.1 hj1 HB.out.2 ?_; intro a' c' w' hk1 hk2 q1 q2; obtain ⟨x1, x2, x3⟩ := HA2.out w' q2; have HF : Hid (Row w.heap.size (.slice a' (j + 1) c') ((gud.take (j + 1)).map nmR) w' ∧ Kp w w' ∧ Sort.HoldsK enR 4 w' g 0 gud.toArray ∧ TyG g w') := ⟨by rw [HTk.out]; exact q1, x1, x2, x3⟩; clear q1 q2 x1 x2 x3 hk1 hk2)
          exact ⟨⟨j + 1, by omega, by go_num, HF.out⟩, by show 16 - (((j : Int) + 1).toNat) < 16 - ((j : Int).toNat); omega⟩
        · obtain rfl : j = 16 := by omega
          have g1 : decide (((16 : Nat) : Int) < 16) = false := by decide
          have HF : Hid (Row w.heap.size (.slice na ((gud.take 16).map nmR).length nc) (gud.map nmR) wr ∧ Kp w wr) := by
            refine ⟨?_, HI.out.2.1⟩
            have := HI.out.1
            rw [List.take_of_length_le (Nat.le_of_eq gud_len)] at this ⊢
            exact this
          clear HI hlt hj n1 n2
          go_wp2_with fail
          go_ret
          exact ⟨_, rfl, HF.out⟩
    · intro y u w3 c2 y0 hly hy hr2 hlt2 hf2 hs2 hen
      rw [mapF_at] at hy
      obtain ⟨en, he1, he2⟩ := Option.map_eq_some_iff.1 hy
      obtain ⟨i, rfl⟩ := tabF_ent he1
      subst he2
      have hen2 : (Instr.entry (.pointer (some ⟨r, 0, none⟩))).run Tryz.prog w3 = .ok (.tuple #[.string y, .agg #[.string (bA (entR i).name), .int .i64 (i.val : Int), .bool (entR i).bold, .func (.func (flN (entR i).fl)) #[] #[]]]) w3 := hen
      have HME : Hid (c2 < c) := hlt2
      obtain ⟨q, hq⟩ : ∃ q, w3.heap.size = q := ⟨_, rfl⟩
      obtain ⟨W4, hW4⟩ : ∃ z, w3.alloc (.cells #[.string ⟨#[]⟩, .int .i64 0, .bool false, .nilFunc] 63) = z := ⟨_, rfl⟩
      have HS : Hid (Gth bm r (fun z => left z && !decide (z = y)) left c2 acc (.slice va acc.length vc) w W4 ∧ Lc 63 q zeC W4 ∧ w.heap.size ≤ q ∧ (∀ j, (Value.slice va acc.length vc).ownBlock = some j → j ≠ q)) := by
        have h3 := HG.out.step hr2 hf2
        rw [← hW4, ← hq]
        exact ⟨h3.keep (kp_alloc _ _), Lc.new w3 zeC 63, h3.kp.size, fun j hj e => by have := (h3.row.lt j hj).2; omega⟩
      have HY : Hid (tabF y.data.toList = some (entR i) ∧ left y = true ∧ y.size ≤ maxLen) := ⟨he1, hly, y0⟩
      clear HG hrg hy he1 hf2 hs2 hly hlt2 hen hr2 y0
      go_upto_region 5 with (refine wpList_store_box HS.out.2.1 0 [.string (bA (entR i).name), .int .i64 (i.val : Int), .bool (entR i).bold, .func (.func (flN (entR i).fl)) #[] #[]] rfl 63 (.tmp 3) (.tmp 13) rfl rfl rfl (Nat.le_refl 4) sizeCom (one4 ⟨rfl, rfl, rfl, rfl⟩) rfl ?_; intro w5 q1 q2 q3; have HT : Hid (Gth bm r (fun z => left z && !decide (z = y)) left c2 acc (.slice va acc.length vc) w w5 ∧ Lc 63 q (enR i) w5) := ⟨HS.out.1.off HS.out.2.1 HS.out.2.2.1 HS.out.2.2.2 q2, q1⟩; clear q1 q2 q3)
      clear HS hq hW4 hen2
      obtain ⟨NM, hNM⟩ : ∃ NM, bA (entR i).name = NM := ⟨_, rfl⟩
      have c0 : w5.cell? ⟨q, 0, none⟩ = some (.string NM) := by rw [← hNM]; exact HT.out.2.at (j := 0) rfl
      have HNM : Hid (bA (entR i).name = NM) := hNM
      by_cases he : y = NM
      · have hpos : 0 < NM.size := by
          rw [← hNM]
          have := ent_ne i
          show 0 < (entR i).name.toArray.size
          rw [List.size_toArray]
          exact List.length_pos_iff.2 this
        have hb0 : ((NM[0]'hpos).toNat : Int) = (((entR i).name.headD 0).toNat : Int) := by
          have h1 := byteAt_eq NM 0 hpos
          have h2 : byteAt NM 0 = ((entR i).name.headD 0).toNat := by
            rw [← hNM]
            cases hn : (entR i).name with
            | nil => exact absurd hn (ent_ne i)
            | cons a r => rfl
          rw [← h1, h2]
        have HK : Hid (∀ z, Calls Tryz.prog 27 #[.int .u8 108, .int .u8 ((NM[0]'hpos).toNat : Int)] z fun e w' => e = .returned (.bool (decide (i.val < 16))) ∧ Kp z w') := fun z => by
          have := kIs_any (k := 108) (c := ((NM[0]'hpos).toNat : Int)) (w := z)
          rw [hb0, ent_let i] at this
          rw [hb0]
          exact this
        have hp1 : (0 < NM.size) = True := by simpa using hpos
        subst he
        clear hb0 hNM
        go_wp2_with fail
        refine Calls.mono (HK.out _) ?_
        rintro e w6 ⟨rfl, k6⟩
        have HU : Hid (Gth bm r (fun z => left z && !decide (z = y)) left c2 acc (.slice va acc.length vc) w w6 ∧ Lc 63 q (enR i) w6) := ⟨HT.out.1.keep k6, HT.out.2.kp k6⟩
        clear HT HK k6 c0
        by_cases hlt : i.val < 16
        · have hd : decide (i.val < 16) = true := decide_eq_true hlt
          rw [hd]
          clear hd
          have HR : Hid ((w6.alloc (.cells (enR i).toArray 63)).ownsRow w.heap.size 63 4 (.slice va acc.length vc) acc.length (rowR acc)) := row_kp HU.out.1.row (kp_alloc _ _)
          have HB : Hid (w.heap.size ≤ (w6.alloc (.cells (enR i).toArray 63)).heap.size) := Nat.le_trans HU.out.1.kp.size (by rw [alloc_size]; omega)
          have HV : Hid _ := HU.out.1.keep (kp_alloc w6 (.cells (enR i).toArray 63))
          have HN6 : Hid (∀ (t : Nat) (u : Value), (enR i)[t]? = some u → (w6.alloc (.cells (enR i).toArray 63)).cell? ((⟨w6.heap.size, 0, none⟩ : Addr).add t) = some u) := by
            intro t u ht
            rw [addr_add, cell_at (alloc_new w6 _)]
            simpa using ht
          have hal : acc.length ≤ 23 := by
            have h1 := HU.out.1.nd.length_le_of_subset (l₂ := List.finRange 23) (fun x _ => List.mem_finRange x)
            simpa using h1
          go_wp2_with (first | (at_builtin; refine wpList_append_own _ rfl (.tmp 23) (.tmp 25) 58 rfl w.heap.size 63 i9 _ 4 40 Tryz.underlying58 hi9 z0 z1 z2 rfl (by decide) (.slice va acc.length vc) acc.length (rowR acc) rfl HR.out ⟨w6.heap.size, 0, none⟩ 1 1 (enR i) rfl rfl HN6.out (enR_one i) (by unfold maxLen; omega) (by omega) HB.out ?_; intro v9 w9 q1 q2 q3; clear q3; have HF : Hid _ := HV.out.more hlt HNM.out.symm HY.out.2.1 q1 q2; obtain ⟨a9, c9, rfl, q4, q5⟩ := owns_form q1; clear q1 q2 q4 q5) | (refine Great.wpList_buildSliceTo rfl 58 63 1 #[(0, .tmp 24)] rfl w6.heap.size rfl (some 25) rfl Tryz.underlying58 (enR i).toArray (by kernel_rfl) ?_) | (refine wpList_load_box HU.out.2 0 (enR i) rfl 63 (.tmp 3) rfl rfl rfl _ Tryz.underlying63 rfl sizeCom ?_))
          exact ⟨⟨_, c2, _, HF.out⟩, by rw [HF.out.rg.left_eq, hme]; exact HME.out⟩
        · have hd : decide (i.val < 16) = false := decide_eq_false hlt
          rw [hd]
          have HF : Hid _ := HU.out.1.no HY.out.1 (fun q => hlt q.2)
          clear hd HU hlt
          go_wp2_with fail
          exact ⟨⟨_, c2, _, HF.out⟩, by rw [HF.out.rg.left_eq, hme]; exact HME.out⟩
      · have hl : y.toList ≠ NM.toList := fun q => he (by
          rw [Lib.toList_data, Lib.toList_data] at q
          exact ByteArray.ext (Array.toList_inj.1 q))
        have g1 : (y.toList == NM.toList) = false := beq_eq_false_iff_ne.2 hl
        have g2 : decide (y.toList = NM.toList) = false := decide_eq_false hl
        have g3 : decide (y = NM) = false := decide_eq_false he
        clear hl
        have HF : Hid _ := HT.out.1.no HY.out.1 (fun q => he (q.1.trans HNM.out))
        clear HT hNM
        go_wp2_with fail
        exact ⟨⟨_, c2, _, HF.out⟩, by rw [HF.out.rg.left_eq, hme]; exact HME.out⟩
end
end Go.Proofs.YtfgapmfjfienhaaGreatDoor
/- The laws' known(). -/
namespace Go.Proofs.YtfgapmfjfienhaaGreatDoor
open Go.ChangeShapes Go.WideShapes Go.ChangeAt Go.RowKit Go.Maps Go.MapKept
set_option linter.unusedVariables false
set_option linter.unusedSimpArgs false
set_option maxRecDepth 100000
def zmC : List Value := cmC { cnt := 0 } (.slice none 0 0) (.slice none 0 0)
section
variable {w w1 : World}
/-- Parse at a text of which it is known what it says. -/
theorem parse_at (s : ByteArray) (hs : s.size ≤ 1000000) {n : Nat} {c : CmP} (h : cmdL s.data.toList = (n, c)) (hw : Gs w) :
    Calls Tryz.prog 12 #[.string s] w fun e w' => ∃ ra rc da dc, e = .returned (.tuple #[.agg (cmC c (.slice ra c.rg.length rc) (.slice da c.dest.length dc)).toArray, .int .u16 (n : Int)]) ∧
      Hid (w'.ownsRow w.heap.size 43 6 (.slice ra c.rg.length rc) c.rg.length (adCs c.rg) ∧ w'.ownsRow w.heap.size 43 6 (.slice da c.dest.length dc) c.dest.length (adCs c.dest) ∧ Kp w w') := by
  refine (cparse_any s hs w hw).mono ?_
  intro e w' q
  unfold CpR at q
  rw [h] at q
  obtain ⟨rv, dv, rfl, h1, h2, h3⟩ := q
  obtain ⟨ra, rc, rfl, _, _⟩ := owns_form h1
  obtain ⟨da, dc, rfl, _, _⟩ := owns_form h2
  exact ⟨ra, rc, da, dc, rfl, h1, h2, h3⟩
theorem kn1 : cmdL [37, 115, 47, 97, 92, 47, 98, 47, 99, 47, 103, 32, 51] = (0, { rg := [{ kd := 1, n := 1 }, { kd := 3 }], name := [115], cnt := 3, pat := [97, 47, 98], rep := [99], flags := [103], arg := [61] }) := by decide +kernel
theorem kn2 : cmdL [100, 120] = (0, { name := [100], reg := 120 }) := by decide +kernel
theorem kn3 : cmdL [122, 122] = (150, { cnt := 0 }) := by decide +kernel
/-- A command that is kept in a box of its own. -/
theorem box_new (w : World) : Lc 27 w.heap.size zmC (w.alloc (.cells #[.slice none 0 0, .string ⟨#[]⟩, .bool false, .int .u8 0, .int .i64 0, .slice none 0 0, .string ⟨#[]⟩, .string ⟨#[]⟩, .string ⟨#[]⟩, .string ⟨#[]⟩] 27)) := Lc.new w zmC 27
set_option maxHeartbeats 32000000 in
theorem known_any (hw : Gs w) : Calls Tryz.prog 11 #[] w fun e w' => e = .returned (.bool true) ∧ Kp w w' := by
  have H1 : Hid (Calls Tryz.prog 12 #[.string ⟨#[37, 115, 47, 97, 92, 47, 98, 47, 99, 47, 103, 32, 51]⟩] w _) := parse_at ⟨#[37, 115, 47, 97, 92, 47, 98, 47, 99, 47, 103, 32, 51]⟩ (by decide) kn1 hw
  have H2 : Hid (∀ z, Gs z → Calls Tryz.prog 12 #[.string ⟨#[100, 120]⟩] z _) := fun z hz => parse_at ⟨#[100, 120]⟩ (by decide) kn2 hz
  have H3 : Hid (∀ z, Gs z → Calls Tryz.prog 12 #[.string ⟨#[122, 122]⟩] z _) := fun z hz => parse_at ⟨#[122, 122]⟩ (by decide) kn3 hz
  have H4 : Hid (∀ z, Gs z → Calls Tryz.prog 16 #[] z fun e w' => ∃ v, e = .returned v ∧ Row z.heap.size v (gud.map nmR) w' ∧ Kp z w') := fun z hz => names_any hz
  have Hg : Hid (∀ z, Kp w z → Gs z) := fun z k => hw.kp k
  clear hw
  go_enter Tryz.func11, Tryz.ntmps11
  go_wp2_with fail
  refine Calls.mono H1.out ?_
  rintro e w1 ⟨ra, rc, da, dc, rfl, HA⟩
  clear H1
  obtain ⟨q1, hq1⟩ : ∃ q, w1.heap.size = q := ⟨_, rfl⟩
  obtain ⟨V1, hV1⟩ : ∃ z, w1.alloc (.cells #[.slice none 0 0, .string ⟨#[]⟩, .bool false, .int .u8 0, .int .i64 0, .slice none 0 0, .string ⟨#[]⟩, .string ⟨#[]⟩, .string ⟨#[]⟩, .string ⟨#[]⟩] 27) = z := ⟨_, rfl⟩
  have HB : Hid (Lc 27 q1 zmC V1 ∧ Kp w V1 ∧ w.heap.size ≤ q1) := by
    rw [← hV1, ← hq1]; exact ⟨box_new w1, kp_trans HA.out.2.2 (kp_alloc _ _), HA.out.2.2.size⟩
  go_wp2_with (refine wpList_store_box HB.out.1 0 (cmC { rg := [{ kd := 1, n := 1 }, { kd := 3 }], name := [115], cnt := 3, pat := [97, 47, 98], rep := [99], flags := [103], arg := [61] } (.slice ra 2 rc) (.slice da 0 dc)) rfl 27 (.tmp 1) (.tmp 9) rfl rfl rfl (Nat.le_refl 10) sizeCmd (cmC_one _ _ _ _ _ _ _) rfl ?_; intro w2 x1 x2 x3; have HC : Hid (Lc 27 q1 (cmC { rg := [{ kd := 1, n := 1 }, { kd := 3 }], name := [115], cnt := 3, pat := [97, 47, 98], rep := [99], flags := [103], arg := [61] } (.slice ra 2 rc) (.slice da 0 dc)) w2 ∧ Kp w w2) := ⟨x1, kp_on HB.out.2.1 x2 HB.out.2.2⟩; clear x1 x2 x3)
  clear HA HB hq1 hV1
  refine Calls.mono (H2.out _ (Hg.out _ HC.out.2)) ?_
  rintro e w3 ⟨rb, rd, db, dd, rfl, HA⟩
  clear H2
  obtain ⟨q2, hq2⟩ : ∃ q, w3.heap.size = q := ⟨_, rfl⟩
  obtain ⟨V2, hV2⟩ : ∃ z, w3.alloc (.cells #[.slice none 0 0, .string ⟨#[]⟩, .bool false, .int .u8 0, .int .i64 0, .slice none 0 0, .string ⟨#[]⟩, .string ⟨#[]⟩, .string ⟨#[]⟩, .string ⟨#[]⟩] 27) = z := ⟨_, rfl⟩
  have HB : Hid (Lc 27 q2 zmC V2 ∧ Kp w V2 ∧ w.heap.size ≤ q2 ∧ Lc 27 q1 (cmC { rg := [{ kd := 1, n := 1 }, { kd := 3 }], name := [115], cnt := 3, pat := [97, 47, 98], rep := [99], flags := [103], arg := [61] } (.slice ra 2 rc) (.slice da 0 dc)) V2 ∧ q1 < q2) := by
    rw [← hV2, ← hq2]; exact ⟨box_new w3, kp_trans (kp_trans HC.out.2 HA.out.2.2) (kp_alloc _ _), Nat.le_trans HC.out.2.size HA.out.2.2.size, (HC.out.1.kp HA.out.2.2).kp (kp_alloc _ _), (HC.out.1.kp HA.out.2.2).lt⟩
  go_wp2_with (refine wpList_store_box HB.out.1 0 (cmC { name := [100], reg := 120 } (.slice rb 0 rd) (.slice db 0 dd)) rfl 27 (.tmp 3) (.tmp 13) rfl rfl rfl (Nat.le_refl 10) sizeCmd (cmC_one _ _ _ _ _ _ _) rfl ?_; intro w4 x1 x2 x3; have HD : Hid (Lc 27 q2 (cmC { name := [100], reg := 120 } (.slice rb 0 rd) (.slice db 0 dd)) w4 ∧ Kp w w4 ∧ Lc 27 q1 (cmC { rg := [{ kd := 1, n := 1 }, { kd := 3 }], name := [115], cnt := 3, pat := [97, 47, 98], rep := [99], flags := [103], arg := [61] } (.slice ra 2 rc) (.slice da 0 dc)) w4) := ⟨x1, kp_on HB.out.2.1 x2 HB.out.2.2.1, HB.out.2.2.2.1.fr x2 (by unfold On; have := HB.out.2.2.2.2; omega)⟩; clear x1 x2 x3)
  clear HA HB hq2 hV2 HC
  refine Calls.mono (H3.out _ (Hg.out _ HD.out.2.1)) ?_
  rintro e w5 ⟨rx, ry, dx, dy, rfl, HA⟩
  clear H3
  obtain ⟨q3, hq3⟩ : ∃ q, w5.heap.size = q := ⟨_, rfl⟩
  obtain ⟨V3, hV3⟩ : ∃ z, w5.alloc (.cells #[.slice none 0 0, .string ⟨#[]⟩, .bool false, .int .u8 0, .int .i64 0, .slice none 0 0, .string ⟨#[]⟩, .string ⟨#[]⟩, .string ⟨#[]⟩, .string ⟨#[]⟩] 27) = z := ⟨_, rfl⟩
  have HB : Hid (Lc 27 q3 zmC V3 ∧ Kp w V3 ∧ w.heap.size ≤ q3 ∧ Lc 27 q1 (cmC { rg := [{ kd := 1, n := 1 }, { kd := 3 }], name := [115], cnt := 3, pat := [97, 47, 98], rep := [99], flags := [103], arg := [61] } (.slice ra 2 rc) (.slice da 0 dc)) V3 ∧ Lc 27 q2 (cmC { name := [100], reg := 120 } (.slice rb 0 rd) (.slice db 0 dd)) V3 ∧ q1 < q3 ∧ q2 < q3) := by
    rw [← hV3, ← hq3]; exact ⟨box_new w5, kp_trans (kp_trans HD.out.2.1 HA.out.2.2) (kp_alloc _ _), Nat.le_trans HD.out.2.1.size HA.out.2.2.size, (HD.out.2.2.kp HA.out.2.2).kp (kp_alloc _ _), (HD.out.1.kp HA.out.2.2).kp (kp_alloc _ _), (HD.out.2.2.kp HA.out.2.2).lt, (HD.out.1.kp HA.out.2.2).lt⟩
  go_upto_region 4 with (refine wpList_store_box HB.out.1 0 (cmC { cnt := 0 } (.slice rx 0 ry) (.slice dx 0 dy)) rfl 27 (.tmp 5) (.tmp 17) rfl rfl rfl (Nat.le_refl 10) sizeCmd (cmC_one _ _ _ _ _ _ _) rfl ?_; intro w6 x1 x2 x3; have HE : Hid (Kp w w6 ∧ Lc 27 q1 (cmC { rg := [{ kd := 1, n := 1 }, { kd := 3 }], name := [115], cnt := 3, pat := [97, 47, 98], rep := [99], flags := [103], arg := [61] } (.slice ra 2 rc) (.slice da 0 dc)) w6 ∧ Lc 27 q2 (cmC { name := [100], reg := 120 } (.slice rb 0 rd) (.slice db 0 dd)) w6) := ⟨kp_on HB.out.2.1 x2 HB.out.2.2.1, HB.out.2.2.2.1.fr x2 (by unfold On; have := HB.out.2.2.2.2.2.1; omega), HB.out.2.2.2.2.1.fr x2 (by unfold On; have := HB.out.2.2.2.2.2.2; omega)⟩; clear x1 x2 x3)
  clear HA HB hq3 hV3 HD
  have c6 : w6.cell? ⟨q1, 6, none⟩ = some (.string ⟨#[97, 47, 98]⟩) := HE.out.2.1.at (j := 6) rfl
  have c7 : w6.cell? ⟨q1, 7, none⟩ = some (.string ⟨#[99]⟩) := HE.out.2.1.at (j := 7) rfl
  have c8 : w6.cell? ⟨q1, 8, none⟩ = some (.string ⟨#[103]⟩) := HE.out.2.1.at (j := 8) rfl
  have c4 : w6.cell? ⟨q1, 4, none⟩ = some (.int .i64 3) := HE.out.2.1.at (j := 4) rfl
  have d3 : w6.cell? ⟨q2, 3, none⟩ = some (.int .u8 120) := HE.out.2.2.at (j := 3) rfl
  have HK : Hid (Kp w w6) := HE.out.1
  clear HE
  go_wp2_with fail
  refine Calls.mono (H4.out _ (Hg.out _ HK.out)) ?_
  rintro e w7 ⟨v, rfl, hv, k7⟩
  obtain ⟨va, vc, rfl, _, _⟩ := hv.form
  have hlen : (gud.map nmR).length = 16 := by rw [List.length_map, gud_len]
  rw [hlen]
  have HX : Hid (Kp w w7) := kp_trans HK.out k7
  clear hv k7 hlen H4 HK Hg
  go_wp2_with fail
  go_ret
  exact ⟨rfl, HX.out⟩
end
end Go.Proofs.YtfgapmfjfienhaaGreatDoor
/- The document's Same: of commands that say the same. -/
namespace Go.Proofs.YtfgapmfjfienhaaGreatDoor
open Go.ChangeShapes Go.WideShapes Go.ChangeAt Go.RowKit Go.Maps Go.MapKept
set_option linter.unusedVariables false
set_option linter.unusedSimpArgs false
set_option maxRecDepth 100000
section
variable {w : World}
theorem eqAd (k n c o : Int) (p : ByteArray) (b : Bool) (w : World) : Sem.run Tryz.prog (Op.equal 43 (.agg #[.int .u8 k, .int .i64 n, .int .u8 c, .string p, .int .i64 o, .bool b]) (.agg #[.int .u8 k, .int .i64 n, .int .u8 c, .string p, .int .i64 o, .bool b])) w = .ok true w := by
  have u3 := Tryz.underlying3
  have a3 := Tryz.isAgg3
  have z3 := Tryz.sizeOf3
  have u5 := Tryz.underlying5
  have a5 := Tryz.isAgg5
  have z5 := Tryz.sizeOf5
  have u9 := Tryz.underlying9
  have a9 := Tryz.isAgg9
  have z9 := Tryz.sizeOf9
  have u4 := Tryz.underlying4
  have a4 := Tryz.isAgg4
  have z4 := Tryz.sizeOf4
  have hS : Tryz.prog.underlying 43 = some (.struct (Tryz.prog.fieldsOf 43)) := by kernel_rfl
  have hp : Tryz.prog.stoodInHeld 43 = false := by kernel_rfl
  show Sem.run Tryz.prog (Op.equalIn (9999 + 1) 43 _ _) w = _
  rw [run_equalIn_agg w 9999 43 _ _ hS hp]
  simp only [Program.fieldsOf, Tryz.underlying43]
  go_simp
theorem neqAd (k n c o : Int) (p : ByteArray) (b : Bool) (w : World) : Sem.run Tryz.prog (binOp BinOp.neq 43 (.agg #[.int .u8 k, .int .i64 n, .int .u8 c, .string p, .int .i64 o, .bool b]) (.agg #[.int .u8 k, .int .i64 n, .int .u8 c, .string p, .int .i64 o, .bool b])) w = .ok (.bool false) w := by
  simp [binOp, eqAd]
theorem ads_at : ∀ {l : List AdP} {i : Nat} {a : AdP}, l[i]? = some a → ∀ j, j < 6 → (adCs l)[i * 6 + j]? = (adC a)[j]?
  | [], i, a, h, j, hj => by simp at h
  | x :: r, 0, a, h, j, hj => by
    obtain rfl : x = a := by simpa using h
    unfold adCs
    rw [List.flatMap_cons, List.getElem?_append_left (by rw [adC_len]; omega)]
    simp
  | x :: r, i + 1, a, h, j, hj => by
    have := ads_at (l := r) (i := i) (a := a) (by simpa using h) j hj
    unfold adCs at this ⊢
    rw [List.flatMap_cons, List.getElem?_append_right (by rw [adC_len]; omega), adC_len, ← this]
    congr 1; omega
/-- The six cells of an address within a row of its own. -/
structure Six (g i : Nat) (k n c o : Int) (p : ByteArray) (b : Bool) (w : World) : Prop where
  k0 : w.cell? ⟨g, i * 6, none⟩ = some (.int .u8 k)
  k1 : w.cell? ⟨g, i * 6 + 1, none⟩ = some (.int .i64 n)
  k2 : w.cell? ⟨g, i * 6 + 2, none⟩ = some (.int .u8 c)
  k3 : w.cell? ⟨g, i * 6 + 3, none⟩ = some (.string p)
  k4 : w.cell? ⟨g, i * 6 + 4, none⟩ = some (.int .i64 o)
  k5 : w.cell? ⟨g, i * 6 + 5, none⟩ = some (.bool b)
theorem six_of {B g c i : Nat} {l : List AdP} {a : AdP} (h : w.ownsRow B 43 6 (.slice (some ⟨g, 0, none⟩) l.length c) l.length (adCs l)) (hi : l[i]? = some a) : Six g i (a.kd : Int) (a.n : Int) (a.c : Int) a.off ⟨a.pt.toArray⟩ a.semi w := by
  have hl := (List.getElem?_eq_some_iff.1 hi).1
  have q : ∀ j, j < 6 → w.cell? ⟨g, i * 6 + j, none⟩ = (adC a)[j]? := fun j hj => (World.ownsRow.cellAt (size := 6) (n := l.length) h (i * 6 + j) (by omega)).trans (ads_at hi j hj)
  exact ⟨q 0 (by omega), q 1 (by omega), q 2 (by omega), q 3 (by omega), q 4 (by omega), q 5 (by omega)⟩
set_option maxHeartbeats 16000000 in
theorem adsame_core {n c1 c2 : Nat} {a1 a2 : Option Addr} {w : World} (p2 : n ≤ maxLen) (hA : ∀ i < n, ∃ g1 g2 k m c o p b, a1 = some ⟨g1, 0, none⟩ ∧ a2 = some ⟨g2, 0, none⟩ ∧ Six g1 i k m c o p b w ∧ Six g2 i k m c o p b w) :
    Calls Tryz.prog 19 #[.slice a1 n c1, .slice a2 n c2] w fun e w' => e = .returned (.bool true) ∧ ∃ q, w' = w.drewN q := by
  have HA : Hid (∀ i < n, ∃ g1 g2 k m c o p b, a1 = some ⟨g1, 0, none⟩ ∧ a2 = some ⟨g2, 0, none⟩ ∧ Six g1 i k m c o p b w ∧ Six g2 i k m c o p b w) := hA
  have hd0 : ((n : Int) != (n : Int)) = false := by simp
  have he := neqAd
  unfold maxLen at p2
  have hn9 : n ≤ 9223372036854775807 := by omega
  clear hA p2
  go_enter Tryz.func19, Tryz.ntmps19
  go_wp2_with fail
  go_loopw [5] (fun vi wr => ∃ i : Nat, i ≤ n ∧ vi = .int .i64 i ∧ ∃ q, wr = w.drewN q) (fun vi _ => n - (intOf vi).toNat)
  case atStart => exact ⟨0, Nat.zero_le _, by go_num, 0, rfl⟩
  case round =>
    obtain ⟨i, hi, rfl, q0, rfl⟩ := hrel
    by_cases hlt : i < n
    · have hdl : decide ((i : Int) < (n : Int)) = true := decide_eq_true (by omega)
      have hdm : decide (i < n) = true := decide_eq_true (by omega)
      have hli : (i : Int) < (n : Int) := by omega
      obtain ⟨g1, g2, k, m, c, o, p, b, rfl, rfl, S1, S2⟩ := HA.out i hlt
      have x0 := S1.k0; have x1 := S1.k1; have x2 := S1.k2; have x3 := S1.k3; have x4 := S1.k4; have x5 := S1.k5
      have y0 := S2.k0; have y1 := S2.k1; have y2 := S2.k2; have y3 := S2.k3; have y4 := S2.k4; have y5 := S2.k5
      clear S1 S2
      go_wp2_with fail
      go_quiet (fail)
      go_wp2_with fail
      go_roundw
      case rel => exact ⟨i + 1, by omega, by go_num, _, rfl⟩
      case measure => simp only [intOf]; omega
    · obtain rfl : i = n := by omega
      have hdl : decide ((i : Int) < (i : Int)) = false := by simp
      go_wp2_with fail
      go_ret
      exact ⟨rfl, _, rfl⟩
theorem adsame0 (a1 a2 : Option Addr) (c1 c2 : Nat) (w : World) : Calls Tryz.prog 19 #[.slice a1 0 c1, .slice a2 0 c2] w fun e w' => e = .returned (.bool true) ∧ ∃ q, w' = w.drewN q :=
  adsame_core (Nat.zero_le _) (fun i hi => absurd hi (Nat.not_lt_zero _))
theorem adsame_any {B C : Nat} {v1 v2 : Value} {l : List AdP} {w : World} (h1 : w.ownsRow B 43 6 v1 l.length (adCs l)) (h2 : w.ownsRow C 43 6 v2 l.length (adCs l)) :
    Calls Tryz.prog 19 #[v1, v2] w fun e w' => e = .returned (.bool true) ∧ ∃ q, w' = w.drewN q := by
  obtain ⟨a1, c1, rfl, p1, p2⟩ := owns_form h1
  obtain ⟨a2, c2, rfl, _, _⟩ := owns_form h2
  obtain ⟨n, hn⟩ : ∃ n, l.length = n := ⟨_, rfl⟩
  have HA : (∀ i < n, ∃ g1 g2 k m c o p b, a1 = some ⟨g1, 0, none⟩ ∧ a2 = some ⟨g2, 0, none⟩ ∧ Six g1 i k m c o p b w ∧ Six g2 i k m c o p b w) := by
    intro i hi
    obtain ⟨g1, rfl⟩ : ∃ g, a1 = some ⟨g, 0, none⟩ := by
      rcases h1.2 with ⟨_, e0⟩ | ⟨g, _, _, e, _⟩
      · omega
      · cases e; exact ⟨g, rfl⟩
    obtain ⟨g2, rfl⟩ : ∃ g, a2 = some ⟨g, 0, none⟩ := by
      rcases h2.2 with ⟨_, e0⟩ | ⟨g, _, _, e, _⟩
      · omega
      · cases e; exact ⟨g, rfl⟩
    have hs : l[i]? = some l[i] := List.getElem?_eq_getElem (by omega)
    exact ⟨g1, g2, _, _, _, _, _, _, rfl, rfl, six_of h1 hs, six_of h2 hs⟩
  rw [hn] at p1 ⊢
  exact adsame_core (by omega) HA
end
end Go.Proofs.YtfgapmfjfienhaaGreatDoor
/- The document's Same: of commands that say the same: commands. -/
namespace Go.Proofs.YtfgapmfjfienhaaGreatDoor
open Go.ChangeShapes Go.WideShapes Go.ChangeAt Go.RowKit Go.Maps Go.MapKept
set_option linter.unusedVariables false
set_option linter.unusedSimpArgs false
set_option maxRecDepth 100000
section
variable {w : World}
set_option maxHeartbeats 16000000 in
theorem same_core {r1 d1 r2 d2 : Value} (c : CmP) (hr : ∀ z, Kp w z → Calls Tryz.prog 19 #[r1, r2] z fun e w' => e = .returned (.bool true) ∧ ∃ q, w' = z.drewN q) (hd : ∀ z, Kp w z → Calls Tryz.prog 19 #[d1, d2] z fun e w' => e = .returned (.bool true) ∧ ∃ q, w' = z.drewN q) :
    Calls Tryz.prog 14 #[.agg (cmC c r1 d1).toArray, .agg (cmC c r2 d2).toArray] w fun e w' => e = .returned (.bool true) ∧ Kp w w' := by
  have HR : Hid (∀ z, Kp w z → Calls Tryz.prog 19 #[r1, r2] z fun e w' => e = .returned (.bool true) ∧ ∃ q, w' = z.drewN q) := hr
  have HD : Hid (∀ z, Kp w z → Calls Tryz.prog 19 #[d1, d2] z fun e w' => e = .returned (.bool true) ∧ ∃ q, w' = z.drewN q) := hd
  clear hr hd
  obtain ⟨p, hp⟩ : ∃ p, w.heap.size = p := ⟨_, rfl⟩
  obtain ⟨W1, hW1⟩ : ∃ z, w.alloc (.cells (cmC c r1 d1).toArray 27) = z := ⟨_, rfl⟩
  obtain ⟨b, hb⟩ : ∃ b, W1.heap.size = b := ⟨_, rfl⟩
  obtain ⟨W2, hW2⟩ : ∃ z, W1.alloc (.cells (cmC c r2 d2).toArray 27) = z := ⟨_, rfl⟩
  have k1 : Kp w W1 := by rw [← hW1]; exact kp_alloc _ _
  have k2 : Kp W1 W2 := by rw [← hW2]; exact kp_alloc _ _
  have L1 : Lc 27 p (cmC c r1 d1) W2 := by
    have : Lc 27 p (cmC c r1 d1) W1 := by rw [← hW1, ← hp]; exact Lc.new w (cmC c r1 d1) 27
    exact this.kp k2
  have L2 : Lc 27 b (cmC c r2 d2) W2 := by rw [← hW2, ← hb]; exact Lc.new W1 (cmC c r2 d2) 27
  have HK : Hid (Kp w W2) := kp_trans k1 k2
  obtain ⟨nm, hnm⟩ : ∃ x, bA c.name = x := ⟨_, rfl⟩
  obtain ⟨pt, hpt⟩ : ∃ x, bA c.pat = x := ⟨_, rfl⟩
  obtain ⟨rp, hrp⟩ : ∃ x, bA c.rep = x := ⟨_, rfl⟩
  obtain ⟨fl, hfl⟩ : ∃ x, bA c.flags = x := ⟨_, rfl⟩
  obtain ⟨ag, hag⟩ : ∃ x, bA c.arg = x := ⟨_, rfl⟩
  have x0 : W2.cell? ⟨p, 0, none⟩ = some r1 := L1.at (j := 0) rfl
  have x1 : W2.cell? ⟨p, 1, none⟩ = some (.string nm) := by rw [← hnm]; exact L1.at (j := 1) rfl
  have x2 : W2.cell? ⟨p, 2, none⟩ = some (.bool c.bang) := L1.at (j := 2) rfl
  have x3 : W2.cell? ⟨p, 3, none⟩ = some (.int .u8 (c.reg : Int)) := L1.at (j := 3) rfl
  have x4 : W2.cell? ⟨p, 4, none⟩ = some (.int .i64 c.cnt) := L1.at (j := 4) rfl
  have x5 : W2.cell? ⟨p, 5, none⟩ = some d1 := L1.at (j := 5) rfl
  have x6 : W2.cell? ⟨p, 6, none⟩ = some (.string pt) := by rw [← hpt]; exact L1.at (j := 6) rfl
  have x7 : W2.cell? ⟨p, 7, none⟩ = some (.string rp) := by rw [← hrp]; exact L1.at (j := 7) rfl
  have x8 : W2.cell? ⟨p, 8, none⟩ = some (.string fl) := by rw [← hfl]; exact L1.at (j := 8) rfl
  have x9 : W2.cell? ⟨p, 9, none⟩ = some (.string ag) := by rw [← hag]; exact L1.at (j := 9) rfl
  have y0 : W2.cell? ⟨b, 0, none⟩ = some r2 := L2.at (j := 0) rfl
  have y1 : W2.cell? ⟨b, 1, none⟩ = some (.string nm) := by rw [← hnm]; exact L2.at (j := 1) rfl
  have y2 : W2.cell? ⟨b, 2, none⟩ = some (.bool c.bang) := L2.at (j := 2) rfl
  have y3 : W2.cell? ⟨b, 3, none⟩ = some (.int .u8 (c.reg : Int)) := L2.at (j := 3) rfl
  have y4 : W2.cell? ⟨b, 4, none⟩ = some (.int .i64 c.cnt) := L2.at (j := 4) rfl
  have y5 : W2.cell? ⟨b, 5, none⟩ = some d2 := L2.at (j := 5) rfl
  have y6 : W2.cell? ⟨b, 6, none⟩ = some (.string pt) := by rw [← hpt]; exact L2.at (j := 6) rfl
  have y7 : W2.cell? ⟨b, 7, none⟩ = some (.string rp) := by rw [← hrp]; exact L2.at (j := 7) rfl
  have y8 : W2.cell? ⟨b, 8, none⟩ = some (.string fl) := by rw [← hfl]; exact L2.at (j := 8) rfl
  have y9 : W2.cell? ⟨b, 9, none⟩ = some (.string ag) := by rw [← hag]; exact L2.at (j := 9) rfl
  clear L1 L2 k1 k2 hnm hpt hrp hfl hag
  go_enter Tryz.func14, Tryz.ntmps14
  go_wp2_with fail
  refine Calls.mono (HR.out _ HK.out) ?_
  rintro e w1 ⟨rfl, q1, rfl⟩
  clear HR
  have HK1 : Hid (Kp w (W2.drewN q1)) := kp_trans HK.out (kp_drewN _ _)
  have HW : Hid (Kp w W2) := HK.out
  clear HK
  go_wp2_with fail
  refine Calls.mono (HD.out _ HK1.out) ?_
  rintro e w1 ⟨rfl, q2, rfl⟩
  clear HK1 HD
  go_wp2_with fail
  go_ret
  exact ⟨rfl, kp_trans HW.out (kp_drewN _ _)⟩
theorem same_any {B1 B2 B3 B4 : Nat} {r1 d1 r2 d2 : Value} (c : CmP) (h1 : w.ownsRow B1 43 6 r1 c.rg.length (adCs c.rg)) (h2 : w.ownsRow B2 43 6 d1 c.dest.length (adCs c.dest))
    (h3 : w.ownsRow B3 43 6 r2 c.rg.length (adCs c.rg)) (h4 : w.ownsRow B4 43 6 d2 c.dest.length (adCs c.dest)) :
    Calls Tryz.prog 14 #[.agg (cmC c r1 d1).toArray, .agg (cmC c r2 d2).toArray] w fun e w' => e = .returned (.bool true) ∧ Kp w w' :=
  same_core c (fun z k => adsame_any (row_kp h1 k) (row_kp h3 k)) (fun z k => adsame_any (row_kp h2 k) (row_kp h4 k))
theorem same0 (c : CmP) (a1 a2 a3 a4 : Option Addr) (c1 c2 c3 c4 : Nat) : Calls Tryz.prog 14 #[.agg (cmC c (.slice a1 0 c1) (.slice a2 0 c2)).toArray, .agg (cmC c (.slice a3 0 c3) (.slice a4 0 c4)).toArray] w fun e w' => e = .returned (.bool true) ∧ Kp w w' :=
  same_core c (fun z k => adsame0 _ _ _ _ z) (fun z k => adsame0 _ _ _ _ z)
end
end Go.Proofs.YtfgapmfjfienhaaGreatDoor
/- CmdGlobal: what is read, plainly. -/
namespace Go.Proofs.YtfgapmfjfienhaaGreatDoor
open Go.ChangeShapes Go.WideShapes Go.ChangeAt Go.RowKit Go.Maps Go.MapKept
set_option linter.unusedVariables false
set_option linter.unusedSimpArgs false
set_option maxRecDepth 100000
/-- No address begins with this byte. -/
def noAd (a : UInt8) : Bool := !dgB a && (!ahB a && (!bkB a && !([37, 43, 45, 46, 36, 39, 47, 63, 44, 59] : List UInt8).contains a))
theorem par_none {a : UInt8} (t : List UInt8) (h : noAd a = true) : parL (a :: t) = some ([], a :: t) := by
  unfold noAd at h
  simp only [Bool.and_eq_true, Bool.not_eq_true', List.contains_cons, List.contains_nil, Bool.or_false, Bool.or_eq_false_iff, beq_eq_false_iff_ne, ne_eq] at h
  obtain ⟨hd, ha, hb, h1, h2, h3, h4, h5, h6, h7, h8, h9, h10⟩ := h
  have en : numL (a :: t) = some (none, a :: t) := by
    unfold numL
    simp [List.takeWhile_cons, hd]
  have ep : plainL (a :: t) = some ({}, a :: t) := by
    unfold plainL
    rw [en]
    simp [h4, h5, h6, h7, h8]
  have eo : offL ((a :: t).length + 1) (a :: t) 0 = some (0, a :: t) := by
    show offL ((a :: t).length + 1) (a :: t) 0 = _
    unfold offL
    simp [h2, h3]
  have ea : addrL (a :: t) = some ({}, a :: t) := by
    unfold addrL
    rw [ep]
    simp only
    rw [eo]
    simp
  have eb : (a :: t).dropWhile bkB = a :: t := by rw [List.dropWhile_cons, hb]; rfl
  have es : signL (a :: t) = (none, a :: t) := by unfold signL; simp [h9, h10]
  unfold parL
  rw [List.dropWhile_cons, ha]
  simp only [Bool.false_eq_true, if_false, if_neg h1]
  unfold adsL
  rw [ea]
  simp only [eb, es]
  simp
theorem tab_none {a c : UInt8} (h : (tabC.all fun p => p.1.take 2 != [a, c]) = true) (y : List UInt8) : tabF (a :: c :: y) = none := by
  unfold tabF
  have : tabC.find? (fun p => p.1 == a :: c :: y) = none := by
    rw [List.find?_eq_none]
    intro p hp hq
    have := List.all_eq_true.1 h p hp
    rw [eq_of_beq hq] at this
    simp at this
  rw [this]; rfl
theorem word_one {a c : UInt8} {e : Ent} (h1 : tabF [a] = some e) (h : (tabC.all fun p => p.1.take 2 != [a, c]) = true) (r : List UInt8) : ∀ n, wordG (n + 1) (a :: c :: r) = some (e, c :: r)
  | 0 => by unfold wordG; simp [h1]
  | n + 1 => by
    unfold wordG
    have e1 : (a :: c :: r).take (n + 1 + 1) = a :: c :: r.take n := by simp
    rw [e1, tab_none h]
    exact word_one h1 h r n
theorem wordL_one {a c : UInt8} {e : Ent} (h1 : tabF [a] = some e) (h : (tabC.all fun p => p.1.take 2 != [a, c]) = true) (r : List UInt8) : wordL (a :: c :: r) = some (e, c :: r) := by
  unfold wordL
  obtain ⟨n, hn⟩ : ∃ n, min (a :: c :: r).length 10 = n + 1 := ⟨min (r.length + 1) 9, by simp only [List.length_cons]; omega⟩
  rw [hn]
  exact word_one h1 h r n
theorem one_yes {p : Nat → Bool} {a : UInt8} (h : p a.toNat = true) (r : List UInt8) : oneL p (a :: r) = (some a, r) := by unfold oneL; simp [h]
theorem one_no {p : Nat → Bool} {a : UInt8} (h : p a.toNat = false) (r : List UInt8) : oneL p (a :: r) = (none, a :: r) := by unfold oneL; simp [h]
theorem up_x (s : List UInt8) : upL 47 (120 :: 47 :: s) = ([120], s) := by
  cases s <;> simp [upL]
def glC (n : UInt8) (b : Bool) (s : List UInt8) : CmP := { name := [n], bang := b, pat := [120], arg := if s = [] then [112] else s }
theorem vis_x (c : CmP) (s : List UInt8) : visitsC c (47 :: 120 :: 47 :: s) = (0, { c with pat := [120], arg := if s = [] then [112] else s }, []) := by
  have e1 : blkL (47 :: 120 :: 47 :: s) = 47 :: 120 :: 47 :: s := by
    unfold blkL
    rw [List.dropWhile_cons, show bkB 47 = false by decide +kernel]; rfl
  have e2 : oneL sgnF (47 :: 120 :: 47 :: s) = (some 47, 120 :: 47 :: s) := one_yes (by decide +kernel) _
  unfold visitsC
  simp only [e1, e2, up_x]
theorem tg : tabF [103] = some { name := [103], place := 8, bold := true, fl := .visits } := by decide +kernel
theorem tv : tabF [118] = some { name := [118], place := 9, bold := false, fl := .visits } := by decide +kernel
theorem read_g (s : List UInt8) : readC (103 :: 47 :: 120 :: 47 :: s) = (0, glC 103 false s) := by
  have e1 := par_none (a := 103) (47 :: 120 :: 47 :: s) (by decide +kernel)
  have e2 := wordL_one (a := 103) (c := 47) tg (by decide +kernel) (120 :: 47 :: s)
  have e3 : oneL bldF (47 :: 120 :: 47 :: s) = (none, 47 :: 120 :: 47 :: s) := one_no (by decide +kernel) _
  unfold readC
  rw [e1]
  simp only [e2, e3, followC, vis_x, if_true]
  rfl
theorem read_v (s : List UInt8) : readC (118 :: 47 :: 120 :: 47 :: s) = (0, glC 118 false s) := by
  have e1 := par_none (a := 118) (47 :: 120 :: 47 :: s) (by decide +kernel)
  have e2 := wordL_one (a := 118) (c := 47) tv (by decide +kernel) (120 :: 47 :: s)
  unfold readC
  rw [e1]
  simp only [e2, followC, vis_x, if_true, Bool.false_eq_true, if_false]
  rfl
theorem read_gb (s : List UInt8) : readC (103 :: 33 :: 47 :: 120 :: 47 :: s) = (0, glC 103 true s) := by
  have e1 := par_none (a := 103) (33 :: 47 :: 120 :: 47 :: s) (by decide +kernel)
  have e2 := wordL_one (a := 103) (c := 33) tg (by decide +kernel) (47 :: 120 :: 47 :: s)
  have e3 : oneL bldF (33 :: 47 :: 120 :: 47 :: s) = (some 33, 47 :: 120 :: 47 :: s) := one_yes (by decide +kernel) _
  unfold readC
  rw [e1]
  simp only [e2, e3, followC, vis_x, if_true]
  rfl
theorem cmd_of_read {l : List UInt8} {c : CmP} (hl : l.length ≤ 1000) (h : readC l = (0, c)) : cmdL l = (0, c) := by
  unfold cmdL
  rw [if_neg (by omega)]
  simp only [h, if_true]
/-- The name that the law makes, and its sign. -/
def nmG (v b : Bool) : List UInt8 := if v then [118] else if b then [103, 33] else [103]
theorem cmd_glob (v b : Bool) {s : List UInt8} (hs : s.length ≤ 500) : cmdL (nmG v b ++ ([47, 120, 47] ++ s)) = (0, glC (if v then 118 else 103) (b && !v) s) := by
  cases v <;> cases b
  · exact cmd_of_read (by simp [nmG]; omega) (read_g s)
  · exact cmd_of_read (by simp [nmG]; omega) (read_gb s)
  · exact cmd_of_read (by simp [nmG]; omega) (read_v s)
  · exact cmd_of_read (by simp [nmG]; omega) (read_v s)
end Go.Proofs.YtfgapmfjfienhaaGreatDoor
/- The laws' digits. -/
namespace Go.Proofs.YtfgapmfjfienhaaGreatDoor
open Go.ChangeShapes Go.WideShapes Go.ChangeAt Go.RowKit Go.Maps Go.MapKept
set_option linter.unusedVariables false
set_option linter.unusedSimpArgs false
set_option maxRecDepth 100000
/-- A number's digits. -/
def digs (n : Nat) : List UInt8 := if n < 10 then [UInt8.ofNat (48 + n)] else digs (n / 10) ++ [UInt8.ofNat (48 + n % 10)]
termination_by n
decreasing_by omega
theorem digs_one {n : Nat} (h : n < 10) : digs n = [UInt8.ofNat (48 + n)] := by rw [digs, if_pos h]
theorem digs_more {n : Nat} (h : ¬ n < 10) : digs n = digs (n / 10) ++ [UInt8.ofNat (48 + n % 10)] := by rw [digs, if_neg h]
theorem digs_len : ∀ (k : Nat) {n : Nat}, n < 10 ^ (k + 1) → (digs n).length ≤ k + 1
  | 0, n, h => by rw [digs_one (by omega)]; simp
  | k + 1, n, h => by
    by_cases q : n < 10
    · rw [digs_one q]; simp
    · rw [digs_more q, List.length_append]
      have := digs_len k (n := n / 10) (by rw [Nat.div_lt_iff_lt_mul (by decide)]; rw [Nat.pow_succ] at h; exact h)
      simp; omega
theorem digs_dig : ∀ (n : Nat), ∀ c ∈ digs n, 48 ≤ c.toNat ∧ c.toNat ≤ 57 := by
  intro n
  induction n using Nat.strongRecOn with
  | ind n ih =>
    intro c hc
    have one : ∀ m, m < 10 → 48 ≤ (UInt8.ofNat (48 + m)).toNat ∧ (UInt8.ofNat (48 + m)).toNat ≤ 57 := by
      intro m hm
      rw [UInt8.toNat_ofNat']
      omega
    by_cases q : n < 10
    · rw [digs_one q, List.mem_singleton] at hc
      subst hc; exact one n q
    · rw [digs_more q, List.mem_append, List.mem_singleton] at hc
      rcases hc with hc | rfl
      · exact ih (n / 10) (by omega) c hc
      · exact one _ (Nat.mod_lt _ (by decide))
theorem decFrom_app : ∀ (l : List UInt8) (acc n : Nat) (b : UInt8) (d : Nat), Lib.decFrom acc l = some n → Lib.digitVal b = some d → Lib.decFrom acc (l ++ [b]) = some (n * 10 + d)
  | [], acc, n, b, d, h, hd => by
    simp only [Lib.decFrom, Option.some.injEq] at h
    subst h
    simp [Lib.decFrom, hd]
  | a :: t, acc, n, b, d, h, hd => by
    simp only [List.cons_append, Lib.decFrom] at h ⊢
    cases ha : Lib.digitVal a with
    | none => simp [ha] at h
    | some e =>
      simp only [ha] at h ⊢
      exact decFrom_app t _ n b d h hd
theorem digitVal_of {m : Nat} (h : m < 10) : Lib.digitVal (UInt8.ofNat (48 + m)) = some m := by
  unfold Lib.digitVal
  rw [UInt8.toNat_ofNat', if_pos (by omega)]
  congr 1; omega
theorem dec_digs : ∀ (n : Nat), Lib.decFrom 0 (digs n) = some n := by
  intro n
  induction n using Nat.strongRecOn with
  | ind n ih =>
    by_cases q : n < 10
    · rw [digs_one q]
      show (match Lib.digitVal (UInt8.ofNat (48 + n)) with | some d => Lib.decFrom (0 * 10 + d) [] | none => none) = some n
      rw [digitVal_of q]
      simp [Lib.decFrom]
    · rw [digs_more q, decFrom_app _ _ _ _ _ (ih (n / 10) (by omega)) (digitVal_of (Nat.mod_lt n (by decide)))]
      congr 1; omega
theorem digs_ne (n : Nat) : digs n ≠ [] := by
  by_cases q : n < 10
  · rw [digs_one q]; simp
  · rw [digs_more q]; simp
/-- What the digits say is the number. -/
theorem atoi_digs (n : Nat) : Lib.atoi (digs n) = some (n : Int) := by
  have h1 := dec_digs n
  have h2 := digs_dig n
  have h3 := digs_ne n
  cases h : digs n with
  | nil => exact absurd h h3
  | cons b r =>
    rw [h] at h1 h2
    have hb := h2 b List.mem_cons_self
    have n45 : (b == 45) = false := by rw [beq_eq_false_iff_ne]; rintro rfl; simp at hb
    have n43 : (b == 43) = false := by rw [beq_eq_false_iff_ne]; rintro rfl; simp at hb
    unfold Lib.atoi
    simp only [n45, n43, Bool.false_eq_true, if_false]
    unfold Lib.decNat
    simp [h1]
section
variable {w : World}
set_option maxHeartbeats 8000000 in
theorem digits_one {n : Nat} (h : n < 10) (w : World) : Calls Tryz.prog 13 #[.int .i64 (n : Int)] w fun e w' => e = .returned (.string (bA (digs n))) ∧ Kp w w' := by
  have g1 : decide ((n : Int) < 10) = true := decide_eq_true (by omega)
  have g2 : decide (n < 10) = true := decide_eq_true h
  have HD : Hid (digs n = [UInt8.ofNat (48 + n)]) := digs_one h
  have hc : (48 + (n : Int)).toNat = 48 + n := by omega
  have hcv := fun z : World => one_str z (UInt8.ofNat (48 + n)) (48 + (n : Int)) (by rw [UInt8.toNat_ofNat']; omega)
  go_enter Tryz.func13, Tryz.ntmps13
  go_wp2_with fail
  go_ret
  exact ⟨by rw [HD.out]; show Ending.returned (.string ⟨#[48 + UInt8.ofNat n]⟩) = _; simp [bA], kp_alloc _ _⟩
end
end Go.Proofs.YtfgapmfjfienhaaGreatDoor
/- CmdRange: what is read, plainly. -/
namespace Go.Proofs.YtfgapmfjfienhaaGreatDoor
open Go.ChangeShapes Go.WideShapes Go.ChangeAt Go.RowKit Go.Maps Go.MapKept
set_option linter.unusedVariables false
set_option linter.unusedSimpArgs false
set_option maxRecDepth 100000
theorem dg_digit {c : UInt8} (h : 48 ≤ c.toNat ∧ c.toNat ≤ 57) : dgB c = true := by
  have q : ∀ x : UInt8, 48 ≤ x.toNat ∧ x.toNat ≤ 57 → dgB x = true := by
    have : ∀ i : Fin 256, 48 ≤ (UInt8.ofNat i.val).toNat ∧ (UInt8.ofNat i.val).toNat ≤ 57 → dgB (UInt8.ofNat i.val) = true := by decide +kernel
    intro x hx
    have e : UInt8.ofNat x.toNat = x := by simp
    have := this ⟨x.toNat, x.toNat_lt⟩
    rw [e] at this
    exact this hx
  exact q c h
theorem digs_tw (n : Nat) (t : List UInt8) : (digs n ++ 32 :: t).takeWhile dgB = digs n ∧ (digs n ++ 32 :: t).dropWhile dgB = 32 :: t := by
  have h : ∀ c ∈ digs n, dgB c = true := fun c hc => dg_digit (digs_dig n c hc)
  have h2 : dgB 32 = false := by decide +kernel
  constructor
  · rw [List.takeWhile_append_of_pos h, List.takeWhile_cons, h2]; simp
  · rw [List.dropWhile_append_of_pos h, List.dropWhile_cons, h2]; rfl
/-- A number in the text of an address. -/
theorem addr_num {n : Nat} (hn : n < 1000000) (t : List UInt8) : addrL (digs n ++ 32 :: t) = some ({ kd := 1, n := n }, 32 :: t) := by
  obtain ⟨h1, h2⟩ := digs_tw n t
  have hl : (digs n).length ≤ 6 := digs_len 5 hn
  have hp : 0 < (digs n).length := List.length_pos_iff.2 (digs_ne n)
  have en : numL (digs n ++ 32 :: t) = some (some n, 32 :: t) := by
    unfold numL
    simp only [h1]
    rw [if_neg (by omega), if_neg (by omega), atoi_digs, List.drop_left]
    simp
  have ep : plainL (digs n ++ 32 :: t) = some ({ kd := 1, n := n }, 32 :: t) := by
    unfold plainL
    rw [en]
  have eo : offL ((32 :: t).length + 1) (32 :: t) 0 = some (0, 32 :: t) := by
    unfold offL
    simp
  unfold addrL
  rw [ep]
  simp only
  rw [eo]
  simp
/-- What a text that the law takes begins with. -/
def rngB (c : UInt8) : Bool := decide (97 ≤ c.toNat ∧ c.toNat ≤ 122) || ([62, 60, 38, 126, 64, 61] : List UInt8).contains c
theorem rng_no {c : UInt8} (h : rngB c = true) : noAd c = true := by
  have : ∀ i : Fin 256, rngB (UInt8.ofNat i.val) = true → noAd (UInt8.ofNat i.val) = true := by decide +kernel
  have e : UInt8.ofNat c.toNat = c := by simp
  have := this ⟨c.toNat, c.toNat_lt⟩
  rw [e] at this
  exact this h
theorem rng_bk {c : UInt8} (h : noAd c = true) : bkB c = false ∧ c ≠ 44 ∧ c ≠ 59 := by
  unfold noAd at h
  simp only [Bool.and_eq_true, Bool.not_eq_true', List.contains_cons, List.contains_nil, Bool.or_false, Bool.or_eq_false_iff, beq_eq_false_iff_ne, ne_eq] at h
  obtain ⟨hd, ha, hb, h1, h2, h3, h4, h5, h6, h7, h8, h9, h10⟩ := h
  exact ⟨hb, h9, h10⟩
/-- What the law puts ahead. -/
def rngL (a b : Nat) (s : List UInt8) : List UInt8 := 32 :: 58 :: (digs a ++ 32 :: 44 :: 32 :: (digs b ++ 32 :: s))
def two (a b : Nat) : List AdP := [{ kd := 1, n := a }, { kd := 1, n := b }]
theorem digs_head (n : Nat) : ∃ d r, digs n = d :: r ∧ 48 ≤ d.toNat ∧ d.toNat ≤ 57 := by
  have h := digs_dig n
  cases e : digs n with
  | nil => exact absurd e (digs_ne n)
  | cons d r => exact ⟨d, r, rfl, (h d (by rw [e]; exact List.mem_cons_self)).1, (h d (by rw [e]; exact List.mem_cons_self)).2⟩
theorem dig_not {d : UInt8} (h : 48 ≤ d.toNat ∧ d.toNat ≤ 57) : ahB d = false ∧ bkB d = false ∧ d ≠ 37 := by
  have : ∀ i : Fin 256, 48 ≤ (UInt8.ofNat i.val).toNat ∧ (UInt8.ofNat i.val).toNat ≤ 57 → ahB (UInt8.ofNat i.val) = false ∧ bkB (UInt8.ofNat i.val) = false ∧ UInt8.ofNat i.val ≠ 37 := by decide +kernel
  have e : UInt8.ofNat d.toNat = d := by simp
  have := this ⟨d.toNat, d.toNat_lt⟩
  rw [e] at this
  exact this h
theorem par_rng {a b : Nat} (ha : a < 1000000) (hb : b < 1000000) {c : UInt8} (hc : rngB c = true) (r : List UInt8) : parL (rngL a b (c :: r)) = some (two a b, c :: r) := by
  obtain ⟨hk, h44, h59⟩ := rng_bk (rng_no hc)
  obtain ⟨d, u, ed, hd⟩ := digs_head a
  obtain ⟨d', u', ed', hd'⟩ := digs_head b
  obtain ⟨p1, p2, p3⟩ := dig_not hd
  obtain ⟨q1, q2, q3⟩ := dig_not hd'
  have b32 : bkB 32 = true := by decide +kernel
  have b44 : bkB 44 = false := by decide +kernel
  have a32 : ahB 32 = true := by decide +kernel
  have a58 : ahB 58 = true := by decide +kernel
  have e0 : (rngL a b (c :: r)).dropWhile ahB = digs a ++ 32 :: 44 :: 32 :: (digs b ++ 32 :: c :: r) := by
    unfold rngL
    rw [List.dropWhile_cons, a32, if_pos rfl, List.dropWhile_cons, a58, if_pos rfl, ed, List.cons_append, List.dropWhile_cons, p1]
    rfl
  have e1 : (32 :: 44 :: 32 :: (digs b ++ 32 :: c :: r)).dropWhile bkB = 44 :: 32 :: (digs b ++ 32 :: c :: r) := by
    rw [List.dropWhile_cons, b32, if_pos rfl, List.dropWhile_cons, b44]; rfl
  have e2 : (32 :: (digs b ++ 32 :: c :: r)).dropWhile bkB = digs b ++ 32 :: c :: r := by
    rw [List.dropWhile_cons, b32, if_pos rfl, ed', List.cons_append, List.dropWhile_cons, q2]; rfl
  have e3 : (32 :: c :: r).dropWhile bkB = c :: r := by
    rw [List.dropWhile_cons, b32, if_pos rfl, List.dropWhile_cons, hk]; rfl
  have e4 : (c :: r).dropWhile bkB = c :: r := by rw [List.dropWhile_cons, hk]; rfl
  have s1 : signL (44 :: 32 :: (digs b ++ 32 :: c :: r)) = (some 44, 32 :: (digs b ++ 32 :: c :: r)) := by unfold signL; simp
  have s2 : signL (c :: r) = (none, c :: r) := by unfold signL; simp [h44, h59]
  have key : ∀ f, adsL (f + 2) (digs a ++ 32 :: 44 :: 32 :: (digs b ++ 32 :: c :: r)) [] = some (two a b, c :: r) := by
    intro f
    unfold adsL
    rw [addr_num ha]
    simp only [e1, s1, e2]
    rw [if_neg (by simp), if_neg (by simp)]
    unfold adsL
    rw [addr_num hb]
    simp only [e3, s2, e4]
    simp [two]
  unfold parL
  rw [e0, ed, List.cons_append]
  simp only [if_neg p3]
  have := key (u ++ 32 :: 44 :: 32 :: (digs b ++ 32 :: c :: r)).length
  rw [ed, List.cons_append] at this
  exact this
/-- What stands ahead is handed through. -/
theorem number_rg (c : CmP) (x : List AdP) (l : List UInt8) : numberC { c with rg := x } l = ((numberC c l).1, { (numberC c l).2.1 with rg := x }, (numberC c l).2.2) := by
  unfold numberC
  simp only
  split
  · rfl
  · split <;> rfl
theorem again_rg (c : CmP) (x : List AdP) (l : List UInt8) : againC { c with rg := x } l = ((againC c l).1, { (againC c l).2.1 with rg := x }, (againC c l).2.2) :=
  number_rg { c with flags := (blkL l).takeWhile flB } x ((blkL l).dropWhile flB)
theorem subst_rg (c : CmP) (x : List AdP) (l : List UInt8) : substC { c with rg := x } l = ((substC c l).1, { (substC c l).2.1 with rg := x }, (substC c l).2.2) := by
  unfold substC
  simp only
  cases (oneL sgnF (blkL l)).1 with
  | none => exact again_rg c x _
  | some g => exact again_rg { c with pat := (upL g (oneL sgnF (blkL l)).2).1, rep := (upL g (upL g (oneL sgnF (blkL l)).2).2).1, arg := [61] } x _
theorem follow_rg (f : Fl) (c : CmP) (x : List AdP) (l : List UInt8) : followC f { c with rg := x } l = ((followC f c l).1, { (followC f c l).2.1 with rg := x }, (followC f c l).2.2) := by
  cases f
  · exact number_rg (registerC c l).2.1 x (registerC c l).2.2
  · show destC _ _ = ((destC c l).1, _, (destC c l).2.2)
    simp only [followC]
    unfold destC
    split
    · rfl
    · split <;> rfl
  · exact number_rg c x l
  · rfl
  · rfl
  · exact subst_rg c x l
  · show visitsC _ _ = ((visitsC c l).1, _, (visitsC c l).2.2)
    simp only [followC]
    unfold visitsC
    simp only
    split <;> rfl
  · show keysC _ _ = ((keysC c l).1, _, (keysC c l).2.2)
    simp only [followC]
    unfold keysC
    simp only
    split <;> rfl
  · rfl
  · exact number_rg { c with arg := c.name ++ l.takeWhile (fun a => a == c.name.headD 0) } x (l.dropWhile fun a => a == c.name.headD 0)
  · exact again_rg c x l
theorem read_rng {a b : Nat} (ha : a < 1000000) (hb : b < 1000000) {c : UInt8} (hc : rngB c = true) (r : List UInt8) : readC (rngL a b (c :: r)) = ((readC (c :: r)).1, if (readC (c :: r)).1 = 0 then { (readC (c :: r)).2 with rg := two a b } else {}) ∧ ((readC (c :: r)).1 = 0 → (readC (c :: r)).2.rg = []) := by
  have e1 := par_rng ha hb hc r
  have e2 := par_none r (rng_no hc)
  unfold readC
  rw [e1, e2]
  simp only [if_neg (List.cons_ne_nil c r)]
  cases hw : wordL (c :: r) with
  | none => simp
  | some q =>
    obtain ⟨e, r1⟩ := q
    simp only
    generalize (if e.bold = true then oneL bldF r1 else (none, r1)) = q
    have h1 := follow_rg e.fl { name := e.name, bang := q.1.isSome } (two a b) q.2
    have h0 := follow_rg e.fl { name := e.name, bang := q.1.isSome } [] q.2
    have h1' : followC e.fl { rg := two a b, name := e.name, bang := q.1.isSome } q.2 = _ := h1
    have hr : (followC e.fl { rg := [], name := e.name, bang := q.1.isSome } q.2).2.1.rg = [] := by
      have := congrArg (fun z => z.2.1.rg) h0
      exact this
    rw [h1']
    generalize followC e.fl { name := e.name, bang := q.1.isSome } q.2 = y at hr ⊢
    obtain ⟨y1, y2, y3⟩ := y
    simp only at hr ⊢
    by_cases g1 : y1 = 0
    · subst g1
      by_cases g2 : blkL y3 = []
      · simp [g2, hr]
      · simp [g2]
    · simp [g1]
theorem cmdL_of {l : List UInt8} (h : ¬ 1000 < l.length) : cmdL l = if (readC l).1 = 0 then readC l else ((readC l).1, { cnt := 0 }) := by unfold cmdL; rw [if_neg h]
/-- What Parse tells of a text with two numbers ahead. -/
theorem cmd_rng {a b : Nat} (ha : a < 65536) (hb : b < 65536) {c : UInt8} (hc : rngB c = true) (r : List UInt8) (hl : (c :: r).length ≤ 300) :
    cmdL (rngL a b (c :: r)) = ((cmdL (c :: r)).1, if (cmdL (c :: r)).1 = 0 then { (cmdL (c :: r)).2 with rg := two a b } else { cnt := 0 }) ∧ ((cmdL (c :: r)).1 = 0 → (cmdL (c :: r)).2.rg = []) := by
  obtain ⟨h1, h2⟩ := read_rng (a := a) (b := b) (by omega) (by omega) hc r
  have l1 : (digs a).length ≤ 6 := digs_len 5 (by omega)
  have l2 : (digs b).length ≤ 6 := digs_len 5 (by omega)
  have hl2 : ¬ 1000 < (rngL a b (c :: r)).length := by
    unfold rngL
    simp only [List.length_cons, List.length_append] at hl ⊢
    omega
  have hl1 : ¬ 1000 < (c :: r).length := by omega
  rw [cmdL_of hl2, cmdL_of hl1, h1]
  by_cases g : (readC (c :: r)).1 = 0
  · simp only [g, if_true]
    exact ⟨trivial, fun _ => h2 g⟩
  · simp only [g, if_false]
    exact ⟨trivial, fun q => q.elim⟩
end Go.Proofs.YtfgapmfjfienhaaGreatDoor
/- The laws' digits: of any number. -/
namespace Go.Proofs.YtfgapmfjfienhaaGreatDoor
open Go.ChangeShapes Go.WideShapes Go.ChangeAt Go.RowKit Go.Maps Go.MapKept
set_option linter.unusedVariables false
set_option linter.unusedSimpArgs false
set_option maxRecDepth 100000
section
variable {w : World}
set_option maxHeartbeats 1000000 in
theorem digits_any : ∀ (n : Nat), n < 1000000 → ∀ (w : World), Calls Tryz.prog 13 #[.int .i64 (n : Int)] w fun e w' => e = .returned (.string (bA (digs n))) ∧ Kp w w' := by
  intro n
  induction n using Nat.strongRecOn with
  | ind n ih =>
    intro hn w
    by_cases h : n < 10
    · exact digits_one h w
    · have g1 : decide ((n : Int) < 10) = false := decide_eq_false (by omega)
      have g2 : decide (n < 10) = false := decide_eq_false h
      have d1 : (n : Int).tdiv 10 = ((n / 10 : Nat) : Int) := by rw [Int.tdiv_eq_ediv_of_nonneg (by omega)]; omega
      have d2 : (n : Int).tmod 10 = ((n % 10 : Nat) : Int) := by rw [Int.tmod_eq_emod_of_nonneg (by omega)]; omega
      have e1 : (n : Int) / 10 = ((n / 10 : Nat) : Int) := by omega
      have e2 : (n : Int) % 10 = ((n % 10 : Nat) : Int) := by omega
      obtain ⟨a, ha⟩ : ∃ a, n / 10 = a := ⟨_, rfl⟩
      obtain ⟨b, hb⟩ : ∃ b, n % 10 = b := ⟨_, rfl⟩
      rw [ha] at d1 e1; rw [hb] at d2 e2
      have HD : Hid (digs n = digs a ++ digs b) := by show _ = _; rw [digs_more h, ha, hb, ← digs_one (n := b) (by omega)]
      have z1 : (digs a).length ≤ 6 := digs_len 5 (by omega)
      have z2 : (digs b).length ≤ 6 := digs_len 5 (by omega)
      obtain ⟨A, hA⟩ : ∃ A, bA (digs a) = A := ⟨_, rfl⟩
      obtain ⟨B, hB⟩ : ∃ B, bA (digs b) = B := ⟨_, rfl⟩
      have y1 : A.size ≤ 6 := by rw [← hA]; show (digs a).toArray.size ≤ 6; simpa using z1
      have y2 : B.size ≤ 6 := by rw [← hB]; show (digs b).toArray.size ≤ 6; simpa using z2
      have HE : Hid (A ++ B = bA (digs n)) := by show _ = _; rw [HD.out, ← hA, ← hB, bA_app]
      have H1 : Hid (∀ z, Calls Tryz.prog 13 #[.int .i64 (a : Int)] z fun e w' => e = .returned (.string A) ∧ Kp z w') := fun z => by rw [← hA]; exact ih a (by omega) (by omega) z
      have H2 : Hid (∀ z, Calls Tryz.prog 13 #[.int .i64 (b : Int)] z fun e w' => e = .returned (.string B) ∧ Kp z w') := fun z => by rw [← hB]; exact ih b (by omega) (by omega) z
      clear ih ha hb z1 z2 hA hB HD
      go_enter Tryz.func13, Tryz.ntmps13
      go_wp2_with fail
      refine Calls.mono (H1.out _) ?_
      rintro e w1 ⟨rfl, k1⟩
      have HK1 : Hid (Kp w w1) := k1
      clear k1 H1
      go_wp2_with fail
      refine Calls.mono (H2.out _) ?_
      rintro e w2 ⟨rfl, k2⟩
      have HK2 : Hid (Kp w w2) := kp_trans HK1.out k2
      clear k2 H2 HK1
      go_wp2_with fail
      go_ret
      exact ⟨by rw [← HE.out]; rfl, HK2.out⟩
end
end Go.Proofs.YtfgapmfjfienhaaGreatDoor
/- CmdRange: the walk. -/
namespace Go.Proofs.YtfgapmfjfienhaaGreatDoor
open Go.ChangeShapes Go.WideShapes Go.ChangeAt Go.RowKit Go.Maps Go.MapKept
set_option linter.unusedVariables false
set_option linter.unusedSimpArgs false
set_option maxRecDepth 100000
theorem rgx_list (a b : Nat) (s : ByteArray) : ((⟨#[32, 58]⟩ : ByteArray) ++ bA (digs a) ++ ⟨#[32, 44, 32]⟩ ++ bA (digs b) ++ ⟨#[32]⟩ ++ s).data.toList = rngL a b s.data.toList := by
  simp [ByteArray.data_append, bA, rngL]
theorem rgx_size {a b : Nat} {s : ByteArray} (ha : a < 65536) (hb : b < 65536) (hs : s.size ≤ 300) : ((⟨#[32, 58]⟩ : ByteArray) ++ bA (digs a) ++ ⟨#[32, 44, 32]⟩ ++ bA (digs b) ++ ⟨#[32]⟩ ++ s).size ≤ 1000 := by
  have l1 : (digs a).length ≤ 6 := digs_len 5 (by omega)
  have l2 : (digs b).length ≤ 6 := digs_len 5 (by omega)
  rw [Lib.size_eq, rgx_list]
  rw [Lib.size_eq] at hs
  unfold rngL
  simp only [List.length_cons, List.length_append]
  omega
end Go.Proofs.YtfgapmfjfienhaaGreatDoor
/- CmdRange: the walk, a command behind numbers. -/
namespace Go.Proofs.YtfgapmfjfienhaaGreatDoor
open Go.ChangeShapes Go.WideShapes Go.ChangeAt Go.RowKit Go.Maps Go.MapKept
set_option linter.unusedVariables false
set_option linter.unusedSimpArgs false
set_option maxRecDepth 100000
section
variable {w : World}
set_option maxHeartbeats 8000000 in
theorem rg_letok (s : ByteArray) {a b n : Nat} {c c2 : CmP} (ha : a < 65536) (hb : b < 65536) (hs : s.size ≤ 300) (h0 : 0 < s.size) (hX : cmdL s.data.toList = (n, c)) (hY : cmdL (rngL a b s.data.toList) = (n, c2)) (hc : 97 ≤ (s[0]'h0).toNat) (hd : (s[0]'h0).toNat ≤ 122) (hn : n = 0) (hr : c.rg = []) (h2 : c2 = { c with rg := two a b })  (hw : Gs w) : Calls Tryz.prog 8 #[.string s, .int .u16 (a : Int), .int .u16 (b : Int)] w fun e w' => e = .returned (.bool true) ∧ Kp w w' := by
  have H1 : Hid (Calls Tryz.prog 11 #[] w fun e w' => e = .returned (.bool true) ∧ Kp w w') := known_any hw
  have Hg : Hid (∀ z, Kp w z → Gs z) := fun z k => hw.kp k
  have H2 : Hid (∀ z, Gs z → Calls Tryz.prog 12 #[.string s] z _) := fun z hz => parse_at s (by omega) hX hz
  have hZ := rgx_size (s := s) ha hb hs
  have hY2 : cmdL ((⟨#[32, 58]⟩ : ByteArray) ++ bA (digs a) ++ ⟨#[32, 44, 32]⟩ ++ bA (digs b) ++ ⟨#[32]⟩ ++ s).data.toList = (n, c2) := by rw [rgx_list]; exact hY
  have D1 : Hid (∀ z, Calls Tryz.prog 13 #[.int .i64 (a : Int)] z _) := fun z => digits_any a (by omega) z
  have D2 : Hid (∀ z, Calls Tryz.prog 13 #[.int .i64 (b : Int)] z _) := fun z => digits_any b (by omega) z
  have y1 : (bA (digs a)).size ≤ 6 := by show (digs a).toArray.size ≤ 6; simpa using digs_len 5 (n := a) (by omega)
  have y2 : (bA (digs b)).size ≤ 6 := by show (digs b).toArray.size ≤ 6; simpa using digs_len 5 (n := b) (by omega)
  obtain ⟨A, hA⟩ : ∃ A, bA (digs a) = A := ⟨_, rfl⟩
  obtain ⟨B, hB⟩ : ∃ B, bA (digs b) = B := ⟨_, rfl⟩
  rw [hA] at D1 y1 hZ hY2; rw [hB] at D2 y2 hZ hY2
  have H3 : Hid (∀ z, Gs z → Calls Tryz.prog 12 #[.string ((⟨#[32, 58]⟩ : ByteArray) ++ A ++ ⟨#[32, 44, 32]⟩ ++ B ++ ⟨#[32]⟩ ++ s)] z _) := fun z hz => parse_at _ (by omega) hY2 hz
  have g1 : decide ((s.size : Int) > 300) = false := decide_eq_false (by omega)
  have g2 : decide ((300 : Int) < (s.size : Int)) = false := decide_eq_false (by omega)
  have g3 : decide (300 < s.size) = false := decide_eq_false (by omega)
  have g4 : ((s.size : Int) == 0) = false := by rw [beq_eq_false_iff_ne]; omega
  have f1 : decide ((97 : Int) ≤ ((s[0]'h0).toNat : Int)) = true := decide_eq_true (by omega)
  have f2 : decide (((s[0]'h0).toNat : Int) ≤ 122) = true := decide_eq_true (by omega)
  subst hn; subst h2
  have HR : Hid (c.rg = []) := hr
  clear hr
  clear hw hX hY hY2 hZ hA hB
  go_enter Tryz.func8, Tryz.ntmps8
  go_wp2_with fail
  refine Calls.mono H1.out ?_
  rintro e w1 ⟨rfl, k1⟩
  have HK : Hid (Kp w w1) := k1
  clear k1 H1
  go_wp2_with fail
  refine Calls.mono (H2.out _ (Hg.out _ HK.out)) ?_
  rintro e w3 ⟨ra, rc, da, dc, rfl, HA⟩
  clear H2
  obtain ⟨q1, hq1⟩ : ∃ q, w3.heap.size = q := ⟨_, rfl⟩
  obtain ⟨U1, hU1⟩ : ∃ z, w3.alloc (.cells #[.slice none 0 0, .string ⟨#[]⟩, .bool false, .int .u8 0, .int .i64 0, .slice none 0 0, .string ⟨#[]⟩, .string ⟨#[]⟩, .string ⟨#[]⟩, .string ⟨#[]⟩] 27) = z := ⟨_, rfl⟩
  have HB : Hid (Lc 27 q1 zmC U1 ∧ Kp w3 U1 ∧ w3.heap.size ≤ q1) := by
    rw [← hU1, ← hq1]; exact ⟨box_new w3, kp_alloc _ _, Nat.le_refl _⟩
  go_upto_region 7 with (refine wpList_store_box HB.out.1 0 (cmC c (.slice ra c.rg.length rc) (.slice da c.dest.length dc)) rfl 27 (.tmp 8) (.tmp 61) rfl rfl rfl (Nat.le_refl 10) sizeCmd (cmC_one _ _ _ _ _ _ _) rfl ?_; intro w4 x1 x2 x3; have HC : Hid (Lc 27 q1 (cmC c (.slice ra c.rg.length rc) (.slice da c.dest.length dc)) w4 ∧ Kp w3 w4 ∧ Kp w w4) := ⟨x1, kp_on HB.out.2.1 x2 HB.out.2.2, kp_trans (kp_trans HK.out HA.out.2.2) (kp_on HB.out.2.1 x2 HB.out.2.2)⟩; clear x1 x2 x3)
  have HD : Hid (w4.ownsRow w1.heap.size 43 6 (.slice ra c.rg.length rc) c.rg.length (adCs c.rg) ∧ w4.ownsRow w1.heap.size 43 6 (.slice da c.dest.length dc) c.dest.length (adCs c.dest)) := ⟨row_kp HA.out.1 HC.out.2.1, row_kp HA.out.2.1 HC.out.2.1⟩
  clear HA HB hq1 hU1 HK
  go_wp2_with fail
  refine Calls.mono (D1.out _) ?_
  rintro e v1 ⟨rfl, k1⟩
  have HE : Hid (Kp w4 v1) := k1
  clear k1 D1
  go_wp2_with fail
  refine Calls.mono (D2.out _) ?_
  rintro e v2 ⟨rfl, k1⟩
  have HF : Hid (Kp w4 v2) := kp_trans HE.out k1
  clear k1 D2 HE
  go_wp2_with fail
  refine Calls.mono (H3.out _ (Hg.out _ (kp_trans HC.out.2.2 HF.out))) ?_
  rintro e w5 ⟨rb, rd, db, dd, rfl, HA⟩
  clear H3
  obtain ⟨q2, hq2⟩ : ∃ q, w5.heap.size = q := ⟨_, rfl⟩
  obtain ⟨U2, hU2⟩ : ∃ z, w5.alloc (.cells #[.slice none 0 0, .string ⟨#[]⟩, .bool false, .int .u8 0, .int .i64 0, .slice none 0 0, .string ⟨#[]⟩, .string ⟨#[]⟩, .string ⟨#[]⟩, .string ⟨#[]⟩] 27) = z := ⟨_, rfl⟩
  have HB : Hid (Lc 27 q2 zmC U2 ∧ Kp w5 U2 ∧ w5.heap.size ≤ q2) := by
    rw [← hU2, ← hq2]; exact ⟨box_new w5, kp_alloc _ _, Nat.le_refl _⟩
  go_upto_region 8 with (refine wpList_store_box HB.out.1 0 (cmC { c with rg := two a b } (.slice rb 2 rd) (.slice db c.dest.length dd)) rfl 27 (.tmp 10) (.tmp 77) rfl rfl rfl (Nat.le_refl 10) sizeCmd (cmC_one _ _ _ _ _ _ _) rfl ?_; intro w7 x1 x2 x3; have HE0 : Hid (Lc 27 q2 (cmC { c with rg := two a b } (.slice rb 2 rd) (.slice db c.dest.length dd)) w7 ∧ Kp w5 w7) := ⟨x1, kp_on HB.out.2.1 x2 HB.out.2.2⟩; clear x1 x2 x3)
  have k47 : Kp w4 w7 := kp_trans (kp_trans HF.out HA.out.2.2) HE0.out.2
  have hq12 : q1 < q2 := by
    have i1 : q1 < w4.heap.size := HC.out.1.lt
    have i2 := (kp_trans HF.out HA.out.2.2).size
    have i3 := HB.out.2.2
    omega
  obtain ⟨w8, hw8⟩ : ∃ z, w7.setCell ⟨q2, 0, none⟩ (.slice none 0 0) = z := ⟨_, rfl⟩
  have f78 : Fr (On q2) w7 w8 := by rw [← hw8]; exact fr_set _ _ _ _
  have HG : Hid (Lc 27 q1 (cmC c (.slice ra c.rg.length rc) (.slice da c.dest.length dc)) w8 ∧ Lc 27 q2 (cmC c (.slice none 0 0) (.slice db c.dest.length dd)) w8) :=
    ⟨(HC.out.1.kp k47).fr f78 (by unfold On; omega), by rw [← hw8]; exact HE0.out.1.set 0 (.slice none 0 0)⟩
  obtain ⟨g, rfl⟩ : ∃ g, rb = some ⟨g, 0, none⟩ := by
    rcases HA.out.1.2 with ⟨e, e0⟩ | ⟨g, _, _, e, _⟩
    · cases e0
    · cases e; exact ⟨g, rfl⟩
  have S0 := six_of (l := two a b) (i := 0) (row_kp HA.out.1 HE0.out.2) rfl
  have S1 := six_of (l := two a b) (i := 1) (row_kp HA.out.1 HE0.out.2) rfl
  have s1 : w7.cell? ⟨g, 1, none⟩ = some (.int .i64 (a : Int)) := S0.k1
  have s2 : w7.cell? ⟨g, 7, none⟩ = some (.int .i64 (b : Int)) := S1.k1
  have t0 : w7.cell? ⟨q2, 0, none⟩ = some (.slice (some ⟨g, 0, none⟩) 2 rd) := HE0.out.1.at (j := 0) rfl
  have t1 : w7.frozen? ⟨q2, 0, none⟩ = false := HE0.out.1.fz 0
  have k48 : Kp w4 w8 := by
    have i2 := (kp_trans HF.out HA.out.2.2).size
    have i3 := HB.out.2.2
    rw [← hw8]; exact kp_new k47 (by omega)
  have k58 : Kp w5 w8 := by rw [← hw8]; exact kp_new HE0.out.2 HB.out.2.2
  have hl0 : c.rg.length = 0 := by rw [HR.out]; rfl
  have HS : Hid (Calls Tryz.prog 14 #[.agg (cmC c (.slice ra c.rg.length rc) (.slice da c.dest.length dc)).toArray, .agg (cmC c (.slice none 0 0) (.slice db c.dest.length dd)).toArray] w8 fun e w' => e = .returned (.bool true) ∧ Kp w8 w') :=
    same_core c (fun z k => by rw [hl0]; exact adsame0 _ _ _ _ z) (fun z k => adsame_any (row_kp (row_kp HD.out.2 k48) k) (row_kp (row_kp HA.out.2.1 k58) k))
  have HX : Hid (Kp w w8) := kp_trans HC.out.2.2 k48
  have x0 : w8.cell? ⟨q1, 0, none⟩ = some (.slice ra c.rg.length rc) := HG.out.1.at (j := 0) rfl
  have x1 : w8.cell? ⟨q1, 1, none⟩ = some (.string (bA c.name)) := HG.out.1.at (j := 1) rfl
  have x2 : w8.cell? ⟨q1, 2, none⟩ = some (.bool c.bang) := HG.out.1.at (j := 2) rfl
  have x3 : w8.cell? ⟨q1, 3, none⟩ = some (.int .u8 (c.reg : Int)) := HG.out.1.at (j := 3) rfl
  have x4 : w8.cell? ⟨q1, 4, none⟩ = some (.int .i64 c.cnt) := HG.out.1.at (j := 4) rfl
  have x5 : w8.cell? ⟨q1, 5, none⟩ = some (.slice da c.dest.length dc) := HG.out.1.at (j := 5) rfl
  have x6 : w8.cell? ⟨q1, 6, none⟩ = some (.string (bA c.pat)) := HG.out.1.at (j := 6) rfl
  have x7 : w8.cell? ⟨q1, 7, none⟩ = some (.string (bA c.rep)) := HG.out.1.at (j := 7) rfl
  have x8 : w8.cell? ⟨q1, 8, none⟩ = some (.string (bA c.flags)) := HG.out.1.at (j := 8) rfl
  have x9 : w8.cell? ⟨q1, 9, none⟩ = some (.string (bA c.arg)) := HG.out.1.at (j := 9) rfl
  have y10 : w8.cell? ⟨q2, 0, none⟩ = some (.slice none 0 0) := HG.out.2.at (j := 0) rfl
  have y11 : w8.cell? ⟨q2, 1, none⟩ = some (.string (bA c.name)) := HG.out.2.at (j := 1) rfl
  have y12 : w8.cell? ⟨q2, 2, none⟩ = some (.bool c.bang) := HG.out.2.at (j := 2) rfl
  have y13 : w8.cell? ⟨q2, 3, none⟩ = some (.int .u8 (c.reg : Int)) := HG.out.2.at (j := 3) rfl
  have y14 : w8.cell? ⟨q2, 4, none⟩ = some (.int .i64 c.cnt) := HG.out.2.at (j := 4) rfl
  have y15 : w8.cell? ⟨q2, 5, none⟩ = some (.slice db c.dest.length dd) := HG.out.2.at (j := 5) rfl
  have y16 : w8.cell? ⟨q2, 6, none⟩ = some (.string (bA c.pat)) := HG.out.2.at (j := 6) rfl
  have y17 : w8.cell? ⟨q2, 7, none⟩ = some (.string (bA c.rep)) := HG.out.2.at (j := 7) rfl
  have y18 : w8.cell? ⟨q2, 8, none⟩ = some (.string (bA c.flags)) := HG.out.2.at (j := 8) rfl
  have y19 : w8.cell? ⟨q2, 9, none⟩ = some (.string (bA c.arg)) := HG.out.2.at (j := 9) rfl
  clear S0 S1 HA HB HE0 HG k47 k48 k58 hl0 f78 hq12 hU2 hq2 HD HF HC HR Hg
  go_wp2_with fail
  refine Calls.mono HS.out ?_
  rintro e w9 ⟨rfl, k⟩
  have HZ : Hid (Kp w w9) := kp_trans HX.out k
  clear k HS HX x0 x1 x2 x3 x4 x5 x6 x7 x8 x9 y10 y11 y12 y13 y14 y15 y16 y17 y18 y19
  go_wp2_with fail
  go_ret
  exact ⟨rfl, HZ.out⟩
set_option maxHeartbeats 8000000 in
theorem rg_62ok (s : ByteArray) {a b n : Nat} {c c2 : CmP} (ha : a < 65536) (hb : b < 65536) (hs : s.size ≤ 300) (h0 : 0 < s.size) (hX : cmdL s.data.toList = (n, c)) (hY : cmdL (rngL a b s.data.toList) = (n, c2)) (hv : (s[0]'h0).toNat = 62) (hn : n = 0) (hr : c.rg = []) (h2 : c2 = { c with rg := two a b })  (hw : Gs w) : Calls Tryz.prog 8 #[.string s, .int .u16 (a : Int), .int .u16 (b : Int)] w fun e w' => e = .returned (.bool true) ∧ Kp w w' := by
  have H1 : Hid (Calls Tryz.prog 11 #[] w fun e w' => e = .returned (.bool true) ∧ Kp w w') := known_any hw
  have Hg : Hid (∀ z, Kp w z → Gs z) := fun z k => hw.kp k
  have H2 : Hid (∀ z, Gs z → Calls Tryz.prog 12 #[.string s] z _) := fun z hz => parse_at s (by omega) hX hz
  have hZ := rgx_size (s := s) ha hb hs
  have hY2 : cmdL ((⟨#[32, 58]⟩ : ByteArray) ++ bA (digs a) ++ ⟨#[32, 44, 32]⟩ ++ bA (digs b) ++ ⟨#[32]⟩ ++ s).data.toList = (n, c2) := by rw [rgx_list]; exact hY
  have D1 : Hid (∀ z, Calls Tryz.prog 13 #[.int .i64 (a : Int)] z _) := fun z => digits_any a (by omega) z
  have D2 : Hid (∀ z, Calls Tryz.prog 13 #[.int .i64 (b : Int)] z _) := fun z => digits_any b (by omega) z
  have y1 : (bA (digs a)).size ≤ 6 := by show (digs a).toArray.size ≤ 6; simpa using digs_len 5 (n := a) (by omega)
  have y2 : (bA (digs b)).size ≤ 6 := by show (digs b).toArray.size ≤ 6; simpa using digs_len 5 (n := b) (by omega)
  obtain ⟨A, hA⟩ : ∃ A, bA (digs a) = A := ⟨_, rfl⟩
  obtain ⟨B, hB⟩ : ∃ B, bA (digs b) = B := ⟨_, rfl⟩
  rw [hA] at D1 y1 hZ hY2; rw [hB] at D2 y2 hZ hY2
  have H3 : Hid (∀ z, Gs z → Calls Tryz.prog 12 #[.string ((⟨#[32, 58]⟩ : ByteArray) ++ A ++ ⟨#[32, 44, 32]⟩ ++ B ++ ⟨#[32]⟩ ++ s)] z _) := fun z hz => parse_at _ (by omega) hY2 hz
  have g1 : decide ((s.size : Int) > 300) = false := decide_eq_false (by omega)
  have g2 : decide ((300 : Int) < (s.size : Int)) = false := decide_eq_false (by omega)
  have g3 : decide (300 < s.size) = false := decide_eq_false (by omega)
  have g4 : ((s.size : Int) == 0) = false := by rw [beq_eq_false_iff_ne]; omega
  have f1 := hv
  subst hn; subst h2
  have HR : Hid (c.rg = []) := hr
  clear hr
  clear hw hX hY hY2 hZ hA hB
  go_enter Tryz.func8, Tryz.ntmps8
  go_wp2_with fail
  refine Calls.mono H1.out ?_
  rintro e w1 ⟨rfl, k1⟩
  have HK : Hid (Kp w w1) := k1
  clear k1 H1
  go_wp2_with fail
  refine Calls.mono (H2.out _ (Hg.out _ HK.out)) ?_
  rintro e w3 ⟨ra, rc, da, dc, rfl, HA⟩
  clear H2
  obtain ⟨q1, hq1⟩ : ∃ q, w3.heap.size = q := ⟨_, rfl⟩
  obtain ⟨U1, hU1⟩ : ∃ z, w3.alloc (.cells #[.slice none 0 0, .string ⟨#[]⟩, .bool false, .int .u8 0, .int .i64 0, .slice none 0 0, .string ⟨#[]⟩, .string ⟨#[]⟩, .string ⟨#[]⟩, .string ⟨#[]⟩] 27) = z := ⟨_, rfl⟩
  have HB : Hid (Lc 27 q1 zmC U1 ∧ Kp w3 U1 ∧ w3.heap.size ≤ q1) := by
    rw [← hU1, ← hq1]; exact ⟨box_new w3, kp_alloc _ _, Nat.le_refl _⟩
  go_upto_region 7 with (refine wpList_store_box HB.out.1 0 (cmC c (.slice ra c.rg.length rc) (.slice da c.dest.length dc)) rfl 27 (.tmp 8) (.tmp 61) rfl rfl rfl (Nat.le_refl 10) sizeCmd (cmC_one _ _ _ _ _ _ _) rfl ?_; intro w4 x1 x2 x3; have HC : Hid (Lc 27 q1 (cmC c (.slice ra c.rg.length rc) (.slice da c.dest.length dc)) w4 ∧ Kp w3 w4 ∧ Kp w w4) := ⟨x1, kp_on HB.out.2.1 x2 HB.out.2.2, kp_trans (kp_trans HK.out HA.out.2.2) (kp_on HB.out.2.1 x2 HB.out.2.2)⟩; clear x1 x2 x3)
  have HD : Hid (w4.ownsRow w1.heap.size 43 6 (.slice ra c.rg.length rc) c.rg.length (adCs c.rg) ∧ w4.ownsRow w1.heap.size 43 6 (.slice da c.dest.length dc) c.dest.length (adCs c.dest)) := ⟨row_kp HA.out.1 HC.out.2.1, row_kp HA.out.2.1 HC.out.2.1⟩
  clear HA HB hq1 hU1 HK
  go_wp2_with fail
  refine Calls.mono (D1.out _) ?_
  rintro e v1 ⟨rfl, k1⟩
  have HE : Hid (Kp w4 v1) := k1
  clear k1 D1
  go_wp2_with fail
  refine Calls.mono (D2.out _) ?_
  rintro e v2 ⟨rfl, k1⟩
  have HF : Hid (Kp w4 v2) := kp_trans HE.out k1
  clear k1 D2 HE
  go_wp2_with fail
  refine Calls.mono (H3.out _ (Hg.out _ (kp_trans HC.out.2.2 HF.out))) ?_
  rintro e w5 ⟨rb, rd, db, dd, rfl, HA⟩
  clear H3
  obtain ⟨q2, hq2⟩ : ∃ q, w5.heap.size = q := ⟨_, rfl⟩
  obtain ⟨U2, hU2⟩ : ∃ z, w5.alloc (.cells #[.slice none 0 0, .string ⟨#[]⟩, .bool false, .int .u8 0, .int .i64 0, .slice none 0 0, .string ⟨#[]⟩, .string ⟨#[]⟩, .string ⟨#[]⟩, .string ⟨#[]⟩] 27) = z := ⟨_, rfl⟩
  have HB : Hid (Lc 27 q2 zmC U2 ∧ Kp w5 U2 ∧ w5.heap.size ≤ q2) := by
    rw [← hU2, ← hq2]; exact ⟨box_new w5, kp_alloc _ _, Nat.le_refl _⟩
  go_upto_region 8 with (refine wpList_store_box HB.out.1 0 (cmC { c with rg := two a b } (.slice rb 2 rd) (.slice db c.dest.length dd)) rfl 27 (.tmp 10) (.tmp 77) rfl rfl rfl (Nat.le_refl 10) sizeCmd (cmC_one _ _ _ _ _ _ _) rfl ?_; intro w7 x1 x2 x3; have HE0 : Hid (Lc 27 q2 (cmC { c with rg := two a b } (.slice rb 2 rd) (.slice db c.dest.length dd)) w7 ∧ Kp w5 w7) := ⟨x1, kp_on HB.out.2.1 x2 HB.out.2.2⟩; clear x1 x2 x3)
  have k47 : Kp w4 w7 := kp_trans (kp_trans HF.out HA.out.2.2) HE0.out.2
  have hq12 : q1 < q2 := by
    have i1 : q1 < w4.heap.size := HC.out.1.lt
    have i2 := (kp_trans HF.out HA.out.2.2).size
    have i3 := HB.out.2.2
    omega
  obtain ⟨w8, hw8⟩ : ∃ z, w7.setCell ⟨q2, 0, none⟩ (.slice none 0 0) = z := ⟨_, rfl⟩
  have f78 : Fr (On q2) w7 w8 := by rw [← hw8]; exact fr_set _ _ _ _
  have HG : Hid (Lc 27 q1 (cmC c (.slice ra c.rg.length rc) (.slice da c.dest.length dc)) w8 ∧ Lc 27 q2 (cmC c (.slice none 0 0) (.slice db c.dest.length dd)) w8) :=
    ⟨(HC.out.1.kp k47).fr f78 (by unfold On; omega), by rw [← hw8]; exact HE0.out.1.set 0 (.slice none 0 0)⟩
  obtain ⟨g, rfl⟩ : ∃ g, rb = some ⟨g, 0, none⟩ := by
    rcases HA.out.1.2 with ⟨e, e0⟩ | ⟨g, _, _, e, _⟩
    · cases e0
    · cases e; exact ⟨g, rfl⟩
  have S0 := six_of (l := two a b) (i := 0) (row_kp HA.out.1 HE0.out.2) rfl
  have S1 := six_of (l := two a b) (i := 1) (row_kp HA.out.1 HE0.out.2) rfl
  have s1 : w7.cell? ⟨g, 1, none⟩ = some (.int .i64 (a : Int)) := S0.k1
  have s2 : w7.cell? ⟨g, 7, none⟩ = some (.int .i64 (b : Int)) := S1.k1
  have t0 : w7.cell? ⟨q2, 0, none⟩ = some (.slice (some ⟨g, 0, none⟩) 2 rd) := HE0.out.1.at (j := 0) rfl
  have t1 : w7.frozen? ⟨q2, 0, none⟩ = false := HE0.out.1.fz 0
  have k48 : Kp w4 w8 := by
    have i2 := (kp_trans HF.out HA.out.2.2).size
    have i3 := HB.out.2.2
    rw [← hw8]; exact kp_new k47 (by omega)
  have k58 : Kp w5 w8 := by rw [← hw8]; exact kp_new HE0.out.2 HB.out.2.2
  have hl0 : c.rg.length = 0 := by rw [HR.out]; rfl
  have HS : Hid (Calls Tryz.prog 14 #[.agg (cmC c (.slice ra c.rg.length rc) (.slice da c.dest.length dc)).toArray, .agg (cmC c (.slice none 0 0) (.slice db c.dest.length dd)).toArray] w8 fun e w' => e = .returned (.bool true) ∧ Kp w8 w') :=
    same_core c (fun z k => by rw [hl0]; exact adsame0 _ _ _ _ z) (fun z k => adsame_any (row_kp (row_kp HD.out.2 k48) k) (row_kp (row_kp HA.out.2.1 k58) k))
  have HX : Hid (Kp w w8) := kp_trans HC.out.2.2 k48
  have x0 : w8.cell? ⟨q1, 0, none⟩ = some (.slice ra c.rg.length rc) := HG.out.1.at (j := 0) rfl
  have x1 : w8.cell? ⟨q1, 1, none⟩ = some (.string (bA c.name)) := HG.out.1.at (j := 1) rfl
  have x2 : w8.cell? ⟨q1, 2, none⟩ = some (.bool c.bang) := HG.out.1.at (j := 2) rfl
  have x3 : w8.cell? ⟨q1, 3, none⟩ = some (.int .u8 (c.reg : Int)) := HG.out.1.at (j := 3) rfl
  have x4 : w8.cell? ⟨q1, 4, none⟩ = some (.int .i64 c.cnt) := HG.out.1.at (j := 4) rfl
  have x5 : w8.cell? ⟨q1, 5, none⟩ = some (.slice da c.dest.length dc) := HG.out.1.at (j := 5) rfl
  have x6 : w8.cell? ⟨q1, 6, none⟩ = some (.string (bA c.pat)) := HG.out.1.at (j := 6) rfl
  have x7 : w8.cell? ⟨q1, 7, none⟩ = some (.string (bA c.rep)) := HG.out.1.at (j := 7) rfl
  have x8 : w8.cell? ⟨q1, 8, none⟩ = some (.string (bA c.flags)) := HG.out.1.at (j := 8) rfl
  have x9 : w8.cell? ⟨q1, 9, none⟩ = some (.string (bA c.arg)) := HG.out.1.at (j := 9) rfl
  have y10 : w8.cell? ⟨q2, 0, none⟩ = some (.slice none 0 0) := HG.out.2.at (j := 0) rfl
  have y11 : w8.cell? ⟨q2, 1, none⟩ = some (.string (bA c.name)) := HG.out.2.at (j := 1) rfl
  have y12 : w8.cell? ⟨q2, 2, none⟩ = some (.bool c.bang) := HG.out.2.at (j := 2) rfl
  have y13 : w8.cell? ⟨q2, 3, none⟩ = some (.int .u8 (c.reg : Int)) := HG.out.2.at (j := 3) rfl
  have y14 : w8.cell? ⟨q2, 4, none⟩ = some (.int .i64 c.cnt) := HG.out.2.at (j := 4) rfl
  have y15 : w8.cell? ⟨q2, 5, none⟩ = some (.slice db c.dest.length dd) := HG.out.2.at (j := 5) rfl
  have y16 : w8.cell? ⟨q2, 6, none⟩ = some (.string (bA c.pat)) := HG.out.2.at (j := 6) rfl
  have y17 : w8.cell? ⟨q2, 7, none⟩ = some (.string (bA c.rep)) := HG.out.2.at (j := 7) rfl
  have y18 : w8.cell? ⟨q2, 8, none⟩ = some (.string (bA c.flags)) := HG.out.2.at (j := 8) rfl
  have y19 : w8.cell? ⟨q2, 9, none⟩ = some (.string (bA c.arg)) := HG.out.2.at (j := 9) rfl
  clear S0 S1 HA HB HE0 HG k47 k48 k58 hl0 f78 hq12 hU2 hq2 HD HF HC HR Hg
  go_wp2_with fail
  refine Calls.mono HS.out ?_
  rintro e w9 ⟨rfl, k⟩
  have HZ : Hid (Kp w w9) := kp_trans HX.out k
  clear k HS HX x0 x1 x2 x3 x4 x5 x6 x7 x8 x9 y10 y11 y12 y13 y14 y15 y16 y17 y18 y19
  go_wp2_with fail
  go_ret
  exact ⟨rfl, HZ.out⟩
set_option maxHeartbeats 8000000 in
theorem rg_60ok (s : ByteArray) {a b n : Nat} {c c2 : CmP} (ha : a < 65536) (hb : b < 65536) (hs : s.size ≤ 300) (h0 : 0 < s.size) (hX : cmdL s.data.toList = (n, c)) (hY : cmdL (rngL a b s.data.toList) = (n, c2)) (hv : (s[0]'h0).toNat = 60) (hn : n = 0) (hr : c.rg = []) (h2 : c2 = { c with rg := two a b })  (hw : Gs w) : Calls Tryz.prog 8 #[.string s, .int .u16 (a : Int), .int .u16 (b : Int)] w fun e w' => e = .returned (.bool true) ∧ Kp w w' := by
  have H1 : Hid (Calls Tryz.prog 11 #[] w fun e w' => e = .returned (.bool true) ∧ Kp w w') := known_any hw
  have Hg : Hid (∀ z, Kp w z → Gs z) := fun z k => hw.kp k
  have H2 : Hid (∀ z, Gs z → Calls Tryz.prog 12 #[.string s] z _) := fun z hz => parse_at s (by omega) hX hz
  have hZ := rgx_size (s := s) ha hb hs
  have hY2 : cmdL ((⟨#[32, 58]⟩ : ByteArray) ++ bA (digs a) ++ ⟨#[32, 44, 32]⟩ ++ bA (digs b) ++ ⟨#[32]⟩ ++ s).data.toList = (n, c2) := by rw [rgx_list]; exact hY
  have D1 : Hid (∀ z, Calls Tryz.prog 13 #[.int .i64 (a : Int)] z _) := fun z => digits_any a (by omega) z
  have D2 : Hid (∀ z, Calls Tryz.prog 13 #[.int .i64 (b : Int)] z _) := fun z => digits_any b (by omega) z
  have y1 : (bA (digs a)).size ≤ 6 := by show (digs a).toArray.size ≤ 6; simpa using digs_len 5 (n := a) (by omega)
  have y2 : (bA (digs b)).size ≤ 6 := by show (digs b).toArray.size ≤ 6; simpa using digs_len 5 (n := b) (by omega)
  obtain ⟨A, hA⟩ : ∃ A, bA (digs a) = A := ⟨_, rfl⟩
  obtain ⟨B, hB⟩ : ∃ B, bA (digs b) = B := ⟨_, rfl⟩
  rw [hA] at D1 y1 hZ hY2; rw [hB] at D2 y2 hZ hY2
  have H3 : Hid (∀ z, Gs z → Calls Tryz.prog 12 #[.string ((⟨#[32, 58]⟩ : ByteArray) ++ A ++ ⟨#[32, 44, 32]⟩ ++ B ++ ⟨#[32]⟩ ++ s)] z _) := fun z hz => parse_at _ (by omega) hY2 hz
  have g1 : decide ((s.size : Int) > 300) = false := decide_eq_false (by omega)
  have g2 : decide ((300 : Int) < (s.size : Int)) = false := decide_eq_false (by omega)
  have g3 : decide (300 < s.size) = false := decide_eq_false (by omega)
  have g4 : ((s.size : Int) == 0) = false := by rw [beq_eq_false_iff_ne]; omega
  have f1 := hv
  subst hn; subst h2
  have HR : Hid (c.rg = []) := hr
  clear hr
  clear hw hX hY hY2 hZ hA hB
  go_enter Tryz.func8, Tryz.ntmps8
  go_wp2_with fail
  refine Calls.mono H1.out ?_
  rintro e w1 ⟨rfl, k1⟩
  have HK : Hid (Kp w w1) := k1
  clear k1 H1
  go_wp2_with fail
  refine Calls.mono (H2.out _ (Hg.out _ HK.out)) ?_
  rintro e w3 ⟨ra, rc, da, dc, rfl, HA⟩
  clear H2
  obtain ⟨q1, hq1⟩ : ∃ q, w3.heap.size = q := ⟨_, rfl⟩
  obtain ⟨U1, hU1⟩ : ∃ z, w3.alloc (.cells #[.slice none 0 0, .string ⟨#[]⟩, .bool false, .int .u8 0, .int .i64 0, .slice none 0 0, .string ⟨#[]⟩, .string ⟨#[]⟩, .string ⟨#[]⟩, .string ⟨#[]⟩] 27) = z := ⟨_, rfl⟩
  have HB : Hid (Lc 27 q1 zmC U1 ∧ Kp w3 U1 ∧ w3.heap.size ≤ q1) := by
    rw [← hU1, ← hq1]; exact ⟨box_new w3, kp_alloc _ _, Nat.le_refl _⟩
  go_upto_region 7 with (refine wpList_store_box HB.out.1 0 (cmC c (.slice ra c.rg.length rc) (.slice da c.dest.length dc)) rfl 27 (.tmp 8) (.tmp 61) rfl rfl rfl (Nat.le_refl 10) sizeCmd (cmC_one _ _ _ _ _ _ _) rfl ?_; intro w4 x1 x2 x3; have HC : Hid (Lc 27 q1 (cmC c (.slice ra c.rg.length rc) (.slice da c.dest.length dc)) w4 ∧ Kp w3 w4 ∧ Kp w w4) := ⟨x1, kp_on HB.out.2.1 x2 HB.out.2.2, kp_trans (kp_trans HK.out HA.out.2.2) (kp_on HB.out.2.1 x2 HB.out.2.2)⟩; clear x1 x2 x3)
  have HD : Hid (w4.ownsRow w1.heap.size 43 6 (.slice ra c.rg.length rc) c.rg.length (adCs c.rg) ∧ w4.ownsRow w1.heap.size 43 6 (.slice da c.dest.length dc) c.dest.length (adCs c.dest)) := ⟨row_kp HA.out.1 HC.out.2.1, row_kp HA.out.2.1 HC.out.2.1⟩
  clear HA HB hq1 hU1 HK
  go_wp2_with fail
  refine Calls.mono (D1.out _) ?_
  rintro e v1 ⟨rfl, k1⟩
  have HE : Hid (Kp w4 v1) := k1
  clear k1 D1
  go_wp2_with fail
  refine Calls.mono (D2.out _) ?_
  rintro e v2 ⟨rfl, k1⟩
  have HF : Hid (Kp w4 v2) := kp_trans HE.out k1
  clear k1 D2 HE
  go_wp2_with fail
  refine Calls.mono (H3.out _ (Hg.out _ (kp_trans HC.out.2.2 HF.out))) ?_
  rintro e w5 ⟨rb, rd, db, dd, rfl, HA⟩
  clear H3
  obtain ⟨q2, hq2⟩ : ∃ q, w5.heap.size = q := ⟨_, rfl⟩
  obtain ⟨U2, hU2⟩ : ∃ z, w5.alloc (.cells #[.slice none 0 0, .string ⟨#[]⟩, .bool false, .int .u8 0, .int .i64 0, .slice none 0 0, .string ⟨#[]⟩, .string ⟨#[]⟩, .string ⟨#[]⟩, .string ⟨#[]⟩] 27) = z := ⟨_, rfl⟩
  have HB : Hid (Lc 27 q2 zmC U2 ∧ Kp w5 U2 ∧ w5.heap.size ≤ q2) := by
    rw [← hU2, ← hq2]; exact ⟨box_new w5, kp_alloc _ _, Nat.le_refl _⟩
  go_upto_region 8 with (refine wpList_store_box HB.out.1 0 (cmC { c with rg := two a b } (.slice rb 2 rd) (.slice db c.dest.length dd)) rfl 27 (.tmp 10) (.tmp 77) rfl rfl rfl (Nat.le_refl 10) sizeCmd (cmC_one _ _ _ _ _ _ _) rfl ?_; intro w7 x1 x2 x3; have HE0 : Hid (Lc 27 q2 (cmC { c with rg := two a b } (.slice rb 2 rd) (.slice db c.dest.length dd)) w7 ∧ Kp w5 w7) := ⟨x1, kp_on HB.out.2.1 x2 HB.out.2.2⟩; clear x1 x2 x3)
  have k47 : Kp w4 w7 := kp_trans (kp_trans HF.out HA.out.2.2) HE0.out.2
  have hq12 : q1 < q2 := by
    have i1 : q1 < w4.heap.size := HC.out.1.lt
    have i2 := (kp_trans HF.out HA.out.2.2).size
    have i3 := HB.out.2.2
    omega
  obtain ⟨w8, hw8⟩ : ∃ z, w7.setCell ⟨q2, 0, none⟩ (.slice none 0 0) = z := ⟨_, rfl⟩
  have f78 : Fr (On q2) w7 w8 := by rw [← hw8]; exact fr_set _ _ _ _
  have HG : Hid (Lc 27 q1 (cmC c (.slice ra c.rg.length rc) (.slice da c.dest.length dc)) w8 ∧ Lc 27 q2 (cmC c (.slice none 0 0) (.slice db c.dest.length dd)) w8) :=
    ⟨(HC.out.1.kp k47).fr f78 (by unfold On; omega), by rw [← hw8]; exact HE0.out.1.set 0 (.slice none 0 0)⟩
  obtain ⟨g, rfl⟩ : ∃ g, rb = some ⟨g, 0, none⟩ := by
    rcases HA.out.1.2 with ⟨e, e0⟩ | ⟨g, _, _, e, _⟩
    · cases e0
    · cases e; exact ⟨g, rfl⟩
  have S0 := six_of (l := two a b) (i := 0) (row_kp HA.out.1 HE0.out.2) rfl
  have S1 := six_of (l := two a b) (i := 1) (row_kp HA.out.1 HE0.out.2) rfl
  have s1 : w7.cell? ⟨g, 1, none⟩ = some (.int .i64 (a : Int)) := S0.k1
  have s2 : w7.cell? ⟨g, 7, none⟩ = some (.int .i64 (b : Int)) := S1.k1
  have t0 : w7.cell? ⟨q2, 0, none⟩ = some (.slice (some ⟨g, 0, none⟩) 2 rd) := HE0.out.1.at (j := 0) rfl
  have t1 : w7.frozen? ⟨q2, 0, none⟩ = false := HE0.out.1.fz 0
  have k48 : Kp w4 w8 := by
    have i2 := (kp_trans HF.out HA.out.2.2).size
    have i3 := HB.out.2.2
    rw [← hw8]; exact kp_new k47 (by omega)
  have k58 : Kp w5 w8 := by rw [← hw8]; exact kp_new HE0.out.2 HB.out.2.2
  have hl0 : c.rg.length = 0 := by rw [HR.out]; rfl
  have HS : Hid (Calls Tryz.prog 14 #[.agg (cmC c (.slice ra c.rg.length rc) (.slice da c.dest.length dc)).toArray, .agg (cmC c (.slice none 0 0) (.slice db c.dest.length dd)).toArray] w8 fun e w' => e = .returned (.bool true) ∧ Kp w8 w') :=
    same_core c (fun z k => by rw [hl0]; exact adsame0 _ _ _ _ z) (fun z k => adsame_any (row_kp (row_kp HD.out.2 k48) k) (row_kp (row_kp HA.out.2.1 k58) k))
  have HX : Hid (Kp w w8) := kp_trans HC.out.2.2 k48
  have x0 : w8.cell? ⟨q1, 0, none⟩ = some (.slice ra c.rg.length rc) := HG.out.1.at (j := 0) rfl
  have x1 : w8.cell? ⟨q1, 1, none⟩ = some (.string (bA c.name)) := HG.out.1.at (j := 1) rfl
  have x2 : w8.cell? ⟨q1, 2, none⟩ = some (.bool c.bang) := HG.out.1.at (j := 2) rfl
  have x3 : w8.cell? ⟨q1, 3, none⟩ = some (.int .u8 (c.reg : Int)) := HG.out.1.at (j := 3) rfl
  have x4 : w8.cell? ⟨q1, 4, none⟩ = some (.int .i64 c.cnt) := HG.out.1.at (j := 4) rfl
  have x5 : w8.cell? ⟨q1, 5, none⟩ = some (.slice da c.dest.length dc) := HG.out.1.at (j := 5) rfl
  have x6 : w8.cell? ⟨q1, 6, none⟩ = some (.string (bA c.pat)) := HG.out.1.at (j := 6) rfl
  have x7 : w8.cell? ⟨q1, 7, none⟩ = some (.string (bA c.rep)) := HG.out.1.at (j := 7) rfl
  have x8 : w8.cell? ⟨q1, 8, none⟩ = some (.string (bA c.flags)) := HG.out.1.at (j := 8) rfl
  have x9 : w8.cell? ⟨q1, 9, none⟩ = some (.string (bA c.arg)) := HG.out.1.at (j := 9) rfl
  have y10 : w8.cell? ⟨q2, 0, none⟩ = some (.slice none 0 0) := HG.out.2.at (j := 0) rfl
  have y11 : w8.cell? ⟨q2, 1, none⟩ = some (.string (bA c.name)) := HG.out.2.at (j := 1) rfl
  have y12 : w8.cell? ⟨q2, 2, none⟩ = some (.bool c.bang) := HG.out.2.at (j := 2) rfl
  have y13 : w8.cell? ⟨q2, 3, none⟩ = some (.int .u8 (c.reg : Int)) := HG.out.2.at (j := 3) rfl
  have y14 : w8.cell? ⟨q2, 4, none⟩ = some (.int .i64 c.cnt) := HG.out.2.at (j := 4) rfl
  have y15 : w8.cell? ⟨q2, 5, none⟩ = some (.slice db c.dest.length dd) := HG.out.2.at (j := 5) rfl
  have y16 : w8.cell? ⟨q2, 6, none⟩ = some (.string (bA c.pat)) := HG.out.2.at (j := 6) rfl
  have y17 : w8.cell? ⟨q2, 7, none⟩ = some (.string (bA c.rep)) := HG.out.2.at (j := 7) rfl
  have y18 : w8.cell? ⟨q2, 8, none⟩ = some (.string (bA c.flags)) := HG.out.2.at (j := 8) rfl
  have y19 : w8.cell? ⟨q2, 9, none⟩ = some (.string (bA c.arg)) := HG.out.2.at (j := 9) rfl
  clear S0 S1 HA HB HE0 HG k47 k48 k58 hl0 f78 hq12 hU2 hq2 HD HF HC HR Hg
  go_wp2_with fail
  refine Calls.mono HS.out ?_
  rintro e w9 ⟨rfl, k⟩
  have HZ : Hid (Kp w w9) := kp_trans HX.out k
  clear k HS HX x0 x1 x2 x3 x4 x5 x6 x7 x8 x9 y10 y11 y12 y13 y14 y15 y16 y17 y18 y19
  go_wp2_with fail
  go_ret
  exact ⟨rfl, HZ.out⟩
end
end Go.Proofs.YtfgapmfjfienhaaGreatDoor
