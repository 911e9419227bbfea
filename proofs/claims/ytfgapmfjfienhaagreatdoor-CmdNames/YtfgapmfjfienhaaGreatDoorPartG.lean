/- Texts that the proof of the law stands on: QO, QK, QNp, QNa, QNb, QNc, QNd, QNm. -/
import Derived.Test.YtfgapmfjfienhaaGreatDoorPartF
import Derived.Great.Walk
/- Names: the walk. -/
namespace Go.Proofs.YtfgapmfjfienhaaGreatDoor
open Go.ChangeShapes Go.WideShapes Go.ChangeAt Go.RowKit Go.Maps Go.MapKept
set_option linter.unusedVariables false
set_option linter.unusedSimpArgs false
set_option maxRecDepth 100000
def nmR (i : Fin 23) : ByteArray := bA (entR i).name
theorem frG {w w' : World} {o : Option Nat} (hg : w.grownBy w' o) : Fr (fun k => some k = o) w w' := ⟨hg.os, hg.tape, hg.output, hg.size, fun k hk hn => hg.block k hk hn⟩
theorem row_tyg {B g : Nat} {v : Value} {ls : List ByteArray} {w : World} (h : Row B v ls w) (t : TyG g w) : ∀ k, v.ownBlock = some k → k ≠ g := by
  intro k hk
  rcases h.2 with ⟨rfl, _⟩ | ⟨g', cap, cur, rfl, hb, hg, _⟩
  · cases hk
  · simp only [Value.ownBlock, Option.some.injEq] at hk
    subst hk
    intro e
    obtain ⟨cur', fr, ht⟩ := t
    rw [e, ht] at hg
    cases hg
section
variable {w : World}
set_option maxHeartbeats 64000000 in
theorem names_any (hw : Gs w) :
    Calls Tryz.prog 16 #[] w fun e w' => ∃ v, e = .returned v ∧ Row w.heap.size v (gud.map nmR) w' ∧ Kp w w' := by
  obtain ⟨i9, hi9, z0, z1, z2⟩ := info_parts infoCom
  have HC : Hid _ := commands_any hw
  clear hw
  go_enter Tryz.func16, Tryz.ntmps16
  go_wp2_with fail
  refine Calls.mono HC.out ?_
  rintro e w2 ⟨bm, rfl, hm, k2, b2⟩
  have HA : Hid (Kp w w2 ∧ w.heap.size ≤ bm) := ⟨k2, b2⟩
  clear HC k2 b2
  go_wp2_with (first | (at_range; refine wpl_range rfl _ 59 63 rfl Tryz.underlying59 rfl hm ?_; intro w0 n0 hr0 hk0 hs0) | go_in)
  go_frame
  obtain ⟨r, hr⟩ : ∃ r, w2.heap.size = r := ⟨_, rfl⟩
  have G0 : Hid (Gth bm r (fun x => (mapF tabC x).isSome) (fun x => (mapF tabC x).isSome) n0 [] (.slice none 0 0) w w0) := by
    rw [← hr]
    refine ⟨hr0, World.ownsRow_nil _ _ _ _, List.nodup_nil, fun i => ⟨fun h => (by cases h), fun h => ?_⟩, kp_trans HA.out.1 hk0, HA.out.2, HA.out.1.size⟩
    have h2 := h.2
    rw [mapF_at] at h2
    have e : (bA (entR i).name).data.toList = (entR i).name := by simp [bA]
    rw [e, ent_at i] at h2
    cases h2
  rw [hr]
  clear hr0 hk0 hs0 hm hr
  go_loopw [1] (fun v1 wr => ∃ (left : ByteArray → Bool) (c : Nat) (acc : List (Fin 23)), Hid (Gth bm r left left c acc v1 w wr)) (fun _ wr => wr.rangeLeft bm r)
  case atStart => exact ⟨_, n0, [], G0⟩
  case round =>
    obtain ⟨left, c, acc, HG⟩ := hrel
    clear G0
    obtain ⟨va, vc, rfl, v1, v2⟩ := owns_form HG.out.row
    have hrg := HG.out.rg
    have hme : wr.rangeLeft bm r = c := hrg.left_eq
    go_wp2_with (first | (at_next; refine wpl_next rfl _ rfl rfl hrg ?_ ?_) | go_in)
    · intro hl
      have hp : acc.Perm gud := perm_gud HG.out.nd fun i => by rw [HG.out.mem i]; exact ⟨fun h => h.1, fun h => ⟨h, hl _⟩⟩
      have HN : Hid _ := nsort_any HG.out.row hp
      have HKw : Hid (Kp w wr) := HG.out.kp
      have hal : acc.length = 16 := by rw [hp.length_eq, gud_len]
      rw [hal] at HN ⊢
      clear HG hrg hme hl hp hal v1
      go_wp2_with fail
      refine Calls.mono HN.out ?_
      rintro e w3 ⟨rfl, g, rfl, hB, f3, hH, hty⟩
      have HX : Hid (Kp w w3 ∧ Sort.HoldsK enR 4 w3 g 0 gud.toArray ∧ TyG g w3) := ⟨kp_on HKw.out f3 hB, hH, hty⟩
      have HgB : Hid (w.heap.size ≤ g) := hB
      clear HN HKw hB f3 hH hty
      go_wp2_with fail
      go_loopw [4, 31] (fun v4 v31 wx => ∃ j : Nat, j ≤ 16 ∧ v31 = .int .i64 (j : Int) ∧ Hid (Row w.heap.size v4 ((gud.take j).map nmR) wx ∧ Kp w wx ∧ Sort.HoldsK enR 4 wx g 0 gud.toArray ∧ TyG g wx)) (fun _ v31 _ => 16 - (intOf v31).toNat)
      case atStart => exact ⟨0, Nat.zero_le _, rfl, World.ownsRow_nil _ _ _ _, HX.out⟩
      case round =>
        clear HX
        obtain ⟨j, hj, rfl, HI⟩ := hrel
        obtain ⟨na, nc, rfl, n1, n2⟩ := HI.out.1.form
        by_cases hlt : j < 16
        · have g1 : decide ((j : Int) < 16) = true := decide_eq_true (by omega)
          have hjg : j < gud.length := by rw [gud_len]; exact hlt
          obtain ⟨i, hi⟩ : ∃ i, gud[j]? = some i := ⟨gud[j], List.getElem?_eq_getElem hjg⟩
          have hel : gud.toArray[j]! = i := by
            obtain ⟨hl, e⟩ := List.getElem?_eq_some_iff.1 hi
            simp [getElem!_pos, hl, e]
          have HRg : Hid (wr.rangeAt g (j * 4) (enR i)) := fun t u ht => by
            have h4 : t < 4 := (List.getElem?_eq_some_iff.1 ht).1
            have := (HI.out.2.2.1.cell (i := j) (c := t) (by simpa using hjg) h4).1
            rw [hel, Nat.zero_add] at this
            rw [this]
            obtain ⟨hl, e⟩ := List.getElem?_eq_some_iff.1 ht
            rw [getElem!_pos (enR i) t hl, e]
          have htk : (gud.take (j + 1)).map nmR = (gud.take j).map nmR ++ [nmR i] := by
            rw [List.take_add_one, hi]; simp
          have HTk : Hid _ := htk
          have hlen : ((gud.take j).map nmR).length = j := by rw [List.length_map, List.length_take]; omega
          obtain ⟨q, hq⟩ : ∃ q, wr.heap.size = q := ⟨_, rfl⟩
          obtain ⟨W4, hW4⟩ : ∃ z, wr.alloc (.cells #[.string ⟨#[]⟩, .int .i64 0, .bool false, .nilFunc] 63) = z := ⟨_, rfl⟩
          have HQ : Hid (Row w.heap.size (.slice na j nc) ((gud.take j).map nmR) W4 ∧ Kp w W4 ∧ Sort.HoldsK enR 4 W4 g 0 gud.toArray ∧ TyG g W4 ∧ Lc 63 q zeC W4 ∧ w.heap.size ≤ q ∧ g < q ∧ (∀ x, (Value.slice na j nc).ownBlock = some x → x ≠ q)) := by
            have k := kp_alloc wr (.cells #[.string ⟨#[]⟩, .int .i64 0, .bool false, .nilFunc] 63)
            rw [hW4] at k
            have hr := HI.out.1
            rw [hlen] at hr
            refine ⟨row_kp hr k, kp_trans HI.out.2.1 k, holds_fr HI.out.2.2.1 HI.out.2.2.2 (Fr.of_below k) (S := fun _ => False) (fun h => h), HI.out.2.2.2.fr (Fr.of_below k) (S := fun _ => False) (fun h => h), by rw [← hW4, ← hq]; exact Lc.new wr zeC 63, by rw [← hq]; exact HI.out.2.1.size, ?_, fun x hx e => by have := (hr.lt x hx).2; omega⟩
            obtain ⟨cur, fr, ht⟩ := HI.out.2.2.2
            rw [← hq]; exact (Array.getElem?_eq_some_iff.1 ht).1
          rw [hlen] at *
          clear hlen htk hi hel hjg HI n1 n2
          go_upto_region 12 with (first | (refine wpList_store_box HQ.out.2.2.2.2.1 0 (enR i) rfl 63 (.tmp 6) (.tmp 34) rfl rfl rfl (Nat.le_refl 4) sizeCom (enR_one i) rfl ?_; intro w5 q1 q2 q3; have HT : Hid (Row w.heap.size (.slice na j nc) ((gud.take j).map nmR) w5 ∧ Kp w w5 ∧ Sort.HoldsK enR 4 w5 g 0 gud.toArray ∧ TyG g w5 ∧ Lc 63 q (enR i) w5) := ⟨row_fr HQ.out.1 q2 (fun x hx hn => HQ.out.2.2.2.2.2.2.2 x hx hn), kp_on HQ.out.2.1 q2 HQ.out.2.2.2.2.2.1, holds_fr HQ.out.2.2.1 HQ.out.2.2.2.1 q2 (by unfold On; have := HQ.out.2.2.2.2.2.2.1; omega), HQ.out.2.2.2.1.fr q2 (by unfold On; have := HQ.out.2.2.2.2.2.2.1; omega), q1⟩; clear q1 q2 q3) | (refine wpList_load_mid rfl 63 (.tmp 33) rfl g (j * 4) rfl (enR i) _ HRg.out Tryz.underlying63 rfl sizeCom ?_))
          clear HQ HRg hq hW4
          have c0 : w5.cell? ⟨q, 0, none⟩ = some (.string (nmR i)) := HT.out.2.2.2.2.at (j := 0) rfl
          have kA := kp_alloc w5 (.cells #[.string (nmR i)] 9)
          have HR : Hid (Row w.heap.size (.slice na j nc) ((gud.take j).map nmR) (w5.alloc (.cells #[.string (nmR i)] 9))) := row_kp HT.out.1 kA
          have HS : Hid (Sl (fun _ => True) (.slice (some ⟨w5.heap.size, 0, none⟩) 1 1) [nmR i] (w5.alloc (.cells #[.string (nmR i)] 9))) := ⟨_, 1, rfl, Nat.le_refl _, by simp [maxLen], fun e => (by cases e), fun t u ht => ⟨w5.heap.size, 0, rfl, trivial, by
            rw [cell_at (alloc_new w5 _), Nat.zero_add]
            cases t with
            | zero => cases ht; rfl
            | succ t => simp at ht⟩⟩
          have HB : Hid (((gud.take j).map nmR).length + [nmR i].length = j + 1 ∧ w.heap.size ≤ (w5.alloc (.cells #[.string (nmR i)] 9)).heap.size) := ⟨by rw [List.length_map, List.length_take, gud_len]; simp; omega, (kp_trans HT.out.2.1 kA).size⟩
          have HA2 : Hid (∀ w', (w5.alloc (.cells #[.string (nmR i)] 9)).grownBy w' (Value.slice na j nc).ownBlock → Kp w w' ∧ Sort.HoldsK enR 4 w' g 0 gud.toArray ∧ TyG g w') := fun w' hg => by
            have ht := HT.out.2.2.2.1.fr (Fr.of_below kA) (S := fun _ => False) (fun h => h)
            have hh := holds_fr HT.out.2.2.1 HT.out.2.2.2.1 (Fr.of_below kA) (S := fun _ => False) (fun h => h)
            have hn : ¬ some g = (Value.slice na j nc).ownBlock := fun e => row_tyg HR.out ht g e.symm rfl
            exact ⟨(kp_trans HT.out.2.1 kA).trans (below_grown HR.out HB.out.2 hg), holds_fr hh ht (frG hg) hn, ht.fr (frG hg) hn⟩
          have hj1 : j + 1 ≤ 8796093022208 := by omega
          clear HT kA
          go_wp2_with (at_builtin; refine wpl_str (K := j + 1) rfl (.tmp 35) (.tmp 38) rfl rfl HR.out rfl HS.out HB.out.1 hj1 HB.out.2 ?_; intro a' c' w' hk1 hk2 q1 q2; obtain ⟨x1, x2, x3⟩ := HA2.out w' q2; have HF : Hid (Row w.heap.size (.slice a' (j + 1) c') ((gud.take (j + 1)).map nmR) w' ∧ Kp w w' ∧ Sort.HoldsK enR 4 w' g 0 gud.toArray ∧ TyG g w') := ⟨by rw [HTk.out]; exact q1, x1, x2, x3⟩; clear q1 q2 x1 x2 x3 hk1 hk2)
          exact ⟨⟨j + 1, by omega, by go_num, HF.out⟩, by show 16 - (((j : Int) + 1).toNat) < 16 - ((j : Int).toNat); omega⟩
        · obtain rfl : j = 16 := by omega
          have g1 : decide (((16 : Nat) : Int) < 16) = false := by decide
          have HF : Hid (Row w.heap.size (.slice na ((gud.take 16).map nmR).length nc) (gud.map nmR) wr ∧ Kp w wr) := by
            refine ⟨?_, HI.out.2.1⟩
            have := HI.out.1
            rw [List.take_of_length_le (Nat.le_of_eq gud_len)] at this ⊢
            exact this
          clear HI hlt hj n1 n2
          go_wp2_with fail
          go_ret
          exact ⟨_, rfl, HF.out⟩
    · intro y u w3 c2 y0 hly hy hr2 hlt2 hf2 hs2 hen
      rw [mapF_at] at hy
      obtain ⟨en, he1, he2⟩ := Option.map_eq_some_iff.1 hy
      obtain ⟨i, rfl⟩ := tabF_ent he1
      subst he2
      have hen2 : (Instr.entry (.pointer (some ⟨r, 0, none⟩))).run Tryz.prog w3 = .ok (.tuple #[.string y, .agg #[.string (bA (entR i).name), .int .i64 (i.val : Int), .bool (entR i).bold, .func (.func (flN (entR i).fl)) #[] #[]]]) w3 := hen
      have HME : Hid (c2 < c) := hlt2
      obtain ⟨q, hq⟩ : ∃ q, w3.heap.size = q := ⟨_, rfl⟩
      obtain ⟨W4, hW4⟩ : ∃ z, w3.alloc (.cells #[.string ⟨#[]⟩, .int .i64 0, .bool false, .nilFunc] 63) = z := ⟨_, rfl⟩
      have HS : Hid (Gth bm r (fun z => left z && !decide (z = y)) left c2 acc (.slice va acc.length vc) w W4 ∧ Lc 63 q zeC W4 ∧ w.heap.size ≤ q ∧ (∀ j, (Value.slice va acc.length vc).ownBlock = some j → j ≠ q)) := by
        have h3 := HG.out.step hr2 hf2
        rw [← hW4, ← hq]
        exact ⟨h3.keep (kp_alloc _ _), Lc.new w3 zeC 63, h3.kp.size, fun j hj e => by have := (h3.row.lt j hj).2; omega⟩
      have HY : Hid (tabF y.data.toList = some (entR i) ∧ left y = true ∧ y.size ≤ maxLen) := ⟨he1, hly, y0⟩
      clear HG hrg hy he1 hf2 hs2 hly hlt2 hen hr2 y0
      go_upto_region 5 with (refine wpList_store_box HS.out.2.1 0 [.string (bA (entR i).name), .int .i64 (i.val : Int), .bool (entR i).bold, .func (.func (flN (entR i).fl)) #[] #[]] rfl 63 (.tmp 3) (.tmp 13) rfl rfl rfl (Nat.le_refl 4) sizeCom (one4 ⟨rfl, rfl, rfl, rfl⟩) rfl ?_; intro w5 q1 q2 q3; have HT : Hid (Gth bm r (fun z => left z && !decide (z = y)) left c2 acc (.slice va acc.length vc) w w5 ∧ Lc 63 q (enR i) w5) := ⟨HS.out.1.off HS.out.2.1 HS.out.2.2.1 HS.out.2.2.2 q2, q1⟩; clear q1 q2 q3)
      clear HS hq hW4 hen2
      obtain ⟨NM, hNM⟩ : ∃ NM, bA (entR i).name = NM := ⟨_, rfl⟩
      have c0 : w5.cell? ⟨q, 0, none⟩ = some (.string NM) := by rw [← hNM]; exact HT.out.2.at (j := 0) rfl
      have HNM : Hid (bA (entR i).name = NM) := hNM
      by_cases he : y = NM
      · have hpos : 0 < NM.size := by
          rw [← hNM]
          have := ent_ne i
          show 0 < (entR i).name.toArray.size
          rw [List.size_toArray]
          exact List.length_pos_iff.2 this
        have hb0 : ((NM[0]'hpos).toNat : Int) = (((entR i).name.headD 0).toNat : Int) := by
          have h1 := byteAt_eq NM 0 hpos
          have h2 : byteAt NM 0 = ((entR i).name.headD 0).toNat := by
            rw [← hNM]
            cases hn : (entR i).name with
            | nil => exact absurd hn (ent_ne i)
            | cons a r => rfl
          rw [← h1, h2]
        have HK : Hid (∀ z, Calls Tryz.prog 27 #[.int .u8 108, .int .u8 ((NM[0]'hpos).toNat : Int)] z fun e w' => e = .returned (.bool (decide (i.val < 16))) ∧ Kp z w') := fun z => by
          have := kIs_any (k := 108) (c := ((NM[0]'hpos).toNat : Int)) (w := z)
          rw [hb0, ent_let i] at this
          rw [hb0]
          exact this
        have hp1 : (0 < NM.size) = True := by simpa using hpos
        subst he
        clear hb0 hNM
        go_wp2_with fail
        refine Calls.mono (HK.out _) ?_
        rintro e w6 ⟨rfl, k6⟩
        have HU : Hid (Gth bm r (fun z => left z && !decide (z = y)) left c2 acc (.slice va acc.length vc) w w6 ∧ Lc 63 q (enR i) w6) := ⟨HT.out.1.keep k6, HT.out.2.kp k6⟩
        clear HT HK k6 c0
        by_cases hlt : i.val < 16
        · have hd : decide (i.val < 16) = true := decide_eq_true hlt
          rw [hd]
          clear hd
          have HR : Hid ((w6.alloc (.cells (enR i).toArray 63)).ownsRow w.heap.size 63 4 (.slice va acc.length vc) acc.length (rowR acc)) := row_kp HU.out.1.row (kp_alloc _ _)
          have HB : Hid (w.heap.size ≤ (w6.alloc (.cells (enR i).toArray 63)).heap.size) := Nat.le_trans HU.out.1.kp.size (by rw [alloc_size]; omega)
          have HV : Hid _ := HU.out.1.keep (kp_alloc w6 (.cells (enR i).toArray 63))
          have HN6 : Hid (∀ (t : Nat) (u : Value), (enR i)[t]? = some u → (w6.alloc (.cells (enR i).toArray 63)).cell? ((⟨w6.heap.size, 0, none⟩ : Addr).add t) = some u) := by
            intro t u ht
            rw [addr_add, cell_at (alloc_new w6 _)]
            simpa using ht
          have hal : acc.length ≤ 23 := by
            have h1 := HU.out.1.nd.length_le_of_subset (l₂ := List.finRange 23) (fun x _ => List.mem_finRange x)
            simpa using h1
          go_wp2_with (first | (at_builtin; refine wpList_append_own _ rfl (.tmp 23) (.tmp 25) 58 rfl w.heap.size 63 i9 _ 4 40 Tryz.underlying58 hi9 z0 z1 z2 rfl (by decide) (.slice va acc.length vc) acc.length (rowR acc) rfl HR.out ⟨w6.heap.size, 0, none⟩ 1 1 (enR i) rfl rfl HN6.out (enR_one i) (by unfold maxLen; omega) (by omega) HB.out ?_; intro v9 w9 q1 q2 q3; clear q3; have HF : Hid _ := HV.out.more hlt HNM.out.symm HY.out.2.1 q1 q2; obtain ⟨a9, c9, rfl, q4, q5⟩ := owns_form q1; clear q1 q2 q4 q5) | (refine Great.wpList_buildSliceTo rfl 58 63 1 #[(0, .tmp 24)] rfl w6.heap.size rfl (some 25) rfl Tryz.underlying58 (enR i).toArray (by kernel_rfl) ?_) | (refine wpList_load_box HU.out.2 0 (enR i) rfl 63 (.tmp 3) rfl rfl rfl _ Tryz.underlying63 rfl sizeCom ?_))
          exact ⟨⟨_, c2, _, HF.out⟩, by rw [HF.out.rg.left_eq, hme]; exact HME.out⟩
        · have hd : decide (i.val < 16) = false := decide_eq_false hlt
          rw [hd]
          have HF : Hid _ := HU.out.1.no HY.out.1 (fun q => hlt q.2)
          clear hd HU hlt
          go_wp2_with fail
          exact ⟨⟨_, c2, _, HF.out⟩, by rw [HF.out.rg.left_eq, hme]; exact HME.out⟩
      · have hl : y.toList ≠ NM.toList := fun q => he (by
          rw [Lib.toList_data, Lib.toList_data] at q
          exact ByteArray.ext (Array.toList_inj.1 q))
        have g1 : (y.toList == NM.toList) = false := beq_eq_false_iff_ne.2 hl
        have g2 : decide (y.toList = NM.toList) = false := decide_eq_false hl
        have g3 : decide (y = NM) = false := decide_eq_false he
        clear hl
        have HF : Hid _ := HT.out.1.no HY.out.1 (fun q => he (q.1.trans HNM.out))
        clear HT hNM
        go_wp2_with fail
        exact ⟨⟨_, c2, _, HF.out⟩, by rw [HF.out.rg.left_eq, hme]; exact HME.out⟩
end
end Go.Proofs.YtfgapmfjfienhaaGreatDoor
/- The laws' known(). -/
namespace Go.Proofs.YtfgapmfjfienhaaGreatDoor
open Go.ChangeShapes Go.WideShapes Go.ChangeAt Go.RowKit Go.Maps Go.MapKept
set_option linter.unusedVariables false
set_option linter.unusedSimpArgs false
set_option maxRecDepth 100000
def zmC : List Value := cmC { cnt := 0 } (.slice none 0 0) (.slice none 0 0)
section
variable {w w1 : World}
/-- Parse at a text of which it is known what it says. -/
theorem parse_at (s : ByteArray) (hs : s.size ≤ 1000000) {n : Nat} {c : CmP} (h : cmdL s.data.toList = (n, c)) (hw : Gs w) :
    Calls Tryz.prog 12 #[.string s] w fun e w' => ∃ ra rc da dc, e = .returned (.tuple #[.agg (cmC c (.slice ra c.rg.length rc) (.slice da c.dest.length dc)).toArray, .int .u16 (n : Int)]) ∧
      Hid (w'.ownsRow w.heap.size 43 6 (.slice ra c.rg.length rc) c.rg.length (adCs c.rg) ∧ w'.ownsRow w.heap.size 43 6 (.slice da c.dest.length dc) c.dest.length (adCs c.dest) ∧ Kp w w') := by
  refine (cparse_any s hs w hw).mono ?_
  intro e w' q
  unfold CpR at q
  rw [h] at q
  obtain ⟨rv, dv, rfl, h1, h2, h3⟩ := q
  obtain ⟨ra, rc, rfl, _, _⟩ := owns_form h1
  obtain ⟨da, dc, rfl, _, _⟩ := owns_form h2
  exact ⟨ra, rc, da, dc, rfl, h1, h2, h3⟩
theorem kn1 : cmdL [37, 115, 47, 97, 92, 47, 98, 47, 99, 47, 103, 32, 51] = (0, { rg := [{ kd := 1, n := 1 }, { kd := 3 }], name := [115], cnt := 3, pat := [97, 47, 98], rep := [99], flags := [103], arg := [61] }) := by decide +kernel
theorem kn2 : cmdL [100, 120] = (0, { name := [100], reg := 120 }) := by decide +kernel
theorem kn3 : cmdL [122, 122] = (150, { cnt := 0 }) := by decide +kernel
/-- A command that is kept in a box of its own. -/
theorem box_new (w : World) : Lc 27 w.heap.size zmC (w.alloc (.cells #[.slice none 0 0, .string ⟨#[]⟩, .bool false, .int .u8 0, .int .i64 0, .slice none 0 0, .string ⟨#[]⟩, .string ⟨#[]⟩, .string ⟨#[]⟩, .string ⟨#[]⟩] 27)) := Lc.new w zmC 27
set_option maxHeartbeats 32000000 in
theorem known_any (hw : Gs w) : Calls Tryz.prog 11 #[] w fun e w' => e = .returned (.bool true) ∧ Kp w w' := by
  have H1 : Hid (Calls Tryz.prog 12 #[.string ⟨#[37, 115, 47, 97, 92, 47, 98, 47, 99, 47, 103, 32, 51]⟩] w _) := parse_at ⟨#[37, 115, 47, 97, 92, 47, 98, 47, 99, 47, 103, 32, 51]⟩ (by decide) kn1 hw
  have H2 : Hid (∀ z, Gs z → Calls Tryz.prog 12 #[.string ⟨#[100, 120]⟩] z _) := fun z hz => parse_at ⟨#[100, 120]⟩ (by decide) kn2 hz
  have H3 : Hid (∀ z, Gs z → Calls Tryz.prog 12 #[.string ⟨#[122, 122]⟩] z _) := fun z hz => parse_at ⟨#[122, 122]⟩ (by decide) kn3 hz
  have H4 : Hid (∀ z, Gs z → Calls Tryz.prog 16 #[] z fun e w' => ∃ v, e = .returned v ∧ Row z.heap.size v (gud.map nmR) w' ∧ Kp z w') := fun z hz => names_any hz
  have Hg : Hid (∀ z, Kp w z → Gs z) := fun z k => hw.kp k
  clear hw
  go_enter Tryz.func11, Tryz.ntmps11
  go_wp2_with fail
  refine Calls.mono H1.out ?_
  rintro e w1 ⟨ra, rc, da, dc, rfl, HA⟩
  clear H1
  obtain ⟨q1, hq1⟩ : ∃ q, w1.heap.size = q := ⟨_, rfl⟩
  obtain ⟨V1, hV1⟩ : ∃ z, w1.alloc (.cells #[.slice none 0 0, .string ⟨#[]⟩, .bool false, .int .u8 0, .int .i64 0, .slice none 0 0, .string ⟨#[]⟩, .string ⟨#[]⟩, .string ⟨#[]⟩, .string ⟨#[]⟩] 27) = z := ⟨_, rfl⟩
  have HB : Hid (Lc 27 q1 zmC V1 ∧ Kp w V1 ∧ w.heap.size ≤ q1) := by
    rw [← hV1, ← hq1]; exact ⟨box_new w1, kp_trans HA.out.2.2 (kp_alloc _ _), HA.out.2.2.size⟩
  go_wp2_with (refine wpList_store_box HB.out.1 0 (cmC { rg := [{ kd := 1, n := 1 }, { kd := 3 }], name := [115], cnt := 3, pat := [97, 47, 98], rep := [99], flags := [103], arg := [61] } (.slice ra 2 rc) (.slice da 0 dc)) rfl 27 (.tmp 1) (.tmp 9) rfl rfl rfl (Nat.le_refl 10) sizeCmd (cmC_one _ _ _ _ _ _ _) rfl ?_; intro w2 x1 x2 x3; have HC : Hid (Lc 27 q1 (cmC { rg := [{ kd := 1, n := 1 }, { kd := 3 }], name := [115], cnt := 3, pat := [97, 47, 98], rep := [99], flags := [103], arg := [61] } (.slice ra 2 rc) (.slice da 0 dc)) w2 ∧ Kp w w2) := ⟨x1, kp_on HB.out.2.1 x2 HB.out.2.2⟩; clear x1 x2 x3)
  clear HA HB hq1 hV1
  refine Calls.mono (H2.out _ (Hg.out _ HC.out.2)) ?_
  rintro e w3 ⟨rb, rd, db, dd, rfl, HA⟩
  clear H2
  obtain ⟨q2, hq2⟩ : ∃ q, w3.heap.size = q := ⟨_, rfl⟩
  obtain ⟨V2, hV2⟩ : ∃ z, w3.alloc (.cells #[.slice none 0 0, .string ⟨#[]⟩, .bool false, .int .u8 0, .int .i64 0, .slice none 0 0, .string ⟨#[]⟩, .string ⟨#[]⟩, .string ⟨#[]⟩, .string ⟨#[]⟩] 27) = z := ⟨_, rfl⟩
  have HB : Hid (Lc 27 q2 zmC V2 ∧ Kp w V2 ∧ w.heap.size ≤ q2 ∧ Lc 27 q1 (cmC { rg := [{ kd := 1, n := 1 }, { kd := 3 }], name := [115], cnt := 3, pat := [97, 47, 98], rep := [99], flags := [103], arg := [61] } (.slice ra 2 rc) (.slice da 0 dc)) V2 ∧ q1 < q2) := by
    rw [← hV2, ← hq2]; exact ⟨box_new w3, kp_trans (kp_trans HC.out.2 HA.out.2.2) (kp_alloc _ _), Nat.le_trans HC.out.2.size HA.out.2.2.size, (HC.out.1.kp HA.out.2.2).kp (kp_alloc _ _), (HC.out.1.kp HA.out.2.2).lt⟩
  go_wp2_with (refine wpList_store_box HB.out.1 0 (cmC { name := [100], reg := 120 } (.slice rb 0 rd) (.slice db 0 dd)) rfl 27 (.tmp 3) (.tmp 13) rfl rfl rfl (Nat.le_refl 10) sizeCmd (cmC_one _ _ _ _ _ _ _) rfl ?_; intro w4 x1 x2 x3; have HD : Hid (Lc 27 q2 (cmC { name := [100], reg := 120 } (.slice rb 0 rd) (.slice db 0 dd)) w4 ∧ Kp w w4 ∧ Lc 27 q1 (cmC { rg := [{ kd := 1, n := 1 }, { kd := 3 }], name := [115], cnt := 3, pat := [97, 47, 98], rep := [99], flags := [103], arg := [61] } (.slice ra 2 rc) (.slice da 0 dc)) w4) := ⟨x1, kp_on HB.out.2.1 x2 HB.out.2.2.1, HB.out.2.2.2.1.fr x2 (by unfold On; have := HB.out.2.2.2.2; omega)⟩; clear x1 x2 x3)
  clear HA HB hq2 hV2 HC
  refine Calls.mono (H3.out _ (Hg.out _ HD.out.2.1)) ?_
  rintro e w5 ⟨rx, ry, dx, dy, rfl, HA⟩
  clear H3
  obtain ⟨q3, hq3⟩ : ∃ q, w5.heap.size = q := ⟨_, rfl⟩
  obtain ⟨V3, hV3⟩ : ∃ z, w5.alloc (.cells #[.slice none 0 0, .string ⟨#[]⟩, .bool false, .int .u8 0, .int .i64 0, .slice none 0 0, .string ⟨#[]⟩, .string ⟨#[]⟩, .string ⟨#[]⟩, .string ⟨#[]⟩] 27) = z := ⟨_, rfl⟩
  have HB : Hid (Lc 27 q3 zmC V3 ∧ Kp w V3 ∧ w.heap.size ≤ q3 ∧ Lc 27 q1 (cmC { rg := [{ kd := 1, n := 1 }, { kd := 3 }], name := [115], cnt := 3, pat := [97, 47, 98], rep := [99], flags := [103], arg := [61] } (.slice ra 2 rc) (.slice da 0 dc)) V3 ∧ Lc 27 q2 (cmC { name := [100], reg := 120 } (.slice rb 0 rd) (.slice db 0 dd)) V3 ∧ q1 < q3 ∧ q2 < q3) := by
    rw [← hV3, ← hq3]; exact ⟨box_new w5, kp_trans (kp_trans HD.out.2.1 HA.out.2.2) (kp_alloc _ _), Nat.le_trans HD.out.2.1.size HA.out.2.2.size, (HD.out.2.2.kp HA.out.2.2).kp (kp_alloc _ _), (HD.out.1.kp HA.out.2.2).kp (kp_alloc _ _), (HD.out.2.2.kp HA.out.2.2).lt, (HD.out.1.kp HA.out.2.2).lt⟩
  go_upto_region 4 with (refine wpList_store_box HB.out.1 0 (cmC { cnt := 0 } (.slice rx 0 ry) (.slice dx 0 dy)) rfl 27 (.tmp 5) (.tmp 17) rfl rfl rfl (Nat.le_refl 10) sizeCmd (cmC_one _ _ _ _ _ _ _) rfl ?_; intro w6 x1 x2 x3; have HE : Hid (Kp w w6 ∧ Lc 27 q1 (cmC { rg := [{ kd := 1, n := 1 }, { kd := 3 }], name := [115], cnt := 3, pat := [97, 47, 98], rep := [99], flags := [103], arg := [61] } (.slice ra 2 rc) (.slice da 0 dc)) w6 ∧ Lc 27 q2 (cmC { name := [100], reg := 120 } (.slice rb 0 rd) (.slice db 0 dd)) w6) := ⟨kp_on HB.out.2.1 x2 HB.out.2.2.1, HB.out.2.2.2.1.fr x2 (by unfold On; have := HB.out.2.2.2.2.2.1; omega), HB.out.2.2.2.2.1.fr x2 (by unfold On; have := HB.out.2.2.2.2.2.2; omega)⟩; clear x1 x2 x3)
  clear HA HB hq3 hV3 HD
  have c6 : w6.cell? ⟨q1, 6, none⟩ = some (.string ⟨#[97, 47, 98]⟩) := HE.out.2.1.at (j := 6) rfl
  have c7 : w6.cell? ⟨q1, 7, none⟩ = some (.string ⟨#[99]⟩) := HE.out.2.1.at (j := 7) rfl
  have c8 : w6.cell? ⟨q1, 8, none⟩ = some (.string ⟨#[103]⟩) := HE.out.2.1.at (j := 8) rfl
  have c4 : w6.cell? ⟨q1, 4, none⟩ = some (.int .i64 3) := HE.out.2.1.at (j := 4) rfl
  have d3 : w6.cell? ⟨q2, 3, none⟩ = some (.int .u8 120) := HE.out.2.2.at (j := 3) rfl
  have HK : Hid (Kp w w6) := HE.out.1
  clear HE
  go_wp2_with fail
  refine Calls.mono (H4.out _ (Hg.out _ HK.out)) ?_
  rintro e w7 ⟨v, rfl, hv, k7⟩
  obtain ⟨va, vc, rfl, _, _⟩ := hv.form
  have hlen : (gud.map nmR).length = 16 := by rw [List.length_map, gud_len]
  rw [hlen]
  have HX : Hid (Kp w w7) := kp_trans HK.out k7
  clear hv k7 hlen H4 HK Hg
  go_wp2_with fail
  go_ret
  exact ⟨rfl, HX.out⟩
end
end Go.Proofs.YtfgapmfjfienhaaGreatDoor
/- The document's names. -/
namespace Go.Proofs.YtfgapmfjfienhaaGreatDoor
open Go.ChangeShapes Go.WideShapes Go.ChangeAt Go.RowKit Go.Maps Go.MapKept
set_option linter.unusedVariables false
set_option linter.unusedSimpArgs false
set_option maxRecDepth 100000
/-- The names, as the chapter has them. -/
def nmsA : Array Value := #[.string ⟨#[100]⟩, .string ⟨#[109]⟩, .string ⟨#[116]⟩, .string ⟨#[106]⟩, .string ⟨#[121]⟩, .string ⟨#[112, 117]⟩, .string ⟨#[107]⟩, .string ⟨#[115]⟩, .string ⟨#[103]⟩, .string ⟨#[118]⟩, .string ⟨#[110, 111, 114, 109]⟩, .string ⟨#[117]⟩, .string ⟨#[114, 101, 100]⟩, .string ⟨#[101, 97, 114, 108, 105, 101, 114]⟩, .string ⟨#[108, 97, 116, 101, 114]⟩, .string ⟨#[112]⟩]
def nmsL : List (List UInt8) := [[100], [109], [116], [106], [121], [112, 117], [107], [115], [103], [118], [110, 111, 114, 109], [117], [114, 101, 100], [101, 97, 114, 108, 105, 101, 114], [108, 97, 116, 101, 114], [112]]
theorem gud_nms : gud.map (fun i => (entR i).name) = nmsL := by decide +kernel
theorem gud_strs : strs (gud.map nmR) = nmsA.toList := by
  have : gud.map nmR = nmsL.map bA := by rw [← gud_nms, List.map_map]; rfl
  rw [this]; rfl
section
variable {w : World}
set_option maxHeartbeats 8000000 in
theorem rnames_any (w : World) : Calls Tryz.prog 17 #[] w fun e w' => e = .returned (.slice (some ⟨w.heap.size, 0, none⟩) 16 16) ∧ w' = w.alloc (.cells nmsA 9) := by
  go_enter Tryz.func17, Tryz.ntmps17
  go_wp2_with fail
  go_ret
  exact ⟨rfl, rfl⟩
/-- Both lists of names in memory. -/
structure Nms (g h vc : Nat) (w : World) : Prop where
  gi : ∀ (i : Nat) v, nmsA[i]? = some v → w.cell? ⟨g, i, none⟩ = some v
  hi : ∀ (i : Nat) v, nmsA[i]? = some v → w.cell? ⟨h, i, none⟩ = some v
  vc : vc ≤ maxLen
theorem Nms.kp {g h vc : Nat} {w w1 : World} (q : Nms g h vc w) (k : Kp w w1) : Nms g h vc w1 := ⟨fun i v e => kp_cell k (q.gi i v e), fun i v e => kp_cell k (q.hi i v e), q.vc⟩
theorem names_both {v : Value} {B : Nat} (h : Row B v (gud.map nmR) w) : ∃ g vc, v = .slice (some ⟨g, 0, none⟩) 16 vc ∧ Nms g w.heap.size vc (w.alloc (.cells nmsA 9)) := by
  have hlen : (gud.map nmR).length = 16 := by rw [List.length_map, gud_len]
  unfold Row at h
  rw [hlen, gud_strs] at h
  obtain ⟨va, vc, rfl, p1, p2⟩ := owns_form h
  obtain ⟨g, rfl⟩ : ∃ g, va = some ⟨g, 0, none⟩ := by
    rcases h.2 with ⟨_, e0⟩ | ⟨g, _, _, e, _⟩
    · omega
    · cases e; exact ⟨g, rfl⟩
  refine ⟨g, vc, rfl, fun i u e => ?_, fun i u e => ?_, p2⟩
  · have hi : i < 16 := (Array.getElem?_eq_some_iff.1 e).1
    have := World.ownsRow.cellAt (size := 1) (n := 16) h i (by omega)
    refine kp_cell (kp_alloc _ _) (this.trans ?_)
    rw [← e]; simp
  · have := (Lc.new w nmsA.toList 9).at (j := i) (v := u) (by rw [← e]; simp)
    simpa using this
end
end Go.Proofs.YtfgapmfjfienhaaGreatDoor
/- CmdNames: the walk, cases 0 to 3. -/
namespace Go.Proofs.YtfgapmfjfienhaaGreatDoor
open Go.ChangeShapes Go.WideShapes Go.ChangeAt Go.RowKit Go.Maps Go.MapKept
set_option linter.unusedVariables false
set_option linter.unusedSimpArgs false
set_option maxRecDepth 100000
section
variable {w : World}
theorem kn_0 : cmdL [100] = (0, { name := [100] }) := by decide +kernel
set_option maxHeartbeats 16000000 in
theorem nm_0 {k : Nat} (hk : k < 256) (hm : k % 16 = 0) (hw : Gs w) : Calls Tryz.prog 7 #[.int .u8 (k : Int)] w fun e w' => e = .returned (.bool true) ∧ Kp w w' := by
  have H0 : Hid (Calls Tryz.prog 16 #[] w fun e w' => ∃ v, e = .returned v ∧ Row w.heap.size v (gud.map nmR) w' ∧ Kp w w') := names_any hw
  have H1 : Hid (∀ z, Gs z → Calls Tryz.prog 11 #[] z fun e w' => e = .returned (.bool true) ∧ Kp z w') := fun z hz => known_any hz
  have H2 : Hid (∀ z, Gs z → Calls Tryz.prog 12 #[.string ⟨#[100]⟩] z _) := fun z hz => parse_at ⟨#[100]⟩ (by decide) kn_0 hz
  have HR : Hid (∀ z, Calls Tryz.prog 17 #[] z _) := fun z => rnames_any z
  have hx : (⟨#[100]⟩ : ByteArray) ++ ⟨#[]⟩ = ⟨#[100]⟩ := by decide +kernel
  have HE : Hid ((⟨#[100]⟩ : ByteArray) ++ ⟨#[]⟩ = ⟨#[100]⟩) := hx
  have Hg : Hid (∀ z, Kp w z → Gs z) := fun z k => hw.kp k
  have hm1 : ((k : Int)).tmod 16 = 0 := by rw [Int.tmod_eq_emod_of_nonneg (by omega)]; omega
  have hm2 : ((k : Int)) % 16 = 0 := by omega
  clear hw hx
  go_enter Tryz.func7, Tryz.ntmps7
  go_wp2_with fail
  refine Calls.mono H0.out ?_
  rintro e w1 ⟨v, rfl, hv, k1⟩
  obtain ⟨g, vc, rfl, hb⟩ := names_both hv
  have HK1 : Hid (Kp w w1 ∧ Nms g w1.heap.size vc (w1.alloc (.cells nmsA 9))) := ⟨k1, hb⟩
  clear H0 k1 hv hb
  go_wp2_with fail
  refine Calls.mono (HR.out _) ?_
  rintro e w2 ⟨rfl, rfl⟩
  obtain ⟨h, hh⟩ : ∃ h, w1.heap.size = h := ⟨_, rfl⟩
  obtain ⟨W2, hW2⟩ : ∃ z, w1.alloc (.cells nmsA 9) = z := ⟨_, rfl⟩
  have HK2 : Hid (Kp w W2 ∧ Nms g h vc W2) := by rw [← hW2, ← hh]; exact ⟨kp_trans HK1.out.1 (kp_alloc _ _), HK1.out.2⟩
  rw [hh, hW2]
  clear HK1 HR hh hW2
  go_wp2_with fail
  refine Calls.mono (H1.out _ (Hg.out _ HK2.out.1)) ?_
  rintro e w3 ⟨rfl, k3⟩
  have HK3 : Hid (Kp w w3 ∧ Nms g h vc w3) := ⟨kp_trans HK2.out.1 k3, HK2.out.2.kp k3⟩
  have cg : w3.cell? ⟨g, 0, none⟩ = some (.string ⟨#[100]⟩) := HK3.out.2.gi 0 _ rfl
  have ch : w3.cell? ⟨h, 0, none⟩ = some (.string ⟨#[100]⟩) := HK3.out.2.hi 0 _ rfl
  clear k3 HK2 H1
  go_wp2_with fail
  first | rw [HE.out] | skip
  refine Calls.mono (H2.out _ (Hg.out _ HK3.out.1)) ?_
  rintro e w4 ⟨ra, rc, da, dc, rfl, HA⟩
  clear H2 cg ch HE
  obtain ⟨q1, hq1⟩ : ∃ q, w4.heap.size = q := ⟨_, rfl⟩
  obtain ⟨V1, hV1⟩ : ∃ z, w4.alloc (.cells #[.slice none 0 0, .string ⟨#[]⟩, .bool false, .int .u8 0, .int .i64 0, .slice none 0 0, .string ⟨#[]⟩, .string ⟨#[]⟩, .string ⟨#[]⟩, .string ⟨#[]⟩] 27) = z := ⟨_, rfl⟩
  have HB : Hid (Lc 27 q1 zmC V1 ∧ Kp w V1 ∧ w.heap.size ≤ q1 ∧ Nms g h vc V1 ∧ w3.heap.size ≤ q1 ∧ Kp w3 V1) := by
    rw [← hV1, ← hq1]; exact ⟨box_new w4, kp_trans (kp_trans HK3.out.1 HA.out.2.2) (kp_alloc _ _), Nat.le_trans HK3.out.1.size HA.out.2.2.size, (HK3.out.2.kp HA.out.2.2).kp (kp_alloc _ _), HA.out.2.2.size, kp_trans HA.out.2.2 (kp_alloc _ _)⟩
  go_upto_region 20 with (refine wpList_store_box HB.out.1 0 (cmC { name := [100] } (.slice ra 0 rc) (.slice da 0 dc)) rfl 27 (.tmp 8) (.tmp 49) rfl rfl rfl (Nat.le_refl 10) sizeCmd (cmC_one _ _ _ _ _ _ _) rfl ?_; intro w5 x1 x2 x3; have HC : Hid (Lc 27 q1 (cmC { name := [100] } (.slice ra 0 rc) (.slice da 0 dc)) w5 ∧ Kp w w5 ∧ Nms g h vc w5) := ⟨x1, kp_on HB.out.2.1 x2 HB.out.2.2.1, HK3.out.2.kp (kp_on HB.out.2.2.2.2.2 x2 HB.out.2.2.2.2.1)⟩; clear x1 x2 x3)
  clear HA HB hq1 hV1 HK3 Hg
  have cg : w5.cell? ⟨g, 0, none⟩ = some (.string ⟨#[100]⟩) := HC.out.2.2.gi 0 _ rfl
  have ch : w5.cell? ⟨h, 0, none⟩ = some (.string ⟨#[100]⟩) := HC.out.2.2.hi 0 _ rfl
  have c0 : w5.cell? ⟨q1, 0, none⟩ = some (.slice ra 0 rc) := HC.out.1.at (j := 0) rfl
  have c1 : w5.cell? ⟨q1, 1, none⟩ = some (.string ⟨#[100]⟩) := HC.out.1.at (j := 1) rfl
  have c2 : w5.cell? ⟨q1, 2, none⟩ = some (.bool false) := HC.out.1.at (j := 2) rfl
  have HX : Hid (Kp w w5) := HC.out.2.1
  clear HC
  go_wp2_with fail
  go_ret
  exact ⟨rfl, HX.out⟩
theorem kn_1 : cmdL [109, 48] = (0, { name := [109], dest := [{ kd := 1, n := 0 }] }) := by decide +kernel
set_option maxHeartbeats 16000000 in
theorem nm_1 {k : Nat} (hk : k < 256) (hm : k % 16 = 1) (hw : Gs w) : Calls Tryz.prog 7 #[.int .u8 (k : Int)] w fun e w' => e = .returned (.bool true) ∧ Kp w w' := by
  have H0 : Hid (Calls Tryz.prog 16 #[] w fun e w' => ∃ v, e = .returned v ∧ Row w.heap.size v (gud.map nmR) w' ∧ Kp w w') := names_any hw
  have H1 : Hid (∀ z, Gs z → Calls Tryz.prog 11 #[] z fun e w' => e = .returned (.bool true) ∧ Kp z w') := fun z hz => known_any hz
  have H2 : Hid (∀ z, Gs z → Calls Tryz.prog 12 #[.string ⟨#[109, 48]⟩] z _) := fun z hz => parse_at ⟨#[109, 48]⟩ (by decide) kn_1 hz
  have HR : Hid (∀ z, Calls Tryz.prog 17 #[] z _) := fun z => rnames_any z
  have hx : (⟨#[109]⟩ : ByteArray) ++ ⟨#[48]⟩ = ⟨#[109, 48]⟩ := by decide +kernel
  have HE : Hid ((⟨#[109]⟩ : ByteArray) ++ ⟨#[48]⟩ = ⟨#[109, 48]⟩) := hx
  have Hg : Hid (∀ z, Kp w z → Gs z) := fun z k => hw.kp k
  have hm1 : ((k : Int)).tmod 16 = 1 := by rw [Int.tmod_eq_emod_of_nonneg (by omega)]; omega
  have hm2 : ((k : Int)) % 16 = 1 := by omega
  clear hw hx
  go_enter Tryz.func7, Tryz.ntmps7
  go_wp2_with fail
  refine Calls.mono H0.out ?_
  rintro e w1 ⟨v, rfl, hv, k1⟩
  obtain ⟨g, vc, rfl, hb⟩ := names_both hv
  have HK1 : Hid (Kp w w1 ∧ Nms g w1.heap.size vc (w1.alloc (.cells nmsA 9))) := ⟨k1, hb⟩
  clear H0 k1 hv hb
  go_wp2_with fail
  refine Calls.mono (HR.out _) ?_
  rintro e w2 ⟨rfl, rfl⟩
  obtain ⟨h, hh⟩ : ∃ h, w1.heap.size = h := ⟨_, rfl⟩
  obtain ⟨W2, hW2⟩ : ∃ z, w1.alloc (.cells nmsA 9) = z := ⟨_, rfl⟩
  have HK2 : Hid (Kp w W2 ∧ Nms g h vc W2) := by rw [← hW2, ← hh]; exact ⟨kp_trans HK1.out.1 (kp_alloc _ _), HK1.out.2⟩
  rw [hh, hW2]
  clear HK1 HR hh hW2
  go_wp2_with fail
  refine Calls.mono (H1.out _ (Hg.out _ HK2.out.1)) ?_
  rintro e w3 ⟨rfl, k3⟩
  have HK3 : Hid (Kp w w3 ∧ Nms g h vc w3) := ⟨kp_trans HK2.out.1 k3, HK2.out.2.kp k3⟩
  have cg : w3.cell? ⟨g, 1, none⟩ = some (.string ⟨#[109]⟩) := HK3.out.2.gi 1 _ rfl
  have ch : w3.cell? ⟨h, 1, none⟩ = some (.string ⟨#[109]⟩) := HK3.out.2.hi 1 _ rfl
  clear k3 HK2 H1
  go_wp2_with fail
  first | rw [HE.out] | skip
  refine Calls.mono (H2.out _ (Hg.out _ HK3.out.1)) ?_
  rintro e w4 ⟨ra, rc, da, dc, rfl, HA⟩
  clear H2 cg ch HE
  obtain ⟨q1, hq1⟩ : ∃ q, w4.heap.size = q := ⟨_, rfl⟩
  obtain ⟨V1, hV1⟩ : ∃ z, w4.alloc (.cells #[.slice none 0 0, .string ⟨#[]⟩, .bool false, .int .u8 0, .int .i64 0, .slice none 0 0, .string ⟨#[]⟩, .string ⟨#[]⟩, .string ⟨#[]⟩, .string ⟨#[]⟩] 27) = z := ⟨_, rfl⟩
  have HB : Hid (Lc 27 q1 zmC V1 ∧ Kp w V1 ∧ w.heap.size ≤ q1 ∧ Nms g h vc V1 ∧ w3.heap.size ≤ q1 ∧ Kp w3 V1) := by
    rw [← hV1, ← hq1]; exact ⟨box_new w4, kp_trans (kp_trans HK3.out.1 HA.out.2.2) (kp_alloc _ _), Nat.le_trans HK3.out.1.size HA.out.2.2.size, (HK3.out.2.kp HA.out.2.2).kp (kp_alloc _ _), HA.out.2.2.size, kp_trans HA.out.2.2 (kp_alloc _ _)⟩
  go_upto_region 20 with (refine wpList_store_box HB.out.1 0 (cmC { name := [109], dest := [{ kd := 1, n := 0 }] } (.slice ra 0 rc) (.slice da 1 dc)) rfl 27 (.tmp 8) (.tmp 49) rfl rfl rfl (Nat.le_refl 10) sizeCmd (cmC_one _ _ _ _ _ _ _) rfl ?_; intro w5 x1 x2 x3; have HC : Hid (Lc 27 q1 (cmC { name := [109], dest := [{ kd := 1, n := 0 }] } (.slice ra 0 rc) (.slice da 1 dc)) w5 ∧ Kp w w5 ∧ Nms g h vc w5) := ⟨x1, kp_on HB.out.2.1 x2 HB.out.2.2.1, HK3.out.2.kp (kp_on HB.out.2.2.2.2.2 x2 HB.out.2.2.2.2.1)⟩; clear x1 x2 x3)
  clear HA HB hq1 hV1 HK3 Hg
  have cg : w5.cell? ⟨g, 1, none⟩ = some (.string ⟨#[109]⟩) := HC.out.2.2.gi 1 _ rfl
  have ch : w5.cell? ⟨h, 1, none⟩ = some (.string ⟨#[109]⟩) := HC.out.2.2.hi 1 _ rfl
  have c0 : w5.cell? ⟨q1, 0, none⟩ = some (.slice ra 0 rc) := HC.out.1.at (j := 0) rfl
  have c1 : w5.cell? ⟨q1, 1, none⟩ = some (.string ⟨#[109]⟩) := HC.out.1.at (j := 1) rfl
  have c2 : w5.cell? ⟨q1, 2, none⟩ = some (.bool false) := HC.out.1.at (j := 2) rfl
  have HX : Hid (Kp w w5) := HC.out.2.1
  clear HC
  go_wp2_with fail
  go_ret
  exact ⟨rfl, HX.out⟩
theorem kn_2 : cmdL [116, 48] = (0, { name := [116], dest := [{ kd := 1, n := 0 }] }) := by decide +kernel
set_option maxHeartbeats 16000000 in
theorem nm_2 {k : Nat} (hk : k < 256) (hm : k % 16 = 2) (hw : Gs w) : Calls Tryz.prog 7 #[.int .u8 (k : Int)] w fun e w' => e = .returned (.bool true) ∧ Kp w w' := by
  have H0 : Hid (Calls Tryz.prog 16 #[] w fun e w' => ∃ v, e = .returned v ∧ Row w.heap.size v (gud.map nmR) w' ∧ Kp w w') := names_any hw
  have H1 : Hid (∀ z, Gs z → Calls Tryz.prog 11 #[] z fun e w' => e = .returned (.bool true) ∧ Kp z w') := fun z hz => known_any hz
  have H2 : Hid (∀ z, Gs z → Calls Tryz.prog 12 #[.string ⟨#[116, 48]⟩] z _) := fun z hz => parse_at ⟨#[116, 48]⟩ (by decide) kn_2 hz
  have HR : Hid (∀ z, Calls Tryz.prog 17 #[] z _) := fun z => rnames_any z
  have hx : (⟨#[116]⟩ : ByteArray) ++ ⟨#[48]⟩ = ⟨#[116, 48]⟩ := by decide +kernel
  have HE : Hid ((⟨#[116]⟩ : ByteArray) ++ ⟨#[48]⟩ = ⟨#[116, 48]⟩) := hx
  have Hg : Hid (∀ z, Kp w z → Gs z) := fun z k => hw.kp k
  have hm1 : ((k : Int)).tmod 16 = 2 := by rw [Int.tmod_eq_emod_of_nonneg (by omega)]; omega
  have hm2 : ((k : Int)) % 16 = 2 := by omega
  clear hw hx
  go_enter Tryz.func7, Tryz.ntmps7
  go_wp2_with fail
  refine Calls.mono H0.out ?_
  rintro e w1 ⟨v, rfl, hv, k1⟩
  obtain ⟨g, vc, rfl, hb⟩ := names_both hv
  have HK1 : Hid (Kp w w1 ∧ Nms g w1.heap.size vc (w1.alloc (.cells nmsA 9))) := ⟨k1, hb⟩
  clear H0 k1 hv hb
  go_wp2_with fail
  refine Calls.mono (HR.out _) ?_
  rintro e w2 ⟨rfl, rfl⟩
  obtain ⟨h, hh⟩ : ∃ h, w1.heap.size = h := ⟨_, rfl⟩
  obtain ⟨W2, hW2⟩ : ∃ z, w1.alloc (.cells nmsA 9) = z := ⟨_, rfl⟩
  have HK2 : Hid (Kp w W2 ∧ Nms g h vc W2) := by rw [← hW2, ← hh]; exact ⟨kp_trans HK1.out.1 (kp_alloc _ _), HK1.out.2⟩
  rw [hh, hW2]
  clear HK1 HR hh hW2
  go_wp2_with fail
  refine Calls.mono (H1.out _ (Hg.out _ HK2.out.1)) ?_
  rintro e w3 ⟨rfl, k3⟩
  have HK3 : Hid (Kp w w3 ∧ Nms g h vc w3) := ⟨kp_trans HK2.out.1 k3, HK2.out.2.kp k3⟩
  have cg : w3.cell? ⟨g, 2, none⟩ = some (.string ⟨#[116]⟩) := HK3.out.2.gi 2 _ rfl
  have ch : w3.cell? ⟨h, 2, none⟩ = some (.string ⟨#[116]⟩) := HK3.out.2.hi 2 _ rfl
  clear k3 HK2 H1
  go_wp2_with fail
  first | rw [HE.out] | skip
  refine Calls.mono (H2.out _ (Hg.out _ HK3.out.1)) ?_
  rintro e w4 ⟨ra, rc, da, dc, rfl, HA⟩
  clear H2 cg ch HE
  obtain ⟨q1, hq1⟩ : ∃ q, w4.heap.size = q := ⟨_, rfl⟩
  obtain ⟨V1, hV1⟩ : ∃ z, w4.alloc (.cells #[.slice none 0 0, .string ⟨#[]⟩, .bool false, .int .u8 0, .int .i64 0, .slice none 0 0, .string ⟨#[]⟩, .string ⟨#[]⟩, .string ⟨#[]⟩, .string ⟨#[]⟩] 27) = z := ⟨_, rfl⟩
  have HB : Hid (Lc 27 q1 zmC V1 ∧ Kp w V1 ∧ w.heap.size ≤ q1 ∧ Nms g h vc V1 ∧ w3.heap.size ≤ q1 ∧ Kp w3 V1) := by
    rw [← hV1, ← hq1]; exact ⟨box_new w4, kp_trans (kp_trans HK3.out.1 HA.out.2.2) (kp_alloc _ _), Nat.le_trans HK3.out.1.size HA.out.2.2.size, (HK3.out.2.kp HA.out.2.2).kp (kp_alloc _ _), HA.out.2.2.size, kp_trans HA.out.2.2 (kp_alloc _ _)⟩
  go_upto_region 20 with (refine wpList_store_box HB.out.1 0 (cmC { name := [116], dest := [{ kd := 1, n := 0 }] } (.slice ra 0 rc) (.slice da 1 dc)) rfl 27 (.tmp 8) (.tmp 49) rfl rfl rfl (Nat.le_refl 10) sizeCmd (cmC_one _ _ _ _ _ _ _) rfl ?_; intro w5 x1 x2 x3; have HC : Hid (Lc 27 q1 (cmC { name := [116], dest := [{ kd := 1, n := 0 }] } (.slice ra 0 rc) (.slice da 1 dc)) w5 ∧ Kp w w5 ∧ Nms g h vc w5) := ⟨x1, kp_on HB.out.2.1 x2 HB.out.2.2.1, HK3.out.2.kp (kp_on HB.out.2.2.2.2.2 x2 HB.out.2.2.2.2.1)⟩; clear x1 x2 x3)
  clear HA HB hq1 hV1 HK3 Hg
  have cg : w5.cell? ⟨g, 2, none⟩ = some (.string ⟨#[116]⟩) := HC.out.2.2.gi 2 _ rfl
  have ch : w5.cell? ⟨h, 2, none⟩ = some (.string ⟨#[116]⟩) := HC.out.2.2.hi 2 _ rfl
  have c0 : w5.cell? ⟨q1, 0, none⟩ = some (.slice ra 0 rc) := HC.out.1.at (j := 0) rfl
  have c1 : w5.cell? ⟨q1, 1, none⟩ = some (.string ⟨#[116]⟩) := HC.out.1.at (j := 1) rfl
  have c2 : w5.cell? ⟨q1, 2, none⟩ = some (.bool false) := HC.out.1.at (j := 2) rfl
  have HX : Hid (Kp w w5) := HC.out.2.1
  clear HC
  go_wp2_with fail
  go_ret
  exact ⟨rfl, HX.out⟩
theorem kn_3 : cmdL [106] = (0, { name := [106] }) := by decide +kernel
set_option maxHeartbeats 16000000 in
theorem nm_3 {k : Nat} (hk : k < 256) (hm : k % 16 = 3) (hw : Gs w) : Calls Tryz.prog 7 #[.int .u8 (k : Int)] w fun e w' => e = .returned (.bool true) ∧ Kp w w' := by
  have H0 : Hid (Calls Tryz.prog 16 #[] w fun e w' => ∃ v, e = .returned v ∧ Row w.heap.size v (gud.map nmR) w' ∧ Kp w w') := names_any hw
  have H1 : Hid (∀ z, Gs z → Calls Tryz.prog 11 #[] z fun e w' => e = .returned (.bool true) ∧ Kp z w') := fun z hz => known_any hz
  have H2 : Hid (∀ z, Gs z → Calls Tryz.prog 12 #[.string ⟨#[106]⟩] z _) := fun z hz => parse_at ⟨#[106]⟩ (by decide) kn_3 hz
  have HR : Hid (∀ z, Calls Tryz.prog 17 #[] z _) := fun z => rnames_any z
  have hx : (⟨#[106]⟩ : ByteArray) ++ ⟨#[]⟩ = ⟨#[106]⟩ := by decide +kernel
  have HE : Hid ((⟨#[106]⟩ : ByteArray) ++ ⟨#[]⟩ = ⟨#[106]⟩) := hx
  have Hg : Hid (∀ z, Kp w z → Gs z) := fun z k => hw.kp k
  have hm1 : ((k : Int)).tmod 16 = 3 := by rw [Int.tmod_eq_emod_of_nonneg (by omega)]; omega
  have hm2 : ((k : Int)) % 16 = 3 := by omega
  clear hw hx
  go_enter Tryz.func7, Tryz.ntmps7
  go_wp2_with fail
  refine Calls.mono H0.out ?_
  rintro e w1 ⟨v, rfl, hv, k1⟩
  obtain ⟨g, vc, rfl, hb⟩ := names_both hv
  have HK1 : Hid (Kp w w1 ∧ Nms g w1.heap.size vc (w1.alloc (.cells nmsA 9))) := ⟨k1, hb⟩
  clear H0 k1 hv hb
  go_wp2_with fail
  refine Calls.mono (HR.out _) ?_
  rintro e w2 ⟨rfl, rfl⟩
  obtain ⟨h, hh⟩ : ∃ h, w1.heap.size = h := ⟨_, rfl⟩
  obtain ⟨W2, hW2⟩ : ∃ z, w1.alloc (.cells nmsA 9) = z := ⟨_, rfl⟩
  have HK2 : Hid (Kp w W2 ∧ Nms g h vc W2) := by rw [← hW2, ← hh]; exact ⟨kp_trans HK1.out.1 (kp_alloc _ _), HK1.out.2⟩
  rw [hh, hW2]
  clear HK1 HR hh hW2
  go_wp2_with fail
  refine Calls.mono (H1.out _ (Hg.out _ HK2.out.1)) ?_
  rintro e w3 ⟨rfl, k3⟩
  have HK3 : Hid (Kp w w3 ∧ Nms g h vc w3) := ⟨kp_trans HK2.out.1 k3, HK2.out.2.kp k3⟩
  have cg : w3.cell? ⟨g, 3, none⟩ = some (.string ⟨#[106]⟩) := HK3.out.2.gi 3 _ rfl
  have ch : w3.cell? ⟨h, 3, none⟩ = some (.string ⟨#[106]⟩) := HK3.out.2.hi 3 _ rfl
  clear k3 HK2 H1
  go_wp2_with fail
  first | rw [HE.out] | skip
  refine Calls.mono (H2.out _ (Hg.out _ HK3.out.1)) ?_
  rintro e w4 ⟨ra, rc, da, dc, rfl, HA⟩
  clear H2 cg ch HE
  obtain ⟨q1, hq1⟩ : ∃ q, w4.heap.size = q := ⟨_, rfl⟩
  obtain ⟨V1, hV1⟩ : ∃ z, w4.alloc (.cells #[.slice none 0 0, .string ⟨#[]⟩, .bool false, .int .u8 0, .int .i64 0, .slice none 0 0, .string ⟨#[]⟩, .string ⟨#[]⟩, .string ⟨#[]⟩, .string ⟨#[]⟩] 27) = z := ⟨_, rfl⟩
  have HB : Hid (Lc 27 q1 zmC V1 ∧ Kp w V1 ∧ w.heap.size ≤ q1 ∧ Nms g h vc V1 ∧ w3.heap.size ≤ q1 ∧ Kp w3 V1) := by
    rw [← hV1, ← hq1]; exact ⟨box_new w4, kp_trans (kp_trans HK3.out.1 HA.out.2.2) (kp_alloc _ _), Nat.le_trans HK3.out.1.size HA.out.2.2.size, (HK3.out.2.kp HA.out.2.2).kp (kp_alloc _ _), HA.out.2.2.size, kp_trans HA.out.2.2 (kp_alloc _ _)⟩
  go_upto_region 20 with (refine wpList_store_box HB.out.1 0 (cmC { name := [106] } (.slice ra 0 rc) (.slice da 0 dc)) rfl 27 (.tmp 8) (.tmp 49) rfl rfl rfl (Nat.le_refl 10) sizeCmd (cmC_one _ _ _ _ _ _ _) rfl ?_; intro w5 x1 x2 x3; have HC : Hid (Lc 27 q1 (cmC { name := [106] } (.slice ra 0 rc) (.slice da 0 dc)) w5 ∧ Kp w w5 ∧ Nms g h vc w5) := ⟨x1, kp_on HB.out.2.1 x2 HB.out.2.2.1, HK3.out.2.kp (kp_on HB.out.2.2.2.2.2 x2 HB.out.2.2.2.2.1)⟩; clear x1 x2 x3)
  clear HA HB hq1 hV1 HK3 Hg
  have cg : w5.cell? ⟨g, 3, none⟩ = some (.string ⟨#[106]⟩) := HC.out.2.2.gi 3 _ rfl
  have ch : w5.cell? ⟨h, 3, none⟩ = some (.string ⟨#[106]⟩) := HC.out.2.2.hi 3 _ rfl
  have c0 : w5.cell? ⟨q1, 0, none⟩ = some (.slice ra 0 rc) := HC.out.1.at (j := 0) rfl
  have c1 : w5.cell? ⟨q1, 1, none⟩ = some (.string ⟨#[106]⟩) := HC.out.1.at (j := 1) rfl
  have c2 : w5.cell? ⟨q1, 2, none⟩ = some (.bool false) := HC.out.1.at (j := 2) rfl
  have HX : Hid (Kp w w5) := HC.out.2.1
  clear HC
  go_wp2_with fail
  go_ret
  exact ⟨rfl, HX.out⟩
end
end Go.Proofs.YtfgapmfjfienhaaGreatDoor
/- CmdNames: the walk, cases 4 to 7. -/
namespace Go.Proofs.YtfgapmfjfienhaaGreatDoor
open Go.ChangeShapes Go.WideShapes Go.ChangeAt Go.RowKit Go.Maps Go.MapKept
set_option linter.unusedVariables false
set_option linter.unusedSimpArgs false
set_option maxRecDepth 100000
section
variable {w : World}
theorem kn_4 : cmdL [121] = (0, { name := [121] }) := by decide +kernel
set_option maxHeartbeats 16000000 in
theorem nm_4 {k : Nat} (hk : k < 256) (hm : k % 16 = 4) (hw : Gs w) : Calls Tryz.prog 7 #[.int .u8 (k : Int)] w fun e w' => e = .returned (.bool true) ∧ Kp w w' := by
  have H0 : Hid (Calls Tryz.prog 16 #[] w fun e w' => ∃ v, e = .returned v ∧ Row w.heap.size v (gud.map nmR) w' ∧ Kp w w') := names_any hw
  have H1 : Hid (∀ z, Gs z → Calls Tryz.prog 11 #[] z fun e w' => e = .returned (.bool true) ∧ Kp z w') := fun z hz => known_any hz
  have H2 : Hid (∀ z, Gs z → Calls Tryz.prog 12 #[.string ⟨#[121]⟩] z _) := fun z hz => parse_at ⟨#[121]⟩ (by decide) kn_4 hz
  have HR : Hid (∀ z, Calls Tryz.prog 17 #[] z _) := fun z => rnames_any z
  have hx : (⟨#[121]⟩ : ByteArray) ++ ⟨#[]⟩ = ⟨#[121]⟩ := by decide +kernel
  have HE : Hid ((⟨#[121]⟩ : ByteArray) ++ ⟨#[]⟩ = ⟨#[121]⟩) := hx
  have Hg : Hid (∀ z, Kp w z → Gs z) := fun z k => hw.kp k
  have hm1 : ((k : Int)).tmod 16 = 4 := by rw [Int.tmod_eq_emod_of_nonneg (by omega)]; omega
  have hm2 : ((k : Int)) % 16 = 4 := by omega
  clear hw hx
  go_enter Tryz.func7, Tryz.ntmps7
  go_wp2_with fail
  refine Calls.mono H0.out ?_
  rintro e w1 ⟨v, rfl, hv, k1⟩
  obtain ⟨g, vc, rfl, hb⟩ := names_both hv
  have HK1 : Hid (Kp w w1 ∧ Nms g w1.heap.size vc (w1.alloc (.cells nmsA 9))) := ⟨k1, hb⟩
  clear H0 k1 hv hb
  go_wp2_with fail
  refine Calls.mono (HR.out _) ?_
  rintro e w2 ⟨rfl, rfl⟩
  obtain ⟨h, hh⟩ : ∃ h, w1.heap.size = h := ⟨_, rfl⟩
  obtain ⟨W2, hW2⟩ : ∃ z, w1.alloc (.cells nmsA 9) = z := ⟨_, rfl⟩
  have HK2 : Hid (Kp w W2 ∧ Nms g h vc W2) := by rw [← hW2, ← hh]; exact ⟨kp_trans HK1.out.1 (kp_alloc _ _), HK1.out.2⟩
  rw [hh, hW2]
  clear HK1 HR hh hW2
  go_wp2_with fail
  refine Calls.mono (H1.out _ (Hg.out _ HK2.out.1)) ?_
  rintro e w3 ⟨rfl, k3⟩
  have HK3 : Hid (Kp w w3 ∧ Nms g h vc w3) := ⟨kp_trans HK2.out.1 k3, HK2.out.2.kp k3⟩
  have cg : w3.cell? ⟨g, 4, none⟩ = some (.string ⟨#[121]⟩) := HK3.out.2.gi 4 _ rfl
  have ch : w3.cell? ⟨h, 4, none⟩ = some (.string ⟨#[121]⟩) := HK3.out.2.hi 4 _ rfl
  clear k3 HK2 H1
  go_wp2_with fail
  first | rw [HE.out] | skip
  refine Calls.mono (H2.out _ (Hg.out _ HK3.out.1)) ?_
  rintro e w4 ⟨ra, rc, da, dc, rfl, HA⟩
  clear H2 cg ch HE
  obtain ⟨q1, hq1⟩ : ∃ q, w4.heap.size = q := ⟨_, rfl⟩
  obtain ⟨V1, hV1⟩ : ∃ z, w4.alloc (.cells #[.slice none 0 0, .string ⟨#[]⟩, .bool false, .int .u8 0, .int .i64 0, .slice none 0 0, .string ⟨#[]⟩, .string ⟨#[]⟩, .string ⟨#[]⟩, .string ⟨#[]⟩] 27) = z := ⟨_, rfl⟩
  have HB : Hid (Lc 27 q1 zmC V1 ∧ Kp w V1 ∧ w.heap.size ≤ q1 ∧ Nms g h vc V1 ∧ w3.heap.size ≤ q1 ∧ Kp w3 V1) := by
    rw [← hV1, ← hq1]; exact ⟨box_new w4, kp_trans (kp_trans HK3.out.1 HA.out.2.2) (kp_alloc _ _), Nat.le_trans HK3.out.1.size HA.out.2.2.size, (HK3.out.2.kp HA.out.2.2).kp (kp_alloc _ _), HA.out.2.2.size, kp_trans HA.out.2.2 (kp_alloc _ _)⟩
  go_upto_region 20 with (refine wpList_store_box HB.out.1 0 (cmC { name := [121] } (.slice ra 0 rc) (.slice da 0 dc)) rfl 27 (.tmp 8) (.tmp 49) rfl rfl rfl (Nat.le_refl 10) sizeCmd (cmC_one _ _ _ _ _ _ _) rfl ?_; intro w5 x1 x2 x3; have HC : Hid (Lc 27 q1 (cmC { name := [121] } (.slice ra 0 rc) (.slice da 0 dc)) w5 ∧ Kp w w5 ∧ Nms g h vc w5) := ⟨x1, kp_on HB.out.2.1 x2 HB.out.2.2.1, HK3.out.2.kp (kp_on HB.out.2.2.2.2.2 x2 HB.out.2.2.2.2.1)⟩; clear x1 x2 x3)
  clear HA HB hq1 hV1 HK3 Hg
  have cg : w5.cell? ⟨g, 4, none⟩ = some (.string ⟨#[121]⟩) := HC.out.2.2.gi 4 _ rfl
  have ch : w5.cell? ⟨h, 4, none⟩ = some (.string ⟨#[121]⟩) := HC.out.2.2.hi 4 _ rfl
  have c0 : w5.cell? ⟨q1, 0, none⟩ = some (.slice ra 0 rc) := HC.out.1.at (j := 0) rfl
  have c1 : w5.cell? ⟨q1, 1, none⟩ = some (.string ⟨#[121]⟩) := HC.out.1.at (j := 1) rfl
  have c2 : w5.cell? ⟨q1, 2, none⟩ = some (.bool false) := HC.out.1.at (j := 2) rfl
  have HX : Hid (Kp w w5) := HC.out.2.1
  clear HC
  go_wp2_with fail
  go_ret
  exact ⟨rfl, HX.out⟩
theorem kn_5 : cmdL [112, 117] = (0, { name := [112, 117] }) := by decide +kernel
set_option maxHeartbeats 16000000 in
theorem nm_5 {k : Nat} (hk : k < 256) (hm : k % 16 = 5) (hw : Gs w) : Calls Tryz.prog 7 #[.int .u8 (k : Int)] w fun e w' => e = .returned (.bool true) ∧ Kp w w' := by
  have H0 : Hid (Calls Tryz.prog 16 #[] w fun e w' => ∃ v, e = .returned v ∧ Row w.heap.size v (gud.map nmR) w' ∧ Kp w w') := names_any hw
  have H1 : Hid (∀ z, Gs z → Calls Tryz.prog 11 #[] z fun e w' => e = .returned (.bool true) ∧ Kp z w') := fun z hz => known_any hz
  have H2 : Hid (∀ z, Gs z → Calls Tryz.prog 12 #[.string ⟨#[112, 117]⟩] z _) := fun z hz => parse_at ⟨#[112, 117]⟩ (by decide) kn_5 hz
  have HR : Hid (∀ z, Calls Tryz.prog 17 #[] z _) := fun z => rnames_any z
  have hx : (⟨#[112, 117]⟩ : ByteArray) ++ ⟨#[]⟩ = ⟨#[112, 117]⟩ := by decide +kernel
  have HE : Hid ((⟨#[112, 117]⟩ : ByteArray) ++ ⟨#[]⟩ = ⟨#[112, 117]⟩) := hx
  have Hg : Hid (∀ z, Kp w z → Gs z) := fun z k => hw.kp k
  have hm1 : ((k : Int)).tmod 16 = 5 := by rw [Int.tmod_eq_emod_of_nonneg (by omega)]; omega
  have hm2 : ((k : Int)) % 16 = 5 := by omega
  clear hw hx
  go_enter Tryz.func7, Tryz.ntmps7
  go_wp2_with fail
  refine Calls.mono H0.out ?_
  rintro e w1 ⟨v, rfl, hv, k1⟩
  obtain ⟨g, vc, rfl, hb⟩ := names_both hv
  have HK1 : Hid (Kp w w1 ∧ Nms g w1.heap.size vc (w1.alloc (.cells nmsA 9))) := ⟨k1, hb⟩
  clear H0 k1 hv hb
  go_wp2_with fail
  refine Calls.mono (HR.out _) ?_
  rintro e w2 ⟨rfl, rfl⟩
  obtain ⟨h, hh⟩ : ∃ h, w1.heap.size = h := ⟨_, rfl⟩
  obtain ⟨W2, hW2⟩ : ∃ z, w1.alloc (.cells nmsA 9) = z := ⟨_, rfl⟩
  have HK2 : Hid (Kp w W2 ∧ Nms g h vc W2) := by rw [← hW2, ← hh]; exact ⟨kp_trans HK1.out.1 (kp_alloc _ _), HK1.out.2⟩
  rw [hh, hW2]
  clear HK1 HR hh hW2
  go_wp2_with fail
  refine Calls.mono (H1.out _ (Hg.out _ HK2.out.1)) ?_
  rintro e w3 ⟨rfl, k3⟩
  have HK3 : Hid (Kp w w3 ∧ Nms g h vc w3) := ⟨kp_trans HK2.out.1 k3, HK2.out.2.kp k3⟩
  have cg : w3.cell? ⟨g, 5, none⟩ = some (.string ⟨#[112, 117]⟩) := HK3.out.2.gi 5 _ rfl
  have ch : w3.cell? ⟨h, 5, none⟩ = some (.string ⟨#[112, 117]⟩) := HK3.out.2.hi 5 _ rfl
  clear k3 HK2 H1
  go_wp2_with fail
  first | rw [HE.out] | skip
  refine Calls.mono (H2.out _ (Hg.out _ HK3.out.1)) ?_
  rintro e w4 ⟨ra, rc, da, dc, rfl, HA⟩
  clear H2 cg ch HE
  obtain ⟨q1, hq1⟩ : ∃ q, w4.heap.size = q := ⟨_, rfl⟩
  obtain ⟨V1, hV1⟩ : ∃ z, w4.alloc (.cells #[.slice none 0 0, .string ⟨#[]⟩, .bool false, .int .u8 0, .int .i64 0, .slice none 0 0, .string ⟨#[]⟩, .string ⟨#[]⟩, .string ⟨#[]⟩, .string ⟨#[]⟩] 27) = z := ⟨_, rfl⟩
  have HB : Hid (Lc 27 q1 zmC V1 ∧ Kp w V1 ∧ w.heap.size ≤ q1 ∧ Nms g h vc V1 ∧ w3.heap.size ≤ q1 ∧ Kp w3 V1) := by
    rw [← hV1, ← hq1]; exact ⟨box_new w4, kp_trans (kp_trans HK3.out.1 HA.out.2.2) (kp_alloc _ _), Nat.le_trans HK3.out.1.size HA.out.2.2.size, (HK3.out.2.kp HA.out.2.2).kp (kp_alloc _ _), HA.out.2.2.size, kp_trans HA.out.2.2 (kp_alloc _ _)⟩
  go_upto_region 20 with (refine wpList_store_box HB.out.1 0 (cmC { name := [112, 117] } (.slice ra 0 rc) (.slice da 0 dc)) rfl 27 (.tmp 8) (.tmp 49) rfl rfl rfl (Nat.le_refl 10) sizeCmd (cmC_one _ _ _ _ _ _ _) rfl ?_; intro w5 x1 x2 x3; have HC : Hid (Lc 27 q1 (cmC { name := [112, 117] } (.slice ra 0 rc) (.slice da 0 dc)) w5 ∧ Kp w w5 ∧ Nms g h vc w5) := ⟨x1, kp_on HB.out.2.1 x2 HB.out.2.2.1, HK3.out.2.kp (kp_on HB.out.2.2.2.2.2 x2 HB.out.2.2.2.2.1)⟩; clear x1 x2 x3)
  clear HA HB hq1 hV1 HK3 Hg
  have cg : w5.cell? ⟨g, 5, none⟩ = some (.string ⟨#[112, 117]⟩) := HC.out.2.2.gi 5 _ rfl
  have ch : w5.cell? ⟨h, 5, none⟩ = some (.string ⟨#[112, 117]⟩) := HC.out.2.2.hi 5 _ rfl
  have c0 : w5.cell? ⟨q1, 0, none⟩ = some (.slice ra 0 rc) := HC.out.1.at (j := 0) rfl
  have c1 : w5.cell? ⟨q1, 1, none⟩ = some (.string ⟨#[112, 117]⟩) := HC.out.1.at (j := 1) rfl
  have c2 : w5.cell? ⟨q1, 2, none⟩ = some (.bool false) := HC.out.1.at (j := 2) rfl
  have HX : Hid (Kp w w5) := HC.out.2.1
  clear HC
  go_wp2_with fail
  go_ret
  exact ⟨rfl, HX.out⟩
theorem kn_6 : cmdL [107, 97] = (0, { name := [107], reg := 97 }) := by decide +kernel
set_option maxHeartbeats 16000000 in
theorem nm_6 {k : Nat} (hk : k < 256) (hm : k % 16 = 6) (hw : Gs w) : Calls Tryz.prog 7 #[.int .u8 (k : Int)] w fun e w' => e = .returned (.bool true) ∧ Kp w w' := by
  have H0 : Hid (Calls Tryz.prog 16 #[] w fun e w' => ∃ v, e = .returned v ∧ Row w.heap.size v (gud.map nmR) w' ∧ Kp w w') := names_any hw
  have H1 : Hid (∀ z, Gs z → Calls Tryz.prog 11 #[] z fun e w' => e = .returned (.bool true) ∧ Kp z w') := fun z hz => known_any hz
  have H2 : Hid (∀ z, Gs z → Calls Tryz.prog 12 #[.string ⟨#[107, 97]⟩] z _) := fun z hz => parse_at ⟨#[107, 97]⟩ (by decide) kn_6 hz
  have HR : Hid (∀ z, Calls Tryz.prog 17 #[] z _) := fun z => rnames_any z
  have hx : (⟨#[107]⟩ : ByteArray) ++ ⟨#[97]⟩ = ⟨#[107, 97]⟩ := by decide +kernel
  have HE : Hid ((⟨#[107]⟩ : ByteArray) ++ ⟨#[97]⟩ = ⟨#[107, 97]⟩) := hx
  have Hg : Hid (∀ z, Kp w z → Gs z) := fun z k => hw.kp k
  have hm1 : ((k : Int)).tmod 16 = 6 := by rw [Int.tmod_eq_emod_of_nonneg (by omega)]; omega
  have hm2 : ((k : Int)) % 16 = 6 := by omega
  clear hw hx
  go_enter Tryz.func7, Tryz.ntmps7
  go_wp2_with fail
  refine Calls.mono H0.out ?_
  rintro e w1 ⟨v, rfl, hv, k1⟩
  obtain ⟨g, vc, rfl, hb⟩ := names_both hv
  have HK1 : Hid (Kp w w1 ∧ Nms g w1.heap.size vc (w1.alloc (.cells nmsA 9))) := ⟨k1, hb⟩
  clear H0 k1 hv hb
  go_wp2_with fail
  refine Calls.mono (HR.out _) ?_
  rintro e w2 ⟨rfl, rfl⟩
  obtain ⟨h, hh⟩ : ∃ h, w1.heap.size = h := ⟨_, rfl⟩
  obtain ⟨W2, hW2⟩ : ∃ z, w1.alloc (.cells nmsA 9) = z := ⟨_, rfl⟩
  have HK2 : Hid (Kp w W2 ∧ Nms g h vc W2) := by rw [← hW2, ← hh]; exact ⟨kp_trans HK1.out.1 (kp_alloc _ _), HK1.out.2⟩
  rw [hh, hW2]
  clear HK1 HR hh hW2
  go_wp2_with fail
  refine Calls.mono (H1.out _ (Hg.out _ HK2.out.1)) ?_
  rintro e w3 ⟨rfl, k3⟩
  have HK3 : Hid (Kp w w3 ∧ Nms g h vc w3) := ⟨kp_trans HK2.out.1 k3, HK2.out.2.kp k3⟩
  have cg : w3.cell? ⟨g, 6, none⟩ = some (.string ⟨#[107]⟩) := HK3.out.2.gi 6 _ rfl
  have ch : w3.cell? ⟨h, 6, none⟩ = some (.string ⟨#[107]⟩) := HK3.out.2.hi 6 _ rfl
  clear k3 HK2 H1
  go_wp2_with fail
  first | rw [HE.out] | skip
  refine Calls.mono (H2.out _ (Hg.out _ HK3.out.1)) ?_
  rintro e w4 ⟨ra, rc, da, dc, rfl, HA⟩
  clear H2 cg ch HE
  obtain ⟨q1, hq1⟩ : ∃ q, w4.heap.size = q := ⟨_, rfl⟩
  obtain ⟨V1, hV1⟩ : ∃ z, w4.alloc (.cells #[.slice none 0 0, .string ⟨#[]⟩, .bool false, .int .u8 0, .int .i64 0, .slice none 0 0, .string ⟨#[]⟩, .string ⟨#[]⟩, .string ⟨#[]⟩, .string ⟨#[]⟩] 27) = z := ⟨_, rfl⟩
  have HB : Hid (Lc 27 q1 zmC V1 ∧ Kp w V1 ∧ w.heap.size ≤ q1 ∧ Nms g h vc V1 ∧ w3.heap.size ≤ q1 ∧ Kp w3 V1) := by
    rw [← hV1, ← hq1]; exact ⟨box_new w4, kp_trans (kp_trans HK3.out.1 HA.out.2.2) (kp_alloc _ _), Nat.le_trans HK3.out.1.size HA.out.2.2.size, (HK3.out.2.kp HA.out.2.2).kp (kp_alloc _ _), HA.out.2.2.size, kp_trans HA.out.2.2 (kp_alloc _ _)⟩
  go_upto_region 20 with (refine wpList_store_box HB.out.1 0 (cmC { name := [107], reg := 97 } (.slice ra 0 rc) (.slice da 0 dc)) rfl 27 (.tmp 8) (.tmp 49) rfl rfl rfl (Nat.le_refl 10) sizeCmd (cmC_one _ _ _ _ _ _ _) rfl ?_; intro w5 x1 x2 x3; have HC : Hid (Lc 27 q1 (cmC { name := [107], reg := 97 } (.slice ra 0 rc) (.slice da 0 dc)) w5 ∧ Kp w w5 ∧ Nms g h vc w5) := ⟨x1, kp_on HB.out.2.1 x2 HB.out.2.2.1, HK3.out.2.kp (kp_on HB.out.2.2.2.2.2 x2 HB.out.2.2.2.2.1)⟩; clear x1 x2 x3)
  clear HA HB hq1 hV1 HK3 Hg
  have cg : w5.cell? ⟨g, 6, none⟩ = some (.string ⟨#[107]⟩) := HC.out.2.2.gi 6 _ rfl
  have ch : w5.cell? ⟨h, 6, none⟩ = some (.string ⟨#[107]⟩) := HC.out.2.2.hi 6 _ rfl
  have c0 : w5.cell? ⟨q1, 0, none⟩ = some (.slice ra 0 rc) := HC.out.1.at (j := 0) rfl
  have c1 : w5.cell? ⟨q1, 1, none⟩ = some (.string ⟨#[107]⟩) := HC.out.1.at (j := 1) rfl
  have c2 : w5.cell? ⟨q1, 2, none⟩ = some (.bool false) := HC.out.1.at (j := 2) rfl
  have HX : Hid (Kp w w5) := HC.out.2.1
  clear HC
  go_wp2_with fail
  go_ret
  exact ⟨rfl, HX.out⟩
theorem kn_7 : cmdL [115] = (0, { name := [115] }) := by decide +kernel
set_option maxHeartbeats 16000000 in
theorem nm_7 {k : Nat} (hk : k < 256) (hm : k % 16 = 7) (hw : Gs w) : Calls Tryz.prog 7 #[.int .u8 (k : Int)] w fun e w' => e = .returned (.bool true) ∧ Kp w w' := by
  have H0 : Hid (Calls Tryz.prog 16 #[] w fun e w' => ∃ v, e = .returned v ∧ Row w.heap.size v (gud.map nmR) w' ∧ Kp w w') := names_any hw
  have H1 : Hid (∀ z, Gs z → Calls Tryz.prog 11 #[] z fun e w' => e = .returned (.bool true) ∧ Kp z w') := fun z hz => known_any hz
  have H2 : Hid (∀ z, Gs z → Calls Tryz.prog 12 #[.string ⟨#[115]⟩] z _) := fun z hz => parse_at ⟨#[115]⟩ (by decide) kn_7 hz
  have HR : Hid (∀ z, Calls Tryz.prog 17 #[] z _) := fun z => rnames_any z
  have hx : (⟨#[115]⟩ : ByteArray) ++ ⟨#[]⟩ = ⟨#[115]⟩ := by decide +kernel
  have HE : Hid ((⟨#[115]⟩ : ByteArray) ++ ⟨#[]⟩ = ⟨#[115]⟩) := hx
  have Hg : Hid (∀ z, Kp w z → Gs z) := fun z k => hw.kp k
  have hm1 : ((k : Int)).tmod 16 = 7 := by rw [Int.tmod_eq_emod_of_nonneg (by omega)]; omega
  have hm2 : ((k : Int)) % 16 = 7 := by omega
  clear hw hx
  go_enter Tryz.func7, Tryz.ntmps7
  go_wp2_with fail
  refine Calls.mono H0.out ?_
  rintro e w1 ⟨v, rfl, hv, k1⟩
  obtain ⟨g, vc, rfl, hb⟩ := names_both hv
  have HK1 : Hid (Kp w w1 ∧ Nms g w1.heap.size vc (w1.alloc (.cells nmsA 9))) := ⟨k1, hb⟩
  clear H0 k1 hv hb
  go_wp2_with fail
  refine Calls.mono (HR.out _) ?_
  rintro e w2 ⟨rfl, rfl⟩
  obtain ⟨h, hh⟩ : ∃ h, w1.heap.size = h := ⟨_, rfl⟩
  obtain ⟨W2, hW2⟩ : ∃ z, w1.alloc (.cells nmsA 9) = z := ⟨_, rfl⟩
  have HK2 : Hid (Kp w W2 ∧ Nms g h vc W2) := by rw [← hW2, ← hh]; exact ⟨kp_trans HK1.out.1 (kp_alloc _ _), HK1.out.2⟩
  rw [hh, hW2]
  clear HK1 HR hh hW2
  go_wp2_with fail
  refine Calls.mono (H1.out _ (Hg.out _ HK2.out.1)) ?_
  rintro e w3 ⟨rfl, k3⟩
  have HK3 : Hid (Kp w w3 ∧ Nms g h vc w3) := ⟨kp_trans HK2.out.1 k3, HK2.out.2.kp k3⟩
  have cg : w3.cell? ⟨g, 7, none⟩ = some (.string ⟨#[115]⟩) := HK3.out.2.gi 7 _ rfl
  have ch : w3.cell? ⟨h, 7, none⟩ = some (.string ⟨#[115]⟩) := HK3.out.2.hi 7 _ rfl
  clear k3 HK2 H1
  go_wp2_with fail
  first | rw [HE.out] | skip
  refine Calls.mono (H2.out _ (Hg.out _ HK3.out.1)) ?_
  rintro e w4 ⟨ra, rc, da, dc, rfl, HA⟩
  clear H2 cg ch HE
  obtain ⟨q1, hq1⟩ : ∃ q, w4.heap.size = q := ⟨_, rfl⟩
  obtain ⟨V1, hV1⟩ : ∃ z, w4.alloc (.cells #[.slice none 0 0, .string ⟨#[]⟩, .bool false, .int .u8 0, .int .i64 0, .slice none 0 0, .string ⟨#[]⟩, .string ⟨#[]⟩, .string ⟨#[]⟩, .string ⟨#[]⟩] 27) = z := ⟨_, rfl⟩
  have HB : Hid (Lc 27 q1 zmC V1 ∧ Kp w V1 ∧ w.heap.size ≤ q1 ∧ Nms g h vc V1 ∧ w3.heap.size ≤ q1 ∧ Kp w3 V1) := by
    rw [← hV1, ← hq1]; exact ⟨box_new w4, kp_trans (kp_trans HK3.out.1 HA.out.2.2) (kp_alloc _ _), Nat.le_trans HK3.out.1.size HA.out.2.2.size, (HK3.out.2.kp HA.out.2.2).kp (kp_alloc _ _), HA.out.2.2.size, kp_trans HA.out.2.2 (kp_alloc _ _)⟩
  go_upto_region 20 with (refine wpList_store_box HB.out.1 0 (cmC { name := [115] } (.slice ra 0 rc) (.slice da 0 dc)) rfl 27 (.tmp 8) (.tmp 49) rfl rfl rfl (Nat.le_refl 10) sizeCmd (cmC_one _ _ _ _ _ _ _) rfl ?_; intro w5 x1 x2 x3; have HC : Hid (Lc 27 q1 (cmC { name := [115] } (.slice ra 0 rc) (.slice da 0 dc)) w5 ∧ Kp w w5 ∧ Nms g h vc w5) := ⟨x1, kp_on HB.out.2.1 x2 HB.out.2.2.1, HK3.out.2.kp (kp_on HB.out.2.2.2.2.2 x2 HB.out.2.2.2.2.1)⟩; clear x1 x2 x3)
  clear HA HB hq1 hV1 HK3 Hg
  have cg : w5.cell? ⟨g, 7, none⟩ = some (.string ⟨#[115]⟩) := HC.out.2.2.gi 7 _ rfl
  have ch : w5.cell? ⟨h, 7, none⟩ = some (.string ⟨#[115]⟩) := HC.out.2.2.hi 7 _ rfl
  have c0 : w5.cell? ⟨q1, 0, none⟩ = some (.slice ra 0 rc) := HC.out.1.at (j := 0) rfl
  have c1 : w5.cell? ⟨q1, 1, none⟩ = some (.string ⟨#[115]⟩) := HC.out.1.at (j := 1) rfl
  have c2 : w5.cell? ⟨q1, 2, none⟩ = some (.bool false) := HC.out.1.at (j := 2) rfl
  have HX : Hid (Kp w w5) := HC.out.2.1
  clear HC
  go_wp2_with fail
  go_ret
  exact ⟨rfl, HX.out⟩
end
end Go.Proofs.YtfgapmfjfienhaaGreatDoor
/- CmdNames: the walk, cases 8 to 11. -/
namespace Go.Proofs.YtfgapmfjfienhaaGreatDoor
open Go.ChangeShapes Go.WideShapes Go.ChangeAt Go.RowKit Go.Maps Go.MapKept
set_option linter.unusedVariables false
set_option linter.unusedSimpArgs false
set_option maxRecDepth 100000
section
variable {w : World}
theorem kn_8 : cmdL [103, 47, 120, 47, 112] = (0, { name := [103], pat := [120], arg := [112] }) := by decide +kernel
set_option maxHeartbeats 16000000 in
theorem nm_8 {k : Nat} (hk : k < 256) (hm : k % 16 = 8) (hw : Gs w) : Calls Tryz.prog 7 #[.int .u8 (k : Int)] w fun e w' => e = .returned (.bool true) ∧ Kp w w' := by
  have H0 : Hid (Calls Tryz.prog 16 #[] w fun e w' => ∃ v, e = .returned v ∧ Row w.heap.size v (gud.map nmR) w' ∧ Kp w w') := names_any hw
  have H1 : Hid (∀ z, Gs z → Calls Tryz.prog 11 #[] z fun e w' => e = .returned (.bool true) ∧ Kp z w') := fun z hz => known_any hz
  have H2 : Hid (∀ z, Gs z → Calls Tryz.prog 12 #[.string ⟨#[103, 47, 120, 47, 112]⟩] z _) := fun z hz => parse_at ⟨#[103, 47, 120, 47, 112]⟩ (by decide) kn_8 hz
  have HR : Hid (∀ z, Calls Tryz.prog 17 #[] z _) := fun z => rnames_any z
  have hx : (⟨#[103]⟩ : ByteArray) ++ ⟨#[47, 120, 47, 112]⟩ = ⟨#[103, 47, 120, 47, 112]⟩ := by decide +kernel
  have HE : Hid ((⟨#[103]⟩ : ByteArray) ++ ⟨#[47, 120, 47, 112]⟩ = ⟨#[103, 47, 120, 47, 112]⟩) := hx
  have Hg : Hid (∀ z, Kp w z → Gs z) := fun z k => hw.kp k
  have hm1 : ((k : Int)).tmod 16 = 8 := by rw [Int.tmod_eq_emod_of_nonneg (by omega)]; omega
  have hm2 : ((k : Int)) % 16 = 8 := by omega
  clear hw hx
  go_enter Tryz.func7, Tryz.ntmps7
  go_wp2_with fail
  refine Calls.mono H0.out ?_
  rintro e w1 ⟨v, rfl, hv, k1⟩
  obtain ⟨g, vc, rfl, hb⟩ := names_both hv
  have HK1 : Hid (Kp w w1 ∧ Nms g w1.heap.size vc (w1.alloc (.cells nmsA 9))) := ⟨k1, hb⟩
  clear H0 k1 hv hb
  go_wp2_with fail
  refine Calls.mono (HR.out _) ?_
  rintro e w2 ⟨rfl, rfl⟩
  obtain ⟨h, hh⟩ : ∃ h, w1.heap.size = h := ⟨_, rfl⟩
  obtain ⟨W2, hW2⟩ : ∃ z, w1.alloc (.cells nmsA 9) = z := ⟨_, rfl⟩
  have HK2 : Hid (Kp w W2 ∧ Nms g h vc W2) := by rw [← hW2, ← hh]; exact ⟨kp_trans HK1.out.1 (kp_alloc _ _), HK1.out.2⟩
  rw [hh, hW2]
  clear HK1 HR hh hW2
  go_wp2_with fail
  refine Calls.mono (H1.out _ (Hg.out _ HK2.out.1)) ?_
  rintro e w3 ⟨rfl, k3⟩
  have HK3 : Hid (Kp w w3 ∧ Nms g h vc w3) := ⟨kp_trans HK2.out.1 k3, HK2.out.2.kp k3⟩
  have cg : w3.cell? ⟨g, 8, none⟩ = some (.string ⟨#[103]⟩) := HK3.out.2.gi 8 _ rfl
  have ch : w3.cell? ⟨h, 8, none⟩ = some (.string ⟨#[103]⟩) := HK3.out.2.hi 8 _ rfl
  clear k3 HK2 H1
  go_wp2_with fail
  first | rw [HE.out] | skip
  refine Calls.mono (H2.out _ (Hg.out _ HK3.out.1)) ?_
  rintro e w4 ⟨ra, rc, da, dc, rfl, HA⟩
  clear H2 cg ch HE
  obtain ⟨q1, hq1⟩ : ∃ q, w4.heap.size = q := ⟨_, rfl⟩
  obtain ⟨V1, hV1⟩ : ∃ z, w4.alloc (.cells #[.slice none 0 0, .string ⟨#[]⟩, .bool false, .int .u8 0, .int .i64 0, .slice none 0 0, .string ⟨#[]⟩, .string ⟨#[]⟩, .string ⟨#[]⟩, .string ⟨#[]⟩] 27) = z := ⟨_, rfl⟩
  have HB : Hid (Lc 27 q1 zmC V1 ∧ Kp w V1 ∧ w.heap.size ≤ q1 ∧ Nms g h vc V1 ∧ w3.heap.size ≤ q1 ∧ Kp w3 V1) := by
    rw [← hV1, ← hq1]; exact ⟨box_new w4, kp_trans (kp_trans HK3.out.1 HA.out.2.2) (kp_alloc _ _), Nat.le_trans HK3.out.1.size HA.out.2.2.size, (HK3.out.2.kp HA.out.2.2).kp (kp_alloc _ _), HA.out.2.2.size, kp_trans HA.out.2.2 (kp_alloc _ _)⟩
  go_upto_region 20 with (refine wpList_store_box HB.out.1 0 (cmC { name := [103], pat := [120], arg := [112] } (.slice ra 0 rc) (.slice da 0 dc)) rfl 27 (.tmp 8) (.tmp 49) rfl rfl rfl (Nat.le_refl 10) sizeCmd (cmC_one _ _ _ _ _ _ _) rfl ?_; intro w5 x1 x2 x3; have HC : Hid (Lc 27 q1 (cmC { name := [103], pat := [120], arg := [112] } (.slice ra 0 rc) (.slice da 0 dc)) w5 ∧ Kp w w5 ∧ Nms g h vc w5) := ⟨x1, kp_on HB.out.2.1 x2 HB.out.2.2.1, HK3.out.2.kp (kp_on HB.out.2.2.2.2.2 x2 HB.out.2.2.2.2.1)⟩; clear x1 x2 x3)
  clear HA HB hq1 hV1 HK3 Hg
  have cg : w5.cell? ⟨g, 8, none⟩ = some (.string ⟨#[103]⟩) := HC.out.2.2.gi 8 _ rfl
  have ch : w5.cell? ⟨h, 8, none⟩ = some (.string ⟨#[103]⟩) := HC.out.2.2.hi 8 _ rfl
  have c0 : w5.cell? ⟨q1, 0, none⟩ = some (.slice ra 0 rc) := HC.out.1.at (j := 0) rfl
  have c1 : w5.cell? ⟨q1, 1, none⟩ = some (.string ⟨#[103]⟩) := HC.out.1.at (j := 1) rfl
  have c2 : w5.cell? ⟨q1, 2, none⟩ = some (.bool false) := HC.out.1.at (j := 2) rfl
  have HX : Hid (Kp w w5) := HC.out.2.1
  clear HC
  go_wp2_with fail
  go_ret
  exact ⟨rfl, HX.out⟩
theorem kn_9 : cmdL [118, 47, 120, 47, 112] = (0, { name := [118], pat := [120], arg := [112] }) := by decide +kernel
set_option maxHeartbeats 16000000 in
theorem nm_9 {k : Nat} (hk : k < 256) (hm : k % 16 = 9) (hw : Gs w) : Calls Tryz.prog 7 #[.int .u8 (k : Int)] w fun e w' => e = .returned (.bool true) ∧ Kp w w' := by
  have H0 : Hid (Calls Tryz.prog 16 #[] w fun e w' => ∃ v, e = .returned v ∧ Row w.heap.size v (gud.map nmR) w' ∧ Kp w w') := names_any hw
  have H1 : Hid (∀ z, Gs z → Calls Tryz.prog 11 #[] z fun e w' => e = .returned (.bool true) ∧ Kp z w') := fun z hz => known_any hz
  have H2 : Hid (∀ z, Gs z → Calls Tryz.prog 12 #[.string ⟨#[118, 47, 120, 47, 112]⟩] z _) := fun z hz => parse_at ⟨#[118, 47, 120, 47, 112]⟩ (by decide) kn_9 hz
  have HR : Hid (∀ z, Calls Tryz.prog 17 #[] z _) := fun z => rnames_any z
  have hx : (⟨#[118]⟩ : ByteArray) ++ ⟨#[47, 120, 47, 112]⟩ = ⟨#[118, 47, 120, 47, 112]⟩ := by decide +kernel
  have HE : Hid ((⟨#[118]⟩ : ByteArray) ++ ⟨#[47, 120, 47, 112]⟩ = ⟨#[118, 47, 120, 47, 112]⟩) := hx
  have Hg : Hid (∀ z, Kp w z → Gs z) := fun z k => hw.kp k
  have hm1 : ((k : Int)).tmod 16 = 9 := by rw [Int.tmod_eq_emod_of_nonneg (by omega)]; omega
  have hm2 : ((k : Int)) % 16 = 9 := by omega
  clear hw hx
  go_enter Tryz.func7, Tryz.ntmps7
  go_wp2_with fail
  refine Calls.mono H0.out ?_
  rintro e w1 ⟨v, rfl, hv, k1⟩
  obtain ⟨g, vc, rfl, hb⟩ := names_both hv
  have HK1 : Hid (Kp w w1 ∧ Nms g w1.heap.size vc (w1.alloc (.cells nmsA 9))) := ⟨k1, hb⟩
  clear H0 k1 hv hb
  go_wp2_with fail
  refine Calls.mono (HR.out _) ?_
  rintro e w2 ⟨rfl, rfl⟩
  obtain ⟨h, hh⟩ : ∃ h, w1.heap.size = h := ⟨_, rfl⟩
  obtain ⟨W2, hW2⟩ : ∃ z, w1.alloc (.cells nmsA 9) = z := ⟨_, rfl⟩
  have HK2 : Hid (Kp w W2 ∧ Nms g h vc W2) := by rw [← hW2, ← hh]; exact ⟨kp_trans HK1.out.1 (kp_alloc _ _), HK1.out.2⟩
  rw [hh, hW2]
  clear HK1 HR hh hW2
  go_wp2_with fail
  refine Calls.mono (H1.out _ (Hg.out _ HK2.out.1)) ?_
  rintro e w3 ⟨rfl, k3⟩
  have HK3 : Hid (Kp w w3 ∧ Nms g h vc w3) := ⟨kp_trans HK2.out.1 k3, HK2.out.2.kp k3⟩
  have cg : w3.cell? ⟨g, 9, none⟩ = some (.string ⟨#[118]⟩) := HK3.out.2.gi 9 _ rfl
  have ch : w3.cell? ⟨h, 9, none⟩ = some (.string ⟨#[118]⟩) := HK3.out.2.hi 9 _ rfl
  clear k3 HK2 H1
  go_wp2_with fail
  first | rw [HE.out] | skip
  refine Calls.mono (H2.out _ (Hg.out _ HK3.out.1)) ?_
  rintro e w4 ⟨ra, rc, da, dc, rfl, HA⟩
  clear H2 cg ch HE
  obtain ⟨q1, hq1⟩ : ∃ q, w4.heap.size = q := ⟨_, rfl⟩
  obtain ⟨V1, hV1⟩ : ∃ z, w4.alloc (.cells #[.slice none 0 0, .string ⟨#[]⟩, .bool false, .int .u8 0, .int .i64 0, .slice none 0 0, .string ⟨#[]⟩, .string ⟨#[]⟩, .string ⟨#[]⟩, .string ⟨#[]⟩] 27) = z := ⟨_, rfl⟩
  have HB : Hid (Lc 27 q1 zmC V1 ∧ Kp w V1 ∧ w.heap.size ≤ q1 ∧ Nms g h vc V1 ∧ w3.heap.size ≤ q1 ∧ Kp w3 V1) := by
    rw [← hV1, ← hq1]; exact ⟨box_new w4, kp_trans (kp_trans HK3.out.1 HA.out.2.2) (kp_alloc _ _), Nat.le_trans HK3.out.1.size HA.out.2.2.size, (HK3.out.2.kp HA.out.2.2).kp (kp_alloc _ _), HA.out.2.2.size, kp_trans HA.out.2.2 (kp_alloc _ _)⟩
  go_upto_region 20 with (refine wpList_store_box HB.out.1 0 (cmC { name := [118], pat := [120], arg := [112] } (.slice ra 0 rc) (.slice da 0 dc)) rfl 27 (.tmp 8) (.tmp 49) rfl rfl rfl (Nat.le_refl 10) sizeCmd (cmC_one _ _ _ _ _ _ _) rfl ?_; intro w5 x1 x2 x3; have HC : Hid (Lc 27 q1 (cmC { name := [118], pat := [120], arg := [112] } (.slice ra 0 rc) (.slice da 0 dc)) w5 ∧ Kp w w5 ∧ Nms g h vc w5) := ⟨x1, kp_on HB.out.2.1 x2 HB.out.2.2.1, HK3.out.2.kp (kp_on HB.out.2.2.2.2.2 x2 HB.out.2.2.2.2.1)⟩; clear x1 x2 x3)
  clear HA HB hq1 hV1 HK3 Hg
  have cg : w5.cell? ⟨g, 9, none⟩ = some (.string ⟨#[118]⟩) := HC.out.2.2.gi 9 _ rfl
  have ch : w5.cell? ⟨h, 9, none⟩ = some (.string ⟨#[118]⟩) := HC.out.2.2.hi 9 _ rfl
  have c0 : w5.cell? ⟨q1, 0, none⟩ = some (.slice ra 0 rc) := HC.out.1.at (j := 0) rfl
  have c1 : w5.cell? ⟨q1, 1, none⟩ = some (.string ⟨#[118]⟩) := HC.out.1.at (j := 1) rfl
  have c2 : w5.cell? ⟨q1, 2, none⟩ = some (.bool false) := HC.out.1.at (j := 2) rfl
  have HX : Hid (Kp w w5) := HC.out.2.1
  clear HC
  go_wp2_with fail
  go_ret
  exact ⟨rfl, HX.out⟩
theorem kn_10 : cmdL [110, 111, 114, 109, 32, 106] = (0, { name := [110, 111, 114, 109], arg := [106] }) := by decide +kernel
set_option maxHeartbeats 16000000 in
theorem nm_10 {k : Nat} (hk : k < 256) (hm : k % 16 = 10) (hw : Gs w) : Calls Tryz.prog 7 #[.int .u8 (k : Int)] w fun e w' => e = .returned (.bool true) ∧ Kp w w' := by
  have H0 : Hid (Calls Tryz.prog 16 #[] w fun e w' => ∃ v, e = .returned v ∧ Row w.heap.size v (gud.map nmR) w' ∧ Kp w w') := names_any hw
  have H1 : Hid (∀ z, Gs z → Calls Tryz.prog 11 #[] z fun e w' => e = .returned (.bool true) ∧ Kp z w') := fun z hz => known_any hz
  have H2 : Hid (∀ z, Gs z → Calls Tryz.prog 12 #[.string ⟨#[110, 111, 114, 109, 32, 106]⟩] z _) := fun z hz => parse_at ⟨#[110, 111, 114, 109, 32, 106]⟩ (by decide) kn_10 hz
  have HR : Hid (∀ z, Calls Tryz.prog 17 #[] z _) := fun z => rnames_any z
  have hx : (⟨#[110, 111, 114, 109]⟩ : ByteArray) ++ ⟨#[32, 106]⟩ = ⟨#[110, 111, 114, 109, 32, 106]⟩ := by decide +kernel
  have HE : Hid ((⟨#[110, 111, 114, 109]⟩ : ByteArray) ++ ⟨#[32, 106]⟩ = ⟨#[110, 111, 114, 109, 32, 106]⟩) := hx
  have Hg : Hid (∀ z, Kp w z → Gs z) := fun z k => hw.kp k
  have hm1 : ((k : Int)).tmod 16 = 10 := by rw [Int.tmod_eq_emod_of_nonneg (by omega)]; omega
  have hm2 : ((k : Int)) % 16 = 10 := by omega
  clear hw hx
  go_enter Tryz.func7, Tryz.ntmps7
  go_wp2_with fail
  refine Calls.mono H0.out ?_
  rintro e w1 ⟨v, rfl, hv, k1⟩
  obtain ⟨g, vc, rfl, hb⟩ := names_both hv
  have HK1 : Hid (Kp w w1 ∧ Nms g w1.heap.size vc (w1.alloc (.cells nmsA 9))) := ⟨k1, hb⟩
  clear H0 k1 hv hb
  go_wp2_with fail
  refine Calls.mono (HR.out _) ?_
  rintro e w2 ⟨rfl, rfl⟩
  obtain ⟨h, hh⟩ : ∃ h, w1.heap.size = h := ⟨_, rfl⟩
  obtain ⟨W2, hW2⟩ : ∃ z, w1.alloc (.cells nmsA 9) = z := ⟨_, rfl⟩
  have HK2 : Hid (Kp w W2 ∧ Nms g h vc W2) := by rw [← hW2, ← hh]; exact ⟨kp_trans HK1.out.1 (kp_alloc _ _), HK1.out.2⟩
  rw [hh, hW2]
  clear HK1 HR hh hW2
  go_wp2_with fail
  refine Calls.mono (H1.out _ (Hg.out _ HK2.out.1)) ?_
  rintro e w3 ⟨rfl, k3⟩
  have HK3 : Hid (Kp w w3 ∧ Nms g h vc w3) := ⟨kp_trans HK2.out.1 k3, HK2.out.2.kp k3⟩
  have cg : w3.cell? ⟨g, 10, none⟩ = some (.string ⟨#[110, 111, 114, 109]⟩) := HK3.out.2.gi 10 _ rfl
  have ch : w3.cell? ⟨h, 10, none⟩ = some (.string ⟨#[110, 111, 114, 109]⟩) := HK3.out.2.hi 10 _ rfl
  clear k3 HK2 H1
  go_wp2_with fail
  first | rw [HE.out] | skip
  refine Calls.mono (H2.out _ (Hg.out _ HK3.out.1)) ?_
  rintro e w4 ⟨ra, rc, da, dc, rfl, HA⟩
  clear H2 cg ch HE
  obtain ⟨q1, hq1⟩ : ∃ q, w4.heap.size = q := ⟨_, rfl⟩
  obtain ⟨V1, hV1⟩ : ∃ z, w4.alloc (.cells #[.slice none 0 0, .string ⟨#[]⟩, .bool false, .int .u8 0, .int .i64 0, .slice none 0 0, .string ⟨#[]⟩, .string ⟨#[]⟩, .string ⟨#[]⟩, .string ⟨#[]⟩] 27) = z := ⟨_, rfl⟩
  have HB : Hid (Lc 27 q1 zmC V1 ∧ Kp w V1 ∧ w.heap.size ≤ q1 ∧ Nms g h vc V1 ∧ w3.heap.size ≤ q1 ∧ Kp w3 V1) := by
    rw [← hV1, ← hq1]; exact ⟨box_new w4, kp_trans (kp_trans HK3.out.1 HA.out.2.2) (kp_alloc _ _), Nat.le_trans HK3.out.1.size HA.out.2.2.size, (HK3.out.2.kp HA.out.2.2).kp (kp_alloc _ _), HA.out.2.2.size, kp_trans HA.out.2.2 (kp_alloc _ _)⟩
  go_upto_region 20 with (refine wpList_store_box HB.out.1 0 (cmC { name := [110, 111, 114, 109], arg := [106] } (.slice ra 0 rc) (.slice da 0 dc)) rfl 27 (.tmp 8) (.tmp 49) rfl rfl rfl (Nat.le_refl 10) sizeCmd (cmC_one _ _ _ _ _ _ _) rfl ?_; intro w5 x1 x2 x3; have HC : Hid (Lc 27 q1 (cmC { name := [110, 111, 114, 109], arg := [106] } (.slice ra 0 rc) (.slice da 0 dc)) w5 ∧ Kp w w5 ∧ Nms g h vc w5) := ⟨x1, kp_on HB.out.2.1 x2 HB.out.2.2.1, HK3.out.2.kp (kp_on HB.out.2.2.2.2.2 x2 HB.out.2.2.2.2.1)⟩; clear x1 x2 x3)
  clear HA HB hq1 hV1 HK3 Hg
  have cg : w5.cell? ⟨g, 10, none⟩ = some (.string ⟨#[110, 111, 114, 109]⟩) := HC.out.2.2.gi 10 _ rfl
  have ch : w5.cell? ⟨h, 10, none⟩ = some (.string ⟨#[110, 111, 114, 109]⟩) := HC.out.2.2.hi 10 _ rfl
  have c0 : w5.cell? ⟨q1, 0, none⟩ = some (.slice ra 0 rc) := HC.out.1.at (j := 0) rfl
  have c1 : w5.cell? ⟨q1, 1, none⟩ = some (.string ⟨#[110, 111, 114, 109]⟩) := HC.out.1.at (j := 1) rfl
  have c2 : w5.cell? ⟨q1, 2, none⟩ = some (.bool false) := HC.out.1.at (j := 2) rfl
  have HX : Hid (Kp w w5) := HC.out.2.1
  clear HC
  go_wp2_with fail
  go_ret
  exact ⟨rfl, HX.out⟩
theorem kn_11 : cmdL [117] = (0, { name := [117] }) := by decide +kernel
set_option maxHeartbeats 16000000 in
theorem nm_11 {k : Nat} (hk : k < 256) (hm : k % 16 = 11) (hw : Gs w) : Calls Tryz.prog 7 #[.int .u8 (k : Int)] w fun e w' => e = .returned (.bool true) ∧ Kp w w' := by
  have H0 : Hid (Calls Tryz.prog 16 #[] w fun e w' => ∃ v, e = .returned v ∧ Row w.heap.size v (gud.map nmR) w' ∧ Kp w w') := names_any hw
  have H1 : Hid (∀ z, Gs z → Calls Tryz.prog 11 #[] z fun e w' => e = .returned (.bool true) ∧ Kp z w') := fun z hz => known_any hz
  have H2 : Hid (∀ z, Gs z → Calls Tryz.prog 12 #[.string ⟨#[117]⟩] z _) := fun z hz => parse_at ⟨#[117]⟩ (by decide) kn_11 hz
  have HR : Hid (∀ z, Calls Tryz.prog 17 #[] z _) := fun z => rnames_any z
  have hx : (⟨#[117]⟩ : ByteArray) ++ ⟨#[]⟩ = ⟨#[117]⟩ := by decide +kernel
  have HE : Hid ((⟨#[117]⟩ : ByteArray) ++ ⟨#[]⟩ = ⟨#[117]⟩) := hx
  have Hg : Hid (∀ z, Kp w z → Gs z) := fun z k => hw.kp k
  have hm1 : ((k : Int)).tmod 16 = 11 := by rw [Int.tmod_eq_emod_of_nonneg (by omega)]; omega
  have hm2 : ((k : Int)) % 16 = 11 := by omega
  clear hw hx
  go_enter Tryz.func7, Tryz.ntmps7
  go_wp2_with fail
  refine Calls.mono H0.out ?_
  rintro e w1 ⟨v, rfl, hv, k1⟩
  obtain ⟨g, vc, rfl, hb⟩ := names_both hv
  have HK1 : Hid (Kp w w1 ∧ Nms g w1.heap.size vc (w1.alloc (.cells nmsA 9))) := ⟨k1, hb⟩
  clear H0 k1 hv hb
  go_wp2_with fail
  refine Calls.mono (HR.out _) ?_
  rintro e w2 ⟨rfl, rfl⟩
  obtain ⟨h, hh⟩ : ∃ h, w1.heap.size = h := ⟨_, rfl⟩
  obtain ⟨W2, hW2⟩ : ∃ z, w1.alloc (.cells nmsA 9) = z := ⟨_, rfl⟩
  have HK2 : Hid (Kp w W2 ∧ Nms g h vc W2) := by rw [← hW2, ← hh]; exact ⟨kp_trans HK1.out.1 (kp_alloc _ _), HK1.out.2⟩
  rw [hh, hW2]
  clear HK1 HR hh hW2
  go_wp2_with fail
  refine Calls.mono (H1.out _ (Hg.out _ HK2.out.1)) ?_
  rintro e w3 ⟨rfl, k3⟩
  have HK3 : Hid (Kp w w3 ∧ Nms g h vc w3) := ⟨kp_trans HK2.out.1 k3, HK2.out.2.kp k3⟩
  have cg : w3.cell? ⟨g, 11, none⟩ = some (.string ⟨#[117]⟩) := HK3.out.2.gi 11 _ rfl
  have ch : w3.cell? ⟨h, 11, none⟩ = some (.string ⟨#[117]⟩) := HK3.out.2.hi 11 _ rfl
  clear k3 HK2 H1
  go_wp2_with fail
  first | rw [HE.out] | skip
  refine Calls.mono (H2.out _ (Hg.out _ HK3.out.1)) ?_
  rintro e w4 ⟨ra, rc, da, dc, rfl, HA⟩
  clear H2 cg ch HE
  obtain ⟨q1, hq1⟩ : ∃ q, w4.heap.size = q := ⟨_, rfl⟩
  obtain ⟨V1, hV1⟩ : ∃ z, w4.alloc (.cells #[.slice none 0 0, .string ⟨#[]⟩, .bool false, .int .u8 0, .int .i64 0, .slice none 0 0, .string ⟨#[]⟩, .string ⟨#[]⟩, .string ⟨#[]⟩, .string ⟨#[]⟩] 27) = z := ⟨_, rfl⟩
  have HB : Hid (Lc 27 q1 zmC V1 ∧ Kp w V1 ∧ w.heap.size ≤ q1 ∧ Nms g h vc V1 ∧ w3.heap.size ≤ q1 ∧ Kp w3 V1) := by
    rw [← hV1, ← hq1]; exact ⟨box_new w4, kp_trans (kp_trans HK3.out.1 HA.out.2.2) (kp_alloc _ _), Nat.le_trans HK3.out.1.size HA.out.2.2.size, (HK3.out.2.kp HA.out.2.2).kp (kp_alloc _ _), HA.out.2.2.size, kp_trans HA.out.2.2 (kp_alloc _ _)⟩
  go_upto_region 20 with (refine wpList_store_box HB.out.1 0 (cmC { name := [117] } (.slice ra 0 rc) (.slice da 0 dc)) rfl 27 (.tmp 8) (.tmp 49) rfl rfl rfl (Nat.le_refl 10) sizeCmd (cmC_one _ _ _ _ _ _ _) rfl ?_; intro w5 x1 x2 x3; have HC : Hid (Lc 27 q1 (cmC { name := [117] } (.slice ra 0 rc) (.slice da 0 dc)) w5 ∧ Kp w w5 ∧ Nms g h vc w5) := ⟨x1, kp_on HB.out.2.1 x2 HB.out.2.2.1, HK3.out.2.kp (kp_on HB.out.2.2.2.2.2 x2 HB.out.2.2.2.2.1)⟩; clear x1 x2 x3)
  clear HA HB hq1 hV1 HK3 Hg
  have cg : w5.cell? ⟨g, 11, none⟩ = some (.string ⟨#[117]⟩) := HC.out.2.2.gi 11 _ rfl
  have ch : w5.cell? ⟨h, 11, none⟩ = some (.string ⟨#[117]⟩) := HC.out.2.2.hi 11 _ rfl
  have c0 : w5.cell? ⟨q1, 0, none⟩ = some (.slice ra 0 rc) := HC.out.1.at (j := 0) rfl
  have c1 : w5.cell? ⟨q1, 1, none⟩ = some (.string ⟨#[117]⟩) := HC.out.1.at (j := 1) rfl
  have c2 : w5.cell? ⟨q1, 2, none⟩ = some (.bool false) := HC.out.1.at (j := 2) rfl
  have HX : Hid (Kp w w5) := HC.out.2.1
  clear HC
  go_wp2_with fail
  go_ret
  exact ⟨rfl, HX.out⟩
end
end Go.Proofs.YtfgapmfjfienhaaGreatDoor
/- CmdNames: the walk, cases 12 to 15. -/
namespace Go.Proofs.YtfgapmfjfienhaaGreatDoor
open Go.ChangeShapes Go.WideShapes Go.ChangeAt Go.RowKit Go.Maps Go.MapKept
set_option linter.unusedVariables false
set_option linter.unusedSimpArgs false
set_option maxRecDepth 100000
section
variable {w : World}
theorem kn_12 : cmdL [114, 101, 100] = (0, { name := [114, 101, 100] }) := by decide +kernel
set_option maxHeartbeats 16000000 in
theorem nm_12 {k : Nat} (hk : k < 256) (hm : k % 16 = 12) (hw : Gs w) : Calls Tryz.prog 7 #[.int .u8 (k : Int)] w fun e w' => e = .returned (.bool true) ∧ Kp w w' := by
  have H0 : Hid (Calls Tryz.prog 16 #[] w fun e w' => ∃ v, e = .returned v ∧ Row w.heap.size v (gud.map nmR) w' ∧ Kp w w') := names_any hw
  have H1 : Hid (∀ z, Gs z → Calls Tryz.prog 11 #[] z fun e w' => e = .returned (.bool true) ∧ Kp z w') := fun z hz => known_any hz
  have H2 : Hid (∀ z, Gs z → Calls Tryz.prog 12 #[.string ⟨#[114, 101, 100]⟩] z _) := fun z hz => parse_at ⟨#[114, 101, 100]⟩ (by decide) kn_12 hz
  have HR : Hid (∀ z, Calls Tryz.prog 17 #[] z _) := fun z => rnames_any z
  have hx : (⟨#[114, 101, 100]⟩ : ByteArray) ++ ⟨#[]⟩ = ⟨#[114, 101, 100]⟩ := by decide +kernel
  have HE : Hid ((⟨#[114, 101, 100]⟩ : ByteArray) ++ ⟨#[]⟩ = ⟨#[114, 101, 100]⟩) := hx
  have Hg : Hid (∀ z, Kp w z → Gs z) := fun z k => hw.kp k
  have hm1 : ((k : Int)).tmod 16 = 12 := by rw [Int.tmod_eq_emod_of_nonneg (by omega)]; omega
  have hm2 : ((k : Int)) % 16 = 12 := by omega
  clear hw hx
  go_enter Tryz.func7, Tryz.ntmps7
  go_wp2_with fail
  refine Calls.mono H0.out ?_
  rintro e w1 ⟨v, rfl, hv, k1⟩
  obtain ⟨g, vc, rfl, hb⟩ := names_both hv
  have HK1 : Hid (Kp w w1 ∧ Nms g w1.heap.size vc (w1.alloc (.cells nmsA 9))) := ⟨k1, hb⟩
  clear H0 k1 hv hb
  go_wp2_with fail
  refine Calls.mono (HR.out _) ?_
  rintro e w2 ⟨rfl, rfl⟩
  obtain ⟨h, hh⟩ : ∃ h, w1.heap.size = h := ⟨_, rfl⟩
  obtain ⟨W2, hW2⟩ : ∃ z, w1.alloc (.cells nmsA 9) = z := ⟨_, rfl⟩
  have HK2 : Hid (Kp w W2 ∧ Nms g h vc W2) := by rw [← hW2, ← hh]; exact ⟨kp_trans HK1.out.1 (kp_alloc _ _), HK1.out.2⟩
  rw [hh, hW2]
  clear HK1 HR hh hW2
  go_wp2_with fail
  refine Calls.mono (H1.out _ (Hg.out _ HK2.out.1)) ?_
  rintro e w3 ⟨rfl, k3⟩
  have HK3 : Hid (Kp w w3 ∧ Nms g h vc w3) := ⟨kp_trans HK2.out.1 k3, HK2.out.2.kp k3⟩
  have cg : w3.cell? ⟨g, 12, none⟩ = some (.string ⟨#[114, 101, 100]⟩) := HK3.out.2.gi 12 _ rfl
  have ch : w3.cell? ⟨h, 12, none⟩ = some (.string ⟨#[114, 101, 100]⟩) := HK3.out.2.hi 12 _ rfl
  clear k3 HK2 H1
  go_wp2_with fail
  first | rw [HE.out] | skip
  refine Calls.mono (H2.out _ (Hg.out _ HK3.out.1)) ?_
  rintro e w4 ⟨ra, rc, da, dc, rfl, HA⟩
  clear H2 cg ch HE
  obtain ⟨q1, hq1⟩ : ∃ q, w4.heap.size = q := ⟨_, rfl⟩
  obtain ⟨V1, hV1⟩ : ∃ z, w4.alloc (.cells #[.slice none 0 0, .string ⟨#[]⟩, .bool false, .int .u8 0, .int .i64 0, .slice none 0 0, .string ⟨#[]⟩, .string ⟨#[]⟩, .string ⟨#[]⟩, .string ⟨#[]⟩] 27) = z := ⟨_, rfl⟩
  have HB : Hid (Lc 27 q1 zmC V1 ∧ Kp w V1 ∧ w.heap.size ≤ q1 ∧ Nms g h vc V1 ∧ w3.heap.size ≤ q1 ∧ Kp w3 V1) := by
    rw [← hV1, ← hq1]; exact ⟨box_new w4, kp_trans (kp_trans HK3.out.1 HA.out.2.2) (kp_alloc _ _), Nat.le_trans HK3.out.1.size HA.out.2.2.size, (HK3.out.2.kp HA.out.2.2).kp (kp_alloc _ _), HA.out.2.2.size, kp_trans HA.out.2.2 (kp_alloc _ _)⟩
  go_upto_region 20 with (refine wpList_store_box HB.out.1 0 (cmC { name := [114, 101, 100] } (.slice ra 0 rc) (.slice da 0 dc)) rfl 27 (.tmp 8) (.tmp 49) rfl rfl rfl (Nat.le_refl 10) sizeCmd (cmC_one _ _ _ _ _ _ _) rfl ?_; intro w5 x1 x2 x3; have HC : Hid (Lc 27 q1 (cmC { name := [114, 101, 100] } (.slice ra 0 rc) (.slice da 0 dc)) w5 ∧ Kp w w5 ∧ Nms g h vc w5) := ⟨x1, kp_on HB.out.2.1 x2 HB.out.2.2.1, HK3.out.2.kp (kp_on HB.out.2.2.2.2.2 x2 HB.out.2.2.2.2.1)⟩; clear x1 x2 x3)
  clear HA HB hq1 hV1 HK3 Hg
  have cg : w5.cell? ⟨g, 12, none⟩ = some (.string ⟨#[114, 101, 100]⟩) := HC.out.2.2.gi 12 _ rfl
  have ch : w5.cell? ⟨h, 12, none⟩ = some (.string ⟨#[114, 101, 100]⟩) := HC.out.2.2.hi 12 _ rfl
  have c0 : w5.cell? ⟨q1, 0, none⟩ = some (.slice ra 0 rc) := HC.out.1.at (j := 0) rfl
  have c1 : w5.cell? ⟨q1, 1, none⟩ = some (.string ⟨#[114, 101, 100]⟩) := HC.out.1.at (j := 1) rfl
  have c2 : w5.cell? ⟨q1, 2, none⟩ = some (.bool false) := HC.out.1.at (j := 2) rfl
  have HX : Hid (Kp w w5) := HC.out.2.1
  clear HC
  go_wp2_with fail
  go_ret
  exact ⟨rfl, HX.out⟩
theorem kn_13 : cmdL [101, 97, 114, 108, 105, 101, 114] = (0, { name := [101, 97, 114, 108, 105, 101, 114] }) := by decide +kernel
set_option maxHeartbeats 16000000 in
theorem nm_13 {k : Nat} (hk : k < 256) (hm : k % 16 = 13) (hw : Gs w) : Calls Tryz.prog 7 #[.int .u8 (k : Int)] w fun e w' => e = .returned (.bool true) ∧ Kp w w' := by
  have H0 : Hid (Calls Tryz.prog 16 #[] w fun e w' => ∃ v, e = .returned v ∧ Row w.heap.size v (gud.map nmR) w' ∧ Kp w w') := names_any hw
  have H1 : Hid (∀ z, Gs z → Calls Tryz.prog 11 #[] z fun e w' => e = .returned (.bool true) ∧ Kp z w') := fun z hz => known_any hz
  have H2 : Hid (∀ z, Gs z → Calls Tryz.prog 12 #[.string ⟨#[101, 97, 114, 108, 105, 101, 114]⟩] z _) := fun z hz => parse_at ⟨#[101, 97, 114, 108, 105, 101, 114]⟩ (by decide) kn_13 hz
  have HR : Hid (∀ z, Calls Tryz.prog 17 #[] z _) := fun z => rnames_any z
  have hx : (⟨#[101, 97, 114, 108, 105, 101, 114]⟩ : ByteArray) ++ ⟨#[]⟩ = ⟨#[101, 97, 114, 108, 105, 101, 114]⟩ := by decide +kernel
  have HE : Hid ((⟨#[101, 97, 114, 108, 105, 101, 114]⟩ : ByteArray) ++ ⟨#[]⟩ = ⟨#[101, 97, 114, 108, 105, 101, 114]⟩) := hx
  have Hg : Hid (∀ z, Kp w z → Gs z) := fun z k => hw.kp k
  have hm1 : ((k : Int)).tmod 16 = 13 := by rw [Int.tmod_eq_emod_of_nonneg (by omega)]; omega
  have hm2 : ((k : Int)) % 16 = 13 := by omega
  clear hw hx
  go_enter Tryz.func7, Tryz.ntmps7
  go_wp2_with fail
  refine Calls.mono H0.out ?_
  rintro e w1 ⟨v, rfl, hv, k1⟩
  obtain ⟨g, vc, rfl, hb⟩ := names_both hv
  have HK1 : Hid (Kp w w1 ∧ Nms g w1.heap.size vc (w1.alloc (.cells nmsA 9))) := ⟨k1, hb⟩
  clear H0 k1 hv hb
  go_wp2_with fail
  refine Calls.mono (HR.out _) ?_
  rintro e w2 ⟨rfl, rfl⟩
  obtain ⟨h, hh⟩ : ∃ h, w1.heap.size = h := ⟨_, rfl⟩
  obtain ⟨W2, hW2⟩ : ∃ z, w1.alloc (.cells nmsA 9) = z := ⟨_, rfl⟩
  have HK2 : Hid (Kp w W2 ∧ Nms g h vc W2) := by rw [← hW2, ← hh]; exact ⟨kp_trans HK1.out.1 (kp_alloc _ _), HK1.out.2⟩
  rw [hh, hW2]
  clear HK1 HR hh hW2
  go_wp2_with fail
  refine Calls.mono (H1.out _ (Hg.out _ HK2.out.1)) ?_
  rintro e w3 ⟨rfl, k3⟩
  have HK3 : Hid (Kp w w3 ∧ Nms g h vc w3) := ⟨kp_trans HK2.out.1 k3, HK2.out.2.kp k3⟩
  have cg : w3.cell? ⟨g, 13, none⟩ = some (.string ⟨#[101, 97, 114, 108, 105, 101, 114]⟩) := HK3.out.2.gi 13 _ rfl
  have ch : w3.cell? ⟨h, 13, none⟩ = some (.string ⟨#[101, 97, 114, 108, 105, 101, 114]⟩) := HK3.out.2.hi 13 _ rfl
  clear k3 HK2 H1
  go_wp2_with fail
  first | rw [HE.out] | skip
  refine Calls.mono (H2.out _ (Hg.out _ HK3.out.1)) ?_
  rintro e w4 ⟨ra, rc, da, dc, rfl, HA⟩
  clear H2 cg ch HE
  obtain ⟨q1, hq1⟩ : ∃ q, w4.heap.size = q := ⟨_, rfl⟩
  obtain ⟨V1, hV1⟩ : ∃ z, w4.alloc (.cells #[.slice none 0 0, .string ⟨#[]⟩, .bool false, .int .u8 0, .int .i64 0, .slice none 0 0, .string ⟨#[]⟩, .string ⟨#[]⟩, .string ⟨#[]⟩, .string ⟨#[]⟩] 27) = z := ⟨_, rfl⟩
  have HB : Hid (Lc 27 q1 zmC V1 ∧ Kp w V1 ∧ w.heap.size ≤ q1 ∧ Nms g h vc V1 ∧ w3.heap.size ≤ q1 ∧ Kp w3 V1) := by
    rw [← hV1, ← hq1]; exact ⟨box_new w4, kp_trans (kp_trans HK3.out.1 HA.out.2.2) (kp_alloc _ _), Nat.le_trans HK3.out.1.size HA.out.2.2.size, (HK3.out.2.kp HA.out.2.2).kp (kp_alloc _ _), HA.out.2.2.size, kp_trans HA.out.2.2 (kp_alloc _ _)⟩
  go_upto_region 20 with (refine wpList_store_box HB.out.1 0 (cmC { name := [101, 97, 114, 108, 105, 101, 114] } (.slice ra 0 rc) (.slice da 0 dc)) rfl 27 (.tmp 8) (.tmp 49) rfl rfl rfl (Nat.le_refl 10) sizeCmd (cmC_one _ _ _ _ _ _ _) rfl ?_; intro w5 x1 x2 x3; have HC : Hid (Lc 27 q1 (cmC { name := [101, 97, 114, 108, 105, 101, 114] } (.slice ra 0 rc) (.slice da 0 dc)) w5 ∧ Kp w w5 ∧ Nms g h vc w5) := ⟨x1, kp_on HB.out.2.1 x2 HB.out.2.2.1, HK3.out.2.kp (kp_on HB.out.2.2.2.2.2 x2 HB.out.2.2.2.2.1)⟩; clear x1 x2 x3)
  clear HA HB hq1 hV1 HK3 Hg
  have cg : w5.cell? ⟨g, 13, none⟩ = some (.string ⟨#[101, 97, 114, 108, 105, 101, 114]⟩) := HC.out.2.2.gi 13 _ rfl
  have ch : w5.cell? ⟨h, 13, none⟩ = some (.string ⟨#[101, 97, 114, 108, 105, 101, 114]⟩) := HC.out.2.2.hi 13 _ rfl
  have c0 : w5.cell? ⟨q1, 0, none⟩ = some (.slice ra 0 rc) := HC.out.1.at (j := 0) rfl
  have c1 : w5.cell? ⟨q1, 1, none⟩ = some (.string ⟨#[101, 97, 114, 108, 105, 101, 114]⟩) := HC.out.1.at (j := 1) rfl
  have c2 : w5.cell? ⟨q1, 2, none⟩ = some (.bool false) := HC.out.1.at (j := 2) rfl
  have HX : Hid (Kp w w5) := HC.out.2.1
  clear HC
  go_wp2_with fail
  go_ret
  exact ⟨rfl, HX.out⟩
theorem kn_14 : cmdL [108, 97, 116, 101, 114] = (0, { name := [108, 97, 116, 101, 114] }) := by decide +kernel
set_option maxHeartbeats 16000000 in
theorem nm_14 {k : Nat} (hk : k < 256) (hm : k % 16 = 14) (hw : Gs w) : Calls Tryz.prog 7 #[.int .u8 (k : Int)] w fun e w' => e = .returned (.bool true) ∧ Kp w w' := by
  have H0 : Hid (Calls Tryz.prog 16 #[] w fun e w' => ∃ v, e = .returned v ∧ Row w.heap.size v (gud.map nmR) w' ∧ Kp w w') := names_any hw
  have H1 : Hid (∀ z, Gs z → Calls Tryz.prog 11 #[] z fun e w' => e = .returned (.bool true) ∧ Kp z w') := fun z hz => known_any hz
  have H2 : Hid (∀ z, Gs z → Calls Tryz.prog 12 #[.string ⟨#[108, 97, 116, 101, 114]⟩] z _) := fun z hz => parse_at ⟨#[108, 97, 116, 101, 114]⟩ (by decide) kn_14 hz
  have HR : Hid (∀ z, Calls Tryz.prog 17 #[] z _) := fun z => rnames_any z
  have hx : (⟨#[108, 97, 116, 101, 114]⟩ : ByteArray) ++ ⟨#[]⟩ = ⟨#[108, 97, 116, 101, 114]⟩ := by decide +kernel
  have HE : Hid ((⟨#[108, 97, 116, 101, 114]⟩ : ByteArray) ++ ⟨#[]⟩ = ⟨#[108, 97, 116, 101, 114]⟩) := hx
  have Hg : Hid (∀ z, Kp w z → Gs z) := fun z k => hw.kp k
  have hm1 : ((k : Int)).tmod 16 = 14 := by rw [Int.tmod_eq_emod_of_nonneg (by omega)]; omega
  have hm2 : ((k : Int)) % 16 = 14 := by omega
  clear hw hx
  go_enter Tryz.func7, Tryz.ntmps7
  go_wp2_with fail
  refine Calls.mono H0.out ?_
  rintro e w1 ⟨v, rfl, hv, k1⟩
  obtain ⟨g, vc, rfl, hb⟩ := names_both hv
  have HK1 : Hid (Kp w w1 ∧ Nms g w1.heap.size vc (w1.alloc (.cells nmsA 9))) := ⟨k1, hb⟩
  clear H0 k1 hv hb
  go_wp2_with fail
  refine Calls.mono (HR.out _) ?_
  rintro e w2 ⟨rfl, rfl⟩
  obtain ⟨h, hh⟩ : ∃ h, w1.heap.size = h := ⟨_, rfl⟩
  obtain ⟨W2, hW2⟩ : ∃ z, w1.alloc (.cells nmsA 9) = z := ⟨_, rfl⟩
  have HK2 : Hid (Kp w W2 ∧ Nms g h vc W2) := by rw [← hW2, ← hh]; exact ⟨kp_trans HK1.out.1 (kp_alloc _ _), HK1.out.2⟩
  rw [hh, hW2]
  clear HK1 HR hh hW2
  go_wp2_with fail
  refine Calls.mono (H1.out _ (Hg.out _ HK2.out.1)) ?_
  rintro e w3 ⟨rfl, k3⟩
  have HK3 : Hid (Kp w w3 ∧ Nms g h vc w3) := ⟨kp_trans HK2.out.1 k3, HK2.out.2.kp k3⟩
  have cg : w3.cell? ⟨g, 14, none⟩ = some (.string ⟨#[108, 97, 116, 101, 114]⟩) := HK3.out.2.gi 14 _ rfl
  have ch : w3.cell? ⟨h, 14, none⟩ = some (.string ⟨#[108, 97, 116, 101, 114]⟩) := HK3.out.2.hi 14 _ rfl
  clear k3 HK2 H1
  go_wp2_with fail
  first | rw [HE.out] | skip
  refine Calls.mono (H2.out _ (Hg.out _ HK3.out.1)) ?_
  rintro e w4 ⟨ra, rc, da, dc, rfl, HA⟩
  clear H2 cg ch HE
  obtain ⟨q1, hq1⟩ : ∃ q, w4.heap.size = q := ⟨_, rfl⟩
  obtain ⟨V1, hV1⟩ : ∃ z, w4.alloc (.cells #[.slice none 0 0, .string ⟨#[]⟩, .bool false, .int .u8 0, .int .i64 0, .slice none 0 0, .string ⟨#[]⟩, .string ⟨#[]⟩, .string ⟨#[]⟩, .string ⟨#[]⟩] 27) = z := ⟨_, rfl⟩
  have HB : Hid (Lc 27 q1 zmC V1 ∧ Kp w V1 ∧ w.heap.size ≤ q1 ∧ Nms g h vc V1 ∧ w3.heap.size ≤ q1 ∧ Kp w3 V1) := by
    rw [← hV1, ← hq1]; exact ⟨box_new w4, kp_trans (kp_trans HK3.out.1 HA.out.2.2) (kp_alloc _ _), Nat.le_trans HK3.out.1.size HA.out.2.2.size, (HK3.out.2.kp HA.out.2.2).kp (kp_alloc _ _), HA.out.2.2.size, kp_trans HA.out.2.2 (kp_alloc _ _)⟩
  go_upto_region 20 with (refine wpList_store_box HB.out.1 0 (cmC { name := [108, 97, 116, 101, 114] } (.slice ra 0 rc) (.slice da 0 dc)) rfl 27 (.tmp 8) (.tmp 49) rfl rfl rfl (Nat.le_refl 10) sizeCmd (cmC_one _ _ _ _ _ _ _) rfl ?_; intro w5 x1 x2 x3; have HC : Hid (Lc 27 q1 (cmC { name := [108, 97, 116, 101, 114] } (.slice ra 0 rc) (.slice da 0 dc)) w5 ∧ Kp w w5 ∧ Nms g h vc w5) := ⟨x1, kp_on HB.out.2.1 x2 HB.out.2.2.1, HK3.out.2.kp (kp_on HB.out.2.2.2.2.2 x2 HB.out.2.2.2.2.1)⟩; clear x1 x2 x3)
  clear HA HB hq1 hV1 HK3 Hg
  have cg : w5.cell? ⟨g, 14, none⟩ = some (.string ⟨#[108, 97, 116, 101, 114]⟩) := HC.out.2.2.gi 14 _ rfl
  have ch : w5.cell? ⟨h, 14, none⟩ = some (.string ⟨#[108, 97, 116, 101, 114]⟩) := HC.out.2.2.hi 14 _ rfl
  have c0 : w5.cell? ⟨q1, 0, none⟩ = some (.slice ra 0 rc) := HC.out.1.at (j := 0) rfl
  have c1 : w5.cell? ⟨q1, 1, none⟩ = some (.string ⟨#[108, 97, 116, 101, 114]⟩) := HC.out.1.at (j := 1) rfl
  have c2 : w5.cell? ⟨q1, 2, none⟩ = some (.bool false) := HC.out.1.at (j := 2) rfl
  have HX : Hid (Kp w w5) := HC.out.2.1
  clear HC
  go_wp2_with fail
  go_ret
  exact ⟨rfl, HX.out⟩
theorem kn_15 : cmdL [112] = (0, { name := [112] }) := by decide +kernel
set_option maxHeartbeats 16000000 in
theorem nm_15 {k : Nat} (hk : k < 256) (hm : k % 16 = 15) (hw : Gs w) : Calls Tryz.prog 7 #[.int .u8 (k : Int)] w fun e w' => e = .returned (.bool true) ∧ Kp w w' := by
  have H0 : Hid (Calls Tryz.prog 16 #[] w fun e w' => ∃ v, e = .returned v ∧ Row w.heap.size v (gud.map nmR) w' ∧ Kp w w') := names_any hw
  have H1 : Hid (∀ z, Gs z → Calls Tryz.prog 11 #[] z fun e w' => e = .returned (.bool true) ∧ Kp z w') := fun z hz => known_any hz
  have H2 : Hid (∀ z, Gs z → Calls Tryz.prog 12 #[.string ⟨#[112]⟩] z _) := fun z hz => parse_at ⟨#[112]⟩ (by decide) kn_15 hz
  have HR : Hid (∀ z, Calls Tryz.prog 17 #[] z _) := fun z => rnames_any z
  have hx : (⟨#[112]⟩ : ByteArray) ++ ⟨#[]⟩ = ⟨#[112]⟩ := by decide +kernel
  have HE : Hid ((⟨#[112]⟩ : ByteArray) ++ ⟨#[]⟩ = ⟨#[112]⟩) := hx
  have Hg : Hid (∀ z, Kp w z → Gs z) := fun z k => hw.kp k
  have hm1 : ((k : Int)).tmod 16 = 15 := by rw [Int.tmod_eq_emod_of_nonneg (by omega)]; omega
  have hm2 : ((k : Int)) % 16 = 15 := by omega
  clear hw hx
  go_enter Tryz.func7, Tryz.ntmps7
  go_wp2_with fail
  refine Calls.mono H0.out ?_
  rintro e w1 ⟨v, rfl, hv, k1⟩
  obtain ⟨g, vc, rfl, hb⟩ := names_both hv
  have HK1 : Hid (Kp w w1 ∧ Nms g w1.heap.size vc (w1.alloc (.cells nmsA 9))) := ⟨k1, hb⟩
  clear H0 k1 hv hb
  go_wp2_with fail
  refine Calls.mono (HR.out _) ?_
  rintro e w2 ⟨rfl, rfl⟩
  obtain ⟨h, hh⟩ : ∃ h, w1.heap.size = h := ⟨_, rfl⟩
  obtain ⟨W2, hW2⟩ : ∃ z, w1.alloc (.cells nmsA 9) = z := ⟨_, rfl⟩
  have HK2 : Hid (Kp w W2 ∧ Nms g h vc W2) := by rw [← hW2, ← hh]; exact ⟨kp_trans HK1.out.1 (kp_alloc _ _), HK1.out.2⟩
  rw [hh, hW2]
  clear HK1 HR hh hW2
  go_wp2_with fail
  refine Calls.mono (H1.out _ (Hg.out _ HK2.out.1)) ?_
  rintro e w3 ⟨rfl, k3⟩
  have HK3 : Hid (Kp w w3 ∧ Nms g h vc w3) := ⟨kp_trans HK2.out.1 k3, HK2.out.2.kp k3⟩
  have cg : w3.cell? ⟨g, 15, none⟩ = some (.string ⟨#[112]⟩) := HK3.out.2.gi 15 _ rfl
  have ch : w3.cell? ⟨h, 15, none⟩ = some (.string ⟨#[112]⟩) := HK3.out.2.hi 15 _ rfl
  clear k3 HK2 H1
  go_wp2_with fail
  first | rw [HE.out] | skip
  refine Calls.mono (H2.out _ (Hg.out _ HK3.out.1)) ?_
  rintro e w4 ⟨ra, rc, da, dc, rfl, HA⟩
  clear H2 cg ch HE
  obtain ⟨q1, hq1⟩ : ∃ q, w4.heap.size = q := ⟨_, rfl⟩
  obtain ⟨V1, hV1⟩ : ∃ z, w4.alloc (.cells #[.slice none 0 0, .string ⟨#[]⟩, .bool false, .int .u8 0, .int .i64 0, .slice none 0 0, .string ⟨#[]⟩, .string ⟨#[]⟩, .string ⟨#[]⟩, .string ⟨#[]⟩] 27) = z := ⟨_, rfl⟩
  have HB : Hid (Lc 27 q1 zmC V1 ∧ Kp w V1 ∧ w.heap.size ≤ q1 ∧ Nms g h vc V1 ∧ w3.heap.size ≤ q1 ∧ Kp w3 V1) := by
    rw [← hV1, ← hq1]; exact ⟨box_new w4, kp_trans (kp_trans HK3.out.1 HA.out.2.2) (kp_alloc _ _), Nat.le_trans HK3.out.1.size HA.out.2.2.size, (HK3.out.2.kp HA.out.2.2).kp (kp_alloc _ _), HA.out.2.2.size, kp_trans HA.out.2.2 (kp_alloc _ _)⟩
  go_upto_region 20 with (refine wpList_store_box HB.out.1 0 (cmC { name := [112] } (.slice ra 0 rc) (.slice da 0 dc)) rfl 27 (.tmp 8) (.tmp 49) rfl rfl rfl (Nat.le_refl 10) sizeCmd (cmC_one _ _ _ _ _ _ _) rfl ?_; intro w5 x1 x2 x3; have HC : Hid (Lc 27 q1 (cmC { name := [112] } (.slice ra 0 rc) (.slice da 0 dc)) w5 ∧ Kp w w5 ∧ Nms g h vc w5) := ⟨x1, kp_on HB.out.2.1 x2 HB.out.2.2.1, HK3.out.2.kp (kp_on HB.out.2.2.2.2.2 x2 HB.out.2.2.2.2.1)⟩; clear x1 x2 x3)
  clear HA HB hq1 hV1 HK3 Hg
  have cg : w5.cell? ⟨g, 15, none⟩ = some (.string ⟨#[112]⟩) := HC.out.2.2.gi 15 _ rfl
  have ch : w5.cell? ⟨h, 15, none⟩ = some (.string ⟨#[112]⟩) := HC.out.2.2.hi 15 _ rfl
  have c0 : w5.cell? ⟨q1, 0, none⟩ = some (.slice ra 0 rc) := HC.out.1.at (j := 0) rfl
  have c1 : w5.cell? ⟨q1, 1, none⟩ = some (.string ⟨#[112]⟩) := HC.out.1.at (j := 1) rfl
  have c2 : w5.cell? ⟨q1, 2, none⟩ = some (.bool false) := HC.out.1.at (j := 2) rfl
  have HX : Hid (Kp w w5) := HC.out.2.1
  clear HC
  go_wp2_with fail
  go_ret
  exact ⟨rfl, HX.out⟩
end
end Go.Proofs.YtfgapmfjfienhaaGreatDoor
/- CmdNames: the walk. -/
namespace Go.Proofs.YtfgapmfjfienhaaGreatDoor
open Go.ChangeShapes Go.WideShapes Go.ChangeAt Go.RowKit Go.Maps Go.MapKept
theorem names_law (k : Nat) (hk : k < 256) {w : World} (hw : Gs w) : Calls Tryz.prog 7 #[.int .u8 (k : Int)] w fun e w' => e = .returned (.bool true) ∧ Kp w w' := by
  have h : k % 16 < 16 := Nat.mod_lt _ (by decide)
  rcases (show k % 16 = 0 ∨ k % 16 = 1 ∨ k % 16 = 2 ∨ k % 16 = 3 ∨ k % 16 = 4 ∨ k % 16 = 5 ∨ k % 16 = 6 ∨ k % 16 = 7 ∨ k % 16 = 8 ∨ k % 16 = 9 ∨ k % 16 = 10 ∨ k % 16 = 11 ∨ k % 16 = 12 ∨ k % 16 = 13 ∨ k % 16 = 14 ∨ k % 16 = 15 by omega) with q | q | q | q | q | q | q | q | q | q | q | q | q | q | q | q
  · exact nm_0 hk q hw
  · exact nm_1 hk q hw
  · exact nm_2 hk q hw
  · exact nm_3 hk q hw
  · exact nm_4 hk q hw
  · exact nm_5 hk q hw
  · exact nm_6 hk q hw
  · exact nm_7 hk q hw
  · exact nm_8 hk q hw
  · exact nm_9 hk q hw
  · exact nm_10 hk q hw
  · exact nm_11 hk q hw
  · exact nm_12 hk q hw
  · exact nm_13 hk q hw
  · exact nm_14 hk q hw
  · exact nm_15 hk q hw
end Go.Proofs.YtfgapmfjfienhaaGreatDoor
