/- The tree's call Shape. -/
import Derived.Test.YtfnhbjokokjhfaaShape1
import Derived.Laws.AppendOwnNone
namespace Go.Proofs.Ytfnhbjokokjhfaa
open Go.ChangeShapes Go.WideShapes Go.ChangeAt Go.RowKit
def lenV : Value → Nat
  | .slice _ n _ => n
  | _ => 0
/-- What Shape has made. -/
def Shaped (w : World) (n : Nat) (v : Value) (w' : World) : Prop := ∃ p wss svs, ShI p w w' v wss svs ∧ Shp wss n
def LvR (w : World) (s : St) (d : Nat) (ls : List ByteArray) (v3 v4 : Value) (wr : World) : Prop :=
  ∃ p wss svs lv, ShI p w wr v3 wss svs ∧ Row p wr .nodes 3 1 v4 lv.length (nums lv) ∧ lv.length < 2 ^ 31 ∧ ((lv = [] ∧ Shp wss ls.length) ∨ (lv ≠ [] ∧ ∃ dd js, wss.length + dd = d ∧ Lev s wss lv ∧ All (Sub s dd) lv ls js))
def InR (w : World) (s : St) (v3 : Value) (wss : List (List Nat)) (svs : List Value) (v4 : Value) (lv : List Nat) (v5 v6 : Value) (j : Nat) (wr : World) : Prop :=
  ∃ p, ShJ p w wr v3 wss svs v4 lv v5 ((lv.take j).map s.wid) v6 ((lv.take j).flatMap s.kidsOf)
theorem rnilE {p : Own} {w : World} {g : Tag} {e : TypeId} : Row p w g e 1 (.slice none 0 0) 0 [] := ⟨World.ownsRow_nil _ _ _ _, fun k hk => by simp [Value.ownBlock] at hk⟩
section
variable {p : Own} {w wr w1 : World} {v3 v4 v5 v6 : Value} {wss : List (List Nat)} {svs : List Value} {lv hs nx : List Nat}
theorem news_one {W : World} {x : Value} {e : TypeId} {H : Nat} (hH : W.heap.size = H) : ∀ (j : Nat) u, ([x] : List Value)[j]? = some u → (W.alloc (.cells #[x] e)).cell? ((⟨H, 0, none⟩ : Addr).add j) = some u := by
  intro j u hj
  subst hH
  rw [Addr.add_lit, cell_at (alloc_new W _), Nat.zero_add, ← hj]
  match j with
  | 0 => rfl
  | j + 1 => simp
theorem inner5 (hJ : ShJ p w wr v3 wss svs v4 lv v5 hs v6 nx) (q x : Nat) :
    ((wr.drewN q).alloc (.cells #[.int .i64 x] 3)).ownsRow 0 3 1 v5 hs.length (nums hs) ∧ (∀ j u, ([.int .i64 (x : Int)] : List Value)[j]? = some u → ((wr.drewN q).alloc (.cells #[.int .i64 x] 3)).cell? ((⟨wr.heap.size, 0, none⟩ : Addr).add j) = some u) ∧ ((wr.drewN q).alloc (.cells #[.int .i64 x] 3)).heap.size = wr.heap.size + 1 ∧
    ∀ g cp w1, w1.ownsRow 0 3 1 (.slice (some ⟨g, 0, none⟩) (hs.length + 1) cp) (hs.length + 1) (nums hs ++ [.int .i64 x]) → ((wr.drewN q).alloc (.cells #[.int .i64 x] 3)).grownBy w1 v5.ownBlock → (v5.ownBlock = some g ∨ g = wr.heap.size + 1) → g < w1.heap.size →
      ∃ p', ShJ p' w w1 v3 wss svs v4 lv (.slice (some ⟨g, 0, none⟩) (hs.length + 1) cp) (hs ++ [x]) v6 nx := by
  have hb : Below wr.heap.size wr ((wr.drewN q).alloc (.cells #[.int .i64 x] 3)) := (below_drewN wr q).alloc (by rw [drewN_heap]; exact Nat.le_refl _) _
  have hJ2 := hJ.other hb
  have hsz : ((wr.drewN q).alloc (.cells #[.int .i64 x] 3)).heap.size = wr.heap.size + 1 := by simp
  refine ⟨hJ2.has.1, news_one (by rw [drewN_heap]), hsz, fun g cp w1 ho hg hat hl => ?_⟩
  obtain ⟨p', r⟩ := hJ2.grow5 (hs' := hs ++ [x]) (by simpa [nums] using ho) (by simp) hg (by rw [hsz]; exact hat) hl
  rw [List.length_append] at r
  exact ⟨p', r⟩
theorem inner6 (hJ : ShJ p w wr v3 wss svs v4 lv v5 hs v6 nx) (ks : List Nat) : ∀ g cp w1, w1.ownsRow 0 3 1 (.slice (some ⟨g, 0, none⟩) (nx.length + ks.length) cp) (nx.length + ks.length) (nums nx ++ nums ks) → wr.grownBy w1 v6.ownBlock → (v6.ownBlock = some g ∨ g = wr.heap.size) → g < w1.heap.size →
      ∃ p', ShJ p' w w1 v3 wss svs v4 lv v5 hs (.slice (some ⟨g, 0, none⟩) (nx.length + ks.length) cp) (nx ++ ks) := by
  intro g cp w1 ho hg hat hl
  obtain ⟨p', r⟩ := hJ.grow6 (nx' := nx ++ ks) (by simpa [nums] using ho) (by simp) hg hat hl
  rw [List.length_append] at r
  exact ⟨p', r⟩
theorem inner3 (hJ : ShJ p w wr v3 wss svs v4 lv v5 hs v6 nx) (hone : v5.oneCell' = true) :
    (wr.alloc (.cells #[v5] 37)).ownsRow 0 37 1 v3 wss.length svs ∧ (∀ j u, ([v5] : List Value)[j]? = some u → (wr.alloc (.cells #[v5] 37)).cell? ((⟨wr.heap.size, 0, none⟩ : Addr).add j) = some u) ∧ (wr.alloc (.cells #[v5] 37)).heap.size = wr.heap.size + 1 ∧
    ∀ g cp w1, w1.ownsRow 0 37 1 (.slice (some ⟨g, 0, none⟩) (wss.length + 1) cp) (wss.length + 1) (svs ++ [v5]) → (wr.alloc (.cells #[v5] 37)).grownBy w1 v3.ownBlock → (v3.ownBlock = some g ∨ g = wr.heap.size + 1) → g < w1.heap.size →
      ∃ p', ShI p' w w1 (.slice (some ⟨g, 0, none⟩) (wss.length + 1) cp) (wss ++ [hs]) (svs ++ [v5]) ∧ Row p' w1 .nodes 3 1 v6 nx.length (nums nx) := by
  have hb : Below wr.heap.size wr (wr.alloc (.cells #[v5] 37)) := (Below.refl _ wr).alloc (Nat.le_refl _) _
  have hJ2 := hJ.other hb
  have hsz : (wr.alloc (.cells #[v5] 37)).heap.size = wr.heap.size + 1 := by simp
  refine ⟨hJ2.sh.outer.1, news_one rfl, hsz, fun g cp w1 ho hg hat hl => ?_⟩
  exact hJ2.grow3 hone (by simpa using ho) rfl hg (by rw [hsz]; exact hat) hl
theorem ShI.rep {o : Own} {t : Nat} {s : St} {vn vg : Value} (h : ShI p w wr v3 wss svs) (hr : Rep o w t s vn vg) : Rep o wr t s vn vg := hr.below (h.keeps.below (Nat.le_refl _) (fun _ _ => rfl))
end
section
variable {o : Own} {w : World} {t m : Nat} {ls : List ByteArray}
set_option maxHeartbeats 4000000 in
theorem shape_any (h : Tr o w t ls m) (hl : ls.length < 2 ^ 30) : Calls Try.prog 16 #[.pointer (some ⟨t, 0, none⟩)] w fun e w' => ∃ v, e = .returned v ∧ Shaped w ls.length v w' := by
  obtain ⟨s, vn, vg, d, h1, hI, _⟩ := h
  have hdeep := hI.depth
  obtain ⟨js, hs, hf, hw8, hw2⟩ := hI
  have a2 := h1.at2
  have htl := hs.lt
  obtain ⟨b, cap, hvn, hob, n1, n2, hcc⟩ := h1.nodeCells (by omega)
  clear hcc
  have HR : Hid (Rep o w t s vn vg) := h1
  have GV : Hid (vn = .slice (some ⟨b, 0, none⟩) s.ns.length cap) := hvn
  have HS : Hid (Sub s d s.top ls js ∧ Full s js ∧ s.wid s.top ≤ 8 ∧ (0 < d → 2 ≤ s.wid s.top) ∧ (0 < d → 2 * 4 ^ d ≤ ls.length) ∧ ls.length < 2 ^ 30) := ⟨hs, hf, hw8, hw2, hdeep, hl⟩
  obtain ⟨N, hN⟩ : ∃ N, s.ns.length = N := ⟨_, rfl⟩
  have HN : Hid (s.ns.length = N) := hN
  rw [hN] at n1
  unfold maxLen at n2
  obtain ⟨i3, hi3, y0, y1, y2⟩ := info_parts info3
  obtain ⟨i7, hi7, z0, z1, z2⟩ := info_parts infoL
  clear h1 hs hf hw8 hw2 hvn hob hN htl hdeep hl
  go_enter Try.func16, Try.ntmps16
  go_wp2_with fail
  go_loopw [3, 4] (fun v3 v4 wr => LvR w s d ls v3 v4 wr) (fun v3 _ _ => d + 1 - lenV v3)
  case atStart =>
    obtain ⟨q1, q2, q3, q4, q5, q6⟩ := HS.out
    refine ⟨give nobody w.heap.size .nodes, [], [], [s.top], ⟨rnilE, (fun k ws hk => by simp at hk), (fun u hu => by cases hu), ((Keeps.refl nobody w).alloc _).give (Nat.le_refl _) _, fun k hk => ?_⟩, ⟨⟨rfl, .inr ⟨w.heap.size, 1, _, rfl, Nat.zero_le _, alloc_new w _, Nat.le_refl _, by simp [maxLen], rfl, rfl⟩⟩, fun k hk => ?_⟩, by simp, .inr ⟨by simp, d, js, by simp, ⟨.inl ⟨rfl, rfl⟩, (fun k ws hk => by simp at hk), (fun k ws ws' hk => by simp at hk), (fun ws hk => by simp at hk), fun c hc => ?_⟩, All.one q1⟩⟩
    · by_cases e : k = w.heap.size
      · rw [e]; simp
      · exact absurd (by simp [give, e, nobody]) hk
    · simp [Value.ownBlock] at hk; simp [give, hk]
    · simp at hc; rw [hc]; exact ⟨q3, fun hh => by simp at hh⟩
  case round =>
    obtain ⟨p, wss, svs, lv, hsh, hlv, hll, hcase⟩ := hrel
    obtain ⟨a3, cap3, hv3, _, _⟩ := hsh.outer.form
    rcases hcase with ⟨rfl, hShp⟩ | ⟨hne, dd, jz, hdd, hLev, hAll⟩
    · obtain ⟨a4, cap4, hv4, _, _⟩ := hlv.form
      have hv4 : u4 = .slice a4 0 cap4 := hv4
      have HF : Hid (Shaped w ls.length u3 wr) := ⟨p, wss, svs, hsh, hShp⟩
      subst hv4
      subst hv3
      clear hsh hlv hShp
      go_wp2_with fail
      go_ret
      exact ⟨_, rfl, HF.out⟩
    · have hL0 : 0 < lv.length := List.length_pos_iff.2 hne
      obtain ⟨lb, cap4, cur, hv4, hlo, hg4, l1, l2, l3, l4⟩ := hlv.shape hL0
      obtain ⟨L, hL⟩ : ∃ L, lv.length = L := ⟨_, rfl⟩
      have HL : Hid (lv.length = L) := hL
      have HI0 : Hid (InR w s u3 wss svs u4 lv (.slice none 0 0) (.slice none 0 0) 0 wr) := ⟨p, hsh, hlv, (rnilE : Row p wr (.kids 0) 3 1 (.slice none 0 0) 0 []), (rnilE : Row p wr .gone 3 1 (.slice none 0 0) 0 [])⟩
      have HX : Hid (wss.length + dd = d ∧ Lev s wss lv ∧ All (Sub s dd) lv ls jz) := ⟨hdd, hLev, hAll⟩
      have G3 : Hid (u3 = .slice a3 wss.length cap3) := hv3
      have G4 : Hid (u4 = .slice (some ⟨lb, 0, none⟩) lv.length cap4) := hv4
      unfold maxLen at l2
      rw [hL] at hv4 l1 hll hL0
      have hv3' := hv3
      clear hlv hsh hLev hAll hg4 l3 l4 cur hL hne hlo hdd
      subst hv3
      subst hv4
      go_wp2_with fail
      go_loopw [5, 6, 19] (fun v5 v6 vj wr2 => ∃ j : Nat, j ≤ L ∧ vj = .int .i64 j ∧ InR w s (.slice a3 wss.length cap3) wss svs (.slice (some ⟨lb, 0, none⟩) L cap4) lv v5 v6 j wr2) (fun _ _ vj _ => L - (intOf vj).toNat)
      case atStart => exact ⟨0, Nat.zero_le _, rfl, HI0.out⟩
      case round =>
        obtain ⟨j, hj, rfl, p2, hJ⟩ := hrel
        by_cases hjl : j < L
        · have hcj : lv[j]? = some (lv[j]'(by rw [HL.out]; exact hjl)) := List.getElem?_eq_getElem _
          generalize lv[j]'(by rw [HL.out]; exact hjl) = c at hcj
          obtain ⟨lc, jc, hSc⟩ := HX.out.2.2.each c (List.mem_of_getElem? hcj)
          obtain ⟨n, P⟩ := hSc.parts
          have hw8 := (HX.out.2.1.lvw c (List.mem_of_getElem? hcj)).1
          have hwn := P.wid
          have HRr := hJ.sh.rep HR.out
          have hcl : c < N := by rw [← HN.out]; exact hSc.lt
          have hcell : wr.cell? ⟨lb, j, none⟩ = some (.int .i64 c) := by
            obtain ⟨lb', cap', cur, e, _, hg, _, _, _, h4⟩ := hJ.lev.shape (by rw [HL.out]; omega)
            cases e
            exact (row_cell hg h4 (cap := cap4) (by simp [nums, hcj])).1
          have HW := width_any HRr P.node (by omega)
          rw [← P.wid] at HW
          have htk : lv.take (j + 1) = lv.take j ++ [c] := by
            obtain ⟨hh, e⟩ := List.getElem?_eq_some_iff.1 hcj
            rw [List.take_succ_eq_append_getElem hh, e]
          have hhl : ((lv.take j).map s.wid).length = j := by have := HL.out; simp; omega
          have hkc : s.kidsOf c = n.kids := by simp [St.kidsOf, P.node]
          obtain ⟨a5, cap5, hv5, _, _⟩ := hJ.has.form
          obtain ⟨a6, cap6, hv6, _, _⟩ := hJ.nxt.form
          rw [hhl] at hv5
          subst hv5
          have H5 := inner5 hJ
          rw [hhl] at H5
          have HTK : Hid (lv.take (j + 1) = lv.take j ++ [c] ∧ s.kidsOf c = n.kids) := ⟨htk, hkc⟩
          have HPN : Hid (s.ns[c]? = some n ∧ Parts s dd c lc jc n) := ⟨P.node, P⟩
          have G6 : Hid (u6 = .slice a6 ((lv.take j).flatMap s.kidsOf).length cap6) := hv6
          generalize hWd : s.wid c = Wd at *
          obtain ⟨nl, hnl⟩ : ∃ nl, ((lv.take j).flatMap s.kidsOf).length = nl := ⟨_, rfl⟩
          have HNL : Hid (((lv.take j).flatMap s.kidsOf).length = nl) := hnl
          have hnlb : nl + n.kids.length < 2 ^ 31 := by
            have e1 : ((lv.take (j + 1)).flatMap s.kidsOf).length = nl + n.kids.length := by rw [htk, List.flatMap_append, List.length_append, hnl]; simp [hkc]
            have e2 : ((lv.take (j + 1)).flatMap s.kidsOf).length ≤ (lv.flatMap s.kidsOf).length := by
              conv => rhs; rw [← List.take_append_drop (j + 1) lv, List.flatMap_append, List.length_append]
              omega
            have e3 : (lv.flatMap s.kidsOf).length ≤ ls.length := by
              have hAll := HX.out.2.2
              cases dd with
              | zero => rw [(All.leaves hAll).1]; simp
              | succ dd =>
                obtain ⟨_, hF, _⟩ := All.flat hAll
                have := hF.len (m := 1) fun _ _ _ h => h.pos
                omega
            have := HS.out.2.2.2.2.2
            omega
          rw [hnl] at hv6
          subst hv6
          have H5' : Hid _ := H5
          have HB5 : Hid (∀ q g cp w1, w1.ownsRow 0 3 1 (.slice (some ⟨g, 0, none⟩) (j + 1) cp) (j + 1) (nums ((lv.take j).map s.wid) ++ [.int .i64 Wd]) → ((wr.drewN q).alloc (.cells #[.int .i64 Wd] 3)).grownBy w1 (Value.slice a5 j cap5).ownBlock → ((Value.slice a5 j cap5).ownBlock = some g ∨ g = wr.heap.size + 1) → g < w1.heap.size →
              (w1.cell? ⟨t, 0, none⟩ = some (.slice (some ⟨b, 0, none⟩) N cap) ∧ w1.cell? ⟨b, c * 4 + 1, none⟩ = some n.vk) ∧ Hid (w1.ownsRow 0 3 1 (.slice a6 nl cap6) nl (nums ((lv.take j).flatMap s.kidsOf))) ∧ Hid (∀ kb M kc, n.vk = .slice (some ⟨kb, 0, none⟩) M kc → ∀ j u, (nums n.kids)[j]? = some u → w1.cell? ((⟨kb, 0, none⟩ : Addr).add j) = some u) ∧
              Hid (∃ p', ShJ p' w w1 (.slice a3 wss.length cap3) wss svs (.slice (some ⟨lb, 0, none⟩) L cap4) lv (.slice (some ⟨g, 0, none⟩) (j + 1) cp) ((lv.take (j + 1)).map s.wid) (.slice a6 nl cap6) ((lv.take j).flatMap s.kidsOf))) := by
            intro q g cp w1 ho hg hat hlt
            obtain ⟨p', r⟩ := (H5'.out q Wd).2.2.2 g cp w1 ho hg hat hlt
            have hr := r.sh.rep HR.out
            obtain ⟨e0, e1, e2, e3, e4, e5⟩ := hr.cellsAt P.node GV.out
            have r2 := r.nxt.1
            rw [HNL.out] at r2
            refine ⟨⟨by rw [e0, GV.out, HN.out], e2⟩, r2, fun kb M kc hvk j' u hu => ?_, p', ?_⟩
            · simp only [nums, List.getElem?_map, Option.map_eq_some_iff] at hu
              obtain ⟨y, hy, rfl⟩ := hu
              obtain ⟨lb2, e6, e7⟩ := kidAt hr P.node (by simp) hvk hy
              cases e6
              rw [Addr.add_lit, Nat.zero_add]; exact e7
            · rw [htk, List.map_append]
              have : List.map s.wid [c] = [Wd] := by simp [hWd]
              rw [this]; exact r
          have HO5 : Hid (∀ u ∈ ([.int .i64 (Wd : Int)] : List Value), u.oneCell' = true) := by intro u hu; simp at hu; rw [hu]; rfl
          have a0 : wr.cell? ⟨t, 0, none⟩ = some (.slice (some ⟨b, 0, none⟩) N cap) := by rw [HRr.at0, GV.out, HN.out]
          have hdj : decide ((j : Int) < (L : Int)) = true := by simp; omega
          rcases Nat.eq_zero_or_pos dd with hd0 | hd0
          · obtain ⟨k1, k2⟩ := P.leaf hd0
            have HFin : Hid (∀ w1 v5', (∃ p', ShJ p' w w1 (.slice a3 wss.length cap3) wss svs (.slice (some ⟨lb, 0, none⟩) L cap4) lv v5' ((lv.take (j + 1)).map s.wid) (.slice a6 nl cap6) ((lv.take j).flatMap s.kidsOf)) → InR w s (.slice a3 wss.length cap3) wss svs (.slice (some ⟨lb, 0, none⟩) L cap4) lv v5' (.slice a6 nl cap6) (j + 1) w1) := by
              rintro w1 v5' ⟨p', r⟩
              refine ⟨p', ?_⟩
              have e : (lv.take (j + 1)).flatMap s.kidsOf = (lv.take j).flatMap s.kidsOf := by rw [htk, List.flatMap_append]; simp [hkc, k1]
              rw [e]; exact r
            rw [k2] at HB5
            clear hJ hcj hSc P hw8 hwn HRr htk hhl hkc H5 hWd hnl k1 k2 HTK HPN G6 hd0
            go_wp2_with (first
              | (go_at_call 33; refine HW.mono ?_; rintro e wz ⟨rfl, q, rfl⟩)
              | (at_builtin; refine wpList_append_lies _ rfl (.tmp 23) (.tmp 27) 37 rfl 0 3 i3 _ 1 8 Try.underlying37 hi3 y0 y1 y2 rfl (by decide) (.slice a5 j cap5) j (nums ((lv.take j).map s.wid)) rfl (H5'.out _ _).1 ⟨wr.heap.size, 0, none⟩ 1 1 [.int .i64 Wd] rfl rfl (H5'.out _ _).2.1 HO5.out (by omega) (by unfold maxLen; omega) (by omega) (Nat.zero_le _) (wr.heap.size + 1) (H5'.out _ _).2.2.1 ?_; intro g cp w1 hown hgrow hat hlt; obtain ⟨⟨q0, q1⟩, HO6, HN6, HJ6⟩ := HB5.out _ g cp w1 hown hgrow hat hlt; clear hown hgrow hat)
              | (at_builtin; refine wpList_append_own_none rfl (.tmp 29) (.tmp 37) 37 rfl 0 3 i3 1 Try.underlying37 hi3 (.slice a6 nl cap6) nl (nums ((lv.take j).flatMap s.kidsOf)) rfl HO6.out rfl ?_))
            go_roundw
            case rel => exact ⟨j + 1, by omega, by go_num, HFin.out _ _ HJ6.out⟩
            case measure => simp [intOf]; omega
          · obtain ⟨_, _, k3⟩ := P.inner hd0
            obtain ⟨kb, kc, hvk, _, _, _, _⟩ := kidsCells HRr P.node (by simp) k3
            obtain ⟨M, hM⟩ : ∃ M, n.kids.length = M := ⟨_, rfl⟩
            have HM : Hid ((nums n.kids).length = M * 1) := by show (nums n.kids).length = M * 1; rw [← hM]; simp [nums]
            have HO : Hid (∀ u ∈ nums n.kids, u.oneCell' = true) := nums_one _
            rw [hM] at hvk k3 hnlb
            have GK : Hid (n.vk = .slice (some ⟨kb, 0, none⟩) M kc) := hvk
            have HFin : Hid (∀ w1 v5' w2 g2 cp2, (∃ p', ShJ p' w w1 (.slice a3 wss.length cap3) wss svs (.slice (some ⟨lb, 0, none⟩) L cap4) lv v5' ((lv.take (j + 1)).map s.wid) (.slice a6 nl cap6) ((lv.take j).flatMap s.kidsOf)) →
                w2.ownsRow 0 3 1 (.slice (some ⟨g2, 0, none⟩) (nl + M) cp2) (nl + M) (nums ((lv.take j).flatMap s.kidsOf) ++ nums n.kids) → w1.grownBy w2 (Value.slice a6 nl cap6).ownBlock → ((Value.slice a6 nl cap6).ownBlock = some g2 ∨ g2 = w1.heap.size) → g2 < w2.heap.size →
                InR w s (.slice a3 wss.length cap3) wss svs (.slice (some ⟨lb, 0, none⟩) L cap4) lv v5' (.slice (some ⟨g2, 0, none⟩) (nl + M) cp2) (j + 1) w2) := by
              rintro w1 v5' w2 g2 cp2 ⟨p', r⟩ ho hg hat hlt
              obtain ⟨p2, r2⟩ := inner6 r n.kids g2 cp2 w2 (by rw [HNL.out, hM]; exact ho) hg hat hlt
              rw [HNL.out, hM] at r2
              refine ⟨p2, ?_⟩
              have e : (lv.take (j + 1)).flatMap s.kidsOf = (lv.take j).flatMap s.kidsOf ++ n.kids := by rw [htk, List.flatMap_append]; simp [hkc]
              rw [e]; exact r2
            rw [hvk] at HB5
            clear hJ hcj hSc P hw8 hwn HRr htk hhl hkc H5 hWd hnl HTK HPN G6 hd0 hvk hM
            go_wp2_with (first
              | (go_at_call 33; refine HW.mono ?_; rintro e wz ⟨rfl, q, rfl⟩)
              | (at_builtin; refine wpList_append_lies _ rfl (.tmp 23) (.tmp 27) 37 rfl 0 3 i3 _ 1 8 Try.underlying37 hi3 y0 y1 y2 rfl (by decide) (.slice a5 j cap5) j (nums ((lv.take j).map s.wid)) rfl (H5'.out _ _).1 ⟨wr.heap.size, 0, none⟩ 1 1 [.int .i64 Wd] rfl rfl (H5'.out _ _).2.1 HO5.out (by omega) (by unfold maxLen; omega) (by omega) (Nat.zero_le _) (wr.heap.size + 1) (H5'.out _ _).2.2.1 ?_; intro g cp w1 hown hgrow hat hlt; obtain ⟨⟨q0, q1⟩, HO6, HN6, HJ6⟩ := HB5.out _ g cp w1 hown hgrow hat hlt; clear hown hgrow hat)
              | (at_builtin; refine wpList_append_lies _ rfl (.tmp 29) (.tmp 37) 37 rfl 0 3 i3 _ 1 8 Try.underlying37 hi3 y0 y1 y2 rfl (by decide) (.slice a6 nl cap6) nl (nums ((lv.take j).flatMap s.kidsOf)) rfl HO6.out ⟨kb, 0, none⟩ M kc (nums n.kids) rfl HM.out (HN6.out kb M kc rfl) HO.out k3 (by unfold maxLen; omega) (by omega) (Nat.zero_le _) w1.heap.size rfl ?_; intro g2 cp2 w2 hown hgrow hat hlt2; have HJ7 : Hid _ := HFin.out w1 _ w2 g2 cp2 HJ6.out hown hgrow hat hlt2; clear hown hgrow hat))
            go_roundw
            case rel => exact ⟨j + 1, by omega, by go_num, HJ7.out⟩
            case measure => simp [intOf]; omega
        · obtain rfl : j = L := by omega
          have htk : lv.take j = lv := by rw [← HL.out]; exact List.take_length
          rw [htk] at hJ
          obtain ⟨a5, cap5, hv5, _, _⟩ := hJ.has.form
          obtain ⟨a6, cap6, hv6, _, _⟩ := hJ.nxt.form
          obtain ⟨K5, hK5⟩ : ∃ K5, (lv.map s.wid).length = K5 := ⟨_, rfl⟩
          rw [hK5] at hv5
          subst hv5
          have hk20 : wss.length < 100 := by
            have h1 := HX.out.1
            have h2 := HS.out
            by_cases hd : 0 < d
            · have h3 := h2.2.2.2.2.1 hd
              by_cases h4 : d < 50
              · omega
              · have h5 : 4 ^ 50 ≤ 4 ^ d := Nat.pow_le_pow_right (by omega) (by omega)
                have : (4 : Nat) ^ 50 = 2 ^ 100 := by decide
                have := h2.2.2.2.2.2
                omega
            · omega
          have H3 := inner3 hJ rfl
          have H3' : Hid _ := H3
          have HFin : Hid (∀ w1 g cp, (∃ p', ShI p' w w1 (.slice (some ⟨g, 0, none⟩) (wss.length + 1) cp) (wss ++ [lv.map s.wid]) (svs ++ [.slice a5 K5 cap5]) ∧ Row p' w1 .nodes 3 1 u6 (lv.flatMap s.kidsOf).length (nums (lv.flatMap s.kidsOf))) → LvR w s d ls (.slice (some ⟨g, 0, none⟩) (wss.length + 1) cp) u6 w1) := by
            rintro w1 g cp ⟨p', r1, r2⟩
            obtain ⟨x1, x2, x3⟩ := HX.out
            obtain ⟨q1, q2, q3, q4, q5, q6⟩ := HS.out
            cases dd with
            | zero =>
              obtain ⟨e1, e2⟩ := x2.done x3 (fun hh => by rw [Nat.add_zero] at x1; rw [x1] at hh ⊢; exact q5 hh)
              rw [e2] at r2
              exact ⟨p', _, _, [], r1, r2, by simp, .inl ⟨rfl, e1⟩⟩
            | succ dd =>
              obtain ⟨e1, js', e2⟩ := x2.step x3 (fun hh => q4 (by rw [hh] at x1; simp at x1; omega))
              obtain ⟨_, hF, _⟩ := All.flat x3
              have hlen := hF.len (m := 1) fun _ _ _ h => h.pos
              refine ⟨p', _, _, _, r1, r2, by omega, .inr ⟨?_, dd, js', by simp; omega, e1, e2⟩⟩
              intro hnil
              have hsum : (lv.map s.wid).sum = 0 := by
                obtain ⟨_, _, hs2⟩ := All.flat x3
                rw [hs2, hnil]; rfl
              have hc0 : lv ≠ [] := fun e => by rw [e] at HL; have := HL.out; simp at this; omega
              obtain ⟨c, cs, rfl⟩ := List.exists_cons_of_ne_nil hc0
              obtain ⟨lc, jc, hSc⟩ := x3.each c (by simp)
              obtain ⟨n, P⟩ := hSc.parts
              have h5 := (P.inner (by omega)).2.2
              have h6 := P.wid
              simp at hsum
              omega
          have HO3 : Hid (∀ u ∈ ([.slice a5 K5 cap5] : List Value), u.oneCell' = true) := by intro u hu; simp at hu; rw [hu]; rfl
          have hdj : decide ((j : Int) < (j : Int)) = false := by simp
          clear hJ H3 htk hv6 hK5
          go_wp2_with (at_builtin; refine wpList_append_lies _ rfl (.tmp 40) (.tmp 42) 31 rfl 0 37 i7 _ 1 24 Try.underlying31 hi7 z0 z1 z2 rfl (by decide) (.slice a3 wss.length cap3) wss.length svs rfl H3'.out.1 ⟨wr.heap.size, 0, none⟩ 1 1 [.slice a5 K5 cap5] rfl rfl H3'.out.2.1 HO3.out (by omega) (by unfold maxLen; omega) (by omega) (Nat.zero_le _) (wr.heap.size + 1) H3'.out.2.2.1 ?_; intro g cp w1 hown hgrow hat hlt; have HJ7 : Hid _ := HFin.out w1 g cp (H3'.out.2.2.2 g cp w1 hown hgrow hat hlt); clear hown hgrow hat)
          go_roundw
          case rel => exact HJ7.out
          case measure => have := HX.out.1; simp [lenV]; omega
end
end Go.Proofs.Ytfnhbjokokjhfaa
