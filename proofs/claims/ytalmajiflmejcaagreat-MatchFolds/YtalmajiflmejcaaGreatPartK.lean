/- Texts that the proof of the law stands on: Hn2, Hn3, Hn4, Hn5, Hn6, Hn7, Hn8. -/
import Derived.Test.YtalmajiflmejcaaGreatPartJ
import Derived.Great.BuildSlice
/- The machine's rounds: start. -/
namespace Go.Proofs.YtalmajiflmejcaaGreat
open Go.ChangeShapes Go.WideShapes Go.ChangeAt Go.RowKit
set_option linter.unusedVariables false
set_option linter.unusedSimpArgs false
theorem infoChange : (Tryz.prog.info? 241).map (fun i => (i.zero, i.size, i.bytes)) = some (some (.agg #[.int .i64 0, .int .i64 0]), 2, 16) := by kernel_rfl
section
variable {w0 : World} {mb : Nat} {s : ByteArray} {fo : Bool} {cv bv wv av : Value} {m : Mc} {w w1 w2 : World}
theorem Mw.bform (h : Mw w0 mb s fo cv m bv wv av w) {x : Nat} (hx : x < m.bg.length) : ∃ g cap, bv = .slice (some ⟨g, 0, none⟩) m.bg.length cap ∧ w.cell? ⟨g, x, none⟩ = some (.int .i64 (m.bg.getD x 0)) ∧ w.frozen? ⟨g, x, none⟩ = false ∧ m.bg.length ≤ cap ∧ cap ≤ maxLen := by
  obtain ⟨a, cap, rfl, q1, q2⟩ := owns_form h.rb
  have hr := h.rb
  rcases hr.2 with ⟨q, q'⟩ | ⟨g, cap', cur, q, _⟩
  · omega
  · injection q with e1 e2 e3
    subst e1
    exact ⟨g, cap, rfl, by rw [hr.cellAt x (by omega)]; exact slv_get hx 0, hr.frozenAt x, q1, q2⟩
theorem Mw.bcell {g N cap x : Nat} (h : Mw w0 mb s fo cv m (.slice (some ⟨g, 0, none⟩) N cap) wv av w) (hN : m.bg.length = N) (hx : x < N) : w.cell? ⟨g, x, none⟩ = some (.int .i64 (m.bg.getD x 0)) ∧ w.frozen? ⟨g, x, none⟩ = false := by
  have hr := h.rb
  rw [hN] at hr
  exact ⟨by rw [hr.cellAt x (by omega)]; exact slv_get (by omega) 0, hr.frozenAt x⟩
set_option maxHeartbeats 2000000 in
set_option maxRecDepth 100000 in
theorem start_m (h : Mw w0 mb s fo cv m bv wv av w) {x : Nat} (hx : x < m.bg.length) (hB : m.bg.length ≤ 1000000) (hW : m.wt.length ≤ 1000000) (k : Int) :
    Calls Tryz.prog 186 #[.pointer (some ⟨mb, 2, none⟩), .int .i64 x, .int .i64 k] w fun e w' => e = .returned (.tuple #[]) ∧ Mx w0 mb s fo cv (startE x k m) w' := by
  obtain ⟨gb, cb, rfl, x1, x2, x3, x4⟩ := h.bform hx
  obtain ⟨va, vc, rfl, v1, v2⟩ := owns_form h.rw
  obtain ⟨b, hb⟩ : ∃ b, m.bg.getD x 0 = b := ⟨_, rfl⟩
  rw [hb] at x1
  obtain ⟨NB, hNB⟩ : ∃ N, m.bg.length = N := ⟨_, rfl⟩
  obtain ⟨N, hN⟩ : ∃ N, m.wt.length = N := ⟨_, rfl⟩
  rw [hN] at hW v1
  rw [hNB] at hB x3 hx
  obtain ⟨i9, hi9, z0, z1, z2⟩ := info_parts infoChange
  rw [hN, hNB] at h
  have c3 : w.cell? ⟨mb, 3, none⟩ = _ := h.c3
  have f3 := h.st.fz 3
  have c2 : w.cell? ⟨mb, 2, none⟩ = _ := h.c2
  have HB : Hid (w0.heap.size ≤ w.heap.size) := h.kp.size
  have HO : Hid (w.ownsRow w0.heap.size 241 2 (.slice va N vc) N (flatW m.wt)) := by have := h.rw; rw [hN] at this; exact this
  have HG : Hid (∀ w1, Kp w w1 → ∀ g cap w2, w2.ownsRow w0.heap.size 241 2 (.slice (some ⟨g, 0, none⟩) (N + 1) cap) (N + 1) (flatW m.wt ++ wcells (x, b)) → w1.grownBy w2 (Value.slice va N vc).ownBlock →
      (w2.cell? ⟨mb, 3, none⟩ = some (.slice va N vc) ∧ w2.frozen? ⟨mb, 3, none⟩ = false) ∧ Hid (Mw w0 mb s fo cv { m with wt := m.wt ++ [(x, b)] } (.slice (some ⟨gb, 0, none⟩) NB cb) (.slice (some ⟨g, 0, none⟩) (N + 1) cap) av (w2.setCell ⟨mb, 3, none⟩ (.slice (some ⟨g, 0, none⟩) (N + 1) cap)))) := by
    intro w1 k g cap w2 q1 q2
    exact h.growW (x, b) k hN q1 q2
  unfold maxLen at v2 x4
  have HM : Hid (startE x k m = { m with wt := m.wt ++ [(x, b)], bg := m.bg.set x k } ∧ m.bg.length = NB) := ⟨by unfold startE; rw [hb], hNB⟩
  have HNEW0 := Lc.new w (wcells (x, b)) 241
  unfold wcells at HNEW0
  have HK : Hid (Kp w (w.alloc (.cells #[.int .i64 x, .int .i64 b] 241)).drew) := kp_trans (kp_alloc w _) (kp_drew _)
  have HSZ : Hid ((w.alloc (.cells #[.int .i64 x, .int .i64 b] 241)).drew.heap.size = w.heap.size + 1) := by show (w.alloc (.cells #[.int .i64 x, .int .i64 b] 241)).drew.heap.size = w.heap.size + 1; rw [drew_heap, alloc_size]
  have HOW : Hid ((w.alloc (.cells #[.int .i64 x, .int .i64 b] 241)).drew.ownsRow w0.heap.size 241 2 (.slice va N vc) N (flatW m.wt)) := row_kp HO.out HK.out
  have HNEW : Hid (∀ j u, (wcells (x, b))[j]? = some u → (w.alloc (.cells #[.int .i64 x, .int .i64 b] 241)).drew.cell? ((⟨w.heap.size, 0, none⟩ : Addr).add j) = some u) := by
    intro j u hj
    rw [Addr.add_lit, Nat.zero_add]
    have := HNEW0.kp (kp_drew _)
    exact this.at hj
  have HONE : Hid (∀ u ∈ wcells (x, b), u.oneCell' = true) := by
    intro u hu
    simp only [wcells, List.mem_cons, List.not_mem_nil, or_false] at hu
    rcases hu with rfl | rfl <;> rfl
  have HBW : Hid (w0.heap.size ≤ (w.alloc (.cells #[.int .i64 x, .int .i64 b] 241)).drew.heap.size) := by have := HSZ.out; have := HB.out; show w0.heap.size ≤ _; omega
  have x1' : w.cell? ⟨gb, 0 + x, none⟩ = some (.int .i64 b) := by rw [Nat.zero_add]; exact x1
  have hxi : (0 : Int) ≤ (x : Int) ∧ (x : Int) < (NB : Int) := by omega
  have hmb : mb < w.heap.size := h.st.lt
  have hgb : gb < w.heap.size := (h.rb.lt gb rfl).2
  clear h hN hNB hb HNEW0 x2
  go_enter Tryz.func186, Tryz.ntmps186
  go_upto_region 0 with fail
  go_region_law ((refine step_append_lies _ (by rfl) (.tmp 10) (.tmp 20) 155 rfl w0.heap.size 241 i9 _ 2 16 Tryz.underlying155 hi9 z0 z1 z2 rfl (by decide) (.slice va N vc) N (flatW m.wt) (by rfl) HOW.out ⟨w.heap.size, 0, none⟩ 1 1 (wcells (x, b)) (by rfl) rfl HNEW.out HONE.out (by omega) (by unfold maxLen; omega) (by omega) HBW.out (w.heap.size + 1) HSZ.out ?_; intro g cp w2 hown hgrow hat hlt; obtain ⟨⟨q0, qf⟩, HF⟩ := HG.out _ HK.out g cp w2 hown hgrow; clear hown hgrow hat hlt))
  all_goals
    obtain ⟨w3, hw3⟩ : ∃ w3, w2.setCell ⟨mb, 3, none⟩ (.slice (some ⟨g, 0, none⟩) (N + 1) cp) = w3 := ⟨_, rfl⟩
    rw [hw3] at HF ⊢
    have d2 : w3.cell? ⟨mb, 2, none⟩ = _ := HF.out.c2
    obtain ⟨y1, y2⟩ := HF.out.bcell HM.out.2 hx
    have y1' : w3.cell? ⟨gb, 0 + x, none⟩ = some (.int .i64 (m.bg.getD x 0)) := by rw [Nat.zero_add]; exact y1
    have HE : Hid (Mw w0 mb s fo cv (startE x k m) (.slice (some ⟨gb, 0, none⟩) NB cb) (.slice (some ⟨g, 0, none⟩) (N + 1) cp) av (w3.setCell ⟨gb, x, none⟩ (.int .i64 k))) := by
      rw [HM.out.1]
      exact HF.out.setB HM.out.2 x k
    clear hw3
    go_wp2_with fail
    go_end0
    exact ⟨rfl, HE.out.x⟩
end
end Go.Proofs.YtalmajiflmejcaaGreat
/- The machine's rounds: takeBack. -/
namespace Go.Proofs.YtalmajiflmejcaaGreat
open Go.ChangeShapes Go.WideShapes Go.ChangeAt Go.RowKit
set_option linter.unusedVariables false
set_option linter.unusedSimpArgs false
/-- How many changes are written down, out of the cell. -/
def wLen (mb : Nat) (w : World) : Nat := match w.cell? ⟨mb, 3, none⟩ with | some (.slice _ n _) => n | _ => 0
/-- The machine while changes are taken back. -/
def Bk (w0 : World) (mb : Nat) (s : ByteArray) (fo : Bool) (cv : Value) (m : Mc) (left : Nat) (w : World) : Prop :=
  ∃ bv wv av bg wt, Mw w0 mb s fo cv { m with bg := bg, wt := wt } bv wv av w ∧ tbE (wt.length - left) bg wt = tbE (m.wt.length - left) m.bg m.wt ∧ (∀ p ∈ wt, p.1 < bg.length) ∧ bg.length ≤ 1000000 ∧ wt.length ≤ 1000000
section
variable {w0 : World} {mb : Nat} {s : ByteArray} {fo : Bool} {cv bv wv av : Value} {m : Mc} {w w1 w2 : World}
theorem Mw.wLen (h : Mw w0 mb s fo cv m bv wv av w) : wLen mb w = m.wt.length := by
  obtain ⟨a, cap, rfl, q1, q2⟩ := owns_form h.rw
  unfold Go.Proofs.YtalmajiflmejcaaGreat.wLen
  rw [h.c3]
/-- The last change that was written down is popped. -/
theorem Mw.popW {bg : List Int} {wt : List (Nat × Int)} {p : Nat × Int} {g n cap : Nat} (h : Mw w0 mb s fo cv { m with bg := bg, wt := wt ++ [p] } bv (.slice (some ⟨g, 0, none⟩) (n + 1) cap) av w) (hn : wt.length = n) :
    Mw w0 mb s fo cv { m with bg := bg, wt := wt } bv (.slice (some ⟨g, 0, none⟩) n cap) av (w.setCell ⟨mb, 3, none⟩ (.slice (some ⟨g, 0, none⟩) n cap)) := by
  refine h.turn (fr_set _ _ _ _) (h.st.set 3 _) h.rb ?_ h.ra
  have hr := h.rw
  simp only [flatW_snoc, List.length_append, List.length_singleton, hn] at hr
  simp only [hn]
  exact ownsRow_pop (by rw [flatW_len, hn]) hr
theorem Mw.lastW {bg : List Int} {wt : List (Nat × Int)} {p : Nat × Int} (h : Mw w0 mb s fo cv { m with bg := bg, wt := wt ++ [p] } bv wv av w) : ∃ g cap, wv = .slice (some ⟨g, 0, none⟩) (wt.length + 1) cap ∧ wt.length + 1 ≤ cap ∧ cap ≤ maxLen ∧ g < w.heap.size ∧
    w.cell? ⟨g, wt.length * 2, none⟩ = some (.int .i64 p.1) ∧ w.cell? ⟨g, wt.length * 2 + 1, none⟩ = some (.int .i64 p.2) := by
  have hr := h.rw
  simp only [flatW_snoc, List.length_append, List.length_singleton] at hr
  obtain ⟨a, cap, rfl, q1, q2⟩ := owns_form hr
  rcases hr.2 with ⟨q, q'⟩ | ⟨g, cap', cur, q, _⟩
  · omega
  · injection q with e1 e2 e3
    subst e1
    refine ⟨g, cap, rfl, q1, q2, (hr.lt g rfl).2, ?_, ?_⟩
    · rw [hr.cellAt _ (by omega), List.getElem?_append_right (by rw [flatW_len]; omega), flatW_len, Nat.sub_self]; rfl
    · rw [hr.cellAt _ (by omega), List.getElem?_append_right (by rw [flatW_len]; omega), flatW_len, show wt.length * 2 + 1 - wt.length * 2 = 1 by omega]; rfl
set_option maxHeartbeats 4000000 in
set_option maxRecDepth 100000 in
theorem takeBack_m (h : Mw w0 mb s fo cv m bv wv av w) (hw : ∀ p ∈ m.wt, p.1 < m.bg.length) (hB : m.bg.length ≤ 1000000) (hW : m.wt.length ≤ 1000000) (left : Nat) :
    Calls Tryz.prog 137 #[.pointer (some ⟨mb, 2, none⟩), .int .i64 left] w fun e w' => e = .returned (.tuple #[]) ∧ Mx w0 mb s fo cv (backE left m) w' := by
  have H0 : Hid (Bk w0 mb s fo cv m left w) := ⟨bv, wv, av, m.bg, m.wt, h, rfl, hw, hB, hW⟩
  clear h hw hB hW
  go_enter Tryz.func137, Tryz.ntmps137
  go_wp2_with fail
  go_loopw [] (fun wr => Hid (Bk w0 mb s fo cv m left wr)) (fun wr => wLen mb wr)
  case atStart => exact H0
  case round =>
    obtain ⟨bv, wv, av, bg, wt, h, h1, h2, h3, h4⟩ := hrel.out
    have HL : Hid (wLen mb wr = wt.length) := h.wLen
    clear hrel
    obtain ⟨N, hN⟩ : ∃ N, wt.length = N := ⟨_, rfl⟩
    have c3 : wr.cell? ⟨mb, 3, none⟩ = _ := h.c3
    by_cases hl : left < N
    · have dl : decide ((N : Int) > (left : Int)) = true := decide_eq_true (by omega)
      have dl' : decide ((left : Int) < (N : Int)) = true := decide_eq_true (by omega)
      have dln : decide (left < N) = true := decide_eq_true hl
      rcases List.eq_nil_or_concat wt with rfl | ⟨wt', p, rfl⟩
      · simp at hN; omega
      simp only [List.concat_eq_append] at h h1 h2 h4 HL hN
      obtain ⟨r, a⟩ := p
      obtain ⟨g, cap, rfl, x1, x2, x3, x4, x5⟩ := h.lastW
      have hx : r < bg.length := h2 (r, a) (by simp)
      obtain ⟨gb, cb, rfl, y1, y2, y3, y4⟩ := h.bform (x := r) hx
      obtain ⟨k, hk⟩ : ∃ k, wt'.length = k := ⟨_, rfl⟩
      obtain ⟨NB, hNB⟩ : ∃ N, bg.length = N := ⟨_, rfl⟩
      have hNk : k + 1 = N := by rw [← hN, ← hk]; simp
      simp only [hk, hNB] at h h1 h3 x1 x4 x5 hx y1 y3
      rw [hk] at c3
      have c2 : wr.cell? ⟨mb, 2, none⟩ = _ := h.c2
      try simp only [hNB] at c2
      have ek : ((k + 1 : Nat) : Int) - 1 = (k : Int) := by omega
      have x4' : wr.cell? ⟨g, 0 + k * 2, none⟩ = some (.int .i64 r) := by rw [Nat.zero_add]; exact x4
      have x5' : wr.cell? ⟨g, 0 + k * 2 + 1, none⟩ = some (.int .i64 a) := by rw [Nat.zero_add]; exact x5
      have hki : (0 : Int) ≤ (k : Int) ∧ (k : Int) < ((k + 1 : Nat) : Int) := by omega
      have hri : (0 : Int) ≤ (r : Int) ∧ (r : Int) < (NB : Int) := by omega
      have hmb : mb < wr.heap.size := h.st.lt
      have hgb : gb < wr.heap.size := (h.rb.lt gb rfl).2
      have HH : Hid (Mw w0 mb s fo cv { m with bg := bg, wt := wt' ++ [(r, a)] } (.slice (some ⟨gb, 0, none⟩) NB cb) (.slice (some ⟨g, 0, none⟩) (k + 1) cap) av wr ∧ tbE ((wt' ++ [(r, a)]).length - left) bg (wt' ++ [(r, a)]) = tbE (m.wt.length - left) m.bg m.wt ∧ (∀ p ∈ (wt' ++ [(r, a)]), p.1 < bg.length)) := ⟨h, h1, h2⟩
      have HNB : Hid (bg.length = NB) := hNB
      have HKK : Hid (wt'.length = k) := hk
      have HK1 : Hid (k ≤ 1000000) := by show _ ≤ _; rw [List.length_append, hk] at h4; omega
      have HLN : Hid (wLen mb wr = k + 1) := by show _ = _; rw [HL.out, hN, hNk]
      subst hNk
      unfold maxLen at x2 y4
      clear h h1 h2 h4 HL hN hk hNB
      go_wp2_with fail
      go_region
      obtain ⟨bx, hbx⟩ : ∃ b, wr.heap.size = b := ⟨_, rfl⟩
      obtain ⟨W1, hW1⟩ : ∃ W, (wr.alloc (.cells #[.int .i64 r, .int .i64 a] 241)).drew = W := ⟨_, rfl⟩
      have H1 : Hid (Mw w0 mb s fo cv { m with bg := bg, wt := wt' ++ [(r, a)] } (.slice (some ⟨gb, 0, none⟩) NB cb) (.slice (some ⟨g, 0, none⟩) (k + 1) cap) av W1 ∧ Lc 241 bx [.int .i64 r, .int .i64 a] W1) := by
        rw [← hW1, ← hbx]
        exact ⟨HH.out.1.kpp (kp_trans (kp_alloc _ _) (kp_drew _)), (Lc.new wr [.int .i64 r, .int .i64 a] 241).kp (kp_drew _)⟩
      rw [hW1, hbx]
      clear hW1 hbx c2 c3 x4 x5 x4' x5' y1 y2 hmb hgb x3
      have HBN : Hid (bg.length = NB) := HNB.out
      have c2 : W1.cell? ⟨mb, 2, none⟩ = _ := H1.out.1.c2
      have c3 : W1.cell? ⟨mb, 3, none⟩ = _ := H1.out.1.c3
      have b0 : W1.cell? ⟨bx, 0, none⟩ = some (.int .i64 r) := H1.out.2.at rfl
      have b1 : W1.cell? ⟨bx, 1, none⟩ = some (.int .i64 a) := H1.out.2.at rfl
      obtain ⟨y1, y2⟩ := H1.out.1.bcell HBN.out hx
      have y1' : W1.cell? ⟨gb, 0 + r, none⟩ = some (.int .i64 (bg.getD r 0)) := by rw [Nat.zero_add]; exact y1
      have y2' : W1.frozen? ⟨gb, 0 + r, none⟩ = false := by rw [Nat.zero_add]; exact y2
      go_wp2_with fail
      go_region
      obtain ⟨W2, hW2⟩ : ∃ W, (W1.setCell ⟨gb, r, none⟩ (.int .i64 a)).drew = W := ⟨_, rfl⟩
      have H2 : Hid (Mw w0 mb s fo cv { m with bg := bg.set r a, wt := wt' ++ [(r, a)] } (.slice (some ⟨gb, 0, none⟩) NB cb) (.slice (some ⟨g, 0, none⟩) (k + 1) cap) av W2) := by
        rw [← hW2]
        exact (H1.out.1.setB HBN.out r a).kpp (kp_drew _)
      rw [hW2]
      clear hW2 c2 c3 b0 b1 y1 y2 y1' y2'
      have c3 : W2.cell? ⟨mb, 3, none⟩ = _ := H2.out.c3
      have f3 := H2.out.st.fz 3
      have H3 : Hid (Mw w0 mb s fo cv { m with bg := bg.set r a, wt := wt' } (.slice (some ⟨gb, 0, none⟩) NB cb) (.slice (some ⟨g, 0, none⟩) k cap) av (W2.setCell ⟨mb, 3, none⟩ (.slice (some ⟨g, 0, none⟩) k cap)).drew) := (H2.out.popW HKK.out).kpp (kp_drew _)
      go_wp2_with fail
      go_region
      go_roundw
      case rel =>
        refine ⟨_, _, _, _, _, _, _, _, _, _, _, _, _, _, _, _, _, _, _, _, _, _, _, _, _, _, _, _, _, _, _, _, _, _, _, _, _, _, _, _, _, _, _, ?_, rfl⟩
        refine ⟨_, _, _, _, _, H3.out, ?_, ?_, ?_, ?_⟩
        · rw [← HH.out.2.1, List.length_append, List.length_singleton, show wt'.length + 1 - left = (wt'.length - left) + 1 by have := HKK.out; omega, tb_snoc]
        · intro p hp
          rw [List.length_set]
          exact HH.out.2.2 p (List.mem_append_left _ hp)
        · rw [List.length_set, HBN.out]; exact h3
        · rw [HKK.out]; exact HK1.out
      case measure =>
        rw [H3.out.wLen, HLN.out]
        show wt'.length < _
        rw [HKK.out]; omega
    · have dl : decide ((N : Int) > (left : Int)) = false := decide_eq_false (by omega)
      have dl' : decide ((left : Int) < (N : Int)) = false := decide_eq_false (by omega)
      have dln : decide (left < N) = false := decide_eq_false hl
      obtain ⟨wa, wc, rfl, q1, q2⟩ := owns_form h.rw
      simp only [hN] at c3
      have HE : Hid (Mx w0 mb s fo cv (backE left m) wr) := by
        have e : wt.length - left = 0 := by omega
        rw [e, tbE] at h1
        unfold backE
        rw [← h1]
        exact h.x
      clear h h1 h2 h3 h4 HL hN hl q1
      go_wp2_with fail
      go_end0
      exact ⟨rfl, HE.out⟩
end
end Go.Proofs.YtalmajiflmejcaaGreat
/- The machine: resume. -/
namespace Go.Proofs.YtalmajiflmejcaaGreat
open Go.ChangeShapes Go.WideShapes Go.ChangeAt Go.RowKit
set_option linter.unusedVariables false
set_option linter.unusedSimpArgs false
theorem sets_mid : ∀ (cs pre l suf : List Value), l.length = cs.length → Go.Proofs.YtalmajiflmejcaaGreat.sets (pre ++ (l ++ suf)) pre.length cs = pre ++ (cs ++ suf)
  | [], pre, l, suf, h => by rw [List.length_eq_zero_iff.1 h]; rfl
  | v :: r, pre, l, suf, h => by
    cases l with
    | nil => simp at h
    | cons y l =>
      rw [Go.Proofs.YtalmajiflmejcaaGreat.sets, List.set_append_right _ _ (Nat.le_refl _), Nat.sub_self, List.cons_append, List.set_cons_zero]
      have := sets_mid r (pre ++ [v]) l suf (by simpa using h)
      simp only [List.append_assoc, List.cons_append, List.nil_append, List.length_append, List.length_singleton] at this
      exact this
theorem mc_setTry {t u : Ty} {s : ByteArray} {fo : Bool} {bv wv cv av : Value} {st : Nat} (h : t.ss.length = 22) (hu : u.ss.length = 22) : Go.Proofs.YtalmajiflmejcaaGreat.sets (mcells s fo bv wv t cv av st) 4 (tcells u) = mcells s fo bv wv u cv av st :=
  sets_mid (tcells u) [.string s, .bool fo, bv, wv] (tcells t) [cv, av, .int .i64 st] (by rw [tc_len h, tc_len hu])
theorem tc_one (t : Ty) : ∀ v ∈ tcells t, v.oneCell' = true := by
  intro v hv
  unfold tcells slv at hv
  rcases List.mem_append.1 hv with q | q
  · obtain ⟨x, _, rfl⟩ := List.mem_map.1 q; rfl
  · simp only [List.mem_cons, List.not_mem_nil, or_false] at q
    rcases q with rfl | rfl | rfl <;> rfl
theorem sizeTry : (Tryz.prog.info? 160).map (·.size) = some 25 := by kernel_rfl
theorem rowTry : ∃ d, Tryz.prog.underlying 160 = some d ∧ d.isRow = true := ⟨_, Tryz.underlying160, rfl⟩
section
variable {w0 : World} {mb : Nat} {s : ByteArray} {fo : Bool} {cv bv wv av : Value} {m : Mc} {w w1 w2 : World} {N Z R M : Nat}
set_option maxHeartbeats 2000000 in
set_option maxRecDepth 100000 in
theorem resume_no (h : Mw w0 mb s fo cv m bv wv av w) (hs : m.t.ss.length = 22) (hm : m.sd = []) :
    Calls Tryz.prog 108 #[.pointer (some ⟨mb, 0, none⟩)] w fun e w' => e = .returned (.bool false) ∧ Mx w0 mb s fo cv m w' := by
  obtain ⟨aa, ac, rfl, q1, q2⟩ := owns_form h.ra
  have HE : Hid (Mx w0 mb s fo cv m w) := h.x
  have c30 := h.c30 hs
  rw [hm] at c30
  simp only [List.length_nil] at c30
  clear h hs hm q1
  go_enter Tryz.func108, Tryz.ntmps108
  go_wp2_with fail
  go_ret
  exact ⟨rfl, HE.out⟩
/-- The try that was laid aside last. -/
theorem Mw.lastA {l : List Ty} {t : Ty} (h : Mw w0 mb s fo cv m bv wv av w) (hm : m.sd = l ++ [t]) (hl : ∀ u ∈ m.sd, u.ss.length = 22) : ∃ g cap, av = .slice (some ⟨g, 0, none⟩) (l.length + 1) cap ∧ l.length + 1 ≤ cap ∧ cap ≤ maxLen ∧ g < w.heap.size ∧ g ≠ mb ∧
    w.rangeAt g (l.length * 25) (tcells t) := by
  have hr := h.ra
  rw [hm] at hr hl
  simp only [flatT_snoc, List.length_append, List.length_singleton] at hr
  obtain ⟨a, cap, rfl, q1, q2⟩ := owns_form hr
  have ht : (tcells t).length = 25 := tc_len (hl t (by simp))
  have hf : (flatT l).length = l.length * 25 := flatT_len l (fun u hu => hl u (List.mem_append_left _ hu))
  rcases hr.2 with ⟨q, q'⟩ | ⟨g, cap', cur, q, _⟩
  · omega
  · injection q with e1 e2 e3
    subst e1
    refine ⟨g, cap, rfl, q1, q2, (hr.lt g rfl).2, fun e => row_ne hr h.st (by decide) (by rw [e]; rfl), ?_⟩
    intro j v hj
    have hj' := (List.getElem?_eq_some_iff.1 hj).1
    rw [hr.cellAt _ (by omega), List.getElem?_append_right (by rw [hf]; omega), hf, show l.length * 25 + j - l.length * 25 = j by omega]
    exact hj
/-- It is popped, and goes on. -/
theorem Mw.popA {l : List Ty} {t : Ty} {g n cap : Nat} (h : Mw w0 mb s fo cv m bv wv (.slice (some ⟨g, 0, none⟩) (n + 1) cap) w) (hm : m.sd = l ++ [t]) (hn : l.length = n) (hs : m.t.ss.length = 22) (hl : ∀ u ∈ m.sd, u.ss.length = 22) :
    Mw w0 mb s fo cv { m with sd := l } bv wv (.slice (some ⟨g, 0, none⟩) n cap) (w.setCell ⟨mb, 30, none⟩ (.slice (some ⟨g, 0, none⟩) n cap)) := by
  refine h.turn (fr_set _ _ _ _) (by have := h.st.set 30 (.slice (some ⟨g, 0, none⟩) n cap); rw [mc_set30 hs] at this; exact this) h.rb h.rw ?_
  have hr := h.ra
  rw [hm] at hr hl
  simp only [flatT_snoc, List.length_append, List.length_singleton, hn] at hr
  simp only [hn]
  exact ownsRow_pop (by rw [flatT_len l (fun u hu => hl u (List.mem_append_left _ hu)), hn]) hr
theorem Mw.setT (h : Mw w0 mb s fo cv m bv wv av w) {t : Ty} (f : Fr (On mb) w w1) (l : Lc 163 mb (mcells s fo bv wv t cv av m.st) w1) : Mw w0 mb s fo cv { m with t := t } bv wv av w1 := h.turn f l h.rb h.rw h.ra
set_option maxHeartbeats 4000000 in
set_option maxRecDepth 100000 in
theorem resume_ok (h : Mw w0 mb s fo cv m bv wv av w) (ho : Okm N Z R M m) (hR : R ≤ 100000) (hM : M ≤ 100000) {l : List Ty} {t : Ty} (hm : m.sd = l ++ [t]) :
    Calls Tryz.prog 108 #[.pointer (some ⟨mb, 0, none⟩)] w fun e w' => e = .returned (.bool true) ∧ Mx w0 mb s fo cv (backE t.ch { m with t := t, sd := l }) w' := by
  have hs := ho.t.len
  have hl : ∀ u ∈ m.sd, u.ss.length = 22 := fun u hu => (ho.sd u hu).len
  have hu : t.ss.length = 22 := hl t (by rw [hm]; simp)
  obtain ⟨g, cap, rfl, x1, x2, x3, x6, x4⟩ := h.lastA hm hl
  obtain ⟨k, hk⟩ : ∃ k, l.length = k := ⟨_, rfl⟩
  obtain ⟨dT, hT1, hT2⟩ := rowTry
  have hkM : k ≤ 100001 := by have := ho.al; rw [hm] at this; simp at this; omega
  simp only [hk] at x1 x4 h
  have c30 := h.c30 hs
  have ek : ((k + 1 : Nat) : Int) - 1 = (k : Int) := by omega
  have hki : (0 : Int) ≤ (k : Int) ∧ (k : Int) < ((k + 1 : Nat) : Int) := by omega
  have d0 : decide ((k : Int) < 0) = false := decide_eq_false (by omega)
  have HH : Hid (Mw w0 mb s fo cv m bv wv (.slice (some ⟨g, 0, none⟩) (k + 1) cap) w ∧ Okm N Z R M m ∧ m.sd = l ++ [t] ∧ l.length = k ∧ (∀ u ∈ m.sd, u.ss.length = 22) ∧ R ≤ 100000 ∧ M ≤ 100000) := ⟨h, ho, hm, hk, hl, hR, hM⟩
  have HU : Hid (t.ss.length = 22) := hu
  have HS : Hid (m.t.ss.length = 22) := hs
  have HR : Hid (w.rangeAt g (k * 25) (tcells t)) := x4
  have HZ : Hid ((Tryz.prog.info? 160).map (·.size) = some (tcells t).length) := by show _ = _; rw [tc_len hu]; exact sizeTry
  have HX : Hid (4 + (tcells t).length ≤ (mcells s fo bv wv m.t cv (.slice (some ⟨g, 0, none⟩) (k + 1) cap) m.st).length) := by show _ ≤ _; rw [tc_len hu, mc_len hs]; omega
  unfold maxLen at x2
  clear h ho hm hk hl hs hu x4 x6
  go_enter Tryz.func108, Tryz.ntmps108
  go_upto_region 4 with fail
  go_wp2_with (first | (refine wpList_load_mid rfl 160 (.tmp 18) rfl g (k * 25) rfl (tcells t) dT HR.out hT1 hT2 HZ.out ?_) | (refine wpList_store_box HH.out.1.st 4 (tcells t) rfl 160 (.tmp 21) (.tmp 19) rfl rfl rfl HX.out HZ.out (tc_one _) (mc_setTry HS.out HU.out) ?_; intro W1 q1 q2 q3; have H1 : Hid (Mw w0 mb s fo cv { m with t := t } bv wv (.slice (some ⟨g, 0, none⟩) (k + 1) cap) W1) := HH.out.1.setT q2 q1; clear q1 q2 q3; have c30b := H1.out.c30 HU.out; have f30 := H1.out.st.fz 30))
  obtain ⟨W2, hW2⟩ : ∃ W, W1.setCell ⟨mb, 30, none⟩ (.slice (some ⟨g, 0, none⟩) k cap) = W := ⟨_, rfl⟩
  have H2 : Hid (Mw w0 mb s fo cv { m with t := t, sd := l } bv wv (.slice (some ⟨g, 0, none⟩) k cap) W2) := by
    rw [← hW2]
    exact H1.out.popA (m := { m with t := t }) HH.out.2.2.1 HH.out.2.2.2.1 HU.out HH.out.2.2.2.2.1
  rw [hW2]
  clear hW2 c30b f30 c30
  have c28 := H2.out.c28 HU.out
  have HC : Hid (Calls Tryz.prog 137 #[.pointer (some ⟨mb, 2, none⟩), .int .i64 t.ch] W2.drew fun e w' => e = .returned (.tuple #[]) ∧ Mx w0 mb s fo cv (backE t.ch { m with t := t, sd := l }) w') := by
    have ho := HH.out.2.1
    refine takeBack_m (H2.out.kpp (kp_drew _)) (m := { m with t := t, sd := l }) (fun p hp => ?_) ?_ ?_ t.ch
    · show p.1 < m.bg.length
      rw [ho.bg]; exact ho.wt p hp
    · show m.bg.length ≤ _
      rw [ho.bg]; have := HH.out.2.2.2.2.2.1; omega
    · show m.wt.length ≤ _
      have := ho.wl; have := HH.out.2.2.2.2.2.2; omega
  go_region_with (go_at_call 137; refine Calls.mono HC.out ?_; rintro e w3 ⟨rfl, q⟩; have H3 : Hid (Mx w0 mb s fo cv (backE t.ch { m with t := t, sd := l }) w3) := q; clear q)
  all_goals
    go_wp2_with fail
    go_ret
    exact ⟨rfl, H3.out⟩
end
end Go.Proofs.YtalmajiflmejcaaGreat
/- The machine: layAside. -/
namespace Go.Proofs.YtalmajiflmejcaaGreat
open Go.ChangeShapes Go.WideShapes Go.ChangeAt Go.RowKit
set_option linter.unusedVariables false
set_option linter.unusedSimpArgs false
theorem fold_sets : ∀ (l ys A : List Value), ys.length = l.length → (l.zipIdx A.length).foldl (fun cs (x : Value × Nat) => cs.setIfInBounds (0 + x.2) x.1) (A ++ ys).toArray = (A ++ l).toArray
  | [], ys, A, h => by rw [List.length_eq_zero_iff.1 h]; rfl
  | c :: l, ys, A, h => by
    cases ys with
    | nil => simp at h
    | cons y ys =>
      rw [List.zipIdx_cons, List.foldl_cons]
      have e : (A ++ y :: ys).toArray.setIfInBounds (0 + (c, A.length).2) (c, A.length).1 = ((A ++ [c]) ++ ys).toArray := by
        rw [List.setIfInBounds_toArray, Nat.zero_add, List.set_append_right _ _ (Nat.le_refl _), Nat.sub_self, List.set_cons_zero]
        simp
      rw [e]
      have := fold_sets l ys (A ++ [c]) (by simpa using h)
      rw [List.length_append, List.length_singleton] at this
      rw [this]
      simp
theorem fill_one (A : Array Value) (cells : Array Value) (n : Nat) (hA : A.size = n) (hc : cells.size = n) : Instr.fill (fun i => some (i * n, n)) cells [(0, .agg A)] = some A := by
  have e : (Value.agg A).cells = A := rfl
  simp only [Instr.fill, e]
  rw [if_neg (by simp; omega)]
  congr 1
  rw [← Array.foldl_toList, Array.toList_zipIdx]
  have := fold_sets A.toList cells.toList [] (by rw [Array.length_toList, Array.length_toList]; omega)
  simp only [List.length_nil, List.nil_append, Array.toArray_toList] at this
  simp only [Nat.zero_mul]
  exact this
theorem infoTry : (Tryz.prog.info? 160).map (fun i => (i.zero, i.size, i.bytes)) = some (some (.agg #[.int .i64 0, .int .i64 0, .int .i64 0, .int .i64 0, .int .i64 0, .int .i64 0, .int .i64 0, .int .i64 0, .int .i64 0, .int .i64 0, .int .i64 0, .int .i64 0, .int .i64 0, .int .i64 0, .int .i64 0, .int .i64 0, .int .i64 0, .int .i64 0, .int .i64 0, .int .i64 0, .int .i64 0, .int .i64 0, .int .i64 0, .int .i64 0, .int .i64 0]), 25, 200) := by kernel_rfl
theorem build_try (A : Array Value) (hA : A.size = 25) (z : World) : (Instr.buildSlice 161 1 #[(0, .agg A)]).run Tryz.prog z = .ok (.slice (some ⟨z.heap.size, 0, none⟩) 1 1) (z.alloc (.cells A 160)) := by
  obtain ⟨i9, hi9, z0, z1, z2⟩ := info_parts infoTry
  refine run_buildSlice z 161 160 1 #[(0, .agg A)] A i9 _ Tryz.underlying161 hi9 z0 (by rw [z1]; decide) (by rw [z1]; decide) ?_
  rw [z1]
  exact fill_one A _ 25 hA (by simp)
theorem tc_set22 {t : Ty} (h : t.ss.length = 22) (n : Nat) : (tcells t).set 22 (.int .i64 n) = tcells { t with nx := n } := by
  unfold tcells
  rw [List.set_append_right _ _ (by rw [slv_len, h]; omega), slv_len, h]
  rfl
theorem tc_set24 {t : Ty} (h : t.ss.length = 22) (n : Nat) : (tcells t).set 24 (.int .i64 n) = tcells { t with ch := n } := by
  unfold tcells
  rw [List.set_append_right _ _ (by rw [slv_len, h]; omega), slv_len, h]
  rfl
theorem mc_try {t : Ty} {s : ByteArray} {fo : Bool} {bv wv cv av : Value} {st : Nat} : ((mcells s fo bv wv t cv av st).drop 4).take (tcells t).length = tcells t := by
  show (tcells t ++ [cv, av, .int .i64 st]).take _ = _
  rw [List.take_left']
  rfl
section
variable {w0 : World} {mb : Nat} {s : ByteArray} {fo : Bool} {cv bv wv av : Value} {m : Mc} {w w1 w2 : World} {N Z R M : Nat}
set_option maxHeartbeats 4000000 in
set_option maxRecDepth 100000 in
theorem layAside_m (h : Mw w0 mb s fo cv m bv wv av w) (ho : Okm N Z R M m) (hM : M ≤ 100000) (n : Nat) :
    Calls Tryz.prog 162 #[.pointer (some ⟨mb, 0, none⟩), .int .i64 n] w fun e w' => e = .returned (.tuple #[]) ∧ Mx w0 mb s fo cv (asideE n m) w' ∧ Oth w w' := by
  have hs := ho.t.len
  obtain ⟨dT, hT1, hT2⟩ := rowTry
  obtain ⟨i9, hi9, z0, z1, z2⟩ := info_parts infoTry
  obtain ⟨aa, ac, rfl, v1, v2⟩ := owns_form h.ra
  obtain ⟨wa, wc, rfl, u1, u2⟩ := owns_form h.rw
  obtain ⟨NA, hNA⟩ : ∃ k, m.sd.length = k := ⟨_, rfl⟩
  obtain ⟨NW, hNW⟩ : ∃ k, m.wt.length = k := ⟨_, rfl⟩
  simp only [hNA, hNW] at h v1 u1
  have hNAl : NA ≤ 100001 := by have := ho.al; omega
  have hNWl : NW ≤ 100000 := by have := ho.wl; omega
  obtain ⟨bx, hbx⟩ : ∃ b, w.heap.size = b := ⟨_, rfl⟩
  obtain ⟨W1, hW1⟩ : ∃ W, w.alloc (.cells #[.int .i64 0, .int .i64 0, .int .i64 0, .int .i64 0, .int .i64 0, .int .i64 0, .int .i64 0, .int .i64 0, .int .i64 0, .int .i64 0, .int .i64 0, .int .i64 0, .int .i64 0, .int .i64 0, .int .i64 0, .int .i64 0, .int .i64 0, .int .i64 0, .int .i64 0, .int .i64 0, .int .i64 0, .int .i64 0, .int .i64 0, .int .i64 0, .int .i64 0] 160) = W := ⟨_, rfl⟩
  have H1 : Hid (Kp w W1 ∧ Lc 160 bx [.int .i64 0, .int .i64 0, .int .i64 0, .int .i64 0, .int .i64 0, .int .i64 0, .int .i64 0, .int .i64 0, .int .i64 0, .int .i64 0, .int .i64 0, .int .i64 0, .int .i64 0, .int .i64 0, .int .i64 0, .int .i64 0, .int .i64 0, .int .i64 0, .int .i64 0, .int .i64 0, .int .i64 0, .int .i64 0, .int .i64 0, .int .i64 0, .int .i64 0] W1) := by rw [← hW1, ← hbx]; exact ⟨kp_alloc _ _, Lc.new w [.int .i64 0, .int .i64 0, .int .i64 0, .int .i64 0, .int .i64 0, .int .i64 0, .int .i64 0, .int .i64 0, .int .i64 0, .int .i64 0, .int .i64 0, .int .i64 0, .int .i64 0, .int .i64 0, .int .i64 0, .int .i64 0, .int .i64 0, .int .i64 0, .int .i64 0, .int .i64 0, .int .i64 0, .int .i64 0, .int .i64 0, .int .i64 0, .int .i64 0] _⟩
  have HH : Hid (Mw w0 mb s fo cv m bv (.slice wa NW wc) (.slice aa NA ac) w ∧ m.t.ss.length = 22 ∧ m.sd.length = NA ∧ m.wt.length = NW ∧ w.heap.size = bx) := ⟨h, hs, hNA, hNW, hbx⟩
  have HZ : Hid ((Tryz.prog.info? 160).map (·.size) = some (tcells m.t).length) := by show _ = _; rw [tc_len hs]; exact sizeTry
  have HL : Hid (0 + (tcells m.t).length ≤ ([.int .i64 0, .int .i64 0, .int .i64 0, .int .i64 0, .int .i64 0, .int .i64 0, .int .i64 0, .int .i64 0, .int .i64 0, .int .i64 0, .int .i64 0, .int .i64 0, .int .i64 0, .int .i64 0, .int .i64 0, .int .i64 0, .int .i64 0, .int .i64 0, .int .i64 0, .int .i64 0, .int .i64 0, .int .i64 0, .int .i64 0, .int .i64 0, .int .i64 0] : List Value).length) := by show _ ≤ _; rw [tc_len hs]; exact Nat.le_refl _
  have HE : Hid (Go.Proofs.YtalmajiflmejcaaGreat.sets [.int .i64 0, .int .i64 0, .int .i64 0, .int .i64 0, .int .i64 0, .int .i64 0, .int .i64 0, .int .i64 0, .int .i64 0, .int .i64 0, .int .i64 0, .int .i64 0, .int .i64 0, .int .i64 0, .int .i64 0, .int .i64 0, .int .i64 0, .int .i64 0, .int .i64 0, .int .i64 0, .int .i64 0, .int .i64 0, .int .i64 0, .int .i64 0, .int .i64 0] 0 (tcells m.t) = tcells m.t) := by
    have := sets_mid (tcells m.t) [] [.int .i64 0, .int .i64 0, .int .i64 0, .int .i64 0, .int .i64 0, .int .i64 0, .int .i64 0, .int .i64 0, .int .i64 0, .int .i64 0, .int .i64 0, .int .i64 0, .int .i64 0, .int .i64 0, .int .i64 0, .int .i64 0, .int .i64 0, .int .i64 0, .int .i64 0, .int .i64 0, .int .i64 0, .int .i64 0, .int .i64 0, .int .i64 0, .int .i64 0] [] (by rw [tc_len hs]; rfl)
    show _ = _
    simpa using this
  unfold maxLen at v2 u2
  clear h ho hs hNA hNW
  go_enter Tryz.func162, Tryz.ntmps162
  go_upto_region 1 with (first | (refine wpList_load_box HH.out.1.st 4 (tcells m.t) rfl 160 (.tmp 7) rfl rfl mc_try dT hT1 hT2 HZ.out ?_) | (refine wpList_store_box H1.out.2 0 (tcells m.t) rfl 160 (.tmp 4) (.tmp 8) rfl rfl rfl HL.out HZ.out (tc_one _) HE.out ?_; intro W2 q1 q2 q3; have H2 : Hid (Kp w W2 ∧ Lc 160 bx (tcells m.t) W2) := ⟨H1.out.1.trans (q2.below H1.out.1.size fun k hk q => by unfold On at q; have := HH.out.2.2.2.2; omega), q1⟩; clear q1 q2 q3))
  clear hW1 hbx
  obtain ⟨y22, e22⟩ : ∃ y, (tcells m.t)[22]? = some y := ⟨_, List.getElem?_eq_getElem (by rw [tc_len HH.out.2.1]; omega)⟩
  have b22 : W2.cell? ⟨bx, 22, none⟩ = some y22 := H2.out.2.at e22
  have g22 := H2.out.2.fz 22
  clear e22
  go_upto_region 2 with fail
  obtain ⟨W3, hW3⟩ : ∃ W, W2.setCell ⟨bx, 22, none⟩ (.int .i64 n) = W := ⟨_, rfl⟩
  have H3 : Hid (Kp w W3 ∧ Lc 160 bx (tcells { m.t with nx := n }) W3) := by
    rw [← hW3, ← tc_set22 HH.out.2.1]
    exact ⟨kp_new H2.out.1 (by have := HH.out.2.2.2.2; omega), H2.out.2.set 22 _⟩
  rw [hW3]
  clear hW3 b22 g22
  have H3M : Hid (Mw w0 mb s fo cv m bv (.slice wa NW wc) (.slice aa NA ac) W3) := HH.out.1.kpp H3.out.1
  have c3 : W3.cell? ⟨mb, 3, none⟩ = _ := H3M.out.c3
  obtain ⟨y24, e24⟩ : ∃ y, (tcells { m.t with nx := n })[24]? = some y := ⟨_, List.getElem?_eq_getElem (by rw [tc_len (t := { m.t with nx := n }) HH.out.2.1]; omega)⟩
  have b24 : W3.cell? ⟨bx, 24, none⟩ = some y24 := H3.out.2.at e24
  have g24 := H3.out.2.fz 24
  clear e24
  go_upto_region 3 with fail
  obtain ⟨W4, hW4⟩ : ∃ W, W3.setCell ⟨bx, 24, none⟩ (.int .i64 NW) = W := ⟨_, rfl⟩
  obtain ⟨T, hT⟩ : ∃ T : Ty, { m.t with nx := n, ch := NW } = T := ⟨_, rfl⟩
  have H4 : Hid (Kp w W4 ∧ Lc 160 bx (tcells T) W4) := by
    rw [← hW4, ← hT]
    have := H3.out.2.set 24 (.int .i64 NW)
    rw [tc_set24 (t := { m.t with nx := n }) HH.out.2.1] at this
    exact ⟨kp_new H3.out.1 (by have := HH.out.2.2.2.2; omega), this⟩
  rw [hW4]
  clear hW4 b24 g24 c3
  have HT22 : Hid (T.ss.length = 22) := by show _ = _; rw [← hT]; exact HH.out.2.1
  have HTA : Hid (asideE n m = { m with sd := m.sd ++ [T] }) := by show _ = _; unfold asideE; rw [HH.out.2.2.2.1, hT]
  clear hT
  have H4M : Hid (Mw w0 mb s fo cv m bv (.slice wa NW wc) (.slice aa NA ac) W4) := HH.out.1.kpp H4.out.1
  have c30 := H4M.out.c30 HH.out.2.1
  have f30 := H4M.out.st.fz 30
  have HI : Hid (Tryz.prog.info? 160 = some i9 ∧ i9.zero = some (.agg #[.int .i64 0, .int .i64 0, .int .i64 0, .int .i64 0, .int .i64 0, .int .i64 0, .int .i64 0, .int .i64 0, .int .i64 0, .int .i64 0, .int .i64 0, .int .i64 0, .int .i64 0, .int .i64 0, .int .i64 0, .int .i64 0, .int .i64 0, .int .i64 0, .int .i64 0, .int .i64 0, .int .i64 0, .int .i64 0, .int .i64 0, .int .i64 0, .int .i64 0]) ∧ i9.size = 25 ∧ i9.bytes = 200 ∧ Tryz.prog.underlying 160 = some dT ∧ dT.isRow = true) := ⟨hi9, z0, z1, z2, hT1, hT2⟩
  have HTL : Hid ((tcells T).length = 1 * 25) := tc_len HT22.out
  have HTS : Hid ((tcells T).toArray.size = 25) := by show _ = _; rw [List.size_toArray]; exact tc_len HT22.out
  have HSB : Hid (bx ≠ mb ∧ (Value.slice aa NA ac).ownBlock ≠ some bx) := by
    refine ⟨fun e => ?_, fun e => ?_⟩
    · have := HH.out.1.st.lt; have := HH.out.2.2.2.2; omega
    · have := (HH.out.1.ra.lt bx e).2; have := HH.out.2.2.2.2; omega
  clear hi9 z0 z1 z2 hT1 hT2 c30 f30
  refine wp_region_noPanic ?_
  refine wp_region_held_drew (S := fun z => Lc 160 bx (tcells T) z) (by kernel_rfl) (H4.out.2.kp (kp_drew _)) (fun hHeld => ?_)
  refine takeAt 0 (some 18) ?_ rfl rfl (by kernel_rfl) (by kernel_rfl) (by kernel_rfl) (fun _ _ _ h => h) (Or.inl ⟨by rfl, ?_⟩) hHeld ?_
  rotate_left
  · intro w hSw
    go_simp <;> with_reducible rfl
  try simp only [Act.put, List.setIfInBounds_toArray, List.set_cons_zero, List.set_cons_succ]
  refine takeAt 1 (some 19) ?_ rfl rfl (by kernel_rfl) (by kernel_rfl) (by kernel_rfl) (fun _ _ _ h => h) (Or.inl ⟨by rfl, ?_⟩) hHeld ?_
  rotate_left
  · intro w hSw
    go_simp <;> with_reducible rfl
  try simp only [Act.put, List.setIfInBounds_toArray, List.set_cons_zero, List.set_cons_succ]
  refine takeAt 2 (some 20) ?_ rfl rfl (by kernel_rfl) (by kernel_rfl) (by kernel_rfl) (fun _ _ _ h => h) (Or.inl ⟨by rfl, ?_⟩) hHeld ?_
  rotate_left
  · intro w hSw
    go_simp <;> with_reducible rfl
  try simp only [Act.put, List.setIfInBounds_toArray, List.set_cons_zero, List.set_cons_succ]
  refine takeAt 3 (some 21) ?_ rfl rfl (by kernel_rfl) (by kernel_rfl) (by kernel_rfl) (fun _ _ _ h => h) (Or.inl ⟨by rfl, ?_⟩) hHeld ?_
  rotate_left
  · intro w hSw
    go_simp <;> with_reducible rfl
  try simp only [Act.put, List.setIfInBounds_toArray, List.set_cons_zero, List.set_cons_succ]
  refine takeAt 5 (some 23) (.agg (tcells T).toArray) rfl rfl (by kernel_rfl) (by kernel_rfl) (by kernel_rfl) (fun _ _ _ h => h) (yieldsIf_load_mid (by rfl) 160 (.tmp 4) rfl bx 0 rfl (tcells T) dT (fun z hz => hz.range 0 fun j v hj => by rw [Nat.zero_add]; exact hj) HI.out.2.2.2.2.1 HI.out.2.2.2.2.2 (by rw [HTL.out]; exact sizeTry)) hHeld ?_
  try simp only [Act.put, List.setIfInBounds_toArray, List.set_cons_zero, List.set_cons_succ]
  have c30 := (H4M.out.kpp (kp_drew _)).c30 HH.out.2.1
  refine wpAnyH_ready (rs := [4, 6]) (by kernel_rfl) (by simp) ?_
  refine AllReadyH.cons rfl (fun K hK => ?_) (AllReadyH.cons rfl (fun K hK => ?_) AllReadyH.nil)
  · go_simp
    refine hK.out _ _ (hHeld) (fun hHeld => ?_)
    clear hK K
    try simp only [Act.put, List.setIfInBounds_toArray, List.set_cons_zero, List.set_cons_succ]
    refine wpAnyH_ready (rs := [6]) (by kernel_rfl) (by simp) ?_
    refine AllReadyH.cons rfl (fun K hK => ?_) AllReadyH.nil
    rw [if_pos (by rfl)]
    refine wp_buildSlice 161 160 1 _ rfl (tcells T).toArray i9 _ Tryz.underlying161 HI.out.1 HI.out.2.1 (by rw [HI.out.2.2.1]; decide) (by rw [HI.out.2.2.1]; decide) (by rw [HI.out.2.2.1]; rw [Array.toList_map]; show Instr.fill _ _ [(0, Value.agg (tcells T).toArray)] = _; refine fill_one _ _ 25 HTS.out ?_; simp) ?_
    obtain ⟨bn, hbn⟩ : ∃ b, (W4.drew).heap.size = b := ⟨_, rfl⟩
    obtain ⟨WN, hWN⟩ : ∃ W, (W4.drew).alloc (.cells (tcells T).toArray 160) = W := ⟨_, rfl⟩
    have HN : Hid (Kp W4 WN ∧ Lc 160 bn (tcells T) WN ∧ WN.heap.size = bn + 1 ∧ w0.heap.size ≤ WN.heap.size) := by
      rw [← hWN, ← hbn]
      have k1 := kp_trans (kp_drew _) (kp_alloc (W4.drew) (.cells (tcells T).toArray 160))
      exact ⟨k1, Lc.new _ _ _, alloc_size _ _, Nat.le_trans H4M.out.kp.size k1.size⟩
    rw [hWN, hbn]
    clear hWN hbn
    refine hK.out _ _ (H4.out.2.kp HN.out.1) (fun hHeld => ?_)
    clear hK K
    try simp only [Act.put, List.setIfInBounds_toArray, List.set_cons_zero, List.set_cons_succ]
    have HOW : Hid (WN.ownsRow w0.heap.size 160 25 (.slice aa NA ac) NA (flatT m.sd)) := by have := row_kp H4M.out.ra HN.out.1; rw [HH.out.2.2.1] at this; exact this
    have HNEW : Hid (∀ j u, (tcells T)[j]? = some u → WN.cell? ((⟨bn, 0, none⟩ : Addr).add j) = some u) := by
      intro j u hj
      rw [Addr.add_lit, Nat.zero_add]
      exact HN.out.2.1.at hj
    refine wpAnyH_ready (rs := [7]) (by kernel_rfl) (by simp) ?_
    refine AllReadyH.cons rfl (fun K1 hK => ?_) AllReadyH.nil
    refine step_append_lies _ rfl (.tmp 22) (.tmp 24) 161 rfl w0.heap.size 160 i9 _ 25 200 Tryz.underlying161 HI.out.1 HI.out.2.1 HI.out.2.2.1 HI.out.2.2.2.1 rfl (by decide) (.slice aa NA ac) NA (flatT m.sd) rfl HOW.out ⟨bn, 0, none⟩ 1 1 (tcells T) rfl HTL.out HNEW.out (tc_one _) (by omega) (by unfold maxLen; omega) (by omega) HN.out.2.2.2 (bn + 1) HN.out.2.2.1 ?_
    intro g cp w5 hown hgrow hat hlt
    obtain ⟨⟨q0, qf⟩, hF, hO⟩ := H4M.out.growA HH.out.2.1 T HN.out.1 HH.out.2.2.1 hown hgrow
    have HF : Hid (Mw w0 mb s fo cv { m with sd := m.sd ++ [T] } bv (.slice wa NW wc) (.slice (some ⟨g, 0, none⟩) (NA + 1) cp) (w5.setCell ⟨mb, 30, none⟩ (.slice (some ⟨g, 0, none⟩) (NA + 1) cp)) ∧ Oth W4 (w5.setCell ⟨mb, 30, none⟩ (.slice (some ⟨g, 0, none⟩) (NA + 1) cp))) := ⟨hF, hO⟩
    have HS5 : Hid (Lc 160 bx (tcells T) w5) := by
      have h1 := H4.out.2.kp HN.out.1
      exact h1.heap (hgrow.block bx h1.lt (fun e => HSB.out.2 e.symm))
    clear hown hgrow hat hlt hF hO
    change K1 (Act.put _ (some 25) (.slice (some ⟨g, 0, none⟩) (NA + 1) cp)) w5
    refine hK.out _ _ HS5.out (fun hHeld => ?_)
    clear hK K1
    try simp only [Act.put, List.setIfInBounds_toArray, List.set_cons_zero, List.set_cons_succ]
    refine takeAt 8 (some 26) ?_ rfl rfl (by kernel_rfl) (by kernel_rfl) (by kernel_rfl) (fun _ _ _ h => h) (Or.inl ⟨by rfl, ?_⟩) hHeld ?_
    rotate_left
    · intro w hSw
      go_simp <;> with_reducible rfl
    try simp only [Act.put, List.setIfInBounds_toArray, List.set_cons_zero, List.set_cons_succ]
    refine takeAt 9 (some 27) ?_ rfl rfl (by kernel_rfl) (by kernel_rfl) (by kernel_rfl) (fun _ _ _ h => h) (Or.inl ⟨by rfl, ?_⟩) hHeld ?_
    rotate_left
    · intro w hSw
      go_simp <;> with_reducible rfl
    try simp only [Act.put, List.setIfInBounds_toArray, List.set_cons_zero, List.set_cons_succ]
    refine wpAnyH_ready (rs := [10]) (by kernel_rfl) (by simp) ?_
    refine AllReadyH.cons rfl (fun K hK => ?_) AllReadyH.nil
    go_simp
    refine hK.out _ _ (HS5.out.other (Ne.symm HSB.out.1)) (fun hHeld => ?_)
    clear hK K
    try simp only [Act.put, List.setIfInBounds_toArray, List.set_cons_zero, List.set_cons_succ]
    refine wpAnyH_done (by kernel_rfl) ?_ _
    refine NoPanic.normal ?_
    go_wp2_with fail
    go_end0
    refine ⟨rfl, ?_, fun X b l t1 t2 t3 t4 hl => HF.out.2 X b l t1 t2 t3 t4 (hl.kp H4.out.1)⟩
    rw [HTA.out]
    exact HF.out.1.x
  · rw [if_pos (by rfl)]
    refine wp_buildSlice 161 160 1 _ rfl (tcells T).toArray i9 _ Tryz.underlying161 HI.out.1 HI.out.2.1 (by rw [HI.out.2.2.1]; decide) (by rw [HI.out.2.2.1]; decide) (by rw [HI.out.2.2.1]; rw [Array.toList_map]; show Instr.fill _ _ [(0, Value.agg (tcells T).toArray)] = _; refine fill_one _ _ 25 HTS.out ?_; simp) ?_
    obtain ⟨bn, hbn⟩ : ∃ b, (W4.drew).heap.size = b := ⟨_, rfl⟩
    obtain ⟨WN, hWN⟩ : ∃ W, (W4.drew).alloc (.cells (tcells T).toArray 160) = W := ⟨_, rfl⟩
    have HN : Hid (Kp W4 WN ∧ Lc 160 bn (tcells T) WN ∧ WN.heap.size = bn + 1 ∧ w0.heap.size ≤ WN.heap.size) := by
      rw [← hWN, ← hbn]
      have k1 := kp_trans (kp_drew _) (kp_alloc (W4.drew) (.cells (tcells T).toArray 160))
      exact ⟨k1, Lc.new _ _ _, alloc_size _ _, Nat.le_trans H4M.out.kp.size k1.size⟩
    rw [hWN, hbn]
    clear hWN hbn
    refine hK.out _ _ (H4.out.2.kp HN.out.1) (fun hHeld => ?_)
    clear hK K
    try simp only [Act.put, List.setIfInBounds_toArray, List.set_cons_zero, List.set_cons_succ]
    have c30n := (H4M.out.kpp HN.out.1).c30 HH.out.2.1
    refine wpAnyH_ready (rs := [4]) (by kernel_rfl) (by simp) ?_
    refine AllReadyH.cons rfl (fun K hK => ?_) AllReadyH.nil
    go_simp
    refine hK.out _ _ (hHeld) (fun hHeld => ?_)
    clear hK K
    try simp only [Act.put, List.setIfInBounds_toArray, List.set_cons_zero, List.set_cons_succ]
    have HOW : Hid (WN.ownsRow w0.heap.size 160 25 (.slice aa NA ac) NA (flatT m.sd)) := by have := row_kp H4M.out.ra HN.out.1; rw [HH.out.2.2.1] at this; exact this
    have HNEW : Hid (∀ j u, (tcells T)[j]? = some u → WN.cell? ((⟨bn, 0, none⟩ : Addr).add j) = some u) := by
      intro j u hj
      rw [Addr.add_lit, Nat.zero_add]
      exact HN.out.2.1.at hj
    refine wpAnyH_ready (rs := [7]) (by kernel_rfl) (by simp) ?_
    refine AllReadyH.cons rfl (fun K1 hK => ?_) AllReadyH.nil
    refine step_append_lies _ rfl (.tmp 22) (.tmp 24) 161 rfl w0.heap.size 160 i9 _ 25 200 Tryz.underlying161 HI.out.1 HI.out.2.1 HI.out.2.2.1 HI.out.2.2.2.1 rfl (by decide) (.slice aa NA ac) NA (flatT m.sd) rfl HOW.out ⟨bn, 0, none⟩ 1 1 (tcells T) rfl HTL.out HNEW.out (tc_one _) (by omega) (by unfold maxLen; omega) (by omega) HN.out.2.2.2 (bn + 1) HN.out.2.2.1 ?_
    intro g cp w5 hown hgrow hat hlt
    obtain ⟨⟨q0, qf⟩, hF, hO⟩ := H4M.out.growA HH.out.2.1 T HN.out.1 HH.out.2.2.1 hown hgrow
    have HF : Hid (Mw w0 mb s fo cv { m with sd := m.sd ++ [T] } bv (.slice wa NW wc) (.slice (some ⟨g, 0, none⟩) (NA + 1) cp) (w5.setCell ⟨mb, 30, none⟩ (.slice (some ⟨g, 0, none⟩) (NA + 1) cp)) ∧ Oth W4 (w5.setCell ⟨mb, 30, none⟩ (.slice (some ⟨g, 0, none⟩) (NA + 1) cp))) := ⟨hF, hO⟩
    have HS5 : Hid (Lc 160 bx (tcells T) w5) := by
      have h1 := H4.out.2.kp HN.out.1
      exact h1.heap (hgrow.block bx h1.lt (fun e => HSB.out.2 e.symm))
    clear hown hgrow hat hlt hF hO
    change K1 (Act.put _ (some 25) (.slice (some ⟨g, 0, none⟩) (NA + 1) cp)) w5
    refine hK.out _ _ HS5.out (fun hHeld => ?_)
    clear hK K1
    try simp only [Act.put, List.setIfInBounds_toArray, List.set_cons_zero, List.set_cons_succ]
    refine takeAt 8 (some 26) ?_ rfl rfl (by kernel_rfl) (by kernel_rfl) (by kernel_rfl) (fun _ _ _ h => h) (Or.inl ⟨by rfl, ?_⟩) hHeld ?_
    rotate_left
    · intro w hSw
      go_simp <;> with_reducible rfl
    try simp only [Act.put, List.setIfInBounds_toArray, List.set_cons_zero, List.set_cons_succ]
    refine takeAt 9 (some 27) ?_ rfl rfl (by kernel_rfl) (by kernel_rfl) (by kernel_rfl) (fun _ _ _ h => h) (Or.inl ⟨by rfl, ?_⟩) hHeld ?_
    rotate_left
    · intro w hSw
      go_simp <;> with_reducible rfl
    try simp only [Act.put, List.setIfInBounds_toArray, List.set_cons_zero, List.set_cons_succ]
    refine wpAnyH_ready (rs := [10]) (by kernel_rfl) (by simp) ?_
    refine AllReadyH.cons rfl (fun K hK => ?_) AllReadyH.nil
    go_simp
    refine hK.out _ _ (HS5.out.other (Ne.symm HSB.out.1)) (fun hHeld => ?_)
    clear hK K
    try simp only [Act.put, List.setIfInBounds_toArray, List.set_cons_zero, List.set_cons_succ]
    refine wpAnyH_done (by kernel_rfl) ?_ _
    refine NoPanic.normal ?_
    go_wp2_with fail
    go_end0
    refine ⟨rfl, ?_, fun X b l t1 t2 t3 t4 hl => HF.out.2 X b l t1 t2 t3 t4 (hl.kp H4.out.1)⟩
    rw [HTA.out]
    exact HF.out.1.x
end
end Go.Proofs.YtalmajiflmejcaaGreat
/- The machine: passByte, passAgain. -/
namespace Go.Proofs.YtalmajiflmejcaaGreat
open Go.ChangeShapes Go.WideShapes Go.ChangeAt Go.RowKit
set_option linter.unusedVariables false
set_option linter.unusedSimpArgs false
theorem mc_slots {t : Ty} {s : ByteArray} {fo : Bool} {bv wv cv av : Value} {st : Nat} : ((mcells s fo bv wv t cv av st).drop 4).take (slv t.ss).length = slv t.ss := by
  show (tcells t ++ [cv, av, .int .i64 st]).take _ = _
  unfold tcells
  rw [List.append_assoc, List.take_left']
  rfl
theorem sizeSlots : (Tryz.prog.info? 158).map (·.size) = some 22 := by kernel_rfl
theorem rowSlots : ∃ d, Tryz.prog.underlying 158 = some d ∧ d.isRow = true := ⟨_, Tryz.underlying158, rfl⟩
section
variable {w0 : World} {mb : Nat} {s : ByteArray} {fo : Bool} {cv bv wv av : Value} {m : Mc} {w w1 w2 : World} {N R M : Nat}
set_option maxHeartbeats 4000000 in
set_option maxRecDepth 100000 in
theorem passByte_m (h : Mw w0 mb s fo cv m bv wv av w) (ho : Okm N s.size R M m) (hz : s.size ≤ 1000000) (d : Ins) (hd : d.set.ok) :
    Calls Tryz.prog 188 #[.pointer (some ⟨mb, 0, none⟩), d.val] w fun e w' => e = .returned (.bool (byteE s fo d m).1) ∧ Mx w0 mb s fo cv (byteE s fo d m).2 w' := by
  have hs := ho.t.len
  have hk : m.t.k ≤ 1000000 := Nat.le_trans ho.t.k hz
  obtain ⟨bx, hbx⟩ : ∃ b, w.heap.size = b := ⟨_, rfl⟩
  obtain ⟨W1, hW1⟩ : ∃ W, w.alloc (.cells #[.int .u8 d.op, .int .u8 d.c, .int .u64 d.set.a, .int .u64 d.set.b, .int .u64 d.set.c, .int .u64 d.set.d, .int .i64 d.x, .int .i64 d.y] 110) = W := ⟨_, rfl⟩
  have H1 : Hid (Kp w W1 ∧ Lc 110 bx d.cells W1) := by rw [← hW1, ← hbx]; exact ⟨kp_alloc _ _, Lc.new w d.cells _⟩
  have H1M : Hid (Mw w0 mb s fo cv m bv wv av W1) := h.kpp H1.out.1
  obtain ⟨B, hB⟩ : ∃ B, fitB s fo d m.t.k = B := ⟨_, rfl⟩
  have HC : Hid (Calls Tryz.prog 206 #[.agg #[.string s, .bool fo], .agg #[.int .u8 d.op, .int .u8 d.c, .int .u64 d.set.a, .int .u64 d.set.b, .int .u64 d.set.c, .int .u64 d.set.d, .int .i64 d.x, .int .i64 d.y], .int .i64 m.t.k] W1.drew fun e w' => e = .returned (.bool B) ∧ Kp W1.drew w') := by
    have := fits_m s fo d hd ho.t.k W1.drew
    rw [hB] at this
    exact this
  obtain ⟨Y, hY⟩ : ∃ Y, byteE s fo d m = Y := ⟨_, rfl⟩
  have HY : Hid (Y = if B then (true, m.pos (m.t.k + 1)) else (false, m)) := by show _ = _; rw [← hY, ← hB]; rfl
  rw [hY]
  have HS : Hid (m.t.ss.length = 22) := hs
  have c0 := H1M.out.c0
  have c1 := H1M.out.c1
  have c27 := H1M.out.c27 hs
  have b0 : W1.cell? ⟨bx, 0, none⟩ = some (.int .u8 d.op) := H1.out.2.at rfl
  have b1 : W1.cell? ⟨bx, 1, none⟩ = some (.int .u8 d.c) := H1.out.2.at rfl
  have b2 : W1.cell? ⟨bx, 2, none⟩ = some (.int .u64 d.set.a) := H1.out.2.at rfl
  have b3 : W1.cell? ⟨bx, 3, none⟩ = some (.int .u64 d.set.b) := H1.out.2.at rfl
  have b4 : W1.cell? ⟨bx, 4, none⟩ = some (.int .u64 d.set.c) := H1.out.2.at rfl
  have b5 : W1.cell? ⟨bx, 5, none⟩ = some (.int .u64 d.set.d) := H1.out.2.at rfl
  have b6 : W1.cell? ⟨bx, 6, none⟩ = some (.int .i64 d.x) := H1.out.2.at rfl
  have b7 : W1.cell? ⟨bx, 7, none⟩ = some (.int .i64 d.y) := H1.out.2.at rfl
  obtain ⟨k, hkk⟩ : ∃ k, m.t.k = k := ⟨_, rfl⟩
  rw [hkk] at c27 hk HC
  have HKK : Hid (m.t.k = k) := hkk
  unfold Ins.val
  clear h ho hs hB hY hkk hd
  go_enter Tryz.func188, Tryz.ntmps188
  go_upto_region 1 with fail
  try rw [hW1]
  try rw [hbx]
  clear hW1 hbx
  cases B with
  | false =>
    have HRX : Hid (Y = (false, m)) := HY.out
    go_region_with (go_at_call 206; refine Calls.mono HC.out ?_; rintro e w3 ⟨rfl, q⟩; have H3 : Hid (Mw w0 mb s fo cv m bv wv av w3) := H1M.out.kpp (kp_trans (kp_drew _) q); clear q)
    all_goals
      go_wp2_with fail
      go_ret
      rw [HRX.out]
      exact ⟨rfl, H3.out.x⟩
  | true =>
    have HRX : Hid (Y = (true, m.pos (k + 1))) := by show _ = _; rw [HY.out, HKK.out]; rfl
    go_region_with (go_at_call 206; refine Calls.mono HC.out ?_; rintro e w3 ⟨rfl, q⟩; have H3 : Hid (Mw w0 mb s fo cv m bv wv av w3) := H1M.out.kpp (kp_trans (kp_drew _) q); clear q)
    all_goals
      have e27 : w3.cell? ⟨mb, 27, none⟩ = some (.int .i64 k) := by rw [← HKK.out]; exact H3.out.c27 HS.out
      have f27 := H3.out.st.fz 27
      have H4 : Hid (Mw w0 mb s fo cv (m.pos (k + 1)) bv wv av (w3.setCell ⟨mb, 27, none⟩ (.int .i64 (k + 1 : Nat)))) := H3.out.setK HS.out (k + 1)
      have ek : ((k + 1 : Nat) : Int) = (k : Int) + 1 := by omega
      rw [ek] at H4
      clear ek
      go_wp2_with fail
      go_ret
      rw [HRX.out]
      exact ⟨rfl, H4.out.x⟩
end
end Go.Proofs.YtalmajiflmejcaaGreat
/- The machine: passAgain. -/
namespace Go.Proofs.YtalmajiflmejcaaGreat
open Go.ChangeShapes Go.WideShapes Go.ChangeAt Go.RowKit
set_option linter.unusedVariables false
set_option linter.unusedSimpArgs false
section
variable {w0 : World} {mb : Nat} {s : ByteArray} {fo : Bool} {cv bv wv av : Value} {m : Mc} {w w1 w2 : World} {N R M : Nat}
set_option maxHeartbeats 4000000 in
set_option maxRecDepth 100000 in
theorem passAgain_m (h : Mw w0 mb s fo cv m bv wv av w) (ho : Okm N s.size R M m) (hz : s.size ≤ 1000000) {n : Nat} (hn : n < 10) :
    Calls Tryz.prog 184 #[.pointer (some ⟨mb, 0, none⟩), .int .i64 n] w fun e w' => e = .returned (.bool (againE s fo n m).1) ∧ Mx w0 mb s fo cv (againE s fo n m).2 w' := by
  have hs := ho.t.len
  have hk : m.t.k ≤ 1000000 := Nat.le_trans ho.t.k hz
  have HS : Hid (m.t.ss.length = 22) := hs
  obtain ⟨dT, hT1, hT2⟩ := rowSlots
  have HZ : Hid ((Tryz.prog.info? 158).map (·.size) = some (slv m.t.ss).length) := by show _ = _; rw [slv_len, hs]; exact sizeSlots
  obtain ⟨Y, hY⟩ : ∃ Y, againE s fo n m = Y := ⟨_, rfl⟩
  obtain ⟨G, hG⟩ : ∃ G, grpE m.t.ss n = G := ⟨_, rfl⟩
  have HC : Hid (Calls Tryz.prog 111 #[.agg (slv m.t.ss).toArray, .int .i64 n] w fun e w' => e = .returned (.tuple #[.int .i64 G.1, .int .i64 G.2]) ∧ Kp w w') := by
    have := group_m hs (n := n) (by omega) w
    rw [hG] at this
    exact this
  have HGK : Hid (G.1 ≠ -1 → 0 ≤ G.1 ∧ G.1 ≤ G.2 ∧ G.2 ≤ (s.size : Int)) := by have := grp_ok ho.t n; rw [hG] at this; exact this
  have HYG : Hid (Y = if G.1 = -1 then (false, m) else if rptB s fo G.1.toNat G.2.toNat m.t.k then (true, m.pos (m.t.k + (G.2 - G.1).toNat)) else (false, m)) := by show _ = _; rw [← hY, ← hG]; rfl
  have HM : Hid (Mw w0 mb s fo cv m bv wv av w ∧ m.t.k ≤ s.size ∧ s.size ≤ 1000000) := ⟨h, ho.t.k, hz⟩
  rw [hY]
  clear h ho hs hY hG
  obtain ⟨a, b⟩ := G
  simp only at HC HGK HYG
  go_enter Tryz.func184, Tryz.ntmps184
  go_upto_region 2 with (first | (refine wpList_load_box HM.out.1.st 4 (slv m.t.ss) rfl 158 (.tmp 11) rfl rfl mc_slots dT hT1 hT2 HZ.out ?_) | (go_at_call 111; refine Calls.mono HC.out ?_; rintro e w2 ⟨rfl, q⟩; have H2 : Hid (Mw w0 mb s fo cv m bv wv av w2) := HM.out.1.kpp q; clear q))
  by_cases h1 : a = -1
  · subst h1
    have HRX : Hid (Y = (false, m)) := by show _ = _; rw [HYG.out, if_pos rfl]
    go_wp2_with fail
    go_region
    all_goals
      go_wp2_with fail
      go_ret
      rw [HRX.out]
      exact ⟨rfl, (H2.out.kpp (kp_drew _)).x⟩
  have i1 : (a == -1) = false := by simpa using h1
  obtain ⟨g1, g2, g3⟩ := HGK.out h1
  obtain ⟨a, rfl⟩ : ∃ n : Nat, a = (n : Int) := ⟨a.toNat, by omega⟩
  obtain ⟨b, rfl⟩ : ∃ n : Nat, b = (n : Int) := ⟨b.toNat, by omega⟩
  have ha : a ≤ b := by omega
  have hb : b ≤ s.size := by omega
  obtain ⟨k, hkk⟩ : ∃ k, m.t.k = k := ⟨_, rfl⟩
  obtain ⟨B, hB⟩ : ∃ B, rptB s fo a b k = B := ⟨_, rfl⟩
  have HRP : Hid (Calls Tryz.prog 204 #[.agg #[.string s, .bool fo], .int .i64 a, .int .i64 b, .int .i64 k] w2.drew fun e w' => e = .returned (.bool B) ∧ Kp w2.drew w') := by
    have := repeats_m s fo ha hb (k := k) (by rw [← hkk]; exact HM.out.2.1) HM.out.2.2 w2.drew
    rw [hB] at this
    exact this
  have HRX : Hid (Y = if B then (true, m.pos (k + (b - a))) else (false, m)) := by
    show _ = _
    rw [HYG.out, if_neg h1, hkk, show ((b : Int) - (a : Int)).toNat = b - a by omega]
    simp only [Int.toNat_natCast, hB]
  rw [hkk] at hk
  have HKK : Hid (m.t.k = k) := hkk
  have c27 : w2.cell? ⟨mb, 27, none⟩ = some (.int .i64 k) := by rw [← hkk]; exact H2.out.c27 HS.out
  have hb6 : b ≤ 1000000 := by omega
  clear hkk hB h1 g1 g2 g3 hb hz
  go_upto_region 2 with fail
  refine wp_region_noPanic ?_
  refine wp_region_held_drew (S := fun z => Lc 163 mb (mcells s fo bv wv m.t cv av m.st) z) (by kernel_rfl) (H2.out.st.kp (kp_drew _)) (fun hHeld => ?_)
  refine takeAt 0 (some 17) ?_ rfl rfl (by kernel_rfl) (by kernel_rfl) (by kernel_rfl) (fun _ _ _ h => h) (Or.inl ⟨by rfl, ?_⟩) hHeld ?_
  rotate_left
  · intro w hSw
    go_simp <;> with_reducible rfl
  try simp only [Act.put, List.setIfInBounds_toArray, List.set_cons_zero, List.set_cons_succ]
  refine takeAt 1 (some 18) ?_ rfl rfl (by kernel_rfl) (by kernel_rfl) (by kernel_rfl) (fun _ _ _ h => h) (Or.inl ⟨by rfl, ?_⟩) hHeld ?_
  rotate_left
  · intro w hSw
    go_simp <;> with_reducible rfl
  try simp only [Act.put, List.setIfInBounds_toArray, List.set_cons_zero, List.set_cons_succ]
  refine takeAt 2 (some 19) ?_ rfl rfl (by kernel_rfl) (by kernel_rfl) (by kernel_rfl) (fun _ _ _ h => h) (Or.inl ⟨by rfl, ?_⟩) hHeld ?_
  rotate_left
  · intro w hSw
    go_simp <;> with_reducible rfl
  try simp only [Act.put, List.setIfInBounds_toArray, List.set_cons_zero, List.set_cons_succ]
  refine takeAt 3 (some 20) ?_ rfl rfl (by kernel_rfl) (by kernel_rfl) (by kernel_rfl) (fun _ _ _ h => h) (Or.inl ⟨by rfl, ?_⟩) hHeld ?_
  rotate_left
  · intro w hSw
    go_simp <;> with_reducible rfl
  try simp only [Act.put, List.setIfInBounds_toArray, List.set_cons_zero, List.set_cons_succ]
  refine takeAt 4 (some 21) ?_ rfl rfl (by kernel_rfl) (by kernel_rfl) (by kernel_rfl) (fun _ _ _ h => h) (Or.inl ⟨by rfl, ?_⟩) hHeld ?_
  rotate_left
  · intro w hSw
    go_simp <;> with_reducible rfl
  try simp only [Act.put, List.setIfInBounds_toArray, List.set_cons_zero, List.set_cons_succ]
  refine takeAt 5 (some 22) ?_ rfl rfl (by kernel_rfl) (by kernel_rfl) (by kernel_rfl) (fun _ _ _ h => h) (Or.inl ⟨by rfl, ?_⟩) hHeld ?_
  rotate_left
  · intro w hSw
    go_simp <;> with_reducible rfl
  try simp only [Act.put, List.setIfInBounds_toArray, List.set_cons_zero, List.set_cons_succ]
  refine takeAt 6 (some 23) (.agg #[.string s, .bool fo]) rfl rfl (by kernel_rfl) (by kernel_rfl) (by kernel_rfl) (fun _ _ _ h => h) (Or.inl ⟨by rfl, ?_⟩) hHeld ?_
  · intro w hSw
    have y0 : w.cell? ⟨mb, 0, none⟩ = some (.string s) := hSw.at rfl
    have y1 : w.cell? ⟨mb, 1, none⟩ = some (.bool fo) := hSw.at rfl
    go_simp <;> with_reducible rfl
  try simp only [Act.put, List.setIfInBounds_toArray, List.set_cons_zero, List.set_cons_succ]
  refine takeAt 7 (some 24) ?_ rfl rfl (by kernel_rfl) (by kernel_rfl) (by kernel_rfl) (fun _ _ _ h => h) (Or.inl ⟨by rfl, ?_⟩) hHeld ?_
  rotate_left
  · intro w hSw
    go_simp <;> with_reducible rfl
  try simp only [Act.put, List.setIfInBounds_toArray, List.set_cons_zero, List.set_cons_succ]
  refine takeAt 8 (some 25) ?_ rfl rfl (by kernel_rfl) (by kernel_rfl) (by kernel_rfl) (fun _ _ _ h => h) (Or.inl ⟨by rfl, ?_⟩) hHeld ?_
  rotate_left
  · intro w hSw
    go_simp <;> with_reducible rfl
  try simp only [Act.put, List.setIfInBounds_toArray, List.set_cons_zero, List.set_cons_succ]
  refine takeAt 9 (some 26) ?_ rfl rfl (by kernel_rfl) (by kernel_rfl) (by kernel_rfl) (fun _ _ _ h => h) (Or.inl ⟨by rfl, ?_⟩) hHeld ?_
  rotate_left
  · intro w hSw
    go_simp <;> with_reducible rfl
  try simp only [Act.put, List.setIfInBounds_toArray, List.set_cons_zero, List.set_cons_succ]
  refine takeAt 10 (some 27) ?_ rfl rfl (by kernel_rfl) (by kernel_rfl) (by kernel_rfl) (fun _ _ _ h => h) (Or.inl ⟨by rfl, ?_⟩) hHeld ?_
  rotate_left
  · intro w hSw
    go_simp <;> with_reducible rfl
  try simp only [Act.put, List.setIfInBounds_toArray, List.set_cons_zero, List.set_cons_succ]
  refine takeAt 11 (some 28) ?_ rfl rfl (by kernel_rfl) (by kernel_rfl) (by kernel_rfl) (fun _ _ _ h => h) (Or.inl ⟨by rfl, ?_⟩) hHeld ?_
  rotate_left
  · intro w hSw
    go_simp <;> with_reducible rfl
  try simp only [Act.put, List.setIfInBounds_toArray, List.set_cons_zero, List.set_cons_succ]
  refine takeAt 12 (some 29) ?_ rfl rfl (by kernel_rfl) (by kernel_rfl) (by kernel_rfl) (fun _ _ _ h => h) (Or.inl ⟨by rfl, ?_⟩) hHeld ?_
  rotate_left
  · intro w hSw
    go_simp <;> with_reducible rfl
  try simp only [Act.put, List.setIfInBounds_toArray, List.set_cons_zero, List.set_cons_succ]
  refine takeAt 13 (some 30) (.int .i64 k) rfl rfl (by kernel_rfl) (by kernel_rfl) (by kernel_rfl) (fun _ _ _ h => h) (Or.inl ⟨by rfl, ?_⟩) hHeld ?_
  · intro w hSw
    have y0 : w.cell? ⟨mb, 27, none⟩ = some (.int .i64 k) := by rw [← HKK.out]; exact hSw.at (mc_tail HS.out 1)
    go_simp <;> with_reducible rfl
  try simp only [Act.put, List.setIfInBounds_toArray, List.set_cons_zero, List.set_cons_succ]
  refine callAtG 14 31 204 (vals := #[.agg #[.string s, .bool fo], .int .i64 a, .int .i64 b, .int .i64 k]) (by kernel_rfl) rfl rfl rfl (by rfl) (by simp [Act.eval]) Tryz.func204 (by kernel_rfl) (by kernel_rfl) ?_
  refine Calls.mono HRP.out ?_
  rintro e w3 ⟨rfl, q⟩
  have H3X : Hid (Mw w0 mb s fo cv m bv wv av w3) := H2.out.kpp (kp_trans (kp_drew _) q)
  clear q
  refine ⟨_, rfl, H3X.out.st, fun hHeld => ?_⟩
  try simp only [Act.put, List.setIfInBounds_toArray, List.set_cons_zero, List.set_cons_succ]
  refine takeAt 15 (some 32) ?_ rfl rfl (by kernel_rfl) (by kernel_rfl) (by kernel_rfl) (fun _ _ _ h => h) (Or.inl ⟨by rfl, ?_⟩) hHeld ?_
  rotate_left
  · intro w hSw
    go_simp <;> with_reducible rfl
  try simp only [Act.put, List.setIfInBounds_toArray, List.set_cons_zero, List.set_cons_succ]
  refine takeAt 16 (some 33) ?_ rfl rfl (by kernel_rfl) (by kernel_rfl) (by kernel_rfl) (fun _ _ _ h => h) (Or.inl ⟨by rfl, ?_⟩) hHeld ?_
  rotate_left
  · intro w hSw
    go_simp <;> with_reducible rfl
  try simp only [Act.put, List.setIfInBounds_toArray, List.set_cons_zero, List.set_cons_succ]
  refine wpAnyH_done (by kernel_rfl) ?_ _
  refine NoPanic.normal ?_
  have H3 : Hid (Mw w0 mb s fo cv m bv wv av w3) := H3X.out
  cases B with
  | false =>
    have HRY : Hid (Y = (false, m)) := HRX.out
    go_wp2_with fail
    go_ret
    rw [HRY.out]
    exact ⟨rfl, H3.out.x⟩
  | true =>
    have HRY : Hid (Y = (true, m.pos (k + (b - a)))) := HRX.out
    have e27 : w3.cell? ⟨mb, 27, none⟩ = some (.int .i64 k) := by rw [← HKK.out]; exact H3.out.c27 HS.out
    have f27 := H3.out.st.fz 27
    have H4 : Hid (Mw w0 mb s fo cv (m.pos (k + (b - a))) bv wv av (w3.setCell ⟨mb, 27, none⟩ (.int .i64 (k + (b - a) : Nat)))) := H3.out.setK HS.out (k + (b - a))
    have ek : ((k + (b - a) : Nat) : Int) = (k : Int) + ((b : Int) - (a : Int)) := by omega
    rw [ek] at H4
    clear ek
    go_wp2_with fail
    go_ret
    rw [HRY.out]
    exact ⟨rfl, H4.out.x⟩
end
end Go.Proofs.YtalmajiflmejcaaGreat
/- The machine: passes. -/
namespace Go.Proofs.YtalmajiflmejcaaGreat
open Go.ChangeShapes Go.WideShapes Go.ChangeAt Go.RowKit
set_option linter.unusedVariables false
set_option linter.unusedSimpArgs false
theorem wrap_pred {k : Nat} (h : k ≤ 1000000) : IntKind.i64.wrap ((k : Int) - 1) = (k : Int) - 1 := by rw [IntKind.wrap_i64]; omega
section
variable {w0 : World} {mb : Nat} {s : ByteArray} {fo : Bool} {cv bv wv av : Value} {m : Mc} {w w1 w2 : World} {N R M : Nat}
set_option maxHeartbeats 4000000 in
set_option maxRecDepth 100000 in
theorem passes6 (h : Mw w0 mb s fo cv m bv wv av w) (ho : Okm N s.size R M m) (hz : s.size ≤ 1000000) {x : Nat} (hx : x < 22) {c : Nat} {st : S4} {y : Int} (hd : st.ok) :
    Calls Tryz.prog 163 #[.pointer (some ⟨mb, 0, none⟩), (Ins.mk 6 c st (x : Int) y).val] w fun e w' => e = .returned (.bool (passE s fo ⟨6, c, st, (x : Int), y⟩ m).1) ∧ Mx w0 mb s fo cv (passE s fo ⟨6, c, st, (x : Int), y⟩ m).2 w' := by
  have HS : Hid (m.t.ss.length = 22) := ho.t.len
  have hk : m.t.k ≤ 1000000 := Nat.le_trans ho.t.k hz
  obtain ⟨bx, hbx⟩ : ∃ b, w.heap.size = b := ⟨_, rfl⟩
  obtain ⟨W1, hW1⟩ : ∃ W, w.alloc (.cells #[.int .u8 6, .int .u8 c, .int .u64 st.a, .int .u64 st.b, .int .u64 st.c, .int .u64 st.d, .int .i64 (x : Int), .int .i64 y] 110) = W := ⟨_, rfl⟩
  have H1 : Hid (Kp w W1 ∧ Lc 110 bx (Ins.mk 6 c st (x : Int) y).cells W1) := by rw [← hW1, ← hbx]; exact ⟨kp_alloc _ _, Lc.new w (Ins.mk 6 c st (x : Int) y).cells _⟩
  have H1M : Hid (Mw w0 mb s fo cv m bv wv av W1) := h.kpp H1.out.1
  obtain ⟨Y, hY⟩ : ∃ Y, passE s fo ⟨6, c, st, (x : Int), y⟩ m = Y := ⟨_, rfl⟩
  rw [hY]
  have b0 : W1.cell? ⟨bx, 0, none⟩ = some (.int .u8 6) := H1.out.2.at rfl
  have b6 : W1.cell? ⟨bx, 6, none⟩ = some (.int .i64 (x : Int)) := H1.out.2.at rfl
  obtain ⟨k, hkk⟩ : ∃ k, m.t.k = k := ⟨_, rfl⟩
  rw [hkk] at hk
  have HKK : Hid (m.t.k = k) := hkk
  have c27 : W1.cell? ⟨mb, 27, none⟩ = some (.int .i64 k) := by rw [← hkk]; exact H1M.out.c27 HS.out
  have HO : Hid (Okm N s.size R M m ∧ s.size ≤ 1000000 ∧ st.ok) := ⟨ho, hz, hd⟩
  have HY : Hid (passE s fo ⟨6, c, st, (x : Int), y⟩ m = Y) := hY
  obtain ⟨u, hu⟩ : ∃ u, W1.cell? ⟨mb, 4 + x, none⟩ = some u := ⟨_, H1M.out.cs HS.out hx⟩
  have fu := H1M.out.st.fz (4 + x)
  have hxi : (0 : Int) ≤ (x : Int) ∧ (x : Int) < 22 := by omega
  have H2 : Hid (Mw w0 mb s fo cv { m with t := { m.t with ss := m.t.ss.set x k } } bv wv av (W1.setCell ⟨mb, 4 + x, none⟩ (.int .i64 k)).drew) := (H1M.out.setSlot HS.out hx k).kpp (kp_drew _)
  have HRX : Hid (Y = (true, { m with t := { m.t with ss := m.t.ss.set x k } })) := by show _ = _; rw [← hY, ← hkk]; rfl
  unfold Ins.val
  clear h ho hY hkk hd hz
  go_enter Tryz.func163, Tryz.ntmps163
  go_upto_region 4 with fail
  try rw [hW1]
  try rw [hbx]
  clear hW1 hbx
  go_region
  all_goals
    go_wp2_with fail
    go_ret
    rw [HRX.out]
    exact ⟨rfl, H2.out.x⟩
set_option maxHeartbeats 4000000 in
set_option maxRecDepth 100000 in
theorem passes7 (h : Mw w0 mb s fo cv m bv wv av w) (ho : Okm N s.size R M m) (hz : s.size ≤ 1000000) {x : Nat} (hx : x < 10) {c : Nat} {st : S4} {y : Int} (hd : st.ok) :
    Calls Tryz.prog 163 #[.pointer (some ⟨mb, 0, none⟩), (Ins.mk 7 c st (x : Int) y).val] w fun e w' => e = .returned (.bool (passE s fo ⟨7, c, st, (x : Int), y⟩ m).1) ∧ Mx w0 mb s fo cv (passE s fo ⟨7, c, st, (x : Int), y⟩ m).2 w' := by
  have HS : Hid (m.t.ss.length = 22) := ho.t.len
  have hk : m.t.k ≤ 1000000 := Nat.le_trans ho.t.k hz
  obtain ⟨bx, hbx⟩ : ∃ b, w.heap.size = b := ⟨_, rfl⟩
  obtain ⟨W1, hW1⟩ : ∃ W, w.alloc (.cells #[.int .u8 7, .int .u8 c, .int .u64 st.a, .int .u64 st.b, .int .u64 st.c, .int .u64 st.d, .int .i64 (x : Int), .int .i64 y] 110) = W := ⟨_, rfl⟩
  have H1 : Hid (Kp w W1 ∧ Lc 110 bx (Ins.mk 7 c st (x : Int) y).cells W1) := by rw [← hW1, ← hbx]; exact ⟨kp_alloc _ _, Lc.new w (Ins.mk 7 c st (x : Int) y).cells _⟩
  have H1M : Hid (Mw w0 mb s fo cv m bv wv av W1) := h.kpp H1.out.1
  obtain ⟨Y, hY⟩ : ∃ Y, passE s fo ⟨7, c, st, (x : Int), y⟩ m = Y := ⟨_, rfl⟩
  rw [hY]
  have b0 : W1.cell? ⟨bx, 0, none⟩ = some (.int .u8 7) := H1.out.2.at rfl
  have b6 : W1.cell? ⟨bx, 6, none⟩ = some (.int .i64 (x : Int)) := H1.out.2.at rfl
  obtain ⟨k, hkk⟩ : ∃ k, m.t.k = k := ⟨_, rfl⟩
  rw [hkk] at hk
  have HKK : Hid (m.t.k = k) := hkk
  have c27 : W1.cell? ⟨mb, 27, none⟩ = some (.int .i64 k) := by rw [← hkk]; exact H1M.out.c27 HS.out
  have HO : Hid (Okm N s.size R M m ∧ s.size ≤ 1000000 ∧ st.ok) := ⟨ho, hz, hd⟩
  have HY : Hid (passE s fo ⟨7, c, st, (x : Int), y⟩ m = Y) := hY
  have HC : Hid (Calls Tryz.prog 184 #[.pointer (some ⟨mb, 0, none⟩), .int .i64 x] W1 fun e w' => e = .returned (.bool (againE s fo x m).1) ∧ Mx w0 mb s fo cv (againE s fo x m).2 w') := passAgain_m H1M.out ho hz hx
  have HRX : Hid (Y = againE s fo x m) := by show _ = _; rw [← hY]; rfl
  unfold Ins.val
  clear h ho hY hkk hd hz
  go_enter Tryz.func163, Tryz.ntmps163
  go_upto_region 6 with fail
  try rw [hW1]
  try rw [hbx]
  clear hW1 hbx
  go_wp2_with (go_at_call 184; refine Calls.mono HC.out ?_; rintro e w3 ⟨rfl, q⟩; have H3 : Hid (Mx w0 mb s fo cv (againE s fo x m).2 w3) := q; clear q)
  go_ret
  rw [HRX.out]
  exact ⟨rfl, H3.out⟩
set_option maxHeartbeats 4000000 in
set_option maxRecDepth 100000 in
theorem passes8 (h : Mw w0 mb s fo cv m bv wv av w) (ho : Okm N s.size R M m) (hz : s.size ≤ 1000000)  {c : Nat} {st : S4} {x y : Int} (hd : st.ok) :
    Calls Tryz.prog 163 #[.pointer (some ⟨mb, 0, none⟩), (Ins.mk 8 c st x y).val] w fun e w' => e = .returned (.bool (passE s fo ⟨8, c, st, x, y⟩ m).1) ∧ Mx w0 mb s fo cv (passE s fo ⟨8, c, st, x, y⟩ m).2 w' := by
  have HS : Hid (m.t.ss.length = 22) := ho.t.len
  have hk : m.t.k ≤ 1000000 := Nat.le_trans ho.t.k hz
  obtain ⟨bx, hbx⟩ : ∃ b, w.heap.size = b := ⟨_, rfl⟩
  obtain ⟨W1, hW1⟩ : ∃ W, w.alloc (.cells #[.int .u8 8, .int .u8 c, .int .u64 st.a, .int .u64 st.b, .int .u64 st.c, .int .u64 st.d, .int .i64 x, .int .i64 y] 110) = W := ⟨_, rfl⟩
  have H1 : Hid (Kp w W1 ∧ Lc 110 bx (Ins.mk 8 c st x y).cells W1) := by rw [← hW1, ← hbx]; exact ⟨kp_alloc _ _, Lc.new w (Ins.mk 8 c st x y).cells _⟩
  have H1M : Hid (Mw w0 mb s fo cv m bv wv av W1) := h.kpp H1.out.1
  obtain ⟨Y, hY⟩ : ∃ Y, passE s fo ⟨8, c, st, x, y⟩ m = Y := ⟨_, rfl⟩
  rw [hY]
  have b0 : W1.cell? ⟨bx, 0, none⟩ = some (.int .u8 8) := H1.out.2.at rfl
  have b6 : W1.cell? ⟨bx, 6, none⟩ = some (.int .i64 x) := H1.out.2.at rfl
  obtain ⟨k, hkk⟩ : ∃ k, m.t.k = k := ⟨_, rfl⟩
  rw [hkk] at hk
  have HKK : Hid (m.t.k = k) := hkk
  have c27 : W1.cell? ⟨mb, 27, none⟩ = some (.int .i64 k) := by rw [← hkk]; exact H1M.out.c27 HS.out
  have HO : Hid (Okm N s.size R M m ∧ s.size ≤ 1000000 ∧ st.ok) := ⟨ho, hz, hd⟩
  have HY : Hid (passE s fo ⟨8, c, st, x, y⟩ m = Y) := hY
  have HRX : Hid (Y = ((k : Int) == 0, m)) := by show _ = _; rw [← hY, ← hkk]; show (m.t.k == 0, m) = _; congr 1; rw [Bool.eq_iff_iff]; simp; try omega
  unfold Ins.val
  clear h ho hY hkk hd hz
  go_enter Tryz.func163, Tryz.ntmps163
  go_upto_region 8 with fail
  try rw [hW1]
  try rw [hbx]
  clear hW1 hbx
  go_wp2_with fail
  go_ret
  rw [HRX.out]
  exact ⟨rfl, H1M.out.x⟩
set_option maxHeartbeats 4000000 in
set_option maxRecDepth 100000 in
theorem passes9 (h : Mw w0 mb s fo cv m bv wv av w) (ho : Okm N s.size R M m) (hz : s.size ≤ 1000000)  {c : Nat} {st : S4} {x y : Int} (hd : st.ok) :
    Calls Tryz.prog 163 #[.pointer (some ⟨mb, 0, none⟩), (Ins.mk 9 c st x y).val] w fun e w' => e = .returned (.bool (passE s fo ⟨9, c, st, x, y⟩ m).1) ∧ Mx w0 mb s fo cv (passE s fo ⟨9, c, st, x, y⟩ m).2 w' := by
  have HS : Hid (m.t.ss.length = 22) := ho.t.len
  have hk : m.t.k ≤ 1000000 := Nat.le_trans ho.t.k hz
  obtain ⟨bx, hbx⟩ : ∃ b, w.heap.size = b := ⟨_, rfl⟩
  obtain ⟨W1, hW1⟩ : ∃ W, w.alloc (.cells #[.int .u8 9, .int .u8 c, .int .u64 st.a, .int .u64 st.b, .int .u64 st.c, .int .u64 st.d, .int .i64 x, .int .i64 y] 110) = W := ⟨_, rfl⟩
  have H1 : Hid (Kp w W1 ∧ Lc 110 bx (Ins.mk 9 c st x y).cells W1) := by rw [← hW1, ← hbx]; exact ⟨kp_alloc _ _, Lc.new w (Ins.mk 9 c st x y).cells _⟩
  have H1M : Hid (Mw w0 mb s fo cv m bv wv av W1) := h.kpp H1.out.1
  obtain ⟨Y, hY⟩ : ∃ Y, passE s fo ⟨9, c, st, x, y⟩ m = Y := ⟨_, rfl⟩
  rw [hY]
  have b0 : W1.cell? ⟨bx, 0, none⟩ = some (.int .u8 9) := H1.out.2.at rfl
  have b6 : W1.cell? ⟨bx, 6, none⟩ = some (.int .i64 x) := H1.out.2.at rfl
  obtain ⟨k, hkk⟩ : ∃ k, m.t.k = k := ⟨_, rfl⟩
  rw [hkk] at hk
  have HKK : Hid (m.t.k = k) := hkk
  have c27 : W1.cell? ⟨mb, 27, none⟩ = some (.int .i64 k) := by rw [← hkk]; exact H1M.out.c27 HS.out
  have HO : Hid (Okm N s.size R M m ∧ s.size ≤ 1000000 ∧ st.ok) := ⟨ho, hz, hd⟩
  have HY : Hid (passE s fo ⟨9, c, st, x, y⟩ m = Y) := hY
  have c0 := H1M.out.c0
  have HRX : Hid (Y = ((k : Int) == (s.size : Int), m)) := by show _ = _; rw [← hY, ← hkk]; show (m.t.k == s.size, m) = _; congr 1; rw [Bool.eq_iff_iff]; simp; try omega
  unfold Ins.val
  clear h ho hY hkk hd hz
  go_enter Tryz.func163, Tryz.ntmps163
  go_upto_region 10 with fail
  try rw [hW1]
  try rw [hbx]
  clear hW1 hbx
  go_region
  all_goals
    go_wp2_with fail
    go_ret
    rw [HRX.out]
    exact ⟨rfl, (H1M.out.kpp (kp_drew _)).x⟩
set_option maxHeartbeats 4000000 in
set_option maxRecDepth 100000 in
theorem passes10 (h : Mw w0 mb s fo cv m bv wv av w) (ho : Okm N s.size R M m) (hz : s.size ≤ 1000000)  {c : Nat} {st : S4} {x y : Int} (hd : st.ok) :
    Calls Tryz.prog 163 #[.pointer (some ⟨mb, 0, none⟩), (Ins.mk 10 c st x y).val] w fun e w' => e = .returned (.bool (passE s fo ⟨10, c, st, x, y⟩ m).1) ∧ Mx w0 mb s fo cv (passE s fo ⟨10, c, st, x, y⟩ m).2 w' := by
  have HS : Hid (m.t.ss.length = 22) := ho.t.len
  have hk : m.t.k ≤ 1000000 := Nat.le_trans ho.t.k hz
  obtain ⟨bx, hbx⟩ : ∃ b, w.heap.size = b := ⟨_, rfl⟩
  obtain ⟨W1, hW1⟩ : ∃ W, w.alloc (.cells #[.int .u8 10, .int .u8 c, .int .u64 st.a, .int .u64 st.b, .int .u64 st.c, .int .u64 st.d, .int .i64 x, .int .i64 y] 110) = W := ⟨_, rfl⟩
  have H1 : Hid (Kp w W1 ∧ Lc 110 bx (Ins.mk 10 c st x y).cells W1) := by rw [← hW1, ← hbx]; exact ⟨kp_alloc _ _, Lc.new w (Ins.mk 10 c st x y).cells _⟩
  have H1M : Hid (Mw w0 mb s fo cv m bv wv av W1) := h.kpp H1.out.1
  obtain ⟨Y, hY⟩ : ∃ Y, passE s fo ⟨10, c, st, x, y⟩ m = Y := ⟨_, rfl⟩
  rw [hY]
  have b0 : W1.cell? ⟨bx, 0, none⟩ = some (.int .u8 10) := H1.out.2.at rfl
  have b6 : W1.cell? ⟨bx, 6, none⟩ = some (.int .i64 x) := H1.out.2.at rfl
  obtain ⟨k, hkk⟩ : ∃ k, m.t.k = k := ⟨_, rfl⟩
  rw [hkk] at hk
  have HKK : Hid (m.t.k = k) := hkk
  have c27 : W1.cell? ⟨mb, 27, none⟩ = some (.int .i64 k) := by rw [← hkk]; exact H1M.out.c27 HS.out
  have HO : Hid (Okm N s.size R M m ∧ s.size ≤ 1000000 ∧ st.ok) := ⟨ho, hz, hd⟩
  have HY : Hid (passE s fo ⟨10, c, st, x, y⟩ m = Y) := hY
  obtain ⟨A, hA⟩ : ∃ A, wrdAt s (k : Int) = A := ⟨_, rfl⟩
  obtain ⟨B, hB⟩ : ∃ B, wrdAt s ((k : Int) - 1) = B := ⟨_, rfl⟩
  have HA : Hid (∀ z, Calls Tryz.prog 185 #[.agg #[.string s, .bool fo], .int .i64 (k : Int)] z fun e w' => e = .returned (.bool A) ∧ Kp z w') := by intro z; have := isWord_m s fo (k : Int) z; rw [hA] at this; exact this
  have HB : Hid (∀ z, Calls Tryz.prog 185 #[.agg #[.string s, .bool fo], .int .i64 ((k : Int) - 1)] z fun e w' => e = .returned (.bool B) ∧ Kp z w') := by intro z; have := isWord_m s fo ((k : Int) - 1) z; rw [hB] at this; exact this
  have HRX : Hid (Y = (A && !B, m)) := by show _ = _; rw [← hY, ← hA, ← hB, ← HKK.out]; rfl
  clear hA hB
  have hwr : IntKind.i64.wrap ((k : Int) - 1) = (k : Int) - 1 := wrap_pred hk
  unfold Ins.val
  clear h ho hY hkk hd hz
  go_enter Tryz.func163, Tryz.ntmps163
  go_upto_region 12 with fail
  try rw [hW1]
  try rw [hbx]
  clear hW1 hbx
  cases A with
  | false =>
    refine wp_region_noPanic ?_
    refine wp_region_held_drew (S := fun z => Lc 163 mb (mcells s fo bv wv m.t cv av m.st) z ∧ Lc 110 bx (Ins.mk 10 c st x y).cells z) (by kernel_rfl) (⟨H1M.out.st.kp (kp_drew _), H1.out.2.kp (kp_drew _)⟩) (fun hHeld => ?_)
    refine takeAt 0 (some 54) ?_ rfl rfl (by kernel_rfl) (by kernel_rfl) (by kernel_rfl) (fun _ _ _ h => h) (Or.inl ⟨by rfl, ?_⟩) hHeld ?_
    rotate_left
    · intro w hSw
      go_simp <;> with_reducible rfl
    try simp only [Act.put, List.setIfInBounds_toArray, List.set_cons_zero, List.set_cons_succ]
    refine takeAt 1 (some 55) ?_ rfl rfl (by kernel_rfl) (by kernel_rfl) (by kernel_rfl) (fun _ _ _ h => h) (Or.inl ⟨by rfl, ?_⟩) hHeld ?_
    rotate_left
    · intro w hSw
      go_simp <;> with_reducible rfl
    try simp only [Act.put, List.setIfInBounds_toArray, List.set_cons_zero, List.set_cons_succ]
    refine takeAt 2 (some 56) ?_ rfl rfl (by kernel_rfl) (by kernel_rfl) (by kernel_rfl) (fun _ _ _ h => h) (Or.inl ⟨by rfl, ?_⟩) hHeld ?_
    rotate_left
    · intro w hSw
      go_simp <;> with_reducible rfl
    try simp only [Act.put, List.setIfInBounds_toArray, List.set_cons_zero, List.set_cons_succ]
    refine takeAt 3 (some 57) (.agg #[.string s, .bool fo]) rfl rfl (by kernel_rfl) (by kernel_rfl) (by kernel_rfl) (fun _ _ _ h => h) (Or.inl ⟨by rfl, ?_⟩) hHeld ?_
    · intro w hSw
      have y0 : w.cell? ⟨mb, 0, none⟩ = some (.string s) := hSw.1.at rfl
      have y1 : w.cell? ⟨mb, 1, none⟩ = some (.bool fo) := hSw.1.at rfl
      go_simp <;> with_reducible rfl
    try simp only [Act.put, List.setIfInBounds_toArray, List.set_cons_zero, List.set_cons_succ]
    refine takeAt 4 (some 58) ?_ rfl rfl (by kernel_rfl) (by kernel_rfl) (by kernel_rfl) (fun _ _ _ h => h) (Or.inl ⟨by rfl, ?_⟩) hHeld ?_
    rotate_left
    · intro w hSw
      go_simp <;> with_reducible rfl
    try simp only [Act.put, List.setIfInBounds_toArray, List.set_cons_zero, List.set_cons_succ]
    refine takeAt 5 (some 59) ?_ rfl rfl (by kernel_rfl) (by kernel_rfl) (by kernel_rfl) (fun _ _ _ h => h) (Or.inl ⟨by rfl, ?_⟩) hHeld ?_
    rotate_left
    · intro w hSw
      go_simp <;> with_reducible rfl
    try simp only [Act.put, List.setIfInBounds_toArray, List.set_cons_zero, List.set_cons_succ]
    refine takeAt 6 (some 60) ?_ rfl rfl (by kernel_rfl) (by kernel_rfl) (by kernel_rfl) (fun _ _ _ h => h) (Or.inl ⟨by rfl, ?_⟩) hHeld ?_
    rotate_left
    · intro w hSw
      go_simp <;> with_reducible rfl
    try simp only [Act.put, List.setIfInBounds_toArray, List.set_cons_zero, List.set_cons_succ]
    refine takeAt 7 (some 61) ?_ rfl rfl (by kernel_rfl) (by kernel_rfl) (by kernel_rfl) (fun _ _ _ h => h) (Or.inl ⟨by rfl, ?_⟩) hHeld ?_
    rotate_left
    · intro w hSw
      go_simp <;> with_reducible rfl
    try simp only [Act.put, List.setIfInBounds_toArray, List.set_cons_zero, List.set_cons_succ]
    refine takeAt 8 (some 62) (.int .i64 k) rfl rfl (by kernel_rfl) (by kernel_rfl) (by kernel_rfl) (fun _ _ _ h => h) (Or.inl ⟨by rfl, ?_⟩) hHeld ?_
    · intro w hSw
      have y0 : w.cell? ⟨mb, 27, none⟩ = some (.int .i64 k) := by rw [← HKK.out]; exact hSw.1.at (mc_tail HS.out 1)
      go_simp <;> with_reducible rfl
    try simp only [Act.put, List.setIfInBounds_toArray, List.set_cons_zero, List.set_cons_succ]
    refine callAt 9 63 185 (vals := #[.agg #[.string s, .bool fo], .int .i64 (k : Int)]) (by kernel_rfl) rfl rfl rfl rfl (by simp [Act.eval, hwr]) Tryz.func185 (by kernel_rfl) (by kernel_rfl) ?_
    refine Calls.mono (HA.out _) ?_
    rintro e x1 ⟨rfl, q⟩
    have Kx1 : Hid (Kp W1 x1) := kp_trans (kp_drew _) q
    clear q
    refine ⟨_, rfl, ⟨H1M.out.st.kp Kx1.out, H1.out.2.kp Kx1.out⟩, fun hHeld => ?_⟩
    try simp only [Act.put, List.setIfInBounds_toArray, List.set_cons_zero, List.set_cons_succ]
    refine takeAt 10 (some 64) ?_ rfl rfl (by kernel_rfl) (by kernel_rfl) (by kernel_rfl) (fun _ _ _ h => h) (Or.inl ⟨by rfl, ?_⟩) hHeld ?_
    rotate_left
    · intro w hSw
      go_simp <;> with_reducible rfl
    try simp only [Act.put, List.setIfInBounds_toArray, List.set_cons_zero, List.set_cons_succ]
    refine takeAt 11 (some 65) undef rfl rfl (by kernel_rfl) (by kernel_rfl) (by kernel_rfl) (fun _ _ _ h => h) (Or.inr ⟨by rfl, rfl⟩) hHeld ?_
    try simp only [Act.put, List.setIfInBounds_toArray, List.set_cons_zero, List.set_cons_succ]
    refine takeAt 12 (some 66) undef rfl rfl (by kernel_rfl) (by kernel_rfl) (by kernel_rfl) (fun _ _ _ h => h) (Or.inr ⟨by rfl, rfl⟩) hHeld ?_
    try simp only [Act.put, List.setIfInBounds_toArray, List.set_cons_zero, List.set_cons_succ]
    refine takeAt 13 (some 67) undef rfl rfl (by kernel_rfl) (by kernel_rfl) (by kernel_rfl) (fun _ _ _ h => h) (Or.inr ⟨by rfl, rfl⟩) hHeld ?_
    try simp only [Act.put, List.setIfInBounds_toArray, List.set_cons_zero, List.set_cons_succ]
    refine takeAt 14 (some 68) undef rfl rfl (by kernel_rfl) (by kernel_rfl) (by kernel_rfl) (fun _ _ _ h => h) (Or.inr ⟨by rfl, rfl⟩) hHeld ?_
    try simp only [Act.put, List.setIfInBounds_toArray, List.set_cons_zero, List.set_cons_succ]
    refine takeAt 15 (some 69) undef rfl rfl (by kernel_rfl) (by kernel_rfl) (by kernel_rfl) (fun _ _ _ h => h) (Or.inr ⟨by rfl, rfl⟩) hHeld ?_
    try simp only [Act.put, List.setIfInBounds_toArray, List.set_cons_zero, List.set_cons_succ]
    refine takeAt 16 (some 70) undef rfl rfl (by kernel_rfl) (by kernel_rfl) (by kernel_rfl) (fun _ _ _ h => h) (Or.inr ⟨by rfl, rfl⟩) hHeld ?_
    try simp only [Act.put, List.setIfInBounds_toArray, List.set_cons_zero, List.set_cons_succ]
    refine takeAt 17 (some 71) undef rfl rfl (by kernel_rfl) (by kernel_rfl) (by kernel_rfl) (fun _ _ _ h => h) (Or.inr ⟨by rfl, rfl⟩) hHeld ?_
    try simp only [Act.put, List.setIfInBounds_toArray, List.set_cons_zero, List.set_cons_succ]
    refine takeAt 18 (some 72) undef rfl rfl (by kernel_rfl) (by kernel_rfl) (by kernel_rfl) (fun _ _ _ h => h) (Or.inr ⟨by rfl, rfl⟩) hHeld ?_
    try simp only [Act.put, List.setIfInBounds_toArray, List.set_cons_zero, List.set_cons_succ]
    refine takeAt 19 (some 73) undef rfl rfl (by kernel_rfl) (by kernel_rfl) (by kernel_rfl) (fun _ _ _ h => h) (Or.inr ⟨by rfl, rfl⟩) hHeld ?_
    try simp only [Act.put, List.setIfInBounds_toArray, List.set_cons_zero, List.set_cons_succ]
    refine takeAt 20 (some 74) undef rfl rfl (by kernel_rfl) (by kernel_rfl) (by kernel_rfl) (fun _ _ _ h => h) (Or.inr ⟨by rfl, rfl⟩) hHeld ?_
    try simp only [Act.put, List.setIfInBounds_toArray, List.set_cons_zero, List.set_cons_succ]
    refine takeAt 21 (some 75) undef rfl rfl (by kernel_rfl) (by kernel_rfl) (by kernel_rfl) (fun _ _ _ h => h) (Or.inr ⟨by rfl, rfl⟩) hHeld ?_
    try simp only [Act.put, List.setIfInBounds_toArray, List.set_cons_zero, List.set_cons_succ]
    refine takeAt 22 (some 76) undef rfl rfl (by kernel_rfl) (by kernel_rfl) (by kernel_rfl) (fun _ _ _ h => h) (Or.inr ⟨by rfl, rfl⟩) hHeld ?_
    try simp only [Act.put, List.setIfInBounds_toArray, List.set_cons_zero, List.set_cons_succ]
    refine takeAt 23 (some 77) ?_ rfl rfl (by kernel_rfl) (by kernel_rfl) (by kernel_rfl) (fun _ _ _ h => h) (Or.inl ⟨by rfl, ?_⟩) hHeld ?_
    rotate_left
    · intro w hSw
      go_simp <;> with_reducible rfl
    try simp only [Act.put, List.setIfInBounds_toArray, List.set_cons_zero, List.set_cons_succ]
    refine takeAt 24 (some 4) ?_ rfl rfl (by kernel_rfl) (by kernel_rfl) (by kernel_rfl) (fun _ _ _ h => h) (Or.inl ⟨by rfl, ?_⟩) hHeld ?_
    rotate_left
    · intro w hSw
      go_simp <;> with_reducible rfl
    try simp only [Act.put, List.setIfInBounds_toArray, List.set_cons_zero, List.set_cons_succ]
    refine wpAnyH_done (by kernel_rfl) ?_ _
    refine NoPanic.normal ?_
    go_wp2_with fail
    go_ret
    rw [HRX.out]
    exact ⟨by first | rfl | (cases B <;> rfl), (H1M.out.kpp Kx1.out).x⟩
  | true =>
    refine wp_region_noPanic ?_
    refine wp_region_held_drew (S := fun z => Lc 163 mb (mcells s fo bv wv m.t cv av m.st) z ∧ Lc 110 bx (Ins.mk 10 c st x y).cells z) (by kernel_rfl) (⟨H1M.out.st.kp (kp_drew _), H1.out.2.kp (kp_drew _)⟩) (fun hHeld => ?_)
    refine takeAt 0 (some 54) ?_ rfl rfl (by kernel_rfl) (by kernel_rfl) (by kernel_rfl) (fun _ _ _ h => h) (Or.inl ⟨by rfl, ?_⟩) hHeld ?_
    rotate_left
    · intro w hSw
      go_simp <;> with_reducible rfl
    try simp only [Act.put, List.setIfInBounds_toArray, List.set_cons_zero, List.set_cons_succ]
    refine takeAt 1 (some 55) ?_ rfl rfl (by kernel_rfl) (by kernel_rfl) (by kernel_rfl) (fun _ _ _ h => h) (Or.inl ⟨by rfl, ?_⟩) hHeld ?_
    rotate_left
    · intro w hSw
      go_simp <;> with_reducible rfl
    try simp only [Act.put, List.setIfInBounds_toArray, List.set_cons_zero, List.set_cons_succ]
    refine takeAt 2 (some 56) ?_ rfl rfl (by kernel_rfl) (by kernel_rfl) (by kernel_rfl) (fun _ _ _ h => h) (Or.inl ⟨by rfl, ?_⟩) hHeld ?_
    rotate_left
    · intro w hSw
      go_simp <;> with_reducible rfl
    try simp only [Act.put, List.setIfInBounds_toArray, List.set_cons_zero, List.set_cons_succ]
    refine takeAt 3 (some 57) (.agg #[.string s, .bool fo]) rfl rfl (by kernel_rfl) (by kernel_rfl) (by kernel_rfl) (fun _ _ _ h => h) (Or.inl ⟨by rfl, ?_⟩) hHeld ?_
    · intro w hSw
      have y0 : w.cell? ⟨mb, 0, none⟩ = some (.string s) := hSw.1.at rfl
      have y1 : w.cell? ⟨mb, 1, none⟩ = some (.bool fo) := hSw.1.at rfl
      go_simp <;> with_reducible rfl
    try simp only [Act.put, List.setIfInBounds_toArray, List.set_cons_zero, List.set_cons_succ]
    refine takeAt 4 (some 58) ?_ rfl rfl (by kernel_rfl) (by kernel_rfl) (by kernel_rfl) (fun _ _ _ h => h) (Or.inl ⟨by rfl, ?_⟩) hHeld ?_
    rotate_left
    · intro w hSw
      go_simp <;> with_reducible rfl
    try simp only [Act.put, List.setIfInBounds_toArray, List.set_cons_zero, List.set_cons_succ]
    refine takeAt 5 (some 59) ?_ rfl rfl (by kernel_rfl) (by kernel_rfl) (by kernel_rfl) (fun _ _ _ h => h) (Or.inl ⟨by rfl, ?_⟩) hHeld ?_
    rotate_left
    · intro w hSw
      go_simp <;> with_reducible rfl
    try simp only [Act.put, List.setIfInBounds_toArray, List.set_cons_zero, List.set_cons_succ]
    refine takeAt 6 (some 60) ?_ rfl rfl (by kernel_rfl) (by kernel_rfl) (by kernel_rfl) (fun _ _ _ h => h) (Or.inl ⟨by rfl, ?_⟩) hHeld ?_
    rotate_left
    · intro w hSw
      go_simp <;> with_reducible rfl
    try simp only [Act.put, List.setIfInBounds_toArray, List.set_cons_zero, List.set_cons_succ]
    refine takeAt 7 (some 61) ?_ rfl rfl (by kernel_rfl) (by kernel_rfl) (by kernel_rfl) (fun _ _ _ h => h) (Or.inl ⟨by rfl, ?_⟩) hHeld ?_
    rotate_left
    · intro w hSw
      go_simp <;> with_reducible rfl
    try simp only [Act.put, List.setIfInBounds_toArray, List.set_cons_zero, List.set_cons_succ]
    refine takeAt 8 (some 62) (.int .i64 k) rfl rfl (by kernel_rfl) (by kernel_rfl) (by kernel_rfl) (fun _ _ _ h => h) (Or.inl ⟨by rfl, ?_⟩) hHeld ?_
    · intro w hSw
      have y0 : w.cell? ⟨mb, 27, none⟩ = some (.int .i64 k) := by rw [← HKK.out]; exact hSw.1.at (mc_tail HS.out 1)
      go_simp <;> with_reducible rfl
    try simp only [Act.put, List.setIfInBounds_toArray, List.set_cons_zero, List.set_cons_succ]
    refine callAt 9 63 185 (vals := #[.agg #[.string s, .bool fo], .int .i64 (k : Int)]) (by kernel_rfl) rfl rfl rfl rfl (by simp [Act.eval, hwr]) Tryz.func185 (by kernel_rfl) (by kernel_rfl) ?_
    refine Calls.mono (HA.out _) ?_
    rintro e x1 ⟨rfl, q⟩
    have Kx1 : Hid (Kp W1 x1) := kp_trans (kp_drew _) q
    clear q
    refine ⟨_, rfl, ⟨H1M.out.st.kp Kx1.out, H1.out.2.kp Kx1.out⟩, fun hHeld => ?_⟩
    try simp only [Act.put, List.setIfInBounds_toArray, List.set_cons_zero, List.set_cons_succ]
    refine takeAt 10 (some 64) ?_ rfl rfl (by kernel_rfl) (by kernel_rfl) (by kernel_rfl) (fun _ _ _ h => h) (Or.inl ⟨by rfl, ?_⟩) hHeld ?_
    rotate_left
    · intro w hSw
      go_simp <;> with_reducible rfl
    try simp only [Act.put, List.setIfInBounds_toArray, List.set_cons_zero, List.set_cons_succ]
    refine takeAt 11 (some 65) ?_ rfl rfl (by kernel_rfl) (by kernel_rfl) (by kernel_rfl) (fun _ _ _ h => h) (Or.inl ⟨by rfl, ?_⟩) hHeld ?_
    rotate_left
    · intro w hSw
      go_simp <;> with_reducible rfl
    try simp only [Act.put, List.setIfInBounds_toArray, List.set_cons_zero, List.set_cons_succ]
    refine takeAt 12 (some 66) ?_ rfl rfl (by kernel_rfl) (by kernel_rfl) (by kernel_rfl) (fun _ _ _ h => h) (Or.inl ⟨by rfl, ?_⟩) hHeld ?_
    rotate_left
    · intro w hSw
      go_simp <;> with_reducible rfl
    try simp only [Act.put, List.setIfInBounds_toArray, List.set_cons_zero, List.set_cons_succ]
    refine takeAt 13 (some 67) ?_ rfl rfl (by kernel_rfl) (by kernel_rfl) (by kernel_rfl) (fun _ _ _ h => h) (Or.inl ⟨by rfl, ?_⟩) hHeld ?_
    rotate_left
    · intro w hSw
      go_simp <;> with_reducible rfl
    try simp only [Act.put, List.setIfInBounds_toArray, List.set_cons_zero, List.set_cons_succ]
    refine takeAt 14 (some 68) (.agg #[.string s, .bool fo]) rfl rfl (by kernel_rfl) (by kernel_rfl) (by kernel_rfl) (fun _ _ _ h => h) (Or.inl ⟨by rfl, ?_⟩) hHeld ?_
    · intro w hSw
      have y0 : w.cell? ⟨mb, 0, none⟩ = some (.string s) := hSw.1.at rfl
      have y1 : w.cell? ⟨mb, 1, none⟩ = some (.bool fo) := hSw.1.at rfl
      go_simp <;> with_reducible rfl
    try simp only [Act.put, List.setIfInBounds_toArray, List.set_cons_zero, List.set_cons_succ]
    refine takeAt 15 (some 69) ?_ rfl rfl (by kernel_rfl) (by kernel_rfl) (by kernel_rfl) (fun _ _ _ h => h) (Or.inl ⟨by rfl, ?_⟩) hHeld ?_
    rotate_left
    · intro w hSw
      go_simp <;> with_reducible rfl
    try simp only [Act.put, List.setIfInBounds_toArray, List.set_cons_zero, List.set_cons_succ]
    refine takeAt 16 (some 70) ?_ rfl rfl (by kernel_rfl) (by kernel_rfl) (by kernel_rfl) (fun _ _ _ h => h) (Or.inl ⟨by rfl, ?_⟩) hHeld ?_
    rotate_left
    · intro w hSw
      go_simp <;> with_reducible rfl
    try simp only [Act.put, List.setIfInBounds_toArray, List.set_cons_zero, List.set_cons_succ]
    refine takeAt 17 (some 71) ?_ rfl rfl (by kernel_rfl) (by kernel_rfl) (by kernel_rfl) (fun _ _ _ h => h) (Or.inl ⟨by rfl, ?_⟩) hHeld ?_
    rotate_left
    · intro w hSw
      go_simp <;> with_reducible rfl
    try simp only [Act.put, List.setIfInBounds_toArray, List.set_cons_zero, List.set_cons_succ]
    refine takeAt 18 (some 72) ?_ rfl rfl (by kernel_rfl) (by kernel_rfl) (by kernel_rfl) (fun _ _ _ h => h) (Or.inl ⟨by rfl, ?_⟩) hHeld ?_
    rotate_left
    · intro w hSw
      go_simp <;> with_reducible rfl
    try simp only [Act.put, List.setIfInBounds_toArray, List.set_cons_zero, List.set_cons_succ]
    refine takeAt 19 (some 73) (.int .i64 k) rfl rfl (by kernel_rfl) (by kernel_rfl) (by kernel_rfl) (fun _ _ _ h => h) (Or.inl ⟨by rfl, ?_⟩) hHeld ?_
    · intro w hSw
      have y0 : w.cell? ⟨mb, 27, none⟩ = some (.int .i64 k) := by rw [← HKK.out]; exact hSw.1.at (mc_tail HS.out 1)
      go_simp <;> with_reducible rfl
    try simp only [Act.put, List.setIfInBounds_toArray, List.set_cons_zero, List.set_cons_succ]
    refine takeAt 20 (some 74) ?_ rfl rfl (by kernel_rfl) (by kernel_rfl) (by kernel_rfl) (fun _ _ _ h => h) (Or.inl ⟨by rfl, ?_⟩) hHeld ?_
    rotate_left
    · intro w hSw
      go_simp <;> with_reducible rfl
    try simp only [Act.put, List.setIfInBounds_toArray, List.set_cons_zero, List.set_cons_succ]
    refine callAtG 21 75 185 (vals := #[.agg #[.string s, .bool fo], .int .i64 ((k : Int) - 1)]) (by kernel_rfl) rfl rfl rfl (by rfl) (by simp [Act.eval, hwr]) Tryz.func185 (by kernel_rfl) (by kernel_rfl) ?_
    refine Calls.mono (HB.out _) ?_
    rintro e x2 ⟨rfl, q⟩
    have Kx2 : Hid (Kp W1 x2) := kp_trans Kx1.out q
    clear q
    refine ⟨_, rfl, ⟨H1M.out.st.kp Kx2.out, H1.out.2.kp Kx2.out⟩, fun hHeld => ?_⟩
    try simp only [Act.put, List.setIfInBounds_toArray, List.set_cons_zero, List.set_cons_succ]
    refine takeAt 22 (some 76) ?_ rfl rfl (by kernel_rfl) (by kernel_rfl) (by kernel_rfl) (fun _ _ _ h => h) (Or.inl ⟨by rfl, ?_⟩) hHeld ?_
    rotate_left
    · intro w hSw
      go_simp <;> with_reducible rfl
    try simp only [Act.put, List.setIfInBounds_toArray, List.set_cons_zero, List.set_cons_succ]
    refine takeAt 23 (some 77) ?_ rfl rfl (by kernel_rfl) (by kernel_rfl) (by kernel_rfl) (fun _ _ _ h => h) (Or.inl ⟨by rfl, ?_⟩) hHeld ?_
    rotate_left
    · intro w hSw
      go_simp <;> with_reducible rfl
    try simp only [Act.put, List.setIfInBounds_toArray, List.set_cons_zero, List.set_cons_succ]
    refine takeAt 24 (some 4) ?_ rfl rfl (by kernel_rfl) (by kernel_rfl) (by kernel_rfl) (fun _ _ _ h => h) (Or.inl ⟨by rfl, ?_⟩) hHeld ?_
    rotate_left
    · intro w hSw
      go_simp <;> with_reducible rfl
    try simp only [Act.put, List.setIfInBounds_toArray, List.set_cons_zero, List.set_cons_succ]
    refine wpAnyH_done (by kernel_rfl) ?_ _
    refine NoPanic.normal ?_
    go_wp2_with fail
    go_ret
    rw [HRX.out]
    exact ⟨by first | rfl | (cases B <;> rfl), (H1M.out.kpp Kx2.out).x⟩
set_option maxHeartbeats 4000000 in
set_option maxRecDepth 100000 in
theorem passes11 (h : Mw w0 mb s fo cv m bv wv av w) (ho : Okm N s.size R M m) (hz : s.size ≤ 1000000)  {c : Nat} {st : S4} {x y : Int} (hd : st.ok) :
    Calls Tryz.prog 163 #[.pointer (some ⟨mb, 0, none⟩), (Ins.mk 11 c st x y).val] w fun e w' => e = .returned (.bool (passE s fo ⟨11, c, st, x, y⟩ m).1) ∧ Mx w0 mb s fo cv (passE s fo ⟨11, c, st, x, y⟩ m).2 w' := by
  have HS : Hid (m.t.ss.length = 22) := ho.t.len
  have hk : m.t.k ≤ 1000000 := Nat.le_trans ho.t.k hz
  obtain ⟨bx, hbx⟩ : ∃ b, w.heap.size = b := ⟨_, rfl⟩
  obtain ⟨W1, hW1⟩ : ∃ W, w.alloc (.cells #[.int .u8 11, .int .u8 c, .int .u64 st.a, .int .u64 st.b, .int .u64 st.c, .int .u64 st.d, .int .i64 x, .int .i64 y] 110) = W := ⟨_, rfl⟩
  have H1 : Hid (Kp w W1 ∧ Lc 110 bx (Ins.mk 11 c st x y).cells W1) := by rw [← hW1, ← hbx]; exact ⟨kp_alloc _ _, Lc.new w (Ins.mk 11 c st x y).cells _⟩
  have H1M : Hid (Mw w0 mb s fo cv m bv wv av W1) := h.kpp H1.out.1
  obtain ⟨Y, hY⟩ : ∃ Y, passE s fo ⟨11, c, st, x, y⟩ m = Y := ⟨_, rfl⟩
  rw [hY]
  have b0 : W1.cell? ⟨bx, 0, none⟩ = some (.int .u8 11) := H1.out.2.at rfl
  have b6 : W1.cell? ⟨bx, 6, none⟩ = some (.int .i64 x) := H1.out.2.at rfl
  obtain ⟨k, hkk⟩ : ∃ k, m.t.k = k := ⟨_, rfl⟩
  rw [hkk] at hk
  have HKK : Hid (m.t.k = k) := hkk
  have c27 : W1.cell? ⟨mb, 27, none⟩ = some (.int .i64 k) := by rw [← hkk]; exact H1M.out.c27 HS.out
  have HO : Hid (Okm N s.size R M m ∧ s.size ≤ 1000000 ∧ st.ok) := ⟨ho, hz, hd⟩
  have HY : Hid (passE s fo ⟨11, c, st, x, y⟩ m = Y) := hY
  obtain ⟨A, hA⟩ : ∃ A, wrdAt s ((k : Int) - 1) = A := ⟨_, rfl⟩
  obtain ⟨B, hB⟩ : ∃ B, wrdAt s (k : Int) = B := ⟨_, rfl⟩
  have HA : Hid (∀ z, Calls Tryz.prog 185 #[.agg #[.string s, .bool fo], .int .i64 ((k : Int) - 1)] z fun e w' => e = .returned (.bool A) ∧ Kp z w') := by intro z; have := isWord_m s fo ((k : Int) - 1) z; rw [hA] at this; exact this
  have HB : Hid (∀ z, Calls Tryz.prog 185 #[.agg #[.string s, .bool fo], .int .i64 (k : Int)] z fun e w' => e = .returned (.bool B) ∧ Kp z w') := by intro z; have := isWord_m s fo (k : Int) z; rw [hB] at this; exact this
  have HRX : Hid (Y = (A && !B, m)) := by show _ = _; rw [← hY, ← hA, ← hB, ← HKK.out]; rfl
  clear hA hB
  have hwr : IntKind.i64.wrap ((k : Int) - 1) = (k : Int) - 1 := wrap_pred hk
  unfold Ins.val
  clear h ho hY hkk hd hz
  go_enter Tryz.func163, Tryz.ntmps163
  go_upto_region 14 with fail
  try rw [hW1]
  try rw [hbx]
  clear hW1 hbx
  cases A with
  | false =>
    refine wp_region_noPanic ?_
    refine wp_region_held_drew (S := fun z => Lc 163 mb (mcells s fo bv wv m.t cv av m.st) z ∧ Lc 110 bx (Ins.mk 11 c st x y).cells z) (by kernel_rfl) (⟨H1M.out.st.kp (kp_drew _), H1.out.2.kp (kp_drew _)⟩) (fun hHeld => ?_)
    refine takeAt 0 (some 80) ?_ rfl rfl (by kernel_rfl) (by kernel_rfl) (by kernel_rfl) (fun _ _ _ h => h) (Or.inl ⟨by rfl, ?_⟩) hHeld ?_
    rotate_left
    · intro w hSw
      go_simp <;> with_reducible rfl
    try simp only [Act.put, List.setIfInBounds_toArray, List.set_cons_zero, List.set_cons_succ]
    refine takeAt 1 (some 81) ?_ rfl rfl (by kernel_rfl) (by kernel_rfl) (by kernel_rfl) (fun _ _ _ h => h) (Or.inl ⟨by rfl, ?_⟩) hHeld ?_
    rotate_left
    · intro w hSw
      go_simp <;> with_reducible rfl
    try simp only [Act.put, List.setIfInBounds_toArray, List.set_cons_zero, List.set_cons_succ]
    refine takeAt 2 (some 82) ?_ rfl rfl (by kernel_rfl) (by kernel_rfl) (by kernel_rfl) (fun _ _ _ h => h) (Or.inl ⟨by rfl, ?_⟩) hHeld ?_
    rotate_left
    · intro w hSw
      go_simp <;> with_reducible rfl
    try simp only [Act.put, List.setIfInBounds_toArray, List.set_cons_zero, List.set_cons_succ]
    refine takeAt 3 (some 83) (.agg #[.string s, .bool fo]) rfl rfl (by kernel_rfl) (by kernel_rfl) (by kernel_rfl) (fun _ _ _ h => h) (Or.inl ⟨by rfl, ?_⟩) hHeld ?_
    · intro w hSw
      have y0 : w.cell? ⟨mb, 0, none⟩ = some (.string s) := hSw.1.at rfl
      have y1 : w.cell? ⟨mb, 1, none⟩ = some (.bool fo) := hSw.1.at rfl
      go_simp <;> with_reducible rfl
    try simp only [Act.put, List.setIfInBounds_toArray, List.set_cons_zero, List.set_cons_succ]
    refine takeAt 4 (some 84) ?_ rfl rfl (by kernel_rfl) (by kernel_rfl) (by kernel_rfl) (fun _ _ _ h => h) (Or.inl ⟨by rfl, ?_⟩) hHeld ?_
    rotate_left
    · intro w hSw
      go_simp <;> with_reducible rfl
    try simp only [Act.put, List.setIfInBounds_toArray, List.set_cons_zero, List.set_cons_succ]
    refine takeAt 5 (some 85) ?_ rfl rfl (by kernel_rfl) (by kernel_rfl) (by kernel_rfl) (fun _ _ _ h => h) (Or.inl ⟨by rfl, ?_⟩) hHeld ?_
    rotate_left
    · intro w hSw
      go_simp <;> with_reducible rfl
    try simp only [Act.put, List.setIfInBounds_toArray, List.set_cons_zero, List.set_cons_succ]
    refine takeAt 6 (some 86) ?_ rfl rfl (by kernel_rfl) (by kernel_rfl) (by kernel_rfl) (fun _ _ _ h => h) (Or.inl ⟨by rfl, ?_⟩) hHeld ?_
    rotate_left
    · intro w hSw
      go_simp <;> with_reducible rfl
    try simp only [Act.put, List.setIfInBounds_toArray, List.set_cons_zero, List.set_cons_succ]
    refine takeAt 7 (some 87) ?_ rfl rfl (by kernel_rfl) (by kernel_rfl) (by kernel_rfl) (fun _ _ _ h => h) (Or.inl ⟨by rfl, ?_⟩) hHeld ?_
    rotate_left
    · intro w hSw
      go_simp <;> with_reducible rfl
    try simp only [Act.put, List.setIfInBounds_toArray, List.set_cons_zero, List.set_cons_succ]
    refine takeAt 8 (some 88) (.int .i64 k) rfl rfl (by kernel_rfl) (by kernel_rfl) (by kernel_rfl) (fun _ _ _ h => h) (Or.inl ⟨by rfl, ?_⟩) hHeld ?_
    · intro w hSw
      have y0 : w.cell? ⟨mb, 27, none⟩ = some (.int .i64 k) := by rw [← HKK.out]; exact hSw.1.at (mc_tail HS.out 1)
      go_simp <;> with_reducible rfl
    try simp only [Act.put, List.setIfInBounds_toArray, List.set_cons_zero, List.set_cons_succ]
    refine takeAt 9 (some 89) ?_ rfl rfl (by kernel_rfl) (by kernel_rfl) (by kernel_rfl) (fun _ _ _ h => h) (Or.inl ⟨by rfl, ?_⟩) hHeld ?_
    rotate_left
    · intro w hSw
      go_simp <;> with_reducible rfl
    try simp only [Act.put, List.setIfInBounds_toArray, List.set_cons_zero, List.set_cons_succ]
    refine callAt 10 90 185 (vals := #[.agg #[.string s, .bool fo], .int .i64 ((k : Int) - 1)]) (by kernel_rfl) rfl rfl rfl rfl (by simp [Act.eval, hwr]) Tryz.func185 (by kernel_rfl) (by kernel_rfl) ?_
    refine Calls.mono (HA.out _) ?_
    rintro e x1 ⟨rfl, q⟩
    have Kx1 : Hid (Kp W1 x1) := kp_trans (kp_drew _) q
    clear q
    refine ⟨_, rfl, ⟨H1M.out.st.kp Kx1.out, H1.out.2.kp Kx1.out⟩, fun hHeld => ?_⟩
    try simp only [Act.put, List.setIfInBounds_toArray, List.set_cons_zero, List.set_cons_succ]
    refine takeAt 11 (some 91) ?_ rfl rfl (by kernel_rfl) (by kernel_rfl) (by kernel_rfl) (fun _ _ _ h => h) (Or.inl ⟨by rfl, ?_⟩) hHeld ?_
    rotate_left
    · intro w hSw
      go_simp <;> with_reducible rfl
    try simp only [Act.put, List.setIfInBounds_toArray, List.set_cons_zero, List.set_cons_succ]
    refine takeAt 12 (some 92) undef rfl rfl (by kernel_rfl) (by kernel_rfl) (by kernel_rfl) (fun _ _ _ h => h) (Or.inr ⟨by rfl, rfl⟩) hHeld ?_
    try simp only [Act.put, List.setIfInBounds_toArray, List.set_cons_zero, List.set_cons_succ]
    refine takeAt 13 (some 93) undef rfl rfl (by kernel_rfl) (by kernel_rfl) (by kernel_rfl) (fun _ _ _ h => h) (Or.inr ⟨by rfl, rfl⟩) hHeld ?_
    try simp only [Act.put, List.setIfInBounds_toArray, List.set_cons_zero, List.set_cons_succ]
    refine takeAt 14 (some 94) undef rfl rfl (by kernel_rfl) (by kernel_rfl) (by kernel_rfl) (fun _ _ _ h => h) (Or.inr ⟨by rfl, rfl⟩) hHeld ?_
    try simp only [Act.put, List.setIfInBounds_toArray, List.set_cons_zero, List.set_cons_succ]
    refine takeAt 15 (some 95) undef rfl rfl (by kernel_rfl) (by kernel_rfl) (by kernel_rfl) (fun _ _ _ h => h) (Or.inr ⟨by rfl, rfl⟩) hHeld ?_
    try simp only [Act.put, List.setIfInBounds_toArray, List.set_cons_zero, List.set_cons_succ]
    refine takeAt 16 (some 96) undef rfl rfl (by kernel_rfl) (by kernel_rfl) (by kernel_rfl) (fun _ _ _ h => h) (Or.inr ⟨by rfl, rfl⟩) hHeld ?_
    try simp only [Act.put, List.setIfInBounds_toArray, List.set_cons_zero, List.set_cons_succ]
    refine takeAt 17 (some 97) undef rfl rfl (by kernel_rfl) (by kernel_rfl) (by kernel_rfl) (fun _ _ _ h => h) (Or.inr ⟨by rfl, rfl⟩) hHeld ?_
    try simp only [Act.put, List.setIfInBounds_toArray, List.set_cons_zero, List.set_cons_succ]
    refine takeAt 18 (some 98) undef rfl rfl (by kernel_rfl) (by kernel_rfl) (by kernel_rfl) (fun _ _ _ h => h) (Or.inr ⟨by rfl, rfl⟩) hHeld ?_
    try simp only [Act.put, List.setIfInBounds_toArray, List.set_cons_zero, List.set_cons_succ]
    refine takeAt 19 (some 99) undef rfl rfl (by kernel_rfl) (by kernel_rfl) (by kernel_rfl) (fun _ _ _ h => h) (Or.inr ⟨by rfl, rfl⟩) hHeld ?_
    try simp only [Act.put, List.setIfInBounds_toArray, List.set_cons_zero, List.set_cons_succ]
    refine takeAt 20 (some 100) undef rfl rfl (by kernel_rfl) (by kernel_rfl) (by kernel_rfl) (fun _ _ _ h => h) (Or.inr ⟨by rfl, rfl⟩) hHeld ?_
    try simp only [Act.put, List.setIfInBounds_toArray, List.set_cons_zero, List.set_cons_succ]
    refine takeAt 21 (some 101) undef rfl rfl (by kernel_rfl) (by kernel_rfl) (by kernel_rfl) (fun _ _ _ h => h) (Or.inr ⟨by rfl, rfl⟩) hHeld ?_
    try simp only [Act.put, List.setIfInBounds_toArray, List.set_cons_zero, List.set_cons_succ]
    refine takeAt 22 (some 102) undef rfl rfl (by kernel_rfl) (by kernel_rfl) (by kernel_rfl) (fun _ _ _ h => h) (Or.inr ⟨by rfl, rfl⟩) hHeld ?_
    try simp only [Act.put, List.setIfInBounds_toArray, List.set_cons_zero, List.set_cons_succ]
    refine takeAt 23 (some 103) ?_ rfl rfl (by kernel_rfl) (by kernel_rfl) (by kernel_rfl) (fun _ _ _ h => h) (Or.inl ⟨by rfl, ?_⟩) hHeld ?_
    rotate_left
    · intro w hSw
      go_simp <;> with_reducible rfl
    try simp only [Act.put, List.setIfInBounds_toArray, List.set_cons_zero, List.set_cons_succ]
    refine takeAt 24 (some 4) ?_ rfl rfl (by kernel_rfl) (by kernel_rfl) (by kernel_rfl) (fun _ _ _ h => h) (Or.inl ⟨by rfl, ?_⟩) hHeld ?_
    rotate_left
    · intro w hSw
      go_simp <;> with_reducible rfl
    try simp only [Act.put, List.setIfInBounds_toArray, List.set_cons_zero, List.set_cons_succ]
    refine wpAnyH_done (by kernel_rfl) ?_ _
    refine NoPanic.normal ?_
    go_wp2_with fail
    go_ret
    rw [HRX.out]
    exact ⟨by first | rfl | (cases B <;> rfl), (H1M.out.kpp Kx1.out).x⟩
  | true =>
    refine wp_region_noPanic ?_
    refine wp_region_held_drew (S := fun z => Lc 163 mb (mcells s fo bv wv m.t cv av m.st) z ∧ Lc 110 bx (Ins.mk 11 c st x y).cells z) (by kernel_rfl) (⟨H1M.out.st.kp (kp_drew _), H1.out.2.kp (kp_drew _)⟩) (fun hHeld => ?_)
    refine takeAt 0 (some 80) ?_ rfl rfl (by kernel_rfl) (by kernel_rfl) (by kernel_rfl) (fun _ _ _ h => h) (Or.inl ⟨by rfl, ?_⟩) hHeld ?_
    rotate_left
    · intro w hSw
      go_simp <;> with_reducible rfl
    try simp only [Act.put, List.setIfInBounds_toArray, List.set_cons_zero, List.set_cons_succ]
    refine takeAt 1 (some 81) ?_ rfl rfl (by kernel_rfl) (by kernel_rfl) (by kernel_rfl) (fun _ _ _ h => h) (Or.inl ⟨by rfl, ?_⟩) hHeld ?_
    rotate_left
    · intro w hSw
      go_simp <;> with_reducible rfl
    try simp only [Act.put, List.setIfInBounds_toArray, List.set_cons_zero, List.set_cons_succ]
    refine takeAt 2 (some 82) ?_ rfl rfl (by kernel_rfl) (by kernel_rfl) (by kernel_rfl) (fun _ _ _ h => h) (Or.inl ⟨by rfl, ?_⟩) hHeld ?_
    rotate_left
    · intro w hSw
      go_simp <;> with_reducible rfl
    try simp only [Act.put, List.setIfInBounds_toArray, List.set_cons_zero, List.set_cons_succ]
    refine takeAt 3 (some 83) (.agg #[.string s, .bool fo]) rfl rfl (by kernel_rfl) (by kernel_rfl) (by kernel_rfl) (fun _ _ _ h => h) (Or.inl ⟨by rfl, ?_⟩) hHeld ?_
    · intro w hSw
      have y0 : w.cell? ⟨mb, 0, none⟩ = some (.string s) := hSw.1.at rfl
      have y1 : w.cell? ⟨mb, 1, none⟩ = some (.bool fo) := hSw.1.at rfl
      go_simp <;> with_reducible rfl
    try simp only [Act.put, List.setIfInBounds_toArray, List.set_cons_zero, List.set_cons_succ]
    refine takeAt 4 (some 84) ?_ rfl rfl (by kernel_rfl) (by kernel_rfl) (by kernel_rfl) (fun _ _ _ h => h) (Or.inl ⟨by rfl, ?_⟩) hHeld ?_
    rotate_left
    · intro w hSw
      go_simp <;> with_reducible rfl
    try simp only [Act.put, List.setIfInBounds_toArray, List.set_cons_zero, List.set_cons_succ]
    refine takeAt 5 (some 85) ?_ rfl rfl (by kernel_rfl) (by kernel_rfl) (by kernel_rfl) (fun _ _ _ h => h) (Or.inl ⟨by rfl, ?_⟩) hHeld ?_
    rotate_left
    · intro w hSw
      go_simp <;> with_reducible rfl
    try simp only [Act.put, List.setIfInBounds_toArray, List.set_cons_zero, List.set_cons_succ]
    refine takeAt 6 (some 86) ?_ rfl rfl (by kernel_rfl) (by kernel_rfl) (by kernel_rfl) (fun _ _ _ h => h) (Or.inl ⟨by rfl, ?_⟩) hHeld ?_
    rotate_left
    · intro w hSw
      go_simp <;> with_reducible rfl
    try simp only [Act.put, List.setIfInBounds_toArray, List.set_cons_zero, List.set_cons_succ]
    refine takeAt 7 (some 87) ?_ rfl rfl (by kernel_rfl) (by kernel_rfl) (by kernel_rfl) (fun _ _ _ h => h) (Or.inl ⟨by rfl, ?_⟩) hHeld ?_
    rotate_left
    · intro w hSw
      go_simp <;> with_reducible rfl
    try simp only [Act.put, List.setIfInBounds_toArray, List.set_cons_zero, List.set_cons_succ]
    refine takeAt 8 (some 88) (.int .i64 k) rfl rfl (by kernel_rfl) (by kernel_rfl) (by kernel_rfl) (fun _ _ _ h => h) (Or.inl ⟨by rfl, ?_⟩) hHeld ?_
    · intro w hSw
      have y0 : w.cell? ⟨mb, 27, none⟩ = some (.int .i64 k) := by rw [← HKK.out]; exact hSw.1.at (mc_tail HS.out 1)
      go_simp <;> with_reducible rfl
    try simp only [Act.put, List.setIfInBounds_toArray, List.set_cons_zero, List.set_cons_succ]
    refine takeAt 9 (some 89) ?_ rfl rfl (by kernel_rfl) (by kernel_rfl) (by kernel_rfl) (fun _ _ _ h => h) (Or.inl ⟨by rfl, ?_⟩) hHeld ?_
    rotate_left
    · intro w hSw
      go_simp <;> with_reducible rfl
    try simp only [Act.put, List.setIfInBounds_toArray, List.set_cons_zero, List.set_cons_succ]
    refine callAt 10 90 185 (vals := #[.agg #[.string s, .bool fo], .int .i64 ((k : Int) - 1)]) (by kernel_rfl) rfl rfl rfl rfl (by simp [Act.eval, hwr]) Tryz.func185 (by kernel_rfl) (by kernel_rfl) ?_
    refine Calls.mono (HA.out _) ?_
    rintro e x1 ⟨rfl, q⟩
    have Kx1 : Hid (Kp W1 x1) := kp_trans (kp_drew _) q
    clear q
    refine ⟨_, rfl, ⟨H1M.out.st.kp Kx1.out, H1.out.2.kp Kx1.out⟩, fun hHeld => ?_⟩
    try simp only [Act.put, List.setIfInBounds_toArray, List.set_cons_zero, List.set_cons_succ]
    refine takeAt 11 (some 91) ?_ rfl rfl (by kernel_rfl) (by kernel_rfl) (by kernel_rfl) (fun _ _ _ h => h) (Or.inl ⟨by rfl, ?_⟩) hHeld ?_
    rotate_left
    · intro w hSw
      go_simp <;> with_reducible rfl
    try simp only [Act.put, List.setIfInBounds_toArray, List.set_cons_zero, List.set_cons_succ]
    refine takeAt 12 (some 92) ?_ rfl rfl (by kernel_rfl) (by kernel_rfl) (by kernel_rfl) (fun _ _ _ h => h) (Or.inl ⟨by rfl, ?_⟩) hHeld ?_
    rotate_left
    · intro w hSw
      go_simp <;> with_reducible rfl
    try simp only [Act.put, List.setIfInBounds_toArray, List.set_cons_zero, List.set_cons_succ]
    refine takeAt 13 (some 93) ?_ rfl rfl (by kernel_rfl) (by kernel_rfl) (by kernel_rfl) (fun _ _ _ h => h) (Or.inl ⟨by rfl, ?_⟩) hHeld ?_
    rotate_left
    · intro w hSw
      go_simp <;> with_reducible rfl
    try simp only [Act.put, List.setIfInBounds_toArray, List.set_cons_zero, List.set_cons_succ]
    refine takeAt 14 (some 94) ?_ rfl rfl (by kernel_rfl) (by kernel_rfl) (by kernel_rfl) (fun _ _ _ h => h) (Or.inl ⟨by rfl, ?_⟩) hHeld ?_
    rotate_left
    · intro w hSw
      go_simp <;> with_reducible rfl
    try simp only [Act.put, List.setIfInBounds_toArray, List.set_cons_zero, List.set_cons_succ]
    refine takeAt 15 (some 95) (.agg #[.string s, .bool fo]) rfl rfl (by kernel_rfl) (by kernel_rfl) (by kernel_rfl) (fun _ _ _ h => h) (Or.inl ⟨by rfl, ?_⟩) hHeld ?_
    · intro w hSw
      have y0 : w.cell? ⟨mb, 0, none⟩ = some (.string s) := hSw.1.at rfl
      have y1 : w.cell? ⟨mb, 1, none⟩ = some (.bool fo) := hSw.1.at rfl
      go_simp <;> with_reducible rfl
    try simp only [Act.put, List.setIfInBounds_toArray, List.set_cons_zero, List.set_cons_succ]
    refine takeAt 16 (some 96) ?_ rfl rfl (by kernel_rfl) (by kernel_rfl) (by kernel_rfl) (fun _ _ _ h => h) (Or.inl ⟨by rfl, ?_⟩) hHeld ?_
    rotate_left
    · intro w hSw
      go_simp <;> with_reducible rfl
    try simp only [Act.put, List.setIfInBounds_toArray, List.set_cons_zero, List.set_cons_succ]
    refine takeAt 17 (some 97) ?_ rfl rfl (by kernel_rfl) (by kernel_rfl) (by kernel_rfl) (fun _ _ _ h => h) (Or.inl ⟨by rfl, ?_⟩) hHeld ?_
    rotate_left
    · intro w hSw
      go_simp <;> with_reducible rfl
    try simp only [Act.put, List.setIfInBounds_toArray, List.set_cons_zero, List.set_cons_succ]
    refine takeAt 18 (some 98) ?_ rfl rfl (by kernel_rfl) (by kernel_rfl) (by kernel_rfl) (fun _ _ _ h => h) (Or.inl ⟨by rfl, ?_⟩) hHeld ?_
    rotate_left
    · intro w hSw
      go_simp <;> with_reducible rfl
    try simp only [Act.put, List.setIfInBounds_toArray, List.set_cons_zero, List.set_cons_succ]
    refine takeAt 19 (some 99) ?_ rfl rfl (by kernel_rfl) (by kernel_rfl) (by kernel_rfl) (fun _ _ _ h => h) (Or.inl ⟨by rfl, ?_⟩) hHeld ?_
    rotate_left
    · intro w hSw
      go_simp <;> with_reducible rfl
    try simp only [Act.put, List.setIfInBounds_toArray, List.set_cons_zero, List.set_cons_succ]
    refine takeAt 20 (some 100) (.int .i64 k) rfl rfl (by kernel_rfl) (by kernel_rfl) (by kernel_rfl) (fun _ _ _ h => h) (Or.inl ⟨by rfl, ?_⟩) hHeld ?_
    · intro w hSw
      have y0 : w.cell? ⟨mb, 27, none⟩ = some (.int .i64 k) := by rw [← HKK.out]; exact hSw.1.at (mc_tail HS.out 1)
      go_simp <;> with_reducible rfl
    try simp only [Act.put, List.setIfInBounds_toArray, List.set_cons_zero, List.set_cons_succ]
    refine callAtG 21 101 185 (vals := #[.agg #[.string s, .bool fo], .int .i64 (k : Int)]) (by kernel_rfl) rfl rfl rfl (by rfl) (by simp [Act.eval, hwr]) Tryz.func185 (by kernel_rfl) (by kernel_rfl) ?_
    refine Calls.mono (HB.out _) ?_
    rintro e x2 ⟨rfl, q⟩
    have Kx2 : Hid (Kp W1 x2) := kp_trans Kx1.out q
    clear q
    refine ⟨_, rfl, ⟨H1M.out.st.kp Kx2.out, H1.out.2.kp Kx2.out⟩, fun hHeld => ?_⟩
    try simp only [Act.put, List.setIfInBounds_toArray, List.set_cons_zero, List.set_cons_succ]
    refine takeAt 22 (some 102) ?_ rfl rfl (by kernel_rfl) (by kernel_rfl) (by kernel_rfl) (fun _ _ _ h => h) (Or.inl ⟨by rfl, ?_⟩) hHeld ?_
    rotate_left
    · intro w hSw
      go_simp <;> with_reducible rfl
    try simp only [Act.put, List.setIfInBounds_toArray, List.set_cons_zero, List.set_cons_succ]
    refine takeAt 23 (some 103) ?_ rfl rfl (by kernel_rfl) (by kernel_rfl) (by kernel_rfl) (fun _ _ _ h => h) (Or.inl ⟨by rfl, ?_⟩) hHeld ?_
    rotate_left
    · intro w hSw
      go_simp <;> with_reducible rfl
    try simp only [Act.put, List.setIfInBounds_toArray, List.set_cons_zero, List.set_cons_succ]
    refine takeAt 24 (some 4) ?_ rfl rfl (by kernel_rfl) (by kernel_rfl) (by kernel_rfl) (fun _ _ _ h => h) (Or.inl ⟨by rfl, ?_⟩) hHeld ?_
    rotate_left
    · intro w hSw
      go_simp <;> with_reducible rfl
    try simp only [Act.put, List.setIfInBounds_toArray, List.set_cons_zero, List.set_cons_succ]
    refine wpAnyH_done (by kernel_rfl) ?_ _
    refine NoPanic.normal ?_
    go_wp2_with fail
    go_ret
    rw [HRX.out]
    exact ⟨by first | rfl | (cases B <;> rfl), (H1M.out.kpp Kx2.out).x⟩
set_option maxHeartbeats 4000000 in
set_option maxRecDepth 100000 in
theorem passes12 (h : Mw w0 mb s fo cv m bv wv av w) (ho : Okm N s.size R M m) (hz : s.size ≤ 1000000) (hM : M ≤ 100000) (hR : R ≤ 100000) {x : Nat} (hx : x < R) {c : Nat} {st : S4} {y : Int} (hd : st.ok) :
    Calls Tryz.prog 163 #[.pointer (some ⟨mb, 0, none⟩), (Ins.mk 12 c st (x : Int) y).val] w fun e w' => e = .returned (.bool (passE s fo ⟨12, c, st, (x : Int), y⟩ m).1) ∧ Mx w0 mb s fo cv (passE s fo ⟨12, c, st, (x : Int), y⟩ m).2 w' := by
  have HS : Hid (m.t.ss.length = 22) := ho.t.len
  have hk : m.t.k ≤ 1000000 := Nat.le_trans ho.t.k hz
  obtain ⟨bx, hbx⟩ : ∃ b, w.heap.size = b := ⟨_, rfl⟩
  obtain ⟨W1, hW1⟩ : ∃ W, w.alloc (.cells #[.int .u8 12, .int .u8 c, .int .u64 st.a, .int .u64 st.b, .int .u64 st.c, .int .u64 st.d, .int .i64 (x : Int), .int .i64 y] 110) = W := ⟨_, rfl⟩
  have H1 : Hid (Kp w W1 ∧ Lc 110 bx (Ins.mk 12 c st (x : Int) y).cells W1) := by rw [← hW1, ← hbx]; exact ⟨kp_alloc _ _, Lc.new w (Ins.mk 12 c st (x : Int) y).cells _⟩
  have H1M : Hid (Mw w0 mb s fo cv m bv wv av W1) := h.kpp H1.out.1
  obtain ⟨Y, hY⟩ : ∃ Y, passE s fo ⟨12, c, st, (x : Int), y⟩ m = Y := ⟨_, rfl⟩
  rw [hY]
  have b0 : W1.cell? ⟨bx, 0, none⟩ = some (.int .u8 12) := H1.out.2.at rfl
  have b6 : W1.cell? ⟨bx, 6, none⟩ = some (.int .i64 (x : Int)) := H1.out.2.at rfl
  obtain ⟨k, hkk⟩ : ∃ k, m.t.k = k := ⟨_, rfl⟩
  rw [hkk] at hk
  have HKK : Hid (m.t.k = k) := hkk
  have c27 : W1.cell? ⟨mb, 27, none⟩ = some (.int .i64 k) := by rw [← hkk]; exact H1M.out.c27 HS.out
  have HO : Hid (Okm N s.size R M m ∧ s.size ≤ 1000000 ∧ st.ok) := ⟨ho, hz, hd⟩
  have HY : Hid (passE s fo ⟨12, c, st, (x : Int), y⟩ m = Y) := hY
  have HC : Hid (Calls Tryz.prog 186 #[.pointer (some ⟨mb, 2, none⟩), .int .i64 x, .int .i64 k] W1.drew fun e w' => e = .returned (.tuple #[]) ∧ Mx w0 mb s fo cv (startE x k m) w') :=
    start_m (H1M.out.kpp (kp_drew _)) (by rw [ho.bg]; exact hx) (by rw [ho.bg]; omega) (by have := ho.wl; omega) k
  have HRX : Hid (Y = (true, startE x k m)) := by show _ = _; rw [← hY, ← hkk]; rfl
  unfold Ins.val
  clear h ho hY hkk hd hz
  go_enter Tryz.func163, Tryz.ntmps163
  go_upto_region 16 with fail
  try rw [hW1]
  try rw [hbx]
  clear hW1 hbx
  go_region_with (go_at_call 186; refine Calls.mono HC.out ?_; rintro e w3 ⟨rfl, q⟩; have H3 : Hid (Mx w0 mb s fo cv (startE x k m) w3) := q; clear q)
  all_goals
    go_wp2_with fail
    go_ret
    rw [HRX.out]
    exact ⟨rfl, H3.out⟩
set_option maxHeartbeats 4000000 in
set_option maxRecDepth 100000 in
theorem passes13 (h : Mw w0 mb s fo cv m bv wv av w) (ho : Okm N s.size R M m) (hz : s.size ≤ 1000000) (hR : R ≤ 100000) {x : Nat} (hx : x < R) {c : Nat} {st : S4} {y : Int} (hd : st.ok) :
    Calls Tryz.prog 163 #[.pointer (some ⟨mb, 0, none⟩), (Ins.mk 13 c st (x : Int) y).val] w fun e w' => e = .returned (.bool (passE s fo ⟨13, c, st, (x : Int), y⟩ m).1) ∧ Mx w0 mb s fo cv (passE s fo ⟨13, c, st, (x : Int), y⟩ m).2 w' := by
  have HS : Hid (m.t.ss.length = 22) := ho.t.len
  have hk : m.t.k ≤ 1000000 := Nat.le_trans ho.t.k hz
  obtain ⟨bx, hbx⟩ : ∃ b, w.heap.size = b := ⟨_, rfl⟩
  obtain ⟨W1, hW1⟩ : ∃ W, w.alloc (.cells #[.int .u8 13, .int .u8 c, .int .u64 st.a, .int .u64 st.b, .int .u64 st.c, .int .u64 st.d, .int .i64 (x : Int), .int .i64 y] 110) = W := ⟨_, rfl⟩
  have H1 : Hid (Kp w W1 ∧ Lc 110 bx (Ins.mk 13 c st (x : Int) y).cells W1) := by rw [← hW1, ← hbx]; exact ⟨kp_alloc _ _, Lc.new w (Ins.mk 13 c st (x : Int) y).cells _⟩
  have H1M : Hid (Mw w0 mb s fo cv m bv wv av W1) := h.kpp H1.out.1
  obtain ⟨Y, hY⟩ : ∃ Y, passE s fo ⟨13, c, st, (x : Int), y⟩ m = Y := ⟨_, rfl⟩
  rw [hY]
  have b0 : W1.cell? ⟨bx, 0, none⟩ = some (.int .u8 13) := H1.out.2.at rfl
  have b6 : W1.cell? ⟨bx, 6, none⟩ = some (.int .i64 (x : Int)) := H1.out.2.at rfl
  obtain ⟨k, hkk⟩ : ∃ k, m.t.k = k := ⟨_, rfl⟩
  rw [hkk] at hk
  have HKK : Hid (m.t.k = k) := hkk
  have c27 : W1.cell? ⟨mb, 27, none⟩ = some (.int .i64 k) := by rw [← hkk]; exact H1M.out.c27 HS.out
  have HO : Hid (Okm N s.size R M m ∧ s.size ≤ 1000000 ∧ st.ok) := ⟨ho, hz, hd⟩
  have HY : Hid (passE s fo ⟨13, c, st, (x : Int), y⟩ m = Y) := hY
  obtain ⟨gb, cb, hbv, x1, x2, x3, x4⟩ := (H1M.out.kpp (kp_drew _)).bform (x := x) (by rw [ho.bg]; exact hx)
  have HC : Hid (Calls Tryz.prog 187 #[.pointer (some ⟨mb, 2, none⟩), .int .i64 x, .int .i64 k] W1.drew fun e w' => e = .returned (.bool (m.bg.getD x 0 != (k : Int))) ∧ Kp W1.drew w') := by
    have := (H1M.out.kpp (kp_drew _)).c2
    rw [hbv, ho.bg] at this
    refine Calls.mono (hasGone_m this hx (by omega) x1) ?_
    rintro e w' ⟨q1, q2⟩
    rw [q2]
    exact ⟨q1, Below.refl _ _⟩
  have HRX : Hid (Y = (m.bg.getD x 0 != (k : Int), m)) := by show _ = _; rw [← hY, ← hkk]; rfl
  clear x1 x2 x3 x4 hbv
  unfold Ins.val
  clear h ho hY hkk hd hz
  go_enter Tryz.func163, Tryz.ntmps163
  go_upto_region 18 with fail
  try rw [hW1]
  try rw [hbx]
  clear hW1 hbx
  go_region_with (go_at_call 187; refine Calls.mono HC.out ?_; rintro e w3 ⟨rfl, q⟩; have H3 : Hid (Mw w0 mb s fo cv m bv wv av w3) := H1M.out.kpp (kp_trans (kp_drew _) q); clear q)
  all_goals
    go_wp2_with fail
    go_ret
    rw [HRX.out]
    exact ⟨rfl, H3.out.x⟩
set_option maxHeartbeats 4000000 in
set_option maxRecDepth 100000 in
theorem passesE (h : Mw w0 mb s fo cv m bv wv av w) (ho : Okm N s.size R M m) (hz : s.size ≤ 1000000) {op : Nat} (hop : op < 6 ∨ 13 < op) {c : Nat} {st : S4} {x y : Int} (hd : st.ok) :
    Calls Tryz.prog 163 #[.pointer (some ⟨mb, 0, none⟩), (Ins.mk op c st x y).val] w fun e w' => e = .returned (.bool (passE s fo ⟨op, c, st, x, y⟩ m).1) ∧ Mx w0 mb s fo cv (passE s fo ⟨op, c, st, x, y⟩ m).2 w' := by
  have HS : Hid (m.t.ss.length = 22) := ho.t.len
  have hk : m.t.k ≤ 1000000 := Nat.le_trans ho.t.k hz
  obtain ⟨bx, hbx⟩ : ∃ b, w.heap.size = b := ⟨_, rfl⟩
  obtain ⟨W1, hW1⟩ : ∃ W, w.alloc (.cells #[.int .u8 op, .int .u8 c, .int .u64 st.a, .int .u64 st.b, .int .u64 st.c, .int .u64 st.d, .int .i64 x, .int .i64 y] 110) = W := ⟨_, rfl⟩
  have H1 : Hid (Kp w W1 ∧ Lc 110 bx (Ins.mk op c st x y).cells W1) := by rw [← hW1, ← hbx]; exact ⟨kp_alloc _ _, Lc.new w (Ins.mk op c st x y).cells _⟩
  have H1M : Hid (Mw w0 mb s fo cv m bv wv av W1) := h.kpp H1.out.1
  obtain ⟨Y, hY⟩ : ∃ Y, passE s fo ⟨op, c, st, x, y⟩ m = Y := ⟨_, rfl⟩
  rw [hY]
  have b0 : W1.cell? ⟨bx, 0, none⟩ = some (.int .u8 op) := H1.out.2.at rfl
  have b6 : W1.cell? ⟨bx, 6, none⟩ = some (.int .i64 x) := H1.out.2.at rfl
  obtain ⟨k, hkk⟩ : ∃ k, m.t.k = k := ⟨_, rfl⟩
  rw [hkk] at hk
  have HKK : Hid (m.t.k = k) := hkk
  have c27 : W1.cell? ⟨mb, 27, none⟩ = some (.int .i64 k) := by rw [← hkk]; exact H1M.out.c27 HS.out
  have HO : Hid (Okm N s.size R M m ∧ s.size ≤ 1000000 ∧ st.ok) := ⟨ho, hz, hd⟩
  have HY : Hid (passE s fo ⟨op, c, st, x, y⟩ m = Y) := hY
  have HC : Hid (Calls Tryz.prog 188 #[.pointer (some ⟨mb, 0, none⟩), .agg #[.int .u8 op, .int .u8 c, .int .u64 st.a, .int .u64 st.b, .int .u64 st.c, .int .u64 st.d, .int .i64 x, .int .i64 y]] W1 fun e w' => e = .returned (.bool (byteE s fo ⟨op, c, st, x, y⟩ m).1) ∧ Mx w0 mb s fo cv (byteE s fo ⟨op, c, st, x, y⟩ m).2 w') := passByte_m H1M.out ho hz ⟨op, c, st, x, y⟩ hd
  have HRX : Hid (Y = byteE s fo ⟨op, c, st, x, y⟩ m) := by
    show _ = _
    rw [← hY]
    unfold passE
    simp only
    rw [if_neg (by omega), if_neg (by omega), if_neg (by omega), if_neg (by omega), if_neg (by omega), if_neg (by omega), if_neg (by omega), if_neg (by omega)]
  have b1 : W1.cell? ⟨bx, 1, none⟩ = some (.int .u8 c) := H1.out.2.at rfl
  have b2 : W1.cell? ⟨bx, 2, none⟩ = some (.int .u64 st.a) := H1.out.2.at rfl
  have b3 : W1.cell? ⟨bx, 3, none⟩ = some (.int .u64 st.b) := H1.out.2.at rfl
  have b4 : W1.cell? ⟨bx, 4, none⟩ = some (.int .u64 st.c) := H1.out.2.at rfl
  have b5 : W1.cell? ⟨bx, 5, none⟩ = some (.int .u64 st.d) := H1.out.2.at rfl
  have b7 : W1.cell? ⟨bx, 7, none⟩ = some (.int .i64 y) := H1.out.2.at rfl
  have n6 : ((op : Int) == 6) = false := by simp; omega
  have m6 : decide ((op : Int) = 6) = false := by simp; omega
  have n7 : ((op : Int) == 7) = false := by simp; omega
  have m7 : decide ((op : Int) = 7) = false := by simp; omega
  have n8 : ((op : Int) == 8) = false := by simp; omega
  have m8 : decide ((op : Int) = 8) = false := by simp; omega
  have n9 : ((op : Int) == 9) = false := by simp; omega
  have m9 : decide ((op : Int) = 9) = false := by simp; omega
  have n10 : ((op : Int) == 10) = false := by simp; omega
  have m10 : decide ((op : Int) = 10) = false := by simp; omega
  have n11 : ((op : Int) == 11) = false := by simp; omega
  have m11 : decide ((op : Int) = 11) = false := by simp; omega
  have n12 : ((op : Int) == 12) = false := by simp; omega
  have m12 : decide ((op : Int) = 12) = false := by simp; omega
  have n13 : ((op : Int) == 13) = false := by simp; omega
  have m13 : decide ((op : Int) = 13) = false := by simp; omega
  clear hop
  unfold Ins.val
  clear h ho hY hkk hd hz
  go_enter Tryz.func163, Tryz.ntmps163
  go_upto_region 2 with fail
  try rw [hW1]
  try rw [hbx]
  clear hW1 hbx
  go_wp2_with (go_at_call 188; refine Calls.mono HC.out ?_; rintro e w3 ⟨rfl, q⟩; have H3 : Hid (Mx w0 mb s fo cv (byteE s fo ⟨op, c, st, x, y⟩ m).2 w3) := q; clear q)
  go_ret
  rw [HRX.out]
  exact ⟨rfl, H3.out⟩
end
end Go.Proofs.YtalmajiflmejcaaGreat
