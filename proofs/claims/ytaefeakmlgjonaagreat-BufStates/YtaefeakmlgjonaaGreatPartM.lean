/- Texts that the proof of the law stands on: CX, CJ, CT, CQ, CV, CP, CW, CY, DA, DB, DD. -/
import Derived.Test.YtaefeakmlgjonaaGreatPartK
import Derived.Test.YtaefeakmlgjonaaGreatPartL
import Derived.Test.YtaefeakmlgjonaaGreatPartA
import Derived.Lib.MinMax
import Derived.Test.YtaefeakmlgjonaaGreatPartJ
import Derived.BigQuiet
namespace Go.Proofs.YtaefeakmlgjonaaGreat
open Go.ChangeShapes Go.WideShapes Go.ChangeAt Go.RowKit Go.Maps Go.MapKept
set_option linter.unusedVariables false
set_option linter.unusedSimpArgs false
set_option maxRecDepth 100000
theorem led_seq {top : Int} : ∀ (l : List Int) (L : List St), (Go.Proofs.YtaefeakmlgjonaaGreat.led L l top).map St.seq = L.map St.seq
  | [], _ => rfl
  | x :: l, L => (led_seq l _).trans (setOn_seq _ _ _)
theorem look_in {L : List St} {x : Int} : look L x ≠ none ↔ x ∈ L.map St.seq := by
  constructor
  · intro h
    obtain ⟨s, hs⟩ := Option.ne_none_iff_exists'.1 h
    have h1 := look_mem hs
    have h2 : s.seq = x := by have := List.find?_some hs; simpa using this
    exact List.mem_map.2 ⟨s, h1, h2⟩
  · intro h e
    obtain ⟨s, h1, h2⟩ := List.mem_map.1 h
    have := List.find?_eq_none.1 e s h1
    simp [h2] at this
theorem Sm1.setOn {L : List St} (h : Sm1 L) (a b : Int) : Sm1 (Go.Proofs.YtaefeakmlgjonaaGreat.setOn L a b) := h.mono fun x s' hx => by
  obtain ⟨s0, q1, _, q3, _⟩ := fr_on' L a b x s' hx
  exact .inr ⟨s0, q1, q3.symm⟩
theorem Sm1.led {top : Int} : ∀ (l : List Int) (L : List St), Sm1 L → Sm1 (Go.Proofs.YtaefeakmlgjonaaGreat.led L l top)
  | [], _, h => h
  | x :: l, L, h => Sm1.led l _ (h.setOn _ _)
theorem Sm1.byOf {L : List St} (h : Sm1 L) (x : Int) : (Go.Proofs.YtaefeakmlgjonaaGreat.byOf L x).length ≤ 1 := by
  unfold Go.Proofs.YtaefeakmlgjonaaGreat.byOf
  cases e : look L x with
  | none => simp
  | some s => exact h x s e
theorem Sm1.ups {L : List St} (h : Sm1 L) (l : List Int) : (upsD L l).length ≤ l.length := by
  induction l with
  | nil => simp [upsD]
  | cons x l ih =>
    have e : upsD L (x :: l) = turnD (Go.Proofs.YtaefeakmlgjonaaGreat.byOf L x) ++ upsD L l := by simp [upsD]
    have h1 := h.byOf x
    rw [e, List.length_append, turnD_len, List.length_cons]; omega
theorem Sm1.dn {L : List St} (h : Sm1 L) (l : List Int) : (dnD L l).length ≤ l.length := by
  induction l with
  | nil => simp [dnD]
  | cons x l ih =>
    have h1 := h.byOf x
    rw [dnD_cons, List.length_append, List.length_cons]; omega
theorem countP_lt {L : List St} {p q : St → Bool} (h : ∀ s, p s = true → q s = true) {x : St} (hx : x ∈ L) (h1 : p x = false) (h2 : q x = true) : L.countP p + 1 ≤ L.countP q := by
  induction L with
  | nil => cases hx
  | cons a r ih =>
    rw [List.countP_cons, List.countP_cons]
    rcases List.mem_cons.1 hx with rfl | hx
    · have := List.countP_mono_left (l := r) (p := p) (q := q) (fun s _ => h s)
      rw [h1, h2]; simp; omega
    · have := ih hx
      have : (if p a = true then 1 else 0) ≤ (if q a = true then 1 else 0) := by
        by_cases c : p a = true
        · rw [if_pos c, if_pos (h a c)]; exact Nat.le_refl 1
        · rw [if_neg c]; exact Nat.zero_le _
      omega
theorem up_short {L : List St} {next x y : Int} {l : List Int} (F : Fam L next) (h : Up L x l y) : l.length ≤ L.countP (fun s => decide (s.seq ≤ x)) := by
  induction h with
  | nil x => exact Nat.zero_le _
  | cons h1 h2 h3 ih =>
    rename_i x' y' s' l'
    have hf := F.fr _ _ h1
    have hs : s'.seq = x' := by have := List.find?_some h1; simpa using this
    have := countP_lt (L := L) (p := fun t => decide (t.seq ≤ s'.fr)) (q := fun t => decide (t.seq ≤ x')) (fun t ht => by simp at ht ⊢; omega) (look_mem h1) (by simp; omega) (by simp; omega)
    rw [List.length_cons]; omega
theorem up_most {L : List St} {next x y : Int} {l : List Int} (F : Fam L next) (h : Up L x l y) : l.length ≤ L.length := Nat.le_trans (up_short F h) List.countP_le_length
section
variable {Q : Nat → Prop} {B C t c : Nat} {m : Tr} {T : Int → List ByteArray} {w w1 : World}
def GoG (m : Tr) (seq : Int) (m' : Tr) (ds : List Dl) : Prop := look m.L seq ≠ none ∧ m'.now = seq ∧ m'.next = m.next ∧ m'.most = m.most ∧ m'.L.map St.seq = m.L.map St.seq ∧ Sm1 m'.L ∧ ds.length ≤ 2 * m.L.length ∧ ∀ d ∈ ds, Smd d
theorem go_lead (h : StT Q B C t m T w) {seq : Int} (hr : Rg seq) (h1 : Sm1 m.L) (hc : 2 * m.L.length ≤ c) : Calls Tryz.prog 80 #[.pointer (some ⟨t, 0, none⟩), .int .i64 seq] w fun e w1 => ∃ v err, e = .returned (.tuple #[v, .int .u16 err]) ∧ Led2 Q B C t m T (fun _ => look m.L seq = none) (GoG m seq) c w v err w1 := by
  have I := h.inw
  have F := I.inv.fam
  have hn := h.nx
  by_cases hs : look m.L seq = none
  · refine (go_none h.tw hr hs).mono ?_
    rintro e w' ⟨rfl, rfl⟩
    exact ⟨_, _, rfl, Ff.kp (Below.refl _ _), .inl ⟨by decide, by decide, by decide, rfl, hs, h⟩⟩
  · refine (go_any h.tw h.hC F (by omega) I.inv.nw hs).mono ?_
    rintro e w' ⟨v, rfl, top, l1, l2, hm, q⟩
    have u1 := h1.ups l1
    have u2 := h1.dn l2
    have x1 := up_most F hm.u1
    have x2 := up_most F hm.u2
    have hl : (upsD m.L l1 ++ dnD m.L l2).length ≤ 2 * m.L.length := by rw [List.length_append]; omega
    have hsd : ∀ d ∈ upsD m.L l1 ++ dnD m.L l2, Smd d := by
      intro d hd
      rcases List.mem_append.1 hd with q | q
      · exact (h.sm.ups l1).2 d q
      · exact (h.sm.dn l2).2 d q
    exact ⟨_, _, rfl, q.2.2, .inr ⟨rfl, _, _, q.1, h.gone q (I.go hm hs) (h.tx.led _ _) (h.sm.led _ _) rfl rfl (led_len _ _ _), h.tx.went hm, hsd, Nat.le_trans hl hc, hs, rfl, rfl, rfl, led_seq _ _, h1.led _ _, hl, hsd⟩⟩
end
section
variable {B b M D c : Nat} {o o' : Tz.Own} {a : At} {s : BS} {w w1 : World} {N : Int} {v : Value} {ds : List Dl} {E : Int → Prop} {G : Tr → List Dl → Prop}
set_option maxHeartbeats 8000000 in
theorem said_any (w : World) {u : Nat} (n : Int) : Calls Tryz.prog 79 #[.func (.func 80) #[.pointer (some ⟨u, 0, none⟩)] #[], .int .i64 n] w fun e w' => ∃ g1 g2, e = .returned (.func (.func 122) #[] #[.pointer (some ⟨g1, 0, none⟩), .pointer (some ⟨g2, 0, none⟩)]) ∧ (Lc 127 g1 [.func (.func 80) #[.pointer (some ⟨u, 0, none⟩)] #[]] w' ∧ Lc 3 g2 [.int .i64 n] w' ∧ Kp w w') := by
  obtain ⟨p, hp⟩ : ∃ p, w.heap.size = p := ⟨_, rfl⟩
  obtain ⟨W1, hW1⟩ : ∃ z, w.alloc (.cells #[.func (.func 80) #[.pointer (some ⟨u, 0, none⟩)] #[]] 127) = z := ⟨_, rfl⟩
  have hp1 : W1.heap.size = p + 1 := by rw [← hW1, alloc_size, hp]
  obtain ⟨W2, hW2⟩ : ∃ z, W1.alloc (.cells #[.int .i64 n] 3) = z := ⟨_, rfl⟩
  have HI : Hid (Lc 127 p [.func (.func 80) #[.pointer (some ⟨u, 0, none⟩)] #[]] W2 ∧ Lc 3 (p + 1) [.int .i64 n] W2 ∧ Kp w W2) := by
    have k1 : Kp w W1 := by rw [← hW1]; exact kp_alloc _ _
    have k2 : Kp W1 W2 := by rw [← hW2]; exact kp_alloc _ _
    have b0 : Lc 127 p [.func (.func 80) #[.pointer (some ⟨u, 0, none⟩)] #[]] W1 := by rw [← hW1, ← hp]; exact Lc.new w [.func (.func 80) #[.pointer (some ⟨u, 0, none⟩)] #[]] 127
    have b1 : Lc 3 (p + 1) [.int .i64 n] W2 := by rw [← hW2, ← hp1]; exact Lc.new W1 [.int .i64 n] 3
    exact ⟨b0.kp k2, b1, kp_trans k1 k2⟩
  go_enter Tryz.func79, Tryz.ntmps79
  go_wp2_with fail
  go_ret
  exact ⟨_, _, rfl, HI.out⟩
set_option maxHeartbeats 8000000 in
theorem said1_any {u g1 g2 : Nat} {n : Int} {P : Value → Int → World → Prop} (h1 : Lc 127 g1 [.func (.func 80) #[.pointer (some ⟨u, 0, none⟩)] #[]] w) (h2 : Lc 3 g2 [.int .i64 n] w)
    (hG : Calls Tryz.prog 80 #[.pointer (some ⟨u, 0, none⟩), .int .i64 n] w fun e w' => ∃ v err, e = .returned (.tuple #[v, .int .u16 err]) ∧ P v err w') :
    Calls Tryz.prog 122 #[.pointer (some ⟨g1, 0, none⟩), .pointer (some ⟨g2, 0, none⟩)] w fun e w' => ∃ v err, e = .returned (.tuple #[v, .int .u16 err]) ∧ P v err w' := by
  have c1 := h1.at (j := 0) rfl
  have c2 := h2.at (j := 0) rfl
  have HG : Hid _ := hG
  clear h1 h2 hG
  go_enter Tryz.func122, Tryz.ntmps122
  go_wp2_with fail
  refine Calls.mono HG.out ?_
  rintro e w5 ⟨v, err, rfl, q⟩
  have HX : Hid _ := q
  clear q HG
  go_wp2_with fail
  go_ret2
  exact ⟨_, _, rfl, HX.out⟩
set_option maxHeartbeats 64000000 in
theorem travel_Go {g1 g2 : Nat} (h : Bf B b o M a s w) (f : Fine (s.ls.length : Int) s) (hop : s.op = []) (hc : c ≤ 1000) (hM : M + 90000 * (c + 1) < 280000000) (HG : ∀ m' ds, G m' ds → look s.m.L m'.now ≠ none)
    (HLd : ∀ z, Kp w z → Calls Tryz.prog 122 #[.pointer (some ⟨g1, 0, none⟩), .pointer (some ⟨g2, 0, none⟩)] z fun e w1 => ∃ v err, e = .returned (.tuple #[v, .int .u16 err]) ∧ Led2 (Fre o) B a.C a.u s.m s.T E G c z v err w1) :
    Calls Tryz.prog 50 #[.pointer (some ⟨b, 0, none⟩), .func (.func 122) #[] #[.pointer (some ⟨g1, 0, none⟩), .pointer (some ⟨g2, 0, none⟩)]] w fun e w' => ∃ err, e = .returned (.int .u16 err) ∧ ((err ≠ 0 ∧ E err ∧ Bf B b o M a s w' ∧ FK B o o w w') ∨
      (err = 0 ∧ ∃ o' kb' m' ds, G m' ds ∧ apps s.ls ds = some (s.T m'.now) ∧ Bf B b o' (M + 90000 * c) { a with kb := kb' } (wyS s m' ds) w' ∧ FK B o o' w w')) := by
  have hap : s.T s.m.now = s.ls := by have := f.ap; rw [hop] at this; exact Option.some.inj this
  obtain ⟨va, vc, hov, _, _⟩ := Dx.form h.op
  rw [hop] at hov
  have c4 := h.box.at (j := 4) rfl
  rw [hov] at c4
  obtain ⟨u, hu⟩ : ∃ u, a.u = u := ⟨_, rfl⟩
  have HLE : Hid (∀ z, Kp w z → Calls Tryz.prog 122 #[.pointer (some ⟨g1, 0, none⟩), .pointer (some ⟨g2, 0, none⟩)] z fun e w1 => ∃ v err, e = .returned (.tuple #[v, .int .u16 err]) ∧ Led2 (Fre o) B a.C a.u s.m s.T E G c z v err w1) := HLd
  have HH : Hid (Bf B b o M a s w ∧ Fine (s.ls.length : Int) s ∧ s.op = [] ∧ s.T s.m.now = s.ls ∧ (∀ m' ds, G m' ds → look s.m.L m'.now ≠ none)) := ⟨h, f, hop, hap, HG⟩
  have HU : Hid (a.u = u) := hu
  rw [hu]
  clear h f hop hov HLd hu HG hap
  go_enter Tryz.func50, Tryz.ntmps50
  go_wp2_with fail
  refine Calls.mono (HLE.out _ (by first | exact Below.refl _ _ | exact kp_drewN _ _)) ?_
  rintro e w5 ⟨v, err, rfl, hff, hor⟩
  rcases hor with ⟨hne, he0, he1, rfl, hE, hst⟩ | ⟨rfl, ds, m', hdw, hst, hapd, hsm, hdl, hG⟩
  · have b1 : (err != 0) = true := by simpa using hne
    have HX : Hid (err ≠ 0 ∧ E err ∧ Bf B b o M a s w5 ∧ FK B o o w w5) := by
      obtain ⟨q1, q2⟩ := HH.out.1.went hff hst
      exact ⟨hne, hE, q1, q2⟩
    clear HLE HH hff hst hne hE c4
    go_wp2_with fail
    go_ret
    exact ⟨_, rfl, .inl HX.out⟩
  · obtain ⟨da, dc, rfl, hd1, hd2⟩ := Dx.form hdw
    obtain ⟨n, hn⟩ : ∃ n, ds.length = n := ⟨_, rfl⟩
    rw [hn] at hdl hd1
    unfold maxLen at hd2
    have H5 : Hid (Bf B b o M a { s with m := m', T := s.T } w5 ∧ FK B o o w w5 ∧ apps s.ls ds = some (s.T m'.now) ∧ (∀ d ∈ ds, Smd d) ∧ ds.length = n ∧ G m' ds ∧ TxtOk (s.T m'.now)) := by
      obtain ⟨q1, q2⟩ := HH.out.1.went hff hst
      rw [HH.out.2.2.2.1] at hapd
      exact ⟨q1, q2, hapd, hsm, hn, hG, HH.out.2.1.tx _ (HH.out.2.2.2.2 _ _ hG)⟩
    have HL0 : Hid (LpV B b o M a { s with m := m', T := s.T } (.slice da n dc) ds w 0 w5) := by
      refine ⟨o, s.ls, H5.out.1, H5.out.2.1, ?_, rfl, HH.out.2.1.ls.2.1, HH.out.2.1.ls.2.2, HH.out.2.1.mb, HH.out.2.1.md⟩
      rw [hn] at hdw
      exact hdw.rq fun j hj => HH.out.1.new hj
    rw [hn]
    clear HLE hff hst hapd hsm hG hdw hn c4
    go_wp2_with fail
    go_loopw [8, 28] (fun v8 v28 wr => ∃ k : Nat, k ≤ n ∧ v28 = .int .i64 k ∧ Hid (LpV B b o M a { s with m := m', T := s.T } (.slice da n dc) ds w k wr)) (fun _ v28 _ => n - (intOf v28).toNat)
    case atStart => exact ⟨0, Nat.zero_le _, rfl, HL0.out⟩
    case round =>
      obtain ⟨k, hk, rfl, HI⟩ := hrel
      clear HL0
      by_cases q : k < n
      · as_aux_lemma =>
        have g1 : decide ((k : Int) < (n : Int)) = true := decide_eq_true (by omega)
        have g2 : decide (k < n) = true := decide_eq_true q
        obtain ⟨o1, lk, hb, fk, hx, ha, hll, hls, hmb, hmd⟩ := HI.out
        obtain ⟨d, hd⟩ : ∃ d, ds[k]? = some d := ⟨_, List.getElem?_eq_getElem (by rw [H5.out.2.2.2.2.1]; exact q)⟩
        have hdm : d ∈ ds := List.mem_of_getElem? hd
        obtain ⟨g, off, xo, yn, rfl, _, c0, c1, c2, ro, rn⟩ := Dr.at_ hx.dr hd
        obtain ⟨oa, oc, rfl, _, _⟩ := Row.form ro.1
        obtain ⟨na, nc, rfl, _, _⟩ := Row.form rn.1
        obtain ⟨l', hl1, hl2⟩ := apps_next hd ha H5.out.2.2.1
        obtain ⟨i, hi, hin, hspl⟩ := app1_spl hl1
        obtain ⟨on, hon⟩ : ∃ x, d.old.length = x := ⟨_, rfl⟩
        obtain ⟨nn, hnn⟩ : ∃ x, d.nw.length = x := ⟨_, rfl⟩
        have hsd := H5.out.2.2.2.1 d hdm
        have hon2 : on ≤ 2000 := by rw [← hon]; exact hsd.1.1
        have hnn2 : nn ≤ 2000 := by rw [← hnn]; exact hsd.2.1
        rw [hon] at c1 hin hspl ro
        rw [hnn] at c2 rn
        rw [hi] at c0
        obtain ⟨p, hp⟩ : ∃ p, wr.heap.size = p := ⟨_, rfl⟩
        obtain ⟨W1, hW1⟩ : ∃ z, wr.alloc (.cells #[.int .i64 i, .slice oa on oc, .slice na nn nc] 89) = z := ⟨_, rfl⟩
        have k1 : Kp wr W1 := by rw [← hW1]; exact kp_alloc _ _
        have b1 : Lc 89 p [.int .i64 i, .slice oa on oc, .slice na nn nc] W1 := by rw [← hW1, ← hp]; exact Lc.new wr [.int .i64 i, .slice oa on oc, .slice na nn nc] 89
        obtain ⟨tt, htt⟩ : ∃ t, a.t = t := ⟨_, rfl⟩
        have HSD : Hid (Sd p b i (.slice oa on oc) (.slice na nn nc) (.pointer (some ⟨tt, 0, none⟩)) W1) := ⟨b1.at (j := 0) rfl, b1.at (j := 1) rfl, b1.at (j := 2) rfl, by rw [← htt]; exact (hb.kp_ k1).box.at (j := 0) rfl⟩
        have s0 : ∀ y, Sd p b i (.slice oa on oc) (.slice na nn nc) (.pointer (some ⟨tt, 0, none⟩)) y → y.cell? ⟨p, 0, none⟩ = some (.int .i64 i) := fun _ h => h.1
        have s1 : ∀ y, Sd p b i (.slice oa on oc) (.slice na nn nc) (.pointer (some ⟨tt, 0, none⟩)) y → y.cell? ⟨p, 1, none⟩ = some (.slice oa on oc) := fun _ h => h.2.1
        have s2 : ∀ y, Sd p b i (.slice oa on oc) (.slice na nn nc) (.pointer (some ⟨tt, 0, none⟩)) y → y.cell? ⟨p, 2, none⟩ = some (.slice na nn nc) := fun _ h => h.2.2.1
        have HL : Hid (Calls Tryz.prog 75 #[.pointer (some ⟨b, 0, none⟩), .agg #[.int .i64 i, .slice oa on oc, .slice na nn nc]] W1.drew fun e w' => e = .returned (.tuple #[]) ∧ (∃ o2, Bf B b o2 (M + 90000 * (k + 1)) a { s with m := m', T := s.T, ls := l', mf := mfT s.mf (ds.take k) } w' ∧ FK B o o2 w w' ∧ Dx (RQ (Fre o2)) 0 (.slice (some ⟨g, off, none⟩) n dc) ds w' ∧ w'.heap[p]? = W1.heap[p]? ∧ p < w'.heap.size) ∧ (Sd p b i (.slice oa on oc) (.slice na nn nc) (.pointer (some ⟨tt, 0, none⟩)) W1 → Sd p b i (.slice oa on oc) (.slice na nn nc) (.pointer (some ⟨tt, 0, none⟩)) w')) := by
          have kz := kp_drew W1
          have k2 := kp_trans k1 kz
          have hz := hb.kp_ k2
          have rnz : RQ (Fre o1) (.slice na nn nc) d.nw W1.drew := ⟨row_kp rn.1 k2, rn.2⟩
          have hxz : Dx (RQ (Fre o1)) 0 (.slice (some ⟨g, off, none⟩) n dc) ds W1.drew := hx.kp (okRQ _ _) k2
          refine (lay_any hz (oa := oa) (oc := oc) (i := i) (n := on) ⟨by show lk.length ≤ _; omega, hls⟩ rnz.lies hsd.2 hin (by rw [hnn]; omega)).mono ?_
          rintro e w' ⟨rfl, o2, q1, q2, q3⟩
          rw [hnn] at q1
          have e9 : w'.heap[p]? = W1.heap[p]? := by
            rw [q3.block p (b1.kp kz).lt (hb.new (by omega))]; exact kz.block p b1.lt
          refine ⟨rfl, ⟨o2, ?_, fk.trans ((FK.kp k2 o1).trans q2), Dx.tree hz hxz q3, e9, Nat.lt_of_lt_of_le (b1.kp kz).lt q3.size⟩, fun hs => hs.eq e9 (by rw [← htt]; exact q1.box.at (j := 0) rfl)⟩
          rw [hspl]; exact q1.upM (by omega)
        have HR : Hid (apps s.ls (ds.take (k + 1)) = some l' ∧ l'.length = lk.length - on + nn ∧ lk.length ≤ 2000 + 2000 * k ∧ i + on ≤ lk.length ∧ (∀ x ∈ l', x.size ≤ 1000) ∧ Mz.Bd (lk.length : Int) (mfT s.mf (ds.take k)) ∧ (∀ x c, mfT s.mf (ds.take k) x = some c → 97 ≤ x ∧ x ≤ 122) ∧ mfT s.mf (ds.take (k + 1)) = Mz.spF (mfT s.mf (ds.take k)) ((i : Int) + 1) on nn) := by
          refine ⟨hl2, by rw [hspl, spl_len hin, hnn], hll, hin, fun x hx => ?_, hmb, hmd, by rw [take_snoc ds hd, mfT_snoc, hi, hon, hnn]⟩
          rw [hspl] at hx
          unfold spl at hx
          rcases List.mem_append.1 hx with y | y
          · rcases List.mem_append.1 y with y | y
            · exact hls x (List.mem_of_mem_take y)
            · exact hsd.2.2 x y
          · exact hls x (List.mem_of_mem_drop y)
        clear hb fk hx ha hd hdm ro rn hl1 hl2 hi hspl hon hnn hsd hls hmb hmd k1 b1 HI hll hin
        go_wp2_with fail
        refine wp_region_noPanic ?_
        refine wp_region_held_drew (S := Sd p b i (.slice oa on oc) (.slice na nn nc) (.pointer (some ⟨tt, 0, none⟩))) (by kernel_rfl) (HSD.out) (fun hHeld => ?_)
        refine takeAt 0 (some 32) ?_ rfl rfl (by kernel_rfl) (by kernel_rfl) (by kernel_rfl) (fun _ _ _ h => h) (Or.inl ⟨by rfl, ?_⟩) hHeld ?_
        rotate_left
        · intro w hSw
          go_simp <;> with_reducible rfl
        try simp only [Act.put, List.setIfInBounds_toArray, List.set_cons_zero, List.set_cons_succ]
        refine takeAt 1 (some 33) ?_ rfl rfl (by kernel_rfl) (by kernel_rfl) (by kernel_rfl) (fun _ _ _ h => h) (Or.inl ⟨by rfl, ?_⟩) hHeld ?_
        rotate_left
        · intro w hSw
          go_simp <;> with_reducible rfl
        try simp only [Act.put, List.setIfInBounds_toArray, List.set_cons_zero, List.set_cons_succ]
        refine takeAt 2 (some 34) ?_ rfl rfl (by kernel_rfl) (by kernel_rfl) (by kernel_rfl) (fun _ _ _ h => h) (Or.inl ⟨by rfl, ?_⟩) hHeld ?_
        rotate_left
        · intro w hSw
          go_simp <;> with_reducible rfl
        try simp only [Act.put, List.setIfInBounds_toArray, List.set_cons_zero, List.set_cons_succ]
        refine takeAt 3 (some 35) ?_ rfl rfl (by kernel_rfl) (by kernel_rfl) (by kernel_rfl) (fun _ _ _ h => h) (Or.inl ⟨by rfl, ?_⟩) hHeld ?_
        rotate_left
        · intro w hSw
          go_simp <;> with_reducible rfl
        try simp only [Act.put, List.setIfInBounds_toArray, List.set_cons_zero, List.set_cons_succ]
        refine callAt 4 36 75 (vals := #[.pointer (some ⟨b, 0, none⟩), .agg #[.int .i64 i, .slice oa on oc, .slice na nn nc]]) (by kernel_rfl) rfl rfl rfl rfl (by simp [Act.eval]) Tryz.func75 (by kernel_rfl) (by kernel_rfl) ?_
        refine Calls.mono (HL.out) ?_
        rintro e w7 ⟨rfl, q, q3⟩
        have HX : Hid _ := q
        have hs7 : Sd p b i (.slice oa on oc) (.slice na nn nc) (.pointer (some ⟨tt, 0, none⟩)) w7 := q3 HSD.out
        clear q q3
        refine ⟨_, rfl, hs7, fun hHeld => ?_⟩
        try simp only [Act.put, List.setIfInBounds_toArray, List.set_cons_zero, List.set_cons_succ]
        refine wpAnyH_done (by kernel_rfl) ?_ _
        refine NoPanic.normal ?_
        have HS7 : Hid (Sd p b i (.slice oa on oc) (.slice na nn nc) (.pointer (some ⟨tt, 0, none⟩)) w7) := hs7
        clear HL hs7
        obtain ⟨o2, hb2, fk2, hx2, e92, p2⟩ := HX.out
        have HFo : Hid (Calls Tryz.prog 56 #[.pointer (some ⟨b, 0, none⟩), .agg #[.int .i64 i, .slice oa on oc, .slice na nn nc]] w7.drew fun e w' => e = .returned (.tuple #[]) ∧ LpV B b o M a { s with m := m', T := s.T } (.slice (some ⟨g, off, none⟩) n dc) ds w (k + 1) w' ∧ (Sd p b i (.slice oa on oc) (.slice na nn nc) (.pointer (some ⟨tt, 0, none⟩)) w7 → Sd p b i (.slice oa on oc) (.slice na nn nc) (.pointer (some ⟨tt, 0, none⟩)) w')) := by
          have kz := kp_drew w7
          have hz := hb2.kp_ kz
          obtain ⟨r1, r2, r3, r4, r5, r6, r7, r8⟩ := HR.out
          refine (follow_any hz r7 r6 (by omega) (i := (i : Int)) ⟨by omega, by omega⟩ (n := on) (k := nn) (oa := oa) (na := na) (oc := oc) (nc := nc)).mono ?_
          rintro e w' ⟨rfl, q1, q2, q3⟩
          have hpm : p ≠ a.mb := fun e => by
            obtain ⟨es, c, q, _⟩ := hb2.mp
            have q' : w7.heap[a.mb]? = some (.map es c) := q
            have s0' := HS7.out.1
            rw [e] at s0'
            simp [World.cell?, q'] at s0'
          have hxz : Dx (RQ (Fre o2)) 0 (.slice (some ⟨g, off, none⟩) n dc) ds w7.drew := hx2.kp (okRQ _ _) kz
          refine ⟨rfl, ⟨o2, l', ?_, fk2.trans ((FK.kp kz o2).trans q2), Dx.map hz hxz q2.size q3 ⟨q2.fr.os, q2.fr.tape, q2.fr.output⟩, r1, by rw [r2]; omega, r5, ?_, ?_⟩, fun hs => hs.eq ?_ (by rw [← htt]; exact q1.box.at (j := 0) rfl)⟩
          · rw [r8]; exact q1
          · rw [r8, r2]; exact spF_in r6 r4 (by omega) (by omega)
          · rw [r8]; exact spF_dom r7 _ _ _
          · rw [q3 p (Nat.lt_of_lt_of_le p2 kz.size) hpm]; exact kz.block p p2
        clear HX hb2 fk2 hx2 e92 p2 HR htt HSD
        go_wp2_with fail
        refine wp_region_noPanic ?_
        refine wp_region_held_drew (S := Sd p b i (.slice oa on oc) (.slice na nn nc) (.pointer (some ⟨tt, 0, none⟩))) (by kernel_rfl) (HS7.out) (fun hHeld => ?_)
        refine takeAt 0 (some 37) ?_ rfl rfl (by kernel_rfl) (by kernel_rfl) (by kernel_rfl) (fun _ _ _ h => h) (Or.inl ⟨by rfl, ?_⟩) hHeld ?_
        rotate_left
        · intro w hSw
          go_simp <;> with_reducible rfl
        try simp only [Act.put, List.setIfInBounds_toArray, List.set_cons_zero, List.set_cons_succ]
        refine takeAt 1 (some 38) ?_ rfl rfl (by kernel_rfl) (by kernel_rfl) (by kernel_rfl) (fun _ _ _ h => h) (Or.inl ⟨by rfl, ?_⟩) hHeld ?_
        rotate_left
        · intro w hSw
          go_simp <;> with_reducible rfl
        try simp only [Act.put, List.setIfInBounds_toArray, List.set_cons_zero, List.set_cons_succ]
        refine takeAt 2 (some 39) ?_ rfl rfl (by kernel_rfl) (by kernel_rfl) (by kernel_rfl) (fun _ _ _ h => h) (Or.inl ⟨by rfl, ?_⟩) hHeld ?_
        rotate_left
        · intro w hSw
          go_simp <;> with_reducible rfl
        try simp only [Act.put, List.setIfInBounds_toArray, List.set_cons_zero, List.set_cons_succ]
        refine takeAt 3 (some 40) ?_ rfl rfl (by kernel_rfl) (by kernel_rfl) (by kernel_rfl) (fun _ _ _ h => h) (Or.inl ⟨by rfl, ?_⟩) hHeld ?_
        rotate_left
        · intro w hSw
          go_simp <;> with_reducible rfl
        try simp only [Act.put, List.setIfInBounds_toArray, List.set_cons_zero, List.set_cons_succ]
        refine callAt 4 41 56 (vals := #[.pointer (some ⟨b, 0, none⟩), .agg #[.int .i64 i, .slice oa on oc, .slice na nn nc]]) (by kernel_rfl) rfl rfl rfl rfl (by simp [Act.eval]) Tryz.func56 (by kernel_rfl) (by kernel_rfl) ?_
        refine Calls.mono (HFo.out) ?_
        rintro e w9 ⟨rfl, q, q3⟩
        have HY : Hid _ := q
        have hs9 : Sd p b i (.slice oa on oc) (.slice na nn nc) (.pointer (some ⟨tt, 0, none⟩)) w9 := q3 HS7.out
        clear q q3
        refine ⟨_, rfl, hs9, fun hHeld => ?_⟩
        try simp only [Act.put, List.setIfInBounds_toArray, List.set_cons_zero, List.set_cons_succ]
        refine wpAnyH_done (by kernel_rfl) ?_ _
        refine NoPanic.normal ?_
        have HN : Hid (LpV B b o M a { s with m := m', T := s.T } (.slice (some ⟨g, off, none⟩) n dc) ds w (k + 1) w9) := HY.out
        clear HFo HY HS7 s0 s1 s2 hs9
        go_wp2_with fail
        go_roundw
        case rel => exact ⟨k + 1, by omega, by go_num, HN.out⟩
        case measure => simp only [intOf]; omega
      · obtain rfl : k = n := by omega
        have g1 : decide ((k : Int) < (k : Int)) = false := by simp
        obtain ⟨o1, lk, hb, fk, hx, ha, hll, hls, hmb, hmd⟩ := HI.out
        have hlk : lk = s.T m'.now := by
          have e := H5.out.2.2.1
          have e2 : ds.take k = ds := List.take_of_length_le (by rw [H5.out.2.2.2.2.1]; exact Nat.le_refl _)
          rw [e2] at ha
          have ha' : apps s.ls ds = some lk := ha
          rw [e] at ha'; exact (Option.some.inj ha').symm
        have e2 : ds.take k = ds := List.take_of_length_le (by rw [H5.out.2.2.2.2.1]; exact Nat.le_refl _)
        rw [e2] at hb hmd
        subst hlk
        have hb' : Bf B b o1 (M + 90000 * c) a { s with m := m', T := s.T, ls := s.T m'.now, mf := mfT s.mf ds } wr := hb.upM (by omega)
        have hmd' : ∀ x c, mfT s.mf ds x = some c → 97 ≤ x ∧ x ≤ 122 := hmd
        by_cases z : k = 0
        · as_aux_lemma =>
          subst z
          have hds : ds = [] := List.eq_nil_of_length_eq_zero H5.out.2.2.2.2.1
          have HK : Hid _ := keepL hb' hmd'
          have HF : Hid (FK B o o1 w wr ∧ G m' ds ∧ apps s.ls ds = some (s.T m'.now) ∧ ∀ kb' wz, Bf B b o1 (M + 90000 * c) { a with kb := kb' } { s with m := m', T := s.T, ls := s.T m'.now, mf := mfT s.mf ds, kf := mfT s.mf ds, kcur := s.cur } wz → Bf B b o1 (M + 90000 * c) { a with kb := kb' } (wyS s m' ds) wz) := ⟨fk, H5.out.2.2.2.2.2.1, H5.out.2.2.1, fun kb' wz hz => by
            have e : curT s ds (s.T m'.now).length = s.cur := by unfold curT; rw [hds]; rfl
            unfold wyS; rw [e]; exact hz⟩
          clear HI H5 HH hb fk hx ha hll hls hmb hmd hb' hmd' e2 hds
          go_wp2_with fail
          refine Calls.mono HK.out ?_
          rintro e w7 ⟨rfl, kb', h7, f7⟩
          have HZ : Hid (∃ o' kb' m' ds, G m' ds ∧ apps s.ls ds = some (s.T m'.now) ∧ Bf B b o' (M + 90000 * c) { a with kb := kb' } (wyS s m' ds) w7 ∧ FK B o o' w w7) := ⟨o1, kb', m', ds, HF.out.2.1, HF.out.2.2.1, HF.out.2.2.2 kb' w7 h7, HF.out.1.trans f7⟩
          clear HK h7 f7 HF
          go_wp2_with fail
          go_ret
          exact ⟨0, rfl, .inr ⟨rfl, by rw [← HU.out]; exact HZ.out⟩⟩
        · as_aux_lemma =>
          have g3 : decide ((k : Int) > 0) = true := decide_eq_true (by omega)
          have g4 : decide ((0 : Int) < (k : Int)) = true := decide_eq_true (by omega)
          have g5 : decide (0 < k) = true := decide_eq_true (by omega)
          obtain ⟨j, rfl⟩ : ∃ j, k = j + 1 := ⟨k - 1, by omega⟩
          obtain ⟨d, hd⟩ : ∃ d, ds[j]? = some d := ⟨_, List.getElem?_eq_getElem (by rw [H5.out.2.2.2.2.1]; omega)⟩
          obtain ⟨g, off, xo, yn, rfl, _, c0, c1, c2, ro, rn⟩ := Dr.at_ hx.dr hd
          have hlast : ds.getLast? = some d := by rw [List.getLast?_eq_getElem?, H5.out.2.2.2.2.1]; exact hd
          have hT := H5.out.2.2.2.2.2.2
          have hat : 0 ≤ d.at_ ∧ d.at_ ≤ 100000000 := by
            have hk2 : apps s.ls (ds.take j) ≠ none := fun e => by
              have h2 := H5.out.2.2.1
              have e1 : ds = ds.take j ++ ds.drop j := (List.take_append_drop _ _).symm
              rw [e1, apps_app, e] at h2; cases h2
            obtain ⟨l2, hl2⟩ := Option.ne_none_iff_exists'.1 hk2
            obtain ⟨l', hl1, _⟩ := apps_next hd hl2 H5.out.2.2.1
            obtain ⟨i, hi, hin, _⟩ := app1_spl hl1
            have hlen : ∀ (r : Nat) (lr : List ByteArray), r ≤ ds.length → apps s.ls (ds.take r) = some lr → lr.length ≤ 2000 + 2000 * r := by
              intro r
              induction r with
              | zero => intro lr _ h; rw [List.take_zero] at h; cases h; have := HH.out.2.1.ls.2.1; omega
              | succ r ih =>
                intro lr hr h
                obtain ⟨dr, hdr⟩ : ∃ d, ds[r]? = some d := ⟨_, List.getElem?_eq_getElem (by omega)⟩
                rw [take_snoc ds hdr, apps_app] at h
                cases hx2 : apps s.ls (ds.take r) with
                | none => rw [hx2] at h; cases h
                | some l3 =>
                  rw [hx2] at h
                  have h' : (app1 l3 dr).bind (fun l' => apps l' []) = some lr := h
                  cases hx3 : app1 l3 dr with
                  | none => rw [hx3] at h'; cases h'
                  | some l4 =>
                    rw [hx3] at h'; cases h'
                    obtain ⟨i4, _, hin4, rfl⟩ := app1_spl hx3
                    have := ih l3 (by omega) hx2
                    have := (H5.out.2.2.2.1 dr (List.mem_of_getElem? hdr)).2.1
                    rw [spl_len hin4]; omega
            have := hlen j l2 (by rw [H5.out.2.2.2.2.1]; omega) hl2
            omega
          have HP : Hid _ := bputL hb' (show (s.T m'.now).length ≤ 4000 by have := hT.2.1; omega) (n := d.at_ + 1) (by omega)
          have HF : Hid (FK B o o1 w wr ∧ G m' ds ∧ apps s.ls ds = some (s.T m'.now) ∧ (∀ x c, mfT s.mf ds x = some c → 97 ≤ x ∧ x ≤ 122) ∧ ∀ kb' wz, Bf B b o1 (M + 90000 * c) { a with kb := kb' } { s with m := m', T := s.T, ls := s.T m'.now, mf := mfT s.mf ds, cur := putC (d.at_ + 1) (s.T m'.now).length, kf := mfT s.mf ds, kcur := putC (d.at_ + 1) (s.T m'.now).length } wz → Bf B b o1 (M + 90000 * c) { a with kb := kb' } (wyS s m' ds) wz) := ⟨fk, H5.out.2.2.2.2.2.1, H5.out.2.2.1, hmd', fun kb' wz hz => by
            have e : curT s ds (s.T m'.now).length = putC (d.at_ + 1) (s.T m'.now).length := by unfold curT; rw [hlast]
            unfold wyS; rw [e]; exact hz⟩
          obtain ⟨x, hxa⟩ : ∃ x, d.at_ = x := ⟨_, rfl⟩
          rw [hxa] at c0 HP hat
          have HXA : Hid (d.at_ = x) := hxa
          have hk3 : ((j + 1 : Nat) : Int) - 1 = (j : Int) := by omega
          clear HI H5 HH hb fk hx ha hll hls hmb hmd hb' hmd' e2 c1 c2 ro rn hd hlast hT hxa
          go_wp2_with fail
          refine Calls.mono HP.out ?_
          rintro e w6 ⟨rfl, h6, f6⟩
          have HK : Hid _ := keepL h6 HF.out.2.2.2.1
          have H6 : Hid (FK B o o1 w w6) := HF.out.1.trans f6
          clear HP h6 f6 c0
          go_wp2_with fail
          refine Calls.mono HK.out ?_
          rintro e w7 ⟨rfl, kb', h7, f7⟩
          have HZ : Hid (∃ o' kb' m' ds, G m' ds ∧ apps s.ls ds = some (s.T m'.now) ∧ Bf B b o' (M + 90000 * c) { a with kb := kb' } (wyS s m' ds) w7 ∧ FK B o o' w w7) := ⟨o1, kb', m', ds, HF.out.2.1, HF.out.2.2.1, HF.out.2.2.2.2 kb' w7 (by rw [HXA.out]; exact h7), H6.out.trans f7⟩
          clear HK h7 f7 HF
          go_wp2_with fail
          go_ret
          exact ⟨0, rfl, .inr ⟨rfl, by rw [← HU.out]; exact HZ.out⟩⟩
set_option maxHeartbeats 16000000 in
theorem bgo_any (h : Bf B b o M a s w) (f : Fine (s.ls.length : Int) s) (hop : s.op = []) (hc : c ≤ 1000) (hM : M + 90000 * (c + 1) < 280000000) (h1 : Sm1 s.m.L) (hc2 : 2 * s.m.L.length ≤ c) {seq : Int} (hr : Rg seq) :
    Calls Tryz.prog 38 #[.pointer (some ⟨b, 0, none⟩), .int .i64 seq] w fun e w' => ∃ err, e = .returned (.int .u16 err) ∧ ((err ≠ 0 ∧ look s.m.L seq = none ∧ Bf B b o M a s w' ∧ FK B o o w w') ∨
      (err = 0 ∧ ∃ o' kb' m' ds, GoG s.m seq m' ds ∧ apps s.ls ds = some (s.T m'.now) ∧ Bf B b o' (M + 90000 * c) { a with kb := kb' } (wyS s m' ds) w' ∧ FK B o o' w w')) := by
  have HT : Hid (∀ z g1 g2, Kp w z → Lc 127 g1 [.func (.func 80) #[.pointer (some ⟨a.u, 0, none⟩)] #[]] z → Lc 3 g2 [.int .i64 seq] z → Calls Tryz.prog 50 #[.pointer (some ⟨b, 0, none⟩), .func (.func 122) #[] #[.pointer (some ⟨g1, 0, none⟩), .pointer (some ⟨g2, 0, none⟩)]] z fun e w' => ∃ err, e = .returned (.int .u16 err) ∧ ((err ≠ 0 ∧ look s.m.L seq = none ∧ Bf B b o M a s w' ∧ FK B o o w w') ∨
      (err = 0 ∧ ∃ o' kb' m' ds, GoG s.m seq m' ds ∧ apps s.ls ds = some (s.T m'.now) ∧ Bf B b o' (M + 90000 * c) { a with kb := kb' } (wyS s m' ds) w' ∧ FK B o o' w w'))) := fun z g1 g2 kz l1 l2 => by
    have hz := h.kp_ kz
    refine (travel_Go (E := fun _ => look s.m.L seq = none) (G := GoG s.m seq) hz f hop hc hM (fun m' ds q => by rw [q.2.1]; exact q.1) (fun y ky => said1_any (l1.kp ky) (l2.kp ky) (P := Led2 (Fre o) B a.C a.u s.m s.T (fun _ => look s.m.L seq = none) (GoG s.m seq) c y) (go_lead (hz.kp_ ky).st hr h1 hc2))).mono ?_
    rintro e w' ⟨err, rfl, q⟩
    refine ⟨err, rfl, ?_⟩
    rcases q with ⟨q1, q2, q3, q4⟩ | ⟨q1, o', kb', m', ds, q2, q3, q4, q5⟩
    · exact .inl ⟨q1, q2, q3, (FK.kp kz o).trans q4⟩
    · exact .inr ⟨q1, o', kb', m', ds, q2, q3, q4, (FK.kp kz o).trans q5⟩
  have c3 := h.box.at (j := 3) rfl
  obtain ⟨u, hu⟩ : ∃ u, a.u = u := ⟨_, rfl⟩
  have HS : Hid _ := said_any w (u := u) seq
  rw [hu] at HT c3 ⊢
  clear h f hop hM h1 hc2 hr hc hu
  go_enter Tryz.func38, Tryz.ntmps38
  go_wp2_with fail
  refine Calls.mono HS.out ?_
  rintro e w5 ⟨g1, g2, rfl, l1, l2, k5⟩
  have HT2 : Hid _ := HT.out w5 g1 g2 k5 l1 l2
  clear HT HS l1 l2 k5
  go_wp2_with fail
  refine Calls.mono HT2.out ?_
  rintro e w6 ⟨err, rfl, q⟩
  have HX : Hid _ := q
  clear HT2 q c3
  go_wp2_with fail
  go_ret
  exact ⟨err, rfl, HX.out⟩
end
end Go.Proofs.YtaefeakmlgjonaaGreat
namespace Go.Proofs.YtaefeakmlgjonaaGreat
open Go.ChangeShapes Go.WideShapes Go.ChangeAt Go.RowKit
set_option linter.unusedVariables false
set_option linter.unusedSimpArgs false
set_option maxRecDepth 100000
theorem underOp : (Tryz.prog.underlying 42).map (fun | .struct fs => fs.toList.map (fun f => (f.type, f.offset)) | _ => []) = some [(5, 0), (3, 1), (3, 2), (3, 3), (22, 4), (4, 5)] := by kernel_rfl
theorem cOp : Tryz.prog.cellsOf 42 = 6 := by kernel_rfl
theorem cBool : Tryz.prog.cellsOf 4 = 1 := by kernel_rfl
theorem fI64 {a : Int} (w : (Lit.int .i64 a).wf = true) : -9223372036854775808 ≤ a ∧ a < 9223372036854775808 := by
  have h : (decide (IntKind.i64.min ≤ a) && decide (a ≤ IntKind.i64.max)) = true := w
  rw [Bool.and_eq_true, decide_eq_true_eq, decide_eq_true_eq] at h
  have e1 : IntKind.i64.min = -9223372036854775808 := by decide
  have e2 : IntKind.i64.max = 9223372036854775807 := by decide
  omega
theorem bStr : Tryz.prog.bytesOf 9 = 16 := by kernel_rfl
theorem reach_eq : reachBytes = 140737488351232 := by decide
theorem weights_mem {H : Type} {P : Program} {e : TypeId} {ds : List (DataW H)} {d : DataW H} {n : Nat} (hd : d ∈ ds) (hn : n ∈ d.weights P e) : n ∈ DataW.weightsAll P e ds := by
  induction ds with
  | nil => cases hd
  | cons a r ih =>
    simp only [DataW.weightsAll, List.mem_append]
    rcases List.mem_cons.1 hd with rfl | hd
    · exact .inl hn
    · exact .inr (ih hd)
theorem weights_all {H : Type} {P : Program} {ts : List TypeId} {ds : List (DataW H)} (h : (DataW.weightsEach P ts ds).all (· ≤ reachBytes) = true) {j : Nat} {t : TypeId} {d : DataW H} (ht : ts[j]? = some t) (hd : ds[j]? = some d) : ∀ n ∈ d.weights P t, n ≤ reachBytes := fun n hn => by
  have := List.all_eq_true.1 h _ (DataW.weights_mem_each ht hd n hn)
  simpa using this
theorem lines_wt {H : Type} {enc : TypeId × Value → H} {W : World} {fuel : Nat} {v : Value} {d : DataW H} {p : List MemPlace} (h : DataW.trod enc Tryz.prog W 0 (fun _ => true) true fuel 22 [v] = some (d, p)) {P : Nat → Prop} {ls : List ByteArray} (hs : Sl P v ls W) (hw : ∀ n ∈ d.weights Tryz.prog 22, n ≤ reachBytes) : ls.length ≤ 8796093022208 := by
  obtain ⟨a', c', e', _⟩ := hs.form
  rcases Deep.open_strs Tryz.underlying22 Tryz.underlying9 cStr h with ⟨hcs, hx⟩ | ⟨a, len, cap, m, Sx, hcs, _, hl, hm, hmm, hx, hcell⟩
  · simp only [List.cons.injEq, and_true] at hcs
    rw [hcs] at e'
    simp at e'
    omega
  · simp only [List.cons.injEq, and_true] at hcs
    rw [hcs] at e'
    simp at e'
    simp only [Prod.mk.injEq] at hx
    rw [hx.1] at hw
    simp only [DataW.weights, Tryz.underlying22] at hw
    have h0 := hw _ (List.mem_cons_self ..)
    simp only [List.length_map, List.length_range, bStr] at h0
    rw [reach_eq] at h0
    omega
structure Op13 where
  kd : Nat
  a : Int
  b : Int
  c : Int
  v : Value
  ls : List ByteArray
  i : Bool
def inI (a : Int) : Prop := -9223372036854775808 ≤ a ∧ a < 9223372036854775808
def Op13.ok (o : Op13) : Prop := o.kd < 256 ∧ inI o.a ∧ inI o.b ∧ inI o.c
def Op13.row (o : Op13) : List Value := [.int .u8 o.kd, .int .i64 o.a, .int .i64 o.b, .int .i64 o.c, o.v, .bool o.i]
def OpL (B : Nat) (v : Value) (l : List Op13) (w : World) : Prop :=
  ∃ a cap, v = .slice a l.length cap ∧ l.length ≤ cap ∧ cap ≤ maxLen ∧ ∀ (i : Nat) (o : Op13), l[i]? = some o → ∃ g off, a = some ⟨g, off, none⟩ ∧ g < B ∧ (∀ (j : Nat) (c : Value), o.row[j]? = some c → w.cell? ⟨g, off + i * 6 + j, none⟩ = some c) ∧ Sl (fun k => k < B) o.v o.ls w
theorem OpL.below {B : Nat} {v : Value} {l : List Op13} {w w1 : World} (h : OpL B v l w) (k : Below B w w1) : OpL B v l w1 := by
  obtain ⟨a, cap, rfl, h1, h2, h3⟩ := h
  refine ⟨a, cap, rfl, h1, h2, fun i o hi => ?_⟩
  obtain ⟨g, off, e, p, c0, q⟩ := h3 i o hi
  exact ⟨g, off, e, p, fun j c hc => by rw [World.cell?_of_block (k.block g p)]; exact c0 j c hc, sl_below q k⟩
theorem op_cells {H : Type} {enc : TypeId × Value → H} {W : World} {fuel : Nat} {cs : List Value} {x : DataW H × List MemPlace} (h : DataW.trod enc Tryz.prog W 0 (fun _ => true) true fuel 42 cs = some x) :
    ∃ o : Op13, cs = o.row ∧ o.ok ∧ Sl Anyw o.v o.ls W ∧ ((∀ n ∈ x.1.weights Tryz.prog 42, n ≤ reachBytes) → o.ls.length ≤ 8796093022208) := by
  have hu := underOp
  rw [Option.map_eq_some_iff] at hu
  obtain ⟨ty, hty, hfs⟩ := hu
  match ty, hty, hfs with
  | .struct fs, hty, hfs =>
    simp only at hfs
    obtain ⟨xs, n, _, rfl, hcl, hxl, hf⟩ := DataW.trod_struct hty h
    rw [cOp] at hcl
    match cs, hcl with
    | [k0, k1, k2, k3, k4, k5], _ =>
      obtain ⟨fl⟩ := fs
      match fl, hfs with
      | [f0, f1, f2, f3, f4, f5], hfs =>
        simp only [List.map_cons, List.map_nil, List.cons.injEq, Prod.mk.injEq, and_true] at hfs
        obtain ⟨⟨t0, o0⟩, ⟨t1, o1⟩, ⟨t2, o2⟩, ⟨t3, o3⟩, ⟨t4, o4⟩, ⟨t5, o5⟩⟩ := hfs
        match xs, hxl with
        | [y0, y1, y2, y3, y4, y5], _ =>
          have g0 := hf 0 f0 rfl
          have g1 := hf 1 f1 rfl
          have g2 := hf 2 f2 rfl
          have g3 := hf 3 f3 rfl
          have g4 := hf 4 f4 rfl
          have g5 := hf 5 f5 rfl
          rw [t0, o0, cUB] at g0
          rw [t1, o1, cInt] at g1
          rw [t2, o2, cInt] at g2
          rw [t3, o3, cInt] at g3
          rw [t4, o4, cStrs] at g4
          rw [t5, o5, cBool] at g5
          obtain ⟨a0, e0, r0, w0⟩ := DataW.trod_int Tryz.underlying5 g0
          obtain ⟨a1, e1, r1, w1⟩ := DataW.trod_int Tryz.underlying3 g1
          obtain ⟨a2, e2, r2, w2⟩ := DataW.trod_int Tryz.underlying3 g2
          obtain ⟨a3, e3, r3, w3⟩ := DataW.trod_int Tryz.underlying3 g3
          have g4' : DataW.trod enc Tryz.prog W 0 (fun _ => true) true n 22 [k4] = some (y4.1, y4.2) := g4
          obtain ⟨ls, h1, h2⟩ := lines_cells g4'
          obtain ⟨a5, e5, r5⟩ := DataW.trod_bool Tryz.underlying4 g5
          simp at e0 e1 e2 e3 e5
          have u0 := fU8 w0
          refine ⟨⟨a0.toNat, a1, a2, a3, k4, ls, a5⟩, ?_, ⟨by show a0.toNat < 256; omega, fI64 w1, fI64 w2, fI64 w3⟩, h1, fun hw => ?_⟩
          rotate_left
          · have hw' : ∀ n ∈ (DataW.agg [y0.1, y1.1, y2.1, y3.1, y4.1, y5.1] : DataW H).weights Tryz.prog 42, n ≤ reachBytes := hw
            simp only [DataW.weights, hty, List.map_cons, List.map_nil, DataW.weightsEach, List.mem_append, t0, t1, t2, t3, t4, t5] at hw'
            exact lines_wt g4' h1 fun m hm => hw' m (.inr (.inr (.inr (.inr (.inl hm)))))
          unfold Op13.row
          simp only [Int.toNat_of_nonneg u0.1]
          rw [e0, e1, e2, e3, e5]
theorem ops_form {H : Type} {enc : TypeId × Value → H} {W : World} {base : Nat} {v : Value} {d : DataW H} {p : List MemPlace} (hval : Value.okWide Tryz.prog W .any base 37 v) (h : DataW.Trod enc Tryz.prog W 0 (fun _ => true) true 37 v d p) :
    ∃ l : List Op13, OpL W.heap.size v l W ∧ (∀ o ∈ l, o.ok) ∧ ((∀ n ∈ d.weights Tryz.prog 37, n ≤ reachBytes) → ∀ o ∈ l, o.ls.length ≤ 8796093022208) := by
  obtain ⟨a0, len0, cap0, rfl⟩ := okWide_slice Tryz.underlying37 hval
  obtain ⟨fuel, hf⟩ := h
  rcases Deep.open_slice Tryz.underlying37 hf with ⟨hcs, hx⟩ | ⟨a, len, cap, m, n, D, Pl, hcs, _, hl, hm, hmm, hx, hcell⟩
  · simp [Value.cells] at hcs
    obtain ⟨rfl, rfl, rfl⟩ := hcs
    exact ⟨[], ⟨none, 0, rfl, by simp, by simp [maxLen], fun i t hi => by cases hi⟩, (fun o ho => by cases ho), fun _ o ho => by cases ho⟩
  · simp [Value.cells] at hcs
    obtain ⟨rfl, rfl, rfl⟩ := hcs
    simp only [if_true] at hmm
    subst hmm
    simp only [Prod.mk.injEq] at hx
    rw [cOp] at hcell
    have each : ∀ i, i < m → ∃ o : Op13, (∀ (j : Nat) c, o.row[j]? = some c → W.cell? ((a.add (i * 6)).add j) = some c) ∧ o.ok ∧ Sl Anyw o.v o.ls W ∧ ((∀ n ∈ (D i).weights Tryz.prog 42, n ≤ reachBytes) → o.ls.length ≤ 8796093022208) := fun i hi => by
      obtain ⟨cs', h1, h2⟩ := hcell i hi
      obtain ⟨o, e, r1⟩ := op_cells h2
      obtain ⟨_, hlen, hc⟩ := World.cells?_some h1
      refine ⟨o, fun j c hj => ?_, r1⟩
      rw [hc j (by have := (List.getElem?_eq_some_iff.1 hj).1; simpa [Op13.row] using this), e]; exact hj
    haveI : Inhabited Op13 := ⟨⟨0, 0, 0, 0, .slice none 0 0, [], false⟩⟩
    obtain ⟨F, hF⟩ := Deep.choose_lt each
    refine ⟨(List.range len0).map F, ⟨some a, m, by simp, by simpa using hl, hm, fun i o hi => ?_⟩, fun o ho => ?_, fun hw o ho => ?_⟩
    · simp only [List.getElem?_map, Option.map_eq_some_iff] at hi
      obtain ⟨k, hk, rfl⟩ := hi
      obtain ⟨hlt, hk⟩ := List.getElem?_eq_some_iff.1 hk
      simp at hk hlt
      subst hk
      obtain ⟨b, off, spot⟩ := a
      have hs : spot = none := by simpa [Addr.add] using World.cell?_spot ((hF 0 (by omega)).1 0 _ rfl)
      subst hs
      have q := (hF i (by omega)).1
      have e : ∀ j, ((⟨b, off, none⟩ : Addr).add (i * 6)).add j = ⟨b, off + i * 6 + j, none⟩ := fun j => by rw [add2, add2]
      have z0 := q 0 _ rfl
      rw [e] at z0
      exact ⟨b, off, rfl, World.block_lt_of_cell? _ _ z0, fun j c hc => by rw [← e]; exact q j c hc, (hF i (by omega)).2.2.1.mono fun k hk _ => hk⟩
    · obtain ⟨k, hk, rfl⟩ := List.mem_map.1 ho
      have hk' : k < len0 := by simpa using hk
      exact (hF k (by omega)).2.1
    · obtain ⟨k, hk, rfl⟩ := List.mem_map.1 ho
      have hk' : k < len0 := by simpa using hk
      rw [hx.1] at hw
      simp only [DataW.weights, Tryz.underlying37] at hw
      exact (hF k (by omega)).2.2.2 fun m hm => hw m (List.mem_cons_of_mem _ (List.mem_append_left _ (weights_mem (d := D k) (List.mem_map.2 ⟨k, by simpa using hk', rfl⟩) hm)))
end Go.Proofs.YtaefeakmlgjonaaGreat
namespace Go.Proofs.YtaefeakmlgjonaaGreat
open Go.ChangeShapes Go.WideShapes Go.ChangeAt Go.RowKit Go.Maps Go.MapKept
set_option linter.unusedVariables false
set_option linter.unusedSimpArgs false
set_option maxRecDepth 100000
structure Opn (B b : Nat) (o : Tz.Own) (M : Nat) (a : At) (s : BS) (k : Nat) (w : World) : Prop where
  bf : Bf B b o M a s w
  fine : Fine (s.ls.length : Int) s
  op : s.op.length ≤ 1
  sm : Sm1 s.m.L
  nx : s.m.next ≤ k
  ok : ∀ x, TxtOk (s.T x)
section
variable {P : Nat → Prop} {B b M k : Nat} {o : Tz.Own} {a : At} {s : BS} {w : World} {v : Value} {ms : List ByteArray}
theorem Clm.opn (h : Clm B b o M a s k w) {M' : Nat} (hM : M ≤ M') {w' : World} (kk : Kp w w') : Opn B b o M' a s k w' :=
  ⟨(h.bf.kp_ kk).upM hM, h.fine, by rw [h.op]; decide, h.sm, h.nx, h.ok⟩
theorem Clm.splice (h : Clm B b o M a s k w) (hM : M + 90000 < 280000000) {A C : Int} (hA : inI A) (hC : inI C) (hv : Sl P v ms w) (hm6 : ms.length ≤ 8796093022208) :
    Calls Tryz.prog 24 #[.pointer (some ⟨b, 0, none⟩), .int .i64 A, .int .i64 C, v] w fun e w' => ∃ err o' a' s1, e = .returned (.int .u16 err) ∧ Hid (Opn B b o' (M + 90000) a' s1 k w' ∧ FK B o o' w w' ∧ (err = 0 → (1 ≤ A ∧ A ≤ 4000 ∧ 0 ≤ C ∧ C ≤ 4000) ∧ ∀ x, MarkAt s s1 x A C)) := by
  have hl1 := h.fine.ls.2.1
  by_cases q : A < 1 ∨ (s.ls.length : Int) + 1 < A ∨ C < 0 ∨ (s.ls.length : Int) - A + 1 < C
  · refine (splice_out h.bf h.fine.ls.2 (by unfold inI at hC; omega) (by unfold inI at hA; omega) q).mono ?_
    rintro e w' ⟨rfl, n, rfl⟩
    exact ⟨_, o, a, s, rfl, h.opn (by omega) (kp_drewN _ _), FK.kp (kp_drewN _ _) o, fun e => absurd e (by decide)⟩
  · obtain ⟨i, rfl⟩ : ∃ i : Nat, A = (i : Int) + 1 := ⟨(A - 1).toNat, by omega⟩
    obtain ⟨n, rfl⟩ : ∃ n : Nat, C = (n : Int) := ⟨C.toNat, by omega⟩
    have hin : i + n ≤ s.ls.length := by omega
    by_cases hE : beyondE ((s.ls.length : Int) - (n : Int) + (ms.length : Int)) ms = 0
    · by_cases hz : n = 0 ∧ ms.length = 0
      · refine (splice_idle h.bf h.fine.ls.2 hin hv hm6 hE hz).mono ?_
        rintro e w' ⟨rfl, m, rfl⟩
        exact ⟨_, o, a, s, rfl, h.opn (by omega) (kp_drewN _ _), FK.kp (kp_drewN _ _) o, fun _ => ⟨by omega, fun x c hc _ => ⟨c, hc, rfl⟩⟩⟩
      · refine (splice_done h.bf h.fine (by omega) hM hin hv hm6 hE hz).mono ?_
        rintro e w' ⟨rfl, o', ov', q1, q2⟩
        have f1 := fine_sp h.fine hin hE (by rw [h.op]; decide)
        refine ⟨_, o', _, _, rfl, ⟨q1, f1, ?_, h.sm, h.nx, h.ok⟩, q2, fun _ => ⟨by omega, fun x => mark_at h.fine hin (far_ln hE (by omega)).1.1 x⟩⟩
        show (s.op ++ [_]).length ≤ 1
        rw [h.op]; exact Nat.le_refl 1
    · have hE1 : 0 ≤ beyondE ((s.ls.length : Int) - (n : Int) + (ms.length : Int)) ms ∧ beyondE ((s.ls.length : Int) - (n : Int) + (ms.length : Int)) ms < 65536 := by
        unfold beyondE; split
        · decide
        · split <;> decide
      refine (splice_far h.bf h.fine.ls.2 hin hv hm6 rfl hE hE1).mono ?_
      rintro e w' ⟨rfl, m, rfl⟩
      exact ⟨_, o, a, s, rfl, h.opn (by omega) (kp_drewN _ _), FK.kp (kp_drewN _ _) o, fun e => absurd e hE⟩
end
end Go.Proofs.YtaefeakmlgjonaaGreat
/- in: places in a text of so many lines. -/
namespace Go.Proofs.YtaefeakmlgjonaaGreat
open Go.ChangeShapes Go.WideShapes Go.ChangeAt Go.RowKit Go.Maps Go.MapKept
set_option linter.unusedVariables false
set_option linter.unusedSimpArgs false
set_option maxRecDepth 100000
theorem modI (x : Int) {k : Int} (hk : 0 < k) : ∃ A : Int, (max x 0).tmod k = A ∧ 0 ≤ A ∧ A < k := by
  have e : (max x 0).tmod k = (max x 0) % k := Int.tmod_eq_emod_of_nonneg (by omega)
  have h1 := Int.emod_nonneg (max x 0) (b := k) (by omega)
  have h2 := Int.emod_lt_of_pos (max x 0) hk
  exact ⟨(max x 0) % k, e, h1, h2⟩
theorem kp_frO {w w1 w2 : World} {p : Nat} (k : Kp w w1) (h : w.heap.size = p) (f : Fr (On p) w1 w2) : Kp w w2 := by
  have := f.below (B := p) (by rw [← h]; exact k.size) fun k hk e => by unfold On at e; omega
  subst h
  exact k.trans this
/-- Two blocks of six cells each, in a world: the call's own, and what it answers. -/
structure InW (p : Nat) (l : List Value) (w w1 : World) : Prop where
  sz : w.heap.size = p
  b0 : Lc 42 p l w1
  b1 : Lc 42 (p + 1) [.int .u8 0, .int .i64 0, .int .i64 0, .int .i64 0, .slice none 0 0, .bool false] w1
  kp : Kp w w1
theorem InW.set {p : Nat} {l : List Value} {w w1 : World} (h : InW p l w w1) (j : Nat) (u : Value) : InW p (l.set j u) w (w1.setCell ⟨p, j, none⟩ u) :=
  ⟨h.sz, h.b0.set j u, h.b1.other (by omega), kp_frO h.kp h.sz (fr_set p j u _)⟩
theorem InW.draw {p : Nat} {l : List Value} {w w1 : World} (h : InW p l w w1) (q : Nat) : InW p l w (w1.drewN q) :=
  ⟨h.sz, h.b0.kp (kp_drewN _ _), h.b1.kp (kp_drewN _ _), kp_trans h.kp (kp_drewN _ _)⟩
theorem InW.cells {p : Nat} {u0 u1 u2 u3 u4 u5 : Value} {w w1 : World} (h : InW p [u0, u1, u2, u3, u4, u5] w w1) :
    (w1.cell? ⟨p, 0, none⟩ = some u0 ∧ w1.cell? ⟨p, 1, none⟩ = some u1 ∧ w1.cell? ⟨p, 2, none⟩ = some u2 ∧ w1.cell? ⟨p, 3, none⟩ = some u3 ∧ w1.cell? ⟨p, 5, none⟩ = some u5) ∧
    (w1.frozen? ⟨p, 0, none⟩ = false ∧ w1.frozen? ⟨p, 1, none⟩ = false ∧ w1.frozen? ⟨p, 2, none⟩ = false ∧ w1.frozen? ⟨p, 3, none⟩ = false) :=
  ⟨⟨h.b0.at (j := 0) rfl, h.b0.at (j := 1) rfl, h.b0.at (j := 2) rfl, h.b0.at (j := 3) rfl, h.b0.at (j := 5) rfl⟩, ⟨h.b0.fz 0, h.b0.fz 1, h.b0.fz 2, h.b0.fz 3⟩⟩
theorem sizeOp : (Tryz.prog.info? 42).map (·.size) = some 6 := by kernel_rfl
theorem kp_frOn {w w1 w2 : World} {p q : Nat} (k : Kp w w1) (h : w.heap.size = p) (f : Fr (On (p + q)) w1 w2) : Kp w w2 := by
  have := f.below (B := p) (by rw [← h]; exact k.size) fun k hk e => by unfold On at e; omega
  subst h
  exact k.trans this
set_option maxHeartbeats 32000000 in
theorem in_no {w : World} {kd : Nat} (hk : kd < 256) {a b c : Int} (ha : (-9223372036854775808 ≤ a ∧ a < 9223372036854775808)) (hb : (-9223372036854775808 ≤ b ∧ b < 9223372036854775808)) (hc : (-9223372036854775808 ≤ c ∧ c < 9223372036854775808)) {va : Option Addr} {vn vc : Nat} {bb : Bool} (hbb : bb = false) {n : Nat} (h1 : 1 ≤ n) (h2 : n ≤ 3000) :
    Calls Tryz.prog 19 #[.agg #[.int .u8 kd, .int .i64 a, .int .i64 b, .int .i64 c, .slice va vn vc, .bool bb], .int .i64 n] w fun e w' => ∃ A C E : Int, e = .returned (.agg #[.int .u8 kd, .int .i64 A, .int .i64 C, .int .i64 E, .slice va vn vc, .bool bb]) ∧ ((-9223372036854775808 ≤ A ∧ A < 9223372036854775808) ∧ (-9223372036854775808 ≤ C ∧ C < 9223372036854775808) ∧ (-9223372036854775808 ≤ E ∧ E < 9223372036854775808) ∧ Kp w w') := by
  obtain ⟨p, hp⟩ : ∃ p, w.heap.size = p := ⟨_, rfl⟩
  obtain ⟨W1, hW1⟩ : ∃ z, w.alloc (.cells #[.int .u8 kd, .int .i64 a, .int .i64 b, .int .i64 c, .slice va vn vc, .bool bb] 42) = z := ⟨_, rfl⟩
  have hp1 : W1.heap.size = p + 1 := by rw [← hW1, alloc_size, hp]
  obtain ⟨W2, hW2⟩ : ∃ z, W1.alloc (.cells #[.int .u8 0, .int .i64 0, .int .i64 0, .int .i64 0, .slice none 0 0, .bool false] 42) = z := ⟨_, rfl⟩
  have HI : Hid (InW p [.int .u8 kd, .int .i64 a, .int .i64 b, .int .i64 c, .slice va vn vc, .bool bb] w W2) := by
    have k1 : Kp w W1 := by rw [← hW1]; exact kp_alloc _ _
    have k2 : Kp W1 W2 := by rw [← hW2]; exact kp_alloc _ _
    have b0 : Lc 42 p [.int .u8 kd, .int .i64 a, .int .i64 b, .int .i64 c, .slice va vn vc, .bool bb] W1 := by rw [← hW1, ← hp]; exact Lc.new w [.int .u8 kd, .int .i64 a, .int .i64 b, .int .i64 c, .slice va vn vc, .bool bb] 42
    have b1 : Lc 42 (p + 1) [.int .u8 0, .int .i64 0, .int .i64 0, .int .i64 0, .slice none 0 0, .bool false] W2 := by rw [← hW2, ← hp1]; exact Lc.new W1 [.int .u8 0, .int .i64 0, .int .i64 0, .int .i64 0, .slice none 0 0, .bool false] 42
    exact ⟨hp, b0.kp k2, b1, kp_trans k1 k2⟩
  obtain ⟨⟨c0, c1, c2, c3, c5⟩, ⟨f0, f1, f2, f3⟩⟩ := HI.out.cells
  have HO : Hid ((-9223372036854775808 ≤ a ∧ a < 9223372036854775808) ∧ (-9223372036854775808 ≤ b ∧ b < 9223372036854775808) ∧ (-9223372036854775808 ≤ c ∧ c < 9223372036854775808)) := ⟨ha, hb, hc⟩
  subst hbb
  clear ha hb hc
  go_enter Tryz.func19, Tryz.ntmps19
  go_wp2_with (first | (refine wpList_load_box HI.out.b0 0 [.int .u8 kd, .int .i64 a, .int .i64 b, .int .i64 c, .slice va vn vc, .bool false] rfl 42 (.tmp 2) rfl rfl rfl _ Tryz.underlying42 rfl sizeOp ?_) | (refine wpList_store_box HI.out.b1 0 [.int .u8 kd, .int .i64 a, .int .i64 b, .int .i64 c, .slice va vn vc, .bool false] rfl 42 (.tmp 4) (.tmp 48) rfl rfl rfl (Nat.le_refl 6) sizeOp (by intro v hv; simp only [List.mem_cons, List.not_mem_nil, or_false] at hv; rcases hv with rfl | rfl | rfl | rfl | rfl | rfl <;> rfl) rfl ?_; intro w5 q1 q2 q3; have HX : Hid (Lc 42 (p + 1) [.int .u8 kd, .int .i64 a, .int .i64 b, .int .i64 c, .slice va vn vc, .bool false] w5 ∧ Kp w w5) := ⟨q1, kp_frOn HI.out.kp HI.out.sz q2⟩; clear q1 q2 q3))
  refine bodyPost_ret (results_box1 rfl rfl HX.out.1 Tryz.underlying42 rfl sizeOp) rfl ?_
  exact ⟨_, _, _, rfl, HO.out.1, HO.out.2.1, HO.out.2.2, HX.out.2⟩
set_option maxHeartbeats 32000000 in
theorem in_yes {w : World} {kd : Nat} (hk : kd < 256) {a b c : Int} (ha : (-9223372036854775808 ≤ a ∧ a < 9223372036854775808)) (hb : (-9223372036854775808 ≤ b ∧ b < 9223372036854775808)) (hc : (-9223372036854775808 ≤ c ∧ c < 9223372036854775808)) {va : Option Addr} {vn vc : Nat} {bb : Bool} (hbb : bb = true) {n : Nat} (h1 : 1 ≤ n) (h2 : n ≤ 3000) :
    Calls Tryz.prog 19 #[.agg #[.int .u8 kd, .int .i64 a, .int .i64 b, .int .i64 c, .slice va vn vc, .bool bb], .int .i64 n] w fun e w' => ∃ A C E : Int, e = .returned (.agg #[.int .u8 kd, .int .i64 A, .int .i64 C, .int .i64 E, .slice va vn vc, .bool bb]) ∧ ((-9223372036854775808 ≤ A ∧ A < 9223372036854775808) ∧ (-9223372036854775808 ≤ C ∧ C < 9223372036854775808) ∧ (-9223372036854775808 ≤ E ∧ E < 9223372036854775808) ∧ Kp w w') := by
  obtain ⟨p, hp⟩ : ∃ p, w.heap.size = p := ⟨_, rfl⟩
  obtain ⟨W1, hW1⟩ : ∃ z, w.alloc (.cells #[.int .u8 kd, .int .i64 a, .int .i64 b, .int .i64 c, .slice va vn vc, .bool bb] 42) = z := ⟨_, rfl⟩
  have hp1 : W1.heap.size = p + 1 := by rw [← hW1, alloc_size, hp]
  obtain ⟨W2, hW2⟩ : ∃ z, W1.alloc (.cells #[.int .u8 0, .int .i64 0, .int .i64 0, .int .i64 0, .slice none 0 0, .bool false] 42) = z := ⟨_, rfl⟩
  have HI : Hid (InW p [.int .u8 kd, .int .i64 a, .int .i64 b, .int .i64 c, .slice va vn vc, .bool bb] w W2) := by
    have k1 : Kp w W1 := by rw [← hW1]; exact kp_alloc _ _
    have k2 : Kp W1 W2 := by rw [← hW2]; exact kp_alloc _ _
    have b0 : Lc 42 p [.int .u8 kd, .int .i64 a, .int .i64 b, .int .i64 c, .slice va vn vc, .bool bb] W1 := by rw [← hW1, ← hp]; exact Lc.new w [.int .u8 kd, .int .i64 a, .int .i64 b, .int .i64 c, .slice va vn vc, .bool bb] 42
    have b1 : Lc 42 (p + 1) [.int .u8 0, .int .i64 0, .int .i64 0, .int .i64 0, .slice none 0 0, .bool false] W2 := by rw [← hW2, ← hp1]; exact Lc.new W1 [.int .u8 0, .int .i64 0, .int .i64 0, .int .i64 0, .slice none 0 0, .bool false] 42
    exact ⟨hp, b0.kp k2, b1, kp_trans k1 k2⟩
  obtain ⟨⟨c0, c1, c2, c3, c5⟩, ⟨f0, f1, f2, f3⟩⟩ := HI.out.cells
  have HO : Hid ((-9223372036854775808 ≤ a ∧ a < 9223372036854775808) ∧ (-9223372036854775808 ≤ b ∧ b < 9223372036854775808) ∧ (-9223372036854775808 ≤ c ∧ c < 9223372036854775808)) := ⟨ha, hb, hc⟩
  subst hbb
  obtain ⟨A, hA, hA1, hA2⟩ := modI a (k := (n : Int)) (by omega)
  obtain ⟨C1, hC1, hC11, hC12⟩ := modI b (k := (n : Int) - (1 + A) + 2) (by omega)
  obtain ⟨C2, hC2, hC21, hC22⟩ := modI b (k := (n : Int) - (1 + A) + 1) (by omega)
  obtain ⟨E, hE, hE1, hE2⟩ := modI c (k := (n : Int) + 1) (by omega)
  have hn0 : (n : Int) ≠ 0 := by omega
  have hn1 : (n : Int) - (1 + A) + 1 ≠ 0 := by omega
  have hn2 : (n : Int) - (1 + A) + 2 ≠ 0 := by omega
  have hn3 : (n : Int) + 1 ≠ 0 := by omega
  have hr : 0 ≤ A ∧ A ≤ 3000 ∧ 0 ≤ C1 ∧ C1 ≤ 3003 ∧ 0 ≤ C2 ∧ C2 ≤ 3003 ∧ 0 ≤ E ∧ E ≤ 3000 := by omega
  clear ha hb hc hA1 hA2 hC11 hC12 hC21 hC22 hE1 hE2
  go_enter Tryz.func19, Tryz.ntmps19
  go_upto_region 3 with fail
  have HJ : Hid (InW p [.int .u8 kd, .int .i64 (1 + A), .int .i64 b, .int .i64 c, .slice va vn vc, .bool true] w (W2.setCell ⟨p, 1, none⟩ (.int .i64 (1 + A)))) := HI.out.set 1 _
  obtain ⟨W3, hW3⟩ : ∃ z, W2.setCell ⟨p, 1, none⟩ (.int .i64 (1 + A)) = z := ⟨_, rfl⟩
  rw [hW3] at HJ ⊢
  clear hW3 c0 c1 c2 c3 c5 f0 f1 f2 f3 HI hW1 hW2
  obtain ⟨⟨c0, c1, c2, c3, c5⟩, ⟨f0, f1, f2, f3⟩⟩ := HJ.out.cells
  by_cases q : kd % 14 < 4
  · have d1 : decide ((kd : Int) % 14 < 4) = true := decide_eq_true (by omega)
    have d2 : decide ((kd : Int).tmod 14 < 4) = true := by rw [Int.tmod_eq_emod_of_nonneg (by omega)]; exact d1
    have d3 : decide (kd % 14 < 4) = true := decide_eq_true q
    go_upto_region 6 with fail
    have HK : Hid (InW p [.int .u8 kd, .int .i64 (1 + A), .int .i64 C1, .int .i64 c, .slice va vn vc, .bool true] w (W3.setCell ⟨p, 2, none⟩ (.int .i64 C1))) := HJ.out.set 2 _
    obtain ⟨W4, hW4⟩ : ∃ z, W3.setCell ⟨p, 2, none⟩ (.int .i64 C1) = z := ⟨_, rfl⟩
    rw [hW4] at HK ⊢
    clear hW4 c0 c1 c2 c3 c5 f0 f1 f2 f3
    obtain ⟨⟨c0, c1, c2, c3, c5⟩, ⟨f0, f1, f2, f3⟩⟩ := HK.out.cells
    go_upto_region 7 with fail
    have HL : Hid (InW p [.int .u8 kd, .int .i64 (1 + A), .int .i64 C1, .int .i64 E, .slice va vn vc, .bool true] w (W4.setCell ⟨p, 3, none⟩ (.int .i64 E))) := HK.out.set 3 _
    obtain ⟨W5, hW5⟩ : ∃ z, W4.setCell ⟨p, 3, none⟩ (.int .i64 E) = z := ⟨_, rfl⟩
    rw [hW5] at HL ⊢
    clear hW5 c0 c1 c2 c3 c5 f0 f1 f2 f3
    go_wp2_with (first | (refine wpList_load_box HL.out.b0 0 [.int .u8 kd, .int .i64 (1 + A), .int .i64 C1, .int .i64 E, .slice va vn vc, .bool true] rfl 42 (.tmp 2) rfl rfl rfl _ Tryz.underlying42 rfl sizeOp ?_) | (refine wpList_store_box HL.out.b1 0 [.int .u8 kd, .int .i64 (1 + A), .int .i64 C1, .int .i64 E, .slice va vn vc, .bool true] rfl 42 (.tmp 4) (.tmp 48) rfl rfl rfl (Nat.le_refl 6) sizeOp (by intro v hv; simp only [List.mem_cons, List.not_mem_nil, or_false] at hv; rcases hv with rfl | rfl | rfl | rfl | rfl | rfl <;> rfl) rfl ?_; intro w5 q1 q2 q3; have HX : Hid (Lc 42 (p + 1) [.int .u8 kd, .int .i64 (1 + A), .int .i64 C1, .int .i64 E, .slice va vn vc, .bool true] w5 ∧ Kp w w5) := ⟨q1, kp_frOn HL.out.kp HL.out.sz q2⟩; clear q1 q2 q3))
    refine bodyPost_ret (results_box1 rfl rfl HX.out.1 Tryz.underlying42 rfl sizeOp) rfl ?_
    exact ⟨_, _, _, rfl, by omega, by omega, by omega, HX.out.2⟩
  · have d1 : decide ((kd : Int) % 14 < 4) = false := decide_eq_false (by omega)
    have d2 : decide ((kd : Int).tmod 14 < 4) = false := by rw [Int.tmod_eq_emod_of_nonneg (by omega)]; exact d1
    have d3 : decide (kd % 14 < 4) = false := decide_eq_false q
    go_upto_region 5 with fail
    go_region
    have HK : Hid (InW p [.int .u8 kd, .int .i64 (1 + A), .int .i64 (1 + A + C2), .int .i64 c, .slice va vn vc, .bool true] w (W3.setCell ⟨p, 2, none⟩ (.int .i64 (1 + A + C2))).drew) := (HJ.out.set 2 _).draw 1
    obtain ⟨W4, hW4⟩ : ∃ z, (W3.setCell ⟨p, 2, none⟩ (.int .i64 (1 + A + C2))).drew = z := ⟨_, rfl⟩
    rw [hW4] at HK ⊢
    clear hW4 c0 c1 c2 c3 c5 f0 f1 f2 f3
    obtain ⟨⟨c0, c1, c2, c3, c5⟩, ⟨f0, f1, f2, f3⟩⟩ := HK.out.cells
    go_upto_region 7 with fail
    have HL : Hid (InW p [.int .u8 kd, .int .i64 (1 + A), .int .i64 (1 + A + C2), .int .i64 E, .slice va vn vc, .bool true] w (W4.setCell ⟨p, 3, none⟩ (.int .i64 E))) := HK.out.set 3 _
    obtain ⟨W5, hW5⟩ : ∃ z, W4.setCell ⟨p, 3, none⟩ (.int .i64 E) = z := ⟨_, rfl⟩
    rw [hW5] at HL ⊢
    clear hW5 c0 c1 c2 c3 c5 f0 f1 f2 f3
    go_wp2_with (first | (refine wpList_load_box HL.out.b0 0 [.int .u8 kd, .int .i64 (1 + A), .int .i64 (1 + A + C2), .int .i64 E, .slice va vn vc, .bool true] rfl 42 (.tmp 2) rfl rfl rfl _ Tryz.underlying42 rfl sizeOp ?_) | (refine wpList_store_box HL.out.b1 0 [.int .u8 kd, .int .i64 (1 + A), .int .i64 (1 + A + C2), .int .i64 E, .slice va vn vc, .bool true] rfl 42 (.tmp 4) (.tmp 48) rfl rfl rfl (Nat.le_refl 6) sizeOp (by intro v hv; simp only [List.mem_cons, List.not_mem_nil, or_false] at hv; rcases hv with rfl | rfl | rfl | rfl | rfl | rfl <;> rfl) rfl ?_; intro w5 q1 q2 q3; have HX : Hid (Lc 42 (p + 1) [.int .u8 kd, .int .i64 (1 + A), .int .i64 (1 + A + C2), .int .i64 E, .slice va vn vc, .bool true] w5 ∧ Kp w w5) := ⟨q1, kp_frOn HL.out.kp HL.out.sz q2⟩; clear q1 q2 q3))
    refine bodyPost_ret (results_box1 rfl rfl HX.out.1 Tryz.underlying42 rfl sizeOp) rfl ?_
    exact ⟨_, _, _, rfl, by omega, by omega, by omega, HX.out.2⟩
theorem in_any {w : World} {kd : Nat} (hk : kd < 256) {a b c : Int} (ha : (-9223372036854775808 ≤ a ∧ a < 9223372036854775808)) (hb : (-9223372036854775808 ≤ b ∧ b < 9223372036854775808)) (hc : (-9223372036854775808 ≤ c ∧ c < 9223372036854775808)) {va : Option Addr} {vn vc : Nat} (bb : Bool) {n : Nat} (h1 : 1 ≤ n) (h2 : n ≤ 3000) :
    Calls Tryz.prog 19 #[.agg #[.int .u8 kd, .int .i64 a, .int .i64 b, .int .i64 c, .slice va vn vc, .bool bb], .int .i64 n] w fun e w' => ∃ A C E : Int, e = .returned (.agg #[.int .u8 kd, .int .i64 A, .int .i64 C, .int .i64 E, .slice va vn vc, .bool bb]) ∧ ((-9223372036854775808 ≤ A ∧ A < 9223372036854775808) ∧ (-9223372036854775808 ≤ C ∧ C < 9223372036854775808) ∧ (-9223372036854775808 ≤ E ∧ E < 9223372036854775808) ∧ Kp w w') := by
  cases bb with
  | false => exact in_no hk ha hb hc rfl h1 h2
  | true => exact in_yes hk ha hb hc rfl h1 h2
end Go.Proofs.YtaefeakmlgjonaaGreat
namespace Go.Proofs.YtaefeakmlgjonaaGreat
open Go.ChangeShapes Go.WideShapes Go.ChangeAt Go.RowKit Go.Maps Go.MapKept
set_option linter.unusedVariables false
set_option linter.unusedSimpArgs false
set_option maxRecDepth 100000
theorem call_step {P : Program} {Q : Exit → Act → World → Prop} {K : Act → World → Prop} (d : Tmp) (f : FuncId) {o : Oper} {fn : Func} {a : Act} {w : World} {xs : Array Operand} {ats : Array TypeId} {vals : Array Value}
    (hop : o.op = .call { callee := .value (.func f), args := xs, argTypes := ats }) (hd : o.dst = some d) (hv : xs.map a.eval = vals)
    (hf : P.funcs[f]? = some fn) (hn : (fn.name == "runtime.NumGoroutine") = false) (hb : fn.body.isNone = false)
    (h : Calls P f vals w fun e w' => ∃ v, e = .returned v ∧ K (a.put (some d) v) w') : Oper.wp P o a w K Q := by
  obtain ⟨dst, op, type, pos, after, guard⟩ := o
  simp only at hop hd
  subst hop; subst hd
  unfold Oper.wp
  rw [execOp_call_go, show (#[] ++ xs.map a.eval ++ #[]) = vals by simp [hv], run_callGo vals w hf hn hb]
  simp only [Oper.upon]
  refine Calls.mono h ?_
  rintro e w' ⟨v, rfl, hW⟩
  exact hW
end Go.Proofs.YtaefeakmlgjonaaGreat
namespace Go.Proofs.YtaefeakmlgjonaaGreat
open Go.ChangeShapes Go.WideShapes Go.ChangeAt Go.RowKit Go.Maps Go.MapKept
set_option linter.unusedVariables false
set_option linter.unusedSimpArgs false
set_option maxRecDepth 100000
theorem OpL.form {B : Nat} {v : Value} {l : List Op13} {w : World} (h : OpL B v l w) : ∃ a cap, v = .slice a l.length cap ∧ l.length ≤ cap ∧ cap ≤ maxLen := by
  obtain ⟨a, cap, rfl, h1, h2, _⟩ := h
  exact ⟨a, cap, rfl, h1, h2⟩
theorem OpL.at_ {B : Nat} {a : Option Addr} {N cap : Nat} {l : List Op13} {w : World} (h : OpL B (.slice a N cap) l w) {i : Nat} {o : Op13} (hi : l[i]? = some o) :
    ∃ g off, a = some ⟨g, off, none⟩ ∧ g < B ∧ w.cell? ⟨g, off + i * 6, none⟩ = some (.int .u8 o.kd) ∧ w.cell? ⟨g, off + i * 6 + 1, none⟩ = some (.int .i64 o.a) ∧ w.cell? ⟨g, off + i * 6 + 2, none⟩ = some (.int .i64 o.b) ∧ w.cell? ⟨g, off + i * 6 + 3, none⟩ = some (.int .i64 o.c) ∧ w.cell? ⟨g, off + i * 6 + 4, none⟩ = some o.v ∧ w.cell? ⟨g, off + i * 6 + 5, none⟩ = some (.bool o.i) ∧ Sl (fun k => k < B) o.v o.ls w := by
  obtain ⟨a', cap', e, _, _, h3⟩ := h
  cases e
  obtain ⟨g, off, e, p, c, q⟩ := h3 i o hi
  exact ⟨g, off, e, p, c 0 _ rfl, c 1 _ rfl, c 2 _ rfl, c 3 _ rfl, c 4 _ rfl, c 5 _ rfl, q⟩
structure HvR (n k : Nat) (w : World) (e : Ending) (w' : World) : Prop where
  ex : ∃ hb, e = .returned (.bool hb) ∧ (hb = false → n ≤ 2100 ∧ k ≤ 60) ∧ ∃ q, w' = w.drewN q
set_option maxHeartbeats 16000000 in
theorem heavy_any {P : Nat → Prop} {B : Nat} {v u : Value} {ls : List ByteArray} {l : List Op13} {w : World} (h : Sl P v ls w) (h' : OpL B u l w) :
    Calls Tryz.prog 9 #[v, u] w fun e w' => HvR ls.length l.length w e w' := by
  obtain ⟨a', c, rfl, h1, h2, _⟩ := h.form
  obtain ⟨ua, uc, rfl, u1, u2⟩ := h'.form
  obtain ⟨n, hn⟩ : ∃ n, ls.length = n := ⟨_, rfl⟩
  obtain ⟨K, hK⟩ : ∃ n, l.length = n := ⟨_, rfl⟩
  have HS : Hid (Sl P (.slice a' n c) ls w ∧ ls.length = n) := ⟨by rw [← hn]; exact h, hn⟩
  have HU : Hid (OpL B (.slice ua K uc) l w ∧ l.length = K) := ⟨by rw [← hK]; exact h', hK⟩
  rw [hn] at h1 ⊢
  rw [hK] at u1 ⊢
  unfold maxLen at h2 u2
  have hn9 : n ≤ 9223372036854775807 := by omega
  have hK9 : K ≤ 9223372036854775807 := by omega
  clear h h' hn hK h1 h2 u1 u2
  go_enter Tryz.func9, Tryz.ntmps9
  go_wp2_with fail
  go_loopw [5, 6] (fun v5 v6 wr => ∃ (i : Nat) (x : Int), i ≤ n ∧ v5 = .int .i64 x ∧ v6 = .int .i64 i ∧ ∃ q, wr = w.drewN q) (fun _ v6 _ => n - (intOf v6).toNat)
  case atStart => exact ⟨0, 0, Nat.zero_le _, rfl, rfl, 0, rfl⟩
  case round =>
    obtain ⟨i, x, hi, rfl, rfl, q, rfl⟩ := hrel
    by_cases hlt : i < n
    · have g1 : decide ((i : Int) < (n : Int)) = true := decide_eq_true (by omega)
      have g2 : decide (i < n) = true := decide_eq_true hlt
      obtain ⟨y, hy⟩ : ∃ x, ls[i]? = some x := ⟨_, List.getElem?_eq_getElem (by rw [HS.out.2]; exact hlt)⟩
      obtain ⟨g, off, rfl, _, e1⟩ := HS.out.1.at_ hy
      clear hy
      go_wp2_with fail
      go_roundw
      case rel => exact ⟨i + 1, _, by omega, rfl, by go_num, _, rfl⟩
      case measure => simp only [intOf]; omega
    · obtain rfl : i = n := by omega
      have g1 : decide ((i : Int) < (i : Int)) = false := by simp
      clear HS
      go_wp2_with fail
      go_loopw [5, 7, 8] (fun v5 v7 _ wr => ∃ (j : Nat) (x : Int), j ≤ K ∧ v5 = .int .i64 x ∧ v7 = .int .i64 j ∧ ∃ q, wr = w.drewN q) (fun _ v7 _ _ => K - (intOf v7).toNat)
      case atStart => exact ⟨0, x, Nat.zero_le _, rfl, rfl, _, rfl⟩
      case round =>
        obtain ⟨j, s, hj, rfl, rfl, q, rfl⟩ := hrel
        by_cases p : j < K
        · have d3 : decide ((j : Int) < (K : Int)) = true := decide_eq_true (by omega)
          have d4 : decide (j < K) = true := decide_eq_true (by omega)
          obtain ⟨o, ho⟩ : ∃ o, l[j]? = some o := ⟨_, List.getElem?_eq_getElem (by rw [HU.out.2]; exact p)⟩
          obtain ⟨g, off, rfl, _, _, _, _, _, c4, _, hd⟩ := HU.out.1.at_ ho
          obtain ⟨b, cp, hv, z1, z2, _⟩ := hd.form
          obtain ⟨m, hm⟩ : ∃ m, o.ls.length = m := ⟨_, rfl⟩
          rw [hv, hm] at c4
          have HD : Hid (Sl (fun k => k < B) (.slice b m cp) o.ls w ∧ o.ls.length = m) := ⟨by rw [hv, hm] at hd; exact hd, hm⟩
          have hm9 : m ≤ 9223372036854775807 := by unfold maxLen at z2; omega
          clear hm hd hv ho z1 z2
          go_wp2_with fail
          go_loopw [5, 8] (fun v5 v8 wr => ∃ (k : Nat) (s : Int), k ≤ m ∧ v5 = .int .i64 s ∧ v8 = .int .i64 k ∧ ∃ q, wr = w.drewN q) (fun _ v8 _ => m - (intOf v8).toNat)
          case atStart => exact ⟨0, s, Nat.zero_le _, rfl, rfl, _, rfl⟩
          case round =>
            obtain ⟨k, s, hk, rfl, rfl, q, rfl⟩ := hrel
            by_cases p2 : k < m
            · have d5 : decide ((k : Int) < (m : Int)) = true := decide_eq_true (by omega)
              have d6 : decide (k < m) = true := decide_eq_true (by omega)
              obtain ⟨y, hy⟩ : ∃ x, o.ls[k]? = some x := ⟨_, List.getElem?_eq_getElem (by rw [HD.out.2]; exact p2)⟩
              obtain ⟨g', off', rfl, _, e1⟩ := HD.out.1.at_ hy
              clear hy
              go_wp2_with fail
              go_roundw
              case rel => exact ⟨k + 1, _, by omega, rfl, by go_num, _, rfl⟩
              case measure => simp only [intOf]; omega
            · obtain rfl : k = m := by omega
              have d5 : decide ((k : Int) < (k : Int)) = false := by simp
              go_wp2_with fail
              go_roundw
              case rel => exact ⟨j + 1, _, by omega, rfl, by go_num, _, rfl⟩
              case measure => simp only [intOf]; omega
        · obtain rfl : j = K := by omega
          have d3 : decide ((j : Int) < (j : Int)) = false := by simp
          clear HU
          by_cases z : 2100 < i
          · have d5 : decide ((i : Int) > 2100) = true := decide_eq_true (by omega)
            have d6 : decide ((2100 : Int) < (i : Int)) = true := decide_eq_true (by omega)
            have d7 : decide (2100 < i) = true := decide_eq_true z
            go_wp2_with fail
            go_ret
            exact ⟨⟨_, rfl, (fun h => by first | cases h | (simp at h)), _, rfl⟩⟩
          · have d5 : decide ((i : Int) > 2100) = false := decide_eq_false (by omega)
            have d6 : decide ((2100 : Int) < (i : Int)) = false := decide_eq_false (by omega)
            have d7 : decide (2100 < i) = false := decide_eq_false z
            by_cases y : 60 < j
            · have d8 : decide ((j : Int) > 60) = true := decide_eq_true (by omega)
              have d9 : decide ((60 : Int) < (j : Int)) = true := decide_eq_true (by omega)
              have d10 : decide (60 < j) = true := decide_eq_true y
              go_wp2_with fail
              go_ret
              exact ⟨⟨_, rfl, (fun h => by first | cases h | (simp at h)), _, rfl⟩⟩
            · have d8 : decide ((j : Int) > 60) = false := decide_eq_false (by omega)
              have d9 : decide ((60 : Int) < (j : Int)) = false := decide_eq_false (by omega)
              have d10 : decide (60 < j) = false := decide_eq_false y
              by_cases y2 : 20000 < s
              · have d11 : decide (s > 20000) = true := decide_eq_true y2
                have d12 : decide (20000 < s) = true := decide_eq_true y2
                go_wp2_with fail
                go_ret
                exact ⟨⟨_, rfl, (fun _ => by omega), _, rfl⟩⟩
              · have d11 : decide (s > 20000) = false := decide_eq_false y2
                have d12 : decide (20000 < s) = false := decide_eq_false y2
                go_wp2_with fail
                go_ret
                exact ⟨⟨_, rfl, (fun _ => by omega), _, rfl⟩⟩
end Go.Proofs.YtaefeakmlgjonaaGreat
namespace Go.Proofs.YtaefeakmlgjonaaGreat
open Go.ChangeShapes Go.WideShapes Go.ChangeAt Go.RowKit Go.Maps Go.MapKept
set_option linter.unusedVariables false
set_option linter.unusedSimpArgs false
set_option maxRecDepth 100000
section
variable {B b M k : Nat} {o : Tz.Own} {a : At} {s : BS} {w w1 : World}
theorem Clm.kp (h : Clm B b o M a s k w) (kk : Kp w w1) : Clm B b o M a s k w1 := ⟨h.bf.kp_ kk, h.fine, h.op, h.sm, h.nx, h.ok⟩
theorem Clm.upM (h : Clm B b o M a s k w) {M' : Nat} (hM : M ≤ M') {k' : Nat} (hk : k ≤ k') : Clm B b o M' a s k' w := ⟨h.bf.upM hM, h.fine, h.op, h.sm, by have := h.nx; omega, h.ok⟩
theorem Opn.kp (h : Opn B b o M a s k w) (kk : Kp w w1) : Opn B b o M a s k w1 := ⟨h.bf.kp_ kk, h.fine, h.op, h.sm, h.nx, h.ok⟩
theorem OpL.range {g off N cap i : Nat} {l : List Op13} {c : Op13} (h : OpL B (.slice (some ⟨g, off, none⟩) N cap) l w) (hi : l[i]? = some c) : w.rangeAt g (off + i * 6) c.row := by
  obtain ⟨a', cap', e, _, _, h3⟩ := h
  cases e
  obtain ⟨g', off', e, _, c, _⟩ := h3 _ _ hi
  cases e
  exact fun j v hj => c j v hj
end
end Go.Proofs.YtaefeakmlgjonaaGreat
namespace Go.Proofs.YtaefeakmlgjonaaGreat
open Go.ChangeShapes Go.WideShapes Go.ChangeAt Go.RowKit Go.Maps Go.MapKept
set_option linter.unusedVariables false
set_option linter.unusedSimpArgs false
set_option maxRecDepth 100000
def SmT (s s' : BS) : Prop := s'.m.next = s.m.next ∧ s'.m.most = s.m.most ∧ s'.T = s.T
section
variable {P : Nat → Prop} {B b M k : Nat} {o : Tz.Own} {a : At} {s : BS} {w : World} {v : Value} {ms : List ByteArray} {N : Int}
theorem Clm.undo2 (h : Clm B b o M a s k w) (hM : M + 180000 < 280000000) :
    Calls Tryz.prog 16 #[.pointer (some ⟨b, 0, none⟩)] w fun e w' => (∃ err, e = .returned (.int .u16 err)) ∧ ∃ o' a' s', Hid (Opn B b o' (M + 90000) a' s' k w' ∧ FK B o o' w w' ∧ SmT s s') := by
  obtain ⟨st, hs⟩ := h.st
  refine (bundo_any (c := 1) h.bf h.fine h.op (by decide) (by omega) hs h.sm).mono ?_
  rintro e w' ⟨err, rfl, ⟨_, _, q1, q2⟩ | ⟨rfl, o', kb', m', ds, ⟨g1, rfl, rfl⟩, ha, q1, q2⟩⟩
  · exact ⟨⟨_, rfl⟩, o, a, s, ⟨q1.upM (by omega), h.fine, by rw [h.op]; decide, h.sm, h.nx, h.ok⟩, q2, rfl, rfl, rfl⟩
  · have hsm := h.bf.st.sm _ _ hs
    have c := clm_way (m' := { s.m with now := st.fr }) (ds := turnD st.by_) h rfl rfl (h.bf.st.inw.inv.fam.from_there hs g1) (smd_turn hsm.2) (by rw [turnD_len]; exact hsm.1) ha (by simpa using q1)
    exact ⟨⟨_, rfl⟩, o', _, _, c.opn (Nat.le_refl _) (Below.refl _ _), q2, rfl, rfl, rfl⟩
theorem Clm.redo2 (h : Clm B b o M a s k w) (hM : M + 180000 < 280000000) :
    Calls Tryz.prog 23 #[.pointer (some ⟨b, 0, none⟩)] w fun e w' => (∃ err, e = .returned (.int .u16 err)) ∧ ∃ o' a' s', Hid (Opn B b o' (M + 90000) a' s' k w' ∧ FK B o o' w w' ∧ SmT s s') := by
  obtain ⟨st, hs⟩ := h.st
  refine (bredo_any (c := 1) h.bf h.fine h.op (by decide) (by omega) hs h.sm).mono ?_
  rintro e w' ⟨err, rfl, ⟨_, _, q1, q2⟩ | ⟨rfl, o', kb', m', ds, ⟨g1, rfl, s', hs', rfl⟩, ha, q1, q2⟩⟩
  · exact ⟨⟨_, rfl⟩, o, a, s, ⟨q1.upM (by omega), h.fine, by rw [h.op]; decide, h.sm, h.nx, h.ok⟩, q2, rfl, rfl, rfl⟩
  · have hsm := h.bf.st.sm _ _ hs'
    have c := clm_way (m' := { s.m with now := st.on }) (ds := s'.by_) h rfl rfl (by show look s.m.L st.on ≠ none; rw [hs']; simp) hsm.2 hsm.1 ha (by simpa using q1)
    exact ⟨⟨_, rfl⟩, o', _, _, c.opn (Nat.le_refl _) (Below.refl _ _), q2, rfl, rfl, rfl⟩
theorem Clm.splice2 (h : Clm B b o M a s k w) (hM : M + 90000 < 280000000) {A C : Int} (hA : inI A) (hC : inI C) (hv : Sl P v ms w) (hm6 : ms.length ≤ 8796093022208) :
    Calls Tryz.prog 24 #[.pointer (some ⟨b, 0, none⟩), .int .i64 A, .int .i64 C, v] w fun e w' => (∃ err, e = .returned (.int .u16 err)) ∧ ∃ o' a' s1, Hid (Opn B b o' (M + 90000) a' s1 k w' ∧ FK B o o' w w' ∧ SmT s s1) := by
  have hl1 := h.fine.ls.2.1
  by_cases q : A < 1 ∨ (s.ls.length : Int) + 1 < A ∨ C < 0 ∨ (s.ls.length : Int) - A + 1 < C
  · refine (splice_out h.bf h.fine.ls.2 (by unfold inI at hC; omega) (by unfold inI at hA; omega) q).mono ?_
    rintro e w' ⟨rfl, n, rfl⟩
    exact ⟨⟨_, rfl⟩, o, a, s, h.opn (by omega) (kp_drewN _ _), FK.kp (kp_drewN _ _) o, rfl, rfl, rfl⟩
  · obtain ⟨i, rfl⟩ : ∃ i : Nat, A = (i : Int) + 1 := ⟨(A - 1).toNat, by omega⟩
    obtain ⟨n, rfl⟩ : ∃ n : Nat, C = (n : Int) := ⟨C.toNat, by omega⟩
    have hin : i + n ≤ s.ls.length := by omega
    by_cases hE : beyondE ((s.ls.length : Int) - (n : Int) + (ms.length : Int)) ms = 0
    · by_cases hz : n = 0 ∧ ms.length = 0
      · refine (splice_idle h.bf h.fine.ls.2 hin hv hm6 hE hz).mono ?_
        rintro e w' ⟨rfl, m, rfl⟩
        exact ⟨⟨_, rfl⟩, o, a, s, h.opn (by omega) (kp_drewN _ _), FK.kp (kp_drewN _ _) o, rfl, rfl, rfl⟩
      · refine (splice_done h.bf h.fine (by omega) hM hin hv hm6 hE hz).mono ?_
        rintro e w' ⟨rfl, o', ov', q1, q2⟩
        have f1 := fine_sp h.fine hin hE (by rw [h.op]; decide)
        refine ⟨⟨_, rfl⟩, o', _, _, ⟨q1, f1, ?_, h.sm, h.nx, h.ok⟩, q2, rfl, rfl, rfl⟩
        show (s.op ++ [_]).length ≤ 1
        rw [h.op]; exact Nat.le_refl 1
    · have hE1 : 0 ≤ beyondE ((s.ls.length : Int) - (n : Int) + (ms.length : Int)) ms ∧ beyondE ((s.ls.length : Int) - (n : Int) + (ms.length : Int)) ms < 65536 := by
        unfold beyondE; split
        · decide
        · split <;> decide
      refine (splice_far h.bf h.fine.ls.2 hin hv hm6 rfl hE hE1).mono ?_
      rintro e w' ⟨rfl, m, rfl⟩
      exact ⟨⟨_, rfl⟩, o, a, s, h.opn (by omega) (kp_drewN _ _), FK.kp (kp_drewN _ _) o, rfl, rfl, rfl⟩
set_option maxHeartbeats 16000000 in
theorem move_out (h : Bf B b o M a s w) (hl : Ln s.ls) {x y z : Int} (hx : inI x) (hy : inI y) (hz : inI z) (hE : x < 1 ∨ y < x ∨ (s.ls.length : Int) < y ∨ z < 0 ∨ (s.ls.length : Int) < z) :
    Calls Tryz.prog 12 #[.pointer (some ⟨b, 0, none⟩), .int .i64 x, .int .i64 y, .int .i64 z] w fun e w' => e = .returned (.int .u16 140) ∧ ∃ q, w' = w.drewN q := by
  have HL : Hid _ := blen_any h
  have hl1 := hl.1
  obtain ⟨L, hL⟩ : ∃ L, s.ls.length = L := ⟨_, rfl⟩
  rw [hL] at HL hl1 hE
  clear h hl hL hx hy hz
  by_cases c1 : x < 1
  · have d1 : decide (x < 1) = true := decide_eq_true c1
    clear hE
    go_enter Tryz.func12, Tryz.ntmps12
    go_wp2_with fail
    refine Calls.mono HL.out ?_
    rintro e w2 ⟨rfl, q, rfl⟩
    clear HL
    go_wp2_with fail
    go_ret
    exact ⟨rfl, _, rfl⟩
  have d1 : decide (x < 1) = false := decide_eq_false c1
  by_cases c2 : y < x
  · have d2 : decide (y < x) = true := decide_eq_true c2
    clear hE
    go_enter Tryz.func12, Tryz.ntmps12
    go_wp2_with fail
    refine Calls.mono HL.out ?_
    rintro e w2 ⟨rfl, q, rfl⟩
    clear HL
    go_wp2_with fail
    go_ret
    exact ⟨rfl, _, rfl⟩
  have d2 : decide (y < x) = false := decide_eq_false c2
  by_cases c3 : (L : Int) < y
  · have d3 : decide ((L : Int) < y) = true := decide_eq_true c3
    clear hE
    go_enter Tryz.func12, Tryz.ntmps12
    go_wp2_with fail
    refine Calls.mono HL.out ?_
    rintro e w2 ⟨rfl, q, rfl⟩
    clear HL
    go_wp2_with fail
    go_ret
    exact ⟨rfl, _, rfl⟩
  have d3 : decide ((L : Int) < y) = false := decide_eq_false c3
  by_cases c4 : z < 0
  · have d4 : decide (z < 0) = true := decide_eq_true c4
    clear hE
    go_enter Tryz.func12, Tryz.ntmps12
    go_wp2_with fail
    refine Calls.mono HL.out ?_
    rintro e w2 ⟨rfl, q, rfl⟩
    clear HL
    go_wp2_with fail
    go_ret
    exact ⟨rfl, _, rfl⟩
  have d4 : decide (z < 0) = false := decide_eq_false c4
  have d5 : decide (z > (L : Int)) = true := decide_eq_true (by omega)
  have d6 : decide ((L : Int) < z) = true := decide_eq_true (by omega)
  clear hE
  go_enter Tryz.func12, Tryz.ntmps12
  go_wp2_with fail
  refine Calls.mono HL.out ?_
  rintro e w2 ⟨rfl, q, rfl⟩
  clear HL
  go_wp2_with fail
  go_ret
  exact ⟨rfl, _, rfl⟩
theorem fine_mv2 (F : Fine (s.ls.length : Int) s) {f p n : Nat} {x y z : Int} (hy : y ≤ (s.ls.length : Int)) (hz : z ≤ (s.ls.length : Int)) (h1 : p ≤ n) (h2 : f + n ≤ s.ls.length) (ho : s.op.length < 64) : Fine ((mvS s f p n x y z).ls.length : Int) (mvS s f p n x y z) := by
  have hlen : (mvS s f p n x y z).ls.length = s.ls.length := by rw [mvS_ls, mvL_len (by omega) h2]
  have hp : Ln (exL s.ls f p (f + n)) := exL_ln F.ls.2 (by omega) h2
  have hpl : (exL s.ls f p (f + n)).length = n := by rw [exL_len (by omega) h2]; omega
  have hl1 := F.ls.1
  have hl2 := F.ls.2.1
  refine ⟨⟨by rw [hlen]; exact hl1, spl_ln F.ls.2 hp h2 (by rw [hpl]; omega)⟩, by rw [hlen]; exact F.cur, F.tx, ⟨?_, fun d hd => ?_⟩, ?_, mvF_dom F.md _ _ _, F.kd, (by rw [hlen]; exact mvF_in F.mb hy hz), F.kcur⟩
  · show (s.op ++ [_]).length ≤ 64
    rw [List.length_append, List.length_singleton]; omega
  · have hd' : d ∈ s.op ++ [(⟨f, (s.ls.drop f).take n, exL s.ls f p (f + n)⟩ : Dl)] := hd
    rcases List.mem_append.1 hd' with q | q
    · exact F.op.2 d q
    · simp only [List.mem_singleton] at q; subst q; exact ⟨part_ln F.ls.2 h2, hp⟩
  · show apps (s.T s.m.now) (s.op ++ [_]) = some _
    rw [apps_app, F.ap]
    exact app1_one h2
theorem fine_mk (F : Fine (s.ls.length : Int) s) {x y z : Int} (hy : y ≤ (s.ls.length : Int)) (hz : z ≤ (s.ls.length : Int)) : Fine (s.ls.length : Int) { s with mf := Mz.mvF s.mf x y z } :=
  ⟨F.ls, F.cur, F.tx, F.op, F.ap, mvF_dom F.md _ _ _, F.kd, mvF_in F.mb hy hz, F.kcur⟩
theorem Clm.move2 (h : Clm B b o M a s k w) (hM : M + 90000 < 280000000) {x y z : Int} (hx : inI x) (hy : inI y) (hz : inI z) :
    Calls Tryz.prog 12 #[.pointer (some ⟨b, 0, none⟩), .int .i64 x, .int .i64 y, .int .i64 z] w fun e w' => (∃ err, e = .returned (.int .u16 err)) ∧ ∃ o' a' s1, Hid (Opn B b o' (M + 90000) a' s1 k w' ∧ FK B o o' w w' ∧ SmT s s1) := by
  have hl1 := h.fine.ls.2.1
  by_cases hE : x < 1 ∨ y < x ∨ (s.ls.length : Int) < y ∨ z < 0 ∨ (s.ls.length : Int) < z
  · refine (move_out h.bf h.fine.ls.2 hx hy hz hE).mono ?_
    rintro e w' ⟨rfl, n, rfl⟩
    exact ⟨⟨_, rfl⟩, o, a, s, h.opn (by omega) (kp_drewN _ _), FK.kp (kp_drewN _ _) o, rfl, rfl, rfl⟩
  by_cases hm : x ≤ z ∧ z < y
  · refine (move_mid h.bf h.fine.ls.2 (by omega) hm.1 hm.2 (by omega)).mono ?_
    rintro e w' ⟨rfl, n, rfl⟩
    exact ⟨⟨_, rfl⟩, o, a, s, h.opn (by omega) (kp_drewN _ _), FK.kp (kp_drewN _ _) o, rfl, rfl, rfl⟩
  by_cases hs : z = x - 1 ∨ z = y
  · refine (move_stay h.bf h.fine.ls.2 h.fine.md h.fine.mb (by omega) (by omega) (by omega) hs (by omega)).mono ?_
    rintro e w' ⟨rfl, q1, q2⟩
    exact ⟨⟨_, rfl⟩, o, a, _, ⟨q1.upM (by omega), fine_mk h.fine (by omega) (by omega), by show s.op.length ≤ 1; rw [h.op]; decide, h.sm, h.nx, h.ok⟩, q2, rfl, rfl, rfl⟩
  by_cases hd : y < z
  · obtain ⟨f, hf⟩ : ∃ f : Nat, (f : Int) + 1 = x := ⟨(x - 1).toNat, by omega⟩
    obtain ⟨p, hp⟩ : ∃ p : Nat, (f : Int) + (p : Int) = y := ⟨(y - f).toNat, by omega⟩
    obtain ⟨n, hn⟩ : ∃ n : Nat, (f : Int) + (n : Int) = z := ⟨(z - f).toNat, by omega⟩
    refine (move_down h.bf h.fine.ls.2 h.fine.md h.fine.mb (by omega) hM (by rw [h.op]; decide) hf hp hn (by omega) hd (by omega) (by omega) (by omega)).mono ?_
    rintro e w' ⟨rfl, o', ov', q1, q2⟩
    refine ⟨⟨_, rfl⟩, o', _, _, ⟨q1, fine_mv2 h.fine (by omega) (by omega) (by omega) (by omega) (by rw [h.op]; decide), ?_, h.sm, h.nx, h.ok⟩, q2, rfl, rfl, rfl⟩
    show (s.op ++ [_]).length ≤ 1
    rw [h.op]; exact Nat.le_refl 1
  · obtain ⟨f, hf⟩ : ∃ f : Nat, (f : Int) = z := ⟨z.toNat, by omega⟩
    obtain ⟨p, hp⟩ : ∃ p : Nat, (f : Int) + (p : Int) = x - 1 := ⟨(x - 1 - f).toNat, by omega⟩
    obtain ⟨n, hn⟩ : ∃ n : Nat, (f : Int) + (n : Int) = y := ⟨(y - f).toNat, by omega⟩
    refine (move_up h.bf h.fine.ls.2 h.fine.md h.fine.mb (by omega) hM (by rw [h.op]; decide) hf hp hn (by omega) (by omega) (by omega) (by omega) (by omega)).mono ?_
    rintro e w' ⟨rfl, o', ov', q1, q2⟩
    refine ⟨⟨_, rfl⟩, o', _, _, ⟨q1, fine_mv2 h.fine (by omega) (by omega) (by omega) (by omega) (by rw [h.op]; decide), ?_, h.sm, h.nx, h.ok⟩, q2, rfl, rfl, rfl⟩
    show (s.op ++ [_]).length ≤ 1
    rw [h.op]; exact Nat.le_refl 1
def CmT (s s' : BS) (n : Int) (is : Bool) : Prop := s'.ls = s.ls ∧ s'.m.most = s.m.most ∧ ((is = false ∧ SmT s s') ∨ (is = true ∧ n = s.m.next ∧ s'.m.next = s.m.next + 1 ∧ s'.T = putT s.T s.m.next s.ls))
theorem Opn.commit2 (h : Opn B b o M a s k w) (hk : k ≤ 190) : Calls Tryz.prog 15 #[.pointer (some ⟨b, 0, none⟩)] w fun e w' => ∃ n is, e = .returned (.tuple #[.int .i64 n, .bool is]) ∧ ∃ a' s', Hid (Clm B b o M a' s' (k + 1) w' ∧ FK B o o w w' ∧ CmT s s' n is) := by
  obtain ⟨f1, t1⟩ := fine_cm1 h.fine h.ok
  have hnx := h.nx
  by_cases z : s.op = []
  · refine (commit_no h.bf h.fine z).mono ?_
    rintro e w' ⟨rfl, kb', q1, q2⟩
    have em : (cmS s).m = s.m ∧ (cmS s).op = [] ∧ (cmS s).T = s.T ∧ (cmS s).ls = s.ls := by unfold cmS; rw [if_pos z]; exact ⟨rfl, z, rfl, rfl⟩
    exact ⟨_, _, rfl, _, _, ⟨q1, f1, em.2.1, by rw [em.1]; exact h.sm, by rw [em.1]; omega, t1⟩, q2, em.2.2.2, by rw [em.1], .inl ⟨rfl, by rw [em.1], by rw [em.1], em.2.2.1⟩⟩
  · refine (commit_yes h.bf h.fine z (by omega)).mono ?_
    rintro e w' ⟨rfl, a', _, q1, q2⟩
    have em : (cmS s).m = addE s.m s.op ∧ (cmS s).op = [] ∧ (cmS s).T = putT s.T s.m.next s.ls ∧ (cmS s).ls = s.ls := by unfold cmS; rw [if_neg z]; exact ⟨rfl, rfl, rfl, rfl⟩
    have I := h.bf.st.inw
    obtain ⟨_, e2, e3⟩ := addE_parts s.m s.op
    exact ⟨_, _, rfl, _, _, ⟨q1, f1, em.2.1, by rw [em.1]; exact h.sm.addE I (few64 h.fine.op) h.bf.st.mo.1 h.op, by rw [em.1, e2]; omega, t1⟩, q2, em.2.2.2, by rw [em.1, e3], .inr ⟨rfl, rfl, by rw [em.1, e2], em.2.2.1⟩⟩
theorem Clm.go2 (h : Clm B b o M a s k w) {c : Nat} (hc : c ≤ 1000) (hM : M + 90000 * (c + 1) < 280000000) (hl : 2 * s.m.L.length ≤ c) {seq : Int} (hr : Rg seq) (hs : look s.m.L seq ≠ none) :
    Calls Tryz.prog 38 #[.pointer (some ⟨b, 0, none⟩), .int .i64 seq] w fun e w' => e = .returned (.int .u16 0) ∧ ∃ o' a' s', Hid (Clm B b o' (M + 90000 * c) a' s' k w' ∧ FK B o o' w w' ∧ SmT s s' ∧ s'.ls = s.T seq ∧ s'.m.L.map St.seq = s.m.L.map St.seq) := by
  refine (bgo_any h.bf h.fine h.op hc hM h.sm hl hr).mono ?_
  rintro e w' ⟨err, rfl, ⟨_, q, _⟩ | ⟨rfl, o', kb', m', ds, ⟨_, g2, g3, g4, g5, g6, g7, hds⟩, ha, q1, q2⟩⟩
  · exact absurd q hs
  · have hth : look m'.L m'.now ≠ none := by rw [look_in, g5, ← look_in, g2]; exact hs
    have hst := q1.st
    have f1 := fine_wy h.fine h.op ha hth (fun x hx => by rw [look_in, g5, ← look_in] at hx; exact hx) hds (by omega)
    exact ⟨rfl, o', _, _, ⟨q1, f1, h.op, g6, by show m'.next ≤ _; rw [g3]; exact h.nx, h.ok⟩, q2, ⟨g3, g4, rfl⟩, by show s.T m'.now = _; rw [g2], g5⟩
end
end Go.Proofs.YtaefeakmlgjonaaGreat
namespace Go.Proofs.YtaefeakmlgjonaaGreat
open Go.ChangeShapes Go.WideShapes Go.ChangeAt Go.RowKit Go.Maps Go.MapKept
set_option linter.unusedVariables false
set_option linter.unusedSimpArgs false
set_option maxRecDepth 100000
theorem infoStrs : (Tryz.prog.info? 22).map (fun i => (i.zero, i.size, i.bytes)) = some (some (.slice none 0 0), 1, 24) := by kernel_rfl
def Txs (o : Tz.Own) (D : Nat) (v : Value) (tl : List (List ByteArray)) (w : World) : Prop :=
  ∃ vs : List Value, vs.length = tl.length ∧ w.ownsRow D 22 1 v tl.length vs ∧ (∀ j, v.ownBlock = some j → o j = .free) ∧ ∀ (i : Nat) (u : Value) (ls : List ByteArray), vs[i]? = some u → tl[i]? = some ls → RQ (Fre o) u ls w
section
variable {B b M D : Nat} {o o' : Tz.Own} {a : At} {s : BS} {w w1 w2 : World} {v u : Value} {tl : List (List ByteArray)} {ls : List ByteArray} {S : Nat → Prop}
theorem RQ.kpo (h : RQ (Fre o) v ls w) (k : Kp w w1) : RQ (Fre o) v ls w1 := ⟨row_kp h.1 k, h.2⟩
theorem Txs.form (h : Txs o D v tl w) : ∃ a cap, v = .slice a tl.length cap ∧ tl.length ≤ cap ∧ cap ≤ maxLen := by
  obtain ⟨vs, _, h2, _⟩ := h
  exact owns_form h2
theorem Txs.kp (h : Txs o D v tl w) (k : Kp w w1) : Txs o D v tl w1 := by
  obtain ⟨vs, h1, h2, h3, h4⟩ := h
  exact ⟨vs, h1, row_kp h2 k, h3, fun i u ls p q => (h4 i u ls p q).kpo k⟩
theorem Txs.fk (h : Txs o D v tl w) (k : FK B o o' w w1) : Txs o' D v tl w1 := by
  obtain ⟨vs, h1, h2, h3, h4⟩ := h
  refine ⟨vs, h1, row_fr h2 k.fr fun j hj ⟨_, q⟩ => ?_, fun j hj => k.own j (h2.lt j hj).2 (h3 j hj), fun i u ls p q => k.rq (h4 i u ls p q)⟩
  rcases q with q | ⟨ob, q1, q2⟩
  · exact q (h3 j hj)
  · rcases h2.2 with ⟨z, _⟩ | ⟨g, cap, cur, z, hb, hg, _⟩
    · rw [z] at hj; cases hj
    · rw [z] at hj; simp only [Value.ownBlock, Option.some.injEq] at hj; subst hj
      rw [hg] at q1; cases q1
      rcases q2 with q | q | q | q <;> exact absurd q (by decide)
theorem Txs.at_ {a0 : Option Addr} {N cap : Nat} (h : Txs o D (.slice a0 N cap) tl w) {i : Nat} (hi : tl[i]? = some ls) : ∃ g u, a0 = some ⟨g, 0, none⟩ ∧ N = tl.length ∧ w.cell? ⟨g, i, none⟩ = some u ∧ RQ (Fre o) u ls w := by
  obtain ⟨vs, h1, h2, h3, h4⟩ := h
  have hlt := (List.getElem?_eq_some_iff.1 hi).1
  obtain ⟨u, hu⟩ : ∃ u, vs[i]? = some u := ⟨_, List.getElem?_eq_getElem (by omega)⟩
  rcases id h2.2 with ⟨_, e0⟩ | ⟨g, c, cur, e, hb, _⟩
  · omega
  · cases e
    have := World.ownsRow.cellAt (size := 1) (n := tl.length) h2 i (by omega)
    exact ⟨g, u, rfl, rfl, by rw [this]; exact hu, h4 i u ls hu hi⟩
def SB (S : Nat → Prop) (w : World) : Prop := ∀ j, j < w.heap.size → S j → ∃ cur fr, w.heap[j]? = some (.cells cur 22 fr)
theorem SB.no (h : SB S w) {j : Nat} {ob : Obj} (hj : w.heap[j]? = some ob) (hn : ∀ cur fr, ob ≠ .cells cur 22 fr) : ¬ S j := fun q => by
  obtain ⟨cur, fr, e⟩ := h j (Array.getElem?_eq_some_iff.1 hj).1 q
  rw [hj] at e; cases e
  exact hn _ _ rfl
theorem Bf.frS (h : Bf B b o M a s w) (k : Fr S w w1) (hS : SB S w) : Bf B b o M a s w1 := by
  have hto : ∀ j, o j ≠ .free → ¬ S j := fun j hj => by
    obtain ⟨cur, e, h1, h2⟩ := h.ty j hj
    refine hS.no h1 fun cur fr q => ?_
    cases q
    rcases h2 with q | q | q | q <;> exact absurd q (by decide)
  have hs : ∀ j, o j ≠ .free → w1.heap[j]? = w.heap[j]? := fun j hj => k.block j (tz_lt h.tr hj) (hto j hj)
  have hmp : ∀ {g : Nat} {f : Int → Option Value}, Mz.Mp g f w → ¬ S g := fun hm => by
    obtain ⟨es, c, q, _⟩ := hm
    exact hS.no q fun cur fr e => by cases e
  have hd : ∀ j cur fr, w.heap[j]? = some (.cells cur 89 fr) → ¬ S j := fun j cur fr e => hS.no e fun cur fr q => by cases q
  have hst : ∀ j cur fr, w.heap[j]? = some (.cells cur 9 fr) → ¬ S j := fun j cur fr e => hS.no e fun cur fr q => by cases q
  refine ⟨h.lb, h.box.fr k (hS.no h.box fun cur fr e => by cases e), tz_same h.tr k.size hs, h.ty.same hs, h.ol, h.mp.fr k.mz (hmp h.mp), h.ml, h.kp.fr k.mz (hmp h.kp), h.kl, h.ne, ?_, h.op.frO k hd (fun j cur fr e _ => hst j cur fr e), h.oc⟩
  refine h.st.frQ k (fun j ob e q => hS.no e fun cur fr z => ?_) (fun j cur fr e _ => hd j cur fr e) (fun j cur fr e _ => hst j cur fr e)
  subst z
  rcases q with q | q <;> exact absurd q (by decide)
theorem Txs.sb (h : Txs o D v tl w) : SB (fun k => some k = v.ownBlock) w := fun j hj q => by
  obtain ⟨vs, h1, h2, h3, h4⟩ := h
  rcases h2.2 with ⟨z, _⟩ | ⟨g, cap, cur, z, hb, hg, _⟩
  · rw [z] at q; cases q
  · rw [z] at q; simp only [Value.ownBlock, Option.some.injEq] at q; subst q
    exact ⟨_, _, hg⟩
theorem Txs.snoc {v' : Value} {vs : List Value} (h1 : vs.length = tl.length) (h4 : ∀ (i : Nat) (u : Value) (ls : List ByteArray), vs[i]? = some u → tl[i]? = some ls → RQ (Fre o) u ls w) (hr : RQ (Fre o) u ls w) (k : Fr S w w1) (hS : SB S w) (hrow : w1.ownsRow D 22 1 v' (tl.length + 1) (vs ++ [u])) (ho : ∀ j, v'.ownBlock = some j → o j = .free) : Txs o D v' (tl ++ [ls]) w1 := by
  have keep : ∀ {u : Value} {ls : List ByteArray}, RQ (Fre o) u ls w → RQ (Fre o) u ls w1 := fun r => by
    refine ⟨row_fr r.1 k fun j hj q => ?_, r.2⟩
    rcases r.1.2 with ⟨z, _⟩ | ⟨g, cap, cur, z, hb, hg, _⟩
    · rw [z] at hj; cases hj
    · rw [z] at hj; simp only [Value.ownBlock, Option.some.injEq] at hj; subst hj
      exact hS.no hg (fun cur fr e => by cases e) q
  refine ⟨vs ++ [u], by rw [List.length_append, List.length_append, h1]; rfl, by rw [List.length_append]; exact hrow, ho, fun i u' ls' p q => ?_⟩
  by_cases c : i < vs.length
  · rw [List.getElem?_append_left c] at p
    rw [List.getElem?_append_left (by omega)] at q
    exact keep (h4 i u' ls' p q)
  · rw [List.getElem?_append_right (by omega)] at p
    rw [List.getElem?_append_right (by omega)] at q
    cases z : i - vs.length with
    | zero =>
      rw [z] at p; rw [← h1, z] at q
      simp at p q; subst p; subst q
      exact keep hr
    | succ n => rw [z] at p; simp at p
theorem Sr.cell2 {B g N c : Nat} {l : List St} {w : World} (h : Sr B (.slice (some ⟨g, 0, none⟩) N c) l w) (hN : l.length = N) {i : Nat} {s : St} (hi : l[i]? = some s) : w.cell? ⟨g, i * 2, none⟩ = some (.int .i64 s.seq) := by
  have hl := (List.getElem?_eq_some_iff.1 hi).1
  obtain ⟨q0, q1⟩ := flatS_at hi
  subst hN
  unfold Sr at h
  have h0 := World.ownsRow.cellAt (size := 2) (n := l.length) h (i * 2) (by omega)
  exact h0.trans q0
end
end Go.Proofs.YtaefeakmlgjonaaGreat
namespace Go.Proofs.YtaefeakmlgjonaaGreat
open Go.ChangeShapes Go.WideShapes Go.ChangeAt Go.RowKit Go.Maps Go.MapKept
set_option linter.unusedVariables false
set_option linter.unusedSimpArgs false
set_option maxRecDepth 100000
section
variable {B b M k D i : Nat} {o o' : Tz.Own} {a a' : At} {s s' : BS} {w w1 w2 w8 W : World} {v u tv v8 lv : Value} {tl : List (List ByteArray)} {ls : List ByteArray} {S : Nat → Prop}
theorem Bf.freS {n : Nat} {xs : List Value} (h : Bf B b o M a s w) (hr : w.ownsRow D 22 1 v n xs) : ∀ j, v.ownBlock = some j → o j = .free := fun j hj => by
  rcases Classical.em (o j = .free) with q | q
  · exact q
  · obtain ⟨cur, e, h1, h2⟩ := h.ty j q
    rcases hr.2 with ⟨z, _⟩ | ⟨g, cap, cur, z, hb, hg, _⟩
    · rw [z] at hj; cases hj
    · rw [z] at hj; simp only [Value.ownBlock, Option.some.injEq] at hj; subst hj
      rw [hg] at h1; cases h1
      rcases h2 with q | q | q | q <;> exact absurd q (by decide)
theorem Clm.frS (h : Clm B b o M a s k w) (f : Fr S w w1) (hS : SB S w) : Clm B b o M a s k w1 := ⟨h.bf.frS f hS, h.fine, h.op, h.sm, h.nx, h.ok⟩
structure LpS (B b i : Nat) (o : Tz.Own) (a : At) (s : BS) (tl : List (List ByteArray)) (tv : Value) (W w : World) : Prop where
  cl : Clm B b o (50000 + 180000 * i) a s (1 + i) w
  hB : B ≤ w.heap.size
  kp : Below B W w
  tx : Txs o B tv tl w
  nx : s.m.next = (tl.length : Int)
  tt : ∀ (j : Nat) ls, tl[j]? = some ls → s.T j = ls
  mo : s.m.most = 30
structure LpO (B b i : Nat) (o : Tz.Own) (a : At) (s : BS) (tl : List (List ByteArray)) (tv : Value) (W w : World) : Prop where
  op : Opn B b o (50000 + 180000 * i + 90000) a s (1 + i) w
  hB : B ≤ w.heap.size
  kp : Below B W w
  tx : Txs o B tv tl w
  nx : s.m.next = (tl.length : Int)
  tt : ∀ (j : Nat) ls, tl[j]? = some ls → s.T j = ls
  mo : s.m.most = 30
structure LpY (B b i : Nat) (o : Tz.Own) (a : At) (s : BS) (tl : List (List ByteArray)) (tv : Value) (W w : World) : Prop where
  cl : Clm B b o (50000 + 180000 * (i + 1)) a s (1 + (i + 1)) w
  hB : B ≤ w.heap.size
  kp : Below B W w
  tx : Txs o B tv tl w
  nx : s.m.next = (tl.length : Int) + 1
  tt : ∀ (j : Nat) ls, tl[j]? = some ls → s.T j = ls
  tn : s.T tl.length = s.ls
  mo : s.m.most = 30
theorem LpS.kpw (h : LpS B b i o a s tl tv W w) (kk : Kp w w1) : LpS B b i o a s tl tv W w1 := ⟨h.cl.kp kk, Nat.le_trans h.hB kk.size, h.kp.trans (kk.mono h.hB), h.tx.kp kk, h.nx, h.tt, h.mo⟩
theorem LpO.kpw (h : LpO B b i o a s tl tv W w) (kk : Kp w w1) : LpO B b i o a s tl tv W w1 := ⟨h.op.kp kk, Nat.le_trans h.hB kk.size, h.kp.trans (kk.mono h.hB), h.tx.kp kk, h.nx, h.tt, h.mo⟩
theorem LpS.step (h : LpS B b i o a s tl tv W w) (q : Opn B b o' (50000 + 180000 * i + 90000) a' s' (1 + i) w1) (f : FK B o o' w w1) (e : SmT s s') : LpO B b i o' a' s' tl tv W w1 :=
  ⟨q, Nat.le_trans h.hB f.size, h.kp.trans (f.below h.hB), h.tx.fk f, by rw [e.1]; exact h.nx, fun j ls hj => by rw [e.2.2]; exact h.tt j ls hj, by rw [e.2.1]; exact h.mo⟩
theorem LpO.no (h : LpO B b i o a s tl tv W w) (q : Clm B b o (50000 + 180000 * i + 90000) a' s' (1 + i + 1) w1) (f : FK B o o w w1) (e : SmT s s') : LpS B b (i + 1) o a' s' tl tv W w1 :=
  ⟨q.upM (by omega) (by omega), Nat.le_trans h.hB f.size, h.kp.trans (f.below h.hB), h.tx.fk f, by rw [e.1]; exact h.nx, fun j ls hj => by rw [e.2.2]; exact h.tt j ls hj, by rw [e.2.1]; exact h.mo⟩
theorem LpO.yes (h : LpO B b i o a s tl tv W w) (q : Clm B b o (50000 + 180000 * i + 90000) a' s' (1 + i + 1) w1) (f : FK B o o w w1) (h1 : s'.ls = s.ls) (h2 : s'.m.most = s.m.most) (h3 : s'.m.next = s.m.next + 1) (h4 : s'.T = putT s.T s.m.next s.ls) : LpY B b i o a' s' tl tv W w1 := by
  refine ⟨q.upM (by omega) (by omega), Nat.le_trans h.hB f.size, h.kp.trans (f.below h.hB), h.tx.fk f, by rw [h3, h.nx], fun j ls hj => ?_, ?_, by rw [h2]; exact h.mo⟩
  · have hlt := (List.getElem?_eq_some_iff.1 hj).1
    rw [h4]
    show (if (j : Int) = s.m.next then s.ls else s.T j) = ls
    rw [if_neg (by rw [h.nx]; omega)]; exact h.tt j ls hj
  · rw [h4, h1]
    show (if (tl.length : Int) = s.m.next then s.ls else s.T tl.length) = s.ls
    rw [if_pos h.nx.symm]
theorem LpY.kpw (h : LpY B b i o a s tl tv W w) (kk : Kp w w1) : LpY B b i o a s tl tv W w1 := ⟨h.cl.kp kk, Nat.le_trans h.hB kk.size, h.kp.trans (kk.mono h.hB), h.tx.kp kk, h.nx, h.tt, h.tn, h.mo⟩
theorem LpY.added (h : LpY B b i o a s tl tv W w) (hr : RQ (Fre o) lv s.ls w) {vs : List Value} (e1 : vs.length = tl.length) (e3 : w.ownsRow B 22 1 tv tl.length vs) (e4 : ∀ (i : Nat) (u : Value) (ls : List ByteArray), vs[i]? = some u → tl[i]? = some ls → RQ (Fre o) u ls w)
    (x1 : w8.ownsRow B 22 1 v8 (tl.length + 1) (vs ++ [lv])) (x2 : w.grownBy w8 tv.ownBlock) : LpS B b (i + 1) o a s (tl ++ [s.ls]) v8 W w8 := by
  have hf := fr_grown x2
  have hS := h.tx.sb
  have c8 := h.cl.frS hf hS
  have hbl : Below B w w8 := hf.below h.hB fun j hj e => by have := (e3.lt j e.symm).1; omega
  refine ⟨c8, Nat.le_trans h.hB hf.size, h.kp.trans hbl, Txs.snoc e1 e4 hr hf hS x1 (c8.bf.freS x1), by rw [List.length_append, h.nx]; rfl, fun j ls hj => ?_, h.mo⟩
  by_cases c : j < tl.length
  · rw [List.getElem?_append_left c] at hj; exact h.tt j ls hj
  · rw [List.getElem?_append_right (by omega)] at hj
    cases z : j - tl.length with
    | zero =>
      rw [z] at hj; simp at hj
      have : j = tl.length := by omega
      subst this; rw [← hj]; exact h.tn
    | succ n => rw [z] at hj; simp at hj
theorem txs_one {p : Nat} (hb : Lc 22 p [lv] w) (hD : D ≤ p) (h : Bf B b o M a s w) (hr : RQ (Fre o) lv ls w) : Txs o D (.slice (some ⟨p, 0, none⟩) 1 1) [ls] w := by
  have hrow : w.ownsRow D 22 1 (.slice (some ⟨p, 0, none⟩) 1 1) 1 [lv] := ⟨rfl, .inr ⟨p, 1, #[lv], rfl, hD, hb, Nat.le_refl _, by decide, rfl, rfl⟩⟩
  refine ⟨[lv], rfl, hrow, h.freS hrow, fun i u ls' p q => ?_⟩
  match i with
  | 0 => simp at p q; subst p; subst q; exact hr
  | i + 1 => simp at p
end
end Go.Proofs.YtaefeakmlgjonaaGreat
namespace Go.Proofs.YtaefeakmlgjonaaGreat
open Go.ChangeShapes Go.WideShapes Go.ChangeAt Go.RowKit Go.Maps Go.MapKept
set_option linter.unusedVariables false
set_option linter.unusedSimpArgs false
set_option maxRecDepth 100000
theorem kp_setsB {w w1 w2 : World} {q o : Nat} {vs : List Value} (k : Kp w w1) (h : w.heap.size ≤ q) (e : w1.setCells q o vs = w2) : Kp w w2 := by
  subst e
  exact k.trans ((fr_sets q vs o w1).below k.size fun j hj z => by unfold On at z; omega)
theorem clm_first {B b : Nat} {o : Tz.Own} {a : At} {ls : List ByteArray} {w : World} {n : Int} (h : Bf B b o 50000 a (newS ls n) w) (hl : Ln ls) : Clm B b o 50000 a (newS ls n) 1 w := by
  have f0 := fine_new hl n
  refine ⟨h, f0, rfl, ?_, (by show (1 : Int) ≤ ((1 : Nat) : Int); decide), fun y => f0.ls⟩
  intro y s hy
  have hy' : look (first n).L y = some s := hy
  have hm := List.mem_singleton.1 (look_mem hy')
  rw [hm]; simp
theorem lps_first {b p gb n0 : Nat} {o : Tz.Own} {a : At} {ls : List ByteArray} {W w w4 w5 : World} (h : Clm W.heap.size b o 50000 a (newS ls 30) 1 w) (k : Kp W w) (r : Row w.heap.size (.slice (some ⟨gb, 0, none⟩) n0 n0) (newS ls 30).ls w4) (k4 : Kp w w4) (k5 : Kp w4 w5) (b5 : Lc 22 p [.slice (some ⟨gb, 0, none⟩) n0 n0] w5) (hp : w4.heap.size = p) :
    LpS W.heap.size b 0 o a (newS ls 30) [(newS ls 30).ls] (.slice (some ⟨p, 0, none⟩) 1 1) W w5 := by
  have hc := h.kp (kp_trans k4 k5)
  have r5 : RQ (Fre o) (.slice (some ⟨gb, 0, none⟩) n0 n0) (newS ls 30).ls w5 := (row_rq h.bf (Nat.le_refl _) r).kpo k5
  have kk := kp_trans (kp_trans k k4) k5
  refine ⟨hc, kk.size, kk, txs_one b5 (by rw [← hp]; exact (kp_trans k k4).size) hc.bf r5, rfl, fun j ls' hj => ?_, rfl⟩
  match j with
  | 0 => simp at hj; rw [← hj]; rfl
  | j + 1 => simp at hj
theorem FK.same {B : Nat} {o o' : Tz.Own} {w w1 : World} {g : Nat} {ob : Obj} (f : FK B o o' w w1) (ho : o g = .free) (hg : w.heap[g]? = some ob) (hT : ¬ TB ob) : w1.heap[g]? = w.heap[g]? := by
  refine f.fr.block g (Array.getElem?_eq_some_iff.1 hg).1 fun ⟨_, q⟩ => ?_
  rcases q with q | ⟨ob', q1, q2⟩
  · exact q ho
  · rw [hg] at q1; cases q1; exact hT q2
theorem Sr.fk {B D : Nat} {o o' : Tz.Own} {w w1 : World} {v : Value} {L : List St} (h : Sr D v L w) (f : FK B o o' w w1) (ho : ∀ g, v.ownBlock = some g → o g = .free) : Sr D v L w1 := by
  refine row_fr h f.fr fun j hj ⟨_, q⟩ => ?_
  rcases q with q | ⟨ob, q1, q2⟩
  · exact q (ho j hj)
  · rcases h.2 with ⟨z, _⟩ | ⟨g, cap, cur, z, hb, hg, _⟩
    · rw [z] at hj; cases hj
    · rw [z] at hj; simp only [Value.ownBlock, Option.some.injEq] at hj; subst hj
      rw [hg] at q1; cases q1
      rcases q2 with q | q | q | q <;> exact absurd q (by decide)
structure LpG (B b k j : Nat) (o : Tz.Own) (a : At) (s : BS) (L0 : List St) (sv : Value) (tl : List (List ByteArray)) (tv : Value) (W w : World) : Prop where
  cl : Clm B b o (50000 + 180000 * k + 5400000 * j) a s (1 + k) w
  hB : B ≤ w.heap.size
  kp : Below B W w
  tx : Txs o B tv tl w
  nx : s.m.next = (tl.length : Int)
  tt : ∀ (j : Nat) ls, tl[j]? = some ls → s.T j = ls
  sq : s.m.L.map St.seq = L0.map St.seq
  sr : ∃ D, Sr D sv L0 w
  sf : ∀ g, sv.ownBlock = some g → o g = .free
  le : L0.length ≤ 30
theorem LpG.kpw {B b k j : Nat} {o : Tz.Own} {a : At} {s : BS} {L0 : List St} {sv tv : Value} {tl : List (List ByteArray)} {W w w1 : World} (h : LpG B b k j o a s L0 sv tl tv W w) (kk : Kp w w1) : LpG B b k j o a s L0 sv tl tv W w1 := by
  obtain ⟨D, h1⟩ := h.sr
  exact ⟨h.cl.kp kk, Nat.le_trans h.hB kk.size, h.kp.trans (kk.mono h.hB), h.tx.kp kk, h.nx, h.tt, h.sq, ⟨D, row_kp h1 kk⟩, h.sf, h.le⟩
theorem LpG.step {B b k j M' : Nat} {o o' : Tz.Own} {a a' : At} {s s' : BS} {L0 : List St} {sv tv : Value} {tl : List (List ByteArray)} {W w w1 : World} (h : LpG B b k j o a s L0 sv tl tv W w) (q : Clm B b o' M' a' s' (1 + k) w1) (hM : M' ≤ 50000 + 180000 * k + 5400000 * (j + 1)) (f : FK B o o' w w1) (e : SmT s s') (hq : s'.m.L.map St.seq = s.m.L.map St.seq) : LpG B b k (j + 1) o' a' s' L0 sv tl tv W w1 := by
  obtain ⟨D, h1⟩ := h.sr
  refine ⟨q.upM hM (Nat.le_refl _), Nat.le_trans h.hB f.size, h.kp.trans (f.below h.hB), h.tx.fk f, by rw [e.1]; exact h.nx, fun j ls hj => by rw [e.2.2]; exact h.tt j ls hj, by rw [hq]; exact h.sq, ⟨D, h1.fk f h.sf⟩, fun g hg => ?_, h.le⟩
  have hlt : g < w.heap.size := (h1.lt g hg).2
  exact f.own g hlt (h.sf g hg)
theorem lpg_first {B b k : Nat} {o : Tz.Own} {a : At} {s : BS} {sv tv : Value} {tl : List (List ByteArray)} {W w w1 : World} (h : LpS B b k o a s tl tv W w) (r : Sr w.heap.size sv s.m.L w1) (kk : Kp w w1) : LpG B b k 0 o a s s.m.L sv tl tv W w1 := by
  have h' := h.kpw kk
  have hln := h.cl.bf.st.ln
  have hmo := h.mo
  exact ⟨h'.cl, h'.hB, h'.kp, h'.tx, h'.nx, h'.tt, rfl, ⟨_, r⟩, fun g hg => h.cl.bf.new (r.lt g hg).1, by omega⟩
theorem LpG.at_ {B b k j K N : Nat} {sc tc : Nat} {sa ta : Option Addr} {o : Tz.Own} {a : At} {s : BS} {L0 : List St} {tl : List (List ByteArray)} {W w : World} (h : LpG B b k j o a s L0 (.slice sa K sc) tl (.slice ta N tc) W w) (hj : j < L0.length) :
    ∃ (sg tg sq : Nat) (xa : Option Addr) (xc : Nat) (ls : List ByteArray), sa = some ⟨sg, 0, none⟩ ∧ ta = some ⟨tg, 0, none⟩ ∧ look s.m.L (sq : Int) ≠ none ∧ s.T sq = ls ∧ sq < N ∧ K = L0.length ∧
      (∀ (o' : Tz.Own) (w1 : World), FK B o o' w w1 → w1.cell? ⟨sg, j * 2, none⟩ = some (.int .i64 (sq : Int)) ∧ w1.cell? ⟨tg, sq, none⟩ = some (.slice xa ls.length xc) ∧ RQ (Fre o') (.slice xa ls.length xc) ls w1) := by
  obtain ⟨D, h1⟩ := h.sr
  obtain ⟨st, hst⟩ : ∃ st, L0[j]? = some st := ⟨_, List.getElem?_eq_getElem hj⟩
  have hK : K = L0.length := by
    obtain ⟨a', c', e, _⟩ := owns_form h1
    simp only [Value.slice.injEq] at e; exact e.2.1
  obtain ⟨sg, rfl, cur, hcur⟩ : ∃ sg, sa = some ⟨sg, 0, none⟩ ∧ ∃ cur, w.heap[sg]? = some (.cells cur 70 (0, 0)) := by
    rcases h1.2 with ⟨z, e0⟩ | ⟨g, c, cur, e, hb, hg, _⟩
    · omega
    · cases e; exact ⟨g, rfl, cur, hg⟩
  have hlk : look s.m.L st.seq ≠ none := by
    rw [look_in, h.sq]; exact List.mem_map.2 ⟨st, List.mem_of_getElem? hst, rfl⟩
  obtain ⟨st', hst'⟩ := Option.ne_none_iff_exists'.1 hlk
  have hfr := h.cl.bf.st.inw.inv.fam.fr _ _ hst'
  have hnx := h.nx
  obtain ⟨sq, hsq⟩ : ∃ k : Nat, st.seq = (k : Int) := ⟨st.seq.toNat, by omega⟩
  obtain ⟨ls, hls⟩ : ∃ ls, tl[sq]? = some ls := ⟨_, List.getElem?_eq_getElem (by omega)⟩
  obtain ⟨tg, uu, rfl, htl, ct, rt⟩ := h.tx.at_ hls
  obtain ⟨xa, xc, rfl, _, _⟩ := Row.form rt.1
  have hcs := Sr.cell2 h1 hK.symm hst
  rw [hsq] at hcs hlk
  refine ⟨sg, tg, sq, xa, xc, ls, rfl, rfl, hlk, h.tt sq ls hls, by omega, hK, fun o' w1 f => ?_⟩
  obtain ⟨vs, v1, v2, v3, v4⟩ := h.tx
  have htg : ∃ cur, w.heap[tg]? = some (.cells cur 22 (0, 0)) := by
    rcases v2.2 with ⟨z, e0⟩ | ⟨g, c, cur, e, hb, hg, _⟩
    · cases z
    · cases e; exact ⟨cur, hg⟩
  obtain ⟨cur2, hcur2⟩ := htg
  have e1 := f.same (h.sf sg rfl) hcur (by rintro (q | q | q | q) <;> exact absurd q (by decide))
  have e2 := f.same (v3 tg rfl) hcur2 (by rintro (q | q | q | q) <;> exact absurd q (by decide))
  exact ⟨by rw [World.cell?_of_block e1]; exact hcs, by rw [World.cell?_of_block e2]; exact ct, f.rq rt⟩
end Go.Proofs.YtaefeakmlgjonaaGreat
