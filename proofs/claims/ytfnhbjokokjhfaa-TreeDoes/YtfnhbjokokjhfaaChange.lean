/- The call change. -/
import Derived.Test.YtfnhbjokokjhfaaInner
namespace Go.Proofs.Ytfnhbjokokjhfaa
open Go.ChangeShapes Go.WideShapes Go.ChangeAt Go.RowKit
section
variable {o : Own} {w : World} {t : Nat} {s s' s1 : St} {vn vg : Value} {d a : Nat} {ls : List ByteArray} {js : List Nat}
theorem change_walk (h : Rep o w t s vn vg) {i : Nat} {fv : Value} {P : St → Prop} {Q : World → Prop}
    (HC : Leaves 47 #[.pointer (some ⟨t, 0, none⟩), .int .i64 s.top, .int .i64 i, fv] w fun w1 => ∃ s1, Did o w t s1 w1 ∧ P s1)
    (HP : ∀ s1, P s1 → ∃ n1, s1.ns[s1.top]? = some n1 ∧ n1.lines.length + n1.kids.length < 1000)
    (HG : ∀ s1 w1 n1 q, P s1 → Did o w t s1 w1 → s1.ns[s1.top]? = some n1 → 8 < n1.lines.length + n1.kids.length → Leaves 48 #[.pointer (some ⟨t, 0, none⟩)] (w1.drewN q) Q)
    (HS : ∀ s1 w1 n1 q, P s1 → Did o w t s1 w1 → s1.ns[s1.top]? = some n1 → n1.lines.length + n1.kids.length = 1 → n1.kids ≠ [] → Leaves 49 #[.pointer (some ⟨t, 0, none⟩)] (w1.drewN q) Q)
    (HQ : ∀ s1 w1 n1 q, P s1 → Did o w t s1 w1 → s1.ns[s1.top]? = some n1 → n1.lines.length + n1.kids.length ≤ 8 → (n1.lines.length + n1.kids.length = 1 → n1.kids = []) → Q (w1.drewN q)) :
    Leaves 30 #[.pointer (some ⟨t, 0, none⟩), .int .i64 i, fv] w Q := by
  have a2 := h.at2
  have HC' : Hid (Leaves 47 #[.pointer (some ⟨t, 0, none⟩), .int .i64 s.top, .int .i64 i, fv] w fun w1 => ∃ s1, Did o w t s1 w1 ∧ P s1) := HC
  have GP : Hid (∀ s1, P s1 → ∃ n1, s1.ns[s1.top]? = some n1 ∧ n1.lines.length + n1.kids.length < 1000) := HP
  have GG : Hid (∀ s1 w1 n1 q, P s1 → Did o w t s1 w1 → s1.ns[s1.top]? = some n1 → 8 < n1.lines.length + n1.kids.length → Leaves 48 #[.pointer (some ⟨t, 0, none⟩)] (w1.drewN q) Q) := HG
  have GS : Hid (∀ s1 w1 n1 q, P s1 → Did o w t s1 w1 → s1.ns[s1.top]? = some n1 → n1.lines.length + n1.kids.length = 1 → n1.kids ≠ [] → Leaves 49 #[.pointer (some ⟨t, 0, none⟩)] (w1.drewN q) Q) := HS
  have GQ : Hid (∀ s1 w1 n1 q, P s1 → Did o w t s1 w1 → s1.ns[s1.top]? = some n1 → n1.lines.length + n1.kids.length ≤ 8 → (n1.lines.length + n1.kids.length = 1 → n1.kids = []) → Q (w1.drewN q)) := HQ
  clear HC HP HG HS HQ h
  unfold Leaves
  go_enter Try.func30, Try.ntmps30
  go_wp2_with fail
  refine Calls.mono HC'.out ?_
  rintro e w1 ⟨rfl, s1, HD, HP1⟩
  obtain ⟨n1, hn1, hlt⟩ := GP.out s1 HP1
  have G1 : Hid (∀ q, 8 < n1.lines.length + n1.kids.length → Leaves 48 #[.pointer (some ⟨t, 0, none⟩)] (w1.drewN q) Q) := fun q => GG.out s1 w1 n1 q HP1 HD hn1
  have G2 : Hid (∀ q, n1.lines.length + n1.kids.length = 1 → n1.kids ≠ [] → Leaves 49 #[.pointer (some ⟨t, 0, none⟩)] (w1.drewN q) Q) := fun q => GS.out s1 w1 n1 q HP1 HD hn1
  have G3 : Hid (∀ q, n1.lines.length + n1.kids.length ≤ 8 → (n1.lines.length + n1.kids.length = 1 → n1.kids = []) → Q (w1.drewN q)) := fun q => GQ.out s1 w1 n1 q HP1 HD hn1
  obtain ⟨o1, vn1, vg1, h1, k1⟩ := HD
  have b2 := h1.at2
  have HW := width_any h1 hn1 (by omega)
  have HL : Hid (∀ q, Calls Try.prog 38 #[.pointer (some ⟨t, 0, none⟩), .int .i64 s1.top] (w1.drewN q) fun e w' => e = .returned (.bool (decide (n1.kids = []))) ∧ w' = w1.drewN q) := fun q => last_any (h1.drewN q) hn1
  clear h1 k1 hn1 HP1 HC'
  by_cases h8 : 8 < n1.lines.length + n1.kids.length
  · have HX : Hid (∀ q, Leaves 48 #[.pointer (some ⟨t, 0, none⟩)] (w1.drewN q) Q) := fun q => G1.out q h8
    generalize n1.lines.length + n1.kids.length = Wd at *
    have hd1 : decide ((8 : Int) < (Wd : Int)) = true := by simp; omega
    go_wp2_with (first | (go_at_call 33; refine HW.mono ?_; rintro e w2 ⟨rfl, q, rfl⟩) | (go_at_call 48; refine Calls.mono (HX.out _) ?_; rintro e w3 ⟨rfl, HQ3⟩))
    go_end0
    exact ⟨rfl, HQ3⟩
  · by_cases h9 : n1.lines.length + n1.kids.length = 1
    · by_cases hk : n1.kids = []
      · have HX : Hid (∀ q, Q (w1.drewN q)) := fun q => G3.out q (by omega) (fun _ => hk)
        have HL2 : Hid (∀ q, Calls Try.prog 38 #[.pointer (some ⟨t, 0, none⟩), .int .i64 s1.top] (w1.drewN q) fun e w' => e = .returned (.bool true) ∧ w' = w1.drewN q) := fun q => by have := HL.out q; rw [show decide (n1.kids = []) = true by simp [hk]] at this; exact this
        rw [h9] at HW
        clear hk h8 h9 hlt HL
        go_wp2_with (first | (go_at_call 33; refine HW.mono ?_; rintro e w2 ⟨rfl, q, rfl⟩) | (go_at_call 38; refine Calls.mono (HL2.out _) ?_; rintro e w3 ⟨rfl, rfl⟩))
        go_end0
        exact ⟨rfl, HX.out _⟩
      · have HX : Hid (∀ q, Leaves 49 #[.pointer (some ⟨t, 0, none⟩)] (w1.drewN q) Q) := fun q => G2.out q h9 hk
        have HL2 : Hid (∀ q, Calls Try.prog 38 #[.pointer (some ⟨t, 0, none⟩), .int .i64 s1.top] (w1.drewN q) fun e w' => e = .returned (.bool false) ∧ w' = w1.drewN q) := fun q => by have := HL.out q; rw [show decide (n1.kids = []) = false by simp [hk]] at this; exact this
        rw [h9] at HW
        clear hk h8 h9 hlt HL
        go_wp2_with (first | (go_at_call 33; refine HW.mono ?_; rintro e w2 ⟨rfl, q, rfl⟩) | (go_at_call 38; refine Calls.mono (HL2.out _) ?_; rintro e w3 ⟨rfl, rfl⟩) | (go_at_call 49; refine Calls.mono (HX.out _) ?_; rintro e w4 ⟨rfl, HQ3⟩))
        go_end0
        exact ⟨rfl, HQ3⟩
    · have HX : Hid (∀ q, Q (w1.drewN q)) := fun q => G3.out q (by omega) (fun e => absurd e h9)
      generalize n1.lines.length + n1.kids.length = Wd at *
      have hd1 : decide ((8 : Int) < (Wd : Int)) = false := by simp; omega
      have hd2 : ((Wd : Int) == 1) = false := by simp; omega
      have hd3 : ¬ ((Wd : Int) = 1) := by omega
      go_wp2_with (first | (go_at_call 33; refine HW.mono ?_; rintro e w2 ⟨rfl, q, rfl⟩))
      go_end0
      exact ⟨rfl, HX.out _⟩

/-- The whole tree. -/
def Inv (s : St) (d : Nat) (ls : List ByteArray) : Prop := ∃ js, Sub s d s.top ls js ∧ Full s js ∧ s.wid s.top ≤ 8 ∧ (0 < d → 2 ≤ s.wid s.top)
theorem GrowTo.inv {nt : Node} (h : GrowTo s nt s') (hn : s.ns[s.top]? = some nt) (hs : Sub s d s.top ls js) (hf : Full s js) (hw : 8 < s.wid s.top ∧ s.wid s.top ≤ 16) : Inv s' (d + 1) ls ∧ s'.ns.length ≤ s.ns.length + 2 := by
  obtain ⟨r, s1, v, r2, s3, u, ⟨hfr, htop⟩, hS, hr3, rfl⟩ := h
  have hrj : r ∉ js := by
    rcases hfr with ⟨e, _⟩ | ⟨_, _, e, _⟩
    · intro hm; exact hf.apart hm (by rw [e]; simp)
    · intro hm; have := hf.lt hm; omega
  have hold : ∀ x, x < s.ns.length → s1.ns[x]? = s.ns[x]? := fun x hx => by
    rcases hfr with ⟨_, e⟩ | ⟨_, _, _, e⟩
    · rw [e]
    · rw [e, List.getElem?_append_left hx]
  have hrl : r < s1.ns.length := by
    rcases hfr with ⟨e1, e⟩ | ⟨_, _, e1, e⟩
    · rw [e]
      have := hf.nil r (by rw [e1]; simp)
      exact (List.getElem?_eq_some_iff.1 this).1
    · rw [e]; simp; omega
  have hlen1 : s1.ns.length ≤ s.ns.length + 1 := by
    rcases hfr with ⟨_, e⟩ | ⟨_, _, _, e⟩
    · rw [e]; omega
    · rw [e]; simp
  have hT : ∀ x, x ≠ r → x < s.ns.length → (topOver s1 r s.top v).ns[x]? = s.ns[x]? := fun x hx hl => (put_ne _ hx).trans (hold x hl)
  have hj : ∀ x ∈ js, (topOver s1 r s.top v).ns[x]? = s.ns[x]? := fun x hx => hT x (fun e => hrj (by rw [← e]; exact hx)) (hf.lt hx)
  have hsT := hs.frame hj
  have hlT : (topOver s1 r s.top v).ns.length = s1.ns.length := put_len _ _ _
  have hfT : Full (topOver s1 r s.top v) (([] ++ (js ++ [])) ++ (r :: [])) := by
    refine ⟨?_, fun g hg => ?_⟩
    · rw [hlT]
      show ((([] ++ (js ++ [])) ++ (r :: [])) ++ s1.gone).Perm _
      simp only [List.nil_append, List.append_nil]
      rcases hfr with ⟨e1, e⟩ | ⟨e0, e1, e2, e⟩
      · rw [e]
        refine List.Perm.trans ?_ hf.perm
        rw [e1, List.append_assoc]
        exact List.Perm.append_left _ List.perm_append_comm
      · have hp := hf.perm
        rw [e0, List.append_nil] at hp
        rw [e, e1, List.append_nil, e2, List.length_append, List.length_singleton, List.range_succ]
        exact hp.append_right _
    · have hg' : g ∈ s1.gone := hg
      have hgs : g ∈ s.gone ∧ g ≠ r := by
        rcases hfr with ⟨e1, e⟩ | ⟨e0, e1, e2, e⟩
        · refine ⟨by rw [e1]; simp [hg'], fun e' => ?_⟩
          have h1 := (List.nodup_append.1 hf.nodup).2.1
          rw [e1] at h1
          exact absurd rfl ((List.nodup_append.1 h1).2.2 r (by rw [← e']; exact hg') r (by simp))
        · rw [e1] at hg'; cases hg'
      have := hf.nil g hgs.1
      rw [hT g hgs.2 (List.getElem?_eq_some_iff.1 this).1]; exact this
  have hnT : (topOver s1 r s.top v).ns[s.top]? = some nt := by rw [hj _ hs.mem]; exact hn
  have hwT : (topOver s1 r s.top v).wid s.top = s.wid s.top := by simp only [St.wid, hj _ hs.mem]
  have hM := mid_split (xs := []) (ys := []) (jx := []) (jy := []) (lx := []) (ly := []) hS hnT rfl ⟨rfl, rfl⟩ hsT ⟨rfl, rfl⟩ (by rw [hwT]; exact hw) hfT
  obtain ⟨ks', js', u', m1, m2, m3, m4, m5, m6, m7, m8⟩ := hM
  rw [hr3] at m1
  simp only [Option.some.injEq, Node.mk.injEq] at m1
  obtain ⟨_, _, _, rfl, _⟩ := m1
  simp only [List.nil_append, List.append_nil] at m2
  have hc := m2.cnt
  simp only [List.map_cons, List.map_nil, List.sum_cons, List.sum_nil, Nat.add_zero] at hc
  have hl3 := (List.getElem?_eq_some_iff.1 hr3).1
  have hja : ∀ x ∈ js', x ≠ r := fun x hx => m3.ne hx (by simp)
  have hrt : s3.top = r := hS.top
  refine ⟨⟨r :: js', ?_, ⟨?_, fun g hg => ?_⟩, ?_, fun _ => ?_⟩, ?_⟩
  · show Sub _ (d + 1) s3.top ls _
    rw [hrt, hc.1, hc.2]
    exact ⟨u, [s.top, r2], js', rfl, put_same _ hl3, by simp, m2.frame fun x hx => put_ne _ (hja x hx)⟩
  · rw [put_len]
    refine List.Perm.trans (List.Perm.append_right _ ?_) m3.perm
    exact (List.perm_append_singleton r js').symm
  · rw [put_ne _ (fun e' => m3.apart (x := r) (by simp) (by rw [← e']; exact hg))]; exact m3.nil g hg
  · show St.wid _ s3.top ≤ 8
    rw [hrt]; simp only [St.wid, put_same _ hl3, Option.map_some, Option.getD_some, Node.wid]; simp
  · show 2 ≤ St.wid _ s3.top
    rw [hrt]; simp only [St.wid, put_same _ hl3, Option.map_some, Option.getD_some, Node.wid]; simp
  · rw [put_len]; omega
theorem shrink_inv {n : Node} {c : Nat} (hn : s.ns[s.top]? = some n) (hk : n.kids = [c]) (hs : Sub s d s.top ls js) (hf : Full s js) : ∃ d', Inv { s.put s.top nilNode with top := c, gone := s.gone ++ [s.top] } d' ls := by
  cases d with
  | zero => obtain ⟨rfl, v, h⟩ := hs; rw [h] at hn; injection hn with hn; subst hn; cases hk
  | succ d =>
    obtain ⟨u, ks, js', rfl, h, hp, hA⟩ := hs
    have hA : All (Ok s d) ks ls js' := hA
    rw [h] at hn; injection hn with hn; subst hn
    have hk : ks = [c] := hk
    subst hk
    have hO := hA.head
    have lt := (List.getElem?_eq_some_iff.1 h).1
    have hnd := (List.nodup_append.1 hf.nodup).1
    have hja : ∀ x ∈ js', x ≠ s.top := fun x hx e => (List.nodup_cons.1 hnd).1 (by rw [← e]; exact hx)
    have hfr : ∀ x ∈ js', (St.mk (s.ns.set s.top nilNode) (s.gone ++ [s.top]) c).ns[x]? = s.ns[x]? := fun x hx => put_ne (s := s) nilNode (hja x hx)
    have hwd : (St.mk (s.ns.set s.top nilNode) (s.gone ++ [s.top]) c).wid c = s.wid c := by simp only [St.wid, hfr c hO.1.mem]
    refine ⟨d, js', hO.1.frame hfr, ⟨?_, fun g hg => ?_⟩, ?_, fun _ => ?_⟩
    · show (js' ++ (s.gone ++ [s.top])).Perm (List.range (s.ns.set s.top nilNode).length)
      rw [List.length_set, ← List.append_assoc]
      exact (List.perm_append_singleton _ _).trans hf.perm
    · have hg : g ∈ s.gone ++ [s.top] := hg
      rcases List.mem_append.1 hg with hg | hg
      · exact (put_ne (s := s) nilNode (fun e => hf.apart (x := s.top) (by simp) (by rw [← e]; exact hg))).trans (hf.nil g hg)
      · simp at hg; rw [hg]; exact put_same (s := s) nilNode lt
    · show St.wid _ c ≤ 8; have := hO.2; exact hwd ▸ this.2
    · show 2 ≤ St.wid _ c; have := hO.2.1; have e : St.wid { s.put s.top nilNode with top := c, gone := s.gone ++ [s.top] } c = s.wid c := hwd
      rw [e]; omega
theorem All.len {ks : List Nat} {m : Nat} (h : All (Ok s d) ks ls js) (hm : ∀ c l j, Ok s d c l j → m ≤ l.length) : ks.length * m ≤ ls.length := by
  induction ks generalizing ls js with
  | nil => simp
  | cons c cs ih =>
    obtain ⟨a1, a2, b1, b2, rfl, rfl, hp, hr⟩ := h
    have h1 := ih hr; have h2 := hm c a1 b1 hp
    rw [List.length_cons, List.length_append, Nat.add_mul]; omega
theorem Ok.len {c : Nat} (h : Ok s d c ls js) : 4 ^ (d + 1) ≤ ls.length := by
  induction d generalizing c ls js with
  | zero =>
    obtain ⟨⟨rfl, v, h⟩, h4, _⟩ := h
    simp [St.wid, h, Node.wid] at h4; simpa using h4
  | succ d ih =>
    obtain ⟨⟨u, ks, js', rfl, h, hp, hA⟩, h4, _⟩ := h
    simp [St.wid, h, Node.wid] at h4
    have := All.len (m := 4 ^ (d + 1)) hA fun c l j hc => ih hc
    rw [Nat.pow_succ]
    have h5 : 4 * 4 ^ (d + 1) ≤ ks.length * 4 ^ (d + 1) := Nat.mul_le_mul_right _ h4
    omega
theorem Inv.depth (h : Inv s d ls) : 0 < d → 2 * 4 ^ d ≤ ls.length := by
  intro hd
  obtain ⟨js, hs, _, _, h2⟩ := h
  cases d with
  | zero => omega
  | succ d =>
    have h2 := h2 hd
    obtain ⟨u, ks, js', rfl, h, hp, hA⟩ := hs
    simp [St.wid, h, Node.wid] at h2
    have := All.len (m := 4 ^ (d + 1)) hA fun c l j hc => Ok.len hc
    have h5 : 2 * 4 ^ (d + 1) ≤ ks.length * 4 ^ (d + 1) := Nat.mul_le_mul_right _ h2
    omega
theorem Inv.deep (h : Inv s d ls) (hl : ls.length < 2 ^ 39) : d < 20 := by
  by_cases hd : d < 20
  · exact hd
  · have h1 := h.depth (by omega)
    have h2 : 4 ^ 20 ≤ 4 ^ d := Nat.pow_le_pow_right (by omega) (by omega)
    have : (4 : Nat) ^ 20 = 2 ^ 40 := by decide
    omega
theorem change_any (h : Rep o w t s vn vg) (hI : Inv s d ls) (e : Edit) (f : FuncId) (caps : Array Value) {fn : Func} (hf : Try.prog.funcs[f]? = some fn) (hnm : (fn.name == "runtime.NumGoroutine") = false) (hbd : fn.body.isNone = false) {i : Nat} (hok : e.ok ls.length i) (hdo : Does f caps e o w) (hb1 : ls.length < 2 ^ 38) (hb2 : sizes ls + e.more < 2 ^ 62) (hns : s.ns.length < 70000000) :
    Leaves 30 #[.pointer (some ⟨t, 0, none⟩), .int .i64 i, .func (.func f) #[] caps] w fun w' => ∃ s' d', Did o w t s' w' ∧ Inv s' d' (e.run ls i) ∧ s'.ns.length ≤ s.ns.length + 22 := by
  have hdeep := hI.deep (by omega)
  obtain ⟨js, hs, hfl, hw8, hw2⟩ := hI
  have hln := e.len ls i hok
  have hsz := e.size ls i
  refine change_walk h (P := Changed s d s.top (e.run ls i) []) (changeIn_any e f caps hf hnm hbd d h hs (by simpa using hfl) hw8 hw2 hok hdo (by omega) (by omega) (by omega)) ?_ ?_ ?_ ?_
  · rintro s1 ⟨js', c1, c2, c3, c4, c5, c6, c7⟩
    rw [← c7] at c1
    obtain ⟨n1, P⟩ := c1.parts
    have := P.wid
    exact ⟨n1, P.node, by rw [← this, c7]; omega⟩
  · rintro s1 w1 n1 q ⟨js', c1, c2, c3, c4, c5, c6, c7⟩ ⟨o1, vn1, vg1, h1, k1⟩ hn1 h8
    rw [← c7] at c1
    rw [List.append_nil] at c2
    obtain ⟨n1', P⟩ := c1.parts
    obtain rfl : n1 = n1' := by have := P.node; rw [hn1] at this; injection this
    have hwd := P.wid
    rw [c7] at hwd
    have hnd := (List.nodup_append.1 c2.nodup)
    refine Calls.mono (grow_any (h1.drewN q) (by omega) hn1 (fun r hr => ⟨c2.nil r hr, fun e' => c2.apart c1.mem (by rw [← e']; exact hr), fun hm => c2.apart (P.mem r hm) hr⟩) hnd.2.1
      (fun e' => by
        rcases Nat.eq_zero_or_pos d with hd | hd
        · exact (P.leaf hd).2
        · have := (P.inner hd).2.2; rw [e'] at this; simp at this)
      (fun e' => by
        rcases Nat.eq_zero_or_pos d with hd | hd
        · have := (P.leaf hd).1; rw [this, e'] at h8; simp at h8
        · exact (P.inner hd).2.1)
      (fun x hx => ⟨c2.lt (P.mem x hx), P.ne hnd.1 x hx⟩) (by rw [P.cnt]; omega) (by rw [P.byt]; omega) (by omega)) ?_
    rintro ex w2 ⟨rfl, s2, hG, o2, vn2, vg2, h2, k2⟩
    have hwd1 : s1.wid s1.top = s1.wid s.top := by rw [c7]
    obtain ⟨g1, g2⟩ := hG.inv hn1 c1 c2 (by rw [hwd1]; omega)
    exact ⟨rfl, s2, d + 1, ⟨o2, vn2, vg2, h2, (k1.drewN' q).trans k2⟩, g1, by omega⟩
  · rintro s1 w1 n1 q ⟨js', c1, c2, c3, c4, c5, c6, c7⟩ ⟨o1, vn1, vg1, h1, k1⟩ hn1 h9 hk
    rw [← c7] at c1
    rw [List.append_nil] at c2
    have hgl := c2.gone_len
    obtain ⟨c, hc⟩ : ∃ c, n1.kids = [c] := by
      match hkk : n1.kids with
      | [] => exact absurd hkk hk
      | [c] => exact ⟨c, rfl⟩
      | c :: c' :: r => rw [hkk] at h9; simp at h9; omega
    refine Calls.mono (shrink_any (h1.drewN q) hn1 (c := c) (by rw [hc]; rfl) (by omega)) ?_
    rintro ex w2 ⟨rfl, o2, vn2, vg2, h2, k2⟩
    obtain ⟨d', hI'⟩ := shrink_inv hn1 hc c1 c2
    refine ⟨rfl, _, d', ⟨o2, vn2, vg2, h2, (k1.drewN' q).trans k2⟩, hI', ?_⟩
    show (s1.ns.set s1.top nilNode).length ≤ _
    rw [List.length_set]; omega
  · rintro s1 w1 n1 q ⟨js', c1, c2, c3, c4, c5, c6, c7⟩ ⟨o1, vn1, vg1, h1, k1⟩ hn1 h8 hk
    rw [← c7] at c1
    rw [List.append_nil] at c2
    obtain ⟨n1', P⟩ := c1.parts
    obtain rfl : n1 = n1' := by have := P.node; rw [hn1] at this; injection this
    have hwd := P.wid
    refine ⟨s1, d, ⟨o1, vn1, vg1, h1.drewN q, k1.drewN' q⟩, ⟨js', c1, c2, by omega, fun hd => ?_⟩, by omega⟩
    rw [hwd]
    obtain ⟨p1, p2, p3⟩ := P.inner hd
    have hk' : n1.lines.length + n1.kids.length ≠ 1 := fun e' => by rw [hk e'] at p3; simp at p3
    omega
end
end Go.Proofs.Ytfnhbjokokjhfaa
