/- Texts that the proof of the law stands on: Kept, Knot, Knot2, Knot3, Pattern, NewReader, Recov, Pt, Read, Parse, Snd0, Snd1, Snd2, Snd3, Snd4. -/
import Derived.Test.YtmghdogoeehodaaGreatDoorPartE
import Derived.Defers
import Derived.Recover
import Derived.Test.YtmghdogoeehodaaGreatDoorPartB
import Derived.Deep.AppendSrc
/- What is kept from piece to piece (plain facts on the model). -/
namespace Go.Proofs.YtmghdogoeehodaaGreatDoor
set_option linter.unusedVariables false
set_option linter.unusedSimpArgs false
/-- From r to r': on in the text, at most n nodes more, as many groups. -/
structure Stp (s : ByteArray) (n : Nat) (r r' : RS) : Prop where
  k : r.k ≤ r'.k
  sz : r'.k ≤ s.size
  up : r.nds.length ≤ r'.nds.length
  nd : r'.nds.length ≤ r.nds.length + n
  cl : r'.cl.length = r.cl.length
  g : r'.g = r.g
section
variable {s last : ByteArray} {r r' : RS} {t : Tok} {i n : Nat} {ks ks' : List Nat}
theorem Stp.refl (h : r.k ≤ s.size) : Stp s 0 r r := ⟨Nat.le_refl _, h, Nat.le_refl _, Nat.le_refl _, rfl, rfl⟩
theorem Stp.add (h : r.k ≤ s.size) (d : Nd) : Stp s 1 r (addN d r).2 ∧ (addN d r).1 < (addN d r).2.nds.length := by
  refine ⟨⟨Nat.le_refl _, h, ?_, ?_, rfl, rfl⟩, ?_⟩ <;> simp [addN]
theorem finF_le {s : ByteArray} {k n : Nat} {m : Int} {y : Bool} {a : Nat} {b : Int} {c : Bool} {j : Nat} (h : finF s k n m y = some (a, b, c, j)) (hk : k ≤ s.size) : k ≤ j ∧ j ≤ s.size := by
  unfold finF at h
  split at h
  · rename_i hp
    have : k + 1 ≤ s.size := pfx_len hp hk
    split at h
    · cases h
    · cases h; exact ⟨by omega, this⟩
  · split at h
    · rename_i hp
      have : k + 2 ≤ s.size := pfx_len hp hk
      split at h
      · cases h
      · cases h; exact ⟨by omega, this⟩
    · cases h
theorem bndF_le {s : ByteArray} {k : Nat} {a : Nat} {b : Int} {c : Bool} {j : Nat} (h : bndF s k = some (a, b, c, j)) (hk : k ≤ s.size) : k ≤ j ∧ j ≤ s.size := by
  have hk1 : (if pfx s k ⟨#[45]⟩ then k + 1 else k) ≤ s.size ∧ k ≤ (if pfx s k ⟨#[45]⟩ then k + 1 else k) := by
    cases hp : pfx s k ⟨#[45]⟩ with
    | true => exact ⟨pfx_len hp hk, by simp⟩
    | false => exact ⟨hk, by simp⟩
  unfold bndF at h
  split at h
  · cases h
  · rename_i n k2 h2
    obtain ⟨a1, a2, _⟩ := numF_le h2 hk1.1
    split at h
    · rename_i hp
      have := pfx_len hp a2
      split at h
      · cases h
      · rename_i m k3 h3
        obtain ⟨b1, b2, _⟩ := numF_le h3 this
        obtain ⟨c1, c2⟩ := finF_le h b2
        exact ⟨by omega, c2⟩
    · obtain ⟨c1, c2⟩ := finF_le h a2
      exact ⟨by omega, c2⟩
theorem timesF_stp {d : Nd} (h : timesF s t r = .ok (d, r')) (hk : r.k ≤ s.size) : Stp s 0 r r' := by
  unfold timesF at h
  split at h
  · cases h; exact Stp.refl hk
  · split at h
    · cases h; exact Stp.refl hk
    · split at h
      · split at h
        · cases h
        · rename_i hb
          cases h
          obtain ⟨a, b⟩ := bndF_le hb hk
          exact ⟨a, b, Nat.le_refl _, Nat.le_refl _, rfl, rfl⟩
      · cases h; exact Stp.refl hk
theorem manyF_stp (h : manyF s t ks r = .ok (ks', r')) (hk : r.k ≤ s.size) (hp : ∀ p ∈ ks, p < r.nds.length) : Stp s 1 r r' ∧ ks'.length ≤ ks.length + 1 ∧ ∀ p ∈ ks', p < r'.nds.length := by
  have hstar : ∀ (a : List Nat) (b : RS), (a, b) = (ks ++ [r.nds.length], ({ r with nds := r.nds ++ [{ op := 2, c := t.c }] } : RS)) → Stp s 1 r b ∧ a.length ≤ ks.length + 1 ∧ ∀ p ∈ a, p < b.nds.length := by
    intro a b e
    cases e
    refine ⟨(Stp.add hk { op := 2, c := t.c }).1, by simp, fun p hq => ?_⟩
    simp only [List.mem_append, List.mem_singleton] at hq
    simp only [List.length_append, List.length_singleton]
    rcases hq with hq | hq
    · have := hp p hq; omega
    · omega
  unfold manyF at h
  split at h
  · split at h
    · cases h
    · injection h with h; exact hstar _ _ h.symm
  · split at h
    · split at h
      · cases h
      · rename_i q hq hrep d r1 h1
        injection h with h
        injection h with ha hb
        subst ha; subst hb
        have st := timesF_stp h1 hk
        have e := timesF_nds h1
        refine ⟨⟨st.k, st.sz, ?_, ?_, st.cl, st.g⟩, by simp, fun p hm => ?_⟩
        · simp [e]
        · simp [e]
        · have := List.mem_or_eq_of_mem_set hm
          simp only [List.length_append, List.length_singleton]
          rcases this with z | z
          · have := hp p z; rw [e]; omega
          · omega
    · split at h
      · cases h
      · injection h with h; exact hstar _ _ h.symm
theorem edgeF_stp (h : edgeF s t r = .ok (i, r')) (hk : r.k ≤ s.size) : Stp s 1 r r' ∧ i < r'.nds.length := by
  unfold edgeF at h
  split at h
  · rename_i hp
    have := pfx_len hp hk
    cases h
    obtain ⟨a, b⟩ := Stp.add (r := { r with k := r.k + 1 }) this { op := 14 }
    exact ⟨⟨by simp [addN], a.sz, a.up, a.nd, rfl, rfl⟩, b⟩
  · split at h
    · rename_i hp
      have := pfx_len hp hk
      cases h
      obtain ⟨a, b⟩ := Stp.add (r := { r with k := r.k + 1 }) this { op := 15 }
      exact ⟨⟨by simp [addN], a.sz, a.up, a.nd, rfl, rfl⟩, b⟩
    · cases h
theorem letterF_stp (h : letterF s t r = .ok (i, r')) (hk : r.k ≤ s.size) : Stp s 1 r r' ∧ i < r'.nds.length := by
  unfold letterF at h
  split at h
  · cases h; exact Stp.add hk _
  split at h
  · cases h; exact Stp.add hk _
  split at h
  · exact edgeF_stp h hk
  split at h
  · unfold backF at h
    split at h
    · cases h; exact Stp.add hk _
    · cases h
  split at h
  · cases h; exact Stp.add hk _
  · cases h
theorem eolF_stp (h : eolF s t r = .ok (i, r')) (hk : r.k ≤ s.size) : Stp s 1 r r' ∧ i < r'.nds.length := by
  unfold eolF at h
  split at h
  · cases h
  · split at h
    · cases h; exact Stp.add hk _
    · cases h; exact Stp.add hk _
theorem setF_stp (h : setF s t r = .ok (i, r')) (hk : r.k ≤ s.size) : Stp s 1 r r' ∧ i < r'.nds.length := by
  unfold setF at h
  split at h
  · cases h
  · rename_i r1 hc
    cases h
    unfold collF at hc
    split at hc
    · cases hc; exact Stp.add hk _
    · split at hc <;> cases hc
  · rename_i q r1 hc
    cases h
    unfold collF at hc
    split at hc
    · cases hc
    · rename_i q0 fl k2 hx
      split at hc
      · cases hc
      · cases hc
        obtain ⟨_, a, b⟩ := rdF_ok _ _ _ _ _ _ _ ok_zero hx
        have hk1 : r.k ≤ (if pfx s r.k hat then r.k + 1 else r.k) := by split <;> omega
        obtain ⟨x, y⟩ := Stp.add (r := { r with k := k2 }) b { op := 4, set := (if pfx s r.k hat then notS q0 else q0) }
        exact ⟨⟨by show r.k ≤ k2; omega, x.sz, x.up, x.nd, rfl, rfl⟩, y⟩
theorem joinF_stp (op : Nat) (hk : r.k ≤ s.size) (hp : ∀ p ∈ ks, p < r.nds.length) : Stp s 1 r (joinF op ks r).2 ∧ (joinF op ks r).1 < (joinF op ks r).2.nds.length := by
  unfold joinF
  split
  · exact Stp.add hk _
  · rename_i x
    exact ⟨⟨Nat.le_refl _, hk, Nat.le_refl _, by simp, rfl, rfl⟩, hp x (by simp)⟩
  · exact Stp.add hk _
end
end Go.Proofs.YtmghdogoeehodaaGreatDoor
/- The knot: what is kept of pieces, groups, branches. -/
namespace Go.Proofs.YtmghdogoeehodaaGreatDoor
set_option linter.unusedVariables false
set_option linter.unusedSimpArgs false
/-- A reader that may go on. -/
structure Gd (s : ByteArray) (r : RS) : Prop where
  sz : r.k ≤ s.size
  nd : r.nds.length ≤ 1600 + 4 * r.k
  cl : r.cl.length = 10
  g : r.g ≤ 9
/-- From r to r': what a piece (x = 0), a branch (x = 1), the branches (x = 2) leave; e: the 4 nodes that a token which is not the end gives room for. -/
structure Aft (s : ByteArray) (x e : Nat) (r : RS) (i : Nat) (r' : RS) : Prop where
  k : r.k ≤ r'.k
  sz : r'.k ≤ s.size
  up : r.nds.length ≤ r'.nds.length
  nd : r'.nds.length + e ≤ 1600 + 4 * r'.k + x
  cl : r'.cl.length = 10
  g : r.g ≤ r'.g
  g9 : r'.g ≤ 9
  i : i < r'.nds.length
section
variable {s last : ByteArray} {r r' : RS} {t : Tok} {i n : Nat} {ks : List Nat}
theorem Stp.aft (h : Stp s 1 r r') (hi : i < r'.nds.length) (hn : r.nds.length + 4 ≤ 1600 + 4 * r.k) (hc : r.cl.length = 10) (hg : r.g ≤ 9) : Aft s 0 0 r i r' :=
  ⟨h.k, h.sz, h.up, by have := h.nd; have := h.k; omega, by rw [h.cl]; exact hc, by rw [h.g]; exact Nat.le_refl _, by rw [h.g]; exact hg, hi⟩
theorem againF_aft (hla : last.size ≤ 1100) (hk : r.k ≤ s.size) (hn : r.nds.length + 4 ≤ 1600 + 4 * r.k) (hc : r.cl.length = 10) (hg : r.g ≤ 9) (h : againF last r = (i, r')) : Aft s 0 0 r i r' := by
  unfold againF at h
  split at h
  · cases h
    obtain ⟨a, b⟩ := Stp.add (s := s) hk { op := 1 }
    exact a.aft b hn hc hg
  · rename_i h4
    have hb : (bytesN last.data.toList).length = last.size := by simp [bytesN]
    obtain ⟨a, b⟩ := joinF_stp (s := s) (r := { r with nds := r.nds ++ bytesN last.data.toList }) (ks := (List.range last.size).map (r.nds.length + ·)) 5 hk (by
      intro p hp
      simp only [List.mem_map, List.mem_range] at hp
      obtain ⟨j, hj, rfl⟩ := hp
      simp only [List.length_append, hb]
      omega)
    rw [h] at a b
    have e1 := a.nd
    have e2 := a.up
    simp only [List.length_append, hb] at e1 e2
    exact ⟨a.k, a.sz, by omega, by have := a.k; simp only at this; omega, by rw [a.cl]; exact hc, by rw [a.g]; exact Nat.le_refl _, by rw [a.g]; exact hg, b⟩
theorem signF_aft {G : Tok → RS → Except (Nat × Nat) (Nat × RS)} {first : Bool} (hla : last.size ≤ 1100) (hk : r.k ≤ s.size) (hn : r.nds.length + 4 ≤ 1600 + 4 * r.k) (hc : r.cl.length = 10) (hg : r.g ≤ 9)
    (hG : ∀ i r', G t r = .ok (i, r') → Aft s 0 0 r i r') (h : signF G s last t first r = .ok (i, r')) : Aft s 0 0 r i r' := by
  have bare : ∀ d : Nd, .ok (addN d r) = (.ok (i, r') : Except (Nat × Nat) (Nat × RS)) → Aft s 0 0 r i r' := fun d e => by
    injection e with e
    obtain ⟨a, b⟩ := Stp.add (s := s) hk d
    rw [e] at a b
    exact a.aft b hn hc hg
  unfold signF at h
  split at h
  · split at h
    · exact bare _ h
    · exact bare _ h
  split at h
  · obtain ⟨a, b⟩ := eolF_stp h hk
    exact a.aft b hn hc hg
  split at h
  · exact bare _ h
  split at h
  · exact bare _ h
  split at h
  · exact bare _ h
  split at h
  · injection h with h
    exact againF_aft hla hk hn hc hg h
  split at h
  · obtain ⟨a, b⟩ := setF_stp h hk
    exact a.aft b hn hc hg
  split at h
  · exact hG _ _ h
  · exact bare _ h
theorem pieceF_aft {G : Tok → RS → Except (Nat × Nat) (Nat × RS)} {first : Bool} (hla : last.size ≤ 1100) (hk : r.k ≤ s.size) (hn : r.nds.length + 4 ≤ 1600 + 4 * r.k) (hc : r.cl.length = 10) (hg : r.g ≤ 9)
    (hG : ∀ i r', G t r = .ok (i, r') → Aft s 0 0 r i r') (h : pieceF G s last t first r = .ok (i, r')) : Aft s 0 0 r i r' := by
  unfold pieceF at h
  split at h
  · exact signF_aft hla hk hn hc hg hG h
  · split at h
    · obtain ⟨a, b⟩ := letterF_stp h hk
      exact a.aft b hn hc hg
    · injection h with h
      obtain ⟨a, b⟩ := Stp.add (s := s) hk { op := 2, c := t.c }
      unfold plF at h
      rw [h] at a b
      exact a.aft b hn hc hg
def room (t : Tok) : Nat := if t.kd = 0 then 0 else 4
theorem groupF_aft {BR : RS → Except (Nat × Nat) (Nat × Tok × RS)} (hd : Gd s r) (hB : ∀ r1 i t r2, Gd s r1 → BR r1 = .ok (i, t, r2) → Aft s 2 (room t) r1 i r2) (h : groupF BR t r = .ok (i, r')) : Aft s 0 0 r i r' := by
  unfold groupF at h
  split at h
  · cases h
  · rename_i h9
    have hg := hd.g
    split at h
    · cases h
    · rename_i kid en r1 h1
      have a := hB { r with g := r.g + 1 } _ _ _ ⟨hd.sz, hd.nd, hd.cl, by show r.g + 1 ≤ 9; omega⟩ h1
      split at h
      · cases h
      · rename_i h0
        cases h
        have e := a.nd
        unfold room at e
        rw [if_neg h0] at e
        have hu := a.up
        have hk := a.k
        have hgg := a.g
        simp only at hu hk hgg
        refine ⟨hk, a.sz, ?_, ?_, ?_, ?_, a.g9, ?_⟩ <;> simp [addN]
        · omega
        · omega
        · exact a.cl
        · omega
end
end Go.Proofs.YtmghdogoeehodaaGreatDoor
/- The knot: branch and branches, by the number of groups that may still come. -/
namespace Go.Proofs.YtmghdogoeehodaaGreatDoor
set_option linter.unusedVariables false
set_option linter.unusedSimpArgs false
section
variable {s last : ByteArray} {r r' : RS} {t : Tok} {i n : Nat} {ks : List Nat}
theorem nextF_c {s : ByteArray} {f : Nat} : ∀ {k : Nat} {md : ByteArray} {cs : Nat} {t : Tok} {k' : Nat} {md' : ByteArray} {cs' : Nat}, nextF s f k md cs = .ok (t, k', md', cs') → t.c < 256 := by
  induction f with
  | zero => intro k md cs t k' md' cs' h; simp [nextF] at h
  | succ f ih =>
    intro k md cs t k' md' cs' h
    rw [nextF] at h
    split at h
    · cases h
    · rename_i t1 k1 h1
      have hc : t1.c < 256 := by
        unfold tokOf at h1
        split at h1
        · split at h1
          · split at h1
            · cases h1; exact byteAt_lt _ _
            · cases h1
          · cases h1; exact byteAt_lt _ _
        · cases h1; simp
      split at h
      · split at h
        · exact ih h
        · cases h; exact hc
      · cases h; exact hc
/-- At the head of a round. -/
structure HdI (s : ByteArray) (g0 : Nat) (r : RS) (ks : List Nat) : Prop where
  gd : Gd s r
  len : ks.length ≤ r.k
  lt : ∀ p ∈ ks, p < r.nds.length
  g0 : g0 ≤ r.g
/-- Behind the token, that is not an end. -/
structure MdJ (s : ByteArray) (g0 : Nat) (t : Tok) (r : RS) (ks : List Nat) : Prop where
  sz : r.k ≤ s.size
  nd : r.nds.length + 4 ≤ 1600 + 4 * r.k
  cl : r.cl.length = 10
  g : r.g ≤ 9
  len : ks.length + 1 ≤ r.k
  lt : ∀ p ∈ ks, p < r.nds.length
  g0 : g0 ≤ r.g
  c : t.c < 256
theorem mdJ_of {g0 k cs : Nat} {md : ByteArray} (h : HdI s g0 r ks) (hn : nextF s (s.size + 1) r.k r.md r.cs = .ok (t, k, md, cs)) (he : t.ends = false) : MdJ s g0 t { r with k := k, md := md, cs := cs } ks ∧ r.k < k := by
  obtain ⟨a, b, c⟩ := nextF_le hn h.gd.sz
  have hkd : t.kd ≠ 0 := fun e => by unfold Tok.ends at he; simp [e] at he
  have hk := c hkd
  have h1 := h.gd.nd
  have h2 := h.len
  exact ⟨⟨b, by show r.nds.length + 4 ≤ 1600 + 4 * k; omega, h.gd.cl, h.gd.g, by show ks.length + 1 ≤ k; omega, h.lt, h.g0, nextF_c hn⟩, hk⟩
theorem MdJ.gd {g0 : Nat} (h : MdJ s g0 t r ks) : Gd s r := ⟨h.sz, by have := h.nd; omega, h.cl, h.g⟩
theorem hdI_piece {g0 : Nat} (h : MdJ s g0 t r ks) (a : Aft s 0 0 r i r') : HdI s g0 r' (ks ++ [i]) := by
  have h1 := a.k
  have h2 := h.len
  have h3 := h.g0
  have h4 := a.g
  have h5 := a.nd
  refine ⟨⟨a.sz, by omega, a.cl, a.g9⟩, by simp; omega, fun p hp => ?_, by omega⟩
  simp only [List.mem_append, List.mem_singleton] at hp
  rcases hp with hp | hp
  · have := h.lt p hp; have := a.up; omega
  · rw [hp]; exact a.i
theorem hdI_many {g0 : Nat} {ks' : List Nat} (h : MdJ s g0 t r ks) (hm : manyF s t ks r = .ok (ks', r')) : HdI s g0 r' ks' ∧ r.k ≤ r'.k := by
  obtain ⟨a, b, c⟩ := manyF_stp hm h.sz h.lt
  have h1 := a.k
  have h2 := h.len
  have h3 := h.g0
  have h5 := a.nd
  have h6 := h.nd
  exact ⟨⟨⟨a.sz, by omega, by rw [a.cl]; exact h.cl, by rw [a.g]; exact h.g⟩, by omega, c, by rw [a.g]; exact h3⟩, h1⟩
theorem kpt_of {P : Tok → Bool → RS → Except (Nat × Nat) (Nat × RS)} (hs : s.size ≤ 400) (g0 : Nat) (hP : ∀ t r ks i r', MdJ s g0 t r ks → P t ks.isEmpty r = .ok (i, r') → Aft s 0 0 r i r') : Kpt P (HdI s g0) (MdJ s g0) s where
  head r ks h := ⟨h.gd.sz, by have := h.gd.nd; have := h.gd.sz; omega, by have := h.len; have := h.gd.sz; omega⟩
  next r ks t k md cs h hn he := mdJ_of h hn he
  mid t r ks h := ⟨h.sz, by have := h.nd; have := h.sz; omega, by have := h.len; have := h.sz; omega, fun p hp => h.lt p (List.mem_of_getLast? hp)⟩
  many t r ks ks' r' h hm := hdI_many h hm
  piece t r ks i r' h hp := ⟨hdI_piece h (hP _ _ _ _ _ h hp), (hP _ _ _ _ _ h hp).k⟩
theorem brF_aft {P : Tok → Bool → RS → Except (Nat × Nat) (Nat × RS)} {g0 : Nat} (hP : ∀ t r ks i r', MdJ s g0 t r ks → P t ks.isEmpty r = .ok (i, r') → Aft s 0 0 r i r') :
    ∀ (f : Nat) (r : RS) (ks : List Nat) (i : Nat) (t : Tok) (r' : RS), HdI s g0 r ks → brF P s f r ks = .ok (i, t, r') → Aft s 1 (room t) r i r' ∧ (t.kd ≠ 0 → r.k < r'.k) := by
  intro f
  induction f with
  | zero => intro r ks i t r' _ h; simp [brF] at h
  | succ f ih =>
    intro r ks i t r' hI h
    rw [brF] at h
    split at h
    · cases h
    · rename_i t1 k md cs hn
      obtain ⟨n1, n2, n3⟩ := nextF_le hn hI.gd.sz
      split at h
      · cases h
        obtain ⟨a, b⟩ := joinF_stp (s := s) (r := { r with k := k, md := md, cs := cs }) (ks := ks) 5 n2 hI.lt
        have e1 := a.nd
        have e2 := a.up
        have e3 := a.k
        have e4 := hI.gd.nd
        simp only at e1 e2 e3
        refine ⟨⟨by omega, a.sz, e2, ?_, by rw [a.cl]; exact hI.gd.cl, by rw [a.g]; exact Nat.le_refl _, by rw [a.g]; exact hI.gd.g, b⟩, fun h0 => by have := n3 h0; omega⟩
        unfold room
        split
        · omega
        · rename_i h0
          have := n3 h0
          omega
      · rename_i he
        obtain ⟨j1, j2⟩ := mdJ_of hI hn (Bool.eq_false_iff.2 he)
        split at h
        · split at h
          · cases h
          · rename_i ks' r1 hm
            obtain ⟨q1, q2⟩ := hdI_many j1 hm
            obtain ⟨st, _, _⟩ := manyF_stp hm j1.sz j1.lt
            obtain ⟨a, b⟩ := ih _ _ _ _ _ q1 h
            have e1 := a.k
            have e2 := st.up
            have e3 := a.up
            have e4 := a.g
            have e5 := st.g
            simp only at q2 e2 e5
            exact ⟨⟨by omega, a.sz, by omega, a.nd, a.cl, by omega, a.g9, a.i⟩, fun _ => by omega⟩
        · split at h
          · cases h
          · rename_i i1 r1 hp
            have p1 := hP _ _ _ _ _ j1 hp
            obtain ⟨a, b⟩ := ih _ _ _ _ _ (hdI_piece j1 p1) h
            have e1 := a.k
            have e2 := p1.up
            have e3 := a.up
            have e4 := a.g
            have e5 := p1.g
            have e6 := p1.k
            simp only at e2 e5 e6
            exact ⟨⟨by omega, a.sz, by omega, a.nd, a.cl, by omega, a.g9, a.i⟩, fun _ => by omega⟩
end
end Go.Proofs.YtmghdogoeehodaaGreatDoor
/- The knot: the contract of branches. -/
namespace Go.Proofs.YtmghdogoeehodaaGreatDoor
open Go.ChangeShapes Go.WideShapes Go.ChangeAt Go.RowKit
set_option linter.unusedVariables false
set_option linter.unusedSimpArgs false
/-- The branches of a pattern, or of a group; n: more than the groups that may still come. -/
def brsF (s last : ByteArray) : Nat → RS → Except (Nat × Nat) (Nat × Tok × RS)
  | 0, _ => .error (0, 0)
  | n + 1, r => brsL (fun r => brF (pieceF (groupF (brsF s last n)) s last) s (s.size + 1) r []) (s.size + 1) r []
section
variable {s last : ByteArray} {r r' : RS} {t : Tok} {i n : Nat} {ks : List Nat}
theorem brsL_aft {F : RS → Except (Nat × Nat) (Nat × Tok × RS)} {g0 : Nat} (hF : ∀ r ks i t r', HdI s g0 r ks → F r = .ok (i, t, r') → Aft s 1 (room t) r i r' ∧ (t.kd ≠ 0 → r.k < r'.k)) :
    ∀ (f : Nat) (r : RS) (ks : List Nat) (i : Nat) (t : Tok) (r' : RS), HdI s g0 r ks → brsL F f r ks = .ok (i, t, r') → Aft s 2 (room t) r i r' := by
  intro f
  induction f with
  | zero => intro r ks i t r' _ h; simp [brsL] at h
  | succ f ih =>
    intro r ks i t r' hI h
    rw [brsL] at h
    split at h
    · cases h
    · rename_i i1 t1 r1 h1
      obtain ⟨a, b⟩ := hF _ _ _ _ _ hI h1
      have e1 := a.nd
      have e2 := a.k
      have e3 := a.up
      have e4 := a.g
      have l0 := hI.len
      have g0' := hI.g0
      have hlt : ∀ p ∈ ks ++ [i1], p < r1.nds.length := fun p hp => by
        simp only [List.mem_append, List.mem_singleton] at hp
        rcases hp with hp | hp
        · have := hI.lt p hp; omega
        · rw [hp]; exact a.i
      split at h
      · rename_i hc
        have hk := b (by omega)
        have er : room t1 = 4 := by unfold room; rw [if_neg (by omega)]
        rw [er] at e1
        have c := ih _ _ _ _ _ (⟨⟨a.sz, by omega, a.cl, a.g9⟩, by simp; omega, hlt, by omega⟩ : HdI s g0 r1 (ks ++ [i1])) h
        have f1 := c.k
        have f2 := c.up
        have f3 := c.g
        exact ⟨by omega, c.sz, by omega, c.nd, c.cl, by omega, c.g9, c.i⟩
      · cases h
        obtain ⟨c, d⟩ := joinF_stp (s := s) (ks := ks ++ [i1]) 6 a.sz hlt
        have f1 := c.k
        have f2 := c.up
        have f3 := c.nd
        exact ⟨by omega, c.sz, by omega, by omega, by rw [c.cl]; exact a.cl, by rw [c.g]; exact e4, by rw [c.g]; exact a.g9, d⟩
theorem Gd.hd (h : Gd s r) : HdI s r.g r [] := ⟨h, by simp, fun p hp => by simp at hp, Nat.le_refl _⟩
theorem brsF_aft (hla : last.size ≤ 1100) : ∀ (n : Nat) (r : RS) (i : Nat) (t : Tok) (r' : RS), Gd s r → brsF s last n r = .ok (i, t, r') → Aft s 2 (room t) r i r'
  | 0, _, _, _, _, _, h => by cases h
  | n + 1, r, i, t, r', hd, h => by
    rw [brsF] at h
    refine brsL_aft (g0 := r.g) (fun r1 ks1 i1 t1 r2 h1 h2 => ?_) _ _ _ _ _ _ hd.hd h
    refine brF_aft (g0 := r.g) (fun t3 r3 ks3 i3 r4 h3 h4 => ?_) _ _ _ _ _ _ (⟨h1.gd, by simp, fun p hp => by simp at hp, h1.g0⟩ : HdI s r.g r1 []) h2
    exact pieceF_aft hla h3.sz h3.nd h3.cl h3.g (fun i5 r5 h5 => groupF_aft h3.gd (fun r6 i6 t6 r7 h6 h7 => brsF_aft hla n r6 i6 t6 r7 h6 h7) h5) h4
variable {B rb : Nat} {vn : Qv} {w : World} {m : Int}
theorem cell3_below {w' : World} (h3 : 3 < B) (hb : Below B w w') (hm : w.cell? ⟨3, 0, none⟩ = some (.int .i64 m)) : w'.cell? ⟨3, 0, none⟩ = some (.int .i64 m) := by
  rw [← hm]
  exact World.cell?_of_block (hb.block 3 h3)
theorem branches_ok (hs : s.size ≤ 400) (hla : last.size ≤ 1100) (h3 : 3 < B) : ∀ (n : Nat) (r : RS) (vn : Qv) (w : World), 9 - r.g < n → Gd s r → Rr B rb s last r vn w → w.cell? ⟨3, 0, none⟩ = some (.int .i64 m) →
    Calls Tryz.prog 23 #[.pointer (some ⟨rb, 0, none⟩)] w (RetB B rb s last vn w (brsF s last n r))
  | 0, _, _, _, hn, _, _, _ => by omega
  | n + 1, r, vn, w, hn, hd, h, hm => by
    have hPa : ∀ t r1 ks i r', MdJ s r.g t r1 ks → pieceF (groupF (brsF s last n)) s last t ks.isEmpty r1 = .ok (i, r') → Aft s 0 0 r1 i r' := fun t r1 ks i r' hJ hp =>
      pieceF_aft hla hJ.sz hJ.nd hJ.cl hJ.g (fun i5 r5 h5 => groupF_aft hJ.gd (fun r6 i6 t6 r7 h6 h7 => brsF_aft hla n r6 i6 t6 r7 h6 h7) h5) hp
    have hFa : ∀ r1 ks i t r', HdI s r.g r1 ks → brF (pieceF (groupF (brsF s last n)) s last) s (s.size + 1) r1 [] = .ok (i, t, r') → Aft s 1 (room t) r1 i r' ∧ (t.kd ≠ 0 → r1.k < r'.k) := fun r1 ks i t r' hI hb =>
      brF_aft hPa _ _ _ _ _ _ (⟨hI.gd, by simp, fun p hp => by simp at hp, hI.g0⟩ : HdI s r.g r1 []) hb
    refine branches_any (F := fun r => brF (pieceF (groupF (brsF s last n)) s last) s (s.size + 1) r []) (I := HdI s r.g) ⟨fun r1 ks hI => ⟨hI.gd.sz, by have := hI.len; have := hI.gd.sz; omega⟩, fun r1 ks i t r' hI hb => ?_⟩ h hs hd.hd (fun r1 ks vn1 x hI hR hB => ?_) _ rfl
    · obtain ⟨a, b⟩ := hFa _ _ _ _ _ hI hb
      have e1 := a.nd
      have e2 := a.sz
      have e3 := a.up
      have e4 := a.g
      have e5 := hI.len
      have e6 := hI.g0
      refine ⟨by omega, fun hc => ?_⟩
      have hk := b (by omega)
      have er : room t = 4 := by unfold room; rw [if_neg (by omega)]
      rw [er] at e1
      refine ⟨⟨⟨a.sz, by omega, a.cl, a.g9⟩, by simp; omega, fun p hp => ?_, by omega⟩, hk⟩
      simp only [List.mem_append, List.mem_singleton] at hp
      rcases hp with hp | hp
      · have := hI.lt p hp; omega
      · rw [hp]; exact a.i
    · have hmx := cell3_below h3 hB hm
      refine branch_any (kpt_of hs r.g hPa) hR hs (⟨hI.gd, by simp, fun p hp => by simp at hp, hI.g0⟩ : HdI s r.g r1 []) (fun t r2 ks2 vn2 y hJ hR2 hB2 => ?_) _ rfl
      have hmy := cell3_below h3 hB2 hmx
      obtain ⟨kd, c, pl⟩ := t
      refine piece_any (G := groupF (brsF s last n)) hR2 hs hla hJ.sz (by have := hJ.nd; have := hJ.sz; omega) hmy hJ.cl hJ.c (fun h40 z kz => ?_)
      have hRz := hR2.kp kz
      by_cases h9 : r2.g = 9
      · unfold groupF
        rw [if_pos h9]
        exact group_full hRz h9
      · have hgd := hJ.gd
        have hg := hJ.g
        have hg0 := hJ.g0
        have hgd1 : Gd s { r2 with g := r2.g + 1 } := ⟨hgd.sz, hgd.nd, hgd.cl, by show r2.g + 1 ≤ 9; omega⟩
        have hmz := cell3_below h3 (hR2.below (Adv.kp vn2 rb kz)) hmy
        refine group_any (BR := brsF s last n) hRz hg (fun x2 hx2 hbx => ?_) (fun i6 t6 r6 h6 => ?_)
        · exact branches_ok hs hla h3 n _ vn2 x2 (by show 9 - (r2.g + 1) < n; omega) hgd1 hx2 (cell3_below h3 hbx hmz)
        · have a := brsF_aft hla n _ _ _ _ hgd1 h6
          have e1 := a.nd
          have e2 := a.sz
          exact ⟨by omega, a.cl⟩
end
end Go.Proofs.YtmghdogoeehodaaGreatDoor
/- The reader's call pattern. -/
namespace Go.Proofs.YtmghdogoeehodaaGreatDoor
open Go.ChangeShapes Go.WideShapes Go.ChangeAt Go.RowKit
set_option linter.unusedVariables false
set_option linter.unusedSimpArgs false
def patF (s last : ByteArray) (r : RS) : Except (Nat × Nat) (Nat × RS) :=
  match brsF s last 10 r with
  | .error e => .error e
  | .ok (i, t, r') => if t.kd ≠ 0 then .error (31, t.pl) else if 400 < r'.nds.length then .error (33, 0) else .ok (i, r')
def RetP (B rb : Nat) (s last : ByteArray) (vn : Qv) (w : World) (R : Except (Nat × Nat) (Nat × RS)) (e : Ending) (w' : World) : Prop :=
  match R with
  | .ok (i, r') => ∃ vn', e = .returned (.agg #[vn'.v, .int .i64 i, .int .i64 r'.g, .int .u8 r'.cs]) ∧ Rr B rb s last r' vn' w' ∧ Adv rb vn w vn' w'
  | .error (n, p) => e = Wrong n p ∧ Er rb vn w w'
def PatBox (n : Nat) (v : Value) (i g c : Nat) (w : World) : Prop := w.heap[n]? = some (.cells #[v, .int .i64 i, .int .i64 g, .int .u8 c] 25 (0, 0))
theorem PatBox.cells {n : Nat} {v : Value} {i g c : Nat} {w : World} (h : PatBox n v i g c w) : w.cell? ⟨n, 0, none⟩ = some v ∧ w.cell? ⟨n, 1, none⟩ = some (.int .i64 i) ∧ w.cell? ⟨n, 2, none⟩ = some (.int .i64 g) ∧ w.cell? ⟨n, 3, none⟩ = some (.int .u8 c) := by
  unfold PatBox at h
  refine ⟨?_, ?_, ?_, ?_⟩ <;> simp [World.cell?, h]
theorem PatBox.fz {n : Nat} {v : Value} {i g c : Nat} {w : World} (h : PatBox n v i g c w) (j : Nat) : w.frozen? ⟨n, j, none⟩ = false := by unfold PatBox at h; simp [World.frozen?, h]
theorem PatBox.put {n : Nat} {v : Value} {i g c0 : Nat} {w : World} (h : PatBox n v i g c0 w) (a b c d : Value) : (w.setCell ⟨n, 0, none⟩ a).cell? ⟨n, 0, none⟩ = some a ∧ ((w.setCell ⟨n, 0, none⟩ a).setCell ⟨n, 1, none⟩ b).cell? ⟨n, 1, none⟩ = some b ∧ (((w.setCell ⟨n, 0, none⟩ a).setCell ⟨n, 1, none⟩ b).setCell ⟨n, 2, none⟩ c).cell? ⟨n, 2, none⟩ = some c ∧
    ((((w.setCell ⟨n, 0, none⟩ a).setCell ⟨n, 1, none⟩ b).setCell ⟨n, 2, none⟩ c).setCell ⟨n, 3, none⟩ d).cell? ⟨n, 3, none⟩ = some d := by
  have h0 := heap_setCell (off := 0) (v := a) h
  have h1 := heap_setCell (off := 1) (v := b) h0
  have h2 := heap_setCell (off := 2) (v := c) h1
  have h3 := heap_setCell (off := 3) (v := d) h2
  exact ⟨by simp only [World.cell?, h0]; rfl, by simp only [World.cell?, h1]; rfl, by simp only [World.cell?, h2]; rfl, by simp only [World.cell?, h3]; rfl⟩
def PCells (rb : Nat) (v : Value) (g cs : Nat) (w : World) : Prop := w.cell? ⟨rb, 4, none⟩ = some v ∧ w.cell? ⟨rb, 6, none⟩ = some (.int .i64 g) ∧ w.cell? ⟨rb, 3, none⟩ = some (.int .u8 cs)
section
variable {B rb : Nat} {s last : ByteArray} {r : RS} {vn : Qv} {w w1 : World} {m : Int}
theorem Rr.form (h : Rr B rb s last r vn w) : ∃ a cap, vn.v = .slice a r.nds.length cap ∧ r.nds.length ≤ cap ∧ cap ≤ maxLen := by
  obtain ⟨ns, h⟩ := h
  obtain ⟨a, cap, e, h1, h2⟩ := owns_form h.row
  rw [h.len] at e h1
  exact ⟨a, cap, e, h1, h2⟩
set_option maxHeartbeats 4000000 in
set_option maxRecDepth 100000 in
theorem pattern_any (hs : s.size ≤ 400) (hla : last.size ≤ 1100) (h3 : 3 < B) (hd : Gd s r) (h : Rr B rb s last r vn w) (hm : w.cell? ⟨3, 0, none⟩ = some (.int .i64 m)) :
    Calls Tryz.prog 14 #[.pointer (some ⟨rb, 0, none⟩)] w (RetP B rb s last vn w (patF s last r)) := by
  have HB : Hid (∀ x, Rr B rb s last r vn x → Below B w x → Calls Tryz.prog 23 #[.pointer (some ⟨rb, 0, none⟩)] x (RetB B rb s last vn x (brsF s last 10 r))) := fun x hx hb => branches_ok hs hla h3 10 r vn x (by omega) hd hx (cell3_below h3 hb hm)
  have HR : Hid (Rr B rb s last r vn w) := h
  have HAf : Hid _ := fun i t r' (e : brsF s last 10 r = .ok (i, t, r')) => brsF_aft hla 10 r i t r' hd e
  unfold patF
  clear h hm hd
  generalize brsF s last 10 r = R at *
  cases R with
  | error x =>
    obtain ⟨n, a⟩ := x
    go_enter Tryz.func14, Tryz.ntmps14
    go_wp2_with fail
    refine Calls.mono (HB.out _ (HR.out.kp (kp_alloc _ _)) (HR.out.below (Adv.kp vn rb (kp_alloc _ _)))) ?_
    rintro e w1 ⟨rfl, q⟩
    have H1 : Hid (Er rb vn w w1) := HR.out.ert (Adv.kp vn rb (kp_alloc w _)) q
    clear q
    unfold Wrong
    go_wp2_with fail
    exact ⟨rfl, rfl, H1.out⟩
  | ok x =>
    obtain ⟨i, t, r'⟩ := x
    obtain ⟨kd, c, pl⟩ := t
    simp only
    have HA' : Hid _ := HAf.out _ _ _ rfl
    by_cases h0 : kd = 0
    · rw [if_neg (by simpa using h0)]
      have e0 : ((kd : Int) != 0) = false := by simp; omega
      by_cases hb : 400 < r'.nds.length
      · rw [if_pos hb]
        have db : decide ((400 : Int) < (r'.nds.length : Int)) = true := decide_eq_true (by omega)
        have db2 : decide (400 < r'.nds.length) = true := decide_eq_true hb
        clear h0 hb
        go_enter Tryz.func14, Tryz.ntmps14
        go_wp2_with fail
        refine Calls.mono (HB.out _ (HR.out.kp (kp_alloc _ _)) (HR.out.below (Adv.kp vn rb (kp_alloc _ _)))) ?_
        rintro e w1 ⟨rfl, vn1, q1, q2⟩
        have HE : Hid (TokBox w1.heap.size ⟨kd, c, pl⟩ (w1.alloc (.cells #[.int .u8 kd, .int .u8 c, .int .i64 pl] 78))) := alloc_new w1 _
        obtain ⟨⟨u0, u1, u2⟩, _⟩ := HE.out.cells
        have H2 : Hid (Rr B rb s last r' vn1 (w1.alloc (.cells #[.int .u8 kd, .int .u8 c, .int .i64 pl] 78)) ∧ Adv rb vn w vn1 (w1.alloc (.cells #[.int .u8 kd, .int .u8 c, .int .i64 pl] 78))) := ⟨q1.kp (kp_alloc _ _), ((Adv.kp vn rb (kp_alloc w _)).trans q2).trans (Adv.kp vn1 rb (kp_alloc _ _))⟩
        obtain ⟨a4, p4, c4, l4, m4⟩ := H2.out.1.c4
        clear q1 q2
        unfold Tok.val
        simp only
        go_wp2_with fail
        exact ⟨rfl, rfl, HR.out.er H2.out.2⟩
      · rw [if_neg hb]
        have db : decide ((400 : Int) < (r'.nds.length : Int)) = false := decide_eq_false (by omega)
        have db2 : decide (400 < r'.nds.length) = false := decide_eq_false hb
        clear h0 hb
        go_enter Tryz.func14, Tryz.ntmps14
        go_wp2_with fail
        refine Calls.mono (HB.out _ (HR.out.kp (kp_alloc _ _)) (HR.out.below (Adv.kp vn rb (kp_alloc _ _)))) ?_
        rintro e w1 ⟨rfl, vn1, q1, q2⟩
        have HE : Hid (TokBox w1.heap.size ⟨kd, c, pl⟩ (w1.alloc (.cells #[.int .u8 kd, .int .u8 c, .int .i64 pl] 78))) := alloc_new w1 _
        obtain ⟨⟨u0, u1, u2⟩, _⟩ := HE.out.cells
        have H2 : Hid (Rr B rb s last r' vn1 (w1.alloc (.cells #[.int .u8 kd, .int .u8 c, .int .i64 pl] 78)) ∧ Adv rb vn w vn1 (w1.alloc (.cells #[.int .u8 kd, .int .u8 c, .int .i64 pl] 78))) := ⟨q1.kp (kp_alloc _ _), ((Adv.kp vn rb (kp_alloc w _)).trans q2).trans (Adv.kp vn1 rb (kp_alloc _ _))⟩
        obtain ⟨a4, p4, ev4, l4, m4⟩ := H2.out.1.form
        have c4 : (w1.alloc (.cells #[.int .u8 kd, .int .u8 c, .int .i64 pl] 78)).cell? ⟨rb, 4, none⟩ = some (.slice a4 r'.nds.length p4) := by rw [← ev4]; obtain ⟨ns, hr⟩ := H2.out.1; exact hr.c4
        have c3 := H2.out.1.scn.c3
        have c6 := H2.out.1.c6
        have HPB : Hid (PatBox w.heap.size (.slice none 0 0) 0 0 0 (w1.alloc (.cells #[.int .u8 kd, .int .u8 c, .int .i64 pl] 78))) := by
          have hb0 : PatBox w.heap.size (.slice none 0 0) 0 0 0 (w.alloc (.cells #[.slice none 0 0, .int .i64 0, .int .i64 0, .int .u8 0] 25)) := alloc_new w _
          unfold PatBox at hb0 ⊢
          have l := HR.out.lt
          have hl0 := (Array.getElem?_eq_some_iff.1 hb0).1
          show _ = _
          rw [(kp_alloc w1 (.cells #[.int .u8 kd, .int .u8 c, .int .i64 pl] 78)).block _ (Nat.lt_of_lt_of_le hl0 q2.fr.size), q2.fr.block _ hl0 (fun z => ?_)]
          · exact hb0
          · rcases z with z | z
            · omega
            · exact HR.out.own (Nat.le_refl _) z
        obtain ⟨y0, y1, y2, y3⟩ := HPB.out.cells
        have z0 := HPB.out.fz 0
        have z1 := HPB.out.fz 1
        have z2 := HPB.out.fz 2
        have z3 := HPB.out.fz 3
        have HEV : Hid (vn1.v = .slice a4 r'.nds.length p4) := ev4
        have HNW : Hid _ := HR.out.new (Nat.le_refl _)
        have HQ2 : Hid (vn1.ownBlock ≠ some w.heap.size ∧ ¬ vn1.kb w.heap.size) := by
          have hsz : w.heap.size < (w.alloc (.cells #[.slice none 0 0, .int .i64 0, .int .i64 0, .int .u8 0] 25)).heap.size := by rw [alloc_size]; omega
          refine ⟨?_, fun z => ?_⟩
          · rcases q2.own with e | e
            · rw [e]; exact HNW.out.1.2
            · intro z
              have := e _ z
              omega
          · rcases q2.kbs _ hsz z with z | z
            · exact HNW.out.2 z
            · cases z
        clear q1 q2 ev4
        unfold Tok.val
        simp only
        go_wp2_with fail
        have HX : Hid (Rr B rb s last r' vn1 (w1.alloc (.cells #[.int .u8 kd, .int .u8 c, .int .i64 pl] 78)).drew ∧ Adv rb vn w vn1 (w1.alloc (.cells #[.int .u8 kd, .int .u8 c, .int .i64 pl] 78)).drew ∧ PatBox w.heap.size (.slice none 0 0) 0 0 0 (w1.alloc (.cells #[.int .u8 kd, .int .u8 c, .int .i64 pl] 78)).drew ∧ PCells rb (.slice a4 r'.nds.length p4) r'.g r'.cs (w1.alloc (.cells #[.int .u8 kd, .int .u8 c, .int .i64 pl] 78)).drew ∧ PCells rb (.slice a4 r'.nds.length p4) r'.g r'.cs (((((w1.alloc (.cells #[.int .u8 kd, .int .u8 c, .int .i64 pl] 78)).drew.setCell ⟨w.heap.size, 0, none⟩ (.slice a4 r'.nds.length p4)).setCell ⟨w.heap.size, 1, none⟩ (.int .i64 i)).setCell ⟨w.heap.size, 2, none⟩ (.int .i64 r'.g)).setCell ⟨w.heap.size, 3, none⟩ (.int .u8 r'.cs))) := by
          have k := kp_drew (w1.alloc (.cells #[.int .u8 kd, .int .u8 c, .int .i64 pl] 78))
          have hR := H2.out.1.kp k
          have hp : PCells rb (.slice a4 r'.nds.length p4) r'.g r'.cs (w1.alloc (.cells #[.int .u8 kd, .int .u8 c, .int .i64 pl] 78)).drew := ⟨by rw [← HEV.out]; obtain ⟨ns, hr⟩ := hR; exact hr.c4, hR.c6, hR.scn.c3⟩
          refine ⟨hR, H2.out.2.trans (Adv.kp vn1 rb k), HPB.out, hp, ?_⟩
          have f := fr_four w.heap.size (.slice a4 r'.nds.length p4) (.int .i64 i) (.int .i64 r'.g) (.int .u8 r'.cs) (w1.alloc (.cells #[.int .u8 kd, .int .u8 c, .int .i64 pl] 78)).drew
          have e := f.block rb hR.lt (fun z => HNW.out.1.1 z.symm)
          obtain ⟨q1, q2, q3⟩ := hp
          exact ⟨by rw [← q1]; simp only [World.cell?, e], by rw [← q2]; simp only [World.cell?, e], by rw [← q3]; simp only [World.cell?, e]⟩
        have rl0 : ∀ w', PCells rb (.slice a4 r'.nds.length p4) r'.g r'.cs w' → w'.cell? ⟨rb, 4, none⟩ = some (.slice a4 r'.nds.length p4) := fun _ h => h.1
        have rl1 : ∀ w', PCells rb (.slice a4 r'.nds.length p4) r'.g r'.cs w' → w'.cell? ⟨rb, 6, none⟩ = some (.int .i64 r'.g) := fun _ h => h.2.1
        have rl2 : ∀ w', PCells rb (.slice a4 r'.nds.length p4) r'.g r'.cs w' → w'.cell? ⟨rb, 3, none⟩ = some (.int .u8 r'.cs) := fun _ h => h.2.2
        refine wp_region_noPanic ?_
        refine wp_region_held_drew (S := PCells rb (.slice a4 r'.nds.length p4) r'.g r'.cs) (by kernel_rfl) (HX.out.2.2.2.1) (fun hHeld => ?_)
        refine takeAt 0 (some 26) ?_ rfl rfl (by kernel_rfl) (by kernel_rfl) (by kernel_rfl) (fun _ _ _ h => h) (Or.inl ⟨by rfl, ?_⟩) hHeld ?_
        rotate_left
        · intro w hSw
          go_simp <;> with_reducible rfl
        try simp only [Act.put, List.setIfInBounds_toArray, List.set_cons_zero, List.set_cons_succ]
        refine takeAt 1 (some 27) ?_ rfl rfl (by kernel_rfl) (by kernel_rfl) (by kernel_rfl) (fun _ _ _ h => h) (Or.inl ⟨by rfl, ?_⟩) hHeld ?_
        rotate_left
        · intro w hSw
          go_simp <;> with_reducible rfl
        try simp only [Act.put, List.setIfInBounds_toArray, List.set_cons_zero, List.set_cons_succ]
        refine takeAt 2 (some 28) ?_ rfl rfl (by kernel_rfl) (by kernel_rfl) (by kernel_rfl) (fun _ _ _ h => h) (Or.inl ⟨by rfl, ?_⟩) hHeld ?_
        rotate_left
        · intro w hSw
          go_simp <;> with_reducible rfl
        try simp only [Act.put, List.setIfInBounds_toArray, List.set_cons_zero, List.set_cons_succ]
        refine takeAt 3 (some 29) ?_ rfl rfl (by kernel_rfl) (by kernel_rfl) (by kernel_rfl) (fun _ _ _ h => h) (Or.inl ⟨by rfl, ?_⟩) hHeld ?_
        rotate_left
        · intro w hSw
          go_simp <;> with_reducible rfl
        try simp only [Act.put, List.setIfInBounds_toArray, List.set_cons_zero, List.set_cons_succ]
        refine takeAt 4 (some 30) ?_ rfl rfl (by kernel_rfl) (by kernel_rfl) (by kernel_rfl) (fun _ _ _ h => h) (Or.inl ⟨by rfl, ?_⟩) hHeld ?_
        rotate_left
        · intro w hSw
          go_simp <;> with_reducible rfl
        try simp only [Act.put, List.setIfInBounds_toArray, List.set_cons_zero, List.set_cons_succ]
        refine takeAt 5 (some 31) ?_ rfl rfl (by kernel_rfl) (by kernel_rfl) (by kernel_rfl) (fun _ _ _ h => h) (Or.inl ⟨by rfl, ?_⟩) hHeld ?_
        rotate_left
        · intro w hSw
          go_simp <;> with_reducible rfl
        try simp only [Act.put, List.setIfInBounds_toArray, List.set_cons_zero, List.set_cons_succ]
        refine takeAt 6 (some 32) ?_ rfl rfl (by kernel_rfl) (by kernel_rfl) (by kernel_rfl) (fun _ _ _ h => h) (Or.inl ⟨by rfl, ?_⟩) hHeld ?_
        rotate_left
        · intro w hSw
          go_simp <;> with_reducible rfl
        try simp only [Act.put, List.setIfInBounds_toArray, List.set_cons_zero, List.set_cons_succ]
        refine takeAt 7 (some 33) ?_ rfl rfl (by kernel_rfl) (by kernel_rfl) (by kernel_rfl) (fun _ _ _ h => h) (Or.inl ⟨by rfl, ?_⟩) hHeld ?_
        rotate_left
        · intro w hSw
          go_simp <;> with_reducible rfl
        try simp only [Act.put, List.setIfInBounds_toArray, List.set_cons_zero, List.set_cons_succ]
        refine takeAt 8 (some 34) ?_ rfl rfl (by kernel_rfl) (by kernel_rfl) (by kernel_rfl) (fun _ _ _ h => h) (Or.inl ⟨by rfl, ?_⟩) hHeld ?_
        rotate_left
        · intro w hSw
          go_simp <;> with_reducible rfl
        try simp only [Act.put, List.setIfInBounds_toArray, List.set_cons_zero, List.set_cons_succ]
        refine takeAt 9 (some 35) ?_ rfl rfl (by kernel_rfl) (by kernel_rfl) (by kernel_rfl) (fun _ _ _ h => h) (Or.inl ⟨by rfl, ?_⟩) hHeld ?_
        rotate_left
        · intro w hSw
          go_simp <;> with_reducible rfl
        try simp only [Act.put, List.setIfInBounds_toArray, List.set_cons_zero, List.set_cons_succ]
        refine takeAt 10 (some 36) ?_ rfl rfl (by kernel_rfl) (by kernel_rfl) (by kernel_rfl) (fun _ _ _ h => h) (Or.inl ⟨by rfl, ?_⟩) hHeld ?_
        rotate_left
        · intro w hSw
          go_simp <;> with_reducible rfl
        try simp only [Act.put, List.setIfInBounds_toArray, List.set_cons_zero, List.set_cons_succ]
        refine takeAt 11 (some 37) ?_ rfl rfl (by kernel_rfl) (by kernel_rfl) (by kernel_rfl) (fun _ _ _ h => h) (Or.inl ⟨by rfl, ?_⟩) hHeld ?_
        rotate_left
        · intro w hSw
          go_simp <;> with_reducible rfl
        try simp only [Act.put, List.setIfInBounds_toArray, List.set_cons_zero, List.set_cons_succ]
        refine takeAt 12 (some 38) ?_ rfl rfl (by kernel_rfl) (by kernel_rfl) (by kernel_rfl) (fun _ _ _ h => h) (Or.inl ⟨by rfl, ?_⟩) hHeld ?_
        rotate_left
        · intro w hSw
          go_simp <;> with_reducible rfl
        try simp only [Act.put, List.setIfInBounds_toArray, List.set_cons_zero, List.set_cons_succ]
        refine takeAt 13 (some 39) ?_ rfl rfl (by kernel_rfl) (by kernel_rfl) (by kernel_rfl) (fun _ _ _ h => h) (Or.inl ⟨by rfl, ?_⟩) hHeld ?_
        rotate_left
        · intro w hSw
          go_simp <;> with_reducible rfl
        try simp only [Act.put, List.setIfInBounds_toArray, List.set_cons_zero, List.set_cons_succ]
        refine takeAt 14 (some 40) ?_ rfl rfl (by kernel_rfl) (by kernel_rfl) (by kernel_rfl) (fun _ _ _ h => h) (Or.inl ⟨by rfl, ?_⟩) hHeld ?_
        rotate_left
        · intro w hSw
          go_simp <;> with_reducible rfl
        try simp only [Act.put, List.setIfInBounds_toArray, List.set_cons_zero, List.set_cons_succ]
        refine takeAt 15 (some 41) ?_ rfl rfl (by kernel_rfl) (by kernel_rfl) (by kernel_rfl) (fun _ _ _ h => h) (Or.inl ⟨by rfl, ?_⟩) hHeld ?_
        rotate_left
        · intro w hSw
          go_simp <;> with_reducible rfl
        try simp only [Act.put, List.setIfInBounds_toArray, List.set_cons_zero, List.set_cons_succ]
        obtain ⟨d0, d1, d2, d3⟩ := HX.out.2.2.1.cells
        have g0 := HX.out.2.2.1.fz 0
        have g1 := HX.out.2.2.1.fz 1
        have g2 := HX.out.2.2.1.fz 2
        have g3 := HX.out.2.2.1.fz 3
        refine wpAnyH_ready (rs := [16]) (by kernel_rfl) (by simp) ?_
        refine AllReadyH.cons rfl (fun K hK => ?_) AllReadyH.nil
        go_simp
        refine hK.out _ _ (HX.out.2.2.2.2) (fun hHeld => ?_)
        clear hK K
        try simp only [Act.put, List.setIfInBounds_toArray, List.set_cons_zero, List.set_cons_succ]
        refine wpAnyH_done (by kernel_rfl) ?_ _
        refine NoPanic.normal ?_
        go_wp2_with fail
        obtain ⟨e0, e1, e2, e3⟩ := HX.out.2.2.1.put (.slice a4 r'.nds.length p4) (.int .i64 i) (.int .i64 r'.g) (.int .u8 r'.cs)
        have f := fr_four w.heap.size (.slice a4 r'.nds.length p4) (.int .i64 i) (.int .i64 r'.g) (.int .u8 r'.cs) (w1.alloc (.cells #[.int .u8 kd, .int .u8 c, .int .i64 pl] 78)).drew
        have HPo : RetP B rb s last vn w (.ok (i, r')) (.returned (.agg #[(.slice a4 r'.nds.length p4), .int .i64 i, .int .i64 r'.g, .int .u8 r'.cs])) (((((w1.alloc (.cells #[.int .u8 kd, .int .u8 c, .int .i64 pl] 78)).drew.setCell ⟨w.heap.size, 0, none⟩ (.slice a4 r'.nds.length p4)).setCell ⟨w.heap.size, 1, none⟩ (.int .i64 i)).setCell ⟨w.heap.size, 2, none⟩ (.int .i64 r'.g)).setCell ⟨w.heap.size, 3, none⟩ (.int .u8 r'.cs)) := ⟨vn1, by rw [HEV.out], HX.out.1.off (P := On w.heap.size) (fun j hj => by unfold On at hj; subst hj; exact ⟨⟨HNW.out.1.1, HQ2.out.1⟩, HQ2.out.2⟩) f, ⟨HX.out.2.1.fr.trans' f fun k hk q => by unfold On at q; omega, HX.out.2.1.own, HX.out.2.1.kbs⟩⟩
        have hPB : PatBox w.heap.size (.slice a4 r'.nds.length p4) i r'.g r'.cs (((((w1.alloc (.cells #[.int .u8 kd, .int .u8 c, .int .i64 pl] 78)).drew.setCell ⟨w.heap.size, 0, none⟩ (.slice a4 r'.nds.length p4)).setCell ⟨w.heap.size, 1, none⟩ (.int .i64 i)).setCell ⟨w.heap.size, 2, none⟩ (.int .i64 r'.g)).setCell ⟨w.heap.size, 3, none⟩ (.int .u8 r'.cs)) := by
          have h := HX.out.2.2.1
          have h0 := heap_setCell (off := 0) (v := (.slice a4 r'.nds.length p4)) h
          have h1 := heap_setCell (off := 1) (v := .int .i64 i) h0
          have h2 := heap_setCell (off := 2) (v := .int .i64 r'.g) h1
          exact heap_setCell (off := 3) (v := .int .u8 r'.cs) h2
        clear e0 e1 e2 e3 f
        have hE : (((((w1.alloc (.cells #[.int .u8 kd, .int .u8 c, .int .i64 pl] 78)).setCell ⟨w.heap.size, 0, none⟩ (.slice a4 r'.nds.length p4)).setCell ⟨w.heap.size, 1, none⟩ (.int .i64 i)).setCell ⟨w.heap.size, 2, none⟩ (.int .i64 r'.g)).setCell ⟨w.heap.size, 3, none⟩ (.int .u8 r'.cs)).drew = (((((w1.alloc (.cells #[.int .u8 kd, .int .u8 c, .int .i64 pl] 78)).drew.setCell ⟨w.heap.size, 0, none⟩ (.slice a4 r'.nds.length p4)).setCell ⟨w.heap.size, 1, none⟩ (.int .i64 i)).setCell ⟨w.heap.size, 2, none⟩ (.int .i64 r'.g)).setCell ⟨w.heap.size, 3, none⟩ (.int .u8 r'.cs)) := rfl
        rw [hE]
        clear hE
        generalize (((((w1.alloc (.cells #[.int .u8 kd, .int .u8 c, .int .i64 pl] 78)).drew.setCell ⟨w.heap.size, 0, none⟩ (.slice a4 r'.nds.length p4)).setCell ⟨w.heap.size, 1, none⟩ (.int .i64 i)).setCell ⟨w.heap.size, 2, none⟩ (.int .i64 r'.g)).setCell ⟨w.heap.size, 3, none⟩ (.int .u8 r'.cs)) = W9 at *
        obtain ⟨e0, e1, e2, e3⟩ := hPB.cells
        exact bodyPost_ret (v := .agg #[(.slice a4 r'.nds.length p4), .int .i64 i, .int .i64 r'.g, .int .u8 r'.cs]) (by simp [results, Tryz.results14, go_sem, e0, e1, e2, e3]) rfl HPo
    · rw [if_pos (by simpa using h0)]
      have e0 : ((kd : Int) != 0) = true := by simp; omega
      clear h0
      go_enter Tryz.func14, Tryz.ntmps14
      go_wp2_with fail
      refine Calls.mono (HB.out _ (HR.out.kp (kp_alloc _ _)) (HR.out.below (Adv.kp vn rb (kp_alloc _ _)))) ?_
      rintro e w1 ⟨rfl, vn1, q1, q2⟩
      have HE : Hid (TokBox w1.heap.size ⟨kd, c, pl⟩ (w1.alloc (.cells #[.int .u8 kd, .int .u8 c, .int .i64 pl] 78))) := alloc_new w1 _
      obtain ⟨⟨u0, u1, u2⟩, _⟩ := HE.out.cells
      have H2 : Hid (Adv rb vn w vn1 (w1.alloc (.cells #[.int .u8 kd, .int .u8 c, .int .i64 pl] 78))) := ((Adv.kp vn rb (kp_alloc w _)).trans q2).trans (Adv.kp vn1 rb (kp_alloc _ _))
      clear q1 q2
      unfold Tok.val
      simp only
      go_wp2_with fail
      exact ⟨rfl, rfl, HR.out.er H2.out⟩
end
end Go.Proofs.YtmghdogoeehodaaGreatDoor
/- A new reader. -/
namespace Go.Proofs.YtmghdogoeehodaaGreatDoor
open Go.ChangeShapes Go.WideShapes Go.ChangeAt Go.RowKit
set_option linter.unusedVariables false
set_option linter.unusedSimpArgs false
/-- A reader at the beginning. -/
def rs0 : RS := { k := 0, md := mdM, cs := 0, g := 0, cl := List.replicate 10 false, nds := [] }
theorem rs0_gd (s : ByteArray) : Gd s rs0 := ⟨Nat.zero_le _, by simp [rs0], by simp [rs0], by simp [rs0]⟩
theorem newReader_any (s last : ByteArray) (w : World) :
    Calls Tryz.prog 8 #[.string s, .string last] w fun e w' => ∃ rb, e = .returned (.pointer (some ⟨rb, 0, none⟩)) ∧ w.heap.size ≤ rb ∧ Kp w w' ∧ ∀ B, B ≤ w.heap.size → Rr B rb s last rs0 ⟨.slice none 0 0, fun _ => False⟩ w' := by
  go_enter Tryz.func8, Tryz.ntmps8
  go_wp2_with fail
  go_ret
  refine ⟨w.heap.size, rfl, Nat.le_refl _, kp_alloc _ _, fun B hB => ⟨[], hB, alloc_new w _, World.ownsRow_nil _ _ _ _, by simp [Qv.ownBlock, Value.ownBlock], rfl, fun x hx => by simp at hx, fun j hj => hj.elim⟩⟩
end Go.Proofs.YtmghdogoeehodaaGreatDoor
/- The reader's read: what its deferred closure does. -/
namespace Go.Proofs.YtmghdogoeehodaaGreatDoor
open Go.ChangeShapes Go.WideShapes Go.ChangeAt Go.RowKit
set_option linter.unusedVariables false
set_option linter.unusedSimpArgs false
set_option maxHeartbeats 2000000 in
set_option maxRecDepth 100000 in
theorem catch_idle (p e a : Addr) (w : World) :
    CallsD Tryz.prog 13 #[.pointer (some p), .pointer (some e), .pointer (some a)] .returning w fun e u' w' => e = .returned (.tuple #[]) ∧ u' = .returning ∧ w' = w := by
  refine callsD_of_wpS Tryz.func13 rfl fun c₀ cs hu => ?_
  apply wpS_seq
  apply wpS_region
  simp [wpOpsS, go_sem, recoverD, hu, Tryz.ntmps13, Exit.thenS]
  rw [show (#[.pointer (some p), .pointer (some e), .pointer (some a)] ++ (Array.replicate 14 undef).setIfInBounds 3 Value.nilIface : Array Value) = #[.pointer (some p), .pointer (some e), .pointer (some a), undef, undef, undef, .nilIface, undef, undef, undef, undef, undef, undef, undef, undef, undef, undef] from rfl]
  refine wpS_of_wp ?_
  go_wp2_with fail
  cases c₀
  simp_all [bodyPostS, results, Tryz.results13]
theorem fault_assert (n at_ : Nat) (w : World) : Sem.run Tryz.prog (Instr.typeAssert (Value.iface 61 (.agg #[.int .u16 n, .int .i64 at_])) 20 61 true) w = .ok (.tuple #[.agg #[.int .u16 n, .int .i64 at_], .bool true]) w := by kernel_rfl
def One (b : Nat) (v : Value) (t : TypeId) (w : World) : Prop := w.heap[b]? = some (.cells #[v] t (0, 0))
theorem One.cell {b : Nat} {v : Value} {t : TypeId} {w : World} (h : One b v t w) : w.cell? ⟨b, 0, none⟩ = some v ∧ w.frozen? ⟨b, 0, none⟩ = false := by
  unfold One at h
  exact ⟨by simp [World.cell?, h], by simp [World.frozen?, h]⟩
theorem One.set {b : Nat} {v : Value} {t : TypeId} {w : World} (h : One b v t w) (u : Value) : One b u t (w.setCell ⟨b, 0, none⟩ u) := by
  unfold One at h ⊢
  rw [heap_setCell h]; simp
def FltBox (b n a : Nat) (w : World) : Prop := w.heap[b]? = some (.cells #[.int .u16 n, .int .i64 a] 61 (0, 0))
theorem FltBox.cells {b n a : Nat} {w : World} (h : FltBox b n a w) : w.cell? ⟨b, 0, none⟩ = some (.int .u16 n) ∧ w.cell? ⟨b, 1, none⟩ = some (.int .i64 a) := by
  unfold FltBox at h
  exact ⟨by simp [World.cell?, h], by simp [World.cell?, h]⟩
/-- The three answers' boxes: the pattern, the error, the place. -/
def Ans (np ne na : Nat) (v : Value) (i g c e a : Nat) (w : World) : Prop := PatBox np v i g c w ∧ One ne (.int .u16 e) 27 w ∧ One na (.int .i64 a) 3 w
def On3 (np ne na k : Nat) : Prop := k = np ∨ k = ne ∨ k = na
set_option maxHeartbeats 2000000 in
set_option maxRecDepth 100000 in
theorem catch_fault (np ne na n at_ : Nat) (older : List PanicEntry) (w : World) {v0 : Value} {i0 g0 c0 e0 p0 : Nat} (h : Ans np ne na v0 i0 g0 c0 e0 p0 w) (h1 : np ≠ ne) (h2 : np ≠ na) (h3 : ne ≠ na) :
    CallsD Tryz.prog 13 #[.pointer (some ⟨np, 0, none⟩), .pointer (some ⟨ne, 0, none⟩), .pointer (some ⟨na, 0, none⟩)] (.panicking ({ v := .iface 61 (.agg #[.int .u16 n, .int .i64 at_]), recovered := false } :: older)) w fun e u' w' =>
      e = .returned (.tuple #[]) ∧ u' = .panicking ({ v := .iface 61 (.agg #[.int .u16 n, .int .i64 at_]), recovered := true } :: older) ∧ Fr (On3 np ne na) w w' ∧ Ans np ne na (.slice none 0 0) 0 0 0 n at_ w' := by
  have lp : np < w.heap.size := (Array.getElem?_eq_some_iff.1 h.1).1
  have le : ne < w.heap.size := (Array.getElem?_eq_some_iff.1 h.2.1).1
  have la : na < w.heap.size := (Array.getElem?_eq_some_iff.1 h.2.2).1
  have k0 : Kp w (w.alloc (.cells #[.int .u16 n, .int .i64 at_] 61)).drew := kp_trans (kp_alloc w _) (kp_drew _)
  have a0 : Ans np ne na v0 i0 g0 c0 e0 p0 (w.alloc (.cells #[.int .u16 n, .int .i64 at_] 61)).drew ∧ FltBox w.heap.size n at_ (w.alloc (.cells #[.int .u16 n, .int .i64 at_] 61)).drew := by
    refine ⟨⟨?_, ?_, ?_⟩, alloc_new w _⟩
    · have := h.1; unfold PatBox at *; rw [k0.block _ lp]; exact this
    · have := h.2.1; unfold One at *; rw [k0.block _ le]; exact this
    · have := h.2.2; unfold One at *; rw [k0.block _ la]; exact this
  have lx : w.heap.size < (w.alloc (.cells #[.int .u16 n, .int .i64 at_] 61)).drew.heap.size := (Array.getElem?_eq_some_iff.1 a0.2).1
  have f1 := fr_four np (.slice none 0 0) (.int .i64 0) (.int .i64 0) (.int .u8 0) (w.alloc (.cells #[.int .u16 n, .int .i64 at_] 61)).drew
  have a1 : Ans np ne na (.slice none 0 0) 0 0 0 e0 p0 (((((w.alloc (.cells #[.int .u16 n, .int .i64 at_] 61)).drew.setCell ⟨np, 0, none⟩ (.slice none 0 0)).setCell ⟨np, 1, none⟩ (.int .i64 0)).setCell ⟨np, 2, none⟩ (.int .i64 0)).setCell ⟨np, 3, none⟩ (.int .u8 0)) ∧ FltBox w.heap.size n at_ (((((w.alloc (.cells #[.int .u16 n, .int .i64 at_] 61)).drew.setCell ⟨np, 0, none⟩ (.slice none 0 0)).setCell ⟨np, 1, none⟩ (.int .i64 0)).setCell ⟨np, 2, none⟩ (.int .i64 0)).setCell ⟨np, 3, none⟩ (.int .u8 0)) := by
    refine ⟨⟨?_, ?_, ?_⟩, ?_⟩
    · have h := a0.1.1
      have q0 := heap_setCell (off := 0) (v := .slice none 0 0) h
      have q1 := heap_setCell (off := 1) (v := .int .i64 0) q0
      have q2 := heap_setCell (off := 2) (v := .int .i64 0) q1
      exact heap_setCell (off := 3) (v := .int .u8 0) q2
    · have := a0.1.2.1; unfold One at *; rw [f1.block _ (by omega) (by unfold On; omega)]; exact this
    · have := a0.1.2.2; unfold One at *; rw [f1.block _ (by omega) (by unfold On; omega)]; exact this
    · have := a0.2; unfold FltBox at *; rw [f1.block _ lx (by unfold On; omega)]; exact this
  have f2 := fr_set ne 0 (.int .u16 n) (((((w.alloc (.cells #[.int .u16 n, .int .i64 at_] 61)).drew.setCell ⟨np, 0, none⟩ (.slice none 0 0)).setCell ⟨np, 1, none⟩ (.int .i64 0)).setCell ⟨np, 2, none⟩ (.int .i64 0)).setCell ⟨np, 3, none⟩ (.int .u8 0))
  have s1 : (w.alloc (.cells #[.int .u16 n, .int .i64 at_] 61)).drew.heap.size ≤ (((((w.alloc (.cells #[.int .u16 n, .int .i64 at_] 61)).drew.setCell ⟨np, 0, none⟩ (.slice none 0 0)).setCell ⟨np, 1, none⟩ (.int .i64 0)).setCell ⟨np, 2, none⟩ (.int .i64 0)).setCell ⟨np, 3, none⟩ (.int .u8 0)).heap.size := f1.size
  have a2 : Ans np ne na (.slice none 0 0) 0 0 0 n p0 ((((((w.alloc (.cells #[.int .u16 n, .int .i64 at_] 61)).drew.setCell ⟨np, 0, none⟩ (.slice none 0 0)).setCell ⟨np, 1, none⟩ (.int .i64 0)).setCell ⟨np, 2, none⟩ (.int .i64 0)).setCell ⟨np, 3, none⟩ (.int .u8 0)).setCell ⟨ne, 0, none⟩ (.int .u16 n)) ∧ FltBox w.heap.size n at_ ((((((w.alloc (.cells #[.int .u16 n, .int .i64 at_] 61)).drew.setCell ⟨np, 0, none⟩ (.slice none 0 0)).setCell ⟨np, 1, none⟩ (.int .i64 0)).setCell ⟨np, 2, none⟩ (.int .i64 0)).setCell ⟨np, 3, none⟩ (.int .u8 0)).setCell ⟨ne, 0, none⟩ (.int .u16 n)) := by
    refine ⟨⟨?_, a1.1.2.1.set _, ?_⟩, ?_⟩
    · have := a1.1.1; unfold PatBox at *; rw [f2.block _ (by omega) (by unfold On; omega)]; exact this
    · have := a1.1.2.2; unfold One at *; rw [f2.block _ (by omega) (by unfold On; omega)]; exact this
    · have := a1.2; unfold FltBox at *; rw [f2.block _ (by omega) (by unfold On; omega)]; exact this
  have f3 := fr_set na 0 (.int .i64 at_) ((((((w.alloc (.cells #[.int .u16 n, .int .i64 at_] 61)).drew.setCell ⟨np, 0, none⟩ (.slice none 0 0)).setCell ⟨np, 1, none⟩ (.int .i64 0)).setCell ⟨np, 2, none⟩ (.int .i64 0)).setCell ⟨np, 3, none⟩ (.int .u8 0)).setCell ⟨ne, 0, none⟩ (.int .u16 n))
  have s2 : (((((w.alloc (.cells #[.int .u16 n, .int .i64 at_] 61)).drew.setCell ⟨np, 0, none⟩ (.slice none 0 0)).setCell ⟨np, 1, none⟩ (.int .i64 0)).setCell ⟨np, 2, none⟩ (.int .i64 0)).setCell ⟨np, 3, none⟩ (.int .u8 0)).heap.size ≤ ((((((w.alloc (.cells #[.int .u16 n, .int .i64 at_] 61)).drew.setCell ⟨np, 0, none⟩ (.slice none 0 0)).setCell ⟨np, 1, none⟩ (.int .i64 0)).setCell ⟨np, 2, none⟩ (.int .i64 0)).setCell ⟨np, 3, none⟩ (.int .u8 0)).setCell ⟨ne, 0, none⟩ (.int .u16 n)).heap.size := f2.size
  have a3 : Ans np ne na (.slice none 0 0) 0 0 0 n at_ (((((((w.alloc (.cells #[.int .u16 n, .int .i64 at_] 61)).drew.setCell ⟨np, 0, none⟩ (.slice none 0 0)).setCell ⟨np, 1, none⟩ (.int .i64 0)).setCell ⟨np, 2, none⟩ (.int .i64 0)).setCell ⟨np, 3, none⟩ (.int .u8 0)).setCell ⟨ne, 0, none⟩ (.int .u16 n)).setCell ⟨na, 0, none⟩ (.int .i64 at_)) ∧ FltBox w.heap.size n at_ (((((((w.alloc (.cells #[.int .u16 n, .int .i64 at_] 61)).drew.setCell ⟨np, 0, none⟩ (.slice none 0 0)).setCell ⟨np, 1, none⟩ (.int .i64 0)).setCell ⟨np, 2, none⟩ (.int .i64 0)).setCell ⟨np, 3, none⟩ (.int .u8 0)).setCell ⟨ne, 0, none⟩ (.int .u16 n)).setCell ⟨na, 0, none⟩ (.int .i64 at_)) := by
    refine ⟨⟨?_, ?_, a2.1.2.2.set _⟩, ?_⟩
    · have := a2.1.1; unfold PatBox at *; rw [f3.block _ (by omega) (by unfold On; omega)]; exact this
    · have := a2.1.2.1; unfold One at *; rw [f3.block _ (by omega) (by unfold On; omega)]; exact this
    · have := a2.2; unfold FltBox at *; rw [f3.block _ (by omega) (by unfold On; omega)]; exact this
  have HA0 : Hid (Ans np ne na v0 i0 g0 c0 e0 p0 (w.alloc (.cells #[.int .u16 n, .int .i64 at_] 61)).drew ∧ FltBox w.heap.size n at_ (w.alloc (.cells #[.int .u16 n, .int .i64 at_] 61)).drew) := a0
  have HA1 : Hid (Ans np ne na (.slice none 0 0) 0 0 0 e0 p0 (((((w.alloc (.cells #[.int .u16 n, .int .i64 at_] 61)).drew.setCell ⟨np, 0, none⟩ (.slice none 0 0)).setCell ⟨np, 1, none⟩ (.int .i64 0)).setCell ⟨np, 2, none⟩ (.int .i64 0)).setCell ⟨np, 3, none⟩ (.int .u8 0)) ∧ FltBox w.heap.size n at_ (((((w.alloc (.cells #[.int .u16 n, .int .i64 at_] 61)).drew.setCell ⟨np, 0, none⟩ (.slice none 0 0)).setCell ⟨np, 1, none⟩ (.int .i64 0)).setCell ⟨np, 2, none⟩ (.int .i64 0)).setCell ⟨np, 3, none⟩ (.int .u8 0))) := a1
  have HA2 : Hid (Ans np ne na (.slice none 0 0) 0 0 0 n p0 ((((((w.alloc (.cells #[.int .u16 n, .int .i64 at_] 61)).drew.setCell ⟨np, 0, none⟩ (.slice none 0 0)).setCell ⟨np, 1, none⟩ (.int .i64 0)).setCell ⟨np, 2, none⟩ (.int .i64 0)).setCell ⟨np, 3, none⟩ (.int .u8 0)).setCell ⟨ne, 0, none⟩ (.int .u16 n)) ∧ FltBox w.heap.size n at_ ((((((w.alloc (.cells #[.int .u16 n, .int .i64 at_] 61)).drew.setCell ⟨np, 0, none⟩ (.slice none 0 0)).setCell ⟨np, 1, none⟩ (.int .i64 0)).setCell ⟨np, 2, none⟩ (.int .i64 0)).setCell ⟨np, 3, none⟩ (.int .u8 0)).setCell ⟨ne, 0, none⟩ (.int .u16 n))) := a2
  have HA3 : Hid (Ans np ne na (.slice none 0 0) 0 0 0 n at_ (((((((w.alloc (.cells #[.int .u16 n, .int .i64 at_] 61)).drew.setCell ⟨np, 0, none⟩ (.slice none 0 0)).setCell ⟨np, 1, none⟩ (.int .i64 0)).setCell ⟨np, 2, none⟩ (.int .i64 0)).setCell ⟨np, 3, none⟩ (.int .u8 0)).setCell ⟨ne, 0, none⟩ (.int .u16 n)).setCell ⟨na, 0, none⟩ (.int .i64 at_)) ∧ FltBox w.heap.size n at_ (((((((w.alloc (.cells #[.int .u16 n, .int .i64 at_] 61)).drew.setCell ⟨np, 0, none⟩ (.slice none 0 0)).setCell ⟨np, 1, none⟩ (.int .i64 0)).setCell ⟨np, 2, none⟩ (.int .i64 0)).setCell ⟨np, 3, none⟩ (.int .u8 0)).setCell ⟨ne, 0, none⟩ (.int .u16 n)).setCell ⟨na, 0, none⟩ (.int .i64 at_)) ∧ Fr (On3 np ne na) w (((((((w.alloc (.cells #[.int .u16 n, .int .i64 at_] 61)).drew.setCell ⟨np, 0, none⟩ (.slice none 0 0)).setCell ⟨np, 1, none⟩ (.int .i64 0)).setCell ⟨np, 2, none⟩ (.int .i64 0)).setCell ⟨np, 3, none⟩ (.int .u8 0)).setCell ⟨ne, 0, none⟩ (.int .u16 n)).setCell ⟨na, 0, none⟩ (.int .i64 at_))) := by
    refine ⟨a3.1, a3.2, ?_⟩
    exact (((Fr.of_below k0).trans (f1.mono fun k _ q => .inl q)).trans (f2.mono fun k _ q => .inr (.inl q))).trans (f3.mono fun k _ q => .inr (.inr q))
  clear a0 a1 a2 a3 f1 f2 f3 k0 lx s1 s2 h
  refine callsD_of_wpS Tryz.func13 rfl fun c₀ cs hu => ?_
  apply wpS_seq
  apply wpS_region
  simp [wpOpsS, go_sem, recoverD, hu, Tryz.ntmps13, Exit.thenS]
  rw [show (#[.pointer (some ⟨np, 0, none⟩), .pointer (some ⟨ne, 0, none⟩), .pointer (some ⟨na, 0, none⟩)] ++ (Array.replicate 14 undef).setIfInBounds 3 (Value.iface 61 (.agg #[.int .u16 n, .int .i64 at_])) : Array Value) = #[.pointer (some ⟨np, 0, none⟩), .pointer (some ⟨ne, 0, none⟩), .pointer (some ⟨na, 0, none⟩), undef, undef, undef, Value.iface 61 (.agg #[.int .u16 n, .int .i64 at_]), undef, undef, undef, undef, undef, undef, undef, undef, undef, undef] from rfl]
  refine wpS_of_wp ?_
  have hTA := fun (w : World) => fault_assert n at_ w
  go_wp2_with fail
  have rl0 : ∀ w', FltBox w.heap.size n at_ w' → w'.cell? ⟨w.heap.size, 0, none⟩ = some (.int .u16 n) := fun _ h => h.cells.1
  have rl1 : ∀ w', FltBox w.heap.size n at_ w' → w'.cell? ⟨w.heap.size, 1, none⟩ = some (.int .i64 at_) := fun _ h => h.cells.2
  refine wp_region_noPanic ?_
  refine wp_region_held_drew (S := FltBox w.heap.size n at_) (by kernel_rfl) (HA0.out.2) (fun hHeld => ?_)
  generalize (w.alloc (.cells #[.int .u16 n, .int .i64 at_] 61)).drew = x0 at HA0 HA1 HA2 HA3 hHeld ⊢
  refine takeAt 0 (some 12) ?_ rfl rfl (by kernel_rfl) (by kernel_rfl) (by kernel_rfl) (fun _ _ _ h => h) (Or.inl ⟨by rfl, ?_⟩) hHeld ?_
  rotate_left
  · intro w hSw
    go_simp <;> with_reducible rfl
  try simp only [Act.put, List.setIfInBounds_toArray, List.set_cons_zero, List.set_cons_succ]
  refine takeAt 1 (some 13) ?_ rfl rfl (by kernel_rfl) (by kernel_rfl) (by kernel_rfl) (fun _ _ _ h => h) (Or.inl ⟨by rfl, ?_⟩) hHeld ?_
  rotate_left
  · intro w hSw
    go_simp <;> with_reducible rfl
  try simp only [Act.put, List.setIfInBounds_toArray, List.set_cons_zero, List.set_cons_succ]
  refine takeAt 2 (some 14) ?_ rfl rfl (by kernel_rfl) (by kernel_rfl) (by kernel_rfl) (fun _ _ _ h => h) (Or.inl ⟨by rfl, ?_⟩) hHeld ?_
  rotate_left
  · intro w hSw
    go_simp <;> with_reducible rfl
  try simp only [Act.put, List.setIfInBounds_toArray, List.set_cons_zero, List.set_cons_succ]
  refine takeAt 3 (some 15) ?_ rfl rfl (by kernel_rfl) (by kernel_rfl) (by kernel_rfl) (fun _ _ _ h => h) (Or.inl ⟨by rfl, ?_⟩) hHeld ?_
  rotate_left
  · intro w hSw
    go_simp <;> with_reducible rfl
  try simp only [Act.put, List.setIfInBounds_toArray, List.set_cons_zero, List.set_cons_succ]
  refine takeAt 4 (some 16) ?_ rfl rfl (by kernel_rfl) (by kernel_rfl) (by kernel_rfl) (fun _ _ _ h => h) (Or.inl ⟨by rfl, ?_⟩) hHeld ?_
  rotate_left
  · intro w hSw
    go_simp <;> with_reducible rfl
  try simp only [Act.put, List.setIfInBounds_toArray, List.set_cons_zero, List.set_cons_succ]
  obtain ⟨y0, y1, y2, y3⟩ := HA0.out.1.1.cells
  have g0 := HA0.out.1.1.fz 0
  have g1 := HA0.out.1.1.fz 1
  have g2 := HA0.out.1.1.fz 2
  have g3 := HA0.out.1.1.fz 3
  refine wpAnyH_ready (rs := [5]) (by kernel_rfl) (by simp) ?_
  refine AllReadyH.cons rfl (fun K hK => ?_) AllReadyH.nil
  go_simp
  refine hK.out _ _ (HA1.out.2) (fun hHeld => ?_)
  clear hK K
  try simp only [Act.put, List.setIfInBounds_toArray, List.set_cons_zero, List.set_cons_succ]
  generalize ((((x0.setCell ⟨np, 0, none⟩ (.slice none 0 0)).setCell ⟨np, 1, none⟩ (.int .i64 0)).setCell ⟨np, 2, none⟩ (.int .i64 0)).setCell ⟨np, 3, none⟩ (.int .u8 0)) = x1 at HA1 HA2 HA3 hHeld ⊢
  clear y0 y1 y2 y3 g0 g1 g2 g3
  obtain ⟨y0, g0⟩ := HA1.out.1.2.1.cell
  refine wpAnyH_ready (rs := [6]) (by kernel_rfl) (by simp) ?_
  refine AllReadyH.cons rfl (fun K hK => ?_) AllReadyH.nil
  go_simp
  refine hK.out _ _ (HA2.out.2) (fun hHeld => ?_)
  clear hK K
  try simp only [Act.put, List.setIfInBounds_toArray, List.set_cons_zero, List.set_cons_succ]
  generalize (x1.setCell ⟨ne, 0, none⟩ (.int .u16 n)) = x2 at HA2 HA3 hHeld ⊢
  clear y0 g0
  obtain ⟨y0, g0⟩ := HA2.out.1.2.2.cell
  refine wpAnyH_ready (rs := [7]) (by kernel_rfl) (by simp) ?_
  refine AllReadyH.cons rfl (fun K hK => ?_) AllReadyH.nil
  go_simp
  refine hK.out _ _ (HA3.out.2.1) (fun hHeld => ?_)
  clear hK K
  try simp only [Act.put, List.setIfInBounds_toArray, List.set_cons_zero, List.set_cons_succ]
  refine wpAnyH_done (by kernel_rfl) ?_ _
  refine NoPanic.normal ?_
  clear y0 g0 hHeld
  generalize (x2.setCell ⟨na, 0, none⟩ (.int .i64 at_)) = x3 at HA3 ⊢
  go_wp2_with fail
  have z := HA3.out
  cases c₀
  simp_all [bodyPostS, results, Tryz.results13]
end Go.Proofs.YtmghdogoeehodaaGreatDoor
/- Nodes in memory, as they are read: those of a pattern. -/
namespace Go.Proofs.YtmghdogoeehodaaGreatDoor
open Go.ChangeShapes Go.WideShapes Go.ChangeAt Go.RowKit
set_option linter.unusedVariables false
set_option linter.unusedSimpArgs false
/-- Any node, without its place in memory. -/
structure Nq where
  op : Nat
  c : Nat := 0
  set : S4 := zeroS
  mn : Int := 0
  mx : Int := 0
  lz : Bool := false
  n : Int := 0
  kids : List Int := []
def Nq.cells (d : Nq) (kv : Value) : List Value :=
  [.int .u8 d.op, .int .u8 d.c, .int .u64 d.set.a, .int .u64 d.set.b, .int .u64 d.set.c, .int .u64 d.set.d, .int .i64 d.mn, .int .i64 d.mx, .bool d.lz, .int .i64 d.n, kv]
def Nq.val (d : Nq) (kv : Value) : Value :=
  .agg #[.int .u8 d.op, .int .u8 d.c, .int .u64 d.set.a, .int .u64 d.set.b, .int .u64 d.set.c, .int .u64 d.set.d, .int .i64 d.mn, .int .i64 d.mx, .bool d.lz, .int .i64 d.n, kv]
def Nd.q (d : Nd) : Nq := ⟨d.op, d.c, d.set, d.mn, d.mx, d.lz, d.n, d.kids.map fun (k : Nat) => (k : Int)⟩
/-- A slice of numbers that can be read. -/
def Ks (w : World) (v : Value) (ks : List Int) : Prop :=
  ∃ a cap, v = .slice a ks.length cap ∧ ks.length ≤ cap ∧ cap ≤ maxLen ∧ ∀ i k, ks[i]? = some k → ∃ b o, a = some ⟨b, o, none⟩ ∧ w.cell? ⟨b, o + i, none⟩ = some (.int .i64 k)
/-- A slice of nodes that can be read. -/
def Pt (w : World) (v : Value) (L : List Nq) : Prop :=
  ∃ a cap, v = .slice a L.length cap ∧ L.length ≤ cap ∧ cap ≤ maxLen ∧ ∀ i d, L[i]? = some d → ∃ b o kv, a = some ⟨b, o, none⟩ ∧ (∀ j u, (d.cells kv)[j]? = some u → w.cell? ⟨b, o + i * 11 + j, none⟩ = some u) ∧ Ks w kv d.kids
section
variable {w w1 : World} {v : Value} {ks : List Int} {L : List Nq}
theorem kp_cell (k : Kp w w1) {a : Addr} {u : Value} (h : w.cell? a = some u) : w1.cell? a = some u := by
  rw [World.cell?_of_block (k.block _ ?_)]
  · exact h
  · rcases Nat.lt_or_ge a.block w.heap.size with q | q
    · exact q
    · simp [World.cell?, Array.getElem?_eq_none q] at h
theorem Ks.of (h : Ks w v ks) (k : ∀ (a : Addr) (u : Value), w.cell? a = some u → w1.cell? a = some u) : Ks w1 v ks := by
  obtain ⟨a, cap, h1, h2, h3, h4⟩ := h
  refine ⟨a, cap, h1, h2, h3, fun i x hx => ?_⟩
  obtain ⟨b, o, e, q⟩ := h4 i x hx
  exact ⟨b, o, e, k _ _ q⟩
theorem Pt.of (h : Pt w v L) (k : ∀ (a : Addr) (u : Value), w.cell? a = some u → w1.cell? a = some u) : Pt w1 v L := by
  obtain ⟨a, cap, h1, h2, h3, h4⟩ := h
  refine ⟨a, cap, h1, h2, h3, fun i x hx => ?_⟩
  obtain ⟨b, o, kv, e, q, z⟩ := h4 i x hx
  exact ⟨b, o, kv, e, fun j u hu => k _ _ (q j u hu), z.of k⟩
theorem Ks.kp (h : Ks w v ks) (k : Kp w w1) : Ks w1 v ks := h.of fun _ _ q => kp_cell k q
theorem Pt.kp (h : Pt w v L) (k : Kp w w1) : Pt w1 v L := h.of fun _ _ q => kp_cell k q
theorem krow_ks {B : Nat} {ks : List Nat} (h : KRow B w v ks) : Ks w v (ks.map fun (k : Nat) => (k : Int)) := by
  obtain ⟨a, cap, e, h1, h2⟩ := owns_form h
  refine ⟨a, cap, by simpa using e, by simpa using h1, h2, fun i x hx => ?_⟩
  rw [List.getElem?_map] at hx
  obtain ⟨k, hk, rfl⟩ := Option.map_eq_some_iff.1 hx
  rcases h.2 with ⟨_, q⟩ | ⟨b, cap', cur, e', hb, hg, q1, q2, q3, q4⟩
  · rw [List.eq_nil_of_length_eq_zero q] at hk; simp at hk
  · rw [e'] at e
    injection e with e _ _
    refine ⟨b, 0, e.symm, ?_⟩
    have : (nums ks)[i]? = some (.int .i64 k) := by simp [nums, hk]
    rw [cell_at hg, Nat.zero_add]
    rw [← q4, List.getElem?_take] at this
    split at this
    · rw [Array.getElem?_toList] at this; exact this
    · cases this
theorem Rr.pt {B rb : Nat} {s last : ByteArray} {r : RS} {vn : Qv} (h : Rr B rb s last r vn w) : Pt w vn.v (r.nds.map Nd.q) := by
  obtain ⟨ns, hr⟩ := h
  have hl := hr.len
  obtain ⟨a, cap, e, h1, h2⟩ := owns_form hr.row
  refine ⟨a, cap, by rw [e, List.length_map, hl], by rw [List.length_map, ← hl]; exact h1, h2, fun i x hx => ?_⟩
  rw [← hr.nds, List.map_map, List.getElem?_map] at hx
  obtain ⟨⟨d, kv⟩, hk, rfl⟩ := Option.map_eq_some_iff.1 hx
  rcases hr.row.2 with ⟨_, q⟩ | ⟨b, cap', cur, e', hb, hg, q1, q2, q3, q4⟩
  · rw [List.eq_nil_of_length_eq_zero q] at hk; simp at hk
  · rw [e'] at e
    injection e with e _ _
    refine ⟨b, 0, kv, e.symm, fun j u hu => ?_, krow_ks (hr.kids _ (List.mem_of_getElem? hk)).1⟩
    have hj : j < 11 := by
      have := (List.getElem?_eq_some_iff.1 hu).1
      simpa [Nq.cells] using this
    have hf := flat_get hk j hj
    rw [show (d.cells kv)[j]? = some u from hu] at hf
    rw [cell_at hg, Nat.zero_add]
    rw [← q4, List.getElem?_take] at hf
    split at hf
    · rw [Array.getElem?_toList] at hf; exact hf
    · cases hf
end
end Go.Proofs.YtmghdogoeehodaaGreatDoor
/- The reader's read, and Parse. -/
namespace Go.Proofs.YtmghdogoeehodaaGreatDoor
open Go.ChangeShapes Go.WideShapes Go.ChangeAt Go.RowKit
set_option linter.unusedVariables false
set_option linter.unusedSimpArgs false
/-- What read comes to. -/
def RetR (B rb : Nat) (s last : ByteArray) (vn : Qv) (w : World) (R : Except (Nat × Nat) (Nat × RS)) (e : Ending) (w' : World) : Prop :=
  match R with
  | .ok (i, r') => ∃ vn', e = .returned (.tuple #[.agg #[vn'.v, .int .i64 i, .int .i64 r'.g, .int .u8 r'.cs], .int .u16 0, .int .i64 0]) ∧ Rr B rb s last r' vn' w' ∧ Adv rb vn w vn' w'
  | .error (n, p) => e = .returned (.tuple #[.agg #[.slice none 0 0, .int .i64 0, .int .i64 0, .int .u8 0], .int .u16 n, .int .i64 p]) ∧ Er rb vn w w'
section
variable {B rb : Nat} {s last : ByteArray} {r : RS} {vn : Qv} {w w1 : World} {m : Int}
/-- The world behind read's three answers. -/
def w3 (w : World) : World := (((w.alloc (.cells #[.slice none 0 0, .int .i64 0, .int .i64 0, .int .u8 0] 25)).alloc (.cells #[.int .u16 0] 27)).alloc (.cells #[.int .i64 0] 3))
theorem w3_kp (w : World) : Kp w (w3 w) := kp_trans (kp_trans (kp_alloc w _) (kp_alloc _ _)) (kp_alloc _ _)
theorem w3_ans (w : World) : Ans w.heap.size (w.heap.size + 1) (w.heap.size + 1 + 1) (.slice none 0 0) 0 0 0 0 0 (w3 w) := by
  refine ⟨?_, ?_, ?_⟩
  · unfold PatBox w3
    rw [alloc_old _ _ _ (by simp only [alloc_size]; omega), alloc_old _ _ _ (by simp only [alloc_size]; omega)]
    exact alloc_new w _
  · unfold One w3
    rw [alloc_old _ _ _ (by simp only [alloc_size]; omega)]
    have := alloc_new (w.alloc (.cells #[.slice none 0 0, .int .i64 0, .int .i64 0, .int .u8 0] 25)) (.cells #[.int .u16 0] 27)
    rw [alloc_size] at this
    exact this
  · unfold One w3
    have := alloc_new ((w.alloc (.cells #[.slice none 0 0, .int .i64 0, .int .i64 0, .int .u8 0] 25)).alloc (.cells #[.int .u16 0] 27)) (.cells #[.int .i64 0] 3)
    rw [alloc_size, alloc_size] at this
    exact this
theorem Ans.fr {S : Nat → Prop} {np ne na : Nat} {v : Value} {i g c e a : Nat} (h : Ans np ne na v i g c e a w) (f : Fr S w w1) (h1 : ¬ S np) (h2 : ¬ S ne) (h3 : ¬ S na) : Ans np ne na v i g c e a w1 := by
  obtain ⟨q1, q2, q3⟩ := h
  refine ⟨?_, ?_, ?_⟩
  · have l := (Array.getElem?_eq_some_iff.1 q1).1
    unfold PatBox at *; rw [f.block _ l h1]; exact q1
  · have l := (Array.getElem?_eq_some_iff.1 q2).1
    unfold One at *; rw [f.block _ l h2]; exact q2
  · have l := (Array.getElem?_eq_some_iff.1 q3).1
    unfold One at *; rw [f.block _ l h3]; exact q3
theorem Rr.far (h : Rr B rb s last r vn w) {j : Nat} (hj : w.heap.size ≤ j) : ¬ Rb rb vn j := fun q => by
  have := h.new hj
  rcases q with q | q
  · exact this.1.1 q
  · exact this.1.2 q
set_option maxHeartbeats 4000000 in
set_option maxRecDepth 100000 in
theorem read_any (hs : s.size ≤ 400) (hla : last.size ≤ 1100) (h3 : 3 < B) (hd : Gd s r) (h : Rr B rb s last r vn w) (hm : w.cell? ⟨3, 0, none⟩ = some (.int .i64 m)) :
    Calls Tryz.prog 9 #[.pointer (some ⟨rb, 0, none⟩)] w (RetR B rb s last vn w (patF s last r)) := by
  have hmf : ∀ (fn : Fn) (first cap : Array Value) (w : World), (Instr.makeFunc fn first cap).run Tryz.prog w = .ok (.func fn first cap) w := fun _ _ _ _ => rfl
  have HP : Hid (Calls Tryz.prog 14 #[.pointer (some ⟨rb, 0, none⟩)] (w3 w) (RetP B rb s last vn (w3 w) (patF s last r))) := pattern_any hs hla h3 hd (h.kp (w3_kp w)) (kp_cell (w3_kp w) hm)
  have HR : Hid (Rr B rb s last r vn w) := h
  clear h hm hd
  cases hR : patF s last r with
  | error x =>
    obtain ⟨n, a⟩ := x
    rw [hR] at HP
    clear hR
    go_enter_defers Tryz.func9, Tryz.ntmps9
    go_wp2_with fail
    refine Calls.mono HP.out ?_
    rintro e w1 ⟨rfl, q⟩
    have A1 : Ans w.heap.size (w.heap.size + 1) (w.heap.size + 1 + 1) (.slice none 0 0) 0 0 0 0 0 w1 := (w3_ans w).fr q (HR.out.far (Nat.le_refl _)) (HR.out.far (by omega)) (HR.out.far (by omega))
    refine leaves_cons (f := 13) (args := #[.pointer (some ⟨w.heap.size, 0, none⟩), .pointer (some ⟨w.heap.size + 1, 0, none⟩), .pointer (some ⟨w.heap.size + 1 + 1, 0, none⟩)]) (by simp) (by simp [go_sem]) ?_
    refine (catch_fault _ _ _ n a [] w1 A1 (by omega) (by omega) (by omega)).mono ?_
    rintro e u' w2 ⟨rfl, rfl, f2, A2⟩
    obtain ⟨⟨y0, y1, y2, y3⟩, y4, y5⟩ := (⟨A2.1.cells, A2.2.1.cell.1, A2.2.2.cell.1⟩ : _ ∧ _ ∧ _)
    have HE : Hid (Er rb vn w w2) := ((Fr.of_below (w3_kp w)).trans q).trans' f2 fun k hk z => by
      rcases z with z | z | z <;> omega
    clear A1 A2 f2 q
    simp [Leaves, settle, results, Tryz.results9, go_sem, y0, y1, y2, y3, y4, y5]
    exact ⟨rfl, HE.out⟩
  | ok x =>
    obtain ⟨i, r'⟩ := x
    rw [hR] at HP
    clear hR
    go_enter_defers Tryz.func9, Tryz.ntmps9
    go_wp2_with fail
    refine Calls.mono HP.out ?_
    rintro e w1 ⟨vn1, rfl, q1, q2⟩
    have A1 : Ans w.heap.size (w.heap.size + 1) (w.heap.size + 1 + 1) (.slice none 0 0) 0 0 0 0 0 w1 := (w3_ans w).fr q2.fr (HR.out.far (Nat.le_refl _)) (HR.out.far (by omega)) (HR.out.far (by omega))
    have HQ : Hid (Rr B rb s last r' vn1 w1 ∧ Adv rb vn (w3 w) vn1 w1 ∧ Ans w.heap.size (w.heap.size + 1) (w.heap.size + 1 + 1) (.slice none 0 0) 0 0 0 0 0 w1) := ⟨q1, q2, A1⟩
    obtain ⟨y0, y1, y2, y3⟩ := A1.1.cells
    obtain ⟨y4, g4⟩ := A1.2.1.cell
    obtain ⟨y5, g5⟩ := A1.2.2.cell
    have g0 := A1.1.fz 0
    have g1 := A1.1.fz 1
    have g2 := A1.1.fz 2
    have g3 := A1.1.fz 3
    obtain ⟨av, cap, ev, _, _⟩ := q1.form
    have HV : Hid (vn1.v = .slice av r'.nds.length cap) := ev
    rw [ev]
    clear A1 q1 q2 ev
    go_wp2_with fail
    refine leaves_cons (f := 13) (args := #[.pointer (some ⟨w.heap.size, 0, none⟩), .pointer (some ⟨w.heap.size + 1, 0, none⟩), .pointer (some ⟨w.heap.size + 1 + 1, 0, none⟩)]) (by simp) (by simp [go_sem]) ?_
    refine (catch_idle _ _ _ _).mono ?_
    rintro e u' w2 ⟨rfl, rfl, rfl⟩
    obtain ⟨q1, q2, A1⟩ := HQ.out
    obtain ⟨e0, e1, e2, e3⟩ := A1.1.put (.slice av r'.nds.length cap) (.int .i64 i) (.int .i64 r'.g) (.int .u8 r'.cs)
    have f4 := fr_four w.heap.size (.slice av r'.nds.length cap) (.int .i64 i) (.int .i64 r'.g) (.int .u8 r'.cs) w1
    have o4 : One (w.heap.size + 1) (.int .u16 0) 27 ((((w1.setCell ⟨w.heap.size, 0, none⟩ (.slice av r'.nds.length cap)).setCell ⟨w.heap.size, 1, none⟩ (.int .i64 i)).setCell ⟨w.heap.size, 2, none⟩ (.int .i64 r'.g)).setCell ⟨w.heap.size, 3, none⟩ (.int .u8 r'.cs)) := by
      have l := (Array.getElem?_eq_some_iff.1 A1.2.1).1
      have := A1.2.1
      unfold One at *; rw [f4.block _ l (by unfold On; omega)]; exact this
    have o5 : One (w.heap.size + 1 + 1) (.int .i64 0) 3 (((((w1.setCell ⟨w.heap.size, 0, none⟩ (.slice av r'.nds.length cap)).setCell ⟨w.heap.size, 1, none⟩ (.int .i64 i)).setCell ⟨w.heap.size, 2, none⟩ (.int .i64 r'.g)).setCell ⟨w.heap.size, 3, none⟩ (.int .u8 r'.cs)).setCell ⟨w.heap.size + 1, 0, none⟩ (.int .u16 0)) := by
      have l := (Array.getElem?_eq_some_iff.1 A1.2.2).1
      have := A1.2.2
      have s4 := f4.size
      unfold One at *; rw [heap_setCell_other (by omega), f4.block _ l (by unfold On; omega)]; exact this
    have e4 : (((((w1.setCell ⟨w.heap.size, 0, none⟩ (.slice av r'.nds.length cap)).setCell ⟨w.heap.size, 1, none⟩ (.int .i64 i)).setCell ⟨w.heap.size, 2, none⟩ (.int .i64 r'.g)).setCell ⟨w.heap.size, 3, none⟩ (.int .u8 r'.cs)).setCell ⟨w.heap.size + 1, 0, none⟩ (.int .u16 0)).cell? ⟨w.heap.size + 1, 0, none⟩ = some (.int .u16 0) := (o4.set _).cell.1
    have e5 : ((((((w1.setCell ⟨w.heap.size, 0, none⟩ (.slice av r'.nds.length cap)).setCell ⟨w.heap.size, 1, none⟩ (.int .i64 i)).setCell ⟨w.heap.size, 2, none⟩ (.int .i64 r'.g)).setCell ⟨w.heap.size, 3, none⟩ (.int .u8 r'.cs)).setCell ⟨w.heap.size + 1, 0, none⟩ (.int .u16 0)).setCell ⟨w.heap.size + 1 + 1, 0, none⟩ (.int .i64 0)).cell? ⟨w.heap.size + 1 + 1, 0, none⟩ = some (.int .i64 0) := (o5.set _).cell.1
    clear f4 o4 o5
    have HF : Hid (Fr (On3 w.heap.size (w.heap.size + 1) (w.heap.size + 1 + 1)) w1 ((((((w1.setCell ⟨w.heap.size, 0, none⟩ (.slice av r'.nds.length cap)).setCell ⟨w.heap.size, 1, none⟩ (.int .i64 i)).setCell ⟨w.heap.size, 2, none⟩ (.int .i64 r'.g)).setCell ⟨w.heap.size, 3, none⟩ (.int .u8 r'.cs)).setCell ⟨w.heap.size + 1, 0, none⟩ (.int .u16 0)).setCell ⟨w.heap.size + 1 + 1, 0, none⟩ (.int .i64 0))) :=
      (((((Fr.setCell (.inl rfl) _).trans (Fr.setCell (.inl rfl) _)).trans (Fr.setCell (.inl rfl) _)).trans (Fr.setCell (.inl rfl) _)).trans (Fr.setCell (.inr (.inl rfl)) _)).trans (Fr.setCell (.inr (.inr rfl)) _)
    clear y0 y1 y2 y3 y4 y5 g0 g1 g2 g3 g4 g5
    simp [Leaves, settle, results, Tryz.results9, go_sem, e0, e1, e2, e3, e4, e5]
    have hs3 : (w3 w).heap.size = w.heap.size + 1 + 1 + 1 := by unfold w3; simp only [alloc_size]
    have hne : ∀ j, On3 w.heap.size (w.heap.size + 1) (w.heap.size + 1 + 1) j → (j ≠ rb ∧ vn1.ownBlock ≠ some j) ∧ ¬ vn1.kb j := fun j hj => by
      have hj1 : w.heap.size ≤ j ∧ j < (w3 w).heap.size := by
        rw [hs3]
        rcases hj with z | z | z <;> omega
      have hn := HR.out.new hj1.1
      refine ⟨⟨hn.1.1, fun z => ?_⟩, fun z => ?_⟩
      · rcases q2.own with y | y
        · rw [y] at z; exact hn.1.2 z
        · have := y j z; omega
      · rcases q2.kbs j hj1.2 z with y | y
        · exact hn.2 y
        · cases y
    have a := (Adv.kp vn rb (w3_kp w)).trans q2
    refine ⟨vn1, by rw [HV.out], q1.off hne HF.out, ⟨a.fr.trans' HF.out fun k hk z => by rcases z with z | z | z <;> omega, a.own, a.kbs⟩⟩
end
end Go.Proofs.YtmghdogoeehodaaGreatDoor
/- Parse. -/
namespace Go.Proofs.YtmghdogoeehodaaGreatDoor
open Go.ChangeShapes Go.WideShapes Go.ChangeAt Go.RowKit
set_option linter.unusedVariables false
set_option linter.unusedSimpArgs false
section
variable {B rb : Nat} {s last : ByteArray} {r : RS} {vn : Qv} {w w1 : World} {m : Int}
/-- The pattern in memory, or why not. -/
def parF (s last : ByteArray) : Except (Nat × Nat) (Nat × RS) := if 300 < s.size ∨ 1000 < last.size then .error (33, 0) else patF s last rs0
def RetA (w : World) (R : Except (Nat × Nat) (Nat × RS)) (e : Ending) (w' : World) : Prop :=
  match R with
  | .ok (i, r') => ∃ v, e = .returned (.tuple #[.agg #[v, .int .i64 i, .int .i64 r'.g, .int .u8 r'.cs], .int .u16 0, .int .i64 0]) ∧ Pt w' v (r'.nds.map Nd.q) ∧ Kp w w'
  | .error (n, p) => e = .returned (.tuple #[.agg #[.slice none 0 0, .int .i64 0, .int .i64 0, .int .u8 0], .int .u16 n, .int .i64 p]) ∧ Kp w w'
set_option maxHeartbeats 4000000 in
set_option maxRecDepth 100000 in
theorem parse_any (s last : ByteArray) (h3 : 3 < w.heap.size) (hm : w.cell? ⟨3, 0, none⟩ = some (.int .i64 m)) :
    Calls Tryz.prog 5 #[.string s, .string last] w (RetA w (parF s last)) := by
  unfold parF
  by_cases h1 : 300 < s.size
  · rw [if_pos (.inl h1)]
    have d1 : decide ((300 : Int) < (s.size : Int)) = true := decide_eq_true (by omega)
    clear hm
    go_enter Tryz.func5, Tryz.ntmps5
    go_wp2_with fail
    refine bodyPost_ret (v := .tuple #[.agg #[.slice none 0 0, .int .i64 0, .int .i64 0, .int .u8 0], .int .u16 33, .int .i64 0]) ?_ rfl ⟨rfl, ?_⟩
    · simp [results, Tryz.results5, go_sem]
    · exact kp_alloc _ _
  by_cases h2 : 1000 < last.size
  · rw [if_pos (.inr h2)]
    have d1 : decide ((300 : Int) < (s.size : Int)) = false := decide_eq_false (by omega)
    have d2 : decide ((1000 : Int) < (last.size : Int)) = true := decide_eq_true (by omega)
    clear hm
    go_enter Tryz.func5, Tryz.ntmps5
    go_wp2_with fail
    refine bodyPost_ret (v := .tuple #[.agg #[.slice none 0 0, .int .i64 0, .int .i64 0, .int .u8 0], .int .u16 33, .int .i64 0]) ?_ rfl ⟨rfl, ?_⟩
    · simp [results, Tryz.results5, go_sem]
    · exact kp_alloc _ _
  rw [if_neg (by omega)]
  have d1 : decide ((300 : Int) < (s.size : Int)) = false := decide_eq_false (by omega)
  have d2 : decide ((1000 : Int) < (last.size : Int)) = false := decide_eq_false (by omega)
  have HM : Hid (w.cell? ⟨3, 0, none⟩ = some (.int .i64 m) ∧ 3 < w.heap.size ∧ s.size ≤ 400 ∧ last.size ≤ 1100) := ⟨hm, h3, by omega, by omega⟩
  obtain ⟨R, hR⟩ : ∃ R, patF s last rs0 = R := ⟨_, rfl⟩
  rw [hR]
  have HPF : Hid (patF s last rs0 = R) := hR
  clear hm hR
  go_enter Tryz.func5, Tryz.ntmps5
  go_wp2_with fail
  refine Calls.mono (newReader_any s last _) ?_
  rintro e w1 ⟨rb, rfl, q1, q2, q3⟩
  have k1 : Kp w w1 := kp_trans (kp_alloc w _) q2
  have hB : w.heap.size + 1 ≤ (w.alloc (.cells #[.slice none 0 0, .int .i64 0, .int .i64 0, .int .u8 0] 25)).heap.size := by rw [alloc_size]; exact Nat.le_refl _
  have HR : Hid (Rr (w.heap.size + 1) rb s last rs0 ⟨.slice none 0 0, fun _ => False⟩ w1) := q3 _ hB
  have HX : Hid (PatBox w.heap.size (.slice none 0 0) 0 0 0 w1 ∧ Kp w w1) := by
    refine ⟨?_, k1⟩
    unfold PatBox
    rw [q2.block _ (by rw [alloc_size]; omega)]; exact alloc_new w _
  have HC : Hid (Calls Tryz.prog 9 #[.pointer (some ⟨rb, 0, none⟩)] w1 (RetR (w.heap.size + 1) rb s last ⟨.slice none 0 0, fun _ => False⟩ w1 (patF s last rs0))) := read_any HM.out.2.2.1 HM.out.2.2.2 (by have := HM.out.2.1; omega) (rs0_gd s) HR.out (kp_cell k1 HM.out.1)
  rw [HPF.out] at HC
  clear q1 q2 q3 k1 hB
  clear HPF
  cases R with
  | error x =>
    obtain ⟨n, a⟩ := x
    go_wp2_with fail
    refine Calls.mono HC.out ?_
    rintro e w2 ⟨rfl, q⟩
    have hge : w.heap.size + 1 ≤ rb := by obtain ⟨ns, z⟩ := HR.out; exact z.ge
    have hfar : ¬ Rb rb ⟨.slice none 0 0, fun _ => False⟩ w.heap.size := fun z => by
      rcases z with z | z
      · omega
      · cases z
    have hPB : PatBox w.heap.size (.slice none 0 0) 0 0 0 w2 := by
      have l := (Array.getElem?_eq_some_iff.1 HX.out.1).1
      have := HX.out.1
      unfold PatBox at *; rw [q.block _ l hfar]; exact this
    have hK : Kp w w2 := ((Fr.of_below (S := fun k => w.heap.size ≤ k) HX.out.2).trans' q fun k hk z => by
      rcases z with z | z
      · omega
      · cases z).below (Nat.le_refl _) fun k hk => by omega
    obtain ⟨y0, y1, y2, y3⟩ := hPB.cells
    have g0 := hPB.fz 0
    have g1 := hPB.fz 1
    have g2 := hPB.fz 2
    have g3 := hPB.fz 3
    have HZ : Hid (PatBox w.heap.size (.slice none 0 0) 0 0 0 w2 ∧ Kp w w2) := ⟨hPB, hK⟩
    clear hPB hK hfar hge
    clear q
    go_wp2_with fail
    obtain ⟨e0, e1, e2, e3⟩ := HZ.out.1.put (.slice none 0 0) (.int .i64 0) (.int .i64 0) (.int .u8 0)
    have HF := fr_four w.heap.size (.slice none 0 0) (.int .i64 0) (.int .i64 0) (.int .u8 0) w2
    have HKp : Hid (Kp w ((((w2.setCell ⟨w.heap.size, 0, none⟩ (.slice none 0 0)).setCell ⟨w.heap.size, 1, none⟩ (.int .i64 0)).setCell ⟨w.heap.size, 2, none⟩ (.int .i64 0)).setCell ⟨w.heap.size, 3, none⟩ (.int .u8 0))) := kp_new HZ.out.2 HF (Nat.le_refl _)
    clear HF y0 y1 y2 y3 g0 g1 g2 g3
    refine bodyPost_ret (v := .tuple #[.agg #[.slice none 0 0, .int .i64 0, .int .i64 0, .int .u8 0], .int .u16 n, .int .i64 a]) ?_ rfl ⟨rfl, HKp.out⟩
    · simp [results, Tryz.results5, go_sem] at e0 e1 e2 e3 ⊢
      simp [e0, e1, e2, e3, go_sem]
  | ok x =>
    obtain ⟨i, r'⟩ := x
    go_wp2_with fail
    refine Calls.mono HC.out ?_
    rintro e w2 ⟨vn', rfl, q1, q2⟩
    obtain ⟨av, cap, ev, _, _⟩ := q1.form
    have hpt := q1.pt
    rw [ev] at hpt
    rw [ev]
    have hnw : (w.heap.size ≠ rb ∧ vn'.ownBlock ≠ some w.heap.size) ∧ ¬ vn'.kb w.heap.size := by
      have hge : w.heap.size + 1 ≤ rb := by obtain ⟨ns, z⟩ := HR.out; exact z.ge
      have lw : w.heap.size < w1.heap.size := (Array.getElem?_eq_some_iff.1 HX.out.1).1
      refine ⟨⟨by omega, fun z => ?_⟩, fun z => ?_⟩
      · rcases q2.own with y | y
        · rw [y] at z; cases z
        · have := y _ z; omega
      · rcases q2.kbs _ lw z with y | y
        · exact y
        · cases y
    have HPT : Hid (Rr (w.heap.size + 1) rb s last r' vn' w2 ∧ vn'.v = .slice av r'.nds.length cap ∧ ((w.heap.size ≠ rb ∧ vn'.ownBlock ≠ some w.heap.size) ∧ ¬ vn'.kb w.heap.size)) := ⟨q1, ev, hnw⟩
    have hge : w.heap.size + 1 ≤ rb := by obtain ⟨ns, z⟩ := HR.out; exact z.ge
    have hfar : ¬ Rb rb ⟨.slice none 0 0, fun _ => False⟩ w.heap.size := fun z => by
      rcases z with z | z
      · omega
      · cases z
    have hPB : PatBox w.heap.size (.slice none 0 0) 0 0 0 w2 := by
      have l := (Array.getElem?_eq_some_iff.1 HX.out.1).1
      have := HX.out.1
      unfold PatBox at *; rw [q2.fr.block _ l hfar]; exact this
    have hK : Kp w w2 := ((Fr.of_below (S := fun k => w.heap.size ≤ k) HX.out.2).trans' q2.fr fun k hk z => by
      rcases z with z | z
      · omega
      · cases z).below (Nat.le_refl _) fun k hk => by omega
    obtain ⟨y0, y1, y2, y3⟩ := hPB.cells
    have g0 := hPB.fz 0
    have g1 := hPB.fz 1
    have g2 := hPB.fz 2
    have g3 := hPB.fz 3
    have HZ : Hid (PatBox w.heap.size (.slice none 0 0) 0 0 0 w2 ∧ Kp w w2) := ⟨hPB, hK⟩
    clear hPB hK hfar hge
    clear q1 q2 hpt hnw ev
    go_wp2_with fail
    obtain ⟨e0, e1, e2, e3⟩ := HZ.out.1.put (.slice av r'.nds.length cap) (.int .i64 i) (.int .i64 r'.g) (.int .u8 r'.cs)
    have HF := fr_four w.heap.size (.slice av r'.nds.length cap) (.int .i64 i) (.int .i64 r'.g) (.int .u8 r'.cs) w2
    have HKp : Hid (Kp w ((((w2.setCell ⟨w.heap.size, 0, none⟩ (.slice av r'.nds.length cap)).setCell ⟨w.heap.size, 1, none⟩ (.int .i64 i)).setCell ⟨w.heap.size, 2, none⟩ (.int .i64 r'.g)).setCell ⟨w.heap.size, 3, none⟩ (.int .u8 r'.cs))) := kp_new HZ.out.2 HF (Nat.le_refl _)
    clear HF y0 y1 y2 y3 g0 g1 g2 g3
    refine bodyPost_ret (v := .tuple #[.agg #[.slice av r'.nds.length cap, .int .i64 i, .int .i64 r'.g, .int .u8 r'.cs], .int .u16 0, .int .i64 0]) ?_ rfl ⟨_, rfl, ?_, HKp.out⟩
    · simp [results, Tryz.results5, go_sem] at e0 e1 e2 e3 ⊢
      simp [e0, e1, e2, e3, go_sem]
    · have f := fr_four w.heap.size (.slice av r'.nds.length cap) (.int .i64 i) (.int .i64 r'.g) (.int .u8 r'.cs) w2
      have := (HPT.out.1.off (P := On w.heap.size) (fun j hj => by unfold On at hj; subst hj; exact HPT.out.2.2) f).pt
      rw [HPT.out.2.1] at this
      exact this
end
end Go.Proofs.YtmghdogoeehodaaGreatDoor
/- What it is that nodes are a tree: as the checker says it. -/
namespace Go.Proofs.YtmghdogoeehodaaGreatDoor
open Go.ChangeShapes Go.WideShapes Go.ChangeAt Go.RowKit
set_option linter.unusedVariables false
set_option linter.unusedSimpArgs false
def isG (G n : Int) : Bool := decide (1 ≤ n ∧ n ≤ G)
def hasB (L : List Nq) (a : Int) : Bool := decide (0 ≤ a ∧ a < (L.length : Int))
def nodeAt (L : List Nq) (a : Int) : Nq := (L[a.toNat]?).getD { op := 0 }
def bytesB (L : List Nq) : List Int → Bool
  | [] => true
  | a :: r => hasB L a && (nodeAt L a).op == 2 && bytesB L r
def mayB (L : List Nq) (a : Int) : Bool := hasB L a && repB (nodeAt L a).op && (!((nodeAt L a).op == 5) || bytesB L (nodeAt L a).kids)
def timesB (d : Nq) : Bool := decide (0 ≤ d.mn ∧ d.mn ≤ 60 ∧ (d.mx < 0 ∨ (d.mn ≤ d.mx ∧ d.mx ≤ 60)))
def leafB (op : Nat) : Bool := op == 1 || op == 2 || op == 3 || op == 4 || op == 10 || op == 11 || op == 12 || op == 13 || op == 14 || op == 15
def fitB (L : List Nq) (G : Int) (d : Nq) : Bool :=
  if leafB d.op then d.kids.length == 0
  else if d.op = 5 ∨ d.op = 6 then decide (2 ≤ d.kids.length)
  else if d.op = 9 then d.kids.length == 0 && isG G d.n
  else if d.op = 8 then d.kids.length == 1 && isG G d.n
  else if d.op = 7 then d.kids.length == 1 && timesB d && mayB L (d.kids.headD 0)
  else false
def treeF (L : List Nq) (G : Int) : Nat → List Int → List Bool → Bool
  | 0, _, _ => false
  | n + 1, next, asked =>
    match next.getLast? with
    | none => true
    | some a => if hasB L a && !(asked.getD a.toNat false) && fitB L G (nodeAt L a) then treeF L G n (next.dropLast ++ (nodeAt L a).kids) (asked.set a.toNat true) else false
def soundF (L : List Nq) (root G : Int) : Bool := decide (0 ≤ G ∧ G ≤ 9) && treeF L G (L.length + 1) [root] (List.replicate L.length false)
theorem count_set {l : List Bool} {i : Nat} (h : l[i]? = some false) : (l.set i true).count false + 1 = l.count false := by
  induction l generalizing i with
  | nil => simp at h
  | cons x l ih =>
    cases i with
    | zero => simp only [List.getElem?_cons_zero, Option.some.injEq] at h; subst h; simp
    | succ i =>
      simp only [List.getElem?_cons_succ] at h
      have := ih h
      simp only [List.set_cons_succ, List.count_cons]
      omega
end Go.Proofs.YtmghdogoeehodaaGreatDoor
/- The checker's small calls. -/
namespace Go.Proofs.YtmghdogoeehodaaGreatDoor
open Go.ChangeShapes Go.WideShapes Go.ChangeAt Go.RowKit
set_option linter.unusedVariables false
set_option linter.unusedSimpArgs false
/-- A checker in memory. -/
def Ck (cb : Nat) (v : Value) (root G : Int) (cs : Nat) (av : Value) (w : World) : Prop := w.heap[cb]? = some (.cells #[v, .int .i64 root, .int .i64 G, .int .u8 cs, av] 44 (0, 0))
section
variable {cb : Nat} {v av : Value} {root G : Int} {cs : Nat} {w w1 : World} {L : List Nq}
theorem Ck.cells (h : Ck cb v root G cs av w) : w.cell? ⟨cb, 0, none⟩ = some v ∧ w.cell? ⟨cb, 1, none⟩ = some (.int .i64 root) ∧ w.cell? ⟨cb, 2, none⟩ = some (.int .i64 G) ∧ w.cell? ⟨cb, 4, none⟩ = some av := by
  unfold Ck at h
  refine ⟨?_, ?_, ?_, ?_⟩ <;> simp [World.cell?, h]
theorem Ck.lt (h : Ck cb v root G cs av w) : cb < w.heap.size := (Array.getElem?_eq_some_iff.1 h).1
theorem Ck.kp (h : Ck cb v root G cs av w) (k : Kp w w1) : Ck cb v root G cs av w1 := by have hl := h.lt; unfold Ck at *; rw [k.block _ hl]; exact h
theorem groups_any (h : Ck cb v root G cs av w) : Calls Tryz.prog 10 #[.pointer (some ⟨cb, 0, none⟩)] w fun e w' => e = .returned (.bool (decide (0 ≤ G ∧ G ≤ 9))) ∧ w' = w := by
  obtain ⟨c0, c1, c2, c4⟩ := h.cells
  clear h
  by_cases h1 : 0 ≤ G
  · by_cases h2 : G ≤ 9
    · rw [decide_eq_true (by omega : 0 ≤ G ∧ G ≤ 9)]
      go_enter Tryz.func10, Tryz.ntmps10
      go_wp2
      go_ret
      simp [h1, h2]
    · rw [decide_eq_false (by omega : ¬ (0 ≤ G ∧ G ≤ 9))]
      go_enter Tryz.func10, Tryz.ntmps10
      go_wp2
      go_ret
      simp [h1, h2]
  · rw [decide_eq_false (by omega : ¬ (0 ≤ G ∧ G ≤ 9))]
    go_enter Tryz.func10, Tryz.ntmps10
    go_wp2
    go_ret
    simp [h1]
theorem has_any (h : Ck cb v root G cs av w) (hv : Pt w v L) (a : Int) : Calls Tryz.prog 15 #[.pointer (some ⟨cb, 0, none⟩), .int .i64 a] w fun e w' => e = .returned (.bool (hasB L a)) ∧ w' = w := by
  obtain ⟨c0, c1, c2, c4⟩ := h.cells
  obtain ⟨ad, cap, rfl, _, _, _⟩ := hv
  clear h
  unfold hasB
  by_cases h1 : 0 ≤ a
  · by_cases h2 : a < (L.length : Int)
    · rw [decide_eq_true (by omega : 0 ≤ a ∧ a < (L.length : Int))]
      go_enter Tryz.func15, Tryz.ntmps15
      go_wp2
      go_ret
      simp [h1, h2]
    · rw [decide_eq_false (by omega : ¬ (0 ≤ a ∧ a < (L.length : Int)))]
      go_enter Tryz.func15, Tryz.ntmps15
      go_wp2
      go_ret
      simp [h1, h2]
  · rw [decide_eq_false (by omega : ¬ (0 ≤ a ∧ a < (L.length : Int)))]
    go_enter Tryz.func15, Tryz.ntmps15
    go_wp2
    go_ret
    simp [h1]
theorem isGroup_any (h : Ck cb v root G cs av w) (n : Int) : Calls Tryz.prog 24 #[.pointer (some ⟨cb, 0, none⟩), .int .i64 n] w fun e w' => e = .returned (.bool (isG G n)) ∧ w' = w := by
  obtain ⟨c0, c1, c2, c4⟩ := h.cells
  clear h
  unfold isG
  by_cases h1 : 1 ≤ n
  · by_cases h2 : n ≤ G
    · rw [decide_eq_true (by omega : 1 ≤ n ∧ n ≤ G)]
      go_enter Tryz.func24, Tryz.ntmps24
      go_wp2
      go_ret
      simp [h1, h2]
    · rw [decide_eq_false (by omega : ¬ (1 ≤ n ∧ n ≤ G))]
      go_enter Tryz.func24, Tryz.ntmps24
      go_wp2
      go_ret
      simp [h1, h2]
  · rw [decide_eq_false (by omega : ¬ (1 ≤ n ∧ n ≤ G))]
    go_enter Tryz.func24, Tryz.ntmps24
    go_wp2
    go_ret
    simp [h1]
theorem timesFit_any (d : Nq) (kv : Value) (w : World) : Calls Tryz.prog 25 #[d.val kv] w fun e w' => e = .returned (.bool (timesB d)) ∧ Kp w w' := by
  unfold Nq.val
  go_enter Tryz.func25, Tryz.ntmps25
  go_wp2_with fail
  all_goals
    go_ret
    refine ⟨?_, kp_alloc _ _⟩
    show Ending.returned (Value.bool _) = Ending.returned (Value.bool _)
    congr 2
    unfold timesB
    apply Bool.eq_iff_iff.2
    simp
    omega
end
end Go.Proofs.YtmghdogoeehodaaGreatDoor
/- The checker's areBytes and mayRepeat. -/
namespace Go.Proofs.YtmghdogoeehodaaGreatDoor
open Go.ChangeShapes Go.WideShapes Go.ChangeAt Go.RowKit
set_option linter.unusedVariables false
set_option linter.unusedSimpArgs false
section
variable {cb : Nat} {v av : Value} {root G : Int} {cs : Nat} {w w1 : World} {L : List Nq}
theorem Pt.node {a : Option Addr} {cap : Nat} (h : Pt w (.slice a L.length cap) L) {k : Int} (hk : hasB L k = true) : ∃ (n b o : Nat) (kv : Value), k = (n : Int) ∧ n < L.length ∧ a = some ⟨b, o, none⟩ ∧ (∀ j u, ((nodeAt L k).cells kv)[j]? = some u → w.cell? ⟨b, o + n * 11 + j, none⟩ = some u) ∧ Ks w kv (nodeAt L k).kids := by
  obtain ⟨h0, h1⟩ := of_decide_eq_true hk
  obtain ⟨n, rfl⟩ := Int.eq_ofNat_of_zero_le h0
  have hn : n < L.length := by omega
  obtain ⟨a', cap', e, _, _, q⟩ := h
  injection e with e _ _
  have hx : L[n]? = some (nodeAt L n) := by
    unfold nodeAt
    rw [Int.toNat_natCast, List.getElem?_eq_getElem hn]; rfl
  obtain ⟨b, o, kv, e1, e2, e3⟩ := q n _ hx
  exact ⟨n, b, o, kv, rfl, hn, by rw [e, e1], e2, e3⟩
theorem Ks.get {a : Option Addr} {ks : List Int} {n cap : Nat} (h : Ks w (.slice a n cap) ks) {i : Nat} (hi : i < n) : ∃ b o k, a = some ⟨b, o, none⟩ ∧ ks[i]? = some k ∧ w.cell? ⟨b, o + i, none⟩ = some (.int .i64 k) := by
  obtain ⟨a', cap', e, _, _, q⟩ := h
  injection e with e e2 _
  have hx : ks[i]? = some (ks[i]'(by omega)) := List.getElem?_eq_getElem (by omega)
  obtain ⟨b, o, e1, q1⟩ := q i _ hx
  exact ⟨b, o, _, by rw [e, e1], hx, q1⟩
set_option maxHeartbeats 2000000 in
theorem areBytes_any (h : Ck cb v root G cs av w) (hv : Pt w v L) {kv : Value} {ks : List Int} (hk : Ks w kv ks) : Calls Tryz.prog 36 #[.pointer (some ⟨cb, 0, none⟩), kv] w fun e w' => e = .returned (.bool (bytesB L ks)) ∧ Kp w w' := by
  obtain ⟨ad, cap, rfl, _, kc, hks⟩ := id hk
  obtain ⟨va, vc, rfl, _, vcc, hns⟩ := id hv
  have HCk : Hid (Ck cb (.slice va L.length vc) root G cs av w ∧ Pt w (.slice va L.length vc) L ∧ Ks w (.slice ad ks.length cap) ks) := ⟨h, hv, hk⟩
  obtain ⟨X, hX⟩ : ∃ X, bytesB L ks = X := ⟨_, rfl⟩
  rw [hX]
  have HX : Hid (bytesB L ks = X) := hX
  obtain ⟨N, hN⟩ : ∃ N, ks.length = N := ⟨_, rfl⟩
  have HN : Hid (ks.length = N) := hN
  rw [hN] at HCk ⊢
  unfold maxLen at kc vcc
  clear h hks hX hns hk hv
  go_enter Tryz.func36, Tryz.ntmps36
  go_wp2_with fail
  go_loopw [9] (fun v9 wr => ∃ i : Nat, i ≤ N ∧ v9 = .int .i64 i ∧ bytesB L (ks.drop i) = X ∧ Kp w wr) (fun v9 _ => N - (intOf v9).toNat)
  case atStart => exact ⟨0, Nat.zero_le _, rfl, HX.out, Below.refl _ _⟩
  case round =>
    obtain ⟨i, hi, rfl, hb, hk⟩ := hrel
    have HK : Hid (Kp w wr ∧ bytesB L (ks.drop i) = X) := ⟨hk, hb⟩
    clear hb hk
    by_cases hlt : i < N
    · have dl : decide ((i : Int) < (N : Int)) = true := decide_eq_true (by omega)
      obtain ⟨b, o, k, rfl, hk, hc⟩ := (HCk.out.2.2.kp HK.out.1).get hlt
      have hdrop : ks.drop i = k :: ks.drop (i + 1) := by
        rw [List.drop_eq_getElem_cons (by rw [HN.out]; exact hlt)]
        rw [List.getElem?_eq_getElem (by rw [HN.out]; exact hlt), Option.some.injEq] at hk
        rw [hk]
      have HB : Hid (bytesB L (k :: ks.drop (i + 1)) = X) := by rw [← hdrop]; exact HK.out.2
      clear hdrop hk
      go_wp2_with fail
      refine Calls.mono (has_any (HCk.out.1.kp HK.out.1) (HCk.out.2.1.kp HK.out.1) k) ?_
      rintro e w' ⟨rfl, rfl⟩
      cases hh : hasB L k with
      | false =>
        have hX : X = false := by rw [← HB.out]; simp [bytesB, hh]
        subst hX
        go_wp2_with fail
        go_ret
        exact ⟨rfl, HK.out.1⟩
      | true =>
        obtain ⟨n, nb, no, kv, rfl, hn, rfl, hcs, hks⟩ := (HCk.out.2.1.kp HK.out.1).node hh
        have c0 : w'.cell? ⟨nb, no + n * 11, none⟩ = some (.int .u8 (nodeAt L n).op) := hcs 0 _ rfl
        obtain ⟨ck0, _⟩ := (HCk.out.1.kp HK.out.1).cells
        have HH : Hid (hasB L n = true) := hh
        obtain ⟨op, hop⟩ : ∃ op, (nodeAt L n).op = op := ⟨_, rfl⟩
        have HOp : Hid ((nodeAt L n).op = op) := hop
        rw [hop] at c0
        clear hcs hks hh hop
        by_cases h2 : op = 2
        · subst h2
          have hB2 : bytesB L (ks.drop (i + 1)) = X := by rw [← HB.out]; simp [bytesB, HH.out, HOp.out]
          have HB2 : Hid _ := hB2
          clear hB2
          go_wp2_with fail
          go_roundw
          case rel => exact ⟨i + 1, by omega, by go_num, HB2.out, HK.out.1⟩
          case measure =>
            simp only [intOf]
            omega
        · have d2 : ((op : Int) == 2) = false := by simp; omega
          have hX : X = false := by rw [← HB.out]; simp [bytesB, HH.out, HOp.out, h2]
          subst hX
          clear h2
          go_wp2_with fail
          go_ret
          exact ⟨rfl, HK.out.1⟩
    · have hiN : i = N := by omega
      subst hiN
      have hX : X = true := by rw [← HK.out.2, List.drop_eq_nil_of_le (Nat.le_of_eq HN.out)]; rfl
      subst hX
      go_wp2_with fail
      go_ret
      exact ⟨rfl, HK.out.1⟩
set_option maxHeartbeats 2000000 in
theorem mayRepeat_any (h : Ck cb v root G cs av w) (hv : Pt w v L) (a : Int) : Calls Tryz.prog 26 #[.pointer (some ⟨cb, 0, none⟩), .int .i64 a] w fun e w' => e = .returned (.bool (mayB L a)) ∧ Kp w w' := by
  obtain ⟨va, vc, rfl, _, vcc, hns⟩ := id hv
  have HCk : Hid (Ck cb (.slice va L.length vc) root G cs av w ∧ Pt w (.slice va L.length vc) L) := ⟨h, hv⟩
  unfold maxLen at vcc
  obtain ⟨ck0, _⟩ := h.cells
  unfold mayB
  clear h hns hv
  cases hh : hasB L a with
  | false =>
    go_enter Tryz.func26, Tryz.ntmps26
    go_wp2_with fail
    refine Calls.mono (has_any HCk.out.1 HCk.out.2 a) ?_
    rintro e w' ⟨rfl, rfl⟩
    rw [hh]
    go_wp2_with fail
    go_ret
    exact ⟨rfl, Below.refl _ _⟩
  | true =>
    obtain ⟨n, nb, no, kv, rfl, hn, rfl, hcs, hks⟩ := HCk.out.2.node hh
    have c0 : w.cell? ⟨nb, no + n * 11, none⟩ = some (.int .u8 (nodeAt L n).op) := hcs 0 _ rfl
    have c10 : w.cell? ⟨nb, no + n * 11 + 10, none⟩ = some kv := hcs 10 _ rfl
    have HKs : Hid (Ks w kv (nodeAt L n).kids) := hks
    obtain ⟨ka, kc, rfl, _, _, _⟩ := id hks
    obtain ⟨op, hop⟩ : ∃ op, (nodeAt L n).op = op := ⟨_, rfl⟩
    rw [hop] at c0 ⊢
    have HH : Hid (hasB L n = true) := hh
    clear hcs hks hh hop
    cases hr : repB op with
    | false =>
      go_enter Tryz.func26, Tryz.ntmps26
      go_wp2_with fail
      refine Calls.mono (has_any HCk.out.1 HCk.out.2 n) ?_
      rintro e w' ⟨rfl, rfl⟩
      rw [HH.out]
      go_wp2_with fail
      refine Calls.mono (repeats_any op _) ?_
      rintro e w1 ⟨rfl, rfl⟩
      rw [hr]
      go_wp2_with fail
      go_ret
      exact ⟨rfl, Below.refl _ _⟩
    | true =>
      by_cases h5 : op = 5
      · subst h5
        go_enter Tryz.func26, Tryz.ntmps26
        go_wp2_with fail
        refine Calls.mono (has_any HCk.out.1 HCk.out.2 n) ?_
        rintro e w' ⟨rfl, rfl⟩
        rw [HH.out]
        go_wp2_with fail
        refine Calls.mono (repeats_any 5 _) ?_
        rintro e w1 ⟨rfl, rfl⟩
        rw [hr]
        go_wp2_with fail
        refine Calls.mono (areBytes_any HCk.out.1 HCk.out.2 HKs.out) ?_
        rintro e w2 ⟨rfl, q⟩
        go_wp2_with fail
        go_ret
        exact ⟨by simp, q⟩
      · have d5 : ((op : Int) == 5) = false := by simp; omega
        have e5 : (op == 5) = false := by simp; omega
        rw [e5]
        go_enter Tryz.func26, Tryz.ntmps26
        go_wp2_with fail
        refine Calls.mono (has_any HCk.out.1 HCk.out.2 n) ?_
        rintro e w' ⟨rfl, rfl⟩
        rw [HH.out]
        go_wp2_with fail
        refine Calls.mono (repeats_any op _) ?_
        rintro e w1 ⟨rfl, rfl⟩
        rw [hr]
        go_wp2_with fail
        go_ret
        exact ⟨rfl, Below.refl _ _⟩
end
end Go.Proofs.YtmghdogoeehodaaGreatDoor
/- The checker's fits. -/
namespace Go.Proofs.YtmghdogoeehodaaGreatDoor
open Go.ChangeShapes Go.WideShapes Go.ChangeAt Go.RowKit
set_option linter.unusedVariables false
set_option linter.unusedSimpArgs false
section
variable {cb : Nat} {v av : Value} {root G : Int} {cs : Nat} {w w1 : World} {L : List Nq}
set_option maxHeartbeats 4000000 in
theorem fits_any (h : Ck cb v root G cs av w) (hv : Pt w v L) (d : Nq) {kv : Value} (hk : Ks w kv d.kids) : Calls Tryz.prog 16 #[.pointer (some ⟨cb, 0, none⟩), d.val kv] w fun e w' => e = .returned (.bool (fitB L G d)) ∧ Kp w w' := by
  have HCk : Hid (Ck cb v root G cs av w ∧ Pt w v L ∧ Ks w kv d.kids) := ⟨h, hv, hk⟩
  obtain ⟨ka, kc, rfl, _, kcc, _⟩ := id hk
  obtain ⟨op, hop⟩ : ∃ op, d.op = op := ⟨_, rfl⟩
  obtain ⟨N, hN⟩ : ∃ N, d.kids.length = N := ⟨_, rfl⟩
  have HOp : Hid (d.op = op ∧ d.kids.length = N) := ⟨hop, hN⟩
  unfold Nq.val
  rw [hop, hN]
  rw [hN] at HCk
  obtain ⟨X, hX⟩ : ∃ X, fitB L G d = X := ⟨_, rfl⟩
  rw [hX]
  have HX : Hid (fitB L G d = X) := hX
  clear h hv hk hop hN hX
  by_cases h1 : op = 1
  · subst h1
    go_enter Tryz.func16, Tryz.ntmps16
    go_wp2_with fail
    go_ret
    refine ⟨?_, kp_alloc _ _⟩
    show Ending.returned (Value.bool _) = Ending.returned (Value.bool _)
    congr 2
    rw [← HX.out]
    unfold fitB leafB
    rw [HOp.out.1, HOp.out.2]
    apply Bool.eq_iff_iff.2
    simp
    try omega
  have d1 : ((op : Int) == 1) = false := by simp; omega
  by_cases h2 : op = 2
  · subst h2
    go_enter Tryz.func16, Tryz.ntmps16
    go_wp2_with fail
    go_ret
    refine ⟨?_, kp_alloc _ _⟩
    show Ending.returned (Value.bool _) = Ending.returned (Value.bool _)
    congr 2
    rw [← HX.out]
    unfold fitB leafB
    rw [HOp.out.1, HOp.out.2]
    apply Bool.eq_iff_iff.2
    simp
    try omega
  have d2 : ((op : Int) == 2) = false := by simp; omega
  by_cases h3 : op = 3
  · subst h3
    go_enter Tryz.func16, Tryz.ntmps16
    go_wp2_with fail
    go_ret
    refine ⟨?_, kp_alloc _ _⟩
    show Ending.returned (Value.bool _) = Ending.returned (Value.bool _)
    congr 2
    rw [← HX.out]
    unfold fitB leafB
    rw [HOp.out.1, HOp.out.2]
    apply Bool.eq_iff_iff.2
    simp
    try omega
  have d3 : ((op : Int) == 3) = false := by simp; omega
  by_cases h4 : op = 4
  · subst h4
    go_enter Tryz.func16, Tryz.ntmps16
    go_wp2_with fail
    go_ret
    refine ⟨?_, kp_alloc _ _⟩
    show Ending.returned (Value.bool _) = Ending.returned (Value.bool _)
    congr 2
    rw [← HX.out]
    unfold fitB leafB
    rw [HOp.out.1, HOp.out.2]
    apply Bool.eq_iff_iff.2
    simp
    try omega
  have d4 : ((op : Int) == 4) = false := by simp; omega
  by_cases h10 : op = 10
  · subst h10
    go_enter Tryz.func16, Tryz.ntmps16
    go_wp2_with fail
    go_ret
    refine ⟨?_, kp_alloc _ _⟩
    show Ending.returned (Value.bool _) = Ending.returned (Value.bool _)
    congr 2
    rw [← HX.out]
    unfold fitB leafB
    rw [HOp.out.1, HOp.out.2]
    apply Bool.eq_iff_iff.2
    simp
    try omega
  have d10 : ((op : Int) == 10) = false := by simp; omega
  by_cases h11 : op = 11
  · subst h11
    go_enter Tryz.func16, Tryz.ntmps16
    go_wp2_with fail
    go_ret
    refine ⟨?_, kp_alloc _ _⟩
    show Ending.returned (Value.bool _) = Ending.returned (Value.bool _)
    congr 2
    rw [← HX.out]
    unfold fitB leafB
    rw [HOp.out.1, HOp.out.2]
    apply Bool.eq_iff_iff.2
    simp
    try omega
  have d11 : ((op : Int) == 11) = false := by simp; omega
  by_cases h12 : op = 12
  · subst h12
    go_enter Tryz.func16, Tryz.ntmps16
    go_wp2_with fail
    go_ret
    refine ⟨?_, kp_alloc _ _⟩
    show Ending.returned (Value.bool _) = Ending.returned (Value.bool _)
    congr 2
    rw [← HX.out]
    unfold fitB leafB
    rw [HOp.out.1, HOp.out.2]
    apply Bool.eq_iff_iff.2
    simp
    try omega
  have d12 : ((op : Int) == 12) = false := by simp; omega
  by_cases h13 : op = 13
  · subst h13
    go_enter Tryz.func16, Tryz.ntmps16
    go_wp2_with fail
    go_ret
    refine ⟨?_, kp_alloc _ _⟩
    show Ending.returned (Value.bool _) = Ending.returned (Value.bool _)
    congr 2
    rw [← HX.out]
    unfold fitB leafB
    rw [HOp.out.1, HOp.out.2]
    apply Bool.eq_iff_iff.2
    simp
    try omega
  have d13 : ((op : Int) == 13) = false := by simp; omega
  by_cases h14 : op = 14
  · subst h14
    go_enter Tryz.func16, Tryz.ntmps16
    go_wp2_with fail
    go_ret
    refine ⟨?_, kp_alloc _ _⟩
    show Ending.returned (Value.bool _) = Ending.returned (Value.bool _)
    congr 2
    rw [← HX.out]
    unfold fitB leafB
    rw [HOp.out.1, HOp.out.2]
    apply Bool.eq_iff_iff.2
    simp
    try omega
  have d14 : ((op : Int) == 14) = false := by simp; omega
  by_cases h15 : op = 15
  · subst h15
    go_enter Tryz.func16, Tryz.ntmps16
    go_wp2_with fail
    go_ret
    refine ⟨?_, kp_alloc _ _⟩
    show Ending.returned (Value.bool _) = Ending.returned (Value.bool _)
    congr 2
    rw [← HX.out]
    unfold fitB leafB
    rw [HOp.out.1, HOp.out.2]
    apply Bool.eq_iff_iff.2
    simp
    try omega
  have d15 : ((op : Int) == 15) = false := by simp; omega
  by_cases h5 : op = 5
  · subst h5
    go_enter Tryz.func16, Tryz.ntmps16
    go_wp2_with fail
    go_ret
    refine ⟨?_, kp_alloc _ _⟩
    show Ending.returned (Value.bool _) = Ending.returned (Value.bool _)
    congr 2
    rw [← HX.out]
    unfold fitB leafB
    rw [HOp.out.1, HOp.out.2]
    apply Bool.eq_iff_iff.2
    simp
    try omega
  have d5 : ((op : Int) == 5) = false := by simp; omega
  by_cases h6 : op = 6
  · subst h6
    go_enter Tryz.func16, Tryz.ntmps16
    go_wp2_with fail
    go_ret
    refine ⟨?_, kp_alloc _ _⟩
    show Ending.returned (Value.bool _) = Ending.returned (Value.bool _)
    congr 2
    rw [← HX.out]
    unfold fitB leafB
    rw [HOp.out.1, HOp.out.2]
    apply Bool.eq_iff_iff.2
    simp
    try omega
  have d6 : ((op : Int) == 6) = false := by simp; omega
  by_cases h9 : op = 9
  · subst h9
    by_cases hN : N = 0
    · subst hN
      go_enter Tryz.func16, Tryz.ntmps16
      go_wp2_with fail
      refine Calls.mono (isGroup_any (HCk.out.1.kp (kp_alloc _ _)) d.n) ?_
      rintro e w1 ⟨rfl, rfl⟩
      go_wp2_with fail
      go_ret
      refine ⟨?_, kp_alloc _ _⟩
      show Ending.returned (Value.bool _) = Ending.returned (Value.bool _)
      congr 2
      rw [← HX.out]
      unfold fitB leafB
      rw [HOp.out.1, HOp.out.2]
      simp
    · have dN : ((N : Int) == 0) = false := by simp; omega
      go_enter Tryz.func16, Tryz.ntmps16
      go_wp2_with fail
      go_ret
      refine ⟨?_, kp_alloc _ _⟩
      show Ending.returned (Value.bool _) = Ending.returned (Value.bool _)
      congr 2
      rw [← HX.out]
      unfold fitB leafB
      rw [HOp.out.1, HOp.out.2]
      simp [hN]
  have d9 : ((op : Int) == 9) = false := by simp; omega
  by_cases h8 : op = 8
  · subst h8
    by_cases hN : N = 1
    · subst hN
      go_enter Tryz.func16, Tryz.ntmps16
      go_wp2_with fail
      refine Calls.mono (isGroup_any (HCk.out.1.kp (kp_alloc _ _)) d.n) ?_
      rintro e w1 ⟨rfl, rfl⟩
      go_wp2_with fail
      go_ret
      refine ⟨?_, kp_alloc _ _⟩
      show Ending.returned (Value.bool _) = Ending.returned (Value.bool _)
      congr 2
      rw [← HX.out]
      unfold fitB leafB
      rw [HOp.out.1, HOp.out.2]
      simp
    · have dN : ((N : Int) == 1) = false := by simp; omega
      go_enter Tryz.func16, Tryz.ntmps16
      go_wp2_with fail
      go_ret
      refine ⟨?_, kp_alloc _ _⟩
      show Ending.returned (Value.bool _) = Ending.returned (Value.bool _)
      congr 2
      rw [← HX.out]
      unfold fitB leafB
      rw [HOp.out.1, HOp.out.2]
      simp [hN]
  have d8 : ((op : Int) == 8) = false := by simp; omega
  by_cases h7 : op = 7
  · subst h7
    by_cases hN : N = 1
    · subst hN
      have HV : Hid (∀ x, Calls Tryz.prog 25 #[d.val (.slice ka 1 kc)] x fun e w' => e = .returned (.bool (timesB d)) ∧ Kp x w') := fun x => timesFit_any d _ x
      unfold Nq.val at HV
      rw [HOp.out.1] at HV
      obtain ⟨kb, ko, k0, rfl, hk0, hc0⟩ := HCk.out.2.2.get (i := 0) (by omega)
      have hkd : d.kids.headD 0 = k0 := by
        cases hd : d.kids with
        | nil => rw [hd] at hk0; simp at hk0
        | cons x r => rw [hd] at hk0; simpa using hk0
      have HKD : Hid (d.kids.headD 0 = k0) := hkd
      have HC0 : Hid (w.cell? ⟨kb, ko, none⟩ = some (.int .i64 k0)) := hc0
      clear hkd hk0 hc0
      cases hT : timesB d with
      | false =>
        go_enter Tryz.func16, Tryz.ntmps16
        go_wp2_with fail
        refine Calls.mono (HV.out _) ?_
        rintro e w1 ⟨rfl, q⟩
        rw [hT]
        have HK : Hid (Kp w w1) := kp_trans (kp_alloc _ _) q
        clear q
        go_wp2_with fail
        go_ret
        refine ⟨?_, HK.out⟩
        show Ending.returned (Value.bool _) = Ending.returned (Value.bool _)
        congr 2
        rw [← HX.out]
        unfold fitB leafB
        rw [HOp.out.1, HOp.out.2]
        simp [hT]
      | true =>
        go_enter Tryz.func16, Tryz.ntmps16
        go_wp2_with fail
        refine Calls.mono (HV.out _) ?_
        rintro e w1 ⟨rfl, q⟩
        rw [hT]
        have HK : Hid (Kp w w1) := kp_trans (kp_alloc _ _) q
        have c10 : w1.cell? ⟨w.heap.size, 10, none⟩ = some (.slice (some ⟨kb, ko, none⟩) 1 kc) := by
          refine kp_cell q ?_
          rw [cell_at (alloc_new w _)]; rfl
        have ck : w1.cell? ⟨kb, ko, none⟩ = some (.int .i64 k0) := kp_cell HK.out HC0.out
        clear q
        go_wp2_with fail
        refine Calls.mono (mayRepeat_any (HCk.out.1.kp HK.out) (HCk.out.2.1.kp HK.out) k0) ?_
        rintro e w2 ⟨rfl, q⟩
        have HK2 : Hid (Kp w w2) := kp_trans HK.out q
        clear q
        go_wp2_with fail
        go_ret
        refine ⟨?_, HK2.out⟩
        show Ending.returned (Value.bool _) = Ending.returned (Value.bool _)
        congr 2
        rw [← HX.out]
        unfold fitB leafB
        rw [HOp.out.1, HOp.out.2]
        simp only [hT, HKD.out]
        simp
    · have dN : ((N : Int) == 1) = false := by simp; omega
      go_enter Tryz.func16, Tryz.ntmps16
      go_wp2_with fail
      go_ret
      refine ⟨?_, kp_alloc _ _⟩
      show Ending.returned (Value.bool _) = Ending.returned (Value.bool _)
      congr 2
      rw [← HX.out]
      unfold fitB leafB
      rw [HOp.out.1, HOp.out.2]
      simp [hN]
  have d7 : ((op : Int) == 7) = false := by simp; omega
  go_enter Tryz.func16, Tryz.ntmps16
  go_wp2_with fail
  go_ret
  refine ⟨?_, kp_alloc _ _⟩
  show Ending.returned (Value.bool _) = Ending.returned (Value.bool _)
  congr 2
  rw [← HX.out]
  unfold fitB leafB
  rw [HOp.out.1, HOp.out.2]
  simp [h1, h2, h3, h4, h5, h6, h7, h8, h9, h10, h11, h12, h13, h14, h15]
end
end Go.Proofs.YtmghdogoeehodaaGreatDoor
/- The checker's list of nodes to ask for, and which were asked for. -/
namespace Go.Proofs.YtmghdogoeehodaaGreatDoor
open Go.ChangeShapes Go.WideShapes Go.ChangeAt Go.RowKit
set_option linter.unusedVariables false
set_option linter.unusedSimpArgs false
def ints (l : List Int) : List Value := l.map fun n => Value.int .i64 n
def bools (l : List Bool) : List Value := l.map Value.bool
/-- A list of numbers that is the call's own. -/
def Nx (B : Nat) (v : Value) (l : List Int) (w : World) : Prop := w.ownsRow B 3 1 v l.length (ints l)
/-- Which nodes were asked for. -/
def As (ab : Nat) (l : List Bool) (w : World) : Prop := w.heap[ab]? = some (.cells (bools l).toArray 4 (0, 0))
def unasked (v : Value) : Bool := match v with | .bool b => !b | _ => false
def left (ab : Nat) (w : World) : Nat := match w.heap[ab]? with | some (.cells a _ _) => a.toList.countP unasked | _ => 0
/-- An append whose run is known. -/
theorem wpList_append_run {P : Program} {w w' : World} {v : Value} {ops : Array Oper} {rest : List Oper} {o : Oper} {a : Act} {Q : Exit → Act → World → Prop} (hgd : o.guard = none) (s x : Operand) (t : TypeId)
    (ho : o.op = .call { callee := .builtin .append, args := #[s, x], argTypes := #[t, t] }) (vs vx : Value) (hs : a.eval s = vs) (hx : a.eval x = vx)
    (hr : (Builtin.append_ #[t, t] o.type #[vs, vx]).run P w = .ok v w') (h : wpList P ops Q rest (a.put o.dst v) w') : wpList P ops Q (o :: rest) a w :=
  wpList_plain hgd fun _ hK => by
    unfold Oper.wp execOp
    simp only [ho, resolve, invoke, builtin, Sem.run_bind, Sem.run_pure, Result.andThen_ok, List.map_toArray, List.map_cons, List.map_nil, hs, hx, hr]
    exact hK _ _ h
section
variable {B g n cap ab : Nat} {v : Value} {l : List Int} {m : List Bool} {a : Int} {w w1 : World}
theorem As.left (h : As ab m w) : left ab w = m.count false := by
  unfold As at h
  unfold Go.Proofs.YtmghdogoeehodaaGreatDoor.left
  rw [h]
  simp only [bools, List.countP_map, List.count]
  congr 1
  funext b
  cases b <;> rfl
theorem As.lt (h : As ab m w) : ab < w.heap.size := (Array.getElem?_eq_some_iff.1 h).1
theorem As.cell (h : As ab m w) (i : Nat) : w.cell? ⟨ab, i, none⟩ = (m[i]?).map Value.bool := by
  unfold As at h
  rw [cell_at h]; simp [bools]
theorem As.fz (h : As ab m w) (i : Nat) : w.frozen? ⟨ab, i, none⟩ = false := by unfold As at h; simp [World.frozen?, h]
theorem As.set (h : As ab m w) (i : Nat) : As ab (m.set i true) (w.setCell ⟨ab, i, none⟩ (.bool true)) := by
  unfold As at h ⊢
  rw [heap_setCell h]; simp [bools, List.map_set]
theorem As.heap (h : As ab m w) (e : w1.heap[ab]? = w.heap[ab]?) : As ab m w1 := by unfold As at *; rw [e]; exact h
theorem Nx.heap (h : Nx B v l w) (e : ∀ k, v.ownBlock = some k → w1.heap[k]? = w.heap[k]?) : Nx B v l w1 := by
  refine ⟨h.1, ?_⟩
  rcases h.2 with q | ⟨b, c, cur, rfl, hb, hg, rest⟩
  · exact .inl q
  · exact .inr ⟨b, c, cur, rfl, hb, by rw [e b rfl]; exact hg, rest⟩
/-- The last one, and the list without it. -/
theorem Nx.pop (h : Nx B v (l ++ [a]) w) : ∃ g cap, v = .slice (some ⟨g, 0, none⟩) (l.length + 1) cap ∧ l.length + 1 ≤ cap ∧ cap ≤ maxLen ∧ B ≤ g ∧ g < w.heap.size ∧ w.cell? ⟨g, l.length, none⟩ = some (.int .i64 a) ∧ Nx B (.slice (some ⟨g, 0, none⟩) l.length cap) l w := by
  have hl : (l ++ [a]).length = l.length + 1 := by simp
  rcases h.2 with ⟨_, q⟩ | ⟨g, c, cur, e, hb, hg, h1, h2, h3, h4⟩
  · rw [hl] at q; omega
  · rw [hl] at e h1 h4
    refine ⟨g, c, e, h1, h2, hb, (Array.getElem?_eq_some_iff.1 hg).1, ?_, by simp [ints], .inr ⟨g, c, cur, rfl, hb, hg, by omega, h2, h3, ?_⟩⟩
    · rw [cell_at hg, ← Array.getElem?_toList]
      have : (ints (l ++ [a]))[l.length]? = some (.int .i64 a) := by simp [ints]
      rw [← h4, List.getElem?_take] at this
      split at this
      · exact this
      · cases this
    · rw [Nat.mul_one] at h4 ⊢
      have : (cur.toList.take (l.length + 1)).take l.length = (ints (l ++ [a])).take l.length := by rw [h4]
      rw [List.take_take, Nat.min_eq_left (by omega)] at this
      rw [this]; simp [ints]
set_option maxRecDepth 100000 in
/-- Numbers that can be read, put behind the list. -/
theorem Nx.app {ka : Option Addr} {k kc : Nat} {ks : List Int} (h : Nx B (.slice (some ⟨g, 0, none⟩) n cap) l w) (hn : l.length = n) (hc : n ≤ cap) (hk : Ks w (.slice ka k kc) ks) (hB : B ≤ w.heap.size) (hM : n + k ≤ 16000000) (ty : TypeId) :
    ∃ g' cap' w', (Builtin.append_ #[33, 33] ty #[.slice (some ⟨g, 0, none⟩) n cap, .slice ka k kc]).run Tryz.prog w = .ok (.slice (some ⟨g', 0, none⟩) (n + k) cap') w' ∧ Nx B (.slice (some ⟨g', 0, none⟩) (n + k) cap') (l ++ ks) w' ∧ w.grownBy w' (some g) ∧ (g' = g ∨ g' = w.heap.size) := by
  subst hn
  obtain ⟨i9, hi9, z0, z1, z2⟩ := info_parts infoInt
  obtain ⟨ka', kc', e, h1, h2, hr⟩ := hk
  injection e with e1 e2 e3
  subst e1 e3
  by_cases h0 : k = 0
  · subst h0
    have : ks = [] := List.eq_nil_of_length_eq_zero e2.symm
    subst this
    have hsrc : Src Tryz.prog i9.size 33 (.slice ka 0 kc) 0 [] w := by
      cases ka with
      | none => exact Src.ofNil w Tryz.underlying33 kc
      | some ad => exact Src.ofSlice w Tryz.underlying33 ad 0 kc [] (by simp) (fun j u hu => by simp at hu) (fun u hu => by cases hu)
    refine ⟨g, cap, w, ?_, by simpa using h, ⟨rfl, rfl, rfl, Nat.le_refl _, fun _ _ _ => rfl⟩, .inl rfl⟩
    have := run_append_room_src w 33 33 ty 3 i9 Tryz.underlying33 hi9 g 0 l.length cap (.slice ka 0 kc) 0 [] hsrc (by omega) (fun j hj => by simp at hj) (fun j hj => by simp at hj)
    rw [this]; simp [World.setCells]
  · obtain ⟨b, o, ea, _⟩ := hr 0 (ks[0]'(by omega)) (List.getElem?_eq_getElem (by omega))
    subst ea
    obtain ⟨g', cap', w', q1, q2, q3, q4, _⟩ := run_append_lies (P := Tryz.prog) w 33 ty B 3 i9 _ 1 8 Tryz.underlying33 hi9 z0 z1 z2 rfl (by decide) _ l.length (ints l) h ⟨b, o, none⟩ k kc (ints ks) (by simp [ints, e2]) (fun j u hu => by
      simp only [ints, List.getElem?_map, Option.map_eq_some_iff] at hu
      obtain ⟨x, hx, rfl⟩ := hu
      obtain ⟨b', o', e', q⟩ := hr j x hx
      injection e' with e'
      injection e' with e1 e2 _
      subst e1 e2
      rw [Addr.add_lit]; exact q) (fun u hu => by
      simp only [ints, List.mem_map] at hu
      obtain ⟨x, _, rfl⟩ := hu
      rfl) (by omega) (by unfold maxLen; omega) (by omega) hB w.heap.size rfl
    refine ⟨g', cap', w', q1, ?_, q3, ?_⟩
    · unfold Nx
      rw [show (l ++ ks).length = l.length + k by simp [e2], show ints (l ++ ks) = ints l ++ ints ks by simp [ints]]
      exact q2
    · rcases q4 with q | q
      · left; simpa [Value.ownBlock] using q.symm
      · exact .inr q
end
end Go.Proofs.YtmghdogoeehodaaGreatDoor
