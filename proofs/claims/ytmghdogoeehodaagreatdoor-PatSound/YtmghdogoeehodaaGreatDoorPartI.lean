/- Texts that the proof of the law stands on: Inry, Inrz, InS, PPSound. -/
import Derived.Test.YtmghdogoeehodaaGreatDoorPartH
/- A fault's place lies in the text. -/
namespace Go.Proofs.YtmghdogoeehodaaGreatDoor
set_option linter.unusedVariables false
set_option linter.unusedSimpArgs false
section
variable {s last : ByteArray} {r r' : RS} {t : Tok} {i n : Nat} {ks : List Nat} {e : Nat × Nat}
theorem pl_of {n p : Nat} {α : Type} (hp : p ≤ s.size) (h : (.error (n, p) : Except (Nat × Nat) α) = .error e) : e.2 ≤ s.size := by cases h; exact hp
theorem next_pl : ∀ (f : Nat) {k : Nat} {md : ByteArray} {cs : Nat} {t : Tok} {k' : Nat} {md' : ByteArray} {cs' : Nat}, k ≤ s.size → nextF s f k md cs = .ok (t, k', md', cs') → t.pl ≤ s.size
  | 0, k, md, cs, t, k', md', cs', _, h => by simp [nextF] at h
  | f + 1, k, md, cs, t, k', md', cs', hk, h => by
    rw [nextF] at h
    split at h
    · cases h
    · rename_i t1 k1 h1
      have hp : t1.pl ≤ s.size := by
        unfold tokOf at h1
        split at h1
        · split at h1
          · split at h1
            · cases h1; exact hk
            · cases h1
          · cases h1; exact hk
        · cases h1; exact hk
      split at h
      · split at h
        · exact next_pl f (tokOf_le h1 hk).2.1 h
        · cases h; exact hp
      · cases h; exact hp
theorem nexp_err : ∀ (f k : Nat) (md : ByteArray) (cs : Nat), k ≤ s.size → nextF s f k md cs = .error e → e.2 ≤ s.size
  | 0, k, md, cs, hp, h => pl_of hp h
  | f + 1, k, md, cs, hp, h => by
    rw [nextF] at h
    split at h
    · exact pl_of hp h
    · rename_i t1 k1 h1
      split at h
      · split at h
        · exact nexp_err f _ _ _ (tokOf_le h1 hp).2.1 h
        · cases h
      · cases h
theorem mant_err (hp : t.pl ≤ s.size) (h : manyF s t ks r = .error e) : e.2 ≤ s.size := by
  unfold manyF at h
  split at h
  · split at h
    · exact pl_of hp h
    · cases h
  · split at h
    · split at h
      · rename_i x hx
        cases h
        unfold timesF at hx
        split at hx
        · cases hx
        · split at hx
          · cases hx
          · split at hx
            · split at hx
              · exact pl_of hp hx
              · cases hx
            · cases hx
      · cases h
    · split at h
      · exact pl_of hp h
      · cases h
theorem lettep_err (hp : t.pl ≤ s.size) (h : letterF s t r = .error e) : e.2 ≤ s.size := by
  unfold letterF at h
  split at h
  · cases h
  split at h
  · cases h
  split at h
  · unfold edgeF at h
    split at h
    · cases h
    · split at h
      · cases h
      · exact pl_of hp h
  split at h
  · unfold backF at h
    split at h
    · cases h
    · exact pl_of hp h
  split at h
  · cases h
  · exact pl_of hp h
theorem piecp_err {G : Tok → RS → Except (Nat × Nat) (Nat × RS)} {first : Bool} (hp : t.pl ≤ s.size) (hk : r.k ≤ s.size) (hG : G t r = .error e → e.2 ≤ s.size) (h : pieceF G s last t first r = .error e) : e.2 ≤ s.size := by
  unfold pieceF at h
  split at h
  · unfold signF at h
    split at h
    · split at h <;> cases h
    split at h
    · unfold eolF at h
      split at h
      · rename_i x hx; cases h; exact nexp_err _ _ _ _ hk hx
      · split at h <;> cases h
    split at h
    · cases h
    split at h
    · cases h
    split at h
    · cases h
    split at h
    · cases h
    split at h
    · unfold setF at h
      split at h
      · rename_i x hx
        cases h
        unfold collF at hx
        split at hx
        · cases hx
        · split at hx
          · exact pl_of hp hx
          · cases hx
      · cases h
      · cases h
    split at h
    · exact hG h
    · cases h
  · split at h
    · exact lettep_err hp h
    · cases h
theorem groupp_err {BR : RS → Except (Nat × Nat) (Nat × Tok × RS)} (hp : t.pl ≤ s.size) (hd : Gd s r) (hB : r.g ≠ 9 → BR { r with g := r.g + 1 } = .error e → e.2 ≤ s.size) (h : groupF BR t r = .error e) : e.2 ≤ s.size := by
  unfold groupF at h
  split at h
  · exact pl_of hp h
  · rename_i h9
    split at h
    · rename_i x hx; cases h; exact hB h9 hx
    · split at h
      · exact pl_of hp h
      · cases h
theorem brp_err {P : Tok → Bool → RS → Except (Nat × Nat) (Nat × RS)} {g0 : Nat} (hP : ∀ t r ks i r', MdJ s g0 t r ks → P t ks.isEmpty r = .ok (i, r') → Aft s 0 0 r i r') (hE : ∀ t r ks e, MdJ s g0 t r ks → t.pl ≤ s.size → P t ks.isEmpty r = .error e → e.2 ≤ s.size) :
    ∀ (f : Nat) (r : RS) (ks : List Nat), HdI s g0 r ks → s.size < r.k + f → brF P s f r ks = .error e → e.2 ≤ s.size := by
  intro f
  induction f with
  | zero => intro r ks hI hf; have := hI.gd.sz; omega
  | succ f ih =>
    intro r ks hI hf h
    rw [brF] at h
    split at h
    · rename_i x hx; cases h; exact nexp_err _ _ _ _ hI.gd.sz hx
    · rename_i t1 k md cs hn
      have hpl := next_pl _ hI.gd.sz hn
      split at h
      · cases h
      · rename_i he
        obtain ⟨j1, j2⟩ := mdJ_of hI hn (Bool.eq_false_iff.2 he)
        split at h
        · split at h
          · rename_i x hx; cases h; exact mant_err hpl hx
          · rename_i ks' r1 hm
            obtain ⟨q1, q2⟩ := hdI_many j1 hm
            simp only at q2
            exact ih _ _ q1 (by omega) h
        · split at h
          · rename_i x hx; cases h; exact hE _ _ _ _ j1 hpl hx
          · rename_i i1 r1 hp
            have a := hP _ _ _ _ _ j1 hp
            have ak := a.k
            simp only at ak
            exact ih _ _ (hdI_piece j1 a) (by omega) h
theorem brsp_err {F : RS → Except (Nat × Nat) (Nat × Tok × RS)} {g0 : Nat} (hF : ∀ r ks i t r', HdI s g0 r ks → F r = .ok (i, t, r') → Aft s 1 (room t) r i r' ∧ (t.kd ≠ 0 → r.k < r'.k)) (hE : ∀ r ks e, HdI s g0 r ks → F r = .error e → e.2 ≤ s.size) :
    ∀ (f : Nat) (r : RS) (ks : List Nat), HdI s g0 r ks → s.size < r.k + f → brsL F f r ks = .error e → e.2 ≤ s.size := by
  intro f
  induction f with
  | zero => intro r ks hI hf; have := hI.gd.sz; omega
  | succ f ih =>
    intro r ks hI hf h
    rw [brsL] at h
    split at h
    · rename_i x hx; cases h; exact hE _ _ _ hI hx
    · rename_i i1 t1 r1 h1
      obtain ⟨a, b⟩ := hF _ _ _ _ _ hI h1
      split at h
      · rename_i hc
        have e1 := a.nd
        have e2 := a.k
        have e3 := a.up
        have e4 := a.g
        have l0 := hI.len
        have g0' := hI.g0
        have hk := b (by omega)
        have er : room t1 = 4 := by unfold room; rw [if_neg (by omega)]
        rw [er] at e1
        refine ih _ _ (⟨⟨a.sz, by omega, a.cl, a.g9⟩, by simp; omega, fun p hp => ?_, by omega⟩ : HdI s g0 r1 (ks ++ [i1])) (by omega) h
        simp only [List.mem_append, List.mem_singleton] at hp
        rcases hp with hp | hp
        · have := hI.lt p hp; omega
        · rw [hp]; exact a.i
      · cases h
theorem brsFp_err (hla : last.size ≤ 1100) : ∀ (n : Nat) (r : RS) (e : Nat × Nat), 9 - r.g < n → Gd s r → brsF s last n r = .error e → e.2 ≤ s.size
  | 0, _, _, hn, _, _ => by omega
  | n + 1, r, e, hn, hd, h => by
    rw [brsF] at h
    have hPa : ∀ t r1 ks i r', MdJ s r.g t r1 ks → pieceF (groupF (brsF s last n)) s last t ks.isEmpty r1 = .ok (i, r') → Aft s 0 0 r1 i r' := fun t r1 ks i r' hJ hp =>
      pieceF_aft hla hJ.sz hJ.nd hJ.cl hJ.g (fun i5 r5 h5 => groupF_aft hJ.gd (fun r6 i6 t6 r7 h6 h7 => brsF_aft hla n r6 i6 t6 r7 h6 h7) h5) hp
    refine brsp_err (g0 := r.g) (fun r1 ks i t r' hI hb => brF_aft hPa _ _ _ _ _ _ (⟨hI.gd, by simp, fun p hp => by simp at hp, hI.g0⟩ : HdI s r.g r1 []) hb) (fun r1 ks1 e1 hI h1 => ?_) _ _ _ hd.hd (by omega) h
    refine brp_err hPa (fun t2 r2 ks2 e2 hJ hp2 h2 => ?_) _ _ _ (⟨hI.gd, by simp, fun p hp => by simp at hp, hI.g0⟩ : HdI s r.g r1 []) (by omega) h1
    refine piecp_err hp2 hJ.sz (fun h3 => groupp_err hp2 hJ.gd (fun h9 h4 => ?_) h3) h2
    have hg := hJ.g
    have hg0 := hJ.g0
    have hgd := hJ.gd
    have hgd1 : Gd s { r2 with g := r2.g + 1 } := ⟨hgd.sz, hgd.nd, hgd.cl, by show r2.g + 1 ≤ 9; omega⟩
    exact brsFp_err hla n { r2 with g := r2.g + 1 } e2 (by show 9 - (r2.g + 1) < n; omega) hgd1 h4
theorem br_tok {P : Tok → Bool → RS → Except (Nat × Nat) (Nat × RS)} {g0 : Nat} (hP : ∀ t r ks i r', MdJ s g0 t r ks → P t ks.isEmpty r = .ok (i, r') → Aft s 0 0 r i r') :
    ∀ (f : Nat) (r : RS) (ks : List Nat) (i : Nat) (t : Tok) (r' : RS), HdI s g0 r ks → brF P s f r ks = .ok (i, t, r') → t.pl ≤ s.size := by
  intro f
  induction f with
  | zero => intro r ks i t r' hI h; simp [brF] at h
  | succ f ih =>
    intro r ks i t r' hI h
    rw [brF] at h
    split at h
    · cases h
    · rename_i t1 k md cs hn
      have hpl := next_pl _ hI.gd.sz hn
      split at h
      · cases h; exact hpl
      · rename_i he
        obtain ⟨j1, j2⟩ := mdJ_of hI hn (Bool.eq_false_iff.2 he)
        split at h
        · split at h
          · cases h
          · rename_i ks' r1 hm
            exact ih _ _ _ _ _ (hdI_many j1 hm).1 h
        · split at h
          · cases h
          · rename_i i1 r1 hp
            exact ih _ _ _ _ _ (hdI_piece j1 (hP _ _ _ _ _ j1 hp)) h
theorem brs_tok {F : RS → Except (Nat × Nat) (Nat × Tok × RS)} {g0 : Nat} (hF : ∀ r ks i t r', HdI s g0 r ks → F r = .ok (i, t, r') → Aft s 1 (room t) r i r' ∧ (t.kd ≠ 0 → r.k < r'.k)) (hE : ∀ r ks i t r', HdI s g0 r ks → F r = .ok (i, t, r') → t.pl ≤ s.size) :
    ∀ (f : Nat) (r : RS) (ks : List Nat) (i : Nat) (t : Tok) (r' : RS), HdI s g0 r ks → brsL F f r ks = .ok (i, t, r') → t.pl ≤ s.size := by
  intro f
  induction f with
  | zero => intro r ks i t r' hI h; simp [brsL] at h
  | succ f ih =>
    intro r ks i t r' hI h
    rw [brsL] at h
    split at h
    · cases h
    · rename_i i1 t1 r1 h1
      obtain ⟨a, b⟩ := hF _ _ _ _ _ hI h1
      have hpl := hE _ _ _ _ _ hI h1
      split at h
      · rename_i hc
        have e1 := a.nd
        have e2 := a.k
        have e3 := a.up
        have e4 := a.g
        have l0 := hI.len
        have g0' := hI.g0
        have hk := b (by omega)
        have er : room t1 = 4 := by unfold room; rw [if_neg (by omega)]
        rw [er] at e1
        refine ih _ _ _ _ _ (⟨⟨a.sz, by omega, a.cl, a.g9⟩, by simp; omega, fun p hp => ?_, by omega⟩ : HdI s g0 r1 (ks ++ [i1])) h
        simp only [List.mem_append, List.mem_singleton] at hp
        rcases hp with hp | hp
        · have := hI.lt p hp; omega
        · rw [hp]; exact a.i
      · cases h; exact hpl
theorem brsF_tok (hla : last.size ≤ 1100) (n : Nat) (r : RS) (i : Nat) (t : Tok) (r' : RS) (hd : Gd s r) (h : brsF s last n r = .ok (i, t, r')) : t.pl ≤ s.size := by
  cases n with
  | zero => cases h
  | succ n =>
    rw [brsF] at h
    have hPa : ∀ t r1 ks i r', MdJ s r.g t r1 ks → pieceF (groupF (brsF s last n)) s last t ks.isEmpty r1 = .ok (i, r') → Aft s 0 0 r1 i r' := fun t r1 ks i r' hJ hp =>
      pieceF_aft hla hJ.sz hJ.nd hJ.cl hJ.g (fun i5 r5 h5 => groupF_aft hJ.gd (fun r6 i6 t6 r7 h6 h7 => brsF_aft hla n r6 i6 t6 r7 h6 h7) h5) hp
    exact brs_tok (g0 := r.g) (fun r1 ks i t r' hI hb => brF_aft hPa _ _ _ _ _ _ (⟨hI.gd, by simp, fun p hp => by simp at hp, hI.g0⟩ : HdI s r.g r1 []) hb) (fun r1 ks1 i1 t1 r2 hI h1 => br_tok hPa _ _ _ _ _ _ (⟨hI.gd, by simp, fun p hp => by simp at hp, hI.g0⟩ : HdI s r.g r1 []) h1) _ _ _ _ _ _ hd.hd h
theorem parFp_err (h : parF s last = .error e) : e.2 ≤ s.size := by
  unfold parF at h
  split at h
  · exact pl_of (Nat.zero_le _) h
  · rename_i hsz
    have hd : Gd s rs0 := ⟨Nat.zero_le _, by simp [rs0], by simp [rs0], by simp [rs0]⟩
    unfold patF at h
    split at h
    · rename_i x hx
      cases h
      exact brsFp_err (by omega) 10 rs0 e (by decide) hd hx
    · rename_i i1 t1 r1 hx
      split at h
      · exact pl_of (brsF_tok (by omega) _ _ _ _ _ hd hx) h
      · split at h
        · exact pl_of (Nat.zero_le _) h
        · cases h
theorem seep_err (h : see (parF s last) = .error e) : e.2 ≤ s.size := by
  cases hp : parF s last with
  | error x => rw [hp] at h; cases h; exact parFp_err hp
  | ok x => rw [hp] at h; cases x; cases h
end
end Go.Proofs.YtmghdogoeehodaaGreatDoor
/- A printer that pushes the kids of a node and says the rest comes to an end, on trees. -/
namespace Go.Proofs.YtmghdogoeehodaaGreatDoor
set_option linter.unusedVariables false
set_option linter.unusedSimpArgs false
def okG (inn : Nat → Bool) (L : List Nq) (a : Int) (k : Nat) : Bool := hasB L a && (!(inn (nodeAt L a).op) || !(nodeAt L a).kids.isEmpty) && decide (k + (nodeAt L a).kids.length ≤ 900000)
def prG (inn : Nat → Bool) (push : Nq → List (List UInt8 × Int)) (say : Nq → List UInt8) (L : List Nq) : Nat → List (List UInt8 × Int) → List UInt8 → Option (List UInt8)
  | 0, _, _ => none
  | n + 1, ps, l =>
    match ps.getLast? with
    | none => some l
    | some (t, a) =>
      if 800000 < l.length + t.length ∨ 800000 < ps.length then none
      else if a = -1 then prG inn push say L n ps.dropLast (l ++ t)
      else if okG inn L a ps.dropLast.length then prG inn push say L n (ps.dropLast ++ push (nodeAt L a)) (l ++ t ++ say (nodeAt L a))
      else none
/-- The nodes that wait. -/
def nsP : List (List UInt8 × Int) → List Nat
  | [] => []
  | p :: ps => (if p.2 = -1 then [] else [p.2.toNat]) ++ nsP ps
def sumT (ps : List (List UInt8 × Int)) : Nat := (ps.map fun p => p.1.length).sum
def negP (ps : List (List UInt8 × Int)) : Nat := ps.countP fun p => p.2 == -1
theorem nsP_append (a b : List (List UInt8 × Int)) : nsP (a ++ b) = nsP a ++ nsP b := by
  induction a with
  | nil => rfl
  | cons p a ih => simp [nsP, ih]
theorem sumT_append (a b : List (List UInt8 × Int)) : sumT (a ++ b) = sumT a + sumT b := by simp [sumT]
theorem negP_append (a b : List (List UInt8 × Int)) : negP (a ++ b) = negP a + negP b := by simp [negP]
theorem len_ns (ps : List (List UInt8 × Int)) : ps.length = (nsP ps).length + negP ps := by
  induction ps with
  | nil => rfl
  | cons p ps ih =>
    have e : negP (p :: ps) = negP [p] + negP ps := by rw [← negP_append]; rfl
    rw [e]
    by_cases h : p.2 = -1
    · have : negP [p] = 1 := by simp [negP, h]
      simp [nsP, h]; omega
    · have : negP [p] = 0 := by simp [negP, h]
      simp [nsP, h]; omega
/-- What is asked of push and say at a node. -/
structure Push (inn : Nat → Bool) (push : Nq → List (List UInt8 × Int)) (say : Nq → List UInt8) (d : Nd) : Prop where
  nat : ∀ p ∈ push d.q, p.2 = -1 ∨ ∃ k : Nat, p.2 = k
  ns : nsP (push d.q) = d.kids.reverse
  neg : negP (push d.q) ≤ 1
  sum : sumT (push d.q) + (say d.q).length ≤ 300 + 2 * d.kids.length
  inn : inn d.op = true → d.kids ≠ []
section
variable {r : RS} {A : List Nat} {inn : Nat → Bool} {push : Nq → List (List UInt8 × Int)} {say : Nq → List UInt8}
theorem Wf.prints (h : Wf r A) (hN : r.nds.length ≤ 400) (hp : ∀ (k : Nat) (d : Nd), r.nds[k]? = some d → Push inn push say d) : ∀ (f : Nat) (ps : List (List UInt8 × Int)) (l : List UInt8) (asked : List Bool), asked.length = r.nds.length → 2 * asked.count false + negP ps < f → (∀ p ∈ ps, p.2 = -1 ∨ ∃ k : Nat, p.2 = k) →
    (nsP ps).Nodup → (∀ x ∈ nsP ps, asked[x]? = some false) →
    (∀ x ∈ nsP ps, ∀ (k : Nat) (d : Nd), r.nds[k]? = some d → asked[k]? = some false → x ∉ d.kids) → (∀ (k : Nat) (d : Nd), r.nds[k]? = some d → asked[k]? = some false → ∀ x ∈ d.kids, asked[x]? = some false) →
    l.length + sumT ps + 302 * asked.count false ≤ 1000 + 302 * r.nds.length + 2 * (nsP ps).length → negP ps + asked.count false ≤ r.nds.length →
    ∃ X, prG inn push say (r.nds.map Nd.q) f ps l = some X ∧ l.length + sumT ps ≤ X.length
  | 0, ps, l, asked, _, hc, _, _, _, _, _, _, _ => by omega
  | f + 1, ps, l, asked, hl, hc, hnat, hnd, hun, hfr, hkid, hsz, hneg => by
    rw [prG]
    cases hg : ps.getLast? with
    | none =>
      have : ps = [] := List.getLast?_eq_none_iff.1 hg
      subst this
      exact ⟨l, rfl, by simp [sumT]⟩
    | some x =>
      obtain ⟨t, a⟩ := x
      obtain ⟨qs, rfl⟩ := List.getLast?_eq_some_iff.1 hg
      have hns : (nsP (qs ++ [(t, a)])).length ≤ r.nds.length := nodup_len _ _ hnd fun x hx => by rw [← hl]; exact (List.getElem?_eq_some_iff.1 (hun x hx)).1
      have hln := len_ns (qs ++ [(t, a)])
      have hs1 : sumT (qs ++ [(t, a)]) = sumT qs + t.length := by rw [sumT_append]; simp [sumT]
      have hcn : asked.count false ≤ r.nds.length := by rw [← hl]; exact List.count_le_length
      simp only [List.dropLast_concat]
      rw [if_neg (by rw [hs1] at hsz; omega)]
      by_cases ha : a = -1
      · subst ha
        rw [if_pos rfl]
        have e1 : nsP (qs ++ [(t, (-1 : Int))]) = nsP qs := by rw [nsP_append]; simp [nsP]
        have e2 : negP (qs ++ [(t, (-1 : Int))]) = negP qs + 1 := by rw [negP_append]; rfl
        rw [e1] at hnd hun hfr hsz
        rw [e2] at hc hneg
        rw [hs1] at hsz ⊢
        obtain ⟨X, h1, h2⟩ := Wf.prints h hN hp f qs (l ++ t) asked hl (by omega) (fun p hpp => hnat p (by simp [hpp])) hnd hun hfr hkid (by rw [List.length_append]; omega) (by omega)
        exact ⟨X, h1, by rw [List.length_append] at h2; omega⟩
      · rw [if_neg ha]
        obtain ⟨k, rfl⟩ : ∃ k : Nat, a = k := by
          rcases hnat (t, a) (by simp) with q | q
          · exact absurd q ha
          · exact q
        have e1 : nsP (qs ++ [(t, (k : Int))]) = nsP qs ++ [k] := by rw [nsP_append]; simp [nsP]
        have e2 : negP (qs ++ [(t, (k : Int))]) = negP qs := by rw [negP_append]; simp [negP]
        rw [e1] at hnd hun hfr hsz
        rw [e2] at hc hneg
        rw [hs1] at hsz ⊢
        have hk := hun k (by simp)
        have hal : k < r.nds.length := by rw [← hl]; exact (List.getElem?_eq_some_iff.1 hk).1
        obtain ⟨d, hd⟩ : ∃ d, r.nds[k]? = some d := ⟨_, List.getElem?_eq_getElem hal⟩
        obtain ⟨q1, q2⟩ := node_q hd
        have P := hp k d hd
        have hkl := h.kl k d hd
        have hkn := h.kn k d hd
        have hklen := nodup_len k d.kids hkn hkl
        have hnd' := List.nodup_append.1 hnd
        have hok : okG inn (r.nds.map Nd.q) (k : Int) qs.length = true := by
          unfold okG
          rw [q1, q2]
          have e3 : d.q.kids.length = d.kids.length := by simp [Nd.q]
          have hi : (!(inn d.q.op) || !d.q.kids.isEmpty) = true := by
            cases hii : inn d.q.op with
            | false => rfl
            | true =>
              have := P.inn hii
              cases hdk : d.kids with
              | nil => exact absurd hdk this
              | cons x y => simp [Nd.q, hdk]
          rw [hi, e3]
          simp only [Bool.true_and, decide_eq_true_eq]
          have hq := len_ns qs
          have hq2 : (nsP qs).length + 1 ≤ r.nds.length := by rw [e1] at hns; simpa using hns
          omega
        rw [if_pos hok, q1]
        have hset : ∀ x, x ≠ k → (asked.set k true)[x]? = asked[x]? := fun x hx => List.getElem?_set_ne (fun e => hx e.symm)
        have hcount := count_set hk
        have hun' : ∀ j, (asked.set k true)[j]? = some false → j ≠ k ∧ asked[j]? = some false := fun j hj => by
          by_cases e : j = k
          · subst e
            rw [List.getElem?_set_self (by omega)] at hj
            cases hj
          · rw [hset j e] at hj; exact ⟨e, hj⟩
        have hnsq : nsP (qs ++ push d.q) = nsP qs ++ d.kids.reverse := by rw [nsP_append, P.ns]
        have hPs := P.sum
        have hPn := P.neg
        obtain ⟨X, h1, h2⟩ := Wf.prints h hN hp f (qs ++ push d.q) (l ++ t ++ say d.q) (asked.set k true) (by rw [List.length_set]; exact hl) (by rw [negP_append]; omega)
          (fun p hpp => by
            rw [List.mem_append] at hpp
            rcases hpp with hpp | hpp
            · exact hnat p (by simp [hpp])
            · exact P.nat p hpp)
          (by
            rw [hnsq]
            refine List.nodup_append.2 ⟨hnd'.1, List.pairwise_reverse.2 (List.Pairwise.imp (fun q => Ne.symm q) hkn), fun x hx y hy e => ?_⟩
            subst e
            rw [List.mem_reverse] at hy
            exact hfr x (by simp [hx]) k d hd hk hy)
          (by
            intro x hx
            rw [hnsq, List.mem_append, List.mem_reverse] at hx
            rcases hx with hx | hx
            · rw [hset x (fun e => hnd'.2.2 x hx k (by simp) e)]
              exact hun x (by simp [hx])
            · rw [hset x (by have := hkl x hx; omega)]
              exact hkid k d hd hk x hx)
          (by
            intro x hx j e he hj hc2
            obtain ⟨k1, k2⟩ := hun' j hj
            rw [hnsq, List.mem_append, List.mem_reverse] at hx
            rcases hx with hx | hx
            · exact hfr x (by simp [hx]) j e he k2 hc2
            · exact k1 (h.own j k e d x he hd hc2 hx))
          (by
            intro j e he hj x hx
            obtain ⟨k1, k2⟩ := hun' j hj
            rw [hset x (fun q => hfr k (by simp) j e he k2 (q ▸ hx))]
            exact hkid j e he k2 x hx)
          (by
            rw [hnsq, sumT_append, List.length_append, List.length_append, List.length_append, List.length_reverse]
            rw [List.length_append] at hsz
            simp at hsz
            omega)
          (by rw [negP_append]; omega)
        refine ⟨X, h1, ?_⟩
        rw [sumT_append, List.length_append, List.length_append] at h2
        omega
end
end Go.Proofs.YtmghdogoeehodaaGreatDoor
/- What is read can be printed. -/
namespace Go.Proofs.YtmghdogoeehodaaGreatDoor
open Go.ChangeShapes Go.WideShapes Go.ChangeAt Go.RowKit
set_option linter.unusedVariables false
set_option linter.unusedSimpArgs false
theorem prF_eq (L : List Nq) : ∀ (n : Nat) (ps : List Part) (l : List UInt8), prF L n ps l = prG inner pushP sayP L n ps l
  | 0, _, _ => rfl
  | n + 1, ps, l => by
    rw [prF, prG]
    cases ps.getLast? with
    | none => rfl
    | some x =>
      obtain ⟨t, a⟩ := x
      simp only
      split
      · rfl
      · split
        · exact prF_eq L n _ _
        · have e : okP L a ps.dropLast.length = okG inner L a ps.dropLast.length := rfl
          rw [e]
          split
          · exact prF_eq L n _ _
          · rfl
theorem nsP_map (be : List UInt8) : ∀ ks : List Nat, nsP (ks.map fun (k : Nat) => (be, (k : Int))) = ks ∧ sumT (ks.map fun (k : Nat) => (be, (k : Int))) = ks.length * be.length ∧ negP (ks.map fun (k : Nat) => (be, (k : Int))) = 0
  | [] => ⟨rfl, by simp [sumT], rfl⟩
  | k :: ks => by
    obtain ⟨h1, h2, h3⟩ := nsP_map be ks
    have hk : ¬ ((k : Int) = -1) := by omega
    refine ⟨?_, ?_, ?_⟩
    · rw [List.map_cons, nsP, h1, if_neg hk]; simp
    · have : sumT ((be, (k : Int)) :: ks.map fun (k : Nat) => (be, (k : Int))) = be.length + sumT (ks.map fun (k : Nat) => (be, (k : Int))) := by simp [sumT]
      rw [List.map_cons, this, h2, List.length_cons, Nat.succ_mul]; omega
    · have : negP ((be, (k : Int)) :: ks.map fun (k : Nat) => (be, (k : Int))) = negP (ks.map fun (k : Nat) => (be, (k : Int))) := by simp [negP, hk]
      rw [List.map_cons, this, h3]
theorem list_push (ah be bh : List UInt8) (h1 : ah.length ≤ 100) (h2 : be.length ≤ 1) (h3 : bh.length ≤ 1) {ks : List Nat} (hk : ks ≠ []) :
    (∀ p ∈ listP ah be bh (ks.map fun (k : Nat) => (k : Int)), p.2 = -1 ∨ ∃ k : Nat, p.2 = k) ∧ nsP (listP ah be bh (ks.map fun (k : Nat) => (k : Int))) = ks.reverse ∧ negP (listP ah be bh (ks.map fun (k : Nat) => (k : Int))) ≤ 1 ∧ sumT (listP ah be bh (ks.map fun (k : Nat) => (k : Int))) ≤ 101 + ks.length := by
  cases ks with
  | nil => exact absurd rfl hk
  | cons x xs =>
    have e : listP ah be bh ((x :: xs).map fun (k : Nat) => (k : Int)) = [(bh, -1)] ++ (xs.reverse.map fun (k : Nat) => (be, (k : Int))) ++ [(ah, (x : Int))] := by
      unfold listP tailP
      simp [← List.map_reverse, Function.comp_def]
    have hx : ¬ ((x : Int) = -1) := by omega
    obtain ⟨q1, q2, q3⟩ := nsP_map be xs.reverse
    rw [e]
    refine ⟨fun p hp => ?_, ?_, ?_, ?_⟩
    · simp only [List.mem_append, List.mem_singleton, List.mem_map] at hp
      rcases hp with (rfl | ⟨k, _, rfl⟩) | rfl
      · exact .inl rfl
      · exact .inr ⟨k, rfl⟩
      · exact .inr ⟨x, rfl⟩
    · rw [nsP_append, nsP_append, q1]; simp [nsP, hx]
    · rw [negP_append, negP_append, q3]; simp [negP, hx]
    · have hm : xs.length * be.length ≤ xs.length := by have := Nat.mul_le_mul_left xs.length h2; omega
      rw [sumT_append, sumT_append, q2, List.length_reverse]
      simp [sumT]; omega
section
variable {r : RS} {A : List Nat}
theorem nd_nok (h : Wf r A) {k : Nat} {d : Nd} (hd : r.nds[k]? = some d) (hs : NdSm d) : Nok d.q := by
  obtain ⟨h1, h2, h3, h4, h5⟩ := hs
  have hg := h.g
  have hn : d.n ≤ 9 := by
    rcases h5 with q | q | q
    · have := h.ns k d hd (.inl q); omega
    · have := h.ns k d hd (.inr q); omega
    · omega
  have e1 : d.q.mn = d.mn := rfl
  have e2 : d.q.mx = d.mx := rfl
  have e3 : d.q.n = (d.n : Int) := rfl
  exact ⟨h1, h2, by unfold Sm; rw [e1]; omega, by unfold Sm; rw [e2]; omega, by unfold Sm; rw [e3]; omega⟩
theorem push_ok (h : Wf r A) {k : Nat} {d : Nd} (hd : r.nds[k]? = some d) (hs : NdSm d) : Push inner pushP sayP d := by
  have hn := nd_nok h hd hs
  have hl := leafT_len hn
  have eop : d.q.op = d.op := rfl
  have leaf : inner d.op = false → d.kids = [] → Push inner pushP sayP d := fun hi hk => by
    have e : pushP d.q = [] := by
      unfold inner at hi
      simp at hi
      unfold pushP
      rw [eop, if_neg (by omega), if_neg (by omega), if_neg (by omega), if_neg (by omega)]
    have e2 : sayP d.q = leafT d.q := by unfold sayP; rw [eop, hi]; rfl
    exact ⟨(by rw [e]; intro p hp; exact absurd hp (by simp)), by rw [e, hk]; rfl, by rw [e]; simp [negP], by rw [e, e2]; simp [sumT]; omega, fun q => by rw [hi] at q; cases q⟩
  have inn : ∀ (ah be bh : List UInt8), ah.length ≤ 100 → be.length ≤ 1 → bh.length ≤ 1 → d.kids ≠ [] → inner d.op = true → pushP d.q = listP ah be bh d.q.kids → Push inner pushP sayP d := fun ah be bh h1 h2 h3 hk hi hp => by
    have e2 : sayP d.q = [] := by unfold sayP; rw [eop, hi]; rfl
    obtain ⟨q1, q2, q3, q4⟩ := list_push ah be bh h1 h2 h3 hk
    have e4 : d.q.kids = d.kids.map fun (k : Nat) => (k : Int) := rfl
    rw [e4] at hp
    exact ⟨by rw [hp]; exact q1, by rw [hp]; exact q2, by rw [hp]; exact q3, by rw [hp, e2]; simp only [List.length_nil]; omega, fun _ => hk⟩
  rcases h.sh k d hd with ⟨h1, h2⟩ | ⟨h1, h2⟩ | ⟨h1, h2⟩ | ⟨h1, x, h2⟩ | ⟨h1, x, h2, hb, hr, hp⟩
  · refine leaf ?_ h2
    unfold leafB at h1
    unfold inner
    simp at h1 ⊢
    omega
  · have hk : d.kids ≠ [] := fun e => by rw [e] at h2; simp at h2
    rcases h1 with h1 | h1
    · exact inn [40] [] [41] (by simp) (by simp) (by simp) hk (by rw [h1]; rfl) (by unfold pushP; rw [eop, if_pos h1])
    · exact inn [40] [124] [41] (by simp) (by simp) (by simp) hk (by rw [h1]; rfl) (by unfold pushP; rw [eop, if_neg (by omega), if_pos h1])
  · exact leaf (by rw [h1]; rfl) h2
  · have hk : d.kids ≠ [] := by rw [h2]; simp
    have hi := itoa_len hn.n
    exact inn ([60] ++ Lib.itoa d.q.n) [] [62] (by simp; omega) (by simp) (by simp) hk (by rw [h1]; rfl) (by unfold pushP; rw [eop, if_neg (by omega), if_neg (by omega), if_neg (by omega), if_pos h1])
  · have hk : d.kids ≠ [] := by rw [h2]; simp
    have i1 := itoa_len hn.mn
    have i2 := itoa_len hn.mx
    have i3 : (openT d.q.lz).length ≤ 2 := by unfold openT; split <;> simp
    exact inn (timesT d.q) [] [] (by unfold timesT; simp; omega) (by simp) (by simp) hk (by rw [h1]; rfl) (by unfold pushP; rw [eop, if_neg (by omega), if_neg (by omega), if_pos h1])
end
/-- What is read can be printed, and numbers fit. -/
theorem par_print {s last : ByteArray} {i gs cs : Nat} {nds : List Nd} (h : see (parF s last) = .ok (i, gs, cs, nds)) :
    (∃ X n, prF (nds.map Nd.q) n [(headT (gs : Int) cs, (i : Int))] [] = some X ∧ X ≠ []) ∧ (∀ d ∈ nds.map Nd.q, Nok d) ∧ gs ≤ c8 nds ∧ gs ≤ 9 := by
  cases hp : parF s last with
  | error e => rw [hp] at h; cases e; cases h
  | ok x =>
    obtain ⟨j, r⟩ := x
    rw [hp] at h
    obtain ⟨hw, hl⟩ := parF_wf hp
    obtain ⟨hc, hsm⟩ := parF_sg hp
    have h' : (Except.ok (j, r.g, r.cs, r.nds) : Except (Nat × Nat) (Nat × Nat × Nat × List Nd)) = .ok (i, gs, cs, nds) := h
    injection h' with h'
    injection h' with e1 h'
    injection h' with e2 h'
    injection h' with e3 e4
    subst e1 e2 e3 e4
    have hg := hw.g
    have hj := hw.lt j (by simp)
    have hd : ∀ (k : Nat) (d : Nd), r.nds[k]? = some d → NdSm d := fun k d hd => hsm d (List.mem_of_getElem? hd)
    have hrep : ∀ x, x < r.nds.length → (List.replicate r.nds.length false)[x]? = some false := fun x hx => by simp [hx]
    have hji : ¬ ((j : Int) = -1) := by omega
    have hhead : (headT (r.g : Int) r.cs).length ≤ 30 ∧ 1 ≤ (headT (r.g : Int) r.cs).length := by
      have hi := itoa_len (n := (r.g : Int)) (by unfold Sm; omega)
      have hcl : (caseL r.cs).length = 1 := by unfold caseL; split; · rfl
                                               · split <;> rfl
      unfold headT
      simp; omega
    have ens : nsP [(headT (r.g : Int) r.cs, (j : Int))] = [j] := by simp [nsP, hji]
    have esum : sumT [(headT (r.g : Int) r.cs, (j : Int))] = (headT (r.g : Int) r.cs).length := by simp [sumT]
    have eneg : negP [(headT (r.g : Int) r.cs, (j : Int))] = 0 := by simp [negP, hji]
    obtain ⟨X, h1, h2⟩ := hw.prints hl (fun k d hk => push_ok hw hk (hd k d hk)) (2 * r.nds.length + 1) [(headT (r.g : Int) r.cs, (j : Int))] [] (List.replicate r.nds.length false) (by simp) (by rw [eneg]; simp)
      (fun p hpp => by simp only [List.mem_singleton] at hpp; subst hpp; exact .inr ⟨j, rfl⟩) (by rw [ens]; simp) (fun x hx => by rw [ens, List.mem_singleton] at hx; subst hx; exact hrep x hj)
      (fun x hx k d hk _ => by rw [ens] at hx; exact hw.fr x hx k d hk)
      (fun k d hk _ x hx => by have := hw.kl k d hk x hx; have := (List.getElem?_eq_some_iff.1 hk).1; exact hrep x (by omega))
      (by rw [ens, esum]; simp; omega) (by rw [eneg]; simp)
    refine ⟨⟨X, 2 * r.nds.length + 1, by rw [prF_eq]; exact h1, fun e => ?_⟩, fun d hdd => ?_, hc, hg⟩
    · rw [e, esum] at h2; simp only [List.length_nil] at h2; omega
    · obtain ⟨e, he, rfl⟩ := List.mem_map.1 hdd
      obtain ⟨k, hk, hke⟩ := List.getElem_of_mem he
      have hk' : r.nds[k]? = some e := by rw [List.getElem?_eq_getElem hk, hke]
      exact nd_nok hw hk' (hd k e hk')
end Go.Proofs.YtmghdogoeehodaaGreatDoor
/- PatSound: the walk. -/
namespace Go.Proofs.YtmghdogoeehodaaGreatDoor
open Go.ChangeShapes Go.WideShapes Go.ChangeAt Go.RowKit
set_option linter.unusedVariables false
set_option linter.unusedSimpArgs false
section
variable {w w1 : World}
theorem boxP (w : World) (a b c d : Value) : ((w.alloc (.cells #[a, b, c, d] 25)).cell? ⟨w.heap.size, 0, none⟩ = some a ∧ (w.alloc (.cells #[a, b, c, d] 25)).cell? ⟨w.heap.size, 1, none⟩ = some b) ∧ ((w.alloc (.cells #[a, b, c, d] 25)).cell? ⟨w.heap.size, 2, none⟩ = some c ∧ (w.alloc (.cells #[a, b, c, d] 25)).cell? ⟨w.heap.size, 3, none⟩ = some d) ∧ Kp w (w.alloc (.cells #[a, b, c, d] 25)) :=
  ⟨⟨by rw [cell_at (alloc_new w _)]; rfl, by rw [cell_at (alloc_new w _)]; rfl⟩, ⟨by rw [cell_at (alloc_new w _)]; rfl, by rw [cell_at (alloc_new w _)]; rfl⟩, kp_alloc _ _⟩
theorem c8_step {nds : List Nd} {j : Nat} {d : Nd} (h : nds[j]? = some d) : c8 (nds.take (j + 1)) = c8 (nds.take j) + (if d.op = 8 then 1 else 0) := by
  obtain ⟨hl, hd⟩ := List.getElem?_eq_some_iff.1 h
  rw [List.take_succ_eq_append_getElem hl, c8_append, hd]
  unfold c8
  by_cases h8 : d.op = 8
  · simp [h8]
  · simp [h8]
set_option maxHeartbeats 4000000 in
set_option maxRecDepth 100000 in
theorem psnd_law (s last : ByteArray) (g : Gl w) : Calls Tryz.prog 3 #[.string s, .string last] w fun e w' => e = .returned (.bool true) ∧ Kp w w' := by
  obtain ⟨n, hn⟩ : ∃ n, s.size = n := ⟨_, rfl⟩
  obtain ⟨m, hm⟩ : ∃ m, last.size = m := ⟨_, rfl⟩
  have HG : Hid (Gl w) := g
  clear g
  by_cases h1 : 400 < n
  · have d1 : decide ((400 : Int) < (n : Int)) = true := decide_eq_true (by omega)
    go_enter Tryz.func3, Tryz.ntmps3
    go_wp2_with fail
    refine Calls.mono (known_any HG.out) ?_
    rintro e w1 ⟨rfl, q⟩
    have HK : Hid (Kp w w1) := q
    clear q
    go_wp2_with fail
    go_ret
    exact ⟨rfl, HK.out⟩
  have d1 : decide ((400 : Int) < (n : Int)) = false := decide_eq_false (by omega)
  by_cases h2 : 1100 < m
  · have d2 : decide ((1100 : Int) < (m : Int)) = true := decide_eq_true (by omega)
    go_enter Tryz.func3, Tryz.ntmps3
    go_wp2_with fail
    refine Calls.mono (known_any HG.out) ?_
    rintro e w1 ⟨rfl, q⟩
    have HK : Hid (Kp w w1) := q
    clear q
    go_wp2_with fail
    go_ret
    exact ⟨rfl, HK.out⟩
  have d2 : decide ((1100 : Int) < (m : Int)) = false := decide_eq_false (by omega)
  cases hp : see (parF s last) with
  | error x =>
    obtain ⟨x1, x2⟩ := x
    have HP : Hid (see (parF s last) = .error (x1, x2)) := hp
    have hz : x1 = 30 ∨ x1 = 31 ∨ x1 = 32 ∨ x1 = 33 := see_err hp
    have hx2 : x2 ≤ n := by rw [← hn]; exact seep_err hp
    have e0 : decide ((0 : Int) ≤ (x2 : Int)) = true := decide_eq_true (by omega)
    have e1 : decide ((x2 : Int) ≤ (n : Int)) = true := decide_eq_true (by omega)
    have e2 : decide (x2 ≤ n) = true := decide_eq_true hx2
    clear hp hx2
    rcases hz with rfl | rfl | rfl | rfl
    all_goals
      go_enter Tryz.func3, Tryz.ntmps3
      go_wp2_with fail
      refine Calls.mono (known_any HG.out) ?_
      rintro e w1 ⟨rfl, q⟩
      have HK : Hid (Kp w w1) := q
      clear q
      go_wp2_with fail
      refine Calls.mono (parse_no s last (HG.out.kp HK.out) HP.out) ?_
      rintro e w2 ⟨rfl, q⟩
      have HK2 : Hid (Kp w w2) := kp_trans HK.out q
      clear q
      go_wp2_with fail
      go_ret
      exact ⟨rfl, kp_trans HK2.out (kp_alloc _ _)⟩
  | ok x =>
    obtain ⟨i, gs, cs, nds⟩ := x
    obtain ⟨t, p1, p2, p3, p4, p5, p6⟩ := par_all hp
    obtain ⟨⟨X, nn, r1, r2⟩, r3, r4, r5⟩ := par_print hp
    have HP : Hid (see (parF s last) = .ok (i, gs, cs, nds) ∧ soundF (nds.map Nd.q) (i : Int) (gs : Int) = true ∧ nds.length ≤ 400 ∧ (∀ d ∈ nds.map Nd.q, d.kids.length ≤ 400) ∧ prF (nds.map Nd.q) nn [(headT (gs : Int) cs, (i : Int))] [] = some X ∧ X ≠ [] ∧ (∀ d ∈ nds.map Nd.q, Nok d) ∧ gs ≤ c8 nds ∧ gs ≤ 9) := ⟨hp, p1, p5, p6, r1, r2, r3, r4, r5⟩
    clear hp p1 p2 p3 p4 p6 r1 r2 r3 r4
    obtain ⟨N, hN⟩ : ∃ N, nds.length = N := ⟨_, rfl⟩
    rw [hN] at p5
    go_enter Tryz.func3, Tryz.ntmps3
    go_wp2_with fail
    refine Calls.mono (known_any HG.out) ?_
    rintro e w1 ⟨rfl, q⟩
    have HK : Hid (Kp w w1) := q
    clear q
    go_wp2_with fail
    refine Calls.mono (parse_ok s last (HG.out.kp HK.out) HP.out.1) ?_
    rintro e w2 ⟨va, vc, rfl, q1, q2⟩
    have HN : Hid (nds.length = N) := hN
    rw [hN] at q1 ⊢
    clear hN
    obtain ⟨⟨x0, x1⟩, ⟨x2, x3⟩, xk⟩ := boxP w2 (.slice va N vc) (.int .i64 i) (.int .i64 gs) (.int .u8 cs)
    have K1 : Hid (Pt (w2.alloc (.cells #[.slice va N vc, .int .i64 i, .int .i64 gs, .int .u8 cs] 25)) (.slice va N vc) (nds.map Nd.q) ∧ Kp w (w2.alloc (.cells #[.slice va N vc, .int .i64 i, .int .i64 gs, .int .u8 cs] 25))) := ⟨q1.kp xk, kp_trans HK.out (kp_trans q2 xk)⟩
    clear q1 q2 xk
    go_wp2_with fail
    obtain ⟨pb, hpb⟩ : ∃ pb, w2.heap.size = pb := ⟨_, rfl⟩
    rw [hpb] at x0 x1 x2 x3 ⊢
    clear hpb
    generalize (w2.alloc (.cells #[.slice va N vc, .int .i64 i, .int .i64 gs, .int .u8 cs] 25)) = W1 at *
    go_loopw [8, 9] (fun v8 v9 wr => ∃ j : Nat, j ≤ N ∧ v9 = .int .i64 j ∧ v8 = .int .i64 (c8 (nds.take j) : Nat) ∧ wr = W1) (fun _ v9 _ => N - (intOf v9).toNat)
    case atStart => exact ⟨0, Nat.zero_le _, rfl, by simp [c8], rfl⟩
    case round =>
      obtain ⟨j, hj, rfl, rfl, rfl⟩ := hrel
      by_cases hlj : j < N
      · have dj : decide ((j : Int) < (N : Int)) = true := decide_eq_true (by omega)
        obtain ⟨d, hd⟩ : ∃ d, nds[j]? = some d := ⟨_, List.getElem?_eq_getElem (by rw [HN.out]; exact hlj)⟩
        have HS : Hid (c8 (nds.take (j + 1)) = c8 (nds.take j) + (if d.op = 8 then 1 else 0)) := c8_step hd
        obtain ⟨a', cap', e', z1, z2, z3⟩ := id K1.out.1
        injection e' with e1 e2 e3
        obtain ⟨b, o, kv, ea, hc, _⟩ := z3 j d.q (by rw [List.getElem?_map, hd]; rfl)
        have c0 := hc 0 _ rfl
        have hva : va = some ⟨b, o, none⟩ := by rw [e1, ea]
        subst hva
        obtain ⟨op, hop⟩ : ∃ op, d.op = op := ⟨_, rfl⟩
        have c0' : wr.cell? ⟨b, o + j * 11, none⟩ = some (.int .u8 op) := by rw [← hop]; exact c0
        obtain ⟨G0, hG0⟩ : ∃ G0, c8 (nds.take j) = G0 := ⟨_, rfl⟩
        have hG4 : G0 ≤ 400 := by
          have q1 : c8 (nds.take j) ≤ (nds.take j).length := List.countP_le_length
          have q2 : (nds.take j).length ≤ j := by simp; omega
          omega
        rw [hop, hG0] at HS
        rw [hG0]
        clear hd z1 z2 z3 hc c0 hop hG0 e1 e2 e3 ea
        by_cases h8 : op = 8
        · subst h8
          have HS' : Hid (c8 (nds.take (j + 1)) = G0 + 1) := HS.out
          clear HS
          go_wp2_with fail
          go_roundw
          case rel => exact ⟨j + 1, by omega, by go_num, by rw [HS'.out]; go_num, trivial⟩
          case measure => simp only [intOf]; omega
        · have n8 : ((op : Int) == 8) = false := by simp; omega
          have HS' : Hid (c8 (nds.take (j + 1)) = G0) := by have := HS.out; rw [if_neg h8] at this; exact this
          clear HS h8
          go_wp2_with fail
          go_roundw
          case rel => exact ⟨j + 1, by omega, by go_num, by rw [HS'.out], trivial⟩
          case measure => simp only [intOf]; omega
      · have dj : decide ((j : Int) < (N : Int)) = false := decide_eq_false (by omega)
        obtain ⟨G0, hG0⟩ : ∃ G0, c8 (nds.take j) = G0 := ⟨_, rfl⟩
        have hG1 : gs ≤ G0 := by rw [← hG0, List.take_of_length_le (by rw [HN.out]; omega)]; exact HP.out.2.2.2.2.2.2.2.1
        rw [hG0]
        have f1 : decide ((N : Int) ≤ 400) = true := decide_eq_true (by omega)
        have f2 : decide ((gs : Int) ≤ (G0 : Int)) = true := decide_eq_true (by omega)
        have f3 : decide ((gs : Int) ≤ 9) = true := decide_eq_true (by have := HP.out.2.2.2.2.2.2.2.2; omega)
        obtain ⟨xl, hxl⟩ : ∃ xl, (⟨X.toArray⟩ : ByteArray).size = xl := ⟨_, rfl⟩
        have hx0 : 0 < xl := by rw [← hxl, show (⟨X.toArray⟩ : ByteArray).size = X.length from by simp [ByteArray.size]]; have := HP.out.2.2.2.2.2.1; cases X with
          | nil => exact absurd rfl this
          | cons a l => simp
        have f4 : decide ((0 : Int) < (xl : Int)) = true := decide_eq_true (by omega)
        have f5 : decide (N ≤ 400) = true := decide_eq_true (by omega)
        have f6 : decide (gs ≤ G0) = true := decide_eq_true (by omega)
        have f7 : decide (gs ≤ 9) = true := decide_eq_true (by have := HP.out.2.2.2.2.2.2.2.2; omega)
        have f8 : decide (0 < xl) = true := decide_eq_true (by omega)
        clear hG0 hG1 hx0
        go_wp2_with fail
        have P := sound_any K1.out.1 (i : Int) (gs : Int) cs HP.out.2.2.2.1 (by rw [List.length_map]; have := HP.out.2.2.1; omega) (by rw [List.length_map]; have := HP.out.2.2.1; omega)
        rw [HP.out.2.1] at P
        refine Calls.mono P ?_
        clear P
        rintro e w3 ⟨rfl, q⟩
        have HK3 : Hid (Kp w w3 ∧ Pt w3 (.slice va N vc) (nds.map Nd.q)) := ⟨kp_trans K1.out.2 q, K1.out.1.kp q⟩
        replace x0 := kp_cell q x0
        replace x1 := kp_cell q x1
        replace x2 := kp_cell q x2
        replace x3 := kp_cell q x3
        clear q
        go_wp2_with fail
        refine Calls.mono (pprint_any (K := 400) HK3.out.2 HP.out.2.2.2.1 (by rw [List.length_map]; have := HP.out.2.2.1; omega) (by rw [List.length_map]; have := HP.out.2.2.1; omega) (HG.out.kp HK3.out.1) (by unfold Sm; have := HP.out.2.2.2.2.2.2.2.2; omega) HP.out.2.2.2.2.2.2.1 HP.out.2.1 HP.out.2.2.2.2.1 HP.out.2.2.2.2.2.1) ?_
        rintro e w4 ⟨rfl, q⟩
        have HK4 : Hid (Kp w w4) := kp_trans HK3.out.1 q
        clear q
        go_wp2_with fail
        go_ret
        exact ⟨rfl, HK4.out⟩
end
end Go.Proofs.YtmghdogoeehodaaGreatDoor
