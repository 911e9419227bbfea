/- Texts that the proof of the law stands on: Inry, Inrz, Kn1, InS, Eval0, Eval1, Eval4, Til, Lex, Lex2, Eval3, Lex3, Lex4, Lex5, Lex6, Lex7, Mod0, Mod1, Mod2. -/
import Derived.Test.YtpahpnajeliodaaGreatDoorPartH
import Derived.Test.YtpahpnajeliodaaGreatDoorPartB
import Derived.Lib.SmallJoins
import Derived.OpenShut
import Derived.Deep.Slices
/- A fault's place lies in the text. -/
namespace Go.Proofs.YtpahpnajeliodaaGreatDoor
set_option linter.unusedVariables false
set_option linter.unusedSimpArgs false
section
variable {s last : ByteArray} {r r' : RS} {t : Tok} {i n : Nat} {ks : List Nat} {e : Nat × Nat}
theorem pl_of {n p : Nat} {α : Type} (hp : p ≤ s.size) (h : (.error (n, p) : Except (Nat × Nat) α) = .error e) : e.2 ≤ s.size := by cases h; exact hp
theorem next_pl : ∀ (f : Nat) {k : Nat} {md : ByteArray} {cs : Nat} {t : Tok} {k' : Nat} {md' : ByteArray} {cs' : Nat}, k ≤ s.size → nextF s f k md cs = .ok (t, k', md', cs') → t.pl ≤ s.size
  | 0, k, md, cs, t, k', md', cs', _, h => by simp [nextF] at h
  | f + 1, k, md, cs, t, k', md', cs', hk, h => by
    rw [nextF] at h
    split at h
    · cases h
    · rename_i t1 k1 h1
      have hp : t1.pl ≤ s.size := by
        unfold tokOf at h1
        split at h1
        · split at h1
          · split at h1
            · cases h1; exact hk
            · cases h1
          · cases h1; exact hk
        · cases h1; exact hk
      split at h
      · split at h
        · exact next_pl f (tokOf_le h1 hk).2.1 h
        · cases h; exact hp
      · cases h; exact hp
theorem nexp_err : ∀ (f k : Nat) (md : ByteArray) (cs : Nat), k ≤ s.size → nextF s f k md cs = .error e → e.2 ≤ s.size
  | 0, k, md, cs, hp, h => pl_of hp h
  | f + 1, k, md, cs, hp, h => by
    rw [nextF] at h
    split at h
    · exact pl_of hp h
    · rename_i t1 k1 h1
      split at h
      · split at h
        · exact nexp_err f _ _ _ (tokOf_le h1 hp).2.1 h
        · cases h
      · cases h
theorem mant_err (hp : t.pl ≤ s.size) (h : manyF s t ks r = .error e) : e.2 ≤ s.size := by
  unfold manyF at h
  split at h
  · split at h
    · exact pl_of hp h
    · cases h
  · split at h
    · split at h
      · rename_i x hx
        cases h
        unfold timesF at hx
        split at hx
        · cases hx
        · split at hx
          · cases hx
          · split at hx
            · split at hx
              · exact pl_of hp hx
              · cases hx
            · cases hx
      · cases h
    · split at h
      · exact pl_of hp h
      · cases h
theorem lettep_err (hp : t.pl ≤ s.size) (h : letterF s t r = .error e) : e.2 ≤ s.size := by
  unfold letterF at h
  split at h
  · cases h
  split at h
  · cases h
  split at h
  · unfold edgeF at h
    split at h
    · cases h
    · split at h
      · cases h
      · exact pl_of hp h
  split at h
  · unfold backF at h
    split at h
    · cases h
    · exact pl_of hp h
  split at h
  · cases h
  · exact pl_of hp h
theorem piecp_err {G : Tok → RS → Except (Nat × Nat) (Nat × RS)} {first : Bool} (hp : t.pl ≤ s.size) (hk : r.k ≤ s.size) (hG : G t r = .error e → e.2 ≤ s.size) (h : pieceF G s last t first r = .error e) : e.2 ≤ s.size := by
  unfold pieceF at h
  split at h
  · unfold signF at h
    split at h
    · split at h <;> cases h
    split at h
    · unfold eolF at h
      split at h
      · rename_i x hx; cases h; exact nexp_err _ _ _ _ hk hx
      · split at h <;> cases h
    split at h
    · cases h
    split at h
    · cases h
    split at h
    · cases h
    split at h
    · cases h
    split at h
    · unfold setF at h
      split at h
      · rename_i x hx
        cases h
        unfold collF at hx
        split at hx
        · cases hx
        · split at hx
          · exact pl_of hp hx
          · cases hx
      · cases h
      · cases h
    split at h
    · exact hG h
    · cases h
  · split at h
    · exact lettep_err hp h
    · cases h
theorem groupp_err {BR : RS → Except (Nat × Nat) (Nat × Tok × RS)} (hp : t.pl ≤ s.size) (hd : Gd s r) (hB : r.g ≠ 9 → BR { r with g := r.g + 1 } = .error e → e.2 ≤ s.size) (h : groupF BR t r = .error e) : e.2 ≤ s.size := by
  unfold groupF at h
  split at h
  · exact pl_of hp h
  · rename_i h9
    split at h
    · rename_i x hx; cases h; exact hB h9 hx
    · split at h
      · exact pl_of hp h
      · cases h
theorem brp_err {P : Tok → Bool → RS → Except (Nat × Nat) (Nat × RS)} {g0 : Nat} (hP : ∀ t r ks i r', MdJ s g0 t r ks → P t ks.isEmpty r = .ok (i, r') → Aft s 0 0 r i r') (hE : ∀ t r ks e, MdJ s g0 t r ks → t.pl ≤ s.size → P t ks.isEmpty r = .error e → e.2 ≤ s.size) :
    ∀ (f : Nat) (r : RS) (ks : List Nat), HdI s g0 r ks → s.size < r.k + f → brF P s f r ks = .error e → e.2 ≤ s.size := by
  intro f
  induction f with
  | zero => intro r ks hI hf; have := hI.gd.sz; omega
  | succ f ih =>
    intro r ks hI hf h
    rw [brF] at h
    split at h
    · rename_i x hx; cases h; exact nexp_err _ _ _ _ hI.gd.sz hx
    · rename_i t1 k md cs hn
      have hpl := next_pl _ hI.gd.sz hn
      split at h
      · cases h
      · rename_i he
        obtain ⟨j1, j2⟩ := mdJ_of hI hn (Bool.eq_false_iff.2 he)
        split at h
        · split at h
          · rename_i x hx; cases h; exact mant_err hpl hx
          · rename_i ks' r1 hm
            obtain ⟨q1, q2⟩ := hdI_many j1 hm
            simp only at q2
            exact ih _ _ q1 (by omega) h
        · split at h
          · rename_i x hx; cases h; exact hE _ _ _ _ j1 hpl hx
          · rename_i i1 r1 hp
            have a := hP _ _ _ _ _ j1 hp
            have ak := a.k
            simp only at ak
            exact ih _ _ (hdI_piece j1 a) (by omega) h
theorem brsp_err {F : RS → Except (Nat × Nat) (Nat × Tok × RS)} {g0 : Nat} (hF : ∀ r ks i t r', HdI s g0 r ks → F r = .ok (i, t, r') → Aft s 1 (room t) r i r' ∧ (t.kd ≠ 0 → r.k < r'.k)) (hE : ∀ r ks e, HdI s g0 r ks → F r = .error e → e.2 ≤ s.size) :
    ∀ (f : Nat) (r : RS) (ks : List Nat), HdI s g0 r ks → s.size < r.k + f → brsL F f r ks = .error e → e.2 ≤ s.size := by
  intro f
  induction f with
  | zero => intro r ks hI hf; have := hI.gd.sz; omega
  | succ f ih =>
    intro r ks hI hf h
    rw [brsL] at h
    split at h
    · rename_i x hx; cases h; exact hE _ _ _ hI hx
    · rename_i i1 t1 r1 h1
      obtain ⟨a, b⟩ := hF _ _ _ _ _ hI h1
      split at h
      · rename_i hc
        have e1 := a.nd
        have e2 := a.k
        have e3 := a.up
        have e4 := a.g
        have l0 := hI.len
        have g0' := hI.g0
        have hk := b (by omega)
        have er : room t1 = 4 := by unfold room; rw [if_neg (by omega)]
        rw [er] at e1
        refine ih _ _ (⟨⟨a.sz, by omega, a.cl, a.g9⟩, by simp; omega, fun p hp => ?_, by omega⟩ : HdI s g0 r1 (ks ++ [i1])) (by omega) h
        simp only [List.mem_append, List.mem_singleton] at hp
        rcases hp with hp | hp
        · have := hI.lt p hp; omega
        · rw [hp]; exact a.i
      · cases h
theorem brsFp_err (hla : last.size ≤ 1100) : ∀ (n : Nat) (r : RS) (e : Nat × Nat), 9 - r.g < n → Gd s r → brsF s last n r = .error e → e.2 ≤ s.size
  | 0, _, _, hn, _, _ => by omega
  | n + 1, r, e, hn, hd, h => by
    rw [brsF] at h
    have hPa : ∀ t r1 ks i r', MdJ s r.g t r1 ks → pieceF (groupF (brsF s last n)) s last t ks.isEmpty r1 = .ok (i, r') → Aft s 0 0 r1 i r' := fun t r1 ks i r' hJ hp =>
      pieceF_aft hla hJ.sz hJ.nd hJ.cl hJ.g (fun i5 r5 h5 => groupF_aft hJ.gd (fun r6 i6 t6 r7 h6 h7 => brsF_aft hla n r6 i6 t6 r7 h6 h7) h5) hp
    refine brsp_err (g0 := r.g) (fun r1 ks i t r' hI hb => brF_aft hPa _ _ _ _ _ _ (⟨hI.gd, by simp, fun p hp => by simp at hp, hI.g0⟩ : HdI s r.g r1 []) hb) (fun r1 ks1 e1 hI h1 => ?_) _ _ _ hd.hd (by omega) h
    refine brp_err hPa (fun t2 r2 ks2 e2 hJ hp2 h2 => ?_) _ _ _ (⟨hI.gd, by simp, fun p hp => by simp at hp, hI.g0⟩ : HdI s r.g r1 []) (by omega) h1
    refine piecp_err hp2 hJ.sz (fun h3 => groupp_err hp2 hJ.gd (fun h9 h4 => ?_) h3) h2
    have hg := hJ.g
    have hg0 := hJ.g0
    have hgd := hJ.gd
    have hgd1 : Gd s { r2 with g := r2.g + 1 } := ⟨hgd.sz, hgd.nd, hgd.cl, by show r2.g + 1 ≤ 9; omega⟩
    exact brsFp_err hla n { r2 with g := r2.g + 1 } e2 (by show 9 - (r2.g + 1) < n; omega) hgd1 h4
theorem br_tok {P : Tok → Bool → RS → Except (Nat × Nat) (Nat × RS)} {g0 : Nat} (hP : ∀ t r ks i r', MdJ s g0 t r ks → P t ks.isEmpty r = .ok (i, r') → Aft s 0 0 r i r') :
    ∀ (f : Nat) (r : RS) (ks : List Nat) (i : Nat) (t : Tok) (r' : RS), HdI s g0 r ks → brF P s f r ks = .ok (i, t, r') → t.pl ≤ s.size := by
  intro f
  induction f with
  | zero => intro r ks i t r' hI h; simp [brF] at h
  | succ f ih =>
    intro r ks i t r' hI h
    rw [brF] at h
    split at h
    · cases h
    · rename_i t1 k md cs hn
      have hpl := next_pl _ hI.gd.sz hn
      split at h
      · cases h; exact hpl
      · rename_i he
        obtain ⟨j1, j2⟩ := mdJ_of hI hn (Bool.eq_false_iff.2 he)
        split at h
        · split at h
          · cases h
          · rename_i ks' r1 hm
            exact ih _ _ _ _ _ (hdI_many j1 hm).1 h
        · split at h
          · cases h
          · rename_i i1 r1 hp
            exact ih _ _ _ _ _ (hdI_piece j1 (hP _ _ _ _ _ j1 hp)) h
theorem brs_tok {F : RS → Except (Nat × Nat) (Nat × Tok × RS)} {g0 : Nat} (hF : ∀ r ks i t r', HdI s g0 r ks → F r = .ok (i, t, r') → Aft s 1 (room t) r i r' ∧ (t.kd ≠ 0 → r.k < r'.k)) (hE : ∀ r ks i t r', HdI s g0 r ks → F r = .ok (i, t, r') → t.pl ≤ s.size) :
    ∀ (f : Nat) (r : RS) (ks : List Nat) (i : Nat) (t : Tok) (r' : RS), HdI s g0 r ks → brsL F f r ks = .ok (i, t, r') → t.pl ≤ s.size := by
  intro f
  induction f with
  | zero => intro r ks i t r' hI h; simp [brsL] at h
  | succ f ih =>
    intro r ks i t r' hI h
    rw [brsL] at h
    split at h
    · cases h
    · rename_i i1 t1 r1 h1
      obtain ⟨a, b⟩ := hF _ _ _ _ _ hI h1
      have hpl := hE _ _ _ _ _ hI h1
      split at h
      · rename_i hc
        have e1 := a.nd
        have e2 := a.k
        have e3 := a.up
        have e4 := a.g
        have l0 := hI.len
        have g0' := hI.g0
        have hk := b (by omega)
        have er : room t1 = 4 := by unfold room; rw [if_neg (by omega)]
        rw [er] at e1
        refine ih _ _ _ _ _ (⟨⟨a.sz, by omega, a.cl, a.g9⟩, by simp; omega, fun p hp => ?_, by omega⟩ : HdI s g0 r1 (ks ++ [i1])) h
        simp only [List.mem_append, List.mem_singleton] at hp
        rcases hp with hp | hp
        · have := hI.lt p hp; omega
        · rw [hp]; exact a.i
      · cases h; exact hpl
theorem brsF_tok (hla : last.size ≤ 1100) (n : Nat) (r : RS) (i : Nat) (t : Tok) (r' : RS) (hd : Gd s r) (h : brsF s last n r = .ok (i, t, r')) : t.pl ≤ s.size := by
  cases n with
  | zero => cases h
  | succ n =>
    rw [brsF] at h
    have hPa : ∀ t r1 ks i r', MdJ s r.g t r1 ks → pieceF (groupF (brsF s last n)) s last t ks.isEmpty r1 = .ok (i, r') → Aft s 0 0 r1 i r' := fun t r1 ks i r' hJ hp =>
      pieceF_aft hla hJ.sz hJ.nd hJ.cl hJ.g (fun i5 r5 h5 => groupF_aft hJ.gd (fun r6 i6 t6 r7 h6 h7 => brsF_aft hla n r6 i6 t6 r7 h6 h7) h5) hp
    exact brs_tok (g0 := r.g) (fun r1 ks i t r' hI hb => brF_aft hPa _ _ _ _ _ _ (⟨hI.gd, by simp, fun p hp => by simp at hp, hI.g0⟩ : HdI s r.g r1 []) hb) (fun r1 ks1 i1 t1 r2 hI h1 => br_tok hPa _ _ _ _ _ _ (⟨hI.gd, by simp, fun p hp => by simp at hp, hI.g0⟩ : HdI s r.g r1 []) h1) _ _ _ _ _ _ hd.hd h
theorem parFp_err (h : parF s last = .error e) : e.2 ≤ s.size := by
  unfold parF at h
  split at h
  · exact pl_of (Nat.zero_le _) h
  · rename_i hsz
    have hd : Gd s rs0 := ⟨Nat.zero_le _, by simp [rs0], by simp [rs0], by simp [rs0]⟩
    unfold patF at h
    split at h
    · rename_i x hx
      cases h
      exact brsFp_err (by omega) 10 rs0 e (by decide) hd hx
    · rename_i i1 t1 r1 hx
      split at h
      · exact pl_of (brsF_tok (by omega) _ _ _ _ _ hd hx) h
      · split at h
        · exact pl_of (Nat.zero_le _) h
        · cases h
theorem seep_err (h : see (parF s last) = .error e) : e.2 ≤ s.size := by
  cases hp : parF s last with
  | error x => rw [hp] at h; cases h; exact parFp_err hp
  | ok x => rw [hp] at h; cases x; cases h
end
end Go.Proofs.YtpahpnajeliodaaGreatDoor
/- A printer that pushes the kids of a node and says the rest comes to an end, on trees. -/
namespace Go.Proofs.YtpahpnajeliodaaGreatDoor
set_option linter.unusedVariables false
set_option linter.unusedSimpArgs false
def okG (inn : Nat → Bool) (L : List Nq) (a : Int) (k : Nat) : Bool := hasB L a && (!(inn (nodeAt L a).op) || !(nodeAt L a).kids.isEmpty) && decide (k + (nodeAt L a).kids.length ≤ 900000)
def prG (inn : Nat → Bool) (push : Nq → List (List UInt8 × Int)) (say : Nq → List UInt8) (L : List Nq) : Nat → List (List UInt8 × Int) → List UInt8 → Option (List UInt8)
  | 0, _, _ => none
  | n + 1, ps, l =>
    match ps.getLast? with
    | none => some l
    | some (t, a) =>
      if 800000 < l.length + t.length ∨ 800000 < ps.length then none
      else if a = -1 then prG inn push say L n ps.dropLast (l ++ t)
      else if okG inn L a ps.dropLast.length then prG inn push say L n (ps.dropLast ++ push (nodeAt L a)) (l ++ t ++ say (nodeAt L a))
      else none
/-- The nodes that wait. -/
def nsP : List (List UInt8 × Int) → List Nat
  | [] => []
  | p :: ps => (if p.2 = -1 then [] else [p.2.toNat]) ++ nsP ps
def sumT (ps : List (List UInt8 × Int)) : Nat := (ps.map fun p => p.1.length).sum
def negP (ps : List (List UInt8 × Int)) : Nat := ps.countP fun p => p.2 == -1
theorem nsP_append (a b : List (List UInt8 × Int)) : nsP (a ++ b) = nsP a ++ nsP b := by
  induction a with
  | nil => rfl
  | cons p a ih => simp [nsP, ih]
theorem sumT_append (a b : List (List UInt8 × Int)) : sumT (a ++ b) = sumT a + sumT b := by simp [sumT]
theorem negP_append (a b : List (List UInt8 × Int)) : negP (a ++ b) = negP a + negP b := by simp [negP]
theorem len_ns (ps : List (List UInt8 × Int)) : ps.length = (nsP ps).length + negP ps := by
  induction ps with
  | nil => rfl
  | cons p ps ih =>
    have e : negP (p :: ps) = negP [p] + negP ps := by rw [← negP_append]; rfl
    rw [e]
    by_cases h : p.2 = -1
    · have : negP [p] = 1 := by simp [negP, h]
      simp [nsP, h]; omega
    · have : negP [p] = 0 := by simp [negP, h]
      simp [nsP, h]; omega
/-- What is asked of push and say at a node. -/
structure Push (inn : Nat → Bool) (push : Nq → List (List UInt8 × Int)) (say : Nq → List UInt8) (d : Nd) : Prop where
  nat : ∀ p ∈ push d.q, p.2 = -1 ∨ ∃ k : Nat, p.2 = k
  ns : nsP (push d.q) = d.kids.reverse
  neg : negP (push d.q) ≤ 1
  sum : sumT (push d.q) + (say d.q).length ≤ 300 + 2 * d.kids.length
  inn : inn d.op = true → d.kids ≠ []
section
variable {r : RS} {A : List Nat} {inn : Nat → Bool} {push : Nq → List (List UInt8 × Int)} {say : Nq → List UInt8}
theorem Wf.prints (h : Wf r A) (hN : r.nds.length ≤ 400) (hp : ∀ (k : Nat) (d : Nd), r.nds[k]? = some d → Push inn push say d) : ∀ (f : Nat) (ps : List (List UInt8 × Int)) (l : List UInt8) (asked : List Bool), asked.length = r.nds.length → 2 * asked.count false + negP ps < f → (∀ p ∈ ps, p.2 = -1 ∨ ∃ k : Nat, p.2 = k) →
    (nsP ps).Nodup → (∀ x ∈ nsP ps, asked[x]? = some false) →
    (∀ x ∈ nsP ps, ∀ (k : Nat) (d : Nd), r.nds[k]? = some d → asked[k]? = some false → x ∉ d.kids) → (∀ (k : Nat) (d : Nd), r.nds[k]? = some d → asked[k]? = some false → ∀ x ∈ d.kids, asked[x]? = some false) →
    l.length + sumT ps + 302 * asked.count false ≤ 1000 + 302 * r.nds.length + 2 * (nsP ps).length → negP ps + asked.count false ≤ r.nds.length →
    ∃ X, prG inn push say (r.nds.map Nd.q) f ps l = some X ∧ l.length + sumT ps ≤ X.length
  | 0, ps, l, asked, _, hc, _, _, _, _, _, _, _ => by omega
  | f + 1, ps, l, asked, hl, hc, hnat, hnd, hun, hfr, hkid, hsz, hneg => by
    rw [prG]
    cases hg : ps.getLast? with
    | none =>
      have : ps = [] := List.getLast?_eq_none_iff.1 hg
      subst this
      exact ⟨l, rfl, by simp [sumT]⟩
    | some x =>
      obtain ⟨t, a⟩ := x
      obtain ⟨qs, rfl⟩ := List.getLast?_eq_some_iff.1 hg
      have hns : (nsP (qs ++ [(t, a)])).length ≤ r.nds.length := nodup_len _ _ hnd fun x hx => by rw [← hl]; exact (List.getElem?_eq_some_iff.1 (hun x hx)).1
      have hln := len_ns (qs ++ [(t, a)])
      have hs1 : sumT (qs ++ [(t, a)]) = sumT qs + t.length := by rw [sumT_append]; simp [sumT]
      have hcn : asked.count false ≤ r.nds.length := by rw [← hl]; exact List.count_le_length
      simp only [List.dropLast_concat]
      rw [if_neg (by rw [hs1] at hsz; omega)]
      by_cases ha : a = -1
      · subst ha
        rw [if_pos rfl]
        have e1 : nsP (qs ++ [(t, (-1 : Int))]) = nsP qs := by rw [nsP_append]; simp [nsP]
        have e2 : negP (qs ++ [(t, (-1 : Int))]) = negP qs + 1 := by rw [negP_append]; rfl
        rw [e1] at hnd hun hfr hsz
        rw [e2] at hc hneg
        rw [hs1] at hsz ⊢
        obtain ⟨X, h1, h2⟩ := Wf.prints h hN hp f qs (l ++ t) asked hl (by omega) (fun p hpp => hnat p (by simp [hpp])) hnd hun hfr hkid (by rw [List.length_append]; omega) (by omega)
        exact ⟨X, h1, by rw [List.length_append] at h2; omega⟩
      · rw [if_neg ha]
        obtain ⟨k, rfl⟩ : ∃ k : Nat, a = k := by
          rcases hnat (t, a) (by simp) with q | q
          · exact absurd q ha
          · exact q
        have e1 : nsP (qs ++ [(t, (k : Int))]) = nsP qs ++ [k] := by rw [nsP_append]; simp [nsP]
        have e2 : negP (qs ++ [(t, (k : Int))]) = negP qs := by rw [negP_append]; simp [negP]
        rw [e1] at hnd hun hfr hsz
        rw [e2] at hc hneg
        rw [hs1] at hsz ⊢
        have hk := hun k (by simp)
        have hal : k < r.nds.length := by rw [← hl]; exact (List.getElem?_eq_some_iff.1 hk).1
        obtain ⟨d, hd⟩ : ∃ d, r.nds[k]? = some d := ⟨_, List.getElem?_eq_getElem hal⟩
        obtain ⟨q1, q2⟩ := node_q hd
        have P := hp k d hd
        have hkl := h.kl k d hd
        have hkn := h.kn k d hd
        have hklen := nodup_len k d.kids hkn hkl
        have hnd' := List.nodup_append.1 hnd
        have hok : okG inn (r.nds.map Nd.q) (k : Int) qs.length = true := by
          unfold okG
          rw [q1, q2]
          have e3 : d.q.kids.length = d.kids.length := by simp [Nd.q]
          have hi : (!(inn d.q.op) || !d.q.kids.isEmpty) = true := by
            cases hii : inn d.q.op with
            | false => rfl
            | true =>
              have := P.inn hii
              cases hdk : d.kids with
              | nil => exact absurd hdk this
              | cons x y => simp [Nd.q, hdk]
          rw [hi, e3]
          simp only [Bool.true_and, decide_eq_true_eq]
          have hq := len_ns qs
          have hq2 : (nsP qs).length + 1 ≤ r.nds.length := by rw [e1] at hns; simpa using hns
          omega
        rw [if_pos hok, q1]
        have hset : ∀ x, x ≠ k → (asked.set k true)[x]? = asked[x]? := fun x hx => List.getElem?_set_ne (fun e => hx e.symm)
        have hcount := count_set hk
        have hun' : ∀ j, (asked.set k true)[j]? = some false → j ≠ k ∧ asked[j]? = some false := fun j hj => by
          by_cases e : j = k
          · subst e
            rw [List.getElem?_set_self (by omega)] at hj
            cases hj
          · rw [hset j e] at hj; exact ⟨e, hj⟩
        have hnsq : nsP (qs ++ push d.q) = nsP qs ++ d.kids.reverse := by rw [nsP_append, P.ns]
        have hPs := P.sum
        have hPn := P.neg
        obtain ⟨X, h1, h2⟩ := Wf.prints h hN hp f (qs ++ push d.q) (l ++ t ++ say d.q) (asked.set k true) (by rw [List.length_set]; exact hl) (by rw [negP_append]; omega)
          (fun p hpp => by
            rw [List.mem_append] at hpp
            rcases hpp with hpp | hpp
            · exact hnat p (by simp [hpp])
            · exact P.nat p hpp)
          (by
            rw [hnsq]
            refine List.nodup_append.2 ⟨hnd'.1, List.pairwise_reverse.2 (List.Pairwise.imp (fun q => Ne.symm q) hkn), fun x hx y hy e => ?_⟩
            subst e
            rw [List.mem_reverse] at hy
            exact hfr x (by simp [hx]) k d hd hk hy)
          (by
            intro x hx
            rw [hnsq, List.mem_append, List.mem_reverse] at hx
            rcases hx with hx | hx
            · rw [hset x (fun e => hnd'.2.2 x hx k (by simp) e)]
              exact hun x (by simp [hx])
            · rw [hset x (by have := hkl x hx; omega)]
              exact hkid k d hd hk x hx)
          (by
            intro x hx j e he hj hc2
            obtain ⟨k1, k2⟩ := hun' j hj
            rw [hnsq, List.mem_append, List.mem_reverse] at hx
            rcases hx with hx | hx
            · exact hfr x (by simp [hx]) j e he k2 hc2
            · exact k1 (h.own j k e d x he hd hc2 hx))
          (by
            intro j e he hj x hx
            obtain ⟨k1, k2⟩ := hun' j hj
            rw [hset x (fun q => hfr k (by simp) j e he k2 (q ▸ hx))]
            exact hkid j e he k2 x hx)
          (by
            rw [hnsq, sumT_append, List.length_append, List.length_append, List.length_append, List.length_reverse]
            rw [List.length_append] at hsz
            simp at hsz
            omega)
          (by rw [negP_append]; omega)
        refine ⟨X, h1, ?_⟩
        rw [sumT_append, List.length_append, List.length_append] at h2
        omega
end
end Go.Proofs.YtpahpnajeliodaaGreatDoor
/- The law's known. -/
namespace Go.Proofs.YtpahpnajeliodaaGreatDoor
open Go.ChangeShapes Go.WideShapes Go.ChangeAt Go.RowKit
set_option linter.unusedVariables false
set_option linter.unusedSimpArgs false
section
variable {w w1 : World}
/-- Parse, told by what is seen. -/
theorem parse_ok (s last : ByteArray) (g : Gl w) {i gs cs : Nat} {nds : List Nd} (h : see (parF s last) = .ok (i, gs, cs, nds)) :
    Calls Tryz.prog 5 #[.string s, .string last] w fun e w' => ∃ va vc, e = .returned (.tuple #[.agg #[.slice va nds.length vc, .int .i64 i, .int .i64 gs, .int .u8 cs], .int .u16 0, .int .i64 0]) ∧ Pt w' (.slice va nds.length vc) (nds.map Nd.q) ∧ Kp w w' := by
  obtain ⟨m, hm⟩ := g.max
  have := parse_any s last g.big hm
  cases hR : parF s last with
  | error x => rw [hR] at h; cases h
  | ok x =>
    obtain ⟨j, r⟩ := x
    rw [hR] at h this
    simp only [see, Except.ok.injEq, Prod.mk.injEq] at h
    obtain ⟨rfl, rfl, rfl, rfl⟩ := h
    refine this.mono ?_
    rintro e w' ⟨v, rfl, q1, q2⟩
    obtain ⟨va, vc, e, _⟩ := id q1
    rw [List.length_map] at e
    subst e
    exact ⟨va, vc, rfl, q1, q2⟩
theorem parse_no (s last : ByteArray) (g : Gl w) {n p : Nat} (h : see (parF s last) = .error (n, p)) :
    Calls Tryz.prog 5 #[.string s, .string last] w fun e w' => e = .returned (.tuple #[.agg #[.slice none 0 0, .int .i64 0, .int .i64 0, .int .u8 0], .int .u16 n, .int .i64 p]) ∧ Kp w w' := by
  obtain ⟨m, hm⟩ := g.max
  have := parse_any s last g.big hm
  cases hR : parF s last with
  | error x =>
    rw [hR] at h this
    simp only [see, Except.error.injEq] at h
    subst h
    exact this
  | ok x => rw [hR] at h; cases h
theorem nok1 : ∀ d ∈ L1.map Nd.q, Nok d := by
  intro d hd
  simp only [L1, List.map_cons, List.map_nil, List.mem_cons, List.not_mem_nil, or_false] at hd
  rcases hd with rfl | rfl <;> exact ⟨by decide, ⟨by decide, by decide, by decide, by decide⟩, by unfold Sm; decide, by unfold Sm; decide, by unfold Sm; decide⟩
theorem nok2 : ∀ d ∈ L2.map Nd.q, Nok d := by
  intro d hd
  simp only [L2, List.map_cons, List.map_nil, List.mem_cons, List.not_mem_nil, or_false] at hd
  rcases hd with rfl | rfl | rfl | rfl | rfl <;> exact ⟨by decide, ⟨by decide, by decide, by decide, by decide⟩, by unfold Sm; decide, by unfold Sm; decide, by unfold Sm; decide⟩
set_option maxHeartbeats 4000000 in
set_option maxRecDepth 100000 in
theorem known_any (g : Gl w) : Calls Tryz.prog 4 #[] w fun e w' => e = .returned (.bool true) ∧ Kp w w' := by
  have HG : Hid (Gl w) := g
  clear g
  go_enter Tryz.func4, Tryz.ntmps4
  go_wp2_with fail
  refine Calls.mono (parse_ok ⟨#[97, 42]⟩ ⟨#[]⟩ HG.out kn1) ?_
  rintro e w1 ⟨va1, vc1, rfl, q1, q2⟩
  have H1 : Hid (Pt w1 (.slice va1 2 vc1) (L1.map Nd.q) ∧ Kp w w1) := ⟨q1, q2⟩
  simp only [show L1.length = 2 from rfl]
  clear q1 q2
  go_wp2_with fail
  refine Calls.mono (parse_ok ⟨#[92, 118, 97, 124, 40, 98, 41, 43]⟩ ⟨#[]⟩ (HG.out.kp (kp_trans H1.out.2 (kp_alloc _ _))) kn2) ?_
  rintro e w2 ⟨va2, vc2, rfl, q1, q2⟩
  have H2 : Hid (Pt w2 (.slice va2 5 vc2) (L2.map Nd.q) ∧ Kp w w2 ∧ Kp w1 w2 ∧ PBox w1.heap.size (.slice va1 2 vc1) 1 0 0 w2) := ⟨q1, kp_trans (kp_trans H1.out.2 (kp_alloc _ _)) q2, kp_trans (kp_alloc _ _) q2, (show PBox _ _ _ _ _ (w1.alloc _) from alloc_new w1 _).kp q2⟩
  simp only [show L2.length = 5 from rfl]
  clear q1 q2
  go_wp2_with fail
  refine Calls.mono (parse_no ⟨#[97, 92, 43, 92, 43]⟩ ⟨#[]⟩ (HG.out.kp (kp_trans H2.out.2.1 (kp_alloc _ _))) kn3) ?_
  rintro e w3 ⟨rfl, q⟩
  have H3 : Hid (Kp w w3 ∧ Pt w3 (.slice va1 2 vc1) (L1.map Nd.q) ∧ Pt w3 (.slice va2 5 vc2) (L2.map Nd.q) ∧ PBox w1.heap.size (.slice va1 2 vc1) 1 0 0 w3 ∧ PBox w2.heap.size (.slice va2 5 vc2) 4 1 0 w3) :=
    ⟨kp_trans (kp_trans H2.out.2.1 (kp_alloc _ _)) q, (H1.out.1.kp H2.out.2.2.1).kp (kp_trans (kp_alloc _ _) q), H2.out.1.kp (kp_trans (kp_alloc _ _) q), H2.out.2.2.2.kp (kp_trans (kp_alloc _ _) q), (show PBox _ _ _ _ _ (w2.alloc _) from alloc_new w2 _).kp q⟩
  clear q
  have HA : Hid (∀ ob, PBox w1.heap.size (.slice va1 2 vc1) 1 0 0 (w3.alloc ob)) := fun ob => H3.out.2.2.2.1.kp (kp_alloc _ _)
  have y0 := fun ob => (HA.out ob).cells.1
  have y1 := fun ob => (HA.out ob).cells.2.1
  have y2 := fun ob => (HA.out ob).cells.2.2.1
  have y3 := fun ob => (HA.out ob).cells.2.2.2
  go_wp2_with fail
  refine Calls.mono (pprint_any (K := 2) (H3.out.2.1.kp (kp_alloc _ _)) (by decide) (by decide) (by decide) (HG.out.kp (kp_trans H3.out.1 (kp_alloc _ _))) (by unfold Sm; decide) nok1 ks1 kp1 (by decide)) ?_
  rintro e w4 ⟨rfl, q⟩
  have H4 : Hid (Kp w w4 ∧ Pt w4 (.slice va2 5 vc2) (L2.map Nd.q) ∧ PBox w2.heap.size (.slice va2 5 vc2) 4 1 0 w4) := ⟨kp_trans (kp_trans H3.out.1 (kp_alloc _ _)) q, H3.out.2.2.1.kp (kp_trans (kp_alloc _ _) q), H3.out.2.2.2.2.kp (kp_trans (kp_alloc _ _) q)⟩
  clear q y0 y1 y2 y3 HA
  obtain ⟨y0, y1, y2, y3⟩ := H4.out.2.2.cells
  unfold T1
  go_wp2_with fail
  refine Calls.mono (pprint_any (K := 2) H4.out.2.1 (by decide) (by decide) (by decide) (HG.out.kp H4.out.1) (by unfold Sm; decide) nok2 ks2 kp2 (by decide)) ?_
  rintro e w5 ⟨rfl, q⟩
  have H5 : Hid (Kp w w5) := kp_trans H4.out.1 q
  clear q y0 y1 y2 y3
  unfold T2
  go_wp2_with fail
  go_ret
  exact ⟨rfl, H5.out⟩
end
end Go.Proofs.YtpahpnajeliodaaGreatDoor
/- What is read can be printed. -/
namespace Go.Proofs.YtpahpnajeliodaaGreatDoor
open Go.ChangeShapes Go.WideShapes Go.ChangeAt Go.RowKit
set_option linter.unusedVariables false
set_option linter.unusedSimpArgs false
theorem prF_eq (L : List Nq) : ∀ (n : Nat) (ps : List Part) (l : List UInt8), prF L n ps l = prG inner pushP sayP L n ps l
  | 0, _, _ => rfl
  | n + 1, ps, l => by
    rw [prF, prG]
    cases ps.getLast? with
    | none => rfl
    | some x =>
      obtain ⟨t, a⟩ := x
      simp only
      split
      · rfl
      · split
        · exact prF_eq L n _ _
        · have e : okP L a ps.dropLast.length = okG inner L a ps.dropLast.length := rfl
          rw [e]
          split
          · exact prF_eq L n _ _
          · rfl
theorem nsP_map (be : List UInt8) : ∀ ks : List Nat, nsP (ks.map fun (k : Nat) => (be, (k : Int))) = ks ∧ sumT (ks.map fun (k : Nat) => (be, (k : Int))) = ks.length * be.length ∧ negP (ks.map fun (k : Nat) => (be, (k : Int))) = 0
  | [] => ⟨rfl, by simp [sumT], rfl⟩
  | k :: ks => by
    obtain ⟨h1, h2, h3⟩ := nsP_map be ks
    have hk : ¬ ((k : Int) = -1) := by omega
    refine ⟨?_, ?_, ?_⟩
    · rw [List.map_cons, nsP, h1, if_neg hk]; simp
    · have : sumT ((be, (k : Int)) :: ks.map fun (k : Nat) => (be, (k : Int))) = be.length + sumT (ks.map fun (k : Nat) => (be, (k : Int))) := by simp [sumT]
      rw [List.map_cons, this, h2, List.length_cons, Nat.succ_mul]; omega
    · have : negP ((be, (k : Int)) :: ks.map fun (k : Nat) => (be, (k : Int))) = negP (ks.map fun (k : Nat) => (be, (k : Int))) := by simp [negP, hk]
      rw [List.map_cons, this, h3]
theorem list_push (ah be bh : List UInt8) (h1 : ah.length ≤ 100) (h2 : be.length ≤ 1) (h3 : bh.length ≤ 1) {ks : List Nat} (hk : ks ≠ []) :
    (∀ p ∈ listP ah be bh (ks.map fun (k : Nat) => (k : Int)), p.2 = -1 ∨ ∃ k : Nat, p.2 = k) ∧ nsP (listP ah be bh (ks.map fun (k : Nat) => (k : Int))) = ks.reverse ∧ negP (listP ah be bh (ks.map fun (k : Nat) => (k : Int))) ≤ 1 ∧ sumT (listP ah be bh (ks.map fun (k : Nat) => (k : Int))) ≤ 101 + ks.length := by
  cases ks with
  | nil => exact absurd rfl hk
  | cons x xs =>
    have e : listP ah be bh ((x :: xs).map fun (k : Nat) => (k : Int)) = [(bh, -1)] ++ (xs.reverse.map fun (k : Nat) => (be, (k : Int))) ++ [(ah, (x : Int))] := by
      unfold listP tailP
      simp [← List.map_reverse, Function.comp_def]
    have hx : ¬ ((x : Int) = -1) := by omega
    obtain ⟨q1, q2, q3⟩ := nsP_map be xs.reverse
    rw [e]
    refine ⟨fun p hp => ?_, ?_, ?_, ?_⟩
    · simp only [List.mem_append, List.mem_singleton, List.mem_map] at hp
      rcases hp with (rfl | ⟨k, _, rfl⟩) | rfl
      · exact .inl rfl
      · exact .inr ⟨k, rfl⟩
      · exact .inr ⟨x, rfl⟩
    · rw [nsP_append, nsP_append, q1]; simp [nsP, hx]
    · rw [negP_append, negP_append, q3]; simp [negP, hx]
    · have hm : xs.length * be.length ≤ xs.length := by have := Nat.mul_le_mul_left xs.length h2; omega
      rw [sumT_append, sumT_append, q2, List.length_reverse]
      simp [sumT]; omega
section
variable {r : RS} {A : List Nat}
theorem nd_nok (h : Wf r A) {k : Nat} {d : Nd} (hd : r.nds[k]? = some d) (hs : NdSm d) : Nok d.q := by
  obtain ⟨h1, h2, h3, h4, h5⟩ := hs
  have hg := h.g
  have hn : d.n ≤ 9 := by
    rcases h5 with q | q | q
    · have := h.ns k d hd (.inl q); omega
    · have := h.ns k d hd (.inr q); omega
    · omega
  have e1 : d.q.mn = d.mn := rfl
  have e2 : d.q.mx = d.mx := rfl
  have e3 : d.q.n = (d.n : Int) := rfl
  exact ⟨h1, h2, by unfold Sm; rw [e1]; omega, by unfold Sm; rw [e2]; omega, by unfold Sm; rw [e3]; omega⟩
theorem push_ok (h : Wf r A) {k : Nat} {d : Nd} (hd : r.nds[k]? = some d) (hs : NdSm d) : Push inner pushP sayP d := by
  have hn := nd_nok h hd hs
  have hl := leafT_len hn
  have eop : d.q.op = d.op := rfl
  have leaf : inner d.op = false → d.kids = [] → Push inner pushP sayP d := fun hi hk => by
    have e : pushP d.q = [] := by
      unfold inner at hi
      simp at hi
      unfold pushP
      rw [eop, if_neg (by omega), if_neg (by omega), if_neg (by omega), if_neg (by omega)]
    have e2 : sayP d.q = leafT d.q := by unfold sayP; rw [eop, hi]; rfl
    exact ⟨(by rw [e]; intro p hp; exact absurd hp (by simp)), by rw [e, hk]; rfl, by rw [e]; simp [negP], by rw [e, e2]; simp [sumT]; omega, fun q => by rw [hi] at q; cases q⟩
  have inn : ∀ (ah be bh : List UInt8), ah.length ≤ 100 → be.length ≤ 1 → bh.length ≤ 1 → d.kids ≠ [] → inner d.op = true → pushP d.q = listP ah be bh d.q.kids → Push inner pushP sayP d := fun ah be bh h1 h2 h3 hk hi hp => by
    have e2 : sayP d.q = [] := by unfold sayP; rw [eop, hi]; rfl
    obtain ⟨q1, q2, q3, q4⟩ := list_push ah be bh h1 h2 h3 hk
    have e4 : d.q.kids = d.kids.map fun (k : Nat) => (k : Int) := rfl
    rw [e4] at hp
    exact ⟨by rw [hp]; exact q1, by rw [hp]; exact q2, by rw [hp]; exact q3, by rw [hp, e2]; simp only [List.length_nil]; omega, fun _ => hk⟩
  rcases h.sh k d hd with ⟨h1, h2⟩ | ⟨h1, h2⟩ | ⟨h1, h2⟩ | ⟨h1, x, h2⟩ | ⟨h1, x, h2, hb, hr, hp⟩
  · refine leaf ?_ h2
    unfold leafB at h1
    unfold inner
    simp at h1 ⊢
    omega
  · have hk : d.kids ≠ [] := fun e => by rw [e] at h2; simp at h2
    rcases h1 with h1 | h1
    · exact inn [40] [] [41] (by simp) (by simp) (by simp) hk (by rw [h1]; rfl) (by unfold pushP; rw [eop, if_pos h1])
    · exact inn [40] [124] [41] (by simp) (by simp) (by simp) hk (by rw [h1]; rfl) (by unfold pushP; rw [eop, if_neg (by omega), if_pos h1])
  · exact leaf (by rw [h1]; rfl) h2
  · have hk : d.kids ≠ [] := by rw [h2]; simp
    have hi := itoa_len hn.n
    exact inn ([60] ++ Lib.itoa d.q.n) [] [62] (by simp; omega) (by simp) (by simp) hk (by rw [h1]; rfl) (by unfold pushP; rw [eop, if_neg (by omega), if_neg (by omega), if_neg (by omega), if_pos h1])
  · have hk : d.kids ≠ [] := by rw [h2]; simp
    have i1 := itoa_len hn.mn
    have i2 := itoa_len hn.mx
    have i3 : (openT d.q.lz).length ≤ 2 := by unfold openT; split <;> simp
    exact inn (timesT d.q) [] [] (by unfold timesT; simp; omega) (by simp) (by simp) hk (by rw [h1]; rfl) (by unfold pushP; rw [eop, if_neg (by omega), if_neg (by omega), if_pos h1])
end
/-- What is read can be printed, and numbers fit. -/
theorem par_print {s last : ByteArray} {i gs cs : Nat} {nds : List Nd} (h : see (parF s last) = .ok (i, gs, cs, nds)) :
    (∃ X n, prF (nds.map Nd.q) n [(headT (gs : Int) cs, (i : Int))] [] = some X ∧ X ≠ []) ∧ (∀ d ∈ nds.map Nd.q, Nok d) ∧ gs ≤ c8 nds ∧ gs ≤ 9 := by
  cases hp : parF s last with
  | error e => rw [hp] at h; cases e; cases h
  | ok x =>
    obtain ⟨j, r⟩ := x
    rw [hp] at h
    obtain ⟨hw, hl⟩ := parF_wf hp
    obtain ⟨hc, hsm⟩ := parF_sg hp
    have h' : (Except.ok (j, r.g, r.cs, r.nds) : Except (Nat × Nat) (Nat × Nat × Nat × List Nd)) = .ok (i, gs, cs, nds) := h
    injection h' with h'
    injection h' with e1 h'
    injection h' with e2 h'
    injection h' with e3 e4
    subst e1 e2 e3 e4
    have hg := hw.g
    have hj := hw.lt j (by simp)
    have hd : ∀ (k : Nat) (d : Nd), r.nds[k]? = some d → NdSm d := fun k d hd => hsm d (List.mem_of_getElem? hd)
    have hrep : ∀ x, x < r.nds.length → (List.replicate r.nds.length false)[x]? = some false := fun x hx => by simp [hx]
    have hji : ¬ ((j : Int) = -1) := by omega
    have hhead : (headT (r.g : Int) r.cs).length ≤ 30 ∧ 1 ≤ (headT (r.g : Int) r.cs).length := by
      have hi := itoa_len (n := (r.g : Int)) (by unfold Sm; omega)
      have hcl : (caseL r.cs).length = 1 := by unfold caseL; split; · rfl
                                               · split <;> rfl
      unfold headT
      simp; omega
    have ens : nsP [(headT (r.g : Int) r.cs, (j : Int))] = [j] := by simp [nsP, hji]
    have esum : sumT [(headT (r.g : Int) r.cs, (j : Int))] = (headT (r.g : Int) r.cs).length := by simp [sumT]
    have eneg : negP [(headT (r.g : Int) r.cs, (j : Int))] = 0 := by simp [negP, hji]
    obtain ⟨X, h1, h2⟩ := hw.prints hl (fun k d hk => push_ok hw hk (hd k d hk)) (2 * r.nds.length + 1) [(headT (r.g : Int) r.cs, (j : Int))] [] (List.replicate r.nds.length false) (by simp) (by rw [eneg]; simp)
      (fun p hpp => by simp only [List.mem_singleton] at hpp; subst hpp; exact .inr ⟨j, rfl⟩) (by rw [ens]; simp) (fun x hx => by rw [ens, List.mem_singleton] at hx; subst hx; exact hrep x hj)
      (fun x hx k d hk _ => by rw [ens] at hx; exact hw.fr x hx k d hk)
      (fun k d hk _ x hx => by have := hw.kl k d hk x hx; have := (List.getElem?_eq_some_iff.1 hk).1; exact hrep x (by omega))
      (by rw [ens, esum]; simp; omega) (by rw [eneg]; simp)
    refine ⟨⟨X, 2 * r.nds.length + 1, by rw [prF_eq]; exact h1, fun e => ?_⟩, fun d hdd => ?_, hc, hg⟩
    · rw [e, esum] at h2; simp only [List.length_nil] at h2; omega
    · obtain ⟨e, he, rfl⟩ := List.mem_map.1 hdd
      obtain ⟨k, hk, hke⟩ := List.getElem_of_mem he
      have hk' : r.nds[k]? = some e := by rw [List.getElem?_eq_getElem hk, hke]
      exact nd_nok hw hk' (hd k e hk')
end Go.Proofs.YtpahpnajeliodaaGreatDoor
/- Bounds in braces: what is read of a byte and what stands in braces behind it. -/
namespace Go.Proofs.YtpahpnajeliodaaGreatDoor
open Go.ChangeShapes Go.WideShapes Go.ChangeAt Go.RowKit
set_option linter.unusedVariables false
set_option linter.unusedSimpArgs false
theorem byteAt_list (l : List UInt8) (k : Nat) : byteAt ⟨l.toArray⟩ k = ((l[k]?).map UInt8.toNat).getD 0 := rfl
theorem size_list (l : List UInt8) : (⟨l.toArray⟩ : ByteArray).size = l.length := by rw [Lib.size_eq]
section
variable (X : List UInt8)
theorem brace_next0 : nextF ⟨([97, 92, 123] ++ X).toArray⟩ ((⟨([97, 92, 123] ++ X).toArray⟩ : ByteArray).size + 1) 0 mdM 0 = .ok (⟨1, 97, 0⟩, 1, mdM, 0) := by
  rw [nextF]
  have ha : amo 97 mdM = false := by decide
  simp [tokOf, byteAt_list, size_list, ha]
theorem brace_next1 : nextF ⟨([97, 92, 123] ++ X).toArray⟩ ((⟨([97, 92, 123] ++ X).toArray⟩ : ByteArray).size + 1) 1 mdM 0 = .ok (⟨2, 123, 1⟩, 3, mdM, 0) := by
  rw [nextF]
  have ha : amo 123 mdM = false := by decide
  have hb : amo 123 mdV = true := by decide
  simp [tokOf, escTok, byteAt_list, size_list, ha, hb]
theorem next_end (s md : ByteArray) (cs : Nat) : nextF s (s.size + 1) s.size md cs = .ok (⟨0, 0, s.size⟩, s.size, md, cs) := by
  rw [nextF]
  simp [tokOf]
theorem brace_no (hX : X.length ≤ 200) (h : bndF ⟨([97, 92, 123] ++ X).toArray⟩ 3 = none) : see (parF ⟨([97, 92, 123] ++ X).toArray⟩ ⟨#[]⟩) = .error (32, 1) := by
  have hsz := size_list ([97, 92, 123] ++ X)
  have h0 := brace_next0 X
  have h1 := brace_next1 X
  generalize hs : (⟨([97, 92, 123] ++ X).toArray⟩ : ByteArray) = s at *
  obtain ⟨f, hf⟩ : ∃ f, s.size + 1 = f + 1 + 1 := ⟨s.size - 1, by rw [hsz]; simp⟩
  have hbr : ∀ P, (∀ r, P ⟨1, 97, 0⟩ true r = .ok (plF ⟨1, 97, 0⟩ r)) → brF P s (f + 1 + 1) rs0 [] = .error (32, 1) := fun P hP => by
    rw [brF]
    simp only [rs0, h0]
    rw [if_neg (by decide), if_neg (by decide)]
    simp only [List.isEmpty_nil, hP, plF, addN, List.length_nil, List.nil_append]
    rw [brF]
    simp only [h1]
    rw [if_neg (by decide), if_pos (by decide)]
    simp [manyF, opOf, repB, timesF, h]
  unfold parF patF
  rw [if_neg (by have e0 : (⟨#[]⟩ : ByteArray).size = 0 := rfl; rw [hsz, e0]; simp; omega), brsF, hf, brsL, hbr _ (fun r => by simp [pieceF])]
  rfl
theorem brace_ok (hX : X.length ≤ 200) {n : Nat} {mx : Int} {lz : Bool} (h : bndF ⟨([97, 92, 123] ++ X).toArray⟩ 3 = some (n, mx, lz, X.length + 3)) : see (parF ⟨([97, 92, 123] ++ X).toArray⟩ ⟨#[]⟩) = .ok (1, 0, 0, [{ op := 2, c := 97 }, { op := 7, mn := n, mx := mx, lz := lz, kids := [0] }]) := by
  have hsz := size_list ([97, 92, 123] ++ X)
  have h0 := brace_next0 X
  have h1 := brace_next1 X
  generalize hs : (⟨([97, 92, 123] ++ X).toArray⟩ : ByteArray) = s at *
  have hsz' : X.length + 3 = s.size := by rw [hsz]; simp
  rw [hsz'] at h
  have h2 := next_end s mdM 0
  obtain ⟨f, hf⟩ : ∃ f, s.size + 1 = f + 1 + 1 + 1 := ⟨s.size - 2, by rw [← hsz']; omega⟩
  have hbr : ∀ P, (∀ r, P ⟨1, 97, 0⟩ true r = .ok (plF ⟨1, 97, 0⟩ r)) → brF P s (f + 1 + 1 + 1) rs0 [] = .ok (1, ⟨0, 0, s.size⟩, { rs0 with k := s.size, nds := [{ op := 2, c := 97 }, { op := 7, mn := n, mx := mx, lz := lz, kids := [0] }] }) := fun P hP => by
    rw [brF]
    simp only [rs0, h0]
    rw [if_neg (by decide), if_neg (by decide)]
    simp only [List.isEmpty_nil, hP, plF, addN, List.length_nil, List.nil_append]
    rw [brF]
    simp only [h1]
    rw [if_neg (by decide), if_pos (by decide)]
    simp only [manyF, opOf, repB, timesF, h]
    simp
    rw [brF]
    simp only [h2]
    rw [if_pos (by rfl)]
    rfl
  unfold parF patF
  rw [if_neg (by have e0 : (⟨#[]⟩ : ByteArray).size = 0 := rfl; rw [hsz, e0]; simp; omega), brsF, hf, brsL, hbr _ (fun r => by simp [pieceF])]
  simp [joinF, see, rs0]
end
end Go.Proofs.YtpahpnajeliodaaGreatDoor
/- Numbers in braces. -/
namespace Go.Proofs.YtpahpnajeliodaaGreatDoor
open Go.ChangeShapes Go.WideShapes Go.ChangeAt Go.RowKit
set_option linter.unusedVariables false
set_option linter.unusedSimpArgs false
/-- A number at a text's head: it, and by how many digits. -/
def nL : List UInt8 → Nat → Nat → Option (Nat × Nat)
  | [], cnt, n => some (n, cnt)
  | b :: r, cnt, n => if digB b.toNat then (if 60 < 10 * n + (b.toNat - 48) ∨ 3 < cnt + 1 then none else nL r (cnt + 1) (10 * n + (b.toNat - 48))) else some (n, cnt)
theorem nL_app {c : UInt8} (hc : digB c.toNat = false) (r : List UInt8) : ∀ (x : List UInt8) (cnt n : Nat), nL (x ++ c :: r) cnt n = nL x cnt n := by
  intro x
  induction x with
  | nil => intro cnt n; simp [nL, hc]
  | cons b x ih =>
    intro cnt n
    rw [List.cons_append, nL, nL]
    split
    · split
      · rfl
      · exact ih _ _
    · rfl
theorem numG_list {s : ByteArray} {fr : Nat} : ∀ (f k n cnt : Nat), fr + cnt = k → s.size + 1 - k ≤ f → k ≤ s.size → numG s fr f k n = (nL (s.data.toList.drop k) cnt n).map (fun x => (x.1, fr + x.2)) := by
  intro f
  induction f with
  | zero => intro k n cnt _ h1 h2; omega
  | succ f ih =>
    intro k n cnt hc h1 h2
    have hsl : s.data.toList.length = s.size := (Lib.size_eq s).symm
    rw [numG]
    by_cases hk : k < s.size
    · rw [if_pos hk, List.drop_eq_getElem_cons (by rw [hsl]; exact hk), nL]
      have hb : byteAt s k = (s.data.toList[k]'(by rw [hsl]; exact hk)).toNat := by
        unfold byteAt; rw [List.getElem?_eq_getElem (by rw [hsl]; exact hk)]; rfl
      rw [← hb]
      split
      · rw [show k + 1 - fr = cnt + 1 by omega]
        split
        · rfl
        · exact ih (k + 1) _ (cnt + 1) (by omega) (by omega) (by omega)
      · simp [hc]
    · rw [if_neg hk, List.drop_eq_nil_of_le (by rw [hsl]; omega), nL]
      simp [hc]
theorem numF_list {l : List UInt8} {k : Nat} (hk : k ≤ l.length) : numF ⟨l.toArray⟩ k = (nL (l.drop k) 0 0).map (fun x => (x.1, k + x.2)) := by
  unfold numF
  exact numG_list _ k 0 0 (by omega) (by omega) (by rw [size_list]; exact hk)
def dR : Nat → Nat → List UInt8
  | 0, _ => []
  | f + 1, n => if n < 10 then [(48 + n).toUInt8] else dR f (n / 10) ++ dR f (n % 10)
def dG (n : Nat) : List UInt8 := dR 4 n
def dChk (n : Nat) : Bool := (match nL (dG n) 0 0 with | some (v, c) => decide (n ≤ 60) && v == n && c == (dG n).length | none => decide (60 < n)) && decide (1 ≤ (dG n).length ∧ (dG n).length ≤ 4) && (dG n).head? != some 45
theorem dChk_all : ∀ n : Fin 1200, dChk n.val = true := by decide +kernel
theorem dG_len {n : Nat} (h : n < 1200) : 1 ≤ (dG n).length ∧ (dG n).length ≤ 4 := by
  have := dChk_all ⟨n, h⟩
  simp only [dChk, Bool.and_eq_true, decide_eq_true_eq] at this
  exact this.1.2
theorem dG_head {n : Nat} (h : n < 1200) : (dG n).head? ≠ some 45 := by
  have := dChk_all ⟨n, h⟩
  simp only [dChk, Bool.and_eq_true, bne_iff_ne] at this
  exact this.2
theorem dG_num {n : Nat} (h : n < 1200) : nL (dG n) 0 0 = if n ≤ 60 then some (n, (dG n).length) else none := by
  have := dChk_all ⟨n, h⟩
  simp only [dChk, Bool.and_eq_true, decide_eq_true_eq] at this
  have h1 := this.1.1
  cases hq : nL (dG n) 0 0 with
  | none =>
    rw [hq] at h1
    simp only [decide_eq_true_eq] at h1
    rw [if_neg (by omega)]
  | some x =>
    obtain ⟨v, c⟩ := x
    rw [hq] at h1
    simp only [Bool.and_eq_true, decide_eq_true_eq, beq_iff_eq] at h1
    obtain ⟨⟨a, rfl⟩, rfl⟩ := h1
    rw [if_pos a]
/-- A number at a place, what is no digit behind it. -/
theorem num_at {l pre r : List UInt8} {c : UInt8} {n k : Nat} (hl : l = pre ++ (dG n ++ c :: r)) (hk : pre.length = k) (hn : n < 1200) (hc : digB c.toNat = false) : numF ⟨l.toArray⟩ k = if n ≤ 60 then some (n, k + (dG n).length) else none := by
  subst hl
  subst hk
  rw [numF_list (by simp), List.drop_left, nL_app hc, dG_num hn]
  split <;> rfl
theorem pfx_at {l pre r t : List UInt8} {k : Nat} (hl : l = pre ++ r) (hk : pre.length = k) : pfx ⟨l.toArray⟩ k ⟨t.toArray⟩ = Lib.hasPrefix r t := by
  subst hl
  subst hk
  show Lib.hasPrefix (List.drop pre.length (pre ++ r)) t = _
  rw [List.drop_left]
end Go.Proofs.YtpahpnajeliodaaGreatDoor
/- What ~ is read as. -/
namespace Go.Proofs.YtpahpnajeliodaaGreatDoor
open Go.ChangeShapes Go.WideShapes Go.ChangeAt Go.RowKit
set_option linter.unusedVariables false
set_option linter.unusedSimpArgs false
/-- The nodes of ~, and the root. -/
def tilN (l : List UInt8) : List Nd := if l.length = 0 then [{ op := 1 }] else if l.length = 1 then bytesN l else bytesN l ++ [{ op := 5, kids := List.range l.length }]
def tilR (l : List UInt8) : Nat := if l.length ≤ 1 then 0 else l.length
theorem again_til (l : List UInt8) : againF ⟨l.toArray⟩ { rs0 with k := 1 } = (tilR l, { rs0 with k := 1, nds := tilN l }) := by
  unfold againF
  rw [if_neg (by simp [rs0]), size_list]
  have e : ({ rs0 with k := 1 } : RS).nds.length = 0 := rfl
  rw [e]
  have e2 : (List.range l.length).map (0 + ·) = List.range l.length := by simp
  rw [e2]
  show joinF 5 (List.range l.length) { rs0 with k := 1, nds := [] ++ bytesN l } = _
  rw [List.nil_append]
  by_cases h0 : l.length = 0
  · have : l = [] := List.eq_nil_of_length_eq_zero h0
    subst this; rfl
  by_cases h1 : l.length = 1
  · have e3 : tilN l = bytesN l := by unfold tilN; rw [if_neg h0, if_pos h1]
    have e4 : tilR l = 0 := by unfold tilR; rw [if_pos (by omega)]
    rw [e3, e4, h1]; rfl
  obtain ⟨n, hn⟩ : ∃ n, l.length = n + 2 := ⟨l.length - 2, by omega⟩
  have e3 : tilN l = bytesN l ++ [{ op := 5, kids := List.range l.length }] := by unfold tilN; rw [if_neg h0, if_neg h1]
  have e4 : tilR l = l.length := by unfold tilR; rw [if_neg (by omega)]
  have e5 : List.range l.length = 0 :: 1 :: (List.range n).map (· + 2) := by
    rw [hn, List.range_succ_eq_map, List.range_succ_eq_map]; simp [Function.comp_def]
  have e6 : (bytesN l).length = l.length := by simp [bytesN]
  rw [e3, e4, e5]
  show addN { op := 5, kids := 0 :: 1 :: (List.range n).map (· + 2) } _ = _
  unfold addN
  simp only [e6]
theorem til_read {l : List UInt8} (hl : l.length ≤ 300) : see (parF ⟨#[126]⟩ ⟨l.toArray⟩) = .ok (tilR l, 0, 0, tilN l) := by
  have hn : nextF ⟨#[126]⟩ 2 0 mdM 0 = .ok (⟨2, 126, 0⟩, 1, mdM, 0) := by kernel_rfl
  have h2 : nextF ⟨#[126]⟩ 2 1 mdM 0 = .ok (⟨0, 0, 1⟩, 1, mdM, 0) := by kernel_rfl
  have hpc : ∀ G r, pieceF G ⟨#[126]⟩ ⟨l.toArray⟩ ⟨2, 126, 0⟩ true r = .ok (againF ⟨l.toArray⟩ r) := fun G r => by simp [pieceF, signF]
  have hbr : ∀ G, brF (pieceF G ⟨#[126]⟩ ⟨l.toArray⟩) ⟨#[126]⟩ 2 rs0 [] = .ok (tilR l, ⟨0, 0, 1⟩, { rs0 with k := 1, nds := tilN l }) := fun G => by
    rw [brF]
    have hn' : nextF ⟨#[126]⟩ ((⟨#[126]⟩ : ByteArray).size + 1) rs0.k rs0.md rs0.cs = .ok (⟨2, 126, 0⟩, 1, mdM, 0) := hn
    simp only [hn']
    rw [if_neg (by decide), if_neg (by decide)]
    simp only [List.isEmpty_nil, hpc]
    have ha : againF ⟨l.toArray⟩ { rs0 with k := 1, md := mdM, cs := 0 } = (tilR l, { rs0 with k := 1, nds := tilN l }) := again_til l
    rw [ha, brF]
    have h2' : nextF ⟨#[126]⟩ ((⟨#[126]⟩ : ByteArray).size + 1) 1 rs0.md rs0.cs = .ok (⟨0, 0, 1⟩, 1, mdM, 0) := h2
    simp only [h2']
    rw [if_pos (by rfl)]
    rfl
  have hlen : (tilN l).length ≤ 301 := by
    unfold tilN
    split
    · simp
    · split
      · simp [bytesN]; omega
      · simp [bytesN]; omega
  unfold parF patF
  have e0 : (⟨#[126]⟩ : ByteArray).size = 1 := rfl
  have e1 : (⟨l.toArray⟩ : ByteArray).size = l.length := size_list l
  rw [if_neg (by rw [e0, e1]; omega), brsF]
  show see (match brsL (fun r => brF (pieceF (groupF (brsF ⟨#[126]⟩ ⟨l.toArray⟩ 9)) ⟨#[126]⟩ ⟨l.toArray⟩) ⟨#[126]⟩ 2 r []) 2 rs0 [] with
    | .error e => .error e
    | .ok (i, t, r') => if t.kd ≠ 0 then .error (31, t.pl) else if 400 < r'.nds.length then .error (33, 0) else .ok (i, r')) = _
  rw [brsL, hbr]
  simp only [joinF, List.nil_append]
  rw [if_neg (by decide)]
  simp only
  rw [if_neg (by decide), if_neg (by show ¬ 400 < (tilN l).length; omega)]
  rfl
/-- Leaves that are asked for from the last on. -/
theorem tree_leaves {L : List Nq} {G : Int} : ∀ (k f : Nat) (asked : List Bool), k < f → k ≤ L.length → asked.length = L.length → (∀ i, i < k → ∃ c, L[i]? = some { op := 2, c := c }) → (∀ i, i < k → asked.getD i false = false) → treeF L G f ((List.range k).map fun (n : Nat) => (n : Int)) asked = true := by
  intro k
  induction k with
  | zero =>
    intro f asked hf _ _ _ _
    obtain ⟨f, rfl⟩ : ∃ f', f = f' + 1 := ⟨f - 1, by omega⟩
    simp [treeF]
  | succ k ih =>
    intro f asked hf hk hl hL hA
    obtain ⟨f, rfl⟩ : ∃ f', f = f' + 1 := ⟨f - 1, by omega⟩
    obtain ⟨c, hc⟩ := hL k (by omega)
    have hn : nodeAt L (k : Int) = { op := 2, c := c } := by unfold nodeAt; rw [Int.toNat_natCast, hc]; rfl
    have hh : hasB L (k : Int) = true := decide_eq_true ⟨by omega, by omega⟩
    rw [treeF, List.range_succ, List.map_append]
    simp only [List.map_cons, List.map_nil, List.getLast?_concat, List.dropLast_concat, hn, hh, Int.toNat_natCast, hA k (by omega)]
    rw [if_pos (by simp [fitB, leafB]), List.append_nil]
    refine ih f (asked.set k true) (by omega) (by omega) (by simp [hl]) (fun i hi => hL i (by omega)) (fun i hi => ?_)
    have := hA i (by omega)
    simp only [List.getD_eq_getElem?_getD, List.getElem?_set_ne (by omega : k ≠ i)] at this ⊢
    exact this
end Go.Proofs.YtpahpnajeliodaaGreatDoor
/- The nodes of plain bytes: how many, which, and that they are sound. -/
namespace Go.Proofs.YtpahpnajeliodaaGreatDoor
open Go.ChangeShapes Go.WideShapes Go.ChangeAt Go.RowKit
set_option linter.unusedVariables false
set_option linter.unusedSimpArgs false
theorem til_len (l : List UInt8) : (tilN l).length = if l.length ≤ 1 then 1 else l.length + 1 := by
  unfold tilN
  by_cases h0 : l.length = 0
  · rw [if_pos h0, if_pos (by omega)]; rfl
  by_cases h1 : l.length = 1
  · rw [if_neg h0, if_pos h1, if_pos (by omega)]; simp [bytesN, h1]
  · rw [if_neg h0, if_neg h1, if_neg (by omega)]; simp [bytesN]
theorem til_byte {l : List UInt8} {i : Nat} (hi : i < l.length) : (tilN l)[i]? = some { op := 2, c := (l[i]).toNat } := by
  have hb : (bytesN l)[i]? = some { op := 2, c := (l[i]).toNat } := by simp [bytesN, hi]
  unfold tilN
  rw [if_neg (by omega)]
  split
  · exact hb
  · rw [List.getElem?_append_left (by simp [bytesN]; exact hi)]; exact hb
theorem til_root {l : List UInt8} (hl : 2 ≤ l.length) : (tilN l)[l.length]? = some { op := 5, kids := List.range l.length } := by
  unfold tilN
  rw [if_neg (by omega), if_neg (by omega), List.getElem?_append_right (by simp [bytesN])]
  simp [bytesN]
theorem til_op (l : List UInt8) : ∀ d ∈ (tilN l).map Nd.q, (d.op = 1 ∨ d.op = 2 ∨ d.op = 5) ∧ d.kids.length ≤ l.length := by
  intro d hd
  unfold tilN at hd
  split at hd
  · simp at hd; subst hd; exact ⟨.inl rfl, Nat.zero_le _⟩
  · have hb : ∀ d ∈ (bytesN l).map Nd.q, (d.op = 1 ∨ d.op = 2 ∨ d.op = 5) ∧ d.kids.length ≤ l.length := by
      intro d hd
      simp only [bytesN, List.map_map, List.mem_map, Function.comp] at hd
      obtain ⟨b, _, rfl⟩ := hd
      exact ⟨.inr (.inl rfl), Nat.zero_le _⟩
    split at hd
    · exact hb d hd
    · rw [List.map_append, List.mem_append] at hd
      rcases hd with hd | hd
      · exact hb d hd
      · simp only [List.map_cons, List.map_nil, List.mem_singleton] at hd
        subst hd
        exact ⟨.inr (.inr rfl), by simp [Nd.q]⟩
theorem til_sound {l : List UInt8} (hl : l.length ≤ 300) : soundF ((tilN l).map Nd.q) (tilR l) 0 = true := by
  unfold soundF
  rw [decide_eq_true (by omega), Bool.true_and]
  have hlen := til_len l
  have hleaf : ∀ i, i < l.length → ∃ c, ((tilN l).map Nd.q)[i]? = some { op := 2, c := c } := fun i hi => ⟨(l[i]).toNat, by rw [List.getElem?_map, til_byte hi]; rfl⟩
  have hrep : ∀ (n i : Nat), (List.replicate n false).getD i false = false := fun n i => by
    simp only [List.getD_eq_getElem?_getD]
    cases h : (List.replicate n false)[i]? with
    | none => rfl
    | some b => have := List.mem_of_getElem? h; simp at this; exact this.2
  by_cases h0 : l.length = 0
  · have : l = [] := List.eq_nil_of_length_eq_zero h0
    subst this; rfl
  by_cases h1 : l.length = 1
  · have e4 : tilR l = 0 := by unfold tilR; rw [if_pos (by omega)]
    rw [e4]
    exact tree_leaves 1 _ _ (by rw [List.length_map, hlen, if_pos (by omega)]; omega) (by rw [List.length_map, hlen, if_pos (by omega)]; omega) (by simp) (fun i hi => hleaf i (by omega)) (fun i _ => hrep _ i)
  have e4 : tilR l = l.length := by unfold tilR; rw [if_neg (by omega)]
  rw [if_neg (by omega)] at hlen
  have hroot : nodeAt ((tilN l).map Nd.q) (l.length : Int) = { op := 5, kids := (List.range l.length).map fun (n : Nat) => (n : Int) } := by
    unfold nodeAt
    rw [Int.toNat_natCast, List.getElem?_map, til_root (by omega)]; rfl
  have hh : hasB ((tilN l).map Nd.q) (l.length : Int) = true := decide_eq_true ⟨by omega, by rw [List.length_map, hlen]; omega⟩
  rw [e4, treeF]
  simp only [List.getLast?_singleton, List.dropLast_singleton, hroot, hh, hrep, Int.toNat_natCast, List.nil_append]
  rw [if_pos (by simp [fitB, leafB]; omega)]
  refine tree_leaves l.length _ _ (by rw [List.length_map, hlen]; omega) (by rw [List.length_map, hlen]; omega) (by simp) hleaf (fun i hi => ?_)
  simp only [List.getD_eq_getElem?_getD, List.getElem?_set_ne (by omega : l.length ≠ i)]
  have := hrep ((tilN l).map Nd.q).length i
  simp only [List.getD_eq_getElem?_getD] at this
  exact this
end Go.Proofs.YtpahpnajeliodaaGreatDoor
/- What comes next, by the bytes that are left. -/
namespace Go.Proofs.YtpahpnajeliodaaGreatDoor
open Go.ChangeShapes Go.WideShapes Go.ChangeAt Go.RowKit
set_option linter.unusedVariables false
set_option linter.unusedSimpArgs false
section
variable {pre r : List UInt8} {md : ByteArray} {c : UInt8}
theorem byte_pre (pre rest : List UInt8) (i : Nat) : byteAt ⟨(pre ++ rest).toArray⟩ (pre.length + i) = ((rest[i]?).map UInt8.toNat).getD 0 := by
  unfold byteAt
  have e : (pre ++ rest)[pre.length + i]? = rest[i]? := by rw [List.getElem?_append_right (by omega)]; congr 1; omega
  simp [e]
theorem tok_one (hc : c ≠ 92) : tokOf ⟨(pre ++ c :: r).toArray⟩ md pre.length = some (⟨if amo c.toNat md then 2 else 1, c.toNat, pre.length⟩, pre.length + 1) := by
  have hb : byteAt ⟨(pre ++ c :: r).toArray⟩ pre.length = c.toNat := by have := byte_pre pre (c :: r) 0; simpa using this
  have h92 : c.toNat ≠ 92 := fun e => hc (UInt8.toNat_inj.1 e)
  unfold tokOf
  rw [if_pos (by rw [size_list, List.length_append, List.length_cons]; omega), hb, if_neg h92]
def escK (c : UInt8) (md : ByteArray) : Nat := if amo c.toNat md then 1 else if amo c.toNat mdV then 2 else if letB c.toNat then 3 else if digB c.toNat then 3 else 1
theorem tok_esc : tokOf ⟨(pre ++ 92 :: c :: r).toArray⟩ md pre.length = some (⟨escK c md, c.toNat, pre.length⟩, pre.length + 2) := by
  have hb : byteAt ⟨(pre ++ 92 :: c :: r).toArray⟩ pre.length = 92 := by have := byte_pre pre (92 :: c :: r) 0; simpa using this
  have hb1 : byteAt ⟨(pre ++ 92 :: c :: r).toArray⟩ (pre.length + 1) = c.toNat := by have := byte_pre pre (92 :: c :: r) 1; simpa using this
  unfold tokOf
  rw [if_pos (by rw [size_list, List.length_append, List.length_cons]; omega), if_pos hb, if_pos (by rw [size_list]; simp only [List.length_append, List.length_cons]; omega)]
  unfold escTok escK
  rw [hb1]
theorem tok_fin : tokOf ⟨(pre ++ []).toArray⟩ md pre.length = some (⟨0, 0, pre.length⟩, pre.length) := by
  unfold tokOf
  rw [if_neg (by rw [size_list, List.append_nil]; omega)]
theorem lex_one (f cs : Nat) (hc : c ≠ 92) : nextF ⟨(pre ++ c :: r).toArray⟩ (f + 1) pre.length md cs = .ok (⟨if amo c.toNat md then 2 else 1, c.toNat, pre.length⟩, pre.length + 1, md, cs) := by
  rw [nextF, tok_one hc]
  simp only
  rw [if_neg (by split <;> simp)]
theorem lex_esc (f cs : Nat) (hk : escK c md ≠ 3) : nextF ⟨(pre ++ 92 :: c :: r).toArray⟩ (f + 1) pre.length md cs = .ok (⟨escK c md, c.toNat, pre.length⟩, pre.length + 2, md, cs) := by
  rw [nextF, tok_esc]
  simp only
  rw [if_neg hk]
theorem lex_let (f cs : Nat) (hk : escK c md = 3) (ho : obeyF c.toNat md cs = none) : nextF ⟨(pre ++ 92 :: c :: r).toArray⟩ (f + 1) pre.length md cs = .ok (⟨3, c.toNat, pre.length⟩, pre.length + 2, md, cs) := by
  rw [nextF, tok_esc, hk]
  simp only [ho, if_true]
theorem lex_obey (f cs cs' : Nat) {md' : ByteArray} (hk : escK c md = 3) (ho : obeyF c.toNat md cs = some (md', cs')) : nextF ⟨(pre ++ 92 :: c :: r).toArray⟩ (f + 1) pre.length md cs = nextF ⟨(pre ++ 92 :: c :: r).toArray⟩ f (pre.length + 2) md' cs' := by
  rw [nextF, tok_esc, hk]
  simp only [ho, if_true]
theorem lex_fin (f cs : Nat) : nextF ⟨(pre ++ []).toArray⟩ (f + 1) pre.length md cs = .ok (⟨0, 0, pre.length⟩, pre.length, md, cs) := by
  rw [nextF, tok_fin]
  rfl
end
end Go.Proofs.YtpahpnajeliodaaGreatDoor
/- A branch's pieces, a token each. -/
namespace Go.Proofs.YtpahpnajeliodaaGreatDoor
open Go.ChangeShapes Go.WideShapes Go.ChangeAt Go.RowKit
set_option linter.unusedVariables false
set_option linter.unusedSimpArgs false
section
variable {G : Tok → RS → Except (Nat × Nat) (Nat × RS)} {s last : ByteArray} {f c p k' : Nat} {r : RS} {ks : List Nat}
theorem br_lit (hn : nextF s (s.size + 1) r.k r.md r.cs = .ok (⟨1, c, p⟩, k', r.md, r.cs)) :
    brF (pieceF G s last) s (f + 1) r ks = brF (pieceF G s last) s f { r with k := k', nds := r.nds ++ [{ op := 2, c := c }] } (ks ++ [r.nds.length]) := by
  rw [brF, hn]
  simp only
  rw [if_neg (by simp [Tok.ends]), if_neg (by simp)]
  rfl
theorem br_bare {op : Nat} (hc : (c = 46 ∧ op = 3) ∨ (c = 60 ∧ op = 12) ∨ (c = 62 ∧ op = 13)) (hn : nextF s (s.size + 1) r.k r.md r.cs = .ok (⟨2, c, p⟩, k', r.md, r.cs)) :
    brF (pieceF G s last) s (f + 1) r ks = brF (pieceF G s last) s f { r with k := k', nds := r.nds ++ [{ op := op }] } (ks ++ [r.nds.length]) := by
  rcases hc with ⟨rfl, rfl⟩ | ⟨rfl, rfl⟩ | ⟨rfl, rfl⟩
  all_goals
    rw [brF, hn]
    simp only
    rw [if_neg (by simp [Tok.ends]), if_neg (by decide)]
    rfl
theorem br_plus {q : Nat} (hq : ks.getLast? = some q) (ho : repB (opOf r q) = true) (hn : nextF s (s.size + 1) r.k r.md r.cs = .ok (⟨2, 43, p⟩, k', r.md, r.cs)) :
    brF (pieceF G s last) s (f + 1) r ks = brF (pieceF G s last) s f { r with k := k', nds := r.nds ++ [{ op := 7, mn := 1, mx := -1, kids := [q] }] } (ks.set (ks.length - 1) r.nds.length) := by
  rw [brF, hn]
  simp only
  rw [if_neg (by simp [Tok.ends]), if_pos (by decide)]
  unfold manyF
  have ho' : repB (opOf { r with k := k', md := r.md, cs := r.cs } q) = true := ho
  rw [hq]
  simp only [ho', if_true]
  rfl
theorem br_star {q : Nat} (hq : ks.getLast? = some q) (ho : repB (opOf r q) = true) (hn : nextF s (s.size + 1) r.k r.md r.cs = .ok (⟨2, 42, p⟩, k', r.md, r.cs)) :
    brF (pieceF G s last) s (f + 1) r ks = brF (pieceF G s last) s f { r with k := k', nds := r.nds ++ [{ op := 7, mx := -1, kids := [q] }] } (ks.set (ks.length - 1) r.nds.length) := by
  rw [brF, hn]
  simp only
  rw [if_neg (by simp [Tok.ends]), if_pos (by decide)]
  unfold manyF
  have ho' : repB (opOf { r with k := k', md := r.md, cs := r.cs } q) = true := ho
  rw [hq]
  simp only [ho', if_true]
  rfl
theorem br_brace {q : Nat} {mn : Nat} {mx : Int} {lz : Bool} {j : Nat} (hb : bndF s k' = some (mn, mx, lz, j)) (hq : ks.getLast? = some q) (ho : repB (opOf r q) = true) (hn : nextF s (s.size + 1) r.k r.md r.cs = .ok (⟨2, 123, p⟩, k', r.md, r.cs)) :
    brF (pieceF G s last) s (f + 1) r ks = brF (pieceF G s last) s f { r with k := j, nds := r.nds ++ [{ op := 7, mn := mn, mx := mx, lz := lz, kids := [q] }] } (ks.set (ks.length - 1) r.nds.length) := by
  rw [brF, hn]
  simp only
  rw [if_neg (by simp [Tok.ends]), if_pos (by decide)]
  unfold manyF
  have ho' : repB (opOf { r with k := k', md := r.md, cs := r.cs } q) = true := ho
  rw [hq]
  simp only [ho', if_true, timesF, hb]
  rfl
theorem br_ends {t : Tok} (ht : t.ends = true) (hn : nextF s (s.size + 1) r.k r.md r.cs = .ok (t, k', r.md, r.cs)) :
    brF (pieceF G s last) s (f + 1) r ks = .ok ((joinF 5 ks { r with k := k' }).1, t, (joinF 5 ks { r with k := k' }).2) := by
  rw [brF, hn]
  simp only
  rw [if_pos ht]
end
end Go.Proofs.YtpahpnajeliodaaGreatDoor
/- A collection of two bytes, and of all from one to another. -/
namespace Go.Proofs.YtpahpnajeliodaaGreatDoor
open Go.ChangeShapes Go.WideShapes Go.ChangeAt Go.RowKit
set_option linter.unusedVariables false
set_option linter.unusedSimpArgs false
/-- What is read of a collection that is all of a pattern. -/
theorem coll_read {s : ByteArray} (hs : s.size ≤ 300) (h1 : 1 ≤ s.size) (hb : byteAt s 0 = 91) {R : Except (Nat × Nat) (Option S4 × RS)} (hR : collF s ⟨2, 91, 0⟩ { rs0 with k := 1 } = R) :
    (∀ e, R = .error e → see (parF s ⟨#[]⟩) = .error e) ∧ (∀ q, R = .ok (some q, { rs0 with k := s.size }) → see (parF s ⟨#[]⟩) = .ok (0, 0, 0, [{ op := 4, set := q }])) := by
  have hn : nextF s (s.size + 1) 0 mdM 0 = .ok (⟨2, 91, 0⟩, 1, mdM, 0) := by
    rw [nextF]
    have ha : amo 91 mdM = true := by decide
    have h0 : 0 < s.size := h1
    simp [tokOf, hb, ha, h0]
  have h2 := next_end s mdM 0
  obtain ⟨f, hf⟩ : ∃ f, s.size + 1 = f + 1 + 1 := ⟨s.size - 1, by omega⟩
  have hsz : ¬ (300 < s.size ∨ 1000 < (⟨#[]⟩ : ByteArray).size) := by
    have e0 : (⟨#[]⟩ : ByteArray).size = 0 := rfl
    rw [e0]; omega
  have hpc : ∀ G r, pieceF G s ⟨#[]⟩ ⟨2, 91, 0⟩ true r = setF s ⟨2, 91, 0⟩ r := fun G r => by simp [pieceF, signF]
  refine ⟨fun e he => ?_, fun q hq => ?_⟩
  · have hbr : ∀ G, brF (pieceF G s ⟨#[]⟩) s (f + 1 + 1) rs0 [] = .error e := fun G => by
      rw [brF]
      have hn' : nextF s (s.size + 1) rs0.k rs0.md rs0.cs = .ok (⟨2, 91, 0⟩, 1, mdM, 0) := hn
      simp only [hn']
      rw [if_neg (by decide), if_neg (by decide)]
      simp only [List.isEmpty_nil, hpc, setF]
      have hR' : collF s ⟨2, 91, 0⟩ { rs0 with k := 1, md := mdM, cs := 0 } = R := hR
      rw [hR', he]
    unfold parF patF
    rw [if_neg hsz, brsF, hf, brsL, hbr]
    rfl
  · have hbr : ∀ G, brF (pieceF G s ⟨#[]⟩) s (f + 1 + 1) rs0 [] = .ok (0, ⟨0, 0, s.size⟩, { rs0 with k := s.size, nds := [{ op := 4, set := q }] }) := fun G => by
      rw [brF]
      have hn' : nextF s (s.size + 1) rs0.k rs0.md rs0.cs = .ok (⟨2, 91, 0⟩, 1, mdM, 0) := hn
      simp only [hn']
      rw [if_neg (by decide), if_neg (by decide)]
      simp only [List.isEmpty_nil, hpc, setF]
      have hR' : collF s ⟨2, 91, 0⟩ { rs0 with k := 1, md := mdM, cs := 0 } = R := hR
      rw [hR', hq]
      simp only [addN]
      rw [brF]
      have h2' : nextF s (s.size + 1) s.size rs0.md rs0.cs = .ok (⟨0, 0, s.size⟩, s.size, mdM, 0) := h2
      simp only [h2']
      rw [if_pos (by rfl)]
      rfl
    unfold parF patF
    rw [if_neg hsz, brsF, hf, brsL, hbr]
    simp [joinF, see, rs0]
def Al (c : Nat) : Prop := (97 ≤ c ∧ c ≤ 122) ∨ (65 ≤ c ∧ c ≤ 90) ∨ (48 ≤ c ∧ c ≤ 57)
def hatL (b : Bool) : List UInt8 := if b then [94] else []
def nt (b : Bool) (q : S4) : S4 := if b then notS q else q
/-- One item of a collection that is a byte and no more. -/
theorem it_byte {s : ByteArray} {k x : Nat} (q : S4) (fl : Bool) (hx : byteAt s k = x) (ha : Al x) (hp : pfx s k opN = false) (hsp : spanB s (k + 1) = false) : itF s k q fl = (addTo q x 1, fl, k + 1) := by
  have hm : memF s k = (x, k + 1) := by
    unfold memF
    rw [if_neg (by rw [hx]; unfold Al at ha; omega), hx]
  unfold itF
  have hn : namS s k q = (false, q, k) := by unfold namS namF; rw [hp]; rfl
  rw [hn]
  simp only [Bool.false_eq_true, if_false]
  unfold spanF
  simp [hm, hsp]
theorem it_span {s : ByteArray} {k x y : Nat} (q : S4) (fl : Bool) (hx : byteAt s k = x) (ha : Al x) (hy : byteAt s (k + 2) = y) (hb : Al y) (hp : pfx s k opN = false) (hsp : spanB s (k + 1) = true) : itF s k q fl = (addTo q x (y + 1 - x), fl || decide (y < x), k + 3) := by
  have hm : memF s k = (x, k + 1) := by
    unfold memF
    rw [if_neg (by rw [hx]; unfold Al at ha; omega), hx]
  have hm2 : memF s (k + 1 + 1) = (y, k + 3) := by
    unfold memF
    rw [if_neg (by rw [hy]; unfold Al at hb; omega), hy]
  unfold itF
  have hn : namS s k q = (false, q, k) := by unfold namS namF; rw [hp]; rfl
  rw [hn]
  simp only [Bool.false_eq_true, if_false]
  unfold spanF
  simp [hm, hsp, hm2]
theorem ne_of_al {a : UInt8} {n : Nat} (h : Al a.toNat) (hn : ¬ Al n) : a.toNat ≠ n := fun e => hn (e ▸ h)
theorem hp_no {x y : UInt8} {r t : List UInt8} (h : x ≠ y) : Lib.hasPrefix (x :: r) (y :: t) = false := by
  simp [Lib.hasPrefix, List.isPrefixOf]
  intro e; exact absurd e.symm h
theorem ne8 {a y : UInt8} (h : Al a.toNat) (hn : ¬ Al y.toNat) : a ≠ y := fun e => hn (e ▸ h)
theorem set_two (b : Bool) {a c : UInt8} (ha : Al a.toNat) (hc : Al c.toNat) : collF ⟨([91] ++ hatL b ++ [a, c, 93]).toArray⟩ ⟨2, 91, 0⟩ { rs0 with k := 1 } = .ok (some (nt b (addTo (addTo zeroS a.toNat 1) c.toNat 1)), { rs0 with k := ([91] ++ hatL b ++ [a, c, 93]).length }) := by
  have n91 : ¬ Al (91 : UInt8).toNat := by unfold Al; decide
  have n94 : ¬ Al (94 : UInt8).toNat := by unfold Al; decide
  have n93 : ¬ Al 93 := by unfold Al; omega
  have n45 : ¬ Al 45 := by unfold Al; omega
  have c93 := ne_of_al hc n93
  have c45 := ne_of_al hc n45
  cases b with
  | false =>
    have i1 := it_byte (s := ⟨#[91, a, c, 93]⟩) (k := 1) (x := a.toNat) zeroS false rfl ha (hp_no (ne8 ha n91)) (by unfold spanB; exact decide_eq_false (by rintro ⟨_, h, _⟩; exact c45 h))
    have i2 := it_byte (s := ⟨#[91, a, c, 93]⟩) (k := 2) (x := c.toNat) (addTo zeroS a.toNat 1) false rfl hc (hp_no (ne8 hc n91)) (by unfold spanB; exact decide_eq_false (by rintro ⟨_, h, _⟩; exact absurd (show (93 : Nat) = 45 from h) (by decide)))
    have hr : rdF ⟨#[91, a, c, 93]⟩ 1 5 1 zeroS false = some (addTo (addTo zeroS a.toNat 1) c.toNat 1, false, 4) := by
      rw [rdF, if_pos (by show 1 < 4; decide), if_neg (by rintro ⟨h, _⟩; omega), i1, rdF, if_pos (by show 2 < 4; decide), if_neg (by rintro ⟨_, h⟩; exact c93 h), i2, rdF, if_pos (by show 3 < 4; decide), if_pos ⟨by show 1 < 3; decide, rfl⟩]
    have hh : pfx ⟨#[91, a, c, 93]⟩ 1 hat = false := hp_no (ne8 ha n94)
    show collF ⟨#[91, a, c, 93]⟩ _ _ = _
    unfold collF rdX
    simp only [hh, Bool.false_eq_true, if_false]
    rw [show (⟨#[91, a, c, 93]⟩ : ByteArray).size + 1 = 5 from rfl, hr]
    rfl
  | true =>
    have i1 := it_byte (s := ⟨#[91, 94, a, c, 93]⟩) (k := 2) (x := a.toNat) zeroS false rfl ha (hp_no (ne8 ha n91)) (by unfold spanB; exact decide_eq_false (by rintro ⟨_, h, _⟩; exact c45 h))
    have i2 := it_byte (s := ⟨#[91, 94, a, c, 93]⟩) (k := 3) (x := c.toNat) (addTo zeroS a.toNat 1) false rfl hc (hp_no (ne8 hc n91)) (by unfold spanB; exact decide_eq_false (by rintro ⟨_, h, _⟩; exact absurd (show (93 : Nat) = 45 from h) (by decide)))
    have hr : rdF ⟨#[91, 94, a, c, 93]⟩ 2 6 2 zeroS false = some (addTo (addTo zeroS a.toNat 1) c.toNat 1, false, 5) := by
      rw [rdF, if_pos (by show 2 < 5; decide), if_neg (by rintro ⟨h, _⟩; omega), i1, rdF, if_pos (by show 3 < 5; decide), if_neg (by rintro ⟨_, h⟩; exact c93 h), i2, rdF, if_pos (by show 4 < 5; decide), if_pos ⟨by show 2 < 4; decide, rfl⟩]
    have hh : pfx ⟨#[91, 94, a, c, 93]⟩ 1 hat = true := rfl
    show collF ⟨#[91, 94, a, c, 93]⟩ _ _ = _
    unfold collF rdX
    simp only [hh, if_true]
    rw [show (⟨#[91, 94, a, c, 93]⟩ : ByteArray).size + 1 = 6 from rfl, hr]
    rfl
theorem set_span (b : Bool) {a c : UInt8} (ha : Al a.toNat) (hc : Al c.toNat) : collF ⟨([91] ++ hatL b ++ [a, 45, c, 93]).toArray⟩ ⟨2, 91, 0⟩ { rs0 with k := 1 } = if c.toNat < a.toNat then .error (30, 0) else .ok (some (nt b (addTo zeroS a.toNat (c.toNat + 1 - a.toNat))), { rs0 with k := ([91] ++ hatL b ++ [a, 45, c, 93]).length }) := by
  have n91 : ¬ Al (91 : UInt8).toNat := by unfold Al; decide
  have n94 : ¬ Al (94 : UInt8).toNat := by unfold Al; decide
  have n93 : ¬ Al 93 := by unfold Al; omega
  have c93 := ne_of_al hc n93
  cases b with
  | false =>
    have i1 := it_span (s := ⟨#[91, a, 45, c, 93]⟩) (k := 1) (x := a.toNat) (y := c.toNat) zeroS false rfl ha rfl hc (hp_no (ne8 ha n91)) (by unfold spanB; exact decide_eq_true ⟨by show 3 < 5; decide, rfl, c93⟩)
    have hr : rdF ⟨#[91, a, 45, c, 93]⟩ 1 6 1 zeroS false = some (addTo zeroS a.toNat (c.toNat + 1 - a.toNat), decide (c.toNat < a.toNat), 5) := by
      rw [rdF, if_pos (by show 1 < 5; decide), if_neg (by rintro ⟨h, _⟩; omega), i1, rdF, if_pos (by show 4 < 5; decide), if_pos ⟨by show 1 < 4; decide, rfl⟩]; rfl
    have hh : pfx ⟨#[91, a, 45, c, 93]⟩ 1 hat = false := hp_no (ne8 ha n94)
    show collF ⟨#[91, a, 45, c, 93]⟩ _ _ = _
    unfold collF rdX
    simp only [hh, Bool.false_eq_true, if_false]
    rw [show (⟨#[91, a, 45, c, 93]⟩ : ByteArray).size + 1 = 6 from rfl, hr]
    by_cases h : c.toNat < a.toNat
    · simp [h]
    · simp [h]; exact ⟨rfl, rfl⟩
  | true =>
    have i1 := it_span (s := ⟨#[91, 94, a, 45, c, 93]⟩) (k := 2) (x := a.toNat) (y := c.toNat) zeroS false rfl ha rfl hc (hp_no (ne8 ha n91)) (by unfold spanB; exact decide_eq_true ⟨by show 4 < 6; decide, rfl, c93⟩)
    have hr : rdF ⟨#[91, 94, a, 45, c, 93]⟩ 2 7 2 zeroS false = some (addTo zeroS a.toNat (c.toNat + 1 - a.toNat), decide (c.toNat < a.toNat), 6) := by
      rw [rdF, if_pos (by show 2 < 6; decide), if_neg (by rintro ⟨h, _⟩; omega), i1, rdF, if_pos (by show 5 < 6; decide), if_pos ⟨by show 2 < 5; decide, rfl⟩]; rfl
    have hh : pfx ⟨#[91, 94, a, 45, c, 93]⟩ 1 hat = true := rfl
    show collF ⟨#[91, 94, a, 45, c, 93]⟩ _ _ = _
    unfold collF rdX
    simp only [hh, if_true]
    rw [show (⟨#[91, 94, a, 45, c, 93]⟩ : ByteArray).size + 1 = 7 from rfl, hr]
    by_cases h : c.toNat < a.toNat
    · simp [h]
    · simp [h]; exact ⟨rfl, rfl⟩
end Go.Proofs.YtpahpnajeliodaaGreatDoor
/- The collection [a-c] wherever it stands. -/
namespace Go.Proofs.YtpahpnajeliodaaGreatDoor
open Go.ChangeShapes Go.WideShapes Go.ChangeAt Go.RowKit
set_option linter.unusedVariables false
set_option linter.unusedSimpArgs false
section
variable {pre rest : List UInt8}
theorem pfx_pre (pre rest : List UInt8) (i : Nat) (x : ByteArray) : pfx ⟨(pre ++ rest).toArray⟩ (pre.length + i) x = Lib.hasPrefix (rest.drop i) x.data.toList := by
  unfold pfx
  have e : (pre ++ rest).drop (pre.length + i) = rest.drop i := by rw [List.drop_append, List.drop_eq_nil_of_le (by omega), List.nil_append]; congr 1; omega
  show Lib.hasPrefix ((pre ++ rest).drop (pre.length + i)) _ = _
  rw [e]
theorem coll_ac (p : Nat) (r : RS) (hk : r.k = pre.length + 1) : collF ⟨(pre ++ 91 :: 97 :: 45 :: 99 :: 93 :: rest).toArray⟩ ⟨2, 91, p⟩ r = .ok (some (addTo zeroS 97 3), { r with k := pre.length + 5 }) := by
  obtain ⟨s, hs⟩ : ∃ s : ByteArray, (⟨(pre ++ 91 :: 97 :: 45 :: 99 :: 93 :: rest).toArray⟩ : ByteArray) = s := ⟨_, rfl⟩
  have hb := fun i => byte_pre pre (91 :: 97 :: 45 :: 99 :: 93 :: rest) i
  have hp := fun i x => pfx_pre pre (91 :: 97 :: 45 :: 99 :: 93 :: rest) i x
  have hz : s.size = pre.length + 5 + rest.length := by rw [← hs, size_list]; simp only [List.length_append, List.length_cons]; omega
  rw [hs] at hb hp ⊢
  have b1 : byteAt s (pre.length + 1) = 97 := by rw [hb]; rfl
  have b2 : byteAt s (pre.length + 2) = 45 := by rw [hb]; rfl
  have b3 : byteAt s (pre.length + 3) = 99 := by rw [hb]; rfl
  have b4 : byteAt s (pre.length + 4) = 93 := by rw [hb]; rfl
  have hh : pfx s (pre.length + 1) hat = false := by rw [hp]; rfl
  have hn : pfx s (pre.length + 1) opN = false := by rw [hp]; rfl
  have m1 : memF s (pre.length + 1) = (97, pre.length + 2) := by unfold memF; rw [b1, if_neg (by omega)]
  have m3 : memF s (pre.length + 3) = (99, pre.length + 4) := by unfold memF; rw [b3, if_neg (by omega)]
  have sp : spanB s (pre.length + 2) = true := by unfold spanB; exact decide_eq_true ⟨by omega, b2, by rw [show pre.length + 2 + 1 = pre.length + 3 from rfl, b3]; omega⟩
  have i1 : itF s (pre.length + 1) zeroS false = (addTo zeroS 97 3, false, pre.length + 4) := by
    unfold itF namS namF
    simp only [hn, Bool.false_eq_true, if_false]
    unfold spanF
    simp only [m1, sp, if_true]
    rw [show pre.length + 2 + 1 = pre.length + 3 from rfl, m3]
    rfl
  have hr : rdX s (pre.length + 1) = some (addTo zeroS 97 3, false, pre.length + 5) := by
    unfold rdX
    obtain ⟨f, hf⟩ : ∃ f, s.size + 1 = f + 2 := ⟨s.size - 1, by omega⟩
    rw [hf, rdF, if_pos (by omega), if_neg (by omega), i1]
    show rdF s (pre.length + 1) (f + 1) (pre.length + 4) (addTo zeroS 97 3) false = _
    rw [rdF, if_pos (by omega), if_pos ⟨by omega, b4⟩]
  unfold collF
  rw [hk, hh]
  simp only [Bool.false_eq_true, if_false, hr]
end
section
variable {G : Tok → RS → Except (Nat × Nat) (Nat × RS)} {last : ByteArray} {pre rest : List UInt8} {f : Nat} {r : RS} {ks : List Nat}
theorem br_coll (hk : r.k = pre.length) (ha : amo 91 r.md = true) :
    brF (pieceF G ⟨(pre ++ 91 :: 97 :: 45 :: 99 :: 93 :: rest).toArray⟩ last) ⟨(pre ++ 91 :: 97 :: 45 :: 99 :: 93 :: rest).toArray⟩ (f + 1) r ks = brF (pieceF G ⟨(pre ++ 91 :: 97 :: 45 :: 99 :: 93 :: rest).toArray⟩ last) ⟨(pre ++ 91 :: 97 :: 45 :: 99 :: 93 :: rest).toArray⟩ f { r with k := pre.length + 5, nds := r.nds ++ [{ op := 4, set := addTo zeroS 97 3 }] } (ks ++ [r.nds.length]) := by
  rw [brF, hk, lex_one _ _ (by decide)]
  have e : amo (91 : UInt8).toNat r.md = true := ha
  rw [e]
  simp only [if_true]
  rw [if_neg (by simp [Tok.ends]), if_neg (by decide)]
  have hc := coll_ac (pre := pre) (rest := rest) pre.length { r with k := pre.length + 1 } rfl
  have hp : ∀ b, pieceF G ⟨(pre ++ 91 :: 97 :: 45 :: 99 :: 93 :: rest).toArray⟩ last ⟨2, 91, pre.length⟩ b { r with k := pre.length + 1 } = .ok (addN { op := 4, set := addTo zeroS 97 3 } { r with k := pre.length + 5 }) := fun b => by
    unfold pieceF signF setF
    rw [hc]
    rfl
  have e91 : (91 : UInt8).toNat = 91 := rfl
  rw [e91, hp]
  rfl
end
end Go.Proofs.YtpahpnajeliodaaGreatDoor
/- Bounds {2,3} and a group (d) wherever they stand. -/
namespace Go.Proofs.YtpahpnajeliodaaGreatDoor
open Go.ChangeShapes Go.WideShapes Go.ChangeAt Go.RowKit
set_option linter.unusedVariables false
set_option linter.unusedSimpArgs false
section
variable {pre rest : List UInt8}
theorem bnd_23 : bndF ⟨(pre ++ 50 :: 44 :: 51 :: 125 :: rest).toArray⟩ pre.length = some (2, 3, false, pre.length + 4) := by
  have p0 : pfx ⟨(pre ++ 50 :: 44 :: 51 :: 125 :: rest).toArray⟩ pre.length ⟨#[45]⟩ = false := by have := pfx_pre pre (50 :: 44 :: 51 :: 125 :: rest) 0 ⟨#[45]⟩; rw [Nat.add_zero] at this; rw [this]; rfl
  have p1 : pfx ⟨(pre ++ 50 :: 44 :: 51 :: 125 :: rest).toArray⟩ (pre.length + 1) ⟨#[44]⟩ = true := by rw [pfx_pre]; rfl
  have p3 : pfx ⟨(pre ++ 50 :: 44 :: 51 :: 125 :: rest).toArray⟩ (pre.length + 3) ⟨#[125]⟩ = true := by rw [pfx_pre]; rfl
  have n0 : numF ⟨(pre ++ 50 :: 44 :: 51 :: 125 :: rest).toArray⟩ pre.length = some (2, pre.length + 1) := by
    have := num_at (l := pre ++ 50 :: 44 :: 51 :: 125 :: rest) (pre := pre) (n := 2) (c := 44) (r := 51 :: 125 :: rest) (k := pre.length) rfl rfl (by omega) rfl
    rw [this]; rfl
  have n2 : numF ⟨(pre ++ 50 :: 44 :: 51 :: 125 :: rest).toArray⟩ (pre.length + 2) = some (3, pre.length + 3) := by
    have := num_at (l := pre ++ 50 :: 44 :: 51 :: 125 :: rest) (pre := pre ++ [50, 44]) (n := 3) (c := 125) (r := rest) (k := pre.length + 2) (by rw [List.append_assoc]; rfl) (by simp) (by omega) rfl
    rw [this]; rfl
  unfold bndF
  rw [p0]
  simp only [Bool.false_eq_true, if_false, n0, p1, if_true]
  rw [show pre.length + 1 + 1 = pre.length + 2 from rfl, n2]
  simp only
  rw [if_pos (by omega)]
  unfold finF
  rw [p3]
  rfl
end
section
variable {s last : ByteArray} {n p p2 k1 K : Nat} {t : Tok} {r : RS}
theorem grp_d (hs : 1 ≤ s.size) (hg : r.g ≠ 9) (hd : nextF s (s.size + 1) r.k r.md r.cs = .ok (⟨1, 100, p⟩, k1, r.md, r.cs)) (hc : nextF s (s.size + 1) k1 r.md r.cs = .ok (⟨2, 41, p2⟩, K, r.md, r.cs)) :
    groupF (brsF s last (n + 1)) t r = .ok (addN { op := 8, n := r.g + 1, kids := [r.nds.length] } { r with k := K, g := r.g + 1, cl := r.cl.set (r.g + 1) true, nds := r.nds ++ [{ op := 2, c := 100 }] }) := by
  obtain ⟨f, hf⟩ : ∃ f, s.size + 1 = f + 1 + 1 := ⟨s.size - 1, by omega⟩
  unfold groupF
  rw [if_neg hg, brsF, brsL]
  have e1 : brF (pieceF (groupF (brsF s last n)) s last) s (s.size + 1) { r with g := r.g + 1 } [] = .ok (r.nds.length, ⟨2, 41, p2⟩, { r with k := K, g := r.g + 1, nds := r.nds ++ [{ op := 2, c := 100 }] }) := by
    rw [hf, br_lit (r := { r with g := r.g + 1 }) hd, br_ends (r := { r with g := r.g + 1, k := k1, nds := r.nds ++ [{ op := 2, c := 100 }] }) (by rfl) hc]
    rfl
  rw [e1]
  simp only
  rw [if_neg (by simp)]
  simp only [joinF, List.nil_append]
  rw [if_neg (by simp)]
end
end Go.Proofs.YtpahpnajeliodaaGreatDoor
/- The parts of PatModes, a step each: a . b+ <e>, in either mode. -/
namespace Go.Proofs.YtpahpnajeliodaaGreatDoor
open Go.ChangeShapes Go.WideShapes Go.ChangeAt Go.RowKit
set_option linter.unusedVariables false
set_option linter.unusedSimpArgs false
section
variable {G : Tok → RS → Except (Nat × Nat) (Nat × RS)} {last : ByteArray} {pre rest : List UInt8} {f : Nat} {r : RS} {ks : List Nat} {s : ByteArray}
/-- What comes next, of a text given by what is read and what is left. -/
theorem nx_one {c : UInt8} (hs : s = ⟨(pre ++ c :: rest).toArray⟩) (hc : c ≠ 92) (hk : r.k = pre.length) {kd : Nat} (ha : (if amo c.toNat r.md then 2 else 1) = kd) :
    nextF s (s.size + 1) r.k r.md r.cs = .ok (⟨kd, c.toNat, pre.length⟩, (pre ++ [c]).length, r.md, r.cs) := by
  subst hs
  rw [hk, lex_one _ _ hc, ha, List.length_append]
  rfl
theorem nx_esc {c : UInt8} (hs : s = ⟨(pre ++ 92 :: c :: rest).toArray⟩) (hk : r.k = pre.length) {kd : Nat} (ha : escK c r.md = kd) (h3 : kd ≠ 3) :
    nextF s (s.size + 1) r.k r.md r.cs = .ok (⟨kd, c.toNat, pre.length⟩, (pre ++ [92, c]).length, r.md, r.cs) := by
  subst hs
  subst ha
  rw [hk, lex_esc _ _ h3, List.length_append]
  rfl
theorem nx_let {c : UInt8} (hs : s = ⟨(pre ++ 92 :: c :: rest).toArray⟩) (hk : r.k = pre.length) (ha : escK c r.md = 3) (ho : obeyF c.toNat r.md r.cs = none) :
    nextF s (s.size + 1) r.k r.md r.cs = .ok (⟨3, c.toNat, pre.length⟩, (pre ++ [92, c]).length, r.md, r.cs) := by
  subst hs
  rw [hk, lex_let _ _ ha ho, List.length_append]
  rfl
theorem nx_fin (hs : s = ⟨(pre ++ []).toArray⟩) (hk : r.k = pre.length) : nextF s (s.size + 1) r.k r.md r.cs = .ok (⟨0, 0, pre.length⟩, pre.length, r.md, r.cs) := by
  subst hs
  rw [hk, lex_fin]
/-- A branch from here on is a branch from there on. -/
theorem part_a (hs : s = ⟨(pre ++ 97 :: rest).toArray⟩) (hk : r.k = pre.length) (hm : r.md = mdV ∨ r.md = mdM) :
    brF (pieceF G s last) s (f + 1) r ks = brF (pieceF G s last) s f { r with k := (pre ++ [97]).length, nds := r.nds ++ [{ op := 2, c := 97 }] } (ks ++ [r.nds.length]) :=
  br_lit (nx_one hs (by decide) hk (by rcases hm with h | h <;> rw [h] <;> decide +kernel))
theorem part_dot (hs : s = ⟨(pre ++ 46 :: rest).toArray⟩) (hk : r.k = pre.length) (hm : r.md = mdV ∨ r.md = mdM) :
    brF (pieceF G s last) s (f + 1) r ks = brF (pieceF G s last) s f { r with k := (pre ++ [46]).length, nds := r.nds ++ [{ op := 3 }] } (ks ++ [r.nds.length]) :=
  br_bare (.inl ⟨rfl, rfl⟩) (nx_one hs (by decide) hk (by rcases hm with h | h <;> rw [h] <;> decide +kernel))
theorem op_last (r : RS) (d : Nd) (k : Nat) : opOf { r with k := k, nds := r.nds ++ [d] } r.nds.length = d.op := by
  unfold opOf
  simp
theorem set_last (ks : List Nat) (a b : Nat) : (ks ++ [a]).set ((ks ++ [a]).length - 1) b = ks ++ [b] := by
  simp
theorem part_bV (hs : s = ⟨(pre ++ 98 :: 43 :: rest).toArray⟩) (hk : r.k = pre.length) (hm : r.md = mdV) :
    brF (pieceF G s last) s (f + 2) r ks = brF (pieceF G s last) s f { r with k := (pre ++ [98, 43]).length, nds := r.nds ++ [{ op := 2, c := 98 }, { op := 7, mn := 1, mx := -1, kids := [r.nds.length] }] } (ks ++ [r.nds.length + 1]) := by
  rw [br_lit (nx_one hs (by decide) hk (kd := 1) (by rw [hm]; decide +kernel))]
  have h2 := nx_one (s := s) (pre := pre ++ [98]) (c := 43) (rest := rest) (r := { r with k := (pre ++ [98]).length, nds := r.nds ++ [{ op := 2, c := 98 }] }) (by rw [hs]; simp) (by decide) rfl (kd := 2) (by show (if amo _ r.md then 2 else 1) = 2; rw [hm]; decide +kernel)
  have h3 := br_plus (G := G) (last := last) (f := f) (q := r.nds.length) (ks := ks ++ [r.nds.length]) (r := { r with k := (pre ++ [98]).length, nds := r.nds ++ [{ op := 2, c := 98 }] }) (by simp) (by rw [op_last]; rfl) h2
  rw [set_last] at h3
  refine Eq.trans h3 ?_
  simp
theorem part_bM (hs : s = ⟨(pre ++ 98 :: 92 :: 43 :: rest).toArray⟩) (hk : r.k = pre.length) (hm : r.md = mdM) :
    brF (pieceF G s last) s (f + 2) r ks = brF (pieceF G s last) s f { r with k := (pre ++ [98, 92, 43]).length, nds := r.nds ++ [{ op := 2, c := 98 }, { op := 7, mn := 1, mx := -1, kids := [r.nds.length] }] } (ks ++ [r.nds.length + 1]) := by
  rw [br_lit (nx_one hs (by decide) hk (kd := 1) (by rw [hm]; decide +kernel))]
  have h2 := nx_esc (s := s) (pre := pre ++ [98]) (c := 43) (rest := rest) (r := { r with k := (pre ++ [98]).length, nds := r.nds ++ [{ op := 2, c := 98 }] }) (by rw [hs]; simp) rfl (kd := 2) (by show escK 43 r.md = 2; rw [hm]; decide +kernel) (by decide)
  have h3 := br_plus (G := G) (last := last) (f := f) (q := r.nds.length) (ks := ks ++ [r.nds.length]) (r := { r with k := (pre ++ [98]).length, nds := r.nds ++ [{ op := 2, c := 98 }] }) (by simp) (by rw [op_last]; rfl) h2
  rw [set_last] at h3
  refine Eq.trans h3 ?_
  simp
end
end Go.Proofs.YtpahpnajeliodaaGreatDoor
/- The parts of PatModes, a step each: c{2,3} (d) [a-c]* <e> \+\d, in either mode. -/
namespace Go.Proofs.YtpahpnajeliodaaGreatDoor
open Go.ChangeShapes Go.WideShapes Go.ChangeAt Go.RowKit
set_option linter.unusedVariables false
set_option linter.unusedSimpArgs false
section
variable {G : Tok → RS → Except (Nat × Nat) (Nat × RS)} {last : ByteArray} {pre rest : List UInt8} {f n : Nat} {r : RS} {ks : List Nat} {s : ByteArray}
theorem part_cV (hs : s = ⟨(pre ++ 99 :: 123 :: 50 :: 44 :: 51 :: 125 :: rest).toArray⟩) (hk : r.k = pre.length) (hm : r.md = mdV) :
    brF (pieceF G s last) s (f + 2) r ks = brF (pieceF G s last) s f { r with k := (pre ++ [99, 123, 50, 44, 51, 125]).length, nds := r.nds ++ [{ op := 2, c := 99 }, { op := 7, mn := 2, mx := 3, kids := [r.nds.length] }] } (ks ++ [r.nds.length + 1]) := by
  rw [br_lit (nx_one hs (by decide) hk (kd := 1) (by rw [hm]; decide +kernel))]
  have h2 := nx_one (s := s) (pre := pre ++ [99]) (c := 123) (rest := 50 :: 44 :: 51 :: 125 :: rest) (r := { r with k := (pre ++ [99]).length, nds := r.nds ++ [{ op := 2, c := 99 }] }) (by rw [hs]; simp) (by decide) rfl (kd := 2) (by show (if amo _ r.md then 2 else 1) = 2; rw [hm]; decide +kernel)
  have hb : bndF s (pre ++ [99] ++ [123]).length = some (2, 3, false, (pre ++ [99] ++ [123]).length + 4) := by
    have := bnd_23 (pre := pre ++ [99] ++ [123]) (rest := rest)
    rw [← this, hs]
    congr 1
    simp
  have h3 := br_brace (G := G) (last := last) (f := f) (q := r.nds.length) (ks := ks ++ [r.nds.length]) (r := { r with k := (pre ++ [99]).length, nds := r.nds ++ [{ op := 2, c := 99 }] }) hb (by simp) (by rw [op_last]; rfl) h2
  rw [set_last] at h3
  refine Eq.trans h3 ?_
  simp
theorem part_cM (hs : s = ⟨(pre ++ 99 :: 92 :: 123 :: 50 :: 44 :: 51 :: 125 :: rest).toArray⟩) (hk : r.k = pre.length) (hm : r.md = mdM) :
    brF (pieceF G s last) s (f + 2) r ks = brF (pieceF G s last) s f { r with k := (pre ++ [99, 92, 123, 50, 44, 51, 125]).length, nds := r.nds ++ [{ op := 2, c := 99 }, { op := 7, mn := 2, mx := 3, kids := [r.nds.length] }] } (ks ++ [r.nds.length + 1]) := by
  rw [br_lit (nx_one hs (by decide) hk (kd := 1) (by rw [hm]; decide +kernel))]
  have h2 := nx_esc (s := s) (pre := pre ++ [99]) (c := 123) (rest := 50 :: 44 :: 51 :: 125 :: rest) (r := { r with k := (pre ++ [99]).length, nds := r.nds ++ [{ op := 2, c := 99 }] }) (by rw [hs]; simp) rfl (kd := 2) (by show escK 123 r.md = 2; rw [hm]; decide +kernel) (by decide)
  have hb : bndF s (pre ++ [99] ++ [92, 123]).length = some (2, 3, false, (pre ++ [99] ++ [92, 123]).length + 4) := by
    have := bnd_23 (pre := pre ++ [99] ++ [92, 123]) (rest := rest)
    rw [← this, hs]
    congr 1
    simp
  have h3 := br_brace (G := G) (last := last) (f := f) (q := r.nds.length) (ks := ks ++ [r.nds.length]) (r := { r with k := (pre ++ [99]).length, nds := r.nds ++ [{ op := 2, c := 99 }] }) hb (by simp) (by rw [op_last]; rfl) h2
  rw [set_last] at h3
  refine Eq.trans h3 ?_
  simp
theorem part_coll (hs : s = ⟨(pre ++ 91 :: 97 :: 45 :: 99 :: 93 :: 42 :: rest).toArray⟩) (hk : r.k = pre.length) (hm : r.md = mdV ∨ r.md = mdM) :
    brF (pieceF G s last) s (f + 2) r ks = brF (pieceF G s last) s f { r with k := (pre ++ [91, 97, 45, 99, 93, 42]).length, nds := r.nds ++ [{ op := 4, set := addTo zeroS 97 3 }, { op := 7, mx := -1, kids := [r.nds.length] }] } (ks ++ [r.nds.length + 1]) := by
  have h1 := br_coll (G := G) (last := last) (f := f + 1) (ks := ks) (rest := 42 :: rest) hk (by rcases hm with h | h <;> rw [h] <;> decide +kernel)
  rw [← hs] at h1
  refine Eq.trans h1 ?_
  have h2 := nx_one (s := s) (pre := pre ++ [91, 97, 45, 99, 93]) (c := 42) (rest := rest) (r := { r with k := pre.length + 5, nds := r.nds ++ [{ op := 4, set := addTo zeroS 97 3 }] }) (by rw [hs]; simp) (by decide) (by simp) (kd := 2) (by show (if amo _ r.md then 2 else 1) = 2; rcases hm with h | h <;> rw [h] <;> decide +kernel)
  have h3 := br_star (G := G) (last := last) (f := f) (q := r.nds.length) (ks := ks ++ [r.nds.length]) (r := { r with k := pre.length + 5, nds := r.nds ++ [{ op := 4, set := addTo zeroS 97 3 }] }) (by simp) (by rw [op_last]; rfl) h2
  rw [set_last] at h3
  refine Eq.trans h3 ?_
  simp
theorem br_let {c p k' i : Nat} {r1 : RS} (hl : letterF s ⟨3, c, p⟩ { r with k := k' } = .ok (i, r1)) (hn : nextF s (s.size + 1) r.k r.md r.cs = .ok (⟨3, c, p⟩, k', r.md, r.cs)) :
    brF (pieceF G s last) s (f + 1) r ks = brF (pieceF G s last) s f r1 (ks ++ [i]) := by
  rw [brF, hn]
  simp only
  rw [if_neg (by simp [Tok.ends]), if_neg (by simp)]
  have hp : ∀ b, pieceF G s last ⟨3, c, p⟩ b { r with k := k' } = .ok (i, r1) := fun b => hl
  rw [hp]
theorem br_grp {p k' i : Nat} {r1 : RS} (hl : G ⟨2, 40, p⟩ { r with k := k' } = .ok (i, r1)) (hn : nextF s (s.size + 1) r.k r.md r.cs = .ok (⟨2, 40, p⟩, k', r.md, r.cs)) :
    brF (pieceF G s last) s (f + 1) r ks = brF (pieceF G s last) s f r1 (ks ++ [i]) := by
  rw [brF, hn]
  simp only
  rw [if_neg (by simp [Tok.ends]), if_neg (by decide)]
  have hp : ∀ b, pieceF G s last ⟨2, 40, p⟩ b { r with k := k' } = .ok (i, r1) := fun b => hl
  rw [hp]
end
end Go.Proofs.YtpahpnajeliodaaGreatDoor
/- The parts of PatModes, a step each: <e> \+\d (d), in either mode. -/
namespace Go.Proofs.YtpahpnajeliodaaGreatDoor
open Go.ChangeShapes Go.WideShapes Go.ChangeAt Go.RowKit
set_option linter.unusedVariables false
set_option linter.unusedSimpArgs false
section
variable {G : Tok → RS → Except (Nat × Nat) (Nat × RS)} {last : ByteArray} {pre rest : List UInt8} {f n : Nat} {r : RS} {ks : List Nat} {s : ByteArray}
theorem part_eV (hs : s = ⟨(pre ++ 60 :: 101 :: 62 :: rest).toArray⟩) (hk : r.k = pre.length) (hm : r.md = mdV) :
    brF (pieceF G s last) s (f + 3) r ks = brF (pieceF G s last) s f { r with k := (pre ++ [60, 101, 62]).length, nds := r.nds ++ [{ op := 12 }, { op := 2, c := 101 }, { op := 13 }] } (ks ++ [r.nds.length, r.nds.length + 1, r.nds.length + 2]) := by
  rw [br_bare (f := f + 2) (op := 12) (.inr (.inl ⟨rfl, rfl⟩)) (nx_one hs (by decide) hk (kd := 2) (by rw [hm]; decide +kernel))]
  have h2 := nx_one (s := s) (pre := pre ++ [60]) (c := 101) (rest := 62 :: rest) (r := { r with k := (pre ++ [60]).length, nds := r.nds ++ [{ op := 12 }] }) (by rw [hs]; simp) (by decide) rfl (kd := 1) (by show (if amo _ r.md then 2 else 1) = 1; rw [hm]; decide +kernel)
  rw [br_lit h2]
  have h3 := nx_one (s := s) (pre := pre ++ [60] ++ [101]) (c := 62) (rest := rest) (r := { r with k := (pre ++ [60] ++ [101]).length, nds := r.nds ++ [{ op := 12 }] ++ [{ op := 2, c := 101 }] }) (by rw [hs]; simp) (by decide) rfl (kd := 2) (by show (if amo _ r.md then 2 else 1) = 2; rw [hm]; decide +kernel)
  refine Eq.trans (br_bare (op := 13) (.inr (.inr ⟨rfl, rfl⟩)) h3) ?_
  simp
theorem part_eM (hs : s = ⟨(pre ++ 92 :: 60 :: 101 :: 92 :: 62 :: rest).toArray⟩) (hk : r.k = pre.length) (hm : r.md = mdM) :
    brF (pieceF G s last) s (f + 3) r ks = brF (pieceF G s last) s f { r with k := (pre ++ [92, 60, 101, 92, 62]).length, nds := r.nds ++ [{ op := 12 }, { op := 2, c := 101 }, { op := 13 }] } (ks ++ [r.nds.length, r.nds.length + 1, r.nds.length + 2]) := by
  rw [br_bare (f := f + 2) (op := 12) (.inr (.inl ⟨rfl, rfl⟩)) (nx_esc hs hk (kd := 2) (by rw [hm]; decide +kernel) (by decide))]
  have h2 := nx_one (s := s) (pre := pre ++ [92, 60]) (c := 101) (rest := 92 :: 62 :: rest) (r := { r with k := (pre ++ [92, 60]).length, nds := r.nds ++ [{ op := 12 }] }) (by rw [hs]; simp) (by decide) rfl (kd := 1) (by show (if amo _ r.md then 2 else 1) = 1; rw [hm]; decide +kernel)
  rw [br_lit h2]
  have h3 := nx_esc (s := s) (pre := pre ++ [92, 60] ++ [101]) (c := 62) (rest := rest) (r := { r with k := (pre ++ [92, 60] ++ [101]).length, nds := r.nds ++ [{ op := 12 }] ++ [{ op := 2, c := 101 }] }) (by rw [hs]; simp) rfl (kd := 2) (by show escK 62 r.md = 2; rw [hm]; decide +kernel) (by decide)
  refine Eq.trans (br_bare (op := 13) (.inr (.inr ⟨rfl, rfl⟩)) h3) ?_
  simp
theorem let_d (p : Nat) (r : RS) : letterF s ⟨3, 100, p⟩ r = .ok (addN { op := 4, set := foldS (isB 100) 256 } r) := by
  have h : knB (smI ((100 : Nat) : Int)) = true := by decide +kernel
  unfold letterF
  simp only
  rw [if_neg (by omega), if_neg (by omega), if_neg (by omega), if_neg (by omega), h]
  rfl
theorem part_pV (hs : s = ⟨(pre ++ 92 :: 43 :: 92 :: 100 :: rest).toArray⟩) (hk : r.k = pre.length) (hm : r.md = mdV) :
    brF (pieceF G s last) s (f + 2) r ks = brF (pieceF G s last) s f { r with k := (pre ++ [92, 43, 92, 100]).length, nds := r.nds ++ [{ op := 2, c := 43 }, { op := 4, set := foldS (isB 100) 256 }] } (ks ++ [r.nds.length, r.nds.length + 1]) := by
  rw [br_lit (nx_esc hs hk (kd := 1) (by rw [hm]; decide +kernel) (by decide))]
  have h2 := nx_let (s := s) (pre := pre ++ [92, 43]) (c := 100) (rest := rest) (r := { r with k := (pre ++ [92, 43]).length, nds := r.nds ++ [{ op := 2, c := 43 }] }) (by rw [hs]; simp) rfl (by show escK 100 r.md = 3; rw [hm]; decide +kernel) (by show obeyF 100 r.md r.cs = none; unfold obeyF; simp)
  refine Eq.trans (br_let (let_d _ _) h2) ?_
  simp
theorem part_pM (hs : s = ⟨(pre ++ 43 :: 92 :: 100 :: rest).toArray⟩) (hk : r.k = pre.length) (hm : r.md = mdM) :
    brF (pieceF G s last) s (f + 2) r ks = brF (pieceF G s last) s f { r with k := (pre ++ [43, 92, 100]).length, nds := r.nds ++ [{ op := 2, c := 43 }, { op := 4, set := foldS (isB 100) 256 }] } (ks ++ [r.nds.length, r.nds.length + 1]) := by
  rw [br_lit (nx_one hs (by decide) hk (kd := 1) (by rw [hm]; decide +kernel))]
  have h2 := nx_let (s := s) (pre := pre ++ [43]) (c := 100) (rest := rest) (r := { r with k := (pre ++ [43]).length, nds := r.nds ++ [{ op := 2, c := 43 }] }) (by rw [hs]; simp) rfl (by show escK 100 r.md = 3; rw [hm]; decide +kernel) (by show obeyF 100 r.md r.cs = none; unfold obeyF; simp)
  refine Eq.trans (br_let (let_d _ _) h2) ?_
  simp
theorem part_dV (hs : s = ⟨(pre ++ 40 :: 100 :: 41 :: rest).toArray⟩) (hk : r.k = pre.length) (hm : r.md = mdV) (hg : r.g ≠ 9) :
    brF (pieceF (groupF (brsF s last (n + 1))) s last) s (f + 1) r ks = brF (pieceF (groupF (brsF s last (n + 1))) s last) s f { r with k := (pre ++ [40, 100, 41]).length, g := r.g + 1, cl := r.cl.set (r.g + 1) true, nds := r.nds ++ [{ op := 2, c := 100 }, { op := 8, n := r.g + 1, kids := [r.nds.length] }] } (ks ++ [r.nds.length + 1]) := by
  have h2 := nx_one (s := s) (pre := pre ++ [40]) (c := 100) (rest := 41 :: rest) (r := { r with k := (pre ++ [40]).length }) (by rw [hs]; simp) (by decide) rfl (kd := 1) (by show (if amo _ r.md then 2 else 1) = 1; rw [hm]; decide +kernel)
  have h3 := nx_one (s := s) (pre := pre ++ [40] ++ [100]) (c := 41) (rest := rest) (r := { r with k := (pre ++ [40] ++ [100]).length }) (by rw [hs]; simp) (by decide) rfl (kd := 2) (by show (if amo _ r.md then 2 else 1) = 2; rw [hm]; decide +kernel)
  have hz : 1 ≤ s.size := by rw [hs, size_list]; simp; omega
  have hgd := fun t => grp_d (last := last) (n := n) (t := t) (r := { r with k := (pre ++ [40]).length }) hz hg h2 h3
  refine Eq.trans (br_grp (hgd _) (nx_one hs (by decide) hk (kd := 2) (by rw [hm]; decide +kernel))) ?_
  simp
theorem part_dM (hs : s = ⟨(pre ++ 92 :: 40 :: 100 :: 92 :: 41 :: rest).toArray⟩) (hk : r.k = pre.length) (hm : r.md = mdM) (hg : r.g ≠ 9) :
    brF (pieceF (groupF (brsF s last (n + 1))) s last) s (f + 1) r ks = brF (pieceF (groupF (brsF s last (n + 1))) s last) s f { r with k := (pre ++ [92, 40, 100, 92, 41]).length, g := r.g + 1, cl := r.cl.set (r.g + 1) true, nds := r.nds ++ [{ op := 2, c := 100 }, { op := 8, n := r.g + 1, kids := [r.nds.length] }] } (ks ++ [r.nds.length + 1]) := by
  have h2 := nx_one (s := s) (pre := pre ++ [92, 40]) (c := 100) (rest := 92 :: 41 :: rest) (r := { r with k := (pre ++ [92, 40]).length }) (by rw [hs]; simp) (by decide) rfl (kd := 1) (by show (if amo _ r.md then 2 else 1) = 1; rw [hm]; decide +kernel)
  have h3 := nx_esc (s := s) (pre := pre ++ [92, 40] ++ [100]) (c := 41) (rest := rest) (r := { r with k := (pre ++ [92, 40] ++ [100]).length }) (by rw [hs]; simp) rfl (kd := 2) (by show escK 41 r.md = 2; rw [hm]; decide +kernel) (by decide)
  have hz : 1 ≤ s.size := by rw [hs, size_list]; simp; omega
  have hgd := fun t => grp_d (last := last) (n := n) (t := t) (r := { r with k := (pre ++ [92, 40]).length }) hz hg h2 h3
  refine Eq.trans (br_grp (hgd _) (nx_esc hs hk (kd := 2) (by rw [hm]; decide +kernel) (by decide))) ?_
  simp
end
end Go.Proofs.YtpahpnajeliodaaGreatDoor
/- PatModes: the parts' texts; bytes that are handed in. -/
namespace Go.Proofs.YtpahpnajeliodaaGreatDoor
open Go.ChangeShapes Go.WideShapes Go.ChangeAt Go.RowKit
set_option linter.unusedVariables false
set_option linter.unusedSimpArgs false
/-- The parts' texts, very magic and magic. -/
def tV : Nat → List UInt8
  | 0 => [97] | 1 => [46] | 2 => [98, 43] | 3 => [99, 123, 50, 44, 51, 125] | 4 => [124] | 5 => [40, 100, 41] | 6 => [91, 97, 45, 99, 93, 42] | 7 => [60, 101, 62] | _ => [92, 43, 92, 100]
def tM : Nat → List UInt8
  | 0 => [97] | 1 => [46] | 2 => [98, 92, 43] | 3 => [99, 92, 123, 50, 44, 51, 125] | 4 => [92, 124] | 5 => [92, 40, 100, 92, 41] | 6 => [91, 97, 45, 99, 93, 42] | 7 => [92, 60, 101, 92, 62] | _ => [43, 92, 100]
/-- The groups among the parts. -/
def c5 (E : List Nat) : Nat := (E.filter (· == 5)).length
theorem c5_cons (x : Nat) (E : List Nat) : c5 (x :: E) = (if x = 5 then 1 else 0) + c5 E := by
  unfold c5
  by_cases h : x = 5
  · simp [h]; omega
  · simp [h]
def veryT (E : List Nat) : ByteArray := ⟨(92 :: 118 :: E.flatMap tV).toArray⟩
def magicT (E : List Nat) : ByteArray := ⟨(E.flatMap tM).toArray⟩
theorem c5_snoc (x : Nat) (E : List Nat) : c5 (E ++ [x]) = c5 E + (if x = 5 then 1 else 0) := by
  unfold c5
  by_cases h : x = 5
  · simp [h]
  · simp [h]
theorem tV_len (x : Nat) : (tV x).length ≤ 6 := by unfold tV; split <;> decide
theorem tM_len (x : Nat) : (tM x).length ≤ 7 := by unfold tM; split <;> decide
theorem len_le {t : Nat → List UInt8} (h : ∀ x, (t x).length ≤ 7) : ∀ E : List Nat, (E.flatMap t).length ≤ 7 * E.length
  | [] => by simp
  | x :: E => by have := len_le h E; have := h x; rw [List.flatMap_cons, List.length_append, List.length_cons]; omega
theorem cat_v {E : List Nat} (h : E.length ≤ 1000) (x : Nat) {t : List UInt8} (ht : tV x = t) (W : World) : (Op.stringOp .add (veryT E) ⟨t.toArray⟩).run Tryz.prog W = .ok (.string (veryT (E ++ [x]))) W := by
  have h1 := len_le (fun x => Nat.le_trans (tV_len x) (by omega)) E
  have h2 := tV_len x
  rw [ht] at h2
  have := run_string_add_lists (P := Tryz.prog) W (92 :: 118 :: E.flatMap tV) t (by simp only [List.length_cons]; omega) (by omega)
  refine Eq.trans this ?_
  unfold veryT
  rw [List.flatMap_append, List.flatMap_singleton, ht]
  rfl
theorem cat_m {E : List Nat} (h : E.length ≤ 1000) (x : Nat) {t : List UInt8} (ht : tM x = t) (W : World) : (Op.stringOp .add (magicT E) ⟨t.toArray⟩).run Tryz.prog W = .ok (.string (magicT (E ++ [x]))) W := by
  have h1 := len_le tM_len E
  have h2 := tM_len x
  rw [ht] at h2
  have := run_string_add_lists (P := Tryz.prog) W (E.flatMap tM) t (by omega) (by omega)
  refine Eq.trans this ?_
  unfold magicT
  rw [List.flatMap_append, List.flatMap_singleton, ht]
/-- Bytes in a row that can be read. -/
def Byl (v : Value) (l : List Nat) (w : World) : Prop := ∃ a cap, v = .slice a l.length cap ∧ l.length ≤ cap ∧ cap ≤ maxLen ∧ ∀ (i x : Nat), l[i]? = some x → x < 256 ∧ ∃ B o, a = some ⟨B, o, none⟩ ∧ w.cell? ⟨B, o + i, none⟩ = some (.int .u8 x)
theorem Byl.kp {v : Value} {l : List Nat} {w w1 : World} (h : Byl v l w) (k : Kp w w1) : Byl v l w1 := by
  obtain ⟨a, cap, rfl, h1, h2, h3⟩ := h
  refine ⟨a, cap, rfl, h1, h2, fun i x hi => ?_⟩
  obtain ⟨hx, B, o, e, hc⟩ := h3 i x hi
  exact ⟨hx, B, o, e, kp_cell k hc⟩
theorem fU8 {a : Int} (w : (Lit.int .u8 a).wf = true) : 0 ≤ a ∧ a < 256 := by
  have h : (decide (IntKind.u8.min ≤ a) && decide (a ≤ IntKind.u8.max)) = true := w
  rw [Bool.and_eq_true, decide_eq_true_eq, decide_eq_true_eq] at h
  have e1 : IntKind.u8.min = 0 := by decide
  have e2 : IntKind.u8.max = 255 := by decide
  omega
theorem cellsUB : Tryz.prog.cellsOf 5 = 1 := by kernel_rfl
set_option maxRecDepth 100000 in
theorem bytes_form {H : Type} {enc : TypeId × Value → H} {W : World} {base : Nat} {v : Value} {d : DataW H} {p : List MemPlace} (hval : Value.okWide Tryz.prog W .any base 22 v) (h : DataW.Trod enc Tryz.prog W 0 (fun _ => true) true 22 v d p) :
    ∃ l : List Nat, Byl v l W := by
  obtain ⟨a0, len0, cap0, rfl⟩ := okWide_slice Tryz.underlying22 hval
  obtain ⟨fuel, hf⟩ := h
  rcases Deep.open_slice Tryz.underlying22 hf with ⟨hcs, hx⟩ | ⟨a, len, cap, m, n, D, Pl, hcs, _, hl, hm, hmm, hx, hcell⟩
  · simp [Value.cells] at hcs
    obtain ⟨rfl, rfl, rfl⟩ := hcs
    exact ⟨[], none, 0, rfl, by simp, by simp [maxLen], fun i t hi => by cases hi⟩
  · simp [Value.cells] at hcs
    obtain ⟨rfl, rfl, rfl⟩ := hcs
    simp only [if_true] at hmm
    subst hmm
    rw [cellsUB] at hcell
    have each : ∀ i, i < m → ∃ x : Nat, W.cell? (a.add (i * 1)) = some (.int .u8 x) ∧ x < 256 := fun i hi => by
      obtain ⟨cs', h1, h2⟩ := hcell i hi
      obtain ⟨y, e, _, wy⟩ := DataW.trod_int Tryz.underlying5 h2
      obtain ⟨_, hlen, hc⟩ := World.cells?_some h1
      have u := fU8 wy
      refine ⟨y.toNat, ?_, by omega⟩
      have := hc 0 (by omega)
      rw [e] at this
      rw [Int.toNat_of_nonneg u.1]
      simpa [Addr.add] using this
    obtain ⟨F, hF⟩ := Deep.choose_lt each
    have hspot : 0 < m → a.spot = none := fun h0 => by
      have := (hF 0 h0).1
      simpa [Addr.add] using World.cell?_spot this
    refine ⟨(List.range len0).map F, some a, m, by simp, by simpa using hl, hm, fun i x hi => ?_⟩
    simp only [List.getElem?_map, Option.map_eq_some_iff] at hi
    obtain ⟨k, hk, rfl⟩ := hi
    obtain ⟨hlt, hk⟩ := List.getElem?_eq_some_iff.1 hk
    simp at hk hlt
    subst hk
    obtain ⟨b, off, spot⟩ := a
    have hs : spot = none := hspot (by omega)
    subst hs
    have hc := (hF i (by omega)).1
    rw [Addr.add_lit, Nat.mul_one] at hc
    exact ⟨(hF i (by omega)).2, b, off, rfl, hc⟩
end Go.Proofs.YtpahpnajeliodaaGreatDoor
/- PatModes: the two texts of the same parts, read side by side: a branch. -/
namespace Go.Proofs.YtpahpnajeliodaaGreatDoor
open Go.ChangeShapes Go.WideShapes Go.ChangeAt Go.RowKit
set_option linter.unusedVariables false
set_option linter.unusedSimpArgs false
def joinI (op : Nat) (ks : List Nat) (nds : List Nd) : Nat := match ks with | [] => nds.length | [x] => x | _ => nds.length
def joinN (op : Nat) (ks : List Nat) (nds : List Nd) : List Nd := match ks with | [] => nds ++ [{ op := 1 }] | [x] => nds | _ => nds ++ [{ op := op, kids := ks }]
theorem join_eq (op : Nat) (ks : List Nat) (k : Nat) (md : ByteArray) (cs g : Nat) (cl : List Bool) (nds : List Nd) :
    joinF op ks ⟨k, md, cs, g, cl, nds⟩ = (joinI op ks nds, ⟨k, md, cs, g, cl, joinN op ks nds⟩) := by
  match ks with
  | [] => rfl
  | [x] => rfl
  | x :: y :: l => rfl
theorem joinN_le (op : Nat) (ks : List Nat) (nds : List Nd) : (joinN op ks nds).length ≤ nds.length + 1 := by
  unfold joinN
  split <;> simp
/-- Both are at the same place of the same parts. -/
structure Both (sV sM : ByteArray) (E : List Nat) (g : Nat) (kV kM : Nat) : Prop where
  nine : ∀ x ∈ E, x < 9
  few : g + c5 E ≤ 9
  tv : ∃ p, sV = ⟨(p ++ E.flatMap tV).toArray⟩ ∧ kV = p.length
  tm : ∃ p, sM = ⟨(p ++ E.flatMap tM).toArray⟩ ∧ kM = p.length
section
variable {sV sM last : ByteArray} {n : Nat}
abbrev pieceG (s last : ByteArray) (n : Nat) := pieceF (groupF (brsF s last (n + 1))) s last
theorem fin_ends (p : Nat) : Tok.ends ⟨0, 0, p⟩ = true := by simp [Tok.ends]
theorem bar_ends (p : Nat) : Tok.ends ⟨2, 124, p⟩ = true := by simp [Tok.ends]
theorem br_both (E : List Nat) : ∀ (kV kM cs g : Nat) (cl : List Bool) (nds : List Nd) (ks : List Nat) (fV fM : Nat), Both sV sM E g kV kM → (E.flatMap tV).length < fV → (E.flatMap tM).length < fM →
    ∃ i kd c pV pM kV' kM' g' cl' nds' E', brF (pieceG sV last n) sV fV ⟨kV, mdV, cs, g, cl, nds⟩ ks = .ok (i, ⟨kd, c, pV⟩, ⟨kV', mdV, cs, g', cl', nds'⟩) ∧
      brF (pieceG sM last n) sM fM ⟨kM, mdM, cs, g, cl, nds⟩ ks = .ok (i, ⟨kd, c, pM⟩, ⟨kM', mdM, cs, g', cl', nds'⟩) ∧ Both sV sM E' g' kV' kM' ∧ ((kd = 0 ∧ E' = [] ∧ nds'.length ≤ nds.length + 3 * E.length + 1) ∨ (kd = 2 ∧ c = 124 ∧ E'.length < E.length ∧ nds'.length + 3 * E'.length ≤ nds.length + 3 * E.length)) := by
  induction E with
  | nil =>
    intro kV kM cs g cl nds ks fV fM h hV hM
    obtain ⟨p, e1, e2⟩ := h.tv
    obtain ⟨q, e3, e4⟩ := h.tm
    obtain ⟨fV, rfl⟩ : ∃ f, fV = f + 1 := ⟨fV - 1, by omega⟩
    obtain ⟨fM, rfl⟩ : ∃ f, fM = f + 1 := ⟨fM - 1, by omega⟩
    rw [br_ends (fin_ends p.length) (nx_fin (r := ⟨kV, mdV, cs, g, cl, nds⟩) e1 e2), br_ends (fin_ends q.length) (nx_fin (r := ⟨kM, mdM, cs, g, cl, nds⟩) e3 e4)]
    simp only [join_eq]
    exact ⟨_, _, _, _, _, _, _, _, _, _, [], rfl, rfl, ⟨by simp, h.few, ⟨p, e1, rfl⟩, ⟨q, e3, rfl⟩⟩, .inl ⟨rfl, rfl, by have := joinN_le 5 ks nds; simp only [List.length_nil]; omega⟩⟩
  | cons x E ih =>
    intro kV kM cs g cl nds ks fV fM h hV hM
    obtain ⟨p, e1, e2⟩ := h.tv
    obtain ⟨q, e3, e4⟩ := h.tm
    have hx := h.nine x (by simp)
    have hn := fun y hy => h.nine y (List.mem_cons_of_mem x hy)
    have hf := h.few
    rw [c5_cons] at hf
    rw [List.flatMap_cons, List.length_append] at hV hM
    rw [List.flatMap_cons] at e1 e3
    -- what lies behind this part
    have next : ∀ {g' kV' kM' : Nat} {a b : List UInt8}, a = tV x → b = tM x → g' + c5 E ≤ 9 → kV' = (p ++ a).length → kM' = (q ++ b).length → Both sV sM E g' kV' kM' := by
      intro g' kV' kM' a b ha hb hg h1 h2
      subst ha; subst hb
      exact ⟨hn, hg, ⟨p ++ tV x, by rw [e1, List.append_assoc], h1⟩, ⟨q ++ tM x, by rw [e3, List.append_assoc], h2⟩⟩
    have more : ∀ {kV' kM' g' : Nat} {cl' : List Bool} {nds' : List Nd} {ks' : List Nat} {dV dM : Nat}, Both sV sM E g' kV' kM' → dV ≤ (tV x).length → dM ≤ (tM x).length →
        brF (pieceG sV last n) sV (fV - dV + dV) ⟨kV, mdV, cs, g, cl, nds⟩ ks = brF (pieceG sV last n) sV (fV - dV) ⟨kV', mdV, cs, g', cl', nds'⟩ ks' →
        brF (pieceG sM last n) sM (fM - dM + dM) ⟨kM, mdM, cs, g, cl, nds⟩ ks = brF (pieceG sM last n) sM (fM - dM) ⟨kM', mdM, cs, g', cl', nds'⟩ ks' → nds'.length ≤ nds.length + 3 →
        ∃ i kd c pV pM kV' kM' g' cl' nds' E', brF (pieceG sV last n) sV fV ⟨kV, mdV, cs, g, cl, nds⟩ ks = .ok (i, ⟨kd, c, pV⟩, ⟨kV', mdV, cs, g', cl', nds'⟩) ∧
          brF (pieceG sM last n) sM fM ⟨kM, mdM, cs, g, cl, nds⟩ ks = .ok (i, ⟨kd, c, pM⟩, ⟨kM', mdM, cs, g', cl', nds'⟩) ∧ Both sV sM E' g' kV' kM' ∧ ((kd = 0 ∧ E' = [] ∧ nds'.length ≤ nds.length + 3 * (x :: E).length + 1) ∨ (kd = 2 ∧ c = 124 ∧ E'.length < (x :: E).length ∧ nds'.length + 3 * E'.length ≤ nds.length + 3 * (x :: E).length)) := by
      intro kV' kM' g' cl' nds' ks' dV dM hb h1 h2 s1 s2 hq
      rw [show fV - dV + dV = fV by omega] at s1
      rw [show fM - dM + dM = fM by omega] at s2
      obtain ⟨i, kd, c, pV, pM, k1, k2, g2, cl2, nds2, E', r1, r2, r3, r4⟩ := ih kV' kM' cs g' cl' nds' ks' (fV - dV) (fM - dM) hb (by omega) (by omega)
      refine ⟨i, kd, c, pV, pM, k1, k2, g2, cl2, nds2, E', s1.trans r1, s2.trans r2, r3, ?_⟩
      rcases r4 with ⟨r4, r5, r6⟩ | ⟨r4, r5, r6, r7⟩
      · exact .inl ⟨r4, r5, by rw [List.length_cons]; omega⟩
      · exact .inr ⟨r4, r5, by rw [List.length_cons]; omega, by rw [List.length_cons]; omega⟩
    obtain rfl | rfl | rfl | rfl | rfl | rfl | rfl | rfl | rfl : x = 0 ∨ x = 1 ∨ x = 2 ∨ x = 3 ∨ x = 4 ∨ x = 5 ∨ x = 6 ∨ x = 7 ∨ x = 8 := by omega
    · exact more (dV := 1) (dM := 1) (next rfl rfl (by simpa using hf) rfl rfl) (by decide) (by decide) (part_a (pre := p) (r := ⟨kV, mdV, cs, g, cl, nds⟩) e1 e2 (.inl rfl)) (part_a (pre := q) (r := ⟨kM, mdM, cs, g, cl, nds⟩) e3 e4 (.inr rfl)) (by simp)
    · exact more (dV := 1) (dM := 1) (next rfl rfl (by simpa using hf) rfl rfl) (by decide) (by decide) (part_dot (pre := p) (r := ⟨kV, mdV, cs, g, cl, nds⟩) e1 e2 (.inl rfl)) (part_dot (pre := q) (r := ⟨kM, mdM, cs, g, cl, nds⟩) e3 e4 (.inr rfl)) (by simp)
    · exact more (dV := 2) (dM := 2) (next rfl rfl (by simpa using hf) rfl rfl) (by decide) (by decide) (part_bV (pre := p) (r := ⟨kV, mdV, cs, g, cl, nds⟩) e1 e2 rfl) (part_bM (pre := q) (r := ⟨kM, mdM, cs, g, cl, nds⟩) e3 e4 rfl) (by simp)
    · exact more (dV := 2) (dM := 2) (next rfl rfl (by simpa using hf) rfl rfl) (by decide) (by decide) (part_cV (pre := p) (r := ⟨kV, mdV, cs, g, cl, nds⟩) e1 e2 rfl) (part_cM (pre := q) (r := ⟨kM, mdM, cs, g, cl, nds⟩) e3 e4 rfl) (by simp)
    · obtain ⟨fV, rfl⟩ : ∃ f, fV = f + 1 := ⟨fV - 1, by omega⟩
      obtain ⟨fM, rfl⟩ : ∃ f, fM = f + 1 := ⟨fM - 1, by omega⟩
      have y1 := nx_one (r := ⟨kV, mdV, cs, g, cl, nds⟩) (c := 124) (kd := 2) e1 (by decide) e2 (by show (if amo (UInt8.toNat 124) mdV = true then 2 else 1) = 2; decide +kernel)
      have y2 := nx_esc (r := ⟨kM, mdM, cs, g, cl, nds⟩) (c := 124) (kd := 2) e3 e4 (by show escK 124 mdM = 2; decide +kernel) (by decide)
      rw [br_ends (bar_ends p.length) y1, br_ends (bar_ends q.length) y2]
      simp only [join_eq]
      exact ⟨_, _, _, _, _, _, _, _, _, _, E, rfl, rfl, next rfl rfl (by simpa using hf) rfl rfl, .inr ⟨rfl, rfl, by simp, by have := joinN_le 5 ks nds; rw [List.length_cons]; omega⟩⟩
    · exact more (dV := 1) (dM := 1) (next (g' := g + 1) rfl rfl (by rw [if_pos rfl] at hf; omega) rfl rfl) (by decide) (by decide) (part_dV (pre := p) (r := ⟨kV, mdV, cs, g, cl, nds⟩) e1 e2 rfl (by rw [if_pos rfl] at hf; show g ≠ 9; omega)) (part_dM (pre := q) (r := ⟨kM, mdM, cs, g, cl, nds⟩) e3 e4 rfl (by rw [if_pos rfl] at hf; show g ≠ 9; omega)) (by simp)
    · exact more (dV := 2) (dM := 2) (next rfl rfl (by simpa using hf) rfl rfl) (by decide) (by decide) (part_coll (pre := p) (r := ⟨kV, mdV, cs, g, cl, nds⟩) e1 e2 (.inl rfl)) (part_coll (pre := q) (r := ⟨kM, mdM, cs, g, cl, nds⟩) e3 e4 (.inr rfl)) (by simp)
    · exact more (dV := 3) (dM := 3) (next rfl rfl (by simpa using hf) rfl rfl) (by decide) (by decide) (part_eV (pre := p) (r := ⟨kV, mdV, cs, g, cl, nds⟩) e1 e2 rfl) (part_eM (pre := q) (r := ⟨kM, mdM, cs, g, cl, nds⟩) e3 e4 rfl) (by simp)
    · exact more (dV := 2) (dM := 2) (next rfl rfl (by simpa using hf) rfl rfl) (by decide) (by decide) (part_pV (pre := p) (r := ⟨kV, mdV, cs, g, cl, nds⟩) e1 e2 rfl) (part_pM (pre := q) (r := ⟨kM, mdM, cs, g, cl, nds⟩) e3 e4 rfl) (by simp)
/-- Branches. -/
theorem brs_both : ∀ (m : Nat) (E : List Nat) (kV kM cs g : Nat) (cl : List Bool) (nds : List Nd) (ks : List Nat) (fV fM : Nat), E.length < m → Both sV sM E g kV kM → E.length < fV → E.length < fM →
    ∃ i c pV pM kV' kM' g' cl' nds', brsL (fun r => brF (pieceG sV last n) sV (sV.size + 1) r []) fV ⟨kV, mdV, cs, g, cl, nds⟩ ks = .ok (i, ⟨0, c, pV⟩, ⟨kV', mdV, cs, g', cl', nds'⟩) ∧
      brsL (fun r => brF (pieceG sM last n) sM (sM.size + 1) r []) fM ⟨kM, mdM, cs, g, cl, nds⟩ ks = .ok (i, ⟨0, c, pM⟩, ⟨kM', mdM, cs, g', cl', nds'⟩) ∧ nds'.length ≤ nds.length + 3 * E.length + 2 := by
  intro m
  induction m with
  | zero => intro E kV kM cs g cl nds ks fV fM h; omega
  | succ m ih =>
    intro E kV kM cs g cl nds ks fV fM hm h hV hM
    obtain ⟨fV, rfl⟩ : ∃ f, fV = f + 1 := ⟨fV - 1, by omega⟩
    obtain ⟨fM, rfl⟩ : ∃ f, fM = f + 1 := ⟨fM - 1, by omega⟩
    have zV : (E.flatMap tV).length < sV.size + 1 := by
      obtain ⟨p, e, _⟩ := h.tv
      rw [e, size_list, List.length_append]; omega
    have zM : (E.flatMap tM).length < sM.size + 1 := by
      obtain ⟨p, e, _⟩ := h.tm
      rw [e, size_list, List.length_append]; omega
    obtain ⟨i, kd, c, pV, pM, k1, k2, g2, cl2, nds2, E', r1, r2, r3, r4⟩ := br_both (last := last) (n := n) E kV kM cs g cl nds [] _ _ h zV zM
    rw [brsL, brsL]
    simp only [r1, r2]
    rcases r4 with ⟨rfl, rfl, hq⟩ | ⟨rfl, rfl, hl, hq⟩
    · rw [if_neg (by simp), if_neg (by simp)]
      simp only [join_eq]
      exact ⟨_, _, _, _, _, _, _, _, _, rfl, rfl, by have := joinN_le 6 (ks ++ [i]) nds2; omega⟩
    · rw [if_pos ⟨rfl, rfl⟩, if_pos ⟨rfl, rfl⟩]
      obtain ⟨i3, c3, p3, p4, k3, k4, g3, cl3, nds3, y1, y2, y3⟩ := ih E' k1 k2 cs g2 cl2 nds2 (ks ++ [i]) fV fM (by omega) r3 (by omega) (by omega)
      exact ⟨i3, c3, p3, p4, k3, k4, g3, cl3, nds3, y1, y2, by omega⟩
end
/-- A word of mode at the head. -/
theorem br_obey {P : Tok → Bool → RS → Except (Nat × Nat) (Nat × RS)} {s : ByteArray} {f k k' cs g : Nat} {md md' : ByteArray} {cl : List Bool} {nds : List Nd} {ks : List Nat}
    (h : nextF s (s.size + 1) k md cs = nextF s (s.size + 1) k' md' cs) : brF P s f ⟨k, md, cs, g, cl, nds⟩ ks = brF P s f ⟨k', md', cs, g, cl, nds⟩ ks := by
  cases f with
  | zero => rfl
  | succ f => rw [brF, brF, h]
end Go.Proofs.YtpahpnajeliodaaGreatDoor
/- PatModes: both texts are read as the same. -/
namespace Go.Proofs.YtpahpnajeliodaaGreatDoor
open Go.ChangeShapes Go.WideShapes Go.ChangeAt Go.RowKit
set_option linter.unusedVariables false
set_option linter.unusedSimpArgs false
theorem len_flat {t : Nat → List UInt8} (h : ∀ x, 1 ≤ (t x).length) : ∀ E : List Nat, E.length ≤ (E.flatMap t).length
  | [] => by simp
  | x :: E => by have := len_flat h E; have := h x; rw [List.flatMap_cons, List.length_append, List.length_cons]; omega
theorem tV_pos (x : Nat) : 1 ≤ (tV x).length := by unfold tV; split <;> decide
theorem tM_pos (x : Nat) : 1 ≤ (tM x).length := by unfold tM; split <;> decide
/-- What comes next behind a mode's word, whatever may still be asked. -/
theorem next_fuel (p : List UInt8) (E : List Nat) (hn : ∀ x ∈ E, x < 9) (f f' cs : Nat) :
    nextF ⟨(p ++ E.flatMap tV).toArray⟩ (f + 1) p.length mdV cs = nextF ⟨(p ++ E.flatMap tV).toArray⟩ (f' + 1) p.length mdV cs := by
  cases E with
  | nil => exact (lex_fin f cs).trans (lex_fin f' cs).symm
  | cons x E =>
    have hx := hn x (by simp)
    rw [List.flatMap_cons]
    obtain rfl | rfl | rfl | rfl | rfl | rfl | rfl | rfl | rfl : x = 0 ∨ x = 1 ∨ x = 2 ∨ x = 3 ∨ x = 4 ∨ x = 5 ∨ x = 6 ∨ x = 7 ∨ x = 8 := by omega
    all_goals first
      | exact (lex_one f cs (by decide)).trans (lex_one f' cs (by decide)).symm
      | exact (lex_esc (c := 43) f cs (by decide +kernel)).trans (lex_esc (c := 43) f' cs (by decide +kernel)).symm
theorem modes_brs (E : List Nat) (hn : ∀ x ∈ E, x < 9) (hf : c5 E ≤ 9) (last : ByteArray) :
    ∃ i c pV pM kV' kM' cs g' cl' nds', brsF (veryT E) last 10 rs0 = .ok (i, ⟨0, c, pV⟩, ⟨kV', mdV, cs, g', cl', nds'⟩) ∧ brsF (magicT E) last 10 rs0 = .ok (i, ⟨0, c, pM⟩, ⟨kM', mdM, cs, g', cl', nds'⟩) ∧ nds'.length ≤ 3 * E.length + 2 := by
  have zV : E.length < (veryT E).size + 1 := by have := len_flat tV_pos E; unfold veryT; rw [size_list]; simp only [List.length_cons]; omega
  have zM : E.length < (magicT E).size + 1 := by have := len_flat tM_pos E; unfold magicT; rw [size_list]; omega
  have hb : Both (veryT E) (magicT E) E 0 2 0 := ⟨hn, by omega, ⟨[92, 118], rfl, rfl⟩, ⟨[], rfl, rfl⟩⟩
  obtain ⟨i, c, pV, pM, k1, k2, g, cl, nds, r1, r2, r3⟩ := brs_both (last := last) (n := 8) (E.length + 1) E 2 0 0 0 (List.replicate 10 false) [] [] ((veryT E).size + 1) ((magicT E).size + 1) (by omega) hb zV zM
  refine ⟨i, c, pV, pM, k1, k2, 0, g, cl, nds, ?_, r2, by simpa using r3⟩
  have hx : nextF (veryT E) ((veryT E).size + 1) 0 mdM 0 = nextF (veryT E) ((veryT E).size + 1) 2 mdV 0 := by
    have h1 := lex_obey (pre := []) (c := 118) (r := E.flatMap tV) (md := mdM) (veryT E).size 0 0 (md' := mdV) (by decide +kernel) (by decide +kernel)
    have h2 := next_fuel [92, 118] E hn ((veryT E).size - 1) (veryT E).size 0
    have hz : (veryT E).size - 1 + 1 = (veryT E).size := by unfold veryT; rw [size_list]; simp only [List.length_cons]; omega
    rw [hz] at h2
    exact h1.trans h2
  have hF := br_obey (P := pieceG (veryT E) last 8) (f := (veryT E).size + 1) (g := 0) (cl := List.replicate 10 false) (nds := []) (ks := []) hx
  refine Eq.trans ?_ r1
  show brsL _ _ rs0 [] = _
  rw [brsL, brsL]
  have this : brF (pieceF (groupF (brsF (veryT E) last 9)) (veryT E) last) (veryT E) ((veryT E).size + 1) rs0 [] = brF (pieceG (veryT E) last 8) (veryT E) ((veryT E).size + 1) ⟨2, mdV, 0, 0, List.replicate 10 false, []⟩ [] := hF
  rw [this]
theorem modes_see (E : List Nat) (hn : ∀ x ∈ E, x < 9) (hf : c5 E ≤ 9) (h40 : E.length ≤ 40) (hV : (veryT E).size ≤ 300) (hM : (magicT E).size ≤ 300) :
    ∃ i gs cs nds, see (parF (veryT E) ⟨#[]⟩) = .ok (i, gs, cs, nds) ∧ see (parF (magicT E) ⟨#[]⟩) = .ok (i, gs, cs, nds) := by
  obtain ⟨i, c, pV, pM, k1, k2, cs, g, cl, nds, r1, r2, r3⟩ := modes_brs E hn hf ⟨#[]⟩
  have hl : ¬ 1000 < (⟨#[]⟩ : ByteArray).size := by decide
  unfold parF
  rw [if_neg (by rintro (h | h); omega; exact hl h), if_neg (by rintro (h | h); omega; exact hl h)]
  unfold patF
  rw [r1, r2]
  simp only [ne_eq, not_true_eq_false, if_false]
  have h : ¬ 400 < nds.length := by omega
  rw [if_neg h, if_neg h]
  exact ⟨i, g, cs, nds, rfl, rfl⟩
end Go.Proofs.YtpahpnajeliodaaGreatDoor
