/- Texts that the proof of the law stands on: Inv5, Inv6, PSound. -/
import Derived.Test.YtlgemficalcghaaGreatPartJ
/- What is read is sound, and a tree. -/
namespace Go.Proofs.YtlgemficalcghaaGreat
set_option linter.unusedVariables false
set_option linter.unusedSimpArgs false
theorem nodup_len : ∀ (n : Nat) (l : List Nat), l.Nodup → (∀ x ∈ l, x < n) → l.length ≤ n
  | 0, l, _, h => by
    cases l with
    | nil => simp
    | cons a l => have := h a (by simp); omega
  | n + 1, l, hd, h => by
    by_cases hn : n ∈ l
    · have h1 := nodup_len n (l.erase n) (hd.erase n) (fun x hx => by
        have hx' := (hd.mem_erase_iff).1 hx
        have := h x hx'.2
        have := hx'.1
        omega)
      have h2 := List.length_erase_of_mem hn
      omega
    · have := nodup_len n l hd (fun x hx => by
        have h1 := h x hx
        have h2 : x ≠ n := fun e => hn (e ▸ hx)
        omega)
      omega
section
variable {r : RS} {A : List Nat} {i : Nat}
theorem node_q {nds : List Nd} {k : Nat} {d : Nd} (h : nds[k]? = some d) : nodeAt (nds.map Nd.q) (k : Int) = d.q ∧ hasB (nds.map Nd.q) (k : Int) = true := by
  have hl := (List.getElem?_eq_some_iff.1 h).1
  refine ⟨by unfold nodeAt; rw [Int.toNat_natCast, List.getElem?_map, h]; rfl, decide_eq_true ⟨by omega, by rw [List.length_map]; omega⟩⟩
theorem bytes_q {nds : List Nd} : ∀ ks : List Nat, (∀ x ∈ ks, ∃ e, nds[x]? = some e ∧ e.op = 2) → bytesB (nds.map Nd.q) (ks.map fun (k : Nat) => (k : Int)) = true
  | [], _ => rfl
  | k :: ks, h => by
    obtain ⟨e, h1, h2⟩ := h k (by simp)
    obtain ⟨q1, q2⟩ := node_q h1
    rw [List.map_cons, bytesB, q1, q2, bytes_q ks fun x hx => h x (by simp [hx])]
    have : e.q.op = 2 := h2
    simp [this]
theorem Wf.fit (h : Wf r A) {k : Nat} {d : Nd} (hd : r.nds[k]? = some d) : fitB (r.nds.map Nd.q) (r.g : Int) d.q = true := by
  have hl : d.q.kids.length = d.kids.length := by simp [Nd.q]
  have eop : d.q.op = d.op := rfl
  have en : d.q.n = (d.n : Int) := rfl
  have hkl := h.kl k d hd
  have hkk := (List.getElem?_eq_some_iff.1 hd).1
  unfold fitB
  rw [eop, hl, en]
  rcases h.sh k d hd with ⟨h1, h2⟩ | ⟨h1, h2⟩ | ⟨h1, h2⟩ | ⟨h1, x, h2⟩ | ⟨h1, x, h2, hb, hr, hp⟩
  · rw [if_pos h1, h2]; rfl
  · rw [if_neg (by rcases h1 with h1 | h1 <;> rw [h1] <;> decide), if_pos h1]
    exact decide_eq_true h2
  · have hn := h.ns k d hd (.inr h1)
    rw [h1, if_neg (by decide), if_neg (by omega), if_pos rfl, h2]
    simp [isG]; omega
  · have hn := h.ns k d hd (.inl h1)
    rw [h1, if_neg (by decide), if_neg (by omega), if_neg (by omega), if_pos rfl, h2]
    simp [isG]; omega
  · rw [h1, if_neg (by decide), if_neg (by omega), if_neg (by omega), if_neg (by omega), if_pos rfl, h2]
    have eh : d.q.kids.headD 0 = (x : Int) := by simp [Nd.q, h2]
    have hx : x < r.nds.length := by have := hkl x (by rw [h2]; simp); omega
    obtain ⟨e, he⟩ : ∃ e, r.nds[x]? = some e := ⟨_, List.getElem?_eq_getElem hx⟩
    obtain ⟨q1, q2⟩ := node_q he
    have hre : repB e.op = true := by unfold opA at hr; rw [he] at hr; exact hr
    rw [eh]
    unfold mayB timesB
    rw [q1, q2]
    have e1 : d.q.mn = d.mn := rfl
    have e2 : d.q.mx = d.mx := rfl
    have e3 : e.q.op = e.op := rfl
    have e4 : e.q.kids = e.kids.map fun (k : Nat) => (k : Int) := rfl
    rw [e1, e2, e3, e4, hre]
    have hbb : (!(e.op == 5) || bytesB (r.nds.map Nd.q) (e.kids.map fun (k : Nat) => (k : Int))) = true := by
      by_cases h5 : e.op = 5
      · rw [bytes_q e.kids (hp e he h5)]; simp
      · simp [h5]
    rw [hbb, decide_eq_true hb]
    rfl
theorem Wf.tree (h : Wf r A) : ∀ (f : Nat) (ns : List Nat) (asked : List Bool), asked.length = r.nds.length → asked.count false < f → ns.Nodup → (∀ x ∈ ns, asked[x]? = some false) →
    (∀ x ∈ ns, ∀ (k : Nat) (d : Nd), r.nds[k]? = some d → asked[k]? = some false → x ∉ d.kids) → (∀ (k : Nat) (d : Nd), r.nds[k]? = some d → asked[k]? = some false → ∀ x ∈ d.kids, asked[x]? = some false) →
    treeF (r.nds.map Nd.q) (r.g : Int) f (ns.map fun (k : Nat) => (k : Int)) asked = true
  | 0, ns, asked, _, hc, _, _, _, _ => by omega
  | f + 1, ns, asked, hl, hc, hnd, hun, hfr, hkid => by
    rw [treeF]
    cases hg : ns.getLast? with
    | none =>
      have : ns = [] := List.getLast?_eq_none_iff.1 hg
      subst this; rfl
    | some a =>
      obtain ⟨l, rfl⟩ := List.getLast?_eq_some_iff.1 hg
      have ha := hun a (by simp)
      have hal : a < r.nds.length := by rw [← hl]; exact (List.getElem?_eq_some_iff.1 ha).1
      obtain ⟨d, hd⟩ : ∃ d, r.nds[a]? = some d := ⟨_, List.getElem?_eq_getElem hal⟩
      obtain ⟨q1, q2⟩ := node_q hd
      have hgd : asked.getD a false = false := by rw [List.getD_eq_getElem?_getD, ha]; rfl
      have hnd' := List.nodup_append.1 hnd
      have hkl := h.kl a d hd
      simp only [List.map_append, List.map_cons, List.map_nil, List.getLast?_concat, List.dropLast_concat, q1, q2, Int.toNat_natCast, hgd, h.fit hd, Bool.not_false, Bool.and_self, if_true]
      have e4 : d.q.kids = d.kids.map fun (k : Nat) => (k : Int) := rfl
      rw [e4, ← List.map_append]
      have hset : ∀ x, x ≠ a → (asked.set a true)[x]? = asked[x]? := fun x hx => List.getElem?_set_ne (fun e => hx e.symm)
      have hcount := count_set ha
      have hun' : ∀ k, (asked.set a true)[k]? = some false → k ≠ a ∧ asked[k]? = some false := fun k hk => by
        by_cases e : k = a
        · subst e
          rw [List.getElem?_set_self (by omega)] at hk
          cases hk
        · rw [hset k e] at hk; exact ⟨e, hk⟩
      refine Wf.tree h f (l ++ d.kids) (asked.set a true) (by rw [List.length_set]; exact hl) (by omega) ?_ ?_ ?_ ?_
      · refine List.nodup_append.2 ⟨hnd'.1, h.kn a d hd, fun x hx y hy e => ?_⟩
        subst e
        exact hfr x (by simp [hx]) a d hd ha hy
      · intro x hx
        rw [List.mem_append] at hx
        rcases hx with hx | hx
        · rw [hset x (fun e => hnd'.2.2 x hx a (by simp) e)]
          exact hun x (by simp [hx])
        · rw [hset x (by have := hkl x hx; omega)]
          exact hkid a d hd ha x hx
      · intro x hx k e he hk hc
        obtain ⟨k1, k2⟩ := hun' k hk
        rw [List.mem_append] at hx
        rcases hx with hx | hx
        · exact hfr x (by simp [hx]) k e he k2 hc
        · exact k1 (h.own k a e d x he hd hc hx)
      · intro k e he hk x hx
        obtain ⟨k1, k2⟩ := hun' k hk
        rw [hset x (fun q => hfr a (by simp) k e he k2 (q ▸ hx))]
        exact hkid k e he k2 x hx
theorem Wf.sound (h : Wf r [i]) : soundF (r.nds.map Nd.q) (i : Int) (r.g : Int) = true := by
  have hg := h.g
  have hi := h.lt i (by simp)
  unfold soundF
  rw [decide_eq_true ⟨by omega, by omega⟩, Bool.true_and, List.length_map]
  have hrep : ∀ x, x < r.nds.length → (List.replicate r.nds.length false)[x]? = some false := fun x hx => by simp [hx]
  refine h.tree (r.nds.length + 1) [i] (List.replicate r.nds.length false) (by simp) (by simp) (by simp) (fun x hx => ?_) (fun x hx k d hd _ => ?_) (fun k d hd _ x hx => ?_)
  · simp only [List.mem_singleton] at hx; subst hx; exact hrep x hi
  · exact h.fr x hx k d hd
  · have := h.kl k d hd x hx
    have := (List.getElem?_eq_some_iff.1 hd).1
    exact hrep x (by omega)
end
/-- All that is known of a text that is read. -/
theorem par_all {s last : ByteArray} {i gs cs : Nat} {nds : List Nd} (h : see (parF s last) = .ok (i, gs, cs, nds)) :
    ∃ t, soundF (nds.map Nd.q) (i : Int) (gs : Int) = true ∧ toT (nds.map Nd.q) (i + 1) (i : Int) = some t ∧ t.gd ∧ t.size ≤ 1200 ∧ nds.length ≤ 400 ∧ ∀ d ∈ nds.map Nd.q, d.kids.length ≤ 400 := by
  cases hp : parF s last with
  | error e => rw [hp] at h; cases e; cases h
  | ok x =>
    obtain ⟨j, r⟩ := x
    rw [hp] at h
    obtain ⟨hw, hl⟩ := parF_wf hp
    have h' : (Except.ok (j, r.g, r.cs, r.nds) : Except (Nat × Nat) (Nat × Nat × Nat × List Nd)) = .ok (i, gs, cs, nds) := h
    injection h' with h'
    injection h' with e1 h'
    injection h' with e2 h'
    injection h' with e3 e4
    subst e1 e2 e3 e4
    obtain ⟨T, hT, hz⟩ := hw.tr
    have hj := hw.lt j (by simp)
    obtain ⟨g1, g2⟩ := hT j hj
    refine ⟨T j, hw.sound, g2 (j + 1) (by omega), g1, ?_, hl, fun d hd => ?_⟩
    · simp [seqSz] at hz; omega
    · obtain ⟨e, he, rfl⟩ := List.mem_map.1 hd
      obtain ⟨k, hk, hke⟩ := List.getElem_of_mem he
      have hk' : r.nds[k]? = some e := by rw [List.getElem?_eq_getElem hk, hke]
      have := nodup_len k e.kids (hw.kn k e hk') (hw.kl k e hk')
      simp only [Nd.q, List.length_map]
      omega
end Go.Proofs.YtlgemficalcghaaGreat
/- A fault has its number. -/
namespace Go.Proofs.YtlgemficalcghaaGreat
set_option linter.unusedVariables false
set_option linter.unusedSimpArgs false
def Nz (e : Nat × Nat) : Prop := e.1 = 30 ∨ e.1 = 31 ∨ e.1 = 32 ∨ e.1 = 33
section
variable {s last : ByteArray} {r r' : RS} {t : Tok} {i n : Nat} {ks : List Nat} {e : Nat × Nat}
theorem nz30 {p : Nat} {α : Type} (h : (.error (30, p) : Except (Nat × Nat) α) = .error e) : Nz e := by cases h; exact .inl rfl
theorem nz31 {p : Nat} {α : Type} (h : (.error (31, p) : Except (Nat × Nat) α) = .error e) : Nz e := by cases h; exact .inr (.inl rfl)
theorem nz32 {p : Nat} {α : Type} (h : (.error (32, p) : Except (Nat × Nat) α) = .error e) : Nz e := by cases h; exact .inr (.inr (.inl rfl))
theorem nz33 {p : Nat} {α : Type} (h : (.error (33, p) : Except (Nat × Nat) α) = .error e) : Nz e := by cases h; exact .inr (.inr (.inr rfl))
theorem next_err : ∀ (f k : Nat) (md : ByteArray) (cs : Nat), nextF s f k md cs = .error e → Nz e
  | 0, k, md, cs, h => nz30 h
  | f + 1, k, md, cs, h => by
    rw [nextF] at h
    split at h
    · exact nz30 h
    · split at h
      · split at h
        · exact next_err f _ _ _ h
        · cases h
      · cases h
theorem many_err (h : manyF s t ks r = .error e) : Nz e := by
  unfold manyF at h
  split at h
  · split at h
    · exact nz32 h
    · cases h
  · split at h
    · split at h
      · rename_i x hx
        cases h
        unfold timesF at hx
        split at hx
        · cases hx
        · split at hx
          · cases hx
          · split at hx
            · split at hx
              · exact nz32 hx
              · cases hx
            · cases hx
      · cases h
    · split at h
      · exact nz32 h
      · cases h
theorem letter_err (h : letterF s t r = .error e) : Nz e := by
  unfold letterF at h
  split at h
  · cases h
  split at h
  · cases h
  split at h
  · unfold edgeF at h
    split at h
    · cases h
    · split at h
      · cases h
      · exact nz30 h
  split at h
  · unfold backF at h
    split at h
    · cases h
    · exact nz31 h
  split at h
  · cases h
  · exact nz30 h
theorem piece_err {G : Tok → RS → Except (Nat × Nat) (Nat × RS)} {first : Bool} (hG : G t r = .error e → Nz e) (h : pieceF G s last t first r = .error e) : Nz e := by
  unfold pieceF at h
  split at h
  · unfold signF at h
    split at h
    · split at h <;> cases h
    split at h
    · unfold eolF at h
      split at h
      · rename_i x hx; cases h; exact next_err _ _ _ _ hx
      · split at h <;> cases h
    split at h
    · cases h
    split at h
    · cases h
    split at h
    · cases h
    split at h
    · cases h
    split at h
    · unfold setF at h
      split at h
      · rename_i x hx
        cases h
        unfold collF at hx
        split at hx
        · cases hx
        · split at hx
          · exact nz30 hx
          · cases hx
      · cases h
      · cases h
    split at h
    · exact hG h
    · cases h
  · split at h
    · exact letter_err h
    · cases h
theorem group_err {BR : RS → Except (Nat × Nat) (Nat × Tok × RS)} (hd : Gd s r) (hB : r.g ≠ 9 → BR { r with g := r.g + 1 } = .error e → Nz e) (h : groupF BR t r = .error e) : Nz e := by
  unfold groupF at h
  split at h
  · exact nz31 h
  · rename_i h9
    split at h
    · rename_i x hx; cases h; exact hB h9 hx
    · split at h
      · exact nz31 h
      · cases h
theorem br_err {P : Tok → Bool → RS → Except (Nat × Nat) (Nat × RS)} {g0 : Nat} (hP : ∀ t r ks i r', MdJ s g0 t r ks → P t ks.isEmpty r = .ok (i, r') → Aft s 0 0 r i r') (hE : ∀ t r ks e, MdJ s g0 t r ks → P t ks.isEmpty r = .error e → Nz e) :
    ∀ (f : Nat) (r : RS) (ks : List Nat), HdI s g0 r ks → s.size < r.k + f → brF P s f r ks = .error e → Nz e := by
  intro f
  induction f with
  | zero => intro r ks hI hf; have := hI.gd.sz; omega
  | succ f ih =>
    intro r ks hI hf h
    rw [brF] at h
    split at h
    · rename_i x hx; cases h; exact next_err _ _ _ _ hx
    · rename_i t1 k md cs hn
      split at h
      · cases h
      · rename_i he
        obtain ⟨j1, j2⟩ := mdJ_of hI hn (Bool.eq_false_iff.2 he)
        split at h
        · split at h
          · rename_i x hx; cases h; exact many_err hx
          · rename_i ks' r1 hm
            obtain ⟨q1, q2⟩ := hdI_many j1 hm
            simp only at q2
            exact ih _ _ q1 (by omega) h
        · split at h
          · rename_i x hx; cases h; exact hE _ _ _ _ j1 hx
          · rename_i i1 r1 hp
            have a := hP _ _ _ _ _ j1 hp
            have ak := a.k
            simp only at ak
            exact ih _ _ (hdI_piece j1 a) (by omega) h
theorem brs_err {F : RS → Except (Nat × Nat) (Nat × Tok × RS)} {g0 : Nat} (hF : ∀ r ks i t r', HdI s g0 r ks → F r = .ok (i, t, r') → Aft s 1 (room t) r i r' ∧ (t.kd ≠ 0 → r.k < r'.k)) (hE : ∀ r ks e, HdI s g0 r ks → F r = .error e → Nz e) :
    ∀ (f : Nat) (r : RS) (ks : List Nat), HdI s g0 r ks → s.size < r.k + f → brsL F f r ks = .error e → Nz e := by
  intro f
  induction f with
  | zero => intro r ks hI hf; have := hI.gd.sz; omega
  | succ f ih =>
    intro r ks hI hf h
    rw [brsL] at h
    split at h
    · rename_i x hx; cases h; exact hE _ _ _ hI hx
    · rename_i i1 t1 r1 h1
      obtain ⟨a, b⟩ := hF _ _ _ _ _ hI h1
      split at h
      · rename_i hc
        have e1 := a.nd
        have e2 := a.k
        have e3 := a.up
        have e4 := a.g
        have l0 := hI.len
        have g0' := hI.g0
        have hk := b (by omega)
        have er : room t1 = 4 := by unfold room; rw [if_neg (by omega)]
        rw [er] at e1
        refine ih _ _ (⟨⟨a.sz, by omega, a.cl, a.g9⟩, by simp; omega, fun p hp => ?_, by omega⟩ : HdI s g0 r1 (ks ++ [i1])) (by omega) h
        simp only [List.mem_append, List.mem_singleton] at hp
        rcases hp with hp | hp
        · have := hI.lt p hp; omega
        · rw [hp]; exact a.i
      · cases h
theorem brsF_err (hla : last.size ≤ 1100) : ∀ (n : Nat) (r : RS) (e : Nat × Nat), 9 - r.g < n → Gd s r → brsF s last n r = .error e → Nz e
  | 0, _, _, hn, _, _ => by omega
  | n + 1, r, e, hn, hd, h => by
    rw [brsF] at h
    have hPa : ∀ t r1 ks i r', MdJ s r.g t r1 ks → pieceF (groupF (brsF s last n)) s last t ks.isEmpty r1 = .ok (i, r') → Aft s 0 0 r1 i r' := fun t r1 ks i r' hJ hp =>
      pieceF_aft hla hJ.sz hJ.nd hJ.cl hJ.g (fun i5 r5 h5 => groupF_aft hJ.gd (fun r6 i6 t6 r7 h6 h7 => brsF_aft hla n r6 i6 t6 r7 h6 h7) h5) hp
    refine brs_err (g0 := r.g) (fun r1 ks i t r' hI hb => brF_aft hPa _ _ _ _ _ _ (⟨hI.gd, by simp, fun p hp => by simp at hp, hI.g0⟩ : HdI s r.g r1 []) hb) (fun r1 ks1 e1 hI h1 => ?_) _ _ _ hd.hd (by omega) h
    refine br_err hPa (fun t2 r2 ks2 e2 hJ h2 => ?_) _ _ _ (⟨hI.gd, by simp, fun p hp => by simp at hp, hI.g0⟩ : HdI s r.g r1 []) (by omega) h1
    refine piece_err (fun h3 => group_err hJ.gd (fun h9 h4 => ?_) h3) h2
    have hg := hJ.g
    have hg0 := hJ.g0
    have hgd := hJ.gd
    have hgd1 : Gd s { r2 with g := r2.g + 1 } := ⟨hgd.sz, hgd.nd, hgd.cl, by show r2.g + 1 ≤ 9; omega⟩
    exact brsF_err hla n { r2 with g := r2.g + 1 } e2 (by show 9 - (r2.g + 1) < n; omega) hgd1 h4
theorem parF_err (h : parF s last = .error e) : Nz e := by
  unfold parF at h
  split at h
  · exact nz33 h
  · rename_i hsz
    unfold patF at h
    split at h
    · rename_i x hx
      cases h
      exact brsF_err (by omega) 10 rs0 e (by decide) ⟨Nat.zero_le _, by simp [rs0], by simp [rs0], by simp [rs0]⟩ hx
    · split at h
      · exact nz31 h
      · split at h
        · exact nz33 h
        · cases h
theorem see_err (h : see (parF s last) = .error e) : Nz e := by
  cases hp : parF s last with
  | error x => rw [hp] at h; cases h; exact parF_err hp
  | ok x => rw [hp] at h; cases x; cases h
end
end Go.Proofs.YtlgemficalcghaaGreat
/- ProgSound: the walk. -/
namespace Go.Proofs.YtlgemficalcghaaGreat
open Go.ChangeShapes Go.WideShapes Go.ChangeAt Go.RowKit
set_option linter.unusedVariables false
set_option linter.unusedSimpArgs false
section
variable {w w1 : World}
theorem boxP (w : World) (a b c d : Value) : ((w.alloc (.cells #[a, b, c, d] 25)).cell? ⟨w.heap.size, 0, none⟩ = some a ∧ (w.alloc (.cells #[a, b, c, d] 25)).cell? ⟨w.heap.size, 1, none⟩ = some b) ∧ ((w.alloc (.cells #[a, b, c, d] 25)).cell? ⟨w.heap.size, 2, none⟩ = some c ∧ (w.alloc (.cells #[a, b, c, d] 25)).cell? ⟨w.heap.size, 3, none⟩ = some d) ∧ Kp w (w.alloc (.cells #[a, b, c, d] 25)) :=
  ⟨⟨by rw [cell_at (alloc_new w _)]; rfl, by rw [cell_at (alloc_new w _)]; rfl⟩, ⟨by rw [cell_at (alloc_new w _)]; rfl, by rw [cell_at (alloc_new w _)]; rfl⟩, kp_alloc _ _⟩
set_option maxHeartbeats 4000000 in
set_option maxRecDepth 100000 in
theorem sound_law (s : ByteArray) (fold : Bool) (g : Gm w) : Calls Tryz.prog 7 #[.string s, .bool fold] w fun e w' => e = .returned (.bool true) ∧ Kp w w' := by
  obtain ⟨n, hn⟩ : ∃ n, s.size = n := ⟨_, rfl⟩
  have HG : Hid (Gm w) := g
  clear g
  by_cases h1 : 300 < n
  · have d1 : decide ((300 : Int) < (n : Int)) = true := decide_eq_true (by omega)
    go_enter Tryz.func7, Tryz.ntmps7
    go_wp2_with fail
    refine Calls.mono (qknown_any HG.out) ?_
    rintro e w1 ⟨rfl, q⟩
    have HK : Hid (Kp w w1) := q
    clear q
    go_wp2_with fail
    go_ret
    exact ⟨rfl, HK.out⟩
  have d1 : decide ((300 : Int) < (n : Int)) = false := decide_eq_false (by omega)
  cases hp : see (parF s ⟨#[]⟩) with
  | error x =>
    obtain ⟨x1, x2⟩ := x
    have HP : Hid (see (parF s ⟨#[]⟩) = .error (x1, x2)) := hp
    have hz : x1 = 30 ∨ x1 = 31 ∨ x1 = 32 ∨ x1 = 33 := see_err hp
    have hx : ((x1 : Int) == 0) = false := by simp; omega
    have hx' : (!((x1 : Int) == 0)) = true := by rw [hx]; rfl
    clear hp hz
    go_enter Tryz.func7, Tryz.ntmps7
    go_wp2_with fail
    refine Calls.mono (qknown_any HG.out) ?_
    rintro e w1 ⟨rfl, q⟩
    have HK : Hid (Kp w w1) := q
    clear q
    go_wp2_with fail
    refine Calls.mono (parse_no s ⟨#[]⟩ (HG.out.kp HK.out) HP.out) ?_
    rintro e w2 ⟨rfl, q⟩
    have HK2 : Hid (Kp w w2) := kp_trans HK.out q
    clear q
    go_wp2_with fail
    go_ret
    exact ⟨rfl, kp_trans HK2.out (kp_alloc _ _)⟩
  | ok x =>
    obtain ⟨i, gs, cs, nds⟩ := x
    obtain ⟨t, p1, p2, p3, p4, p5, p6⟩ := par_all hp
    have HP : Hid (see (parF s ⟨#[]⟩) = .ok (i, gs, cs, nds) ∧ soundF (nds.map Nd.q) (i : Int) (gs : Int) = true ∧ toT (nds.map Nd.q) (i + 1) (i : Int) = some t ∧ t.gd ∧ t.size ≤ 1200 ∧ nds.length ≤ 400 ∧ ∀ d ∈ nds.map Nd.q, d.kids.length ≤ 400) := ⟨hp, p1, p2, p3, p4, p5, p6⟩
    clear hp p1 p2 p3 p4 p5 p6
    go_enter Tryz.func7, Tryz.ntmps7
    go_wp2_with fail
    refine Calls.mono (qknown_any HG.out) ?_
    rintro e w1 ⟨rfl, q⟩
    have HK : Hid (Kp w w1) := q
    clear q
    go_wp2_with fail
    refine Calls.mono (parse_ok s ⟨#[]⟩ (HG.out.kp HK.out) HP.out.1) ?_
    rintro e w2 ⟨va, vc, rfl, q1, q2⟩
    obtain ⟨⟨x0, x1⟩, ⟨x2, x3⟩, xk⟩ := boxP w2 (.slice va nds.length vc) (.int .i64 i) (.int .i64 gs) (.int .u8 cs)
    have K1 : Hid (Pt (w2.alloc (.cells #[.slice va nds.length vc, .int .i64 i, .int .i64 gs, .int .u8 cs] 25)) (.slice va nds.length vc) (nds.map Nd.q) ∧ Kp w (w2.alloc (.cells #[.slice va nds.length vc, .int .i64 i, .int .i64 gs, .int .u8 cs] 25))) := ⟨q1.kp xk, kp_trans HK.out (kp_trans q2 xk)⟩
    clear q1 q2 xk
    go_wp2_with fail
    obtain ⟨pb, hpb⟩ : ∃ pb, w2.heap.size = pb := ⟨_, rfl⟩
    rw [hpb] at x0 x1 x2 x3 ⊢
    clear hpb
    generalize (w2.alloc (.cells #[.slice va nds.length vc, .int .i64 i, .int .i64 gs, .int .u8 cs] 25)) = W1 at *
    refine Calls.mono (compile_c (K := 400) K1.out.1 HP.out.2.2.2.2.2.2 (by rw [List.length_map]; have := HP.out.2.2.2.2.2.1; omega) (by rw [List.length_map]; have := HP.out.2.2.2.2.2.1; omega) HP.out.2.1 HP.out.2.2.1 (by have := HP.out.2.2.2.2.1; omega)) ?_
    by_cases hlen : t.len + 1 ≤ 2000
    · rw [progF_code hlen]
      rintro e w3 ⟨ca, cp, rfl, q1, q2⟩
      have hcl : (t.code 0 0 ++ [({ op := 14 } : Ins)]).length = t.len + 1 := by simp [PT.code_len]
      simp only [hcl] at q1 ⊢
      obtain ⟨N, hN⟩ : ∃ N, t.len + 1 = N := ⟨_, rfl⟩
      obtain ⟨R, hR⟩ : ∃ R, t.rnd = R := ⟨_, rfl⟩
      obtain ⟨F, hF⟩ : ∃ F, foldsB cs fold = F := ⟨_, rfl⟩
      rw [hN] at q1 ⊢
      rw [hR, hF]
      have hsnd := code_snd HP.out.2.2.2.1 hlen
      rw [hR] at hsnd
      obtain ⟨b, o, rfl, t1⟩ := q1.at_ (List.getElem?_eq_getElem (show 0 < (t.code 0 0 ++ [({ op := 14 } : Ins)]).length by rw [hcl]; omega))
      clear t1
      have hla : (t.code 0 0 ++ [({ op := 14 } : Ins)])[t.len]? = some { op := 14 } := by rw [List.getElem?_append_right (by rw [PT.code_len]; exact Nat.le_refl _), PT.code_len]; simp
      have c14 := q1.cell8 hla 0 _ rfl
      obtain ⟨z1, z2⟩ := q1.len.2
      unfold maxLen at z2
      obtain ⟨⟨y0, y1, y2⟩, yk⟩ := box3 w3 (.slice (some ⟨b, o, none⟩) N cp) (.int .i64 R) (.bool F) 32
      replace x3 := kp_cell (kp_trans q2 yk) x3
      replace c14 := kp_cell yk c14
      have C1 : Hid (Cd (w3.alloc (.cells #[.slice (some ⟨b, o, none⟩) N cp, .int .i64 R, .bool F] 32)) (.slice (some ⟨b, o, none⟩) N cp) (t.code 0 0 ++ [({ op := 14 } : Ins)]) ∧ Kp w (w3.alloc (.cells #[.slice (some ⟨b, o, none⟩) N cp, .int .i64 R, .bool F] 32)) ∧ sndF (t.code 0 0 ++ [({ op := 14 } : Ins)]) (R : Int) = true) := ⟨q1.kp yk, kp_trans K1.out.2 (kp_trans q2 yk), hsnd⟩
      obtain ⟨k, hk⟩ : ∃ k, t.len = k := ⟨_, rfl⟩
      rw [hk] at c14 hN
      have c14' : (w3.alloc (.cells #[.slice (some ⟨b, o, none⟩) N cp, .int .i64 R, .bool F] 32)).cell? ⟨b, o + k * 8, none⟩ = some (.int .u8 14) := c14
      have eN : (N : Int) - 1 = (k : Int) := by omega
      have hkN : k < N := by omega
      have dN : decide ((N : Int) ≤ 2000) = true := decide_eq_true (by omega)
      clear q1 q2 yk hsnd hla hcl hlen hR hN hk c14 x0 x1 x2
      by_cases h0 : cs = 0
      · subst h0
        have hF' : fold = F := by rw [← hF]; rfl
        subst hF'
        clear hF
        go_wp2_with fail
        refine Calls.mono (gsound_any fold R C1.out.1) ?_
        rw [C1.out.2.2]
        rintro e w4 ⟨rfl, q⟩
        have HK4 : Hid (Kp w w4) := kp_trans C1.out.2.1 q
        replace y0 := kp_cell q y0
        replace y1 := kp_cell q y1
        replace y2 := kp_cell q y2
        replace c14' := kp_cell q c14'
        clear q
        go_wp2_with fail
        go_ret
        exact ⟨by simp, HK4.out⟩
      · have e0 : ((cs : Int) == 0) = false := by simp; omega
        have hF' : ((cs : Int) == 1) = F := by
          rw [← hF]
          unfold foldsB
          rw [if_neg h0]
          by_cases h1 : cs = 1
          · subst h1; rfl
          · have a1 : (cs == 1) = false := by simp [h1]
            have a2 : ((cs : Int) == 1) = false := by simp; omega
            rw [a1, a2]
        clear hF h0
        go_wp2_with fail
        refine Calls.mono (gsound_any F R C1.out.1) ?_
        rw [C1.out.2.2]
        rintro e w4 ⟨rfl, q⟩
        have HK4 : Hid (Kp w w4) := kp_trans C1.out.2.1 q
        replace y0 := kp_cell q y0
        replace y1 := kp_cell q y1
        replace y2 := kp_cell q y2
        replace c14' := kp_cell q c14'
        clear q
        go_wp2_with fail
        go_ret
        exact ⟨by simp, HK4.out⟩
    · have hno : progF t = none := by
        cases hp : progF t with
        | none => rfl
        | some x => exact absurd (progF_fits.1 ⟨x, hp⟩) hlen
      rw [hno]
      rintro e w3 ⟨rfl, q⟩
      have HK3 : Hid (Kp w (w3.alloc (.cells #[.slice none 0 0, .int .i64 0, .bool false] 32))) := kp_trans K1.out.2 (kp_trans q (kp_alloc _ _))
      obtain ⟨⟨y0, y1, y2⟩, yk⟩ := box3 w3 (.slice none 0 0) (.int .i64 0) (.bool false) 32
      clear q yk hno hlen
      go_wp2_with fail
      go_ret
      exact ⟨rfl, HK3.out⟩
end
end Go.Proofs.YtlgemficalcghaaGreat
