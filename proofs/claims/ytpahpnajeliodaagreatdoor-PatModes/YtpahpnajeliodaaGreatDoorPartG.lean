/- Texts that the proof of the law stands on: Inr4, Snd1, Snd2, Snd3, Snd4, Snd5, Snd6, WShelf, Hex, Txt, Txt2. -/
import Derived.Test.YtpahpnajeliodaaGreatDoorPartF
import Derived.Test.YtpahpnajeliodaaGreatDoorPartB
import Derived.Deep.AppendSrc
import Derived.Test.YtpahpnajeliodaaGreatDoorPartE
import Derived.Ground.NamesProg
import Derived.Shelf.Strconv.Itoa3
import Derived.Shelf.Strings.Repeat
import Derived.Shelf.Strings.Cut
import Derived.Test.YtpahpnajeliodaaGreatDoorProg
import Derived.Lib.ItoaLen
/- Pieces, repetitions, groups, branches. -/
namespace Go.Proofs.YtpahpnajeliodaaGreatDoor
set_option linter.unusedVariables false
set_option linter.unusedSimpArgs false
section
variable {s last : ByteArray} {r r' : RS} {t : Tok} {i n : Nat} {A ks : List Nat}
theorem numG_60 {fr : Nat} : ∀ {f k n m j : Nat}, numG s fr f k n = some (m, j) → n ≤ 60 → m ≤ 60 := by
  intro f
  induction f with
  | zero => intro k n m j h hn; simp [numG] at h; omega
  | succ f ih =>
    intro k n m j h hn
    rw [numG] at h
    split at h
    · split at h
      · split at h
        · cases h
        · exact ih h (by omega)
      · cases h; exact hn
    · cases h; exact hn
theorem finF_b {k n : Nat} {m : Int} {y : Bool} {a : Nat} {b : Int} {c : Bool} {j : Nat} (h : finF s k n m y = some (a, b, c, j)) : a = n ∧ b = m ∧ ¬ (0 ≤ m ∧ m < n) := by
  unfold finF at h
  split at h
  · split at h
    · cases h
    · rename_i hq; cases h; exact ⟨rfl, rfl, hq⟩
  · split at h
    · split at h
      · cases h
      · rename_i hq; cases h; exact ⟨rfl, rfl, hq⟩
    · cases h
theorem bndF_b {k : Nat} {a : Nat} {b : Int} {c : Bool} {j : Nat} (h : bndF s k = some (a, b, c, j)) : a ≤ 60 ∧ (b < 0 ∨ ((a : Int) ≤ b ∧ b ≤ 60)) := by
  unfold bndF at h
  split at h
  · cases h
  · rename_i n k2 h2
    have n60 := numG_60 h2 (by omega)
    split at h
    · split at h
      · cases h
      · rename_i m k3 h3
        have m60 := numG_60 h3 (by omega)
        obtain ⟨rfl, rfl, q⟩ := finF_b h
        refine ⟨n60, ?_⟩
        split at q
        · rename_i hq; rw [if_pos hq]; omega
        · rename_i hq; rw [if_neg hq]; omega
    · obtain ⟨rfl, rfl, q⟩ := finF_b h
      refine ⟨n60, ?_⟩
      by_cases hq : (if pfx s k ⟨#[45]⟩ then k + 1 else k) < k2
      · rw [if_pos hq] at q ⊢; omega
      · rw [if_neg hq] at q ⊢; omega
theorem times_b {d : Nd} (h : timesF s t r = .ok (d, r')) : (d.op = 7 ∧ (0 ≤ d.mn ∧ d.mn ≤ 60 ∧ (d.mx < 0 ∨ (d.mn ≤ d.mx ∧ d.mx ≤ 60)))) ∧ ∃ k, r' = { r with k := k } := by
  unfold timesF at h
  split at h
  · cases h; exact ⟨⟨rfl, by decide⟩, r.k, rfl⟩
  · split at h
    · cases h; exact ⟨⟨rfl, by decide⟩, r.k, rfl⟩
    · split at h
      · split at h
        · cases h
        · rename_i n mx lz j hb
          cases h
          have := bndF_b hb
          exact ⟨⟨rfl, by simp only; omega⟩, j, rfl⟩
      · cases h; exact ⟨⟨rfl, by decide⟩, r.k, rfl⟩
theorem letter_got (hw : Wf r A) (h : letterF s t r = .ok (i, r')) : PGot r r' A i := by
  unfold letterF at h
  split at h
  · exact pg_of (x := (0, r)) h hw rfl rfl
  split at h
  · exact pg_of (x := (0, r)) h hw rfl rfl
  split at h
  · unfold edgeF at h
    split at h
    · have := pg_of (x := (0, r)) h (hw.k (r.k + 1) r.md r.cs) rfl rfl
      exact ⟨this.1.k, this.2⟩
    · split at h
      · have := pg_of (x := (0, r)) h (hw.k (r.k + 1) r.md r.cs) rfl rfl
        exact ⟨this.1.k, this.2⟩
      · cases h
  split at h
  · unfold backF at h
    split at h
    · rename_i hc
      injection h with h
      have e1 : i = r.nds.length := by rw [show i = (i, r').1 from rfl, ← h]; rfl
      have e2 : r' = (addN { op := 9, n := t.c - 48 } r).2 := by rw [show r' = (i, r').2 from rfl, ← h]
      subst e1 e2
      exact ⟨⟨Wf.add (d := { op := 9, n := t.c - 48 }) (by rw [List.append_nil]; exact hw) (.inr (.inr (.inl ⟨rfl, rfl⟩))) (fun _ => hw.cl _ hc), Nat.le_refl _, [_], rfl⟩, Pcr.new (by simp)⟩
    · cases h
  split at h
  · exact pg_of (x := (0, r)) h hw rfl rfl
  · cases h
theorem eol_got (hw : Wf r A) (h : eolF s t r = .ok (i, r')) : PGot r r' A i := by
  unfold eolF at h
  split at h
  · cases h
  · split at h
    · exact pg_of (x := (0, r)) h hw rfl rfl
    · exact pg_of (x := (0, r)) h hw rfl rfl
theorem set_got (hw : Wf r A) (h : setF s t r = .ok (i, r')) : PGot r r' A i := by
  unfold setF at h
  split at h
  · cases h
  · rename_i r1 hc
    unfold collF at hc
    split at hc
    · cases hc; exact pg_of (x := (0, r)) h hw rfl rfl
    · split at hc
      · cases hc
      · cases hc
  · rename_i q r1 hc
    unfold collF at hc
    split at hc
    · cases hc
    · split at hc
      · cases hc
      · cases hc
        have := pg_of (x := (0, r)) h (hw.k _ r.md r.cs) rfl rfl
        exact ⟨this.1.k, this.2⟩
theorem sign_got {G : Tok → RS → Except (Nat × Nat) (Nat × RS)} {first : Bool} (hw : Wf r A) (hG : ∀ i r', G t r = .ok (i, r') → PGot r r' A i) (h : signF G s last t first r = .ok (i, r')) : PGot r r' A i := by
  unfold signF at h
  split at h
  · split at h
    · exact pg_of (x := (0, r)) h hw rfl rfl
    · exact pg_of (x := (0, r)) h hw rfl rfl
  split at h
  · exact eol_got hw h
  split at h
  · exact pg_of (x := (0, r)) h hw rfl rfl
  split at h
  · exact pg_of (x := (0, r)) h hw rfl rfl
  split at h
  · exact pg_of (x := (0, r)) h hw rfl rfl
  split at h
  · injection h with h
    have := again_got (last := last) hw
    rw [h] at this
    exact this
  split at h
  · exact set_got hw h
  split at h
  · exact hG _ _ h
  · exact pg_of (x := (0, r)) h hw rfl rfl
theorem piece_got {G : Tok → RS → Except (Nat × Nat) (Nat × RS)} {first : Bool} (hw : Wf r A) (hG : ∀ i r', G t r = .ok (i, r') → PGot r r' A i) (h : pieceF G s last t first r = .ok (i, r')) : PGot r r' A i := by
  unfold pieceF at h
  split at h
  · exact sign_got hw hG h
  · split at h
    · exact letter_got hw h
    · exact pg_of (x := (0, r)) h hw rfl rfl
theorem group_got {BR : RS → Except (Nat × Nat) (Nat × Tok × RS)} (hw : Wf r A) (hB : ∀ r1 i t r2, Wf r1 A → BR r1 = .ok (i, t, r2) → Got r1 r2 A i) (h : groupF BR t r = .ok (i, r')) : PGot r r' A i := by
  unfold groupF at h
  split at h
  · cases h
  · rename_i h9
    have hg := hw.g
    split at h
    · cases h
    · rename_i kid en r1 h1
      have hw1 : Wf { r with g := r.g + 1 } A := ⟨hw.kl, hw.kn, hw.sh, hw.own, hw.rn, hw.fr, hw.lt, fun j hj => by have := hw.cl j hj; exact ⟨this.1, by show j ≤ r.g + 1; omega⟩, by show r.g + 1 ≤ 9; omega, fun k d hd ho => by have := hw.ns k d hd ho; exact ⟨this.1, by show d.n ≤ r.g + 1; omega⟩, hw.tr⟩
      have a := hB _ _ _ _ hw1 h1
      have ag : r.g + 1 ≤ r1.g := a.g
      split at h
      · cases h
      · cases h
        have b := a.wf
        have hw2 : Wf { r1 with cl := r1.cl.set (r.g + 1) true } (A ++ [kid]) := ⟨b.kl, b.kn, b.sh, b.own, b.rn, b.fr, b.lt, fun j hj => by
            show 1 ≤ j ∧ j ≤ r1.g
            by_cases e : j = r.g + 1
            · omega
            · refine b.cl j ?_
              simp only [List.getD_eq_getElem?_getD] at hj ⊢
              rw [List.getElem?_set_ne (by omega)] at hj
              exact hj, b.g, b.ns, b.tr⟩
        refine ⟨⟨Wf.add (d := { op := 8, n := r.g + 1, kids := [kid] }) hw2 (.inr (.inr (.inr (.inl ⟨rfl, kid, rfl⟩)))) (fun _ => ⟨by simp, ag⟩), by show r.g ≤ r1.g; omega, ?_⟩, Pcr.new (by simp)⟩
        obtain ⟨e, he⟩ := a.pre
        exact ⟨e ++ [{ op := 8, n := r.g + 1, kids := [kid] }], by simp only [addN]; rw [he]; simp⟩
theorem many_got {ks' : List Nat} (hw : Wf r (A ++ ks)) (hp : ∀ p ∈ ks, Pcr r.nds p) (h : manyF s t ks r = .ok (ks', r')) : Wf r' (A ++ ks') ∧ (∀ p ∈ ks', Pcr r'.nds p) ∧ r.g ≤ r'.g ∧ ∃ e, r'.nds = r.nds ++ e := by
  have lit : ∀ {k2 : List Nat} {r2 : RS}, (.ok (ks ++ [r.nds.length], { r with nds := r.nds ++ [{ op := 2, c := t.c }] }) : Except (Nat × Nat) (List Nat × RS)) = .ok (k2, r2) → Wf r2 (A ++ k2) ∧ (∀ p ∈ k2, Pcr r2.nds p) ∧ r.g ≤ r2.g ∧ ∃ e, r2.nds = r.nds ++ e := by
    intro k2 r2 e
    injection e with e
    injection e with e1 e2
    subst e1 e2
    have q := pg_leaf (d := { op := 2, c := t.c }) hw rfl rfl
    refine ⟨by rw [← List.append_assoc]; exact q.1.wf, fun p hpp => ?_, Nat.le_refl _, [_], rfl⟩
    rw [List.mem_append, List.mem_singleton] at hpp
    rcases hpp with hpp | rfl
    · exact (hp p hpp).ext (hw.lt p (by simp [hpp]))
    · exact Pcr.new (by simp)
  unfold manyF at h
  split at h
  · split at h
    · cases h
    · exact lit h
  · rename_i p hl
    split at h
    · rename_i hrep
      split at h
      · cases h
      · rename_i d r1 ht
        obtain ⟨⟨d7, db⟩, k, rfl⟩ := times_b ht
        injection h with h
        injection h with e1 e2
        subst e1 e2
        obtain ⟨l, rfl⟩ := List.getLast?_eq_some_iff.1 hl
        have hset : (l ++ [p]).set ((l ++ [p]).length - 1) r.nds.length = l ++ [r.nds.length] := by simp
        have hw' : Wf { r with k := k } ((A ++ l) ++ [p]) := by
          rw [List.append_assoc]
          exact hw.k k r.md r.cs
        have q := Wf.add (r := { r with k := k }) (A := A ++ l) (d := { d with kids := [p] }) hw' (.inr (.inr (.inr (.inr ⟨d7, p, rfl, db, hrep, hp p (List.mem_of_getLast? hl)⟩)))) (fun q => by simp only [d7] at q; omega)
        refine ⟨by simp only [hset]; rw [← List.append_assoc]; exact q, fun x hx => ?_, Nat.le_refl _, [_], rfl⟩
        simp only [hset, List.mem_append, List.mem_singleton] at hx
        rcases hx with hx | rfl
        · exact (hp x (by simp [hx])).ext (hw.lt x (by simp [hx]))
        · exact Pcr.new (by show d.op ≠ 5; omega)
    · split at h
      · cases h
      · exact lit h
theorem br_got {P : Tok → Bool → RS → Except (Nat × Nat) (Nat × RS)} (hP : ∀ t b r A i r', Wf r A → P t b r = .ok (i, r') → PGot r r' A i) :
    ∀ (f : Nat) (r : RS) (ks : List Nat) (i : Nat) (t : Tok) (r' : RS), Wf r (A ++ ks) → (∀ p ∈ ks, Pcr r.nds p) → brF P s f r ks = .ok (i, t, r') → Got r r' A i := by
  intro f
  induction f with
  | zero => intro r ks i t r' _ _ h; simp [brF] at h
  | succ f ih =>
    intro r ks i t r' hw hp h
    rw [brF] at h
    split at h
    · cases h
    · rename_i t1 k md cs hn
      have hw1 := hw.k k md cs
      split at h
      · cases h
        exact (join_got (.inl rfl) hw1).k
      · split at h
        · split at h
          · cases h
          · rename_i ks' r1 hm
            obtain ⟨q1, q2, q3, q4⟩ := many_got hw1 hp hm
            exact Got.trans (A1 := []) (j := 0) q3 q4 (ih _ _ _ _ _ q1 q2 h)
        · split at h
          · cases h
          · rename_i i1 r1 hp1
            obtain ⟨q1, q2⟩ := hP _ _ _ _ _ _ hw1 hp1
            refine Got.trans (A1 := []) (j := 0) q1.g q1.pre (ih _ _ _ _ _ (by rw [← List.append_assoc]; exact q1.wf) (fun p hpp => ?_) h)
            rw [List.mem_append, List.mem_singleton] at hpp
            rcases hpp with hpp | rfl
            · obtain ⟨e, he⟩ := q1.pre
              rw [he]
              exact (hp p hpp).ext (hw.lt p (by simp [hpp]))
            · exact q2
theorem brs_got {F : RS → Except (Nat × Nat) (Nat × Tok × RS)} (hF : ∀ r A i t r', Wf r A → F r = .ok (i, t, r') → Got r r' A i) :
    ∀ (f : Nat) (r : RS) (ks : List Nat) (i : Nat) (t : Tok) (r' : RS), Wf r (A ++ ks) → brsL F f r ks = .ok (i, t, r') → Got r r' A i := by
  intro f
  induction f with
  | zero => intro r ks i t r' _ h; simp [brsL] at h
  | succ f ih =>
    intro r ks i t r' hw h
    rw [brsL] at h
    split at h
    · cases h
    · rename_i i1 t1 r1 h1
      have q := hF _ _ _ _ _ hw h1
      have q1 : Wf r1 (A ++ (ks ++ [i1])) := by rw [← List.append_assoc]; exact q.wf
      split at h
      · exact Got.trans (A1 := []) (j := 0) q.g q.pre (ih _ _ _ _ _ q1 h)
      · cases h
        exact Got.trans (A1 := []) (j := 0) q.g q.pre (join_got (.inr rfl) q1)
theorem brsF_got : ∀ (n : Nat) (r : RS) (A : List Nat) (i : Nat) (t : Tok) (r' : RS), Wf r A → brsF s last n r = .ok (i, t, r') → Got r r' A i
  | 0, _, _, _, _, _, _, h => by cases h
  | n + 1, r, A, i, t, r', hw, h => by
    rw [brsF] at h
    refine brs_got (fun r1 A1 i1 t1 r2 h1 h2 => ?_) _ _ [] _ _ _ (by rw [List.append_nil]; exact hw) h
    refine br_got (fun t3 b3 r3 A3 i3 r4 h3 h4 => ?_) _ _ [] _ _ _ (by rw [List.append_nil]; exact h1) (fun p hp => by cases hp) h2
    exact piece_got h3 (fun i5 r5 h5 => group_got h3 (fun r6 i6 t6 r7 h6 h7 => brsF_got n r6 A3 i6 t6 r7 h6 h7) h5) h4
theorem wf0 : Wf rs0 [] where
  kl k d h := by simp [rs0] at h
  kn k d h := by simp [rs0] at h
  sh k d h := by simp [rs0] at h
  own k1 k2 d1 d2 x h := by simp [rs0] at h
  rn := by simp
  fr x h := by cases h
  lt x h := by cases h
  cl j h := by
    exfalso
    simp only [rs0, List.getD_eq_getElem?_getD] at h
    cases hq : (List.replicate 10 false)[j]? with
    | none => rw [hq] at h; cases h
    | some b => have := List.mem_of_getElem? hq; simp at this; rw [hq, this] at h; cases h
  g := by decide
  ns k d h := by simp [rs0] at h
  tr := ⟨fun _ => .empty, fun k h => by simp [rs0] at h, by simp [seqSz]⟩
theorem parF_wf (h : parF s last = .ok (i, r')) : Wf r' [i] ∧ r'.nds.length ≤ 400 := by
  unfold parF patF at h
  split at h
  · cases h
  · split at h
    · cases h
    · rename_i i1 t1 r1 hb
      split at h
      · cases h
      · split at h
        · cases h
        · rename_i h4
          cases h
          exact ⟨(brsF_got _ _ [] _ _ _ wf0 hb).wf, by omega⟩
end
end Go.Proofs.YtpahpnajeliodaaGreatDoor
/- The checker's small calls. -/
namespace Go.Proofs.YtpahpnajeliodaaGreatDoor
open Go.ChangeShapes Go.WideShapes Go.ChangeAt Go.RowKit
set_option linter.unusedVariables false
set_option linter.unusedSimpArgs false
/-- A checker in memory. -/
def Ck (cb : Nat) (v : Value) (root G : Int) (cs : Nat) (av : Value) (w : World) : Prop := w.heap[cb]? = some (.cells #[v, .int .i64 root, .int .i64 G, .int .u8 cs, av] 56 (0, 0))
section
variable {cb : Nat} {v av : Value} {root G : Int} {cs : Nat} {w w1 : World} {L : List Nq}
theorem Ck.cells (h : Ck cb v root G cs av w) : w.cell? ⟨cb, 0, none⟩ = some v ∧ w.cell? ⟨cb, 1, none⟩ = some (.int .i64 root) ∧ w.cell? ⟨cb, 2, none⟩ = some (.int .i64 G) ∧ w.cell? ⟨cb, 4, none⟩ = some av := by
  unfold Ck at h
  refine ⟨?_, ?_, ?_, ?_⟩ <;> simp [World.cell?, h]
theorem Ck.lt (h : Ck cb v root G cs av w) : cb < w.heap.size := (Array.getElem?_eq_some_iff.1 h).1
theorem Ck.kp (h : Ck cb v root G cs av w) (k : Kp w w1) : Ck cb v root G cs av w1 := by have hl := h.lt; unfold Ck at *; rw [k.block _ hl]; exact h
theorem groups_any (h : Ck cb v root G cs av w) : Calls Tryz.prog 13 #[.pointer (some ⟨cb, 0, none⟩)] w fun e w' => e = .returned (.bool (decide (0 ≤ G ∧ G ≤ 9))) ∧ w' = w := by
  obtain ⟨c0, c1, c2, c4⟩ := h.cells
  clear h
  by_cases h1 : 0 ≤ G
  · by_cases h2 : G ≤ 9
    · rw [decide_eq_true (by omega : 0 ≤ G ∧ G ≤ 9)]
      go_enter Tryz.func13, Tryz.ntmps13
      go_wp2
      go_ret
      simp [h1, h2]
    · rw [decide_eq_false (by omega : ¬ (0 ≤ G ∧ G ≤ 9))]
      go_enter Tryz.func13, Tryz.ntmps13
      go_wp2
      go_ret
      simp [h1, h2]
  · rw [decide_eq_false (by omega : ¬ (0 ≤ G ∧ G ≤ 9))]
    go_enter Tryz.func13, Tryz.ntmps13
    go_wp2
    go_ret
    simp [h1]
theorem has_any (h : Ck cb v root G cs av w) (hv : Pt w v L) (a : Int) : Calls Tryz.prog 22 #[.pointer (some ⟨cb, 0, none⟩), .int .i64 a] w fun e w' => e = .returned (.bool (hasB L a)) ∧ w' = w := by
  obtain ⟨c0, c1, c2, c4⟩ := h.cells
  obtain ⟨ad, cap, rfl, _, _, _⟩ := hv
  clear h
  unfold hasB
  by_cases h1 : 0 ≤ a
  · by_cases h2 : a < (L.length : Int)
    · rw [decide_eq_true (by omega : 0 ≤ a ∧ a < (L.length : Int))]
      go_enter Tryz.func22, Tryz.ntmps22
      go_wp2
      go_ret
      simp [h1, h2]
    · rw [decide_eq_false (by omega : ¬ (0 ≤ a ∧ a < (L.length : Int)))]
      go_enter Tryz.func22, Tryz.ntmps22
      go_wp2
      go_ret
      simp [h1, h2]
  · rw [decide_eq_false (by omega : ¬ (0 ≤ a ∧ a < (L.length : Int)))]
    go_enter Tryz.func22, Tryz.ntmps22
    go_wp2
    go_ret
    simp [h1]
theorem isGroup_any (h : Ck cb v root G cs av w) (n : Int) : Calls Tryz.prog 32 #[.pointer (some ⟨cb, 0, none⟩), .int .i64 n] w fun e w' => e = .returned (.bool (isG G n)) ∧ w' = w := by
  obtain ⟨c0, c1, c2, c4⟩ := h.cells
  clear h
  unfold isG
  by_cases h1 : 1 ≤ n
  · by_cases h2 : n ≤ G
    · rw [decide_eq_true (by omega : 1 ≤ n ∧ n ≤ G)]
      go_enter Tryz.func32, Tryz.ntmps32
      go_wp2
      go_ret
      simp [h1, h2]
    · rw [decide_eq_false (by omega : ¬ (1 ≤ n ∧ n ≤ G))]
      go_enter Tryz.func32, Tryz.ntmps32
      go_wp2
      go_ret
      simp [h1, h2]
  · rw [decide_eq_false (by omega : ¬ (1 ≤ n ∧ n ≤ G))]
    go_enter Tryz.func32, Tryz.ntmps32
    go_wp2
    go_ret
    simp [h1]
theorem timesFit_any (d : Nq) (kv : Value) (w : World) : Calls Tryz.prog 33 #[d.val kv] w fun e w' => e = .returned (.bool (timesB d)) ∧ Kp w w' := by
  unfold Nq.val
  go_enter Tryz.func33, Tryz.ntmps33
  go_wp2_with fail
  all_goals
    go_ret
    refine ⟨?_, kp_alloc _ _⟩
    show Ending.returned (Value.bool _) = Ending.returned (Value.bool _)
    congr 2
    unfold timesB
    apply Bool.eq_iff_iff.2
    simp
    omega
end
end Go.Proofs.YtpahpnajeliodaaGreatDoor
/- The checker's areBytes and mayRepeat. -/
namespace Go.Proofs.YtpahpnajeliodaaGreatDoor
open Go.ChangeShapes Go.WideShapes Go.ChangeAt Go.RowKit
set_option linter.unusedVariables false
set_option linter.unusedSimpArgs false
section
variable {cb : Nat} {v av : Value} {root G : Int} {cs : Nat} {w w1 : World} {L : List Nq}
theorem Pt.node {a : Option Addr} {cap : Nat} (h : Pt w (.slice a L.length cap) L) {k : Int} (hk : hasB L k = true) : ∃ (n b o : Nat) (kv : Value), k = (n : Int) ∧ n < L.length ∧ a = some ⟨b, o, none⟩ ∧ (∀ j u, ((nodeAt L k).cells kv)[j]? = some u → w.cell? ⟨b, o + n * 11 + j, none⟩ = some u) ∧ Ks w kv (nodeAt L k).kids := by
  obtain ⟨h0, h1⟩ := of_decide_eq_true hk
  obtain ⟨n, rfl⟩ := Int.eq_ofNat_of_zero_le h0
  have hn : n < L.length := by omega
  obtain ⟨a', cap', e, _, _, q⟩ := h
  injection e with e _ _
  have hx : L[n]? = some (nodeAt L n) := by
    unfold nodeAt
    rw [Int.toNat_natCast, List.getElem?_eq_getElem hn]; rfl
  obtain ⟨b, o, kv, e1, e2, e3⟩ := q n _ hx
  exact ⟨n, b, o, kv, rfl, hn, by rw [e, e1], e2, e3⟩
theorem Ks.get {a : Option Addr} {ks : List Int} {n cap : Nat} (h : Ks w (.slice a n cap) ks) {i : Nat} (hi : i < n) : ∃ b o k, a = some ⟨b, o, none⟩ ∧ ks[i]? = some k ∧ w.cell? ⟨b, o + i, none⟩ = some (.int .i64 k) := by
  obtain ⟨a', cap', e, _, _, q⟩ := h
  injection e with e e2 _
  have hx : ks[i]? = some (ks[i]'(by omega)) := List.getElem?_eq_getElem (by omega)
  obtain ⟨b, o, e1, q1⟩ := q i _ hx
  exact ⟨b, o, _, by rw [e, e1], hx, q1⟩
set_option maxHeartbeats 2000000 in
theorem areBytes_any (h : Ck cb v root G cs av w) (hv : Pt w v L) {kv : Value} {ks : List Int} (hk : Ks w kv ks) : Calls Tryz.prog 47 #[.pointer (some ⟨cb, 0, none⟩), kv] w fun e w' => e = .returned (.bool (bytesB L ks)) ∧ Kp w w' := by
  obtain ⟨ad, cap, rfl, _, kc, hks⟩ := id hk
  obtain ⟨va, vc, rfl, _, vcc, hns⟩ := id hv
  have HCk : Hid (Ck cb (.slice va L.length vc) root G cs av w ∧ Pt w (.slice va L.length vc) L ∧ Ks w (.slice ad ks.length cap) ks) := ⟨h, hv, hk⟩
  obtain ⟨X, hX⟩ : ∃ X, bytesB L ks = X := ⟨_, rfl⟩
  rw [hX]
  have HX : Hid (bytesB L ks = X) := hX
  obtain ⟨N, hN⟩ : ∃ N, ks.length = N := ⟨_, rfl⟩
  have HN : Hid (ks.length = N) := hN
  rw [hN] at HCk ⊢
  unfold maxLen at kc vcc
  clear h hks hX hns hk hv
  go_enter Tryz.func47, Tryz.ntmps47
  go_wp2_with fail
  go_loopw [9] (fun v9 wr => ∃ i : Nat, i ≤ N ∧ v9 = .int .i64 i ∧ bytesB L (ks.drop i) = X ∧ Kp w wr) (fun v9 _ => N - (intOf v9).toNat)
  case atStart => exact ⟨0, Nat.zero_le _, rfl, HX.out, Below.refl _ _⟩
  case round =>
    obtain ⟨i, hi, rfl, hb, hk⟩ := hrel
    have HK : Hid (Kp w wr ∧ bytesB L (ks.drop i) = X) := ⟨hk, hb⟩
    clear hb hk
    by_cases hlt : i < N
    · have dl : decide ((i : Int) < (N : Int)) = true := decide_eq_true (by omega)
      obtain ⟨b, o, k, rfl, hk, hc⟩ := (HCk.out.2.2.kp HK.out.1).get hlt
      have hdrop : ks.drop i = k :: ks.drop (i + 1) := by
        rw [List.drop_eq_getElem_cons (by rw [HN.out]; exact hlt)]
        rw [List.getElem?_eq_getElem (by rw [HN.out]; exact hlt), Option.some.injEq] at hk
        rw [hk]
      have HB : Hid (bytesB L (k :: ks.drop (i + 1)) = X) := by rw [← hdrop]; exact HK.out.2
      clear hdrop hk
      go_wp2_with fail
      refine Calls.mono (has_any (HCk.out.1.kp HK.out.1) (HCk.out.2.1.kp HK.out.1) k) ?_
      rintro e w' ⟨rfl, rfl⟩
      cases hh : hasB L k with
      | false =>
        have hX : X = false := by rw [← HB.out]; simp [bytesB, hh]
        subst hX
        go_wp2_with fail
        go_ret
        exact ⟨rfl, HK.out.1⟩
      | true =>
        obtain ⟨n, nb, no, kv, rfl, hn, rfl, hcs, hks⟩ := (HCk.out.2.1.kp HK.out.1).node hh
        have c0 : w'.cell? ⟨nb, no + n * 11, none⟩ = some (.int .u8 (nodeAt L n).op) := hcs 0 _ rfl
        obtain ⟨ck0, _⟩ := (HCk.out.1.kp HK.out.1).cells
        have HH : Hid (hasB L n = true) := hh
        obtain ⟨op, hop⟩ : ∃ op, (nodeAt L n).op = op := ⟨_, rfl⟩
        have HOp : Hid ((nodeAt L n).op = op) := hop
        rw [hop] at c0
        clear hcs hks hh hop
        by_cases h2 : op = 2
        · subst h2
          have hB2 : bytesB L (ks.drop (i + 1)) = X := by rw [← HB.out]; simp [bytesB, HH.out, HOp.out]
          have HB2 : Hid _ := hB2
          clear hB2
          go_wp2_with fail
          go_roundw
          case rel => exact ⟨i + 1, by omega, by go_num, HB2.out, HK.out.1⟩
          case measure =>
            simp only [intOf]
            omega
        · have d2 : ((op : Int) == 2) = false := by simp; omega
          have hX : X = false := by rw [← HB.out]; simp [bytesB, HH.out, HOp.out, h2]
          subst hX
          clear h2
          go_wp2_with fail
          go_ret
          exact ⟨rfl, HK.out.1⟩
    · have hiN : i = N := by omega
      subst hiN
      have hX : X = true := by rw [← HK.out.2, List.drop_eq_nil_of_le (Nat.le_of_eq HN.out)]; rfl
      subst hX
      go_wp2_with fail
      go_ret
      exact ⟨rfl, HK.out.1⟩
set_option maxHeartbeats 2000000 in
theorem mayRepeat_any (h : Ck cb v root G cs av w) (hv : Pt w v L) (a : Int) : Calls Tryz.prog 34 #[.pointer (some ⟨cb, 0, none⟩), .int .i64 a] w fun e w' => e = .returned (.bool (mayB L a)) ∧ Kp w w' := by
  obtain ⟨va, vc, rfl, _, vcc, hns⟩ := id hv
  have HCk : Hid (Ck cb (.slice va L.length vc) root G cs av w ∧ Pt w (.slice va L.length vc) L) := ⟨h, hv⟩
  unfold maxLen at vcc
  obtain ⟨ck0, _⟩ := h.cells
  unfold mayB
  clear h hns hv
  cases hh : hasB L a with
  | false =>
    go_enter Tryz.func34, Tryz.ntmps34
    go_wp2_with fail
    refine Calls.mono (has_any HCk.out.1 HCk.out.2 a) ?_
    rintro e w' ⟨rfl, rfl⟩
    rw [hh]
    go_wp2_with fail
    go_ret
    exact ⟨rfl, Below.refl _ _⟩
  | true =>
    obtain ⟨n, nb, no, kv, rfl, hn, rfl, hcs, hks⟩ := HCk.out.2.node hh
    have c0 : w.cell? ⟨nb, no + n * 11, none⟩ = some (.int .u8 (nodeAt L n).op) := hcs 0 _ rfl
    have c10 : w.cell? ⟨nb, no + n * 11 + 10, none⟩ = some kv := hcs 10 _ rfl
    have HKs : Hid (Ks w kv (nodeAt L n).kids) := hks
    obtain ⟨ka, kc, rfl, _, _, _⟩ := id hks
    obtain ⟨op, hop⟩ : ∃ op, (nodeAt L n).op = op := ⟨_, rfl⟩
    rw [hop] at c0 ⊢
    have HH : Hid (hasB L n = true) := hh
    clear hcs hks hh hop
    cases hr : repB op with
    | false =>
      go_enter Tryz.func34, Tryz.ntmps34
      go_wp2_with fail
      refine Calls.mono (has_any HCk.out.1 HCk.out.2 n) ?_
      rintro e w' ⟨rfl, rfl⟩
      rw [HH.out]
      go_wp2_with fail
      refine Calls.mono (repeats_any op _) ?_
      rintro e w1 ⟨rfl, rfl⟩
      rw [hr]
      go_wp2_with fail
      go_ret
      exact ⟨rfl, Below.refl _ _⟩
    | true =>
      by_cases h5 : op = 5
      · subst h5
        go_enter Tryz.func34, Tryz.ntmps34
        go_wp2_with fail
        refine Calls.mono (has_any HCk.out.1 HCk.out.2 n) ?_
        rintro e w' ⟨rfl, rfl⟩
        rw [HH.out]
        go_wp2_with fail
        refine Calls.mono (repeats_any 5 _) ?_
        rintro e w1 ⟨rfl, rfl⟩
        rw [hr]
        go_wp2_with fail
        refine Calls.mono (areBytes_any HCk.out.1 HCk.out.2 HKs.out) ?_
        rintro e w2 ⟨rfl, q⟩
        go_wp2_with fail
        go_ret
        exact ⟨by simp, q⟩
      · have d5 : ((op : Int) == 5) = false := by simp; omega
        have e5 : (op == 5) = false := by simp; omega
        rw [e5]
        go_enter Tryz.func34, Tryz.ntmps34
        go_wp2_with fail
        refine Calls.mono (has_any HCk.out.1 HCk.out.2 n) ?_
        rintro e w' ⟨rfl, rfl⟩
        rw [HH.out]
        go_wp2_with fail
        refine Calls.mono (repeats_any op _) ?_
        rintro e w1 ⟨rfl, rfl⟩
        rw [hr]
        go_wp2_with fail
        go_ret
        exact ⟨rfl, Below.refl _ _⟩
end
end Go.Proofs.YtpahpnajeliodaaGreatDoor
/- The checker's fits. -/
namespace Go.Proofs.YtpahpnajeliodaaGreatDoor
open Go.ChangeShapes Go.WideShapes Go.ChangeAt Go.RowKit
set_option linter.unusedVariables false
set_option linter.unusedSimpArgs false
section
variable {cb : Nat} {v av : Value} {root G : Int} {cs : Nat} {w w1 : World} {L : List Nq}
set_option maxHeartbeats 4000000 in
theorem fits_any (h : Ck cb v root G cs av w) (hv : Pt w v L) (d : Nq) {kv : Value} (hk : Ks w kv d.kids) : Calls Tryz.prog 23 #[.pointer (some ⟨cb, 0, none⟩), d.val kv] w fun e w' => e = .returned (.bool (fitB L G d)) ∧ Kp w w' := by
  have HCk : Hid (Ck cb v root G cs av w ∧ Pt w v L ∧ Ks w kv d.kids) := ⟨h, hv, hk⟩
  obtain ⟨ka, kc, rfl, _, kcc, _⟩ := id hk
  obtain ⟨op, hop⟩ : ∃ op, d.op = op := ⟨_, rfl⟩
  obtain ⟨N, hN⟩ : ∃ N, d.kids.length = N := ⟨_, rfl⟩
  have HOp : Hid (d.op = op ∧ d.kids.length = N) := ⟨hop, hN⟩
  unfold Nq.val
  rw [hop, hN]
  rw [hN] at HCk
  obtain ⟨X, hX⟩ : ∃ X, fitB L G d = X := ⟨_, rfl⟩
  rw [hX]
  have HX : Hid (fitB L G d = X) := hX
  clear h hv hk hop hN hX
  by_cases h1 : op = 1
  · subst h1
    go_enter Tryz.func23, Tryz.ntmps23
    go_wp2_with fail
    go_ret
    refine ⟨?_, kp_alloc _ _⟩
    show Ending.returned (Value.bool _) = Ending.returned (Value.bool _)
    congr 2
    rw [← HX.out]
    unfold fitB leafB
    rw [HOp.out.1, HOp.out.2]
    apply Bool.eq_iff_iff.2
    simp
    try omega
  have d1 : ((op : Int) == 1) = false := by simp; omega
  by_cases h2 : op = 2
  · subst h2
    go_enter Tryz.func23, Tryz.ntmps23
    go_wp2_with fail
    go_ret
    refine ⟨?_, kp_alloc _ _⟩
    show Ending.returned (Value.bool _) = Ending.returned (Value.bool _)
    congr 2
    rw [← HX.out]
    unfold fitB leafB
    rw [HOp.out.1, HOp.out.2]
    apply Bool.eq_iff_iff.2
    simp
    try omega
  have d2 : ((op : Int) == 2) = false := by simp; omega
  by_cases h3 : op = 3
  · subst h3
    go_enter Tryz.func23, Tryz.ntmps23
    go_wp2_with fail
    go_ret
    refine ⟨?_, kp_alloc _ _⟩
    show Ending.returned (Value.bool _) = Ending.returned (Value.bool _)
    congr 2
    rw [← HX.out]
    unfold fitB leafB
    rw [HOp.out.1, HOp.out.2]
    apply Bool.eq_iff_iff.2
    simp
    try omega
  have d3 : ((op : Int) == 3) = false := by simp; omega
  by_cases h4 : op = 4
  · subst h4
    go_enter Tryz.func23, Tryz.ntmps23
    go_wp2_with fail
    go_ret
    refine ⟨?_, kp_alloc _ _⟩
    show Ending.returned (Value.bool _) = Ending.returned (Value.bool _)
    congr 2
    rw [← HX.out]
    unfold fitB leafB
    rw [HOp.out.1, HOp.out.2]
    apply Bool.eq_iff_iff.2
    simp
    try omega
  have d4 : ((op : Int) == 4) = false := by simp; omega
  by_cases h10 : op = 10
  · subst h10
    go_enter Tryz.func23, Tryz.ntmps23
    go_wp2_with fail
    go_ret
    refine ⟨?_, kp_alloc _ _⟩
    show Ending.returned (Value.bool _) = Ending.returned (Value.bool _)
    congr 2
    rw [← HX.out]
    unfold fitB leafB
    rw [HOp.out.1, HOp.out.2]
    apply Bool.eq_iff_iff.2
    simp
    try omega
  have d10 : ((op : Int) == 10) = false := by simp; omega
  by_cases h11 : op = 11
  · subst h11
    go_enter Tryz.func23, Tryz.ntmps23
    go_wp2_with fail
    go_ret
    refine ⟨?_, kp_alloc _ _⟩
    show Ending.returned (Value.bool _) = Ending.returned (Value.bool _)
    congr 2
    rw [← HX.out]
    unfold fitB leafB
    rw [HOp.out.1, HOp.out.2]
    apply Bool.eq_iff_iff.2
    simp
    try omega
  have d11 : ((op : Int) == 11) = false := by simp; omega
  by_cases h12 : op = 12
  · subst h12
    go_enter Tryz.func23, Tryz.ntmps23
    go_wp2_with fail
    go_ret
    refine ⟨?_, kp_alloc _ _⟩
    show Ending.returned (Value.bool _) = Ending.returned (Value.bool _)
    congr 2
    rw [← HX.out]
    unfold fitB leafB
    rw [HOp.out.1, HOp.out.2]
    apply Bool.eq_iff_iff.2
    simp
    try omega
  have d12 : ((op : Int) == 12) = false := by simp; omega
  by_cases h13 : op = 13
  · subst h13
    go_enter Tryz.func23, Tryz.ntmps23
    go_wp2_with fail
    go_ret
    refine ⟨?_, kp_alloc _ _⟩
    show Ending.returned (Value.bool _) = Ending.returned (Value.bool _)
    congr 2
    rw [← HX.out]
    unfold fitB leafB
    rw [HOp.out.1, HOp.out.2]
    apply Bool.eq_iff_iff.2
    simp
    try omega
  have d13 : ((op : Int) == 13) = false := by simp; omega
  by_cases h14 : op = 14
  · subst h14
    go_enter Tryz.func23, Tryz.ntmps23
    go_wp2_with fail
    go_ret
    refine ⟨?_, kp_alloc _ _⟩
    show Ending.returned (Value.bool _) = Ending.returned (Value.bool _)
    congr 2
    rw [← HX.out]
    unfold fitB leafB
    rw [HOp.out.1, HOp.out.2]
    apply Bool.eq_iff_iff.2
    simp
    try omega
  have d14 : ((op : Int) == 14) = false := by simp; omega
  by_cases h15 : op = 15
  · subst h15
    go_enter Tryz.func23, Tryz.ntmps23
    go_wp2_with fail
    go_ret
    refine ⟨?_, kp_alloc _ _⟩
    show Ending.returned (Value.bool _) = Ending.returned (Value.bool _)
    congr 2
    rw [← HX.out]
    unfold fitB leafB
    rw [HOp.out.1, HOp.out.2]
    apply Bool.eq_iff_iff.2
    simp
    try omega
  have d15 : ((op : Int) == 15) = false := by simp; omega
  by_cases h5 : op = 5
  · subst h5
    go_enter Tryz.func23, Tryz.ntmps23
    go_wp2_with fail
    go_ret
    refine ⟨?_, kp_alloc _ _⟩
    show Ending.returned (Value.bool _) = Ending.returned (Value.bool _)
    congr 2
    rw [← HX.out]
    unfold fitB leafB
    rw [HOp.out.1, HOp.out.2]
    apply Bool.eq_iff_iff.2
    simp
    try omega
  have d5 : ((op : Int) == 5) = false := by simp; omega
  by_cases h6 : op = 6
  · subst h6
    go_enter Tryz.func23, Tryz.ntmps23
    go_wp2_with fail
    go_ret
    refine ⟨?_, kp_alloc _ _⟩
    show Ending.returned (Value.bool _) = Ending.returned (Value.bool _)
    congr 2
    rw [← HX.out]
    unfold fitB leafB
    rw [HOp.out.1, HOp.out.2]
    apply Bool.eq_iff_iff.2
    simp
    try omega
  have d6 : ((op : Int) == 6) = false := by simp; omega
  by_cases h9 : op = 9
  · subst h9
    by_cases hN : N = 0
    · subst hN
      go_enter Tryz.func23, Tryz.ntmps23
      go_wp2_with fail
      refine Calls.mono (isGroup_any (HCk.out.1.kp (kp_alloc _ _)) d.n) ?_
      rintro e w1 ⟨rfl, rfl⟩
      go_wp2_with fail
      go_ret
      refine ⟨?_, kp_alloc _ _⟩
      show Ending.returned (Value.bool _) = Ending.returned (Value.bool _)
      congr 2
      rw [← HX.out]
      unfold fitB leafB
      rw [HOp.out.1, HOp.out.2]
      simp
    · have dN : ((N : Int) == 0) = false := by simp; omega
      go_enter Tryz.func23, Tryz.ntmps23
      go_wp2_with fail
      go_ret
      refine ⟨?_, kp_alloc _ _⟩
      show Ending.returned (Value.bool _) = Ending.returned (Value.bool _)
      congr 2
      rw [← HX.out]
      unfold fitB leafB
      rw [HOp.out.1, HOp.out.2]
      simp [hN]
  have d9 : ((op : Int) == 9) = false := by simp; omega
  by_cases h8 : op = 8
  · subst h8
    by_cases hN : N = 1
    · subst hN
      go_enter Tryz.func23, Tryz.ntmps23
      go_wp2_with fail
      refine Calls.mono (isGroup_any (HCk.out.1.kp (kp_alloc _ _)) d.n) ?_
      rintro e w1 ⟨rfl, rfl⟩
      go_wp2_with fail
      go_ret
      refine ⟨?_, kp_alloc _ _⟩
      show Ending.returned (Value.bool _) = Ending.returned (Value.bool _)
      congr 2
      rw [← HX.out]
      unfold fitB leafB
      rw [HOp.out.1, HOp.out.2]
      simp
    · have dN : ((N : Int) == 1) = false := by simp; omega
      go_enter Tryz.func23, Tryz.ntmps23
      go_wp2_with fail
      go_ret
      refine ⟨?_, kp_alloc _ _⟩
      show Ending.returned (Value.bool _) = Ending.returned (Value.bool _)
      congr 2
      rw [← HX.out]
      unfold fitB leafB
      rw [HOp.out.1, HOp.out.2]
      simp [hN]
  have d8 : ((op : Int) == 8) = false := by simp; omega
  by_cases h7 : op = 7
  · subst h7
    by_cases hN : N = 1
    · subst hN
      have HV : Hid (∀ x, Calls Tryz.prog 33 #[d.val (.slice ka 1 kc)] x fun e w' => e = .returned (.bool (timesB d)) ∧ Kp x w') := fun x => timesFit_any d _ x
      unfold Nq.val at HV
      rw [HOp.out.1] at HV
      obtain ⟨kb, ko, k0, rfl, hk0, hc0⟩ := HCk.out.2.2.get (i := 0) (by omega)
      have hkd : d.kids.headD 0 = k0 := by
        cases hd : d.kids with
        | nil => rw [hd] at hk0; simp at hk0
        | cons x r => rw [hd] at hk0; simpa using hk0
      have HKD : Hid (d.kids.headD 0 = k0) := hkd
      have HC0 : Hid (w.cell? ⟨kb, ko, none⟩ = some (.int .i64 k0)) := hc0
      clear hkd hk0 hc0
      cases hT : timesB d with
      | false =>
        go_enter Tryz.func23, Tryz.ntmps23
        go_wp2_with fail
        refine Calls.mono (HV.out _) ?_
        rintro e w1 ⟨rfl, q⟩
        rw [hT]
        have HK : Hid (Kp w w1) := kp_trans (kp_alloc _ _) q
        clear q
        go_wp2_with fail
        go_ret
        refine ⟨?_, HK.out⟩
        show Ending.returned (Value.bool _) = Ending.returned (Value.bool _)
        congr 2
        rw [← HX.out]
        unfold fitB leafB
        rw [HOp.out.1, HOp.out.2]
        simp [hT]
      | true =>
        go_enter Tryz.func23, Tryz.ntmps23
        go_wp2_with fail
        refine Calls.mono (HV.out _) ?_
        rintro e w1 ⟨rfl, q⟩
        rw [hT]
        have HK : Hid (Kp w w1) := kp_trans (kp_alloc _ _) q
        have c10 : w1.cell? ⟨w.heap.size, 10, none⟩ = some (.slice (some ⟨kb, ko, none⟩) 1 kc) := by
          refine kp_cell q ?_
          rw [cell_at (alloc_new w _)]; rfl
        have ck : w1.cell? ⟨kb, ko, none⟩ = some (.int .i64 k0) := kp_cell HK.out HC0.out
        clear q
        go_wp2_with fail
        refine Calls.mono (mayRepeat_any (HCk.out.1.kp HK.out) (HCk.out.2.1.kp HK.out) k0) ?_
        rintro e w2 ⟨rfl, q⟩
        have HK2 : Hid (Kp w w2) := kp_trans HK.out q
        clear q
        go_wp2_with fail
        go_ret
        refine ⟨?_, HK2.out⟩
        show Ending.returned (Value.bool _) = Ending.returned (Value.bool _)
        congr 2
        rw [← HX.out]
        unfold fitB leafB
        rw [HOp.out.1, HOp.out.2]
        simp only [hT, HKD.out]
        simp
    · have dN : ((N : Int) == 1) = false := by simp; omega
      go_enter Tryz.func23, Tryz.ntmps23
      go_wp2_with fail
      go_ret
      refine ⟨?_, kp_alloc _ _⟩
      show Ending.returned (Value.bool _) = Ending.returned (Value.bool _)
      congr 2
      rw [← HX.out]
      unfold fitB leafB
      rw [HOp.out.1, HOp.out.2]
      simp [hN]
  have d7 : ((op : Int) == 7) = false := by simp; omega
  go_enter Tryz.func23, Tryz.ntmps23
  go_wp2_with fail
  go_ret
  refine ⟨?_, kp_alloc _ _⟩
  show Ending.returned (Value.bool _) = Ending.returned (Value.bool _)
  congr 2
  rw [← HX.out]
  unfold fitB leafB
  rw [HOp.out.1, HOp.out.2]
  simp [h1, h2, h3, h4, h5, h6, h7, h8, h9, h10, h11, h12, h13, h14, h15]
end
end Go.Proofs.YtpahpnajeliodaaGreatDoor
/- The checker's list of nodes to ask for, and which were asked for. -/
namespace Go.Proofs.YtpahpnajeliodaaGreatDoor
open Go.ChangeShapes Go.WideShapes Go.ChangeAt Go.RowKit
set_option linter.unusedVariables false
set_option linter.unusedSimpArgs false
def ints (l : List Int) : List Value := l.map fun n => Value.int .i64 n
def bools (l : List Bool) : List Value := l.map Value.bool
/-- A list of numbers that is the call's own. -/
def Nx (B : Nat) (v : Value) (l : List Int) (w : World) : Prop := w.ownsRow B 3 1 v l.length (ints l)
/-- Which nodes were asked for. -/
def As (ab : Nat) (l : List Bool) (w : World) : Prop := w.heap[ab]? = some (.cells (bools l).toArray 4 (0, 0))
def unasked (v : Value) : Bool := match v with | .bool b => !b | _ => false
def left (ab : Nat) (w : World) : Nat := match w.heap[ab]? with | some (.cells a _ _) => a.toList.countP unasked | _ => 0
/-- An append whose run is known. -/
theorem wpList_append_run {P : Program} {w w' : World} {v : Value} {ops : Array Oper} {rest : List Oper} {o : Oper} {a : Act} {Q : Exit → Act → World → Prop} (hgd : o.guard = none) (s x : Operand) (t : TypeId)
    (ho : o.op = .call { callee := .builtin .append, args := #[s, x], argTypes := #[t, t] }) (vs vx : Value) (hs : a.eval s = vs) (hx : a.eval x = vx)
    (hr : (Builtin.append_ #[t, t] o.type #[vs, vx]).run P w = .ok v w') (h : wpList P ops Q rest (a.put o.dst v) w') : wpList P ops Q (o :: rest) a w :=
  wpList_plain hgd fun _ hK => by
    unfold Oper.wp execOp
    simp only [ho, resolve, invoke, builtin, Sem.run_bind, Sem.run_pure, Result.andThen_ok, List.map_toArray, List.map_cons, List.map_nil, hs, hx, hr]
    exact hK _ _ h
section
variable {B g n cap ab : Nat} {v : Value} {l : List Int} {m : List Bool} {a : Int} {w w1 : World}
theorem As.left (h : As ab m w) : left ab w = m.count false := by
  unfold As at h
  unfold Go.Proofs.YtpahpnajeliodaaGreatDoor.left
  rw [h]
  simp only [bools, List.countP_map, List.count]
  congr 1
  funext b
  cases b <;> rfl
theorem As.lt (h : As ab m w) : ab < w.heap.size := (Array.getElem?_eq_some_iff.1 h).1
theorem As.cell (h : As ab m w) (i : Nat) : w.cell? ⟨ab, i, none⟩ = (m[i]?).map Value.bool := by
  unfold As at h
  rw [cell_at h]; simp [bools]
theorem As.fz (h : As ab m w) (i : Nat) : w.frozen? ⟨ab, i, none⟩ = false := by unfold As at h; simp [World.frozen?, h]
theorem As.set (h : As ab m w) (i : Nat) : As ab (m.set i true) (w.setCell ⟨ab, i, none⟩ (.bool true)) := by
  unfold As at h ⊢
  rw [heap_setCell h]; simp [bools, List.map_set]
theorem As.heap (h : As ab m w) (e : w1.heap[ab]? = w.heap[ab]?) : As ab m w1 := by unfold As at *; rw [e]; exact h
theorem Nx.heap (h : Nx B v l w) (e : ∀ k, v.ownBlock = some k → w1.heap[k]? = w.heap[k]?) : Nx B v l w1 := by
  refine ⟨h.1, ?_⟩
  rcases h.2 with q | ⟨b, c, cur, rfl, hb, hg, rest⟩
  · exact .inl q
  · exact .inr ⟨b, c, cur, rfl, hb, by rw [e b rfl]; exact hg, rest⟩
/-- The last one, and the list without it. -/
theorem Nx.pop (h : Nx B v (l ++ [a]) w) : ∃ g cap, v = .slice (some ⟨g, 0, none⟩) (l.length + 1) cap ∧ l.length + 1 ≤ cap ∧ cap ≤ maxLen ∧ B ≤ g ∧ g < w.heap.size ∧ w.cell? ⟨g, l.length, none⟩ = some (.int .i64 a) ∧ Nx B (.slice (some ⟨g, 0, none⟩) l.length cap) l w := by
  have hl : (l ++ [a]).length = l.length + 1 := by simp
  rcases h.2 with ⟨_, q⟩ | ⟨g, c, cur, e, hb, hg, h1, h2, h3, h4⟩
  · rw [hl] at q; omega
  · rw [hl] at e h1 h4
    refine ⟨g, c, e, h1, h2, hb, (Array.getElem?_eq_some_iff.1 hg).1, ?_, by simp [ints], .inr ⟨g, c, cur, rfl, hb, hg, by omega, h2, h3, ?_⟩⟩
    · rw [cell_at hg, ← Array.getElem?_toList]
      have : (ints (l ++ [a]))[l.length]? = some (.int .i64 a) := by simp [ints]
      rw [← h4, List.getElem?_take] at this
      split at this
      · exact this
      · cases this
    · rw [Nat.mul_one] at h4 ⊢
      have : (cur.toList.take (l.length + 1)).take l.length = (ints (l ++ [a])).take l.length := by rw [h4]
      rw [List.take_take, Nat.min_eq_left (by omega)] at this
      rw [this]; simp [ints]
set_option maxRecDepth 100000 in
/-- Numbers that can be read, put behind the list. -/
theorem Nx.app {ka : Option Addr} {k kc : Nat} {ks : List Int} (h : Nx B (.slice (some ⟨g, 0, none⟩) n cap) l w) (hn : l.length = n) (hc : n ≤ cap) (hk : Ks w (.slice ka k kc) ks) (hB : B ≤ w.heap.size) (hM : n + k ≤ 16000000) (ty : TypeId) :
    ∃ g' cap' w', (Builtin.append_ #[71, 71] ty #[.slice (some ⟨g, 0, none⟩) n cap, .slice ka k kc]).run Tryz.prog w = .ok (.slice (some ⟨g', 0, none⟩) (n + k) cap') w' ∧ Nx B (.slice (some ⟨g', 0, none⟩) (n + k) cap') (l ++ ks) w' ∧ w.grownBy w' (some g) ∧ (g' = g ∨ g' = w.heap.size) := by
  subst hn
  obtain ⟨i9, hi9, z0, z1, z2⟩ := info_parts infoInt
  obtain ⟨ka', kc', e, h1, h2, hr⟩ := hk
  injection e with e1 e2 e3
  subst e1 e3
  by_cases h0 : k = 0
  · subst h0
    have : ks = [] := List.eq_nil_of_length_eq_zero e2.symm
    subst this
    have hsrc : Src Tryz.prog i9.size 71 (.slice ka 0 kc) 0 [] w := by
      cases ka with
      | none => exact Src.ofNil w Tryz.underlying71 kc
      | some ad => exact Src.ofSlice w Tryz.underlying71 ad 0 kc [] (by simp) (fun j u hu => by simp at hu) (fun u hu => by cases hu)
    refine ⟨g, cap, w, ?_, by simpa using h, ⟨rfl, rfl, rfl, Nat.le_refl _, fun _ _ _ => rfl⟩, .inl rfl⟩
    have := run_append_room_src w 71 71 ty 3 i9 Tryz.underlying71 hi9 g 0 l.length cap (.slice ka 0 kc) 0 [] hsrc (by omega) (fun j hj => by simp at hj) (fun j hj => by simp at hj)
    rw [this]; simp [World.setCells]
  · obtain ⟨b, o, ea, _⟩ := hr 0 (ks[0]'(by omega)) (List.getElem?_eq_getElem (by omega))
    subst ea
    obtain ⟨g', cap', w', q1, q2, q3, q4, _⟩ := run_append_lies (P := Tryz.prog) w 71 ty B 3 i9 _ 1 8 Tryz.underlying71 hi9 z0 z1 z2 rfl (by decide) _ l.length (ints l) h ⟨b, o, none⟩ k kc (ints ks) (by simp [ints, e2]) (fun j u hu => by
      simp only [ints, List.getElem?_map, Option.map_eq_some_iff] at hu
      obtain ⟨x, hx, rfl⟩ := hu
      obtain ⟨b', o', e', q⟩ := hr j x hx
      injection e' with e'
      injection e' with e1 e2 _
      subst e1 e2
      rw [Addr.add_lit]; exact q) (fun u hu => by
      simp only [ints, List.mem_map] at hu
      obtain ⟨x, _, rfl⟩ := hu
      rfl) (by omega) (by unfold maxLen; omega) (by omega) hB w.heap.size rfl
    refine ⟨g', cap', w', q1, ?_, q3, ?_⟩
    · unfold Nx
      rw [show (l ++ ks).length = l.length + k by simp [e2], show ints (l ++ ks) = ints l ++ ints ks by simp [ints]]
      exact q2
    · rcases q4 with q | q
      · left; simpa [Value.ownBlock] using q.symm
      · exact .inr q
end
end Go.Proofs.YtpahpnajeliodaaGreatDoor
/- The checker's tree. -/
namespace Go.Proofs.YtpahpnajeliodaaGreatDoor
open Go.ChangeShapes Go.WideShapes Go.ChangeAt Go.RowKit
set_option linter.unusedVariables false
set_option linter.unusedSimpArgs false
/-- The checker at work. -/
structure Cw (w0 : World) (cb ab : Nat) (v : Value) (root G : Int) (cs : Nat) (L : List Nq) (ac : Nat) (v3 : Value) (next : List Int) (asked : List Bool) (w : World) : Prop where
  kp : Kp w0 w
  ck : Ck cb v root G cs (.slice (some ⟨ab, 0, none⟩) L.length ac) w
  asd : As ab asked w
  len : asked.length = L.length
  nx : Nx w0.heap.size v3 next w
  far : w0.heap.size ≤ cb ∧ w0.heap.size ≤ ab ∧ ab ≠ cb ∧ v3.ownBlock ≠ some cb ∧ v3.ownBlock ≠ some ab
section
variable {w0 w w1 : World} {cb ab : Nat} {v v3 : Value} {root G : Int} {cs : Nat} {L : List Nq} {ac : Nat} {next : List Int} {asked : List Bool}
theorem Cw.kp' (h : Cw w0 cb ab v root G cs L ac v3 next asked w) (k : Kp w w1) : Cw w0 cb ab v root G cs L ac v3 next asked w1 :=
  ⟨kp_trans h.kp k, h.ck.kp k, h.asd.heap (k.block _ h.asd.lt), h.len, h.nx.heap fun j hj => k.block j (h.nx.lt j hj).2, h.far⟩
theorem Cw.ask (h : Cw w0 cb ab v root G cs L ac v3 next asked w) (i : Nat) : Cw w0 cb ab v root G cs L ac v3 next (asked.set i true) (w.setCell ⟨ab, i, none⟩ (.bool true)) := by
  have f := fr_set ab i (.bool true) w
  refine ⟨kp_new h.kp f h.far.2.1, ?_, h.asd.set i, by simp [h.len], h.nx.heap fun j hj => ?_, h.far⟩
  · have := h.ck
    have l := h.ck.lt
    unfold Ck at *
    rw [f.block _ l (fun q => h.far.2.2.1 (by unfold On at q; omega))]; exact this
  · exact f.block j (h.nx.lt j hj).2 fun q => h.far.2.2.2.2 (by unfold On at q; rw [← q]; exact hj)
set_option maxHeartbeats 4000000 in
set_option maxRecDepth 100000 in
theorem tree_any {K : Nat} (hck : Ck cb v root G cs (.slice (some ⟨ab, 0, none⟩) L.length ac) w) (hv : Pt w0 v L) (hk : Kp w0 w) (ha : As ab (List.replicate L.length false) w) (hf : w0.heap.size ≤ cb ∧ w0.heap.size ≤ ab ∧ ab ≠ cb) (hac : L.length ≤ ac ∧ ac ≤ maxLen)
    (hK : ∀ d ∈ L, d.kids.length ≤ K) (hM : K * L.length ≤ 10000000) :
    Calls Tryz.prog 14 #[.pointer (some ⟨cb, 0, none⟩)] w fun e w' => e = .returned (.bool (treeF L G (L.length + 1) [root] (List.replicate L.length false))) ∧ Kp w0 w' := by
  obtain ⟨ck0, ck1, ck2, ck4⟩ := hck.cells
  obtain ⟨va, vc, rfl, _, vcc, _⟩ := id hv
  obtain ⟨X, hX⟩ : ∃ X, treeF L G (L.length + 1) [root] (List.replicate L.length false) = X := ⟨_, rfl⟩
  rw [hX]
  have HP : Hid (Pt w0 (.slice va L.length vc) L ∧ (∀ d ∈ L, d.kids.length ≤ K) ∧ K * L.length ≤ 10000000 ∧ treeF L G (L.length + 1) [root] (List.replicate L.length false) = X) := ⟨hv, hK, hM, hX⟩
  have HC : Hid (Cw w0 cb ab (.slice va L.length vc) root G cs L ac (.slice (some ⟨w.heap.size, 0, none⟩) 1 1) [root] (List.replicate L.length false) (w.alloc (.cells #[.int .i64 root] 3))) := by
    refine ⟨kp_trans hk (kp_alloc _ _), hck.kp (kp_alloc _ _), ha.heap (alloc_old _ _ _ ha.lt), by simp, ⟨rfl, .inr ⟨_, 1, _, rfl, hk.size, alloc_new w _, by simp, by simp [maxLen], rfl, rfl⟩⟩, hf.1, hf.2.1, hf.2.2, ?_, ?_⟩
    · have := hck.lt
      simp only [Value.ownBlock, ne_eq, Option.some.injEq]; omega
    · have := ha.lt
      simp only [Value.ownBlock, ne_eq, Option.some.injEq]; omega
  clear hX hv hK hM hck hk ha hf ck0 ck2 ck4
  unfold maxLen at vcc hac
  go_enter Tryz.func14, Tryz.ntmps14
  go_wp2_with fail
  go_loopw [3] (fun v3 wr => ∃ (f : Nat) (next : List Int) (asked : List Bool), asked.count false < f ∧ next.length + K * asked.count false ≤ 10000001 ∧ treeF L G f next asked = X ∧ Cw w0 cb ab (.slice va L.length vc) root G cs L ac v3 next asked wr) (fun _ wr => left ab wr)
  case atStart =>
    refine ⟨_, _, _, ?_, ?_, HP.out.2.2.2, HC.out⟩
    · simp
    · simpa [Nat.add_comm] using HP.out.2.2.1
  case round =>
    obtain ⟨f, next, asked, hf, hN, hT, hC⟩ := hrel
    obtain ⟨f, rfl⟩ : ∃ f', f = f' + 1 := ⟨f - 1, by omega⟩
    rcases List.eq_nil_or_concat next with rfl | ⟨nx, a, rfl⟩
    · have hX : X = true := by rw [← hT]; simp [treeF]
      subst hX
      obtain ⟨sa, sc, rfl, _, _⟩ := owns_form hC.nx
      have HC2 : Hid _ := hC
      clear hC hT hN
      simp only [List.length_nil]
      go_wp2_with fail
      go_ret
      exact ⟨rfl, HC2.out.kp⟩
    · rw [List.concat_eq_append] at hN hT hC
      have hT' : (if hasB L a && !(asked.getD a.toNat false) && fitB L G (nodeAt L a) then treeF L G f (nx ++ (nodeAt L a).kids) (asked.set a.toNat true) else false) = X := by
        rw [← hT]; simp [treeF]
      obtain ⟨g, cap, rfl, c1, c2, c3, c4, hca, hpop⟩ := hC.nx.pop
      obtain ⟨n, hn⟩ : ∃ n, nx.length = n := ⟨_, rfl⟩
      have hC1 : Cw w0 cb ab (.slice va L.length vc) root G cs L ac (.slice (some ⟨g, 0, none⟩) n cap) nx asked wr := by
        rw [← hn]
        exact ⟨hC.kp, hC.ck, hC.asd, hC.len, hpop, hC.far⟩
      rw [hn] at hca c1 ⊢
      have HC1 : Hid _ := hC1
      have HN : Hid (nx.length = n ∧ n + 1 + K * asked.count false ≤ 10000001) := ⟨hn, by
        have : (nx ++ [a]).length = n + 1 := by simp [hn]
        rw [this] at hN; exact hN⟩
      have HT : Hid _ := hT'
      unfold maxLen at c2
      clear hC hT hN hT' hpop hC1 hn
      go_wp2_with fail
      refine Calls.mono (has_any HC1.out.ck (HP.out.1.kp HC1.out.kp) a) ?_
      rintro e w' ⟨rfl, rfl⟩
      cases hh : hasB L a with
      | false =>
        have hX : X = false := by rw [← HT.out]; simp [hh]
        subst hX
        go_wp2_with fail
        go_ret
        exact ⟨rfl, HC1.out.kp⟩
      | true =>
        obtain ⟨k, nb, no, kv, rfl, hk, rfl, hcs, hks⟩ := HP.out.1.node hh
        obtain ⟨b, hb⟩ : ∃ b, asked[k]? = some b := ⟨_, List.getElem?_eq_getElem (by rw [HC1.out.len]; exact hk)⟩
        have cA : w'.cell? ⟨ab, k, none⟩ = some (.bool b) := by rw [HC1.out.asd.cell, hb]; rfl
        have fA := HC1.out.asd.fz k
        obtain ⟨ck0, ck1', ck2, ck4⟩ := HC1.out.ck.cells
        have HH : Hid (hasB L (k : Int) = true ∧ asked[k]? = some b ∧ k < L.length) := ⟨hh, hb, hk⟩
        clear hh hb
        cases b with
        | true =>
          have hX : X = false := by rw [← HT.out]; simp [HH.out.2.1]
          subst hX
          clear hcs hks
          go_wp2_with fail
          go_ret
          exact ⟨rfl, HC1.out.kp⟩
        | false =>
          obtain ⟨d, hd⟩ : ∃ d, nodeAt L k = d := ⟨_, rfl⟩
          have HD : Hid (nodeAt L k = d ∧ d ∈ L) := ⟨hd, by
            rw [← hd]; unfold nodeAt
            rw [Int.toNat_natCast, List.getElem?_eq_getElem hk]
            exact List.getElem_mem hk⟩
          rw [hd] at hcs hks
          obtain ⟨ka, kc, rfl, _, kcc, _⟩ := id hks
          obtain ⟨m, hm⟩ : ∃ m, d.kids.length = m := ⟨_, rfl⟩
          have Hm : Hid (d.kids.length = m) := hm
          rw [hm] at hcs hks
          have HKs : Hid (Ks w0 (.slice ka m kc) d.kids ∧ ∀ j u, (d.cells (.slice ka m kc))[j]? = some u → w0.cell? ⟨nb, no + k * 11 + j, none⟩ = some u) := ⟨hks, hcs⟩
          have c0 : w'.cell? ⟨nb, no + k * 11, none⟩ = some (.int .u8 d.op) := kp_cell HC1.out.kp (hcs 0 _ rfl)
          have c1 := kp_cell HC1.out.kp (hcs 1 _ rfl)
          have c2 := kp_cell HC1.out.kp (hcs 2 _ rfl)
          have c3 := kp_cell HC1.out.kp (hcs 3 _ rfl)
          have c4 := kp_cell HC1.out.kp (hcs 4 _ rfl)
          have c5 := kp_cell HC1.out.kp (hcs 5 _ rfl)
          have c6 := kp_cell HC1.out.kp (hcs 6 _ rfl)
          have c7 := kp_cell HC1.out.kp (hcs 7 _ rfl)
          have c8 := kp_cell HC1.out.kp (hcs 8 _ rfl)
          have c9 := kp_cell HC1.out.kp (hcs 9 _ rfl)
          have c10 := kp_cell HC1.out.kp (hcs 10 _ rfl)
          clear hcs hks hd hm
          go_wp2_with fail
          refine Calls.mono (fits_any HC1.out.ck (HP.out.1.kp HC1.out.kp) d (HKs.out.1.kp HC1.out.kp)) ?_
          rintro e w2 ⟨rfl, q⟩
          have HC2 : Hid _ := HC1.out.kp' q
          have cA := kp_cell q cA
          clear q c0 c1 c2 c3 c4 c5 c6 c7 c8 c9 c10 ck0 ck1' ck2 ck4 fA
          cases hF : fitB L G d with
          | false =>
            have hX : X = false := by rw [← HT.out, HD.out.1]; simp [hF]
            subst hX
            go_wp2_with fail
            go_ret
            exact ⟨rfl, HC2.out.kp⟩
          | true =>
            have hT2 : treeF L G f (nx ++ d.kids) (asked.set k true) = X := by
              rw [← HT.out, HD.out.1]; simp [hF, HH.out.1, HH.out.2.1]
            have HT2 : Hid _ := hT2
            clear hT2
            obtain ⟨W, hW⟩ : ∃ W, w2.setCell ⟨ab, k, none⟩ (.bool true) = W := ⟨_, rfl⟩
            have HC3 : Hid (Cw w0 cb ab (.slice (some ⟨nb, no, none⟩) L.length vc) root G cs L ac (.slice (some ⟨g, 0, none⟩) n cap) nx (asked.set k true) W) := by rw [← hW]; exact HC2.out.ask k
            have fA := HC2.out.asd.fz k
            obtain ⟨ck0, ck1', ck2, ck4⟩ := HC2.out.ck.cells
            have hct := count_set HH.out.2.1
            have hM : n + m ≤ 16000000 := by
              have h1 := HP.out.2.1 d HD.out.2
              have h2 := HN.out.2
              have h3 := Hm.out
              have h4 : 1 ≤ asked.count false := by omega
              have h5 : K * 1 ≤ K * asked.count false := Nat.mul_le_mul_left K h4
              omega
            obtain ⟨g', cap', w4, hr, hn4, hg4, hat⟩ := HC3.out.nx.app HN.out.1 (by omega) (HKs.out.1.kp HC3.out.kp) HC3.out.kp.size hM 71
            have HC4 : Hid (Cw w0 cb ab (.slice (some ⟨nb, no, none⟩) L.length vc) root G cs L ac (.slice (some ⟨g', 0, none⟩) (n + m) cap') (nx ++ d.kids) (asked.set k true) w4) := by
              have hf := HC3.out.far
              have e1 : some cb ≠ some g := fun z => hf.2.2.2.1 (by simp only [Value.ownBlock]; exact z.symm)
              have e2 : some ab ≠ some g := fun z => hf.2.2.2.2 (by simp only [Value.ownBlock]; exact z.symm)
              have l1 := HC3.out.ck.lt
              have l2 := HC3.out.asd.lt
              have l3 := (HC3.out.nx.lt g rfl).1
              refine ⟨?_, ?_, HC3.out.asd.heap (hg4.block _ l2 e2), HC3.out.len, hn4, hf.1, hf.2.1, hf.2.2.1, ?_, ?_⟩
              · have k3 := HC3.out.kp
                refine ⟨hg4.os.trans k3.os, hg4.tape.trans k3.tape, hg4.output.trans k3.output, Nat.le_trans k3.size hg4.size, fun j hj => ?_⟩
                rw [hg4.block j (Nat.lt_of_lt_of_le hj k3.size) (by simp only [ne_eq, Option.some.injEq]; omega)]; exact k3.block j hj
              · have := HC3.out.ck
                unfold Ck at *; rw [hg4.block _ l1 e1]; exact this
              · simp only [Value.ownBlock, ne_eq, Option.some.injEq]
                intro z; rcases hat with q | q
                · exact e1 (by rw [← q, z])
                · omega
              · simp only [Value.ownBlock, ne_eq, Option.some.injEq]
                intro z; rcases hat with q | q
                · exact e2 (by rw [← q, z])
                · omega
            have k10 : W.cell? ⟨nb, no + k * 11 + 10, none⟩ = some (.slice ka m kc) := kp_cell HC3.out.kp (HKs.out.2 10 _ rfl)
            obtain ⟨cw0, _, _, _⟩ := HC3.out.ck.cells
            have HCT : Hid ((asked.set k true).count false + 1 = asked.count false) := hct
            clear hct hn4 hg4 hat
            go_upto_region 8 with fail
            clear hW cA fA ck0 ck1' ck2 ck4
            have HRun : Hid _ := hr
            clear hr
            go_wp2_with (at_builtin; refine wpList_append_run rfl (.tmp 57) (.tmp 66) 71 rfl _ _ rfl rfl HRun.out ?_)
            go_wp2_with fail
            go_roundw
            case rel => exact ⟨f, _, _, by have := HCT.out; omega, by
              have h1 := HP.out.2.1 d HD.out.2
              have h2 := HN.out.2
              have h3 := Hm.out
              have h4 := HCT.out
              rw [List.length_append, HN.out.1, h3]
              rw [← h4, Nat.mul_add, Nat.mul_one] at h2
              omega, HT2.out, HC4.out⟩
            case measure =>
              rw [HC4.out.asd.left, HC1.out.asd.left]
              have := HCT.out
              omega
end
end Go.Proofs.YtpahpnajeliodaaGreatDoor
/- Sound. -/
namespace Go.Proofs.YtpahpnajeliodaaGreatDoor
open Go.ChangeShapes Go.WideShapes Go.ChangeAt Go.RowKit
set_option linter.unusedVariables false
set_option linter.unusedSimpArgs false
section
variable {w w1 : World} {v : Value} {L : List Nq}
def PBox (n : Nat) (v : Value) (i g : Int) (c : Nat) (w : World) : Prop := w.heap[n]? = some (.cells #[v, .int .i64 i, .int .i64 g, .int .u8 c] 26 (0, 0))
theorem PBox.cells {n : Nat} {v : Value} {i g : Int} {c : Nat} {w : World} (h : PBox n v i g c w) : w.cell? ⟨n, 0, none⟩ = some v ∧ w.cell? ⟨n, 1, none⟩ = some (.int .i64 i) ∧ w.cell? ⟨n, 2, none⟩ = some (.int .i64 g) ∧ w.cell? ⟨n, 3, none⟩ = some (.int .u8 c) := by
  unfold PBox at h
  refine ⟨?_, ?_, ?_, ?_⟩ <;> simp [World.cell?, h]
theorem PBox.kp {n : Nat} {v : Value} {i g : Int} {c : Nat} {w w1 : World} (h : PBox n v i g c w) (k : Kp w w1) : PBox n v i g c w1 := by
  have l := (Array.getElem?_eq_some_iff.1 h).1
  unfold PBox at *; rw [k.block _ l]; exact h
theorem infoBool : (Tryz.prog.info? 4).map (fun i => (i.zero, i.size, i.bytes)) = some (some (.bool false), 1, 1) := by kernel_rfl
set_option maxRecDepth 100000 in
theorem make_bools (n : Nat) (hn : n ≤ 10000000) (w : World) : (Instr.makeSlice 54 (.int .i64 n) (.int .i64 n)).run Tryz.prog w = .ok (.slice (some ⟨w.heap.size, 0, none⟩) n n) (w.alloc (.cells (bools (List.replicate n false)).toArray 4)) := by
  obtain ⟨i9, hi9, z0, z1, z2⟩ := info_parts infoBool
  have := run_makeSlice (P := Tryz.prog) w 54 4 i9 _ Tryz.underlying54 hi9 z0 .i64 .i64 n n (by omega) (by omega) (by rw [z1, Int.toNat_natCast]; omega) (by rw [z2]; omega) (by omega)
  rw [this, Int.toNat_natCast, z1]
  congr 3
  simp only [madeCells, bools, List.map_replicate]
  apply Array.ext
  · simp
  · intro k h1 h2
    simp [Value.cells, Nat.mod_one]
def obP (v : Value) (root G : Int) (cs : Nat) : Obj := .cells #[v, .int .i64 root, .int .i64 G, .int .u8 cs] 26
def obA (n : Nat) : Obj := .cells (bools (List.replicate n false)).toArray 4
def obC : Obj := .cells #[.slice none 0 0, .int .i64 0, .int .i64 0, .int .u8 0, .slice none 0 0] 56
def obK (v : Value) (root G : Int) (cs : Nat) (a : Value) : Obj := .cells #[v, .int .i64 root, .int .i64 G, .int .u8 cs, a] 56
theorem alloc3 (w : World) (x y z : Obj) : Kp w (((w.alloc x).alloc y).alloc z).drew ∧ (((w.alloc x).alloc y).alloc z).drew.heap[w.heap.size]? = some x ∧ (((w.alloc x).alloc y).alloc z).drew.heap[w.heap.size + 1]? = some y ∧ (((w.alloc x).alloc y).alloc z).drew.heap[w.heap.size + 1 + 1]? = some z := by
  refine ⟨kp_trans (kp_trans (kp_trans (kp_alloc _ _) (kp_alloc _ _)) (kp_alloc _ _)) (kp_drew _), ?_, ?_, ?_⟩
  · show (((w.alloc x).alloc y).alloc z).heap[w.heap.size]? = some x
    rw [alloc_old _ _ _ (by simp only [alloc_size]; omega), alloc_old _ _ _ (by simp only [alloc_size]; omega)]
    exact alloc_new w _
  · show (((w.alloc x).alloc y).alloc z).heap[w.heap.size + 1]? = some y
    rw [alloc_old _ _ _ (by simp only [alloc_size]; omega)]
    have := alloc_new (w.alloc x) y
    rw [alloc_size] at this
    exact this
  · show (((w.alloc x).alloc y).alloc z).heap[w.heap.size + 1 + 1]? = some z
    have := alloc_new ((w.alloc x).alloc y) z
    rw [alloc_size, alloc_size] at this
    exact this
set_option maxHeartbeats 4000000 in
set_option maxRecDepth 100000 in
theorem sound_any {K : Nat} (hv : Pt w v L) (root G : Int) (cs : Nat) (hK : ∀ d ∈ L, d.kids.length ≤ K) (hM : K * L.length ≤ 10000000) (hL : L.length ≤ 10000000) :
    Calls Tryz.prog 9 #[.agg #[v, .int .i64 root, .int .i64 G, .int .u8 cs]] w fun e w' => e = .returned (.bool (soundF L root G)) ∧ Kp w w' := by
  obtain ⟨va, vc, rfl, _, vcc, _⟩ := id hv
  have hMk := make_bools L.length hL
  have HV : Hid (Pt w (.slice va L.length vc) L ∧ (∀ d ∈ L, d.kids.length ≤ K) ∧ K * L.length ≤ 10000000) := ⟨hv, hK, hM⟩
  have HB : Hid (PBox w.heap.size (.slice va L.length vc) root G cs (w.alloc (.cells #[.slice va L.length vc, .int .i64 root, .int .i64 G, .int .u8 cs] 26)).drew) := alloc_new w _
  have HB1 : Hid (PBox w.heap.size (.slice va L.length vc) root G cs ((w.alloc (obP (.slice va L.length vc) root G cs)).alloc (obA L.length)).drew) := (show PBox _ _ _ _ _ (w.alloc _) from alloc_new w _).kp (kp_trans (kp_alloc _ _) (kp_drew _))
  have HB2 : Hid (PBox w.heap.size (.slice va L.length vc) root G cs (((w.alloc (obP (.slice va L.length vc) root G cs)).alloc (obA L.length)).alloc obC).drew) := (show PBox _ _ _ _ _ (w.alloc _) from alloc_new w _).kp (kp_trans (kp_trans (kp_alloc _ _) (kp_alloc _ _)) (kp_drew _))
  have HB3 : Hid (PBox w.heap.size (.slice va L.length vc) root G cs ((w.alloc (obP (.slice va L.length vc) root G cs)).alloc obC).drew) := (show PBox _ _ _ _ _ (w.alloc _) from alloc_new w _).kp (kp_trans (kp_alloc _ _) (kp_drew _))
  have HB4 : Hid (PBox w.heap.size (.slice va L.length vc) root G cs (((w.alloc (obP (.slice va L.length vc) root G cs)).alloc obC).alloc (obA L.length)).drew) := (show PBox _ _ _ _ _ (w.alloc _) from alloc_new w _).kp (kp_trans (kp_trans (kp_alloc _ _) (kp_alloc _ _)) (kp_drew _))
  have rl0 : ∀ w', PBox w.heap.size (.slice va L.length vc) root G cs w' → w'.cell? ⟨w.heap.size, 0, none⟩ = some (.slice va L.length vc) := fun _ h => h.cells.1
  have rl1 : ∀ w', PBox w.heap.size (.slice va L.length vc) root G cs w' → w'.cell? ⟨w.heap.size, 1, none⟩ = some (.int .i64 root) := fun _ h => h.cells.2.1
  have rl2 : ∀ w', PBox w.heap.size (.slice va L.length vc) root G cs w' → w'.cell? ⟨w.heap.size, 2, none⟩ = some (.int .i64 G) := fun _ h => h.cells.2.2.1
  have rl3 : ∀ w', PBox w.heap.size (.slice va L.length vc) root G cs w' → w'.cell? ⟨w.heap.size, 3, none⟩ = some (.int .u8 cs) := fun _ h => h.cells.2.2.2
  obtain ⟨X, hX⟩ : ∃ X, soundF L root G = X := ⟨_, rfl⟩
  rw [hX]
  have HX : Hid (soundF L root G = X) := hX
  clear hv hK hM hX
  go_enter Tryz.func9, Tryz.ntmps9
  go_wp2_with fail
  refine wp_region_noPanic ?_
  refine wp_region_held_drew (S := PBox w.heap.size (.slice va L.length vc) root G cs) (by kernel_rfl) (HB.out) (fun hHeld => ?_)
  refine takeAt 0 (some 4) ?_ rfl rfl (by kernel_rfl) (by kernel_rfl) (by kernel_rfl) (fun _ _ _ h => h) (Or.inl ⟨by rfl, ?_⟩) hHeld ?_
  rotate_left
  · intro w hSw
    go_simp <;> with_reducible rfl
  try simp only [Act.put, List.setIfInBounds_toArray, List.set_cons_zero, List.set_cons_succ]
  refine takeAt 1 (some 5) ?_ rfl rfl (by kernel_rfl) (by kernel_rfl) (by kernel_rfl) (fun _ _ _ h => h) (Or.inl ⟨by rfl, ?_⟩) hHeld ?_
  rotate_left
  · intro w hSw
    go_simp <;> with_reducible rfl
  try simp only [Act.put, List.setIfInBounds_toArray, List.set_cons_zero, List.set_cons_succ]
  refine takeAt 2 (some 6) ?_ rfl rfl (by kernel_rfl) (by kernel_rfl) (by kernel_rfl) (fun _ _ _ h => h) (Or.inl ⟨by rfl, ?_⟩) hHeld ?_
  rotate_left
  · intro w hSw
    go_simp <;> with_reducible rfl
  try simp only [Act.put, List.setIfInBounds_toArray, List.set_cons_zero, List.set_cons_succ]
  refine takeAt 3 (some 7) ?_ rfl rfl (by kernel_rfl) (by kernel_rfl) (by kernel_rfl) (fun _ _ _ h => h) (Or.inl ⟨by rfl, ?_⟩) hHeld ?_
  rotate_left
  · intro w hSw
    go_simp <;> with_reducible rfl
  try simp only [Act.put, List.setIfInBounds_toArray, List.set_cons_zero, List.set_cons_succ]
  refine wpAnyH_ready (rs := [4, 6]) (by kernel_rfl) (by simp) ?_
  refine AllReadyH.cons rfl (fun K1 hK => ?_) (AllReadyH.cons rfl (fun K1 hK => ?_) AllReadyH.nil)
  · go_simp
    refine hK.out _ _ (HB1.out) (fun hHeld => ?_)
    clear hK K1
    try simp only [Act.put, List.setIfInBounds_toArray, List.set_cons_zero, List.set_cons_succ]
    refine takeAt 5 (some 9) ?_ rfl rfl (by kernel_rfl) (by kernel_rfl) (by kernel_rfl) (fun _ _ _ h => h) (Or.inl ⟨by rfl, ?_⟩) hHeld ?_
    rotate_left
    · intro w hSw
      go_simp <;> with_reducible rfl
    try simp only [Act.put, List.setIfInBounds_toArray, List.set_cons_zero, List.set_cons_succ]
    refine wpAnyH_ready (rs := [6]) (by kernel_rfl) (by simp) ?_
    refine AllReadyH.cons rfl (fun K hK => ?_) AllReadyH.nil
    go_simp
    refine hK.out _ _ (HB2.out) (fun hHeld => ?_)
    clear hK K
    try simp only [Act.put, List.setIfInBounds_toArray, List.set_cons_zero, List.set_cons_succ]
    have HW : Hid (Ck (w.heap.size + 1 + 1) (.slice va L.length vc) root G cs (.slice (some ⟨w.heap.size + 1, 0, none⟩) L.length L.length) (((w.alloc (obP (.slice va L.length vc) root G cs)).alloc (obA L.length)).alloc (obK (.slice va L.length vc) root G cs (.slice (some ⟨w.heap.size + 1, 0, none⟩) L.length L.length))).drew ∧ As (w.heap.size + 1) (List.replicate L.length false) (((w.alloc (obP (.slice va L.length vc) root G cs)).alloc (obA L.length)).alloc (obK (.slice va L.length vc) root G cs (.slice (some ⟨w.heap.size + 1, 0, none⟩) L.length L.length))).drew ∧ Kp w (((w.alloc (obP (.slice va L.length vc) root G cs)).alloc (obA L.length)).alloc (obK (.slice va L.length vc) root G cs (.slice (some ⟨w.heap.size + 1, 0, none⟩) L.length L.length))).drew) := by
      obtain ⟨q1, q2, q3, q4⟩ := alloc3 w _ _ _
      exact ⟨q4, q3, q1⟩
    have HB5 : Hid (PBox w.heap.size (.slice va L.length vc) root G cs (((w.alloc (obP (.slice va L.length vc) root G cs)).alloc (obA L.length)).alloc (obK (.slice va L.length vc) root G cs (.slice (some ⟨w.heap.size + 1, 0, none⟩) L.length L.length))).drew) := (alloc3 w _ _ _).2.1
    refine wpAnyH_ready (rs := [7]) (by kernel_rfl) (by simp) ?_
    refine AllReadyH.cons rfl (fun K hK => ?_) AllReadyH.nil
    go_simp
    refine hK.out _ _ (HB5.out) (fun hHeld => ?_)
    clear hK K
    try simp only [Act.put, List.setIfInBounds_toArray, List.set_cons_zero, List.set_cons_succ]
    refine wpAnyH_done (by kernel_rfl) ?_ _
    refine NoPanic.normal ?_
    change Exit.then _ _ _ _ (((w.alloc (obP (.slice va L.length vc) root G cs)).alloc (obA L.length)).alloc (obK (.slice va L.length vc) root G cs (.slice (some ⟨w.heap.size + 1, 0, none⟩) L.length L.length))).drew
    generalize hWW : (((w.alloc (obP (.slice va L.length vc) root G cs)).alloc (obA L.length)).alloc (obK (.slice va L.length vc) root G cs (.slice (some ⟨w.heap.size + 1, 0, none⟩) L.length L.length))).drew = W at HW ⊢
    clear hWW hHeld
    obtain ⟨hck, has, hkp⟩ := HW.out
    by_cases hG : 0 ≤ G ∧ G ≤ 9
    · have hX : treeF L G (L.length + 1) [root] (List.replicate L.length false) = X := by rw [← HX.out]; unfold soundF; rw [decide_eq_true hG, Bool.true_and]
      have HX2 : Hid _ := hX
      clear hX
      go_wp2_with fail
      refine Calls.mono (groups_any hck) ?_
      rintro e w' ⟨rfl, rfl⟩
      rw [decide_eq_true hG]
      go_wp2_with fail
      refine Calls.mono (tree_any (K := K) hck HV.out.1 hkp has ⟨by omega, by omega, by omega⟩ ⟨Nat.le_refl _, by unfold maxLen; omega⟩ HV.out.2.1 HV.out.2.2) ?_
      rintro e w2 ⟨rfl, q⟩
      clear hck has hkp
      rw [HX2.out]
      go_wp2_with fail
      go_ret
      exact ⟨rfl, q⟩
    · have hX : X = false := by rw [← HX.out]; unfold soundF; rw [decide_eq_false hG, Bool.false_and]
      subst hX
      go_wp2_with fail
      refine Calls.mono (groups_any hck) ?_
      rintro e w' ⟨rfl, rfl⟩
      rw [decide_eq_false hG]
      clear hck has
      go_wp2_with fail
      go_ret
      exact ⟨rfl, hkp⟩
  · go_simp
    refine hK.out _ _ (HB3.out) (fun hHeld => ?_)
    clear hK K1
    try simp only [Act.put, List.setIfInBounds_toArray, List.set_cons_zero, List.set_cons_succ]
    refine wpAnyH_ready (rs := [4]) (by kernel_rfl) (by simp) ?_
    refine AllReadyH.cons rfl (fun K hK => ?_) AllReadyH.nil
    go_simp
    refine hK.out _ _ (HB4.out) (fun hHeld => ?_)
    clear hK K
    try simp only [Act.put, List.setIfInBounds_toArray, List.set_cons_zero, List.set_cons_succ]
    refine takeAt 5 (some 9) ?_ rfl rfl (by kernel_rfl) (by kernel_rfl) (by kernel_rfl) (fun _ _ _ h => h) (Or.inl ⟨by rfl, ?_⟩) hHeld ?_
    rotate_left
    · intro w hSw
      go_simp <;> with_reducible rfl
    try simp only [Act.put, List.setIfInBounds_toArray, List.set_cons_zero, List.set_cons_succ]
    have HW : Hid (Ck (w.heap.size + 1) (.slice va L.length vc) root G cs (.slice (some ⟨w.heap.size + 1 + 1, 0, none⟩) L.length L.length) (((w.alloc (obP (.slice va L.length vc) root G cs)).alloc (obK (.slice va L.length vc) root G cs (.slice (some ⟨w.heap.size + 1 + 1, 0, none⟩) L.length L.length))).alloc (obA L.length)).drew ∧ As (w.heap.size + 1 + 1) (List.replicate L.length false) (((w.alloc (obP (.slice va L.length vc) root G cs)).alloc (obK (.slice va L.length vc) root G cs (.slice (some ⟨w.heap.size + 1 + 1, 0, none⟩) L.length L.length))).alloc (obA L.length)).drew ∧ Kp w (((w.alloc (obP (.slice va L.length vc) root G cs)).alloc (obK (.slice va L.length vc) root G cs (.slice (some ⟨w.heap.size + 1 + 1, 0, none⟩) L.length L.length))).alloc (obA L.length)).drew) := by
      obtain ⟨q1, q2, q3, q4⟩ := alloc3 w _ _ _
      exact ⟨q3, q4, q1⟩
    have HB5 : Hid (PBox w.heap.size (.slice va L.length vc) root G cs (((w.alloc (obP (.slice va L.length vc) root G cs)).alloc (obK (.slice va L.length vc) root G cs (.slice (some ⟨w.heap.size + 1 + 1, 0, none⟩) L.length L.length))).alloc (obA L.length)).drew) := (alloc3 w _ _ _).2.1
    refine wpAnyH_ready (rs := [7]) (by kernel_rfl) (by simp) ?_
    refine AllReadyH.cons rfl (fun K hK => ?_) AllReadyH.nil
    go_simp
    refine hK.out _ _ (HB5.out) (fun hHeld => ?_)
    clear hK K
    try simp only [Act.put, List.setIfInBounds_toArray, List.set_cons_zero, List.set_cons_succ]
    refine wpAnyH_done (by kernel_rfl) ?_ _
    refine NoPanic.normal ?_
    change Exit.then _ _ _ _ (((w.alloc (obP (.slice va L.length vc) root G cs)).alloc (obK (.slice va L.length vc) root G cs (.slice (some ⟨w.heap.size + 1 + 1, 0, none⟩) L.length L.length))).alloc (obA L.length)).drew
    generalize hWW : (((w.alloc (obP (.slice va L.length vc) root G cs)).alloc (obK (.slice va L.length vc) root G cs (.slice (some ⟨w.heap.size + 1 + 1, 0, none⟩) L.length L.length))).alloc (obA L.length)).drew = W at HW ⊢
    clear hWW hHeld
    obtain ⟨hck, has, hkp⟩ := HW.out
    by_cases hG : 0 ≤ G ∧ G ≤ 9
    · have hX : treeF L G (L.length + 1) [root] (List.replicate L.length false) = X := by rw [← HX.out]; unfold soundF; rw [decide_eq_true hG, Bool.true_and]
      have HX2 : Hid _ := hX
      clear hX
      go_wp2_with fail
      refine Calls.mono (groups_any hck) ?_
      rintro e w' ⟨rfl, rfl⟩
      rw [decide_eq_true hG]
      go_wp2_with fail
      refine Calls.mono (tree_any (K := K) hck HV.out.1 hkp has ⟨by omega, by omega, by omega⟩ ⟨Nat.le_refl _, by unfold maxLen; omega⟩ HV.out.2.1 HV.out.2.2) ?_
      rintro e w2 ⟨rfl, q⟩
      clear hck has hkp
      rw [HX2.out]
      go_wp2_with fail
      go_ret
      exact ⟨rfl, q⟩
    · have hX : X = false := by rw [← HX.out]; unfold soundF; rw [decide_eq_false hG, Bool.false_and]
      subst hX
      go_wp2_with fail
      refine Calls.mono (groups_any hck) ?_
      rintro e w' ⟨rfl, rfl⟩
      rw [decide_eq_false hG]
      clear hck has
      go_wp2_with fail
      go_ret
      exact ⟨rfl, hkp⟩
end
end Go.Proofs.YtpahpnajeliodaaGreatDoor
/-
  DERIVED: THE SHELF's CONTRACTS AT THIS DUMP, IN PLAIN WORDS (tools/lay-plain.mjs out of 'YtpahpnajeliodaaGreatDoorWShelf.lean', which tools/lay-shelf.mjs wrote): THE SAME DECLARATIONS UNDER THE SAME NAMES: 'import', 'namespace', 'open', 'def', 'theorem' AND NOTHING ELSE: no command of the shelf's: FOR A HAND-IN. Each laying: the table of numbers ('.._ren') and one theorem, a field a fact of the dump's own or the kernel's comparison; each contract: ONE APPLICATION.
-/
namespace Go.Proofs
open Go.Shelf
def Tryz.laysM171_ren : Go.Shelf.Ren := ⟨fun | 171 => 16 | 243 => 24 | 246 => 35 | 283 => 48 | 284 => 49 | 285 => 50 | 286 => 51 | 129 => 62 | 317 => 61 | 318 => 63 | 319 => 64 | 320 => 65 | 337 => 84 | 338 => 85 | n => n, fun | 3 => 3 | 9 => 9 | 2 => 2 | 4 => 4 | 171 => 99 | 0 => 0 | 53 => 68 | 37 => 22 | 5 => 5 | 173 => 102 | 212 => 111 | 51 => 112 | 20 => 20 | 213 => 113 | 46 => 114 | 232 => 149 | 233 => 150 | n => n, fun | 17 => 0 | 18 => 1 | 19 => 2 | n => n⟩
theorem Tryz.laysM171 : Go.Proofs.LaysM.n171 Tryz.prog Tryz.laysM171_ren := {
  mixed := by kernel_rfl
  f129 := Tryz.func62.trans (congrArg some (by kernel_rfl))
  f171 := Tryz.func16.trans (congrArg some (by kernel_rfl))
  f243 := Tryz.func24.trans (congrArg some (by kernel_rfl))
  f246 := Tryz.func35.trans (congrArg some (by kernel_rfl))
  f283 := Tryz.func48.trans (congrArg some (by kernel_rfl))
  f284 := Tryz.func49.trans (congrArg some (by kernel_rfl))
  f285 := Tryz.func50.trans (congrArg some (by kernel_rfl))
  f286 := Tryz.func51.trans (congrArg some (by kernel_rfl))
  f317 := Tryz.func61.trans (congrArg some (by kernel_rfl))
  f318 := Tryz.func63.trans (congrArg some (by kernel_rfl))
  f319 := Tryz.func64.trans (congrArg some (by kernel_rfl))
  f320 := Tryz.func65.trans (congrArg some (by kernel_rfl))
  f337 := Tryz.func84.trans (congrArg some (by kernel_rfl))
  f338 := Tryz.func85.trans (congrArg some (by kernel_rfl))
  t0 := Tryz.underlying0
  a0 := Tryz.isAgg0
  z0 := Tryz.sizeOf0
  v0 := Tryz.zeroValue0
  t2 := Tryz.underlying2
  a2 := Tryz.isAgg2
  z2 := Tryz.sizeOf2
  v2 := Tryz.zeroValue2
  t3 := Tryz.underlying3
  a3 := Tryz.isAgg3
  z3 := Tryz.sizeOf3
  v3 := Tryz.zeroValue3
  t4 := Tryz.underlying4
  a4 := Tryz.isAgg4
  z4 := Tryz.sizeOf4
  v4 := Tryz.zeroValue4
  t5 := Tryz.underlying5
  a5 := Tryz.isAgg5
  z5 := Tryz.sizeOf5
  v5 := Tryz.zeroValue5
  t9 := Tryz.underlying9
  a9 := Tryz.isAgg9
  z9 := Tryz.sizeOf9
  v9 := Tryz.zeroValue9
  t20 := Tryz.underlying20
  a20 := Tryz.isAgg20
  z20 := Tryz.sizeOf20
  v20 := Tryz.zeroValue20
  t37 := Tryz.underlying22
  a37 := Tryz.isAgg22
  z37 := Tryz.sizeOf22
  v37 := Tryz.zeroValue22
  t46 := Tryz.underlying114
  a46 := Tryz.isAgg114
  z46 := Tryz.sizeOf114
  v46 := Tryz.zeroValue114
  t51 := Tryz.underlying112
  a51 := Tryz.isAgg112
  z51 := Tryz.sizeOf112
  v51 := Tryz.zeroValue112
  t53 := Tryz.underlying68
  a53 := Tryz.isAgg68
  z53 := Tryz.sizeOf68
  v53 := Tryz.zeroValue68
  t171 := Tryz.underlying99
  a171 := Tryz.isAgg99
  z171 := Tryz.sizeOf99
  v171 := Tryz.zeroValue99
  t173 := Tryz.underlying102
  a173 := Tryz.isAgg102
  z173 := Tryz.sizeOf102
  v173 := Tryz.zeroValue102
  t212 := Tryz.underlying111
  a212 := Tryz.isAgg111
  z212 := Tryz.sizeOf111
  v212 := Tryz.zeroValue111
  t213 := Tryz.underlying113
  a213 := Tryz.isAgg113
  z213 := Tryz.sizeOf113
  t232 := Tryz.underlying149
  a232 := Tryz.isAgg149
  z232 := Tryz.sizeOf149
  v232 := Tryz.zeroValue149
  t233 := Tryz.underlying150
  a233 := Tryz.isAgg150
  z233 := Tryz.sizeOf150
  v233 := Tryz.zeroValue150
  g17 := by kernel_rfl
  g18 := by kernel_rfl
  g19 := by kernel_rfl
  i0 := by kernel_rfl
  i2 := by kernel_rfl
  i3 := by kernel_rfl
  i4 := by kernel_rfl
  i5 := by kernel_rfl
  i9 := by kernel_rfl
  i20 := by kernel_rfl
  i37 := by kernel_rfl
  i46 := by kernel_rfl
  i51 := by kernel_rfl
  i53 := by kernel_rfl
  i171 := by kernel_rfl
  i173 := by kernel_rfl
  i212 := by kernel_rfl
  i232 := by kernel_rfl
  i233 := by kernel_rfl
  m17 := by kernel_rfl
  m18 := by kernel_rfl
  m19 := by kernel_rfl }
def Tryz.laysM145_ren : Go.Shelf.Ren := ⟨fun | 145 => 106 | 220 => 120 | 219 => 123 | 217 => 73 | 225 => 125 | 224 => 126 | 267 => 127 | 266 => 91 | 314 => 132 | n => n, fun | 9 => 9 | 4 => 4 | 59 => 158 | 3 => 3 | 5 => 5 | 46 => 114 | 146 => 132 | 51 => 112 | n => n, fun | 1 => 3 | n => n⟩
theorem Tryz.laysM145 : Go.Proofs.LaysM.n145 Tryz.prog Tryz.laysM145_ren := {
  mixed := by kernel_rfl
  f145 := Tryz.func106.trans (congrArg some (by kernel_rfl))
  f217 := Tryz.func73.trans (congrArg some (by kernel_rfl))
  f219 := Tryz.func123.trans (congrArg some (by kernel_rfl))
  f220 := Tryz.func120.trans (congrArg some (by kernel_rfl))
  f224 := Tryz.func126.trans (congrArg some (by kernel_rfl))
  f225 := Tryz.func125.trans (congrArg some (by kernel_rfl))
  f266 := Tryz.func91.trans (congrArg some (by kernel_rfl))
  f267 := Tryz.func127.trans (congrArg some (by kernel_rfl))
  f314 := Tryz.func132.trans (congrArg some (by kernel_rfl))
  t3 := Tryz.underlying3
  a3 := Tryz.isAgg3
  z3 := Tryz.sizeOf3
  v3 := Tryz.zeroValue3
  t4 := Tryz.underlying4
  a4 := Tryz.isAgg4
  z4 := Tryz.sizeOf4
  v4 := Tryz.zeroValue4
  t5 := Tryz.underlying5
  a5 := Tryz.isAgg5
  z5 := Tryz.sizeOf5
  v5 := Tryz.zeroValue5
  t9 := Tryz.underlying9
  a9 := Tryz.isAgg9
  z9 := Tryz.sizeOf9
  v9 := Tryz.zeroValue9
  t46 := Tryz.underlying114
  a46 := Tryz.isAgg114
  z46 := Tryz.sizeOf114
  v46 := Tryz.zeroValue114
  t51 := Tryz.underlying112
  a51 := Tryz.isAgg112
  z51 := Tryz.sizeOf112
  v51 := Tryz.zeroValue112
  t59 := Tryz.underlying158
  a59 := Tryz.isAgg158
  z59 := Tryz.sizeOf158
  v59 := Tryz.zeroValue158
  t146 := Tryz.underlying132
  a146 := Tryz.isAgg132
  z146 := Tryz.sizeOf132
  v146 := Tryz.zeroValue132
  g1 := by kernel_rfl
  i3 := by kernel_rfl
  i4 := by kernel_rfl
  i5 := by kernel_rfl
  i9 := by kernel_rfl
  i46 := by kernel_rfl
  i51 := by kernel_rfl
  i59 := by kernel_rfl
  i146 := by kernel_rfl
  m1 := by kernel_rfl
  s1_3 := fun w h => Go.Proofs.cell_of_shapedOpen_int (zero := #[.int .i64 0]) (t := 3) h (of_decide_eq_true (by kernel_rfl)) (by kernel_rfl) rfl (by kernel_rfl) (by kernel_rfl) Tryz.underlying3 }
def Tryz.lays105_ren : Go.Shelf.Ren := ⟨fun | 105 => 53 | 212 => 67 | 99 => 68 | 165 => 69 | 166 => 18 | 170 => 70 | 169 => 20 | 263 => 86 | 264 => 87 | 206 => 88 | 240 => 25 | 241 => 89 | 276 => 36 | 277 => 99 | n => n, fun | 9 => 9 | 3 => 3 | 4 => 4 | 20 => 20 | 0 => 0 | 46 => 114 | 109 => 116 | 5 => 5 | 72 => 39 | 76 => 65 | 51 => 112 | 146 => 132 | 53 => 68 | 148 => 134 | 70 => 37 | 37 => 22 | 75 => 64 | 127 => 83 | 164 => 87 | 80 => 43 | n => n, fun | n => n⟩
theorem Tryz.lays105 : Go.Proofs.Lays.n105 Tryz.prog Tryz.lays105_ren := {
  mixed := by kernel_rfl
  f99 := Tryz.func68.trans (congrArg some (by kernel_rfl))
  f105 := Tryz.func53.trans (congrArg some (by kernel_rfl))
  f165 := Tryz.func69.trans (congrArg some (by kernel_rfl))
  f166 := Tryz.func18.trans (congrArg some (by kernel_rfl))
  f169 := Tryz.func20.trans (congrArg some (by kernel_rfl))
  f170 := Tryz.func70.trans (congrArg some (by kernel_rfl))
  f206 := Tryz.func88.trans (congrArg some (by kernel_rfl))
  f212 := Tryz.func67.trans (congrArg some (by kernel_rfl))
  f240 := Tryz.func25.trans (congrArg some (by kernel_rfl))
  f241 := Tryz.func89.trans (congrArg some (by kernel_rfl))
  f263 := Tryz.func86.trans (congrArg some (by kernel_rfl))
  f264 := Tryz.func87.trans (congrArg some (by kernel_rfl))
  f276 := Tryz.func36.trans (congrArg some (by kernel_rfl))
  f277 := Tryz.func99.trans (congrArg some (by kernel_rfl))
  t0 := Tryz.underlying0
  a0 := Tryz.isAgg0
  z0 := Tryz.sizeOf0
  v0 := Tryz.zeroValue0
  t3 := Tryz.underlying3
  a3 := Tryz.isAgg3
  z3 := Tryz.sizeOf3
  v3 := Tryz.zeroValue3
  t4 := Tryz.underlying4
  a4 := Tryz.isAgg4
  z4 := Tryz.sizeOf4
  v4 := Tryz.zeroValue4
  t5 := Tryz.underlying5
  a5 := Tryz.isAgg5
  z5 := Tryz.sizeOf5
  v5 := Tryz.zeroValue5
  t9 := Tryz.underlying9
  a9 := Tryz.isAgg9
  z9 := Tryz.sizeOf9
  v9 := Tryz.zeroValue9
  t20 := Tryz.underlying20
  a20 := Tryz.isAgg20
  z20 := Tryz.sizeOf20
  v20 := Tryz.zeroValue20
  t37 := Tryz.underlying22
  a37 := Tryz.isAgg22
  z37 := Tryz.sizeOf22
  v37 := Tryz.zeroValue22
  t46 := Tryz.underlying114
  a46 := Tryz.isAgg114
  z46 := Tryz.sizeOf114
  v46 := Tryz.zeroValue114
  t51 := Tryz.underlying112
  a51 := Tryz.isAgg112
  z51 := Tryz.sizeOf112
  v51 := Tryz.zeroValue112
  t53 := Tryz.underlying68
  a53 := Tryz.isAgg68
  z53 := Tryz.sizeOf68
  v53 := Tryz.zeroValue68
  t70 := Tryz.underlying37
  a70 := Tryz.isAgg37
  z70 := Tryz.sizeOf37
  v70 := Tryz.zeroValue37
  t72 := Tryz.underlying39
  a72 := Tryz.isAgg39
  z72 := Tryz.sizeOf39
  v72 := Tryz.zeroValue39
  t75 := Tryz.underlying64
  a75 := Tryz.isAgg64
  z75 := Tryz.sizeOf64
  v75 := Tryz.zeroValue64
  t76 := Tryz.underlying65
  a76 := Tryz.isAgg65
  z76 := Tryz.sizeOf65
  v76 := Tryz.zeroValue65
  t109 := Tryz.underlying116
  a109 := Tryz.isAgg116
  z109 := Tryz.sizeOf116
  v109 := Tryz.zeroValue116
  t127 := Tryz.underlying83
  a127 := Tryz.isAgg83
  z127 := Tryz.sizeOf83
  v127 := Tryz.zeroValue83
  t146 := Tryz.underlying132
  a146 := Tryz.isAgg132
  z146 := Tryz.sizeOf132
  v146 := Tryz.zeroValue132
  t148 := Tryz.underlying134
  a148 := Tryz.isAgg134
  z148 := Tryz.sizeOf134
  v148 := Tryz.zeroValue134
  t164 := Tryz.underlying87
  a164 := Tryz.isAgg87
  z164 := Tryz.sizeOf87
  v164 := Tryz.zeroValue87 }
theorem Tryz.Builder_Extra_105 : Builder.Extra Tryz.prog Tryz.lays105_ren := {
  sizeBuilder := by kernel_rfl
  liesBuilder := by kernel_rfl
  t5 := Tryz.underlying5
  a5 := Tryz.isAgg5
  z5 := Tryz.sizeOf5
  v5 := Tryz.zeroValue5
  infoByte := by kernel_rfl
  cellsByte := by kernel_rfl
  sizeByte := by kernel_rfl
  neB5 := by decide }
end Go.Proofs
/- Numbers by hex digits: strconv.FormatUint at base 16. -/
namespace Go.Proofs.YtpahpnajeliodaaGreatDoor
open Go.ChangeShapes Go.WideShapes Go.ChangeAt Go.RowKit
set_option linter.unusedVariables false
set_option linter.unusedSimpArgs false
theorem isPow2_16 (w : World) : Calls Tryz.prog 64 #[.int .i64 16] w fun e w' => e = .returned (.bool true) ∧ w' = w := by
  go_enter Tryz.func64, Tryz.ntmps64
  go_wp2
  go_ret
  exact ⟨rfl, rfl⟩
theorem tz64_16 (w : World) (h : w.cell? ⟨2, 15, none⟩ = some (.int .u8 4)) : Calls Tryz.prog 85 #[.int .u64 16] w fun e w' => e = .returned (.int .i64 4) ∧ w' = w := by
  have hA : IntKind.u64.wrap (-16) = 18446744073709551600 := by decide
  have hB : bits BinOp.and IntKind.u64 16 18446744073709551600 = 16 := by decide
  have hC : IntKind.u64.wrap (16 * 285870213051353865) = 4573923408821661840 := by decide
  have hC' : IntKind.u64.wrap 4573923408821661840 = 4573923408821661840 := by decide
  have hD : (4573923408821661840 : Int) / 288230376151711744 = 15 := by decide
  go_enter Tryz.func85, Tryz.ntmps85
  go_wp2_with fail
  go_ret
  exact ⟨rfl, rfl⟩
theorem tz_16 (w : World) (h : w.cell? ⟨2, 15, none⟩ = some (.int .u8 4)) : Calls Tryz.prog 65 #[.int .u64 16] w fun e w' => e = .returned (.int .i64 4) ∧ w' = w := by
  have h' := fun (x : World) hx => tz64_16 x hx
  go_enter Tryz.func65, Tryz.ntmps65
  go_wp2_with fail
  refine Calls.mono (h' _ h) ?_
  rintro e w' ⟨rfl, rfl⟩
  go_wp2_with fail
  go_ret
  exact ⟨rfl, rfl⟩
def hexC (d : Nat) : Nat := if d < 10 then 48 + d else 87 + d
def hexGo : Nat → Nat → List UInt8 → List UInt8
  | 0, _, acc => acc
  | f + 1, u, acc => if 16 ≤ u then hexGo f (u / 16) ((hexC (u % 16)).toUInt8 :: acc) else (hexC u).toUInt8 :: acc
/-- A number by its hex digits. -/
def hexS (u : Nat) : List UInt8 := hexGo 17 u []
theorem and15 {x : Nat} (hx : x < 18446744073709551616) : bits BinOp.and IntKind.u64 (x : Int) 15 = ((x % 16 : Nat) : Int) := by
  have e : x &&& 15 = x % 16 := Nat.and_two_pow_sub_one_eq_mod x 4
  have h1 : (BitVec.ofInt 64 (x : Int)).toNat = x := by simp [BitVec.toNat_ofInt]; omega
  have h2 : (BitVec.ofInt 64 ((15 : Nat) : Int)).toNat = 15 := by decide
  show IntKind.u64.wrap ((BitVec.ofInt 64 (x : Int) &&& BitVec.ofInt 64 ((15 : Nat) : Int)).toNat : Int) = _
  rw [BitVec.toNat_and, h1, h2, e, IntKind.wrap_u64]
  exact Int.emod_eq_of_lt (by omega) (by omega)
theorem dig_fin : ∀ D : Fin 16, ((⟨#[48, 49, 50, 51, 52, 53, 54, 55, 56, 57, 97, 98, 99, 100, 101, 102, 103, 104, 105, 106, 107, 108, 109, 110, 111, 112, 113, 114, 115, 116, 117, 118, 119, 120, 121, 122]⟩ : ByteArray)[D.val]'(by have := D.isLt; show D.val < 36; omega)).toNat = hexC D.val := by decide
theorem dig_eq {D : Nat} (h : D < 16) (h' : D < (⟨#[48, 49, 50, 51, 52, 53, 54, 55, 56, 57, 97, 98, 99, 100, 101, 102, 103, 104, 105, 106, 107, 108, 109, 110, 111, 112, 113, 114, 115, 116, 117, 118, 119, 120, 121, 122]⟩ : ByteArray).size) : ((⟨#[48, 49, 50, 51, 52, 53, 54, 55, 56, 57, 97, 98, 99, 100, 101, 102, 103, 104, 105, 106, 107, 108, 109, 110, 111, 112, 113, 114, 115, 116, 117, 118, 119, 120, 121, 122]⟩ : ByteArray)[D]'h').toNat = hexC D := dig_fin ⟨D, h⟩
theorem hexC_lt {d : Nat} (h : d < 16) : hexC d < 256 := by unfold hexC; split <;> omega
/-- The digits' array: what stands from a place on. -/
def Hx (ab i : Nat) (acc : List UInt8) (w : World) : Prop := ∃ arr, w.heap[ab]? = some (.cells arr 113 (0, 0)) ∧ arr.size = 65 ∧ arr.toList.drop i = acc.map fun b => Value.int .u8 b.toNat
theorem Hx.fz {ab i : Nat} {acc : List UInt8} {w : World} (h : Hx ab i acc w) (j : Nat) : w.frozen? ⟨ab, j, none⟩ = false := by obtain ⟨arr, h, _⟩ := h; simp [World.frozen?, h]
theorem Hx.cell {ab i : Nat} {acc : List UInt8} {w : World} (h : Hx ab i acc w) {j : Nat} (hj : j < 65) : ∃ v, w.cell? ⟨ab, j, none⟩ = some v := by
  obtain ⟨arr, h, hs, _⟩ := h
  exact ⟨_, by rw [cell_at h]; exact Array.getElem?_eq_getElem (by omega)⟩
theorem Hx.put {ab i : Nat} {acc : List UInt8} {w : World} (h : Hx ab (i + 1) acc w) (hi : i < 65) (b : Nat) (hb : b < 256) : Hx ab i (b.toUInt8 :: acc) (w.setCell ⟨ab, i, none⟩ (.int .u8 b)) := by
  obtain ⟨arr, h, hs, hd⟩ := h
  refine ⟨_, heap_setCell h, by simp [hs], ?_⟩
  have hl : i < (arr.setIfInBounds i (.int .u8 b)).toList.length := by simp [hs, hi]
  rw [List.drop_eq_getElem_cons hl]
  simp only [Array.toList_setIfInBounds, List.getElem_set_self, List.map_cons, List.cons.injEq]
  refine ⟨by simp [Nat.toUInt8, Nat.mod_eq_of_lt hb], ?_⟩
  rw [List.drop_set_of_lt (by omega), hd]
theorem Hx.get {ab i : Nat} {acc : List UInt8} {w : World} (h : Hx ab i acc w) {j : Nat} (hj : j < acc.length) : w.cell? ⟨ab, i + j, none⟩ = some (.int .u8 (acc[j]).toNat) := by
  obtain ⟨arr, h, hs, hd⟩ := h
  have : (arr.toList.drop i)[j]? = some (.int .u8 (acc[j]).toNat) := by rw [hd]; simp [hj]
  rw [List.getElem?_drop, Array.getElem?_toList] at this
  rw [cell_at h]; exact this
set_option maxHeartbeats 4000000 in
set_option maxRecDepth 100000 in
theorem formatBits_any (u : Nat) (hu : u < 18446744073709551616) (w : World) (h : w.cell? ⟨2, 15, none⟩ = some (.int .u8 4)) :
    Calls Tryz.prog 51 #[.slice none 0 0, .int .u64 u, .int .i64 16, .bool false, .bool false] w fun e w' => e = .returned (.tuple #[.slice none 0 0, .string ⟨(hexS u).toArray⟩]) ∧ Kp w w' := by
  obtain ⟨X, hX⟩ : ∃ X, hexS u = X := ⟨_, rfl⟩
  rw [hX]
  have HX : Hid (hexS u = X ∧ u < 18446744073709551616) := ⟨hX, hu⟩
  clear hX hu
  go_enter Tryz.func51, Tryz.ntmps51
  go_wp2_with (go_at_call 64; refine Calls.mono (isPow2_16 _) ?_; rintro e _ ⟨rfl, rfl⟩)
  refine Calls.mono (tz_16 _ (kp_cell (kp_alloc _ _) h)) ?_
  rintro e w' ⟨rfl, rfl⟩
  go_wp2_with fail
  go_loopw [1, 13] (fun v1 v13 wr => ∃ (f i u' : Nat) (acc : List UInt8), v1 = .int .u64 u' ∧ v13 = .int .i64 i ∧ i + acc.length = 65 ∧ f + acc.length = 17 ∧ 1 ≤ f ∧ u' < 16 ^ f ∧ u' < 18446744073709551616 ∧ hexGo f u' acc = X ∧ Hx w.heap.size i acc wr ∧ Kp w wr) (fun v1 _ _ => (intOf v1).toNat)
  case atStart => 
    refine ⟨17, 65, u, [], rfl, rfl, rfl, rfl, by omega, by have := HX.out.2; omega, HX.out.2, HX.out.1, ?_, kp_alloc _ _⟩
    exact ⟨_, alloc_new w _, by kernel_rfl, by kernel_rfl⟩
  case round =>
    obtain ⟨f, i, x, acc, rfl, rfl, hi, hf, hf1, hx, hx64, hH, hA, hK⟩ := hrel
    obtain ⟨i, rfl⟩ : ∃ i', i = i' + 1 := ⟨i - 1, by omega⟩
    have HQ : Hid (i + 1 + acc.length = 65 ∧ f + acc.length = 17 ∧ x < 16 ^ f ∧ x < 18446744073709551616 ∧ hexGo f x acc = X ∧ Hx w.heap.size (i + 1) acc wr ∧ Kp w wr) := ⟨hi, hf, hx, hx64, hH, hA, hK⟩
    have hfz := hA.fz i
    have hi65 : i < 65 := by omega
    obtain ⟨cv, hcv⟩ := hA.cell hi65
    have hii : (((i + 1 : Nat) : Int) - 1) = (i : Int) := by omega
    have hand := and15 hx64
    obtain ⟨D, hD⟩ : ∃ D, x % 16 = D := ⟨_, rfl⟩
    rw [hD] at hand
    have HD : Hid (x % 16 = D) := hD
    have hD16 : D < 16 := by omega
    obtain ⟨I, hI⟩ : ∃ I, i + 1 = I := ⟨_, rfl⟩
    rw [hI] at hii ⊢
    clear hx hx64 hH hA hK hD hf
    by_cases hc : 16 ≤ x
    · have dc : decide ((16 : Int) ≤ (x : Int)) = true := decide_eq_true (by omega)
      go_wp2_with fail
      rw [dig_eq hD16]
      obtain ⟨q1, q2, q3, q4, q5, q6, q7⟩ := HQ.out
      obtain ⟨f, rfl⟩ : ∃ f', f = f' + 1 := ⟨f - 1, by omega⟩
      have hf0 : f ≠ 0 := by
        intro z; subst z; omega
      refine ⟨⟨f, i, x / 16, (hexC D).toUInt8 :: acc, by simp, rfl, by simp only [List.length_cons]; omega, by simp only [List.length_cons]; omega, by omega, ?_, by omega, ?_, q6.put hi65 _ (hexC_lt hD16), ?_⟩, ?_⟩
      · rw [Nat.pow_succ] at q3
        omega
      · rw [← q5, ← HD.out]; simp [hexGo, hc]
      · exact kp_new q7 (fr_set _ _ _ _) (Nat.le_refl _)
      · simp only [intOf]; omega
    · have dc : decide ((16 : Int) ≤ (x : Int)) = false := decide_eq_false (by omega)
      have hDx : x = D := by rw [← HD.out]; omega
      subst hDx
      obtain ⟨q1, q2, q3, q4, q5, q6, q7⟩ := HQ.out
      obtain ⟨f, rfl⟩ : ∃ f', f = f' + 1 := ⟨f - 1, by omega⟩
      have hX : X = (hexC x).toUInt8 :: acc := by rw [← q5]; simp [hexGo, hc]
      have hl : ((⟨#[48, 49, 50, 51, 52, 53, 54, 55, 56, 57, 97, 98, 99, 100, 101, 102, 103, 104, 105, 106, 107, 108, 109, 110, 111, 112, 113, 114, 115, 116, 117, 118, 119, 120, 121, 122]⟩ : ByteArray)[x]'(by show x < 36; omega)).toNat = hexC x := dig_eq hD16 _
      obtain ⟨W, hW⟩ : ∃ W, wr.setCell ⟨w.heap.size, i, none⟩ (.int .u8 (((⟨#[48, 49, 50, 51, 52, 53, 54, 55, 56, 57, 97, 98, 99, 100, 101, 102, 103, 104, 105, 106, 107, 108, 109, 110, 111, 112, 113, 114, 115, 116, 117, 118, 119, 120, 121, 122]⟩ : ByteArray)[x]'(by show x < 36; omega)).toNat : Nat)) = W := ⟨_, rfl⟩
      have hWx : Hx w.heap.size i X W := by rw [← hW, hl, hX]; exact q6.put hi65 _ (hexC_lt hD16)
      have hWk : Kp w W := by rw [← hW]; exact kp_new q7 (fr_set _ _ _ _) (Nat.le_refl _)
      have hlen : X.length = 65 - i := by rw [hX]; simp only [List.length_cons]; omega
      have hal : Tryz.prog.arrayLen 113 = 65 := by kernel_rfl
      have hsl : ∀ Y, (Instr.sliceAt 113 (.pointer (some ⟨w.heap.size, 0, none⟩)) (some (.int .i64 (i : Int))) none none).run Tryz.prog Y = .ok (.slice (some ⟨w.heap.size, i, none⟩) (65 - i) (65 - i)) Y := fun Y => by
        rw [run_sliceAt_array_l Y 113 ⟨w.heap.size, 0, none⟩ (by kernel_rfl) .i64 (i : Int) (by omega) (by rw [hal]; omega), hal]
        go_simp
        omega
      have hcv2 : (convert 22 9 (.slice (some ⟨w.heap.size, i, none⟩) (65 - i) (65 - i))).run Tryz.prog W = .ok (.string ⟨X.toArray⟩) W := by
        have := run_convert_bytes_back (P := Tryz.prog) W 22 9 5 ⟨w.heap.size, i, none⟩ (65 - i) X Tryz.underlying22 Tryz.underlying5 Tryz.underlying9 (fun j hj => by
          rw [Addr.add_lit]; exact hWx.get hj)
        rw [hlen] at this
        exact this
      have HWk : Hid (Kp w W) := hWk
      clear q1 q2 q3 q4 q5 q6 q7 hX hl hWx hWk hlen hal HQ
      go_wp2_with fail
      go_ret2
      exact ⟨rfl, HWk.out⟩
theorem formatUintL_any (u : Nat) (hu : u < 18446744073709551616) (w : World) (h : w.cell? ⟨2, 15, none⟩ = some (.int .u8 4)) :
    Calls Tryz.prog 66 #[.int .u64 u, .int .i64 16] w fun e w' => e = .returned (.string ⟨(hexS u).toArray⟩) ∧ Kp w w' := by
  go_enter Tryz.func66, Tryz.ntmps66
  go_wp2_with fail
  refine Calls.mono (formatBits_any u hu _ h) ?_
  rintro e w' ⟨rfl, q⟩
  have HQ : Hid _ := q
  clear q
  go_wp2_with fail
  go_ret
  exact ⟨rfl, HQ.out⟩
theorem formatUint_any (u : Nat) (hu : u < 18446744073709551616) (w : World) (h : w.cell? ⟨2, 15, none⟩ = some (.int .u8 4)) :
    Calls Tryz.prog 52 #[.int .u64 u, .int .i64 16] w fun e w' => e = .returned (.string ⟨(hexS u).toArray⟩) ∧ Kp w w' := by
  go_enter Tryz.func52, Tryz.ntmps52
  go_wp2_with fail
  refine Calls.mono (formatUintL_any u hu _ h) ?_
  rintro e w' ⟨rfl, q⟩
  have HQ : Hid _ := q
  clear q
  go_wp2_with fail
  go_ret
  exact ⟨rfl, HQ.out⟩
/-- What stands of the library's tables, behind any call. -/
structure Gl (w : World) : Prop where
  tz : w.cell? ⟨2, 15, none⟩ = some (.int .u8 4)
  tab : Lib.TabIs Tryz.prog w (Rows.patModesRow.named.getD 1 default) .u64 Lib.pow10Tab
  big : 3 < w.heap.size
  max : ∃ m, w.cell? ⟨3, 0, none⟩ = some (.int .i64 m)
end Go.Proofs.YtpahpnajeliodaaGreatDoor
/- Small texts: numbers, sets, bounds. -/
namespace Go.Proofs.YtpahpnajeliodaaGreatDoor
open Go.ChangeShapes Go.WideShapes Go.ChangeAt Go.RowKit
set_option linter.unusedVariables false
set_option linter.unusedSimpArgs false
abbrev str (l : List UInt8) : Value := .string ⟨l.toArray⟩
section
variable {w w1 : World}
theorem tab_kp {name : String} {k : IntKind} {zs : List Int} (h : Lib.TabIs Tryz.prog w name k zs) (q : Kp w w1) : Lib.TabIs Tryz.prog w1 name k zs := by
  unfold Lib.TabIs World.var? at *
  cases hg : Tryz.prog.globalNamed name with
  | none => rw [hg] at h; simp at h
  | some g =>
    rw [hg] at h
    simp only [Option.bind_some] at h ⊢
    rcases Nat.lt_or_ge g w.heap.size with hl | hl
    · rw [q.block g hl]; exact h
    · rw [Array.getElem?_eq_none hl] at h; cases h
theorem Gl.kp (h : Gl w) (q : Kp w w1) : Gl w1 :=
  ⟨kp_cell q h.tz, tab_kp h.tab q, Nat.lt_of_lt_of_le h.big q.size, by obtain ⟨m, hm⟩ := h.max; exact ⟨m, kp_cell q hm⟩⟩
theorem kp_grow (w : World) (k : Nat) (os : Array Obj) : Kp w (Go.Sort.grow (w.drewN k) os) := by
  have e := kp_drewN w k
  refine ⟨e.os, e.tape, e.output, ?_, fun j hj => ?_⟩
  · show w.heap.size ≤ ((w.drewN k).heap ++ os).size
    rw [drewN_heap, Array.size_append]; omega
  · show ((w.drewN k).heap ++ os)[j]? = _
    rw [drewN_heap, Array.getElem?_append_left hj]
theorem itoa_any (n : Int) (h0 : -9223372036854775808 ≤ n) (h1 : n ≤ 9223372036854775807) (g : Gl w) : Calls Tryz.prog 16 #[.int .i64 n] w fun e w' => e = .returned (str (Lib.itoa n)) ∧ Kp w w' := by
  refine Calls.mono (Any.strconv_Itoa Tryz.laysM171 n h0 h1 w g.tab) ?_
  rintro e w' ⟨rfl, k, os, rfl⟩
  exact ⟨rfl, kp_grow w k os⟩
theorem repeat0 (c : Nat) (hc : c ≤ 1000) : Calls Tryz.prog 53 #[str [48], .int .i64 c] w fun e w' => e = .returned (str (Lib.repeatL [48] c)) ∧ Kp w w' :=
  Any.strings_Repeat Tryz.lays105 Tryz.Builder_Extra_105 ⟨#[48]⟩ c w (by omega) (by show 1 * c ≤ _; omega)
theorem hexGo_len (f u : Nat) (acc : List UInt8) : (hexGo f u acc).length ≤ f + acc.length := by
  induction f generalizing u acc with
  | zero => simp [hexGo]
  | succ f ih =>
    unfold hexGo
    split
    · have := ih (u / 16) ((hexC (u % 16)).toUInt8 :: acc)
      simp only [List.length_cons] at this
      omega
    · simp only [List.length_cons]; omega
theorem hexS_len (u : Nat) : (hexS u).length ≤ 17 := by have := hexGo_len 17 u []; exact this
/-- A number by that many hex digits at least. -/
def hexT (u width : Nat) : List UInt8 := Lib.repeatL [48] (width - (hexS u).length) ++ hexS u
theorem hex_any (u width : Nat) (hu : u < 18446744073709551616) (hw : width ≤ 16) (g : Gl w) : Calls Tryz.prog 37 #[.int .u64 u, .int .i64 width] w fun e w' => e = .returned (str (hexT u width)) ∧ Kp w w' := by
  unfold hexT
  have hl := hexS_len u
  go_enter Tryz.func37, Tryz.ntmps37
  go_wp2_with fail
  refine Calls.mono (formatUint_any u hu _ g.tz) ?_
  rintro e w1 ⟨rfl, q⟩
  have HQ : Hid (Kp w w1) := q
  obtain ⟨N, hN⟩ : ∃ N, (hexS u).length = N := ⟨_, rfl⟩
  have hsz : (⟨(hexS u).toArray⟩ : ByteArray).size = N := by rw [Lib.size_eq]; exact hN
  have hmx : max ((width : Int) - (N : Int)) 0 = ((width - N : Nat) : Int) := by omega
  have hA := fun (W : World) => run_string_add_lists (P := Tryz.prog) W (Lib.repeatL [48] (width - N)) (hexS u) (by rw [Lib.repeatL_length]; simp; omega) (by rw [hN]; omega)
  rw [hN] at hl
  have HN : Hid ((hexS u).length = N) := hN
  clear q hN
  go_wp2_with fail
  refine Calls.mono (repeat0 (width - N) (by omega)) ?_
  rintro e w2 ⟨rfl, q⟩
  have HQ2 : Hid (Kp w w2) := kp_trans HQ.out q
  clear q
  go_wp2_with fail
  go_ret
  refine ⟨?_, HQ2.out⟩
  rw [HN.out]
  rfl
def caseL (c : Nat) : List UInt8 := if c = 0 then [97] else if c = 1 then [105] else [109]
theorem caseLetter_any (c : Nat) : Calls Tryz.prog 17 #[.int .u8 c] w fun e w' => e = .returned (str (caseL c)) ∧ w' = w := by
  unfold caseL
  by_cases h0 : c = 0
  · subst h0
    go_enter Tryz.func17, Tryz.ntmps17
    go_wp2
    go_ret
    exact ⟨rfl, rfl⟩
  by_cases h1 : c = 1
  · subst h1
    go_enter Tryz.func17, Tryz.ntmps17
    go_wp2
    go_ret
    exact ⟨rfl, rfl⟩
  rw [if_neg h0, if_neg h1]
  have d0 : ((c : Int) == 0) = false := by simp; omega
  have d1 : ((c : Int) == 1) = false := by simp; omega
  go_enter Tryz.func17, Tryz.ntmps17
  go_wp2
  go_ret
  exact ⟨rfl, rfl⟩
end
end Go.Proofs.YtpahpnajeliodaaGreatDoor
/- Texts of bounds, sets and leaves. -/
namespace Go.Proofs.YtpahpnajeliodaaGreatDoor
open Go.ChangeShapes Go.WideShapes Go.ChangeAt Go.RowKit
set_option linter.unusedVariables false
set_option linter.unusedSimpArgs false
def openT (lz : Bool) : List UInt8 := if lz then [123, 45] else [123]
def timesT (d : Nq) : List UInt8 := openT d.lz ++ Lib.itoa d.mn ++ [44] ++ Lib.itoa d.mx ++ [125]
def setT (s : S4) : List UInt8 := [115] ++ hexT s.a 16 ++ hexT s.b 16 ++ hexT s.c 16 ++ hexT s.d 16
def leafT (d : Nq) : List UInt8 :=
  if d.op = 2 then [98] ++ hexT d.c 2 else if d.op = 3 then [46] else if d.op = 4 then setT d.set else if d.op = 9 then [92] ++ Lib.itoa d.n
  else if d.op = 10 then [94] else if d.op = 11 then [36] else if d.op = 12 then [91] else if d.op = 13 then [93] else if d.op = 14 then [33] else if d.op = 15 then [63] else [101]
/-- A node in a block of its own. -/
def NqBox (n : Nat) (d : Nq) (kv : Value) (w : World) : Prop := w.heap[n]? = some (.cells (d.cells kv).toArray 73 (0, 0))
section
variable {w w1 : World}
theorem NqBox.cell {n : Nat} {d : Nq} {kv : Value} (h : NqBox n d kv w) {j : Nat} {u : Value} (hj : (d.cells kv)[j]? = some u) : w.cell? ⟨n, j, none⟩ = some u := by
  unfold NqBox at h
  rw [cell_at h]; simpa using hj
theorem NqBox.kp {n : Nat} {d : Nq} {kv : Value} (h : NqBox n d kv w) (k : Kp w w1) : NqBox n d kv w1 := by
  have l := (Array.getElem?_eq_some_iff.1 h).1
  unfold NqBox at *; rw [k.block _ l]; exact h
def Sm (n : Int) : Prop := -9223372036854775808 ≤ n ∧ n ≤ 9223372036854775807
theorem itoa_len {n : Int} (h : Sm n) : (Lib.itoa n).length ≤ 21 := Lib.itoa_length_le n h.1 h.2
theorem cat_run {x y z : List UInt8} (h : x ++ y = z) (hz : z.length ≤ 8000000) (W : World) : (Op.stringOp .add ⟨x.toArray⟩ ⟨y.toArray⟩).run Tryz.prog W = .ok (.string ⟨z.toArray⟩) W := by
  subst h
  rw [List.length_append] at hz
  exact run_string_add_lists W x y (by omega) (by omega)
set_option maxHeartbeats 4000000 in
set_option maxRecDepth 100000 in
theorem timesText_any (d : Nq) (kv : Value) (h1 : Sm d.mn) (h2 : Sm d.mx) (g : Gl w) : Calls Tryz.prog 27 #[d.val kv] w fun e w' => e = .returned (str (timesT d)) ∧ Kp w w' := by
  unfold timesT
  have l1 := itoa_len h1
  have l2 := itoa_len h2
  have HG : Hid (Gl w ∧ Sm d.mn ∧ Sm d.mx) := ⟨g, h1, h2⟩
  obtain ⟨oT, hoT⟩ : ∃ oT, openT d.lz = oT := ⟨_, rfl⟩
  have hl0 : oT.length ≤ 2 := by rw [← hoT]; unfold openT; split <;> simp
  rw [hoT]
  have HO : Hid (openT d.lz = oT) := hoT
  obtain ⟨a1, ha1⟩ : ∃ a, oT ++ Lib.itoa d.mn = a := ⟨_, rfl⟩
  obtain ⟨a2, ha2⟩ : ∃ a, a1 ++ [44] = a := ⟨_, rfl⟩
  obtain ⟨a3, ha3⟩ : ∃ a, a2 ++ Lib.itoa d.mx = a := ⟨_, rfl⟩
  obtain ⟨a4, ha4⟩ : ∃ a, a3 ++ [125] = a := ⟨_, rfl⟩
  rw [ha1, ha2, ha3, ha4]
  have e1 : a1.length ≤ 30 := by rw [← ha1, List.length_append]; omega
  have e2 : a2.length ≤ 31 := by rw [← ha2, List.length_append]; simp; omega
  have e3 : a3.length ≤ 60 := by rw [← ha3, List.length_append]; omega
  have e4 : a4.length ≤ 61 := by rw [← ha4, List.length_append]; simp; omega
  have hA1 := cat_run ha1 (by omega)
  have hA2 := cat_run ha2 (by omega)
  have hA3 := cat_run ha3 (by omega)
  have hA4 := cat_run ha4 (by omega)
  have HN : Hid (NqBox w.heap.size d kv (w.alloc (.cells (d.cells kv).toArray 73)).drew ∧ Kp w (w.alloc (.cells (d.cells kv).toArray 73)).drew) := ⟨alloc_new w _, kp_trans (kp_alloc _ _) (kp_drew _)⟩
  clear g h1 h2 hoT ha1 ha2 ha3 ha4 e1 e2 e3 e4
  have rl6 : ∀ w', NqBox w.heap.size d kv w' → w'.cell? ⟨w.heap.size, 6, none⟩ = some (.int .i64 d.mn) := fun _ h => h.cell rfl
  have rl7 : ∀ w', NqBox w.heap.size d kv w' → w'.cell? ⟨w.heap.size, 7, none⟩ = some (.int .i64 d.mx) := fun _ h => h.cell rfl
  unfold Nq.val
  cases hlz : d.lz
  · have hoL : oT = [123] := by rw [← HO.out, hlz]; rfl
    subst hoL
    have HNl : Hid (NqBox w.heap.size d kv (w.alloc (.cells #[.int .u8 d.op, .int .u8 d.c, .int .u64 d.set.a, .int .u64 d.set.b, .int .u64 d.set.c, .int .u64 d.set.d, .int .i64 d.mn, .int .i64 d.mx, .bool false, .int .i64 d.n, kv] 73)).drew ∧ Kp w (w.alloc (.cells #[.int .u8 d.op, .int .u8 d.c, .int .u64 d.set.a, .int .u64 d.set.b, .int .u64 d.set.c, .int .u64 d.set.d, .int .i64 d.mn, .int .i64 d.mx, .bool false, .int .i64 d.n, kv] 73)).drew) := by
      have := HN.out
      unfold Nq.cells at this
      rw [hlz] at this
      exact this
    clear HN
    go_enter Tryz.func27, Tryz.ntmps27
    go_wp2_with fail
    refine wp_region_noPanic ?_
    refine wp_region_held_drew (S := NqBox w.heap.size d kv) (by kernel_rfl) (HNl.out.1) (fun hHeld => ?_)
    refine takeAt 0 (some 6) ?_ rfl rfl (by kernel_rfl) (by kernel_rfl) (by kernel_rfl) (fun _ _ _ h => h) (Or.inl ⟨by rfl, ?_⟩) hHeld ?_
    rotate_left
    · intro w hSw
      go_simp <;> with_reducible rfl
    try simp only [Act.put, List.setIfInBounds_toArray, List.set_cons_zero, List.set_cons_succ]
    refine takeAt 1 (some 7) ?_ rfl rfl (by kernel_rfl) (by kernel_rfl) (by kernel_rfl) (fun _ _ _ h => h) (Or.inl ⟨by rfl, ?_⟩) hHeld ?_
    rotate_left
    · intro w hSw
      go_simp <;> with_reducible rfl
    try simp only [Act.put, List.setIfInBounds_toArray, List.set_cons_zero, List.set_cons_succ]
    refine takeAt 2 (some 8) ?_ rfl rfl (by kernel_rfl) (by kernel_rfl) (by kernel_rfl) (fun _ _ _ h => h) (Or.inl ⟨by rfl, ?_⟩) hHeld ?_
    rotate_left
    · intro w hSw
      go_simp <;> with_reducible rfl
    try simp only [Act.put, List.setIfInBounds_toArray, List.set_cons_zero, List.set_cons_succ]
    refine takeAt 6 (some 12) ?_ rfl rfl (by kernel_rfl) (by kernel_rfl) (by kernel_rfl) (fun _ _ _ h => h) (Or.inl ⟨by rfl, ?_⟩) hHeld ?_
    rotate_left
    · intro w hSw
      go_simp <;> with_reducible rfl
    try simp only [Act.put, List.setIfInBounds_toArray, List.set_cons_zero, List.set_cons_succ]
    refine takeAt 7 (some 13) ?_ rfl rfl (by kernel_rfl) (by kernel_rfl) (by kernel_rfl) (fun _ _ _ h => h) (Or.inl ⟨by rfl, ?_⟩) hHeld ?_
    rotate_left
    · intro w hSw
      go_simp <;> with_reducible rfl
    try simp only [Act.put, List.setIfInBounds_toArray, List.set_cons_zero, List.set_cons_succ]
    refine callAt 3 9 16 (vals := #[.int .i64 d.mn]) (by kernel_rfl) rfl rfl rfl rfl (by simp [Act.eval]) Tryz.func16 (by kernel_rfl) (by kernel_rfl) ?_
    refine Calls.mono (itoa_any d.mn HG.out.2.1.1 HG.out.2.1.2 (HG.out.1.kp HNl.out.2)) ?_
    rintro e w1 ⟨rfl, q⟩
    have H1 : Hid (NqBox w.heap.size d kv w1 ∧ Kp w w1) := ⟨HNl.out.1.kp q, kp_trans HNl.out.2 q⟩
    clear q
    refine ⟨_, rfl, H1.out.1, fun hHeld => ?_⟩
    try simp only [Act.put, List.setIfInBounds_toArray, List.set_cons_zero, List.set_cons_succ]
    refine takeAt 4 (some 10) ?_ rfl rfl (by kernel_rfl) (by kernel_rfl) (by kernel_rfl) (fun _ _ _ h => h) (Or.inl ⟨by rfl, ?_⟩) hHeld ?_
    rotate_left
    · intro w hSw
      go_simp <;> with_reducible rfl
    try simp only [Act.put, List.setIfInBounds_toArray, List.set_cons_zero, List.set_cons_succ]
    refine takeAt 5 (some 11) ?_ rfl rfl (by kernel_rfl) (by kernel_rfl) (by kernel_rfl) (fun _ _ _ h => h) (Or.inl ⟨by rfl, ?_⟩) hHeld ?_
    rotate_left
    · intro w hSw
      go_simp <;> with_reducible rfl
    try simp only [Act.put, List.setIfInBounds_toArray, List.set_cons_zero, List.set_cons_succ]
    refine callAt 8 14 16 (vals := #[.int .i64 d.mx]) (by kernel_rfl) rfl rfl rfl rfl (by simp [Act.eval]) Tryz.func16 (by kernel_rfl) (by kernel_rfl) ?_
    refine Calls.mono (itoa_any d.mx HG.out.2.2.1 HG.out.2.2.2 (HG.out.1.kp H1.out.2)) ?_
    rintro e w2 ⟨rfl, q⟩
    have H2 : Hid (NqBox w.heap.size d kv w2 ∧ Kp w w2) := ⟨H1.out.1.kp q, kp_trans H1.out.2 q⟩
    clear q
    refine ⟨_, rfl, H2.out.1, fun hHeld => ?_⟩
    try simp only [Act.put, List.setIfInBounds_toArray, List.set_cons_zero, List.set_cons_succ]
    refine takeAt 9 (some 15) ?_ rfl rfl (by kernel_rfl) (by kernel_rfl) (by kernel_rfl) (fun _ _ _ h => h) (Or.inl ⟨by rfl, ?_⟩) hHeld ?_
    rotate_left
    · intro w hSw
      go_simp <;> with_reducible rfl
    try simp only [Act.put, List.setIfInBounds_toArray, List.set_cons_zero, List.set_cons_succ]
    refine takeAt 10 (some 16) ?_ rfl rfl (by kernel_rfl) (by kernel_rfl) (by kernel_rfl) (fun _ _ _ h => h) (Or.inl ⟨by rfl, ?_⟩) hHeld ?_
    rotate_left
    · intro w hSw
      go_simp <;> with_reducible rfl
    try simp only [Act.put, List.setIfInBounds_toArray, List.set_cons_zero, List.set_cons_succ]
    refine takeAt 11 (some 2) ?_ rfl rfl (by kernel_rfl) (by kernel_rfl) (by kernel_rfl) (fun _ _ _ h => h) (Or.inl ⟨by rfl, ?_⟩) hHeld ?_
    rotate_left
    · intro w hSw
      go_simp <;> with_reducible rfl
    try simp only [Act.put, List.setIfInBounds_toArray, List.set_cons_zero, List.set_cons_succ]
    refine wpAnyH_done (by kernel_rfl) ?_ _
    refine NoPanic.normal ?_
    go_wp2_with fail
    go_ret
    exact ⟨rfl, H2.out.2⟩
  · have hoL : oT = [123, 45] := by rw [← HO.out, hlz]; rfl
    subst hoL
    have HNl : Hid (NqBox w.heap.size d kv (w.alloc (.cells #[.int .u8 d.op, .int .u8 d.c, .int .u64 d.set.a, .int .u64 d.set.b, .int .u64 d.set.c, .int .u64 d.set.d, .int .i64 d.mn, .int .i64 d.mx, .bool true, .int .i64 d.n, kv] 73)).drew ∧ Kp w (w.alloc (.cells #[.int .u8 d.op, .int .u8 d.c, .int .u64 d.set.a, .int .u64 d.set.b, .int .u64 d.set.c, .int .u64 d.set.d, .int .i64 d.mn, .int .i64 d.mx, .bool true, .int .i64 d.n, kv] 73)).drew) := by
      have := HN.out
      unfold Nq.cells at this
      rw [hlz] at this
      exact this
    clear HN
    go_enter Tryz.func27, Tryz.ntmps27
    go_wp2_with fail
    refine wp_region_noPanic ?_
    refine wp_region_held_drew (S := NqBox w.heap.size d kv) (by kernel_rfl) (HNl.out.1) (fun hHeld => ?_)
    refine takeAt 0 (some 6) ?_ rfl rfl (by kernel_rfl) (by kernel_rfl) (by kernel_rfl) (fun _ _ _ h => h) (Or.inl ⟨by rfl, ?_⟩) hHeld ?_
    rotate_left
    · intro w hSw
      go_simp <;> with_reducible rfl
    try simp only [Act.put, List.setIfInBounds_toArray, List.set_cons_zero, List.set_cons_succ]
    refine takeAt 1 (some 7) ?_ rfl rfl (by kernel_rfl) (by kernel_rfl) (by kernel_rfl) (fun _ _ _ h => h) (Or.inl ⟨by rfl, ?_⟩) hHeld ?_
    rotate_left
    · intro w hSw
      go_simp <;> with_reducible rfl
    try simp only [Act.put, List.setIfInBounds_toArray, List.set_cons_zero, List.set_cons_succ]
    refine takeAt 2 (some 8) ?_ rfl rfl (by kernel_rfl) (by kernel_rfl) (by kernel_rfl) (fun _ _ _ h => h) (Or.inl ⟨by rfl, ?_⟩) hHeld ?_
    rotate_left
    · intro w hSw
      go_simp <;> with_reducible rfl
    try simp only [Act.put, List.setIfInBounds_toArray, List.set_cons_zero, List.set_cons_succ]
    refine takeAt 6 (some 12) ?_ rfl rfl (by kernel_rfl) (by kernel_rfl) (by kernel_rfl) (fun _ _ _ h => h) (Or.inl ⟨by rfl, ?_⟩) hHeld ?_
    rotate_left
    · intro w hSw
      go_simp <;> with_reducible rfl
    try simp only [Act.put, List.setIfInBounds_toArray, List.set_cons_zero, List.set_cons_succ]
    refine takeAt 7 (some 13) ?_ rfl rfl (by kernel_rfl) (by kernel_rfl) (by kernel_rfl) (fun _ _ _ h => h) (Or.inl ⟨by rfl, ?_⟩) hHeld ?_
    rotate_left
    · intro w hSw
      go_simp <;> with_reducible rfl
    try simp only [Act.put, List.setIfInBounds_toArray, List.set_cons_zero, List.set_cons_succ]
    refine callAt 3 9 16 (vals := #[.int .i64 d.mn]) (by kernel_rfl) rfl rfl rfl rfl (by simp [Act.eval]) Tryz.func16 (by kernel_rfl) (by kernel_rfl) ?_
    refine Calls.mono (itoa_any d.mn HG.out.2.1.1 HG.out.2.1.2 (HG.out.1.kp HNl.out.2)) ?_
    rintro e w1 ⟨rfl, q⟩
    have H1 : Hid (NqBox w.heap.size d kv w1 ∧ Kp w w1) := ⟨HNl.out.1.kp q, kp_trans HNl.out.2 q⟩
    clear q
    refine ⟨_, rfl, H1.out.1, fun hHeld => ?_⟩
    try simp only [Act.put, List.setIfInBounds_toArray, List.set_cons_zero, List.set_cons_succ]
    refine takeAt 4 (some 10) ?_ rfl rfl (by kernel_rfl) (by kernel_rfl) (by kernel_rfl) (fun _ _ _ h => h) (Or.inl ⟨by rfl, ?_⟩) hHeld ?_
    rotate_left
    · intro w hSw
      go_simp <;> with_reducible rfl
    try simp only [Act.put, List.setIfInBounds_toArray, List.set_cons_zero, List.set_cons_succ]
    refine takeAt 5 (some 11) ?_ rfl rfl (by kernel_rfl) (by kernel_rfl) (by kernel_rfl) (fun _ _ _ h => h) (Or.inl ⟨by rfl, ?_⟩) hHeld ?_
    rotate_left
    · intro w hSw
      go_simp <;> with_reducible rfl
    try simp only [Act.put, List.setIfInBounds_toArray, List.set_cons_zero, List.set_cons_succ]
    refine callAt 8 14 16 (vals := #[.int .i64 d.mx]) (by kernel_rfl) rfl rfl rfl rfl (by simp [Act.eval]) Tryz.func16 (by kernel_rfl) (by kernel_rfl) ?_
    refine Calls.mono (itoa_any d.mx HG.out.2.2.1 HG.out.2.2.2 (HG.out.1.kp H1.out.2)) ?_
    rintro e w2 ⟨rfl, q⟩
    have H2 : Hid (NqBox w.heap.size d kv w2 ∧ Kp w w2) := ⟨H1.out.1.kp q, kp_trans H1.out.2 q⟩
    clear q
    refine ⟨_, rfl, H2.out.1, fun hHeld => ?_⟩
    try simp only [Act.put, List.setIfInBounds_toArray, List.set_cons_zero, List.set_cons_succ]
    refine takeAt 9 (some 15) ?_ rfl rfl (by kernel_rfl) (by kernel_rfl) (by kernel_rfl) (fun _ _ _ h => h) (Or.inl ⟨by rfl, ?_⟩) hHeld ?_
    rotate_left
    · intro w hSw
      go_simp <;> with_reducible rfl
    try simp only [Act.put, List.setIfInBounds_toArray, List.set_cons_zero, List.set_cons_succ]
    refine takeAt 10 (some 16) ?_ rfl rfl (by kernel_rfl) (by kernel_rfl) (by kernel_rfl) (fun _ _ _ h => h) (Or.inl ⟨by rfl, ?_⟩) hHeld ?_
    rotate_left
    · intro w hSw
      go_simp <;> with_reducible rfl
    try simp only [Act.put, List.setIfInBounds_toArray, List.set_cons_zero, List.set_cons_succ]
    refine takeAt 11 (some 2) ?_ rfl rfl (by kernel_rfl) (by kernel_rfl) (by kernel_rfl) (fun _ _ _ h => h) (Or.inl ⟨by rfl, ?_⟩) hHeld ?_
    rotate_left
    · intro w hSw
      go_simp <;> with_reducible rfl
    try simp only [Act.put, List.setIfInBounds_toArray, List.set_cons_zero, List.set_cons_succ]
    refine wpAnyH_done (by kernel_rfl) ?_ _
    refine NoPanic.normal ?_
    go_wp2_with fail
    go_ret
    exact ⟨rfl, H2.out.2⟩
end
end Go.Proofs.YtpahpnajeliodaaGreatDoor
