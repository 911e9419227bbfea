/- Texts that the proof of the law stands on: AI, QA, QShelf, AG, AJ, AK, AL, AM, AN. -/
import Derived.Test.YtfgapmfjfienhaaGreatDoorPartB
import Derived.Lib.Fields
import Derived.Ground.NamesProg
import Derived.Ground.SlsfProg
import Derived.Shelf.Strings.Fields
import Derived.Shelf.Strconv.Clone
import Derived.Shelf.SlSortCmp.WholeK
import Derived.Test.YtfgapmfjfienhaaGreatDoorProg
import Derived.Lib.AppendStr
import Derived.Great.Walk
/- Addresses as a list of bytes is read: plainly. -/
namespace Go.Proofs.YtfgapmfjfienhaaGreatDoor
open Go.ChangeShapes Go.WideShapes Go.ChangeAt Go.RowKit Go.Maps Go.MapKept
set_option linter.unusedVariables false
set_option linter.unusedSimpArgs false
set_option maxRecDepth 100000
def dgB (c : UInt8) : Bool := digF c.toNat
def bkB (c : UInt8) : Bool := blkF c.toNat
def ahB (c : UInt8) : Bool := aheF c.toNat
/-- Up to a sign: the text, and what is left behind it. -/
def upL (g : UInt8) : List UInt8 → List UInt8 × List UInt8
  | [] => ([], [])
  | [a] => if a = 92 then ([92], []) else if a = g then ([], []) else ([a], [])
  | a :: c :: r =>
    if a = 92 then ((if c = g then [g] else [92, c]) ++ (upL g r).1, (upL g r).2)
    else if a = g then ([], c :: r)
    else (a :: (upL g (c :: r)).1, (upL g (c :: r)).2)
/-- An address, plainly. -/
structure AdP where
  kd : Nat := 0
  n : Nat := 0
  c : Nat := 0
  pt : List UInt8 := []
  off : Int := 0
  semi : Bool := false
  deriving DecidableEq
def numL (l : List UInt8) : Option (Option Nat × List UInt8) :=
  let d := l.takeWhile dgB
  if d.length = 0 then some (none, l) else if 9 < d.length then none else some (some ((Lib.atoi d).getD 0).toNat, l.drop d.length)
def offL : Nat → List UInt8 → Int → Option (Int × List UInt8)
  | 0, _, _ => none
  | f + 1, l, acc =>
    match l with
    | [] => some (acc, [])
    | a :: r =>
      if a = 43 ∨ a = 45 then
        match numL r with
        | none => none
        | some (m, e) => offL f e (acc + (if a = 45 then -((m.getD 1 : Nat) : Int) else ((m.getD 1 : Nat) : Int)))
      else some (acc, a :: r)
def plainL (l : List UInt8) : Option (AdP × List UInt8) :=
  match numL l with
  | none => none
  | some (some m, r) => some ({ kd := 1, n := m }, r)
  | some (none, _) =>
    match l with
    | [] => some ({}, [])
    | a :: r =>
      if a = 46 then some ({ kd := 2 }, r) else if a = 36 then some ({ kd := 3 }, r)
      else if a = 39 then (match r with
        | [] => none
        | c :: r' => some ({ kd := 4, c := c.toNat }, r'))
      else if a = 47 then some ({ kd := 5, pt := (upL 47 r).1 }, (upL 47 r).2)
      else if a = 63 then some ({ kd := 6, pt := (upL 63 r).1 }, (upL 63 r).2)
      else some ({}, a :: r)
def addrL (l : List UInt8) : Option (AdP × List UInt8) :=
  match plainL l with
  | none => none
  | some (a, r) =>
    match offL (r.length + 1) r 0 with
    | none => none
    | some (o, r') => some ({ a with off := o, kd := if a.kd = 0 ∧ r'.length < r.length then 2 else a.kd }, r')
/-- A sign between, and what is left. -/
def signL : List UInt8 → Option UInt8 × List UInt8
  | [] => (none, [])
  | c :: t => if c = 44 ∨ c = 59 then (some c, t) else (none, c :: t)
def adsL : Nat → List UInt8 → List AdP → Option (List AdP × List UInt8)
  | 0, _, _ => none
  | f + 1, l, acc =>
    match addrL l with
    | none => none
    | some (a, r) =>
      let q := signL (r.dropWhile bkB)
      let r3 := q.2.dropWhile bkB
      if a.kd = 0 ∧ q.1 = none ∧ acc = [] then some ([], r3)
      else
        let a' : AdP := { a with kd := if a.kd = 0 then 2 else a.kd, semi := decide (q.1 = some 59) }
        if q.1 = none then some (acc ++ [a'], r3) else adsL f r3 (acc ++ [a'])
/-- The addresses with which a text begins, and what is left. -/
def parL (l : List UInt8) : Option (List AdP × List UInt8) :=
  match l.dropWhile ahB with
  | [] => adsL 1 [] []
  | a :: t => if a = 37 then some ([{ kd := 1, n := 1 }, { kd := 3 }], t.dropWhile bkB) else adsL (t.length + 2) (a :: t) []
/-! ## What is left is an end of the text -/
/-- At place k of s the list l is left. -/
def Lf (s : ByteArray) (k : Nat) (l : List UInt8) : Prop := k ≤ s.size ∧ s.data.toList.drop k = l
section
variable {s : ByteArray} {k j : Nat} {l r : List UInt8} {a c : UInt8}
theorem Lf.len (h : Lf s k l) : l.length = s.size - k := by rw [← h.2, List.length_drop, ← Lib.size_eq]
theorem Lf.pos (h : Lf s k l) : k = s.size - l.length := by have := h.len; have := h.1; omega
theorem Lf.end_ (h : Lf s k []) : k = s.size := by have := h.len; have := h.1; simp at *; omega
theorem Lf.cons (h : Lf s k (a :: r)) : k < s.size ∧ byteAt s k = a.toNat ∧ Lf s (k + 1) r := by
  have hl := h.len
  have h1 := h.1
  simp only [List.length_cons] at hl
  have hlt : k < s.data.toList.length := by rw [← Lib.size_eq]; omega
  have e := List.drop_eq_getElem_cons hlt
  rw [h.2] at e
  obtain ⟨e1, e2⟩ := List.cons.inj e
  refine ⟨by omega, byteAt_some (by rw [List.getElem?_eq_getElem hlt, e1]), by omega, e2.symm⟩
theorem Lf.suff (h : Lf s k l) {d : List UInt8} (e : l = d ++ r) : Lf s (k + d.length) r := by
  have hl := h.len
  rw [e, List.length_append] at hl
  have h1 := h.1
  refine ⟨by omega, ?_⟩
  rw [← List.drop_drop, h.2, e, List.drop_left]
theorem Lf.suf (h : Lf s k l) (q : r <:+ l) : Lf s (s.size - r.length) r := by
  obtain ⟨d, rfl⟩ := q
  have h2 := h.suff rfl
  rw [← h2.pos]; exact h2
theorem Lf.start (s : ByteArray) : Lf s 0 s.data.toList := ⟨Nat.zero_le _, rfl⟩
theorem Lf.span (h : Lf s k l) (f : Nat → Bool) : spanE f s k = k + (l.takeWhile fun c => f c.toNat).length ∧ Lf s (spanE f s k) (l.dropWhile fun c => f c.toNat) ∧ (s.extract k (spanE f s k)).data.toList = l.takeWhile fun c => f c.toNat := by
  have e : spanE f s k = k + (l.takeWhile fun c => f c.toNat).length := by unfold spanE; rw [h.2]
  have e2 := h.suff (d := l.takeWhile fun c => f c.toNat) (r := l.dropWhile fun c => f c.toNat) (List.takeWhile_append_dropWhile).symm
  refine ⟨e, by rw [e]; exact e2, ?_⟩
  rw [e, ByteArray.data_extract, Array.toList_extract, List.extract_eq_take_drop, h.2, Nat.add_sub_cancel_left]
  have q : ∀ a d : List UInt8, a ++ d = l → l.take a.length = a := fun a d e => by rw [← e]; exact List.take_left
  exact q _ _ (List.takeWhile_append_dropWhile (p := fun c : UInt8 => f c.toNat) (l := l))
end
theorem take_drop {p : UInt8 → Bool} : ∀ l : List UInt8, l.drop (l.takeWhile p).length = l.dropWhile p
  | [] => rfl
  | a :: r => by
    by_cases q : p a = true
    · rw [List.takeWhile_cons, if_pos q, List.dropWhile_cons, if_pos q]; simpa using take_drop r
    · rw [List.takeWhile_cons, if_neg q, List.dropWhile_cons, if_neg q]; rfl
theorem tw_all {p : UInt8 → Bool} : ∀ (l : List UInt8) {c : UInt8}, c ∈ l.takeWhile p → p c = true
  | [], c, h => by simp at h
  | a :: r, c, h => by
    by_cases q : p a = true
    · rw [List.takeWhile_cons, if_pos q, List.mem_cons] at h
      rcases h with rfl | h
      · exact q
      · exact tw_all r h
    · rw [List.takeWhile_cons, if_neg q] at h; simp at h
theorem upL_suf (g : UInt8) : ∀ l : List UInt8, (upL g l).2 <:+ l
  | [] => List.suffix_refl _
  | [a] => by unfold upL; split; · exact List.nil_suffix
              split <;> exact List.nil_suffix
  | a :: c :: r => by
    unfold upL
    split
    · exact (upL_suf g r).trans (⟨[a, c], rfl⟩)
    · split
      · exact ⟨[a], rfl⟩
      · exact (upL_suf g (c :: r)).trans ⟨[a], rfl⟩
theorem numL_suf {l r : List UInt8} {m : Option Nat} (h : numL l = some (m, r)) : r <:+ l := by
  unfold numL at h
  simp only at h
  split at h
  · cases h; exact List.suffix_refl _
  · split at h
    · cases h
    · cases h; exact List.drop_suffix _ _
theorem offL_suf : ∀ (f : Nat) (l : List UInt8) (acc : Int) {o : Int} {r : List UInt8}, offL f l acc = some (o, r) → r <:+ l
  | 0, _, _, _, _, h => by cases h
  | f + 1, [], acc, o, r, h => by simp [offL] at h; obtain ⟨_, rfl⟩ := h; exact List.suffix_refl _
  | f + 1, a :: l, acc, o, r, h => by
    unfold offL at h
    simp only at h
    split at h
    · split at h
      · cases h
      · rename_i m e hm
        exact ((offL_suf f e _ h).trans (numL_suf hm)).trans ⟨[a], rfl⟩
    · cases h; exact List.suffix_refl _
theorem numV_L {s : ByteArray} {k : Nat} {l : List UInt8} (h : Lf s k l) : numV s k = (numL l).map fun p => (p.1, s.size - p.2.length) := by
  obtain ⟨e, h2, h3⟩ := h.span digF
  have hd : (l.takeWhile fun c => digF c.toNat) = l.takeWhile dgB := rfl
  have hl := h.len
  have hk := h.1
  unfold numV numL
  simp only
  rw [e] at h2 h3 ⊢
  rw [hd] at h2 h3 ⊢
  by_cases c0 : (l.takeWhile dgB).length = 0
  · rw [if_pos (by omega), if_pos c0]
    show some (none, k) = some (none, s.size - l.length)
    rw [← h.pos]
  · rw [if_neg (by omega), if_neg c0]
    by_cases c9 : 9 < (l.takeWhile dgB).length
    · rw [if_pos (by omega), if_pos c9]; rfl
    · rw [if_neg (by omega), if_neg c9, h3]
      show some (_, _) = some (_, s.size - (l.drop (l.takeWhile dgB).length).length)
      rw [take_drop]
      have := h2.pos
      have e2 : (l.dropWhile fun c => digF c.toNat) = l.dropWhile dgB := rfl
      rw [e2] at this
      rw [← this]
theorem offF_L : ∀ (f : Nat) {s : ByteArray} {k : Nat} {l : List UInt8} (acc : Int), Lf s k l → offF s f k acc = (offL f l acc).map fun p => (p.1, s.size - p.2.length)
  | 0, s, k, l, acc, h => rfl
  | f + 1, s, k, [], acc, h => by
    have e := h.end_
    unfold offF offL
    rw [if_neg (by omega)]
    show some (acc, k) = some (acc, s.size - 0)
    rw [e]; rfl
  | f + 1, s, k, a :: r, acc, h => by
    obtain ⟨h1, h2, h3⟩ := h.cons
    have e43 : (byteAt s k = 43 ∨ byteAt s k = 45) ↔ (a = 43 ∨ a = 45) := by
      rw [h2]
      constructor
      · rintro (q | q)
        · exact .inl (UInt8.toNat_inj.1 q)
        · exact .inr (UInt8.toNat_inj.1 q)
      · rintro (rfl | rfl)
        · exact .inl rfl
        · exact .inr rfl
    unfold offF offL
    simp only
    by_cases c : a = 43 ∨ a = 45
    · rw [if_pos ⟨h1, e43.2 c⟩, if_pos c, numV_L h3]
      cases hn : numL r with
      | none => rfl
      | some p =>
        obtain ⟨m, e⟩ := p
        simp only [Option.map_some]
        have e45 : (byteAt s k = 45) ↔ (a = 45) := by
          rw [h2]
          exact ⟨fun q => UInt8.toNat_inj.1 q, fun q => by rw [q]; rfl⟩
        rw [offF_L f _ (h3.suf (numL_suf hn))]
        by_cases c5 : a = 45
        · rw [if_pos (e45.2 c5), if_pos c5]
        · rw [if_neg (fun q => c5 (e45.1 q)), if_neg c5]
    · rw [if_neg (fun q => c (e43.1 q.2)), if_neg c]
      show some (acc, k) = some (acc, s.size - (a :: r).length)
      rw [← h.pos]
theorem numL_none {l r : List UInt8} (h : numL l = some (none, r)) : r = l := by
  unfold numL at h
  simp only at h
  split at h
  · cases h; rfl
  · split at h <;> cases h
theorem plainL_suf {l r : List UInt8} {a : AdP} (h : plainL l = some (a, r)) : r <:+ l := by
  unfold plainL at h
  split at h
  · cases h
  · rename_i hn
    cases h
    exact numL_suf hn
  · split at h
    · cases h; exact List.suffix_refl _
    · rename_i x t _
      have ht : t <:+ x :: t := ⟨[x], rfl⟩
      split at h
      · cases h; exact ht
      · split at h
        · cases h; exact ht
        · split at h
          · split at h
            · cases h
            · rename_i y t' _
              cases h; exact ⟨[x, y], rfl⟩
          · split at h
            · cases h; exact (upL_suf _ _).trans ht
            · split at h
              · cases h; exact (upL_suf _ _).trans ht
              · cases h; exact List.suffix_refl _
theorem addrL_suf {l r : List UInt8} {a : AdP} (h : addrL l = some (a, r)) : r <:+ l := by
  unfold addrL at h
  split at h
  · cases h
  · rename_i a0 r0 h0
    split at h
    · cases h
    · rename_i o r1 h1
      cases h
      exact (offL_suf _ _ _ h1).trans (plainL_suf h0)
theorem dropW_suf {p : UInt8 → Bool} (l : List UInt8) : l.dropWhile p <:+ l := List.dropWhile_suffix p
theorem signL_suf (l : List UInt8) : (signL l).2 <:+ l := by
  cases l with
  | nil => exact List.suffix_refl _
  | cons c t =>
    unfold signL
    simp only
    split
    · exact ⟨[c], rfl⟩
    · exact List.suffix_refl _
/-- An address is far from the bounds: what is read of at most 1000000 bytes. -/
theorem numL_lt {l r : List UInt8} {m : Nat} (h : numL l = some (some m, r)) : m < 1000000000 := by
  unfold numL at h
  simp only at h
  split at h
  · cases h
  · rename_i h0
    split at h
    · cases h
    · rename_i h9
      cases h
      have hne : l.takeWhile dgB ≠ [] := by intro e; rw [e] at h0; exact h0 rfl
      obtain ⟨n, h1, h2⟩ := atoi_some hne (fun c hc => by
        have : dgB c = true := tw_all _ hc
        exact digF_in this)
      rw [h1]
      show (((n : Int)).toNat) < _
      have : 10 ^ (l.takeWhile dgB).length ≤ 10 ^ 9 := Nat.pow_le_pow_right (by decide) (by omega)
      simp
      omega
end Go.Proofs.YtfgapmfjfienhaaGreatDoor
/- A command xs a list of bytes is read: plainly. -/
namespace Go.Proofs.YtfgapmfjfienhaaGreatDoor
open Go.ChangeShapes Go.WideShapes Go.ChangeAt Go.RowKit Go.Maps Go.MapKept
set_option linter.unusedVariables false
set_option linter.unusedSimpArgs false
set_option maxRecDepth 100000
/-- What is read behind a name. -/
inductive Fl
  | regnum | dest | num | reg | mark | subst | visits | keys | nothing | shift | again
  deriving DecidableEq
/-- What a word says. -/
structure Ent where
  name : List UInt8
  place : Nat
  bold : Bool
  fl : Fl
  deriving DecidableEq
/-- The rows, xs they are written. -/
def rowsC : List (List UInt8 × Bool × Fl) := [
  ([100, 32, 100, 101, 108, 101, 116, 101], true, .regnum),
  ([109, 32, 109, 111, 118, 101], false, .dest),
  ([116, 32, 99, 111, 32, 99, 111, 112, 121], false, .dest),
  ([106, 32, 106, 111, 105, 110], true, .num),
  ([121, 32, 121, 97, 110, 107], true, .regnum),
  ([112, 117, 32, 112, 117, 116], true, .reg),
  ([107, 32, 109, 97, 114, 107], false, .mark),
  ([115, 32, 115, 117, 98, 115, 116, 105, 116, 117, 116, 101], false, .subst),
  ([103, 32, 103, 108, 111, 98, 97, 108], true, .visits),
  ([118, 32, 118, 103, 108, 111, 98, 97, 108], false, .visits),
  ([110, 111, 114, 109, 32, 110, 111, 114, 109, 97, 108], true, .keys),
  ([117, 32, 117, 110, 100, 111], true, .num),
  ([114, 101, 100, 32, 114, 101, 100, 111], false, .nothing),
  ([101, 97, 114, 108, 105, 101, 114], false, .num),
  ([108, 97, 116, 101, 114], false, .num),
  ([112, 32, 112, 114, 105, 110, 116], false, .num),
  ([62], false, .shift),
  ([60], false, .shift),
  ([38, 38], false, .again),
  ([38], false, .again),
  ([126], false, .again),
  ([64], false, .reg),
  ([61], false, .num)]
/-- The words of a row. -/
def wordsC (l : List UInt8) : List (List UInt8) := Lib.fields l
def tabR : Nat → List (List UInt8 × Bool × Fl) → List (List UInt8 × Ent)
  | _, [] => []
  | p, (t, b, f) :: r => (wordsC t).map (fun x => (x, { name := (wordsC t).headD [], place := p, bold := b, fl := f })) ++ tabR (p + 1) r
/-- All words, in their order. -/
def tabC : List (List UInt8 × Ent) := tabR 0 rowsC
def tabF (x : List UInt8) : Option Ent := (tabC.find? fun p => p.1 == x).map (·.2)
/-- A command, plainly. -/
structure CmP where
  rg : List AdP := []
  name : List UInt8 := []
  bang : Bool := false
  reg : Nat := 0
  cnt : Int := -1
  dest : List AdP := []
  pat : List UInt8 := []
  rep : List UInt8 := []
  flags : List UInt8 := []
  arg : List UInt8 := []
  deriving DecidableEq
def blkL (l : List UInt8) : List UInt8 := l.dropWhile bkB
def oneL (p : Nat → Bool) : List UInt8 → Option UInt8 × List UInt8
  | [] => (none, [])
  | a :: r => if p a.toNat = true then (some a, r) else (none, a :: r)
def anyF (c : Nat) : Bool := true
def bldF (c : Nat) : Bool := c == 33
def rgsF (c : Nat) : Bool := !digF c
def flgF (c : Nat) : Bool := c == 38 || c == 99 || c == 101 || c == 103 || c == 105 || c == 73 || c == 110
def nosF (c : Nat) : Bool := c == 34 || c == 124 || c == 92 || c == 38 || c == 35 || c == 33
def sgnF (c : Nat) : Bool := !isB 97 c && (!digF c && (!blkF c && !nosF c))
def flB (c : UInt8) : Bool := flgF c.toNat
/-- What is read: an error, or 0; the command; what is left. -/
abbrev Out := Nat × CmP × List UInt8
def numberC (c : CmP) (l : List UInt8) : Out :=
  let l1 := blkL l
  let d := l1.takeWhile dgB
  if d.length = 0 then (0, c, l1) else if 9 < d.length then (151, c, l1.dropWhile dgB) else (0, { c with cnt := (Lib.atoi d).getD 0 }, l1.dropWhile dgB)
def registerC (c : CmP) (l : List UInt8) : Out :=
  let q := oneL rgsF (blkL l)
  (0, { c with reg := (q.1.map UInt8.toNat).getD 0 }, q.2)
def regnumC (c : CmP) (l : List UInt8) : Out :=
  let q := registerC c l
  numberC q.2.1 q.2.2
def markC (c : CmP) (l : List UInt8) : Out :=
  let q := oneL anyF (blkL l)
  ((if q.1 = none then 151 else 0), { c with reg := (q.1.map UInt8.toNat).getD 0 }, q.2)
def destC (c : CmP) (l : List UInt8) : Out :=
  match parL l with
  | none => (141, c, l)
  | some (xs, r) => if xs.length = 1 then (0, { c with dest := xs }, r) else (141, c, r)
def shiftC (c : CmP) (l : List UInt8) : Out :=
  numberC { c with arg := c.name ++ l.takeWhile (fun a => a == c.name.headD 0) } (l.dropWhile fun a => a == c.name.headD 0)
def againC (c : CmP) (l : List UInt8) : Out :=
  let l1 := blkL l
  numberC { c with flags := l1.takeWhile flB } (l1.dropWhile flB)
def substC (c : CmP) (l : List UInt8) : Out :=
  let q := oneL sgnF (blkL l)
  match q.1 with
  | none => againC c q.2
  | some g =>
    let p := upL g q.2
    let x := upL g p.2
    againC { c with pat := p.1, rep := x.1, arg := [61] } x.2
def visitsC (c : CmP) (l : List UInt8) : Out :=
  let q := oneL sgnF (blkL l)
  match q.1 with
  | none => (150, c, q.2)
  | some g =>
    let p := upL g q.2
    (0, { c with pat := p.1, arg := if p.2 = [] then [112] else p.2 }, [])
def keysC (c : CmP) (l : List UInt8) : Out :=
  let r := (oneL blkF l).2
  if r = [] then (151, c, []) else (0, { c with arg := r }, [])
def followC : Fl → CmP → List UInt8 → Out
  | .regnum => regnumC
  | .dest => destC
  | .num => numberC
  | .reg => registerC
  | .mark => markC
  | .subst => substC
  | .visits => visitsC
  | .keys => keysC
  | .nothing => fun c l => (0, c, l)
  | .shift => shiftC
  | .again => againC
/-- The longest word that comes and is a name. -/
def wordG : Nat → List UInt8 → Option (Ent × List UInt8)
  | 0, _ => none
  | n + 1, l => match tabF (l.take (n + 1)) with
    | some e => some (e, l.drop (n + 1))
    | none => wordG n l
def wordL (l : List UInt8) : Option (Ent × List UInt8) := wordG (min l.length 10) l
def readC (l : List UInt8) : Nat × CmP :=
  match parL l with
  | none => (141, {})
  | some (xs, r) =>
    if r = [] then (0, { rg := xs })
    else match wordL r with
      | none => (150, {})
      | some (e, r1) =>
        let q := if e.bold then oneL bldF r1 else (none, r1)
        let x := followC e.fl { rg := xs, name := e.name, bang := q.1.isSome } q.2
        if x.1 ≠ 0 then (x.1, {}) else if blkL x.2.2 = [] then (0, x.2.1) else (151, {})
/-- A command that is read, or an error. -/
def cmdL (l : List UInt8) : Nat × CmP :=
  if 1000 < l.length then (3, { cnt := 0 }) else
    let x := readC l
    if x.1 = 0 then x else (x.1, { cnt := 0 })
end Go.Proofs.YtfgapmfjfienhaaGreatDoor
/-
  DERIVED: THE SHELF's CONTRACTS AT THIS DUMP, IN PLAIN WORDS (tools/lay-plain.mjs out of 'YtfgapmfjfienhaaGreatDoorQShelf.lean', which tools/lay-shelf.mjs wrote): THE SAME DECLARATIONS UNDER THE SAME NAMES: 'import', 'namespace', 'open', 'def', 'theorem' AND NOTHING ELSE: no command of the shelf's: FOR A HAND-IN. Each laying: the table of numbers ('.._ren') and one theorem, a field a fact of the dump's own or the kernel's comparison; each contract: ONE APPLICATION.
-/
namespace Go.Proofs
open Go.Shelf
def Tryz.lays157_ren : Go.Shelf.Ren := ⟨fun | 157 => 60 | 229 => 85 | 199 => 86 | 261 => 110 | 311 => 137 | 312 => 138 | n => n, fun | 9 => 9 | 31 => 33 | 3 => 3 | 5 => 5 | 4 => 4 | 119 => 111 | 0 => 0 | 40 => 113 | 152 => 137 | 21 => 21 | 154 => 139 | 51 => 125 | 141 => 141 | 196 => 162 | 193 => 159 | 198 => 164 | 49 => 22 | 194 => 160 | 201 => 167 | 226 => 180 | 46 => 94 | 227 => 181 | n => n, fun | 0 => 0 | 6 => 1 | n => n⟩
theorem Tryz.lays157 : Go.Proofs.Lays.n157 Tryz.prog Tryz.lays157_ren := {
  mixed := by kernel_rfl
  f157 := Tryz.func60.trans (congrArg some (by kernel_rfl))
  f199 := Tryz.func86.trans (congrArg some (by kernel_rfl))
  f229 := Tryz.func85.trans (congrArg some (by kernel_rfl))
  f261 := Tryz.func110.trans (congrArg some (by kernel_rfl))
  f311 := Tryz.func137.trans (congrArg some (by kernel_rfl))
  f312 := Tryz.func138.trans (congrArg some (by kernel_rfl))
  t0 := Tryz.underlying0
  a0 := Tryz.isAgg0
  z0 := Tryz.sizeOf0
  v0 := Tryz.zeroValue0
  t3 := Tryz.underlying3
  a3 := Tryz.isAgg3
  z3 := Tryz.sizeOf3
  v3 := Tryz.zeroValue3
  t4 := Tryz.underlying4
  a4 := Tryz.isAgg4
  z4 := Tryz.sizeOf4
  v4 := Tryz.zeroValue4
  t5 := Tryz.underlying5
  a5 := Tryz.isAgg5
  z5 := Tryz.sizeOf5
  v5 := Tryz.zeroValue5
  t9 := Tryz.underlying9
  a9 := Tryz.isAgg9
  z9 := Tryz.sizeOf9
  v9 := Tryz.zeroValue9
  t21 := Tryz.underlying21
  a21 := Tryz.isAgg21
  z21 := Tryz.sizeOf21
  v21 := Tryz.zeroValue21
  t31 := Tryz.underlying33
  a31 := Tryz.isAgg33
  z31 := Tryz.sizeOf33
  v31 := Tryz.zeroValue33
  t40 := Tryz.underlying113
  a40 := Tryz.isAgg113
  z40 := Tryz.sizeOf113
  v40 := Tryz.zeroValue113
  t46 := Tryz.underlying94
  a46 := Tryz.isAgg94
  z46 := Tryz.sizeOf94
  v46 := Tryz.zeroValue94
  t49 := Tryz.underlying22
  a49 := Tryz.isAgg22
  z49 := Tryz.sizeOf22
  v49 := Tryz.zeroValue22
  t51 := Tryz.underlying125
  a51 := Tryz.isAgg125
  z51 := Tryz.sizeOf125
  v51 := Tryz.zeroValue125
  t119 := Tryz.underlying111
  a119 := Tryz.isAgg111
  z119 := Tryz.sizeOf111
  t141 := Tryz.underlying141
  a141 := Tryz.isAgg141
  z141 := Tryz.sizeOf141
  v141 := Tryz.zeroValue141
  t152 := Tryz.underlying137
  a152 := Tryz.isAgg137
  z152 := Tryz.sizeOf137
  v152 := Tryz.zeroValue137
  t154 := Tryz.underlying139
  a154 := Tryz.isAgg139
  z154 := Tryz.sizeOf139
  v154 := Tryz.zeroValue139
  t193 := Tryz.underlying159
  a193 := Tryz.isAgg159
  z193 := Tryz.sizeOf159
  v193 := Tryz.zeroValue159
  t194 := Tryz.underlying160
  a194 := Tryz.isAgg160
  z194 := Tryz.sizeOf160
  v194 := Tryz.zeroValue160
  t196 := Tryz.underlying162
  a196 := Tryz.isAgg162
  z196 := Tryz.sizeOf162
  v196 := Tryz.zeroValue162
  t198 := Tryz.underlying164
  a198 := Tryz.isAgg164
  z198 := Tryz.sizeOf164
  v198 := Tryz.zeroValue164
  t201 := Tryz.underlying167
  a201 := Tryz.isAgg167
  z201 := Tryz.sizeOf167
  v201 := Tryz.zeroValue167
  t226 := Tryz.underlying180
  a226 := Tryz.isAgg180
  z226 := Tryz.sizeOf180
  v226 := Tryz.zeroValue180
  t227 := Tryz.underlying181
  a227 := Tryz.isAgg181
  z227 := Tryz.sizeOf181
  v227 := Tryz.zeroValue181
  g0 := by kernel_rfl
  g6 := by kernel_rfl }
def Tryz.laysM316_ren : Go.Shelf.Ren := ⟨fun | 316 => 108 | n => n, fun | 9 => 9 | 3 => 3 | 4 => 4 | 37 => 24 | 0 => 0 | 127 => 158 | 5 => 5 | n => n, fun | n => n⟩
theorem Tryz.laysM316 : Go.Proofs.LaysM.n316 Tryz.prog Tryz.laysM316_ren := {
  mixed := by kernel_rfl
  f316 := Tryz.func108.trans (congrArg some (by kernel_rfl))
  t0 := Tryz.underlying0
  a0 := Tryz.isAgg0
  z0 := Tryz.sizeOf0
  v0 := Tryz.zeroValue0
  t3 := Tryz.underlying3
  a3 := Tryz.isAgg3
  z3 := Tryz.sizeOf3
  v3 := Tryz.zeroValue3
  t4 := Tryz.underlying4
  a4 := Tryz.isAgg4
  z4 := Tryz.sizeOf4
  v4 := Tryz.zeroValue4
  t9 := Tryz.underlying9
  a9 := Tryz.isAgg9
  z9 := Tryz.sizeOf9
  v9 := Tryz.zeroValue9
  t37 := Tryz.underlying24
  a37 := Tryz.isAgg24
  z37 := Tryz.sizeOf24
  v37 := Tryz.zeroValue24
  t127 := Tryz.underlying158
  a127 := Tryz.isAgg158
  z127 := Tryz.sizeOf158
  v127 := Tryz.zeroValue158
  t5 := Tryz.underlying5
  a5 := Tryz.isAgg5
  z5 := Tryz.sizeOf5
  v5 := Tryz.zeroValue5
  i0 := by kernel_rfl
  i3 := by kernel_rfl
  i4 := by kernel_rfl
  i5 := by kernel_rfl
  i9 := by kernel_rfl
  i37 := by kernel_rfl
  i127 := by kernel_rfl }
def Tryz.sortC_ren : Go.Shelf.Ren := ⟨fun | 6 => 28 | 15 => 64 | 14 => 63 | 28 => 97 | 29 => 98 | 20 => 89 | 21 => 90 | 22 => 91 | 23 => 92 | 24 => 93 | 25 => 94 | 26 => 95 | 27 => 96 | 46 => 120 | 47 => 121 | 48 => 122 | 49 => 123 | 50 => 124 | 57 => 140 | n => n, fun | 22 => 58 | 24 => 63 | 25 => 66 | 3 => 3 | 39 => 94 | 0 => 0 | 53 => 125 | 55 => 127 | 4 => 4 | 46 => 118 | 45 => 117 | 50 => 122 | 5 => 5 | 9 => 9 | 66 => 142 | 70 => 146 | 76 => 170 | 77 => 102 | n => n, fun | n => n⟩
theorem Tryz.sortC : Go.Proofs.SlLaysF0.n6 Tryz.prog Tryz.sortC_ren := {
  mixed := by kernel_rfl
  f6 := ⟨Tryz.f28.name, by decide, Tryz.func28.trans (congrArg some (by kernel_rfl))⟩
  f14 := ⟨Tryz.f63.name, by decide, Tryz.func63.trans (congrArg some (by kernel_rfl))⟩
  f15 := Tryz.func64.trans (congrArg some (by kernel_rfl))
  f20 := ⟨Tryz.f89.name, by decide, Tryz.func89.trans (congrArg some (by kernel_rfl))⟩
  f21 := ⟨Tryz.f90.name, by decide, Tryz.func90.trans (congrArg some (by kernel_rfl))⟩
  f22 := ⟨Tryz.f91.name, by decide, Tryz.func91.trans (congrArg some (by kernel_rfl))⟩
  f23 := ⟨Tryz.f92.name, by decide, Tryz.func92.trans (congrArg some (by kernel_rfl))⟩
  f24 := ⟨Tryz.f93.name, by decide, Tryz.func93.trans (congrArg some (by kernel_rfl))⟩
  f25 := ⟨Tryz.f94.name, by decide, Tryz.func94.trans (congrArg some (by kernel_rfl))⟩
  f26 := ⟨Tryz.f95.name, by decide, Tryz.func95.trans (congrArg some (by kernel_rfl))⟩
  f27 := ⟨Tryz.f96.name, by decide, Tryz.func96.trans (congrArg some (by kernel_rfl))⟩
  f28 := Tryz.func97.trans (congrArg some (by kernel_rfl))
  f29 := Tryz.func98.trans (congrArg some (by kernel_rfl))
  f46 := ⟨Tryz.f120.name, by decide, Tryz.func120.trans (congrArg some (by kernel_rfl))⟩
  f47 := Tryz.func121.trans (congrArg some (by kernel_rfl))
  f48 := Tryz.func122.trans (congrArg some (by kernel_rfl))
  f49 := ⟨Tryz.f123.name, by decide, Tryz.func123.trans (congrArg some (by kernel_rfl))⟩
  f50 := ⟨Tryz.f124.name, by decide, Tryz.func124.trans (congrArg some (by kernel_rfl))⟩
  f57 := ⟨Tryz.f140.name, by decide, Tryz.func140.trans (congrArg some (by kernel_rfl))⟩
  t0 := Tryz.underlying0
  a0 := Tryz.isAgg0
  z0 := Tryz.sizeOf0
  v0 := Tryz.zeroValue0
  t3 := Tryz.underlying3
  a3 := Tryz.isAgg3
  z3 := Tryz.sizeOf3
  v3 := Tryz.zeroValue3
  t4 := Tryz.underlying4
  a4 := Tryz.isAgg4
  z4 := Tryz.sizeOf4
  v4 := Tryz.zeroValue4
  t5 := Tryz.underlying5
  a5 := Tryz.isAgg5
  z5 := Tryz.sizeOf5
  v5 := Tryz.zeroValue5
  t9 := Tryz.underlying9
  a9 := Tryz.isAgg9
  z9 := Tryz.sizeOf9
  v9 := Tryz.zeroValue9
  t22 := Tryz.underlying58
  a22 := Tryz.isAgg58
  z22 := Tryz.sizeOf58
  v22 := Tryz.zeroValue58
  t25 := Tryz.underlying66
  a25 := Tryz.isAgg66
  z25 := Tryz.sizeOf66
  v25 := Tryz.zeroValue66
  t39 := Tryz.underlying94
  a39 := Tryz.isAgg94
  z39 := Tryz.sizeOf94
  v39 := Tryz.zeroValue94
  t45 := Tryz.underlying117
  a45 := Tryz.isAgg117
  z45 := Tryz.sizeOf117
  v45 := Tryz.zeroValue117
  t46 := Tryz.underlying118
  a46 := Tryz.isAgg118
  z46 := Tryz.sizeOf118
  v46 := Tryz.zeroValue118
  t50 := Tryz.underlying122
  a50 := Tryz.isAgg122
  z50 := Tryz.sizeOf122
  v50 := Tryz.zeroValue122
  t53 := Tryz.underlying125
  a53 := Tryz.isAgg125
  z53 := Tryz.sizeOf125
  v53 := Tryz.zeroValue125
  t55 := Tryz.underlying127
  a55 := Tryz.isAgg127
  z55 := Tryz.sizeOf127
  v55 := Tryz.zeroValue127
  t66 := Tryz.underlying142
  a66 := Tryz.isAgg142
  z66 := Tryz.sizeOf142
  v66 := Tryz.zeroValue142
  t70 := Tryz.underlying146
  a70 := Tryz.isAgg146
  z70 := Tryz.sizeOf146
  v70 := Tryz.zeroValue146
  t76 := Tryz.underlying170
  a76 := Tryz.isAgg170
  z76 := Tryz.sizeOf170
  v76 := Tryz.zeroValue170
  t77 := Tryz.underlying102
  a77 := Tryz.isAgg102
  z77 := Tryz.sizeOf102
  v77 := Tryz.zeroValue102 }
end Go.Proofs
/- An address with its offset. -/
namespace Go.Proofs.YtfgapmfjfienhaaGreatDoor
open Go.ChangeShapes Go.WideShapes Go.ChangeAt Go.RowKit Go.Maps Go.MapKept
set_option linter.unusedVariables false
set_option linter.unusedSimpArgs false
set_option maxRecDepth 100000
section
variable {T : TypeId} {s : ByteArray} {at_ b p q k k' : Nat} {w w1 w2 : World} {l l' m m' : List Value}
/-- Two structs of one's own beside a place: the answer's, at p, and a variable, at q. -/
structure An2 (T : TypeId) (s : ByteArray) (k b p q : Nat) (l m : List Value) (w w1 : World) : Prop where
  an : Ans T s k b p l w w1
  lq : Lc 43 q m w1
  pq : p < q
theorem Ans.two (h : Ans T s k b p l w w1) : An2 T s k b p w1.heap.size l [.int .u8 0, .int .i64 0, .int .u8 0, .string ⟨#[]⟩, .int .i64 0, .bool false] w (w1.alloc (.cells #[.int .u8 0, .int .i64 0, .int .u8 0, .string ⟨#[]⟩, .int .i64 0, .bool false] 43)) :=
  ⟨h.kp (kp_alloc _ _), Lc.new w1 [.int .u8 0, .int .i64 0, .int .u8 0, .string ⟨#[]⟩, .int .i64 0, .bool false] 43, h.lc.lt⟩
theorem An2.call (h : An2 T s k b p q l m w w1) (f : Fr (On b) w1 w2) (x : Plc T s k' b w2) : An2 T s k' b p q l m w w2 :=
  ⟨h.an.call f x, h.lq.fr f (by unfold On; have := h.an.hb; have := h.pq; omega), h.pq⟩
theorem An2.put (h : An2 T s k b p q l m w w1) (x : Lc 43 q m' w2) (f : Fr (On q) w1 w2) : An2 T s k b p q l m' w w2 :=
  ⟨⟨Lc.fr h.an.pc f (by unfold On; have := h.an.hb; have := h.pq; omega), frB h.an.fr (Nat.le_trans h.an.hp (Nat.le_of_lt h.pq)) f, h.an.lc.fr f (by unfold On; have := h.pq; omega), h.an.hp, h.an.hb⟩, x, h.pq⟩
theorem An2.set (h : An2 T s k b p q l m w w1) (j : Nat) (v : Value) : An2 T s k b p q l (m.set j v) w (w1.setCell ⟨q, j, none⟩ v) := h.put (h.lq.set j v) (fr_set _ _ _ _)
theorem An2.kp (h : An2 T s k b p q l m w w1) (f : Kp w1 w2) : An2 T s k b p q l m w w2 := ⟨h.an.kp f, h.lq.kp f, h.pq⟩
/-- The kind behind the offset. -/
def kdF (kd k1 k2 : Nat) : Int := if kd = 0 ∧ k1 < k2 then 2 else (kd : Int)
set_option maxHeartbeats 16000000 in
theorem address_gen (h : Plc T s at_ b w) (hs : s.size ≤ 1000000) {kd : Nat} (hkd : kd < 256) {n : Int} {c : Int} {pt : ByteArray} {k1 : Nat} {off : Int}
    (HP : ∀ z, Plc T s at_ b z → Calls Tryz.prog 142 #[.pointer (some ⟨b, 0, none⟩)] z fun e w' => e = .returned (.tuple #[.agg #[.int .u8 kd, .int .i64 n, .int .u8 c, .string pt, .int .i64 0, .bool false], .int .u16 0]) ∧ Fr (On b) z w' ∧ Plc T s k1 b w')
    (hk : k1 ≤ s.size) {er : Int} {PK : Nat → Prop}
    (HOf : ∀ z, Plc T s k1 b z → Calls Tryz.prog 143 #[.pointer (some ⟨b, 0, none⟩)] z fun e w' => e = .returned (.tuple #[.int .i64 off, .int .u16 er]) ∧ ∃ k2, PK k2 ∧ Fr (On b) z w' ∧ Plc T s k2 b w') :
    Calls Tryz.prog 129 #[.pointer (some ⟨b, 0, none⟩)] w fun e w' => ∃ k2, PK k2 ∧ e = .returned (.tuple #[.agg #[.int .u8 (kdF kd k1 k2), .int .i64 n, .int .u8 c, .string pt, .int .i64 off, .bool false], .int .u16 er]) ∧ Fr (On b) w w' ∧ Plc T s k2 b w' := by
  obtain ⟨p, hp⟩ : ∃ p, w.heap.size = p := ⟨_, rfl⟩
  obtain ⟨W1, hW1⟩ : ∃ z, w.alloc (.cells #[.int .u8 0, .int .i64 0, .int .u8 0, .string ⟨#[]⟩, .int .i64 0, .bool false] 43) = z := ⟨_, rfl⟩
  have HI : Hid (Ans T s at_ b p [.int .u8 0, .int .i64 0, .int .u8 0, .string ⟨#[]⟩, .int .i64 0, .bool false] w W1) := by rw [← hW1, ← hp]; exact ans_new h
  have HPl : Hid (Calls Tryz.prog 142 #[.pointer (some ⟨b, 0, none⟩)] W1 fun e w' => e = .returned (.tuple #[.agg #[.int .u8 kd, .int .i64 n, .int .u8 c, .string pt, .int .i64 0, .bool false], .int .u16 0]) ∧ Hid (Ans T s k1 b p [.int .u8 0, .int .i64 0, .int .u8 0, .string ⟨#[]⟩, .int .i64 0, .bool false] w w')) := (HP W1 HI.out.pc).mono (by
    rintro e w' ⟨rfl, q1, q2⟩
    exact ⟨rfl, HI.out.call q1 q2⟩)
  have HR : Hid (∀ z, Plc T s k1 b z → Calls Tryz.prog 143 #[.pointer (some ⟨b, 0, none⟩)] z fun e w' => e = .returned (.tuple #[.int .i64 off, .int .u16 er]) ∧ ∃ k2, PK k2 ∧ Fr (On b) z w' ∧ Plc T s k2 b w') := HOf
  have hk6 : (k1 : Int) ≤ 1000000 := by omega
  clear h HP HI HOf
  go_enter Tryz.func129, Tryz.ntmps129
  go_wp2_with fail
  refine Calls.mono HPl.out ?_
  rintro e w2 ⟨rfl, HA⟩
  clear HPl
  obtain ⟨q, hq⟩ : ∃ q, w2.heap.size = q := ⟨_, rfl⟩
  obtain ⟨W3, hW3⟩ : ∃ z, w2.alloc (.cells #[.int .u8 0, .int .i64 0, .int .u8 0, .string ⟨#[]⟩, .int .i64 0, .bool false] 43) = z := ⟨_, rfl⟩
  have HB : Hid (An2 T s k1 b p q [.int .u8 0, .int .i64 0, .int .u8 0, .string ⟨#[]⟩, .int .i64 0, .bool false] [.int .u8 0, .int .i64 0, .int .u8 0, .string ⟨#[]⟩, .int .i64 0, .bool false] w W3) := by rw [← hW3, ← hq]; exact HA.out.two
  clear HA
  go_upto_region 4 with (refine wpList_store_box HB.out.lq 0 [.int .u8 kd, .int .i64 n, .int .u8 c, .string pt, .int .i64 0, .bool false] rfl 43 (.tmp 4) (.tmp 10) rfl rfl rfl (Nat.le_refl 6) sizeAddr (one6 ⟨rfl, rfl, rfl, rfl, rfl, rfl⟩) rfl ?_; intro w9 q1 q2 q3; have HC : Hid _ := HB.out.put q1 q2; clear q1 q2 q3)
  have c1 := HC.out.an.pc.c1
  have HO : Hid (Calls Tryz.prog 143 #[.pointer (some ⟨b, 0, none⟩)] w9 fun e w' => e = .returned (.tuple #[.int .i64 off, .int .u16 er]) ∧ ∃ k2, Hid (PK k2 ∧ An2 T s k2 b p q [.int .u8 0, .int .i64 0, .int .u8 0, .string ⟨#[]⟩, .int .i64 0, .bool false] [.int .u8 kd, .int .i64 n, .int .u8 c, .string pt, .int .i64 0, .bool false] w w')) := (HR.out _ HC.out.an.pc).mono (by
    rintro e w' ⟨r1, k2, r2, r3, r4⟩
    exact ⟨r1, k2, r2, HC.out.call r3 r4⟩)
  clear HR HB hW1 hW3 hp hq
  go_wp2_with fail
  refine Calls.mono HO.out ?_
  rintro e w10 ⟨rfl, k2, HD0⟩
  have HD : Hid _ := HD0.out.2
  have HPK : Hid _ := HD0.out.1
  clear HO c1 HC HD0
  obtain ⟨K, hK⟩ : ∃ K : Int, (kdF kd k1 k2) = K := ⟨_, rfl⟩
  have HK : Hid _ := hK
  have HKK : Hid _ := hK
  clear hK
  have c4 : w10.cell? ⟨q, 4, none⟩ = some (.int .i64 0) := HD.out.lq.at (j := 4) rfl
  have f4 : w10.frozen? ⟨q, 4, none⟩ = false := HD.out.lq.fz 4
  go_upto_region 6 with fail
  have HE : Hid (An2 T s k2 b p q [.int .u8 0, .int .i64 0, .int .u8 0, .string ⟨#[]⟩, .int .i64 0, .bool false] [.int .u8 kd, .int .i64 n, .int .u8 c, .string pt, .int .i64 off, .bool false] w (w10.setCell ⟨q, 4, none⟩ (.int .i64 off))) := HD.out.set 4 (.int .i64 off)
  obtain ⟨W11, hW11⟩ : ∃ z, w10.setCell ⟨q, 4, none⟩ (.int .i64 off) = z := ⟨_, rfl⟩
  rw [hW11] at HE ⊢
  clear hW11 c4 f4 HD
  have c0 : W11.cell? ⟨q, 0, none⟩ = some (.int .u8 kd) := HE.out.lq.at (j := 0) rfl
  have f0 : W11.frozen? ⟨q, 0, none⟩ = false := HE.out.lq.fz 0
  have c1 := HE.out.an.pc.c1
  by_cases hz : kd = 0
  · have g0 : ((kd : Int) == 0) = true := by rw [beq_iff_eq]; omega
    by_cases hlt : k1 < k2
    · as_aux_lemma =>
      have g1 : decide ((k2 : Int) > (k1 : Int)) = true := decide_eq_true (by omega)
      have g2 : decide ((k1 : Int) < (k2 : Int)) = true := decide_eq_true (by omega)
      have g3 : decide (k1 < k2) = true := decide_eq_true hlt
      have hKv : K = 2 := by rw [← HK.out]; unfold kdF; rw [if_pos ⟨hz, hlt⟩]
      subst hKv
      clear hlt hz HK
      go_upto_region 8 with fail
      have HF : Hid (An2 T s k2 b p q [.int .u8 0, .int .i64 0, .int .u8 0, .string ⟨#[]⟩, .int .i64 0, .bool false] [.int .u8 2, .int .i64 n, .int .u8 c, .string pt, .int .i64 off, .bool false] w (W11.setCell ⟨q, 0, none⟩ (.int .u8 2))) := HE.out.set 0 (.int .u8 2)
      obtain ⟨W12, hW12⟩ : ∃ z, W11.setCell ⟨q, 0, none⟩ (.int .u8 2) = z := ⟨_, rfl⟩
      rw [hW12] at HF ⊢
      clear hW12 c0 f0 c1 HE
      go_wp2_with (first | (refine wpList_load_box HF.out.lq 0 [.int .u8 2, .int .i64 n, .int .u8 c, .string pt, .int .i64 off, .bool false] rfl 43 (.tmp 4) rfl rfl rfl _ Tryz.underlying43 rfl sizeAddr ?_) | (refine wpList_store_box HF.out.an.lc 0 [.int .u8 2, .int .i64 n, .int .u8 c, .string pt, .int .i64 off, .bool false] rfl 43 (.tmp 2) (.tmp 40) rfl rfl rfl (Nat.le_refl 6) sizeAddr (one6 ⟨rfl, rfl, rfl, rfl, rfl, rfl⟩) rfl ?_; intro w9 q1 q2 q3; have HX : Hid _ := HF.out.an.put q1 q2; clear q1 q2 q3))
      refine bodyPost_ret (results_box2 rfl rfl HX.out.lc Tryz.underlying43 rfl sizeAddr) rfl ?_
      exact ⟨_, HPK.out, by rw [HKK.out]; rfl, HX.out.fr, HX.out.pc⟩
    · as_aux_lemma =>
      have g1 : decide ((k2 : Int) > (k1 : Int)) = false := decide_eq_false (by omega)
      have g2 : decide ((k1 : Int) < (k2 : Int)) = false := decide_eq_false (by omega)
      have g3 : decide (k1 < k2) = false := decide_eq_false hlt
      have hKv : K = (kd : Int) := by rw [← HK.out]; unfold kdF; rw [if_neg (fun h => hlt h.2)]
      subst hKv
      clear hlt hz HK
      go_wp2_with (first | (refine wpList_load_box HE.out.lq 0 [.int .u8 kd, .int .i64 n, .int .u8 c, .string pt, .int .i64 off, .bool false] rfl 43 (.tmp 4) rfl rfl rfl _ Tryz.underlying43 rfl sizeAddr ?_) | (refine wpList_store_box HE.out.an.lc 0 [.int .u8 kd, .int .i64 n, .int .u8 c, .string pt, .int .i64 off, .bool false] rfl 43 (.tmp 2) (.tmp 40) rfl rfl rfl (Nat.le_refl 6) sizeAddr (one6 ⟨rfl, rfl, rfl, rfl, rfl, rfl⟩) rfl ?_; intro w9 q1 q2 q3; have HX : Hid _ := HE.out.an.put q1 q2; clear q1 q2 q3))
      refine bodyPost_ret (results_box2 rfl rfl HX.out.lc Tryz.underlying43 rfl sizeAddr) rfl ?_
      exact ⟨_, HPK.out, by rw [HKK.out]; rfl, HX.out.fr, HX.out.pc⟩
  · as_aux_lemma =>
    have g1 : ((kd : Int) == 0) = false := by rw [beq_eq_false_iff_ne]; omega
    have hKv : K = (kd : Int) := by rw [← HK.out]; unfold kdF; rw [if_neg (fun h => hz h.1)]
    subst hKv
    clear hz HK
    go_wp2_with (first | (refine wpList_load_box HE.out.lq 0 [.int .u8 kd, .int .i64 n, .int .u8 c, .string pt, .int .i64 off, .bool false] rfl 43 (.tmp 4) rfl rfl rfl _ Tryz.underlying43 rfl sizeAddr ?_) | (refine wpList_store_box HE.out.an.lc 0 [.int .u8 kd, .int .i64 n, .int .u8 c, .string pt, .int .i64 off, .bool false] rfl 43 (.tmp 2) (.tmp 40) rfl rfl rfl (Nat.le_refl 6) sizeAddr (one6 ⟨rfl, rfl, rfl, rfl, rfl, rfl⟩) rfl ?_; intro w9 q1 q2 q3; have HX : Hid _ := HE.out.an.put q1 q2; clear q1 q2 q3))
    refine bodyPost_ret (results_box2 rfl rfl HX.out.lc Tryz.underlying43 rfl sizeAddr) rfl ?_
    exact ⟨_, HPK.out, by rw [HKK.out]; rfl, HX.out.fr, HX.out.pc⟩
end
end Go.Proofs.YtfgapmfjfienhaaGreatDoor
/- Up to a sign. -/
namespace Go.Proofs.YtfgapmfjfienhaaGreatDoor
open Go.ChangeShapes Go.WideShapes Go.ChangeAt Go.RowKit Go.Maps Go.MapKept
set_option linter.unusedVariables false
set_option linter.unusedSimpArgs false
set_option maxRecDepth 100000
theorem one_str (W : World) (d : UInt8) (D : Int) (hD : D = (d.toNat : Int)) : (convert 24 9 (.slice (some ⟨W.heap.size, 0, none⟩) 1 1)).run Tryz.prog (W.alloc (.cells #[.int .u8 D] 5)) = .ok (.string ⟨#[d]⟩) (W.alloc (.cells #[.int .u8 D] 5)) := by
  subst hD
  refine run_convert_bytes_back _ 24 9 5 ⟨W.heap.size, 0, none⟩ 1 [d] Tryz.underlying24 Tryz.underlying5 Tryz.underlying9 fun j hj => ?_
  simp at hj
  subst hj
  rw [addr_add, cell_at (alloc_new W _)]
  rfl
theorem two_str (W : World) (c d : UInt8) (C D : Int) (hC : C = (c.toNat : Int)) (hD : D = (d.toNat : Int)) : (convert 24 9 (.slice (some ⟨W.heap.size, 0, none⟩) 2 2)).run Tryz.prog (W.alloc (.cells #[.int .u8 C, .int .u8 D] 5)) = .ok (.string ⟨#[c, d]⟩) (W.alloc (.cells #[.int .u8 C, .int .u8 D] 5)) := by
  subst hC; subst hD
  refine run_convert_bytes_back _ 24 9 5 ⟨W.heap.size, 0, none⟩ 2 [c, d] Tryz.underlying24 Tryz.underlying5 Tryz.underlying9 fun j hj => ?_
  rw [addr_add, cell_at (alloc_new W _)]
  match j, hj with
  | 0, _ => rfl
  | 1, _ => rfl
theorem row_str {n0 : Nat} {vo : Value} {xs : List UInt8} {W : World} (h : W.ownsRow n0 5 1 vo xs.length (bcs xs)) : (convert 24 9 vo).run Tryz.prog W = .ok (.string ⟨xs.toArray⟩) W := by
  rcases h.2 with ⟨rfl, q⟩ | ⟨g, cap, cur, rfl, _, hg, h1, h2, h3, h4⟩
  · have : xs = [] := List.eq_nil_of_length_eq_zero q
    subst this
    rw [run_convert_bytes_string W 24 9 5 none 0 0 Tryz.underlying24 Tryz.underlying5 Tryz.underlying9]
    simp [Conv.bytesToString]
    rfl
  · refine run_convert_bytes_back W 24 9 5 ⟨g, 0, none⟩ cap xs Tryz.underlying24 Tryz.underlying5 Tryz.underlying9 fun j hj => ?_
    rw [addr_add, cell_at hg]
    have : (bcs xs)[j]? = some (.int .u8 (xs[j].toNat : Int)) := by simp [bcs, hj]
    rw [← h4, List.getElem?_take] at this
    split at this
    · simpa using this
    · cases this
/-- What a backslash and the byte behind it stand for. -/
def escL (g : UInt8) : List UInt8 → List UInt8 × List UInt8
  | [] => ([92], [])
  | c :: r => ((if c = g then [g] else [92, c]), r)
theorem escL_suf (g : UInt8) : ∀ l, (escL g l).2 <:+ l
  | [] => List.suffix_refl _
  | c :: r => ⟨[c], rfl⟩
theorem upL_nil (g : UInt8) : upL g [] = ([], []) := rfl
theorem upL_esc (g : UInt8) (r : List UInt8) : upL g (92 :: r) = ((escL g r).1 ++ (upL g (escL g r).2).1, (upL g (escL g r).2).2) := by
  cases r with
  | nil => rfl
  | cons c r =>
    show upL g (92 :: c :: r) = ((if c = g then [g] else [92, c]) ++ (upL g r).1, (upL g r).2)
    conv => lhs; unfold upL
    rw [if_pos rfl]
theorem upL_sign (g : UInt8) (r : List UInt8) (hg : g ≠ 92) : upL g (g :: r) = ([], r) := by
  cases r with
  | nil => unfold upL; rw [if_neg hg, if_pos rfl]
  | cons c r => unfold upL; rw [if_neg hg, if_pos rfl]
theorem upL_one (g a : UInt8) (r : List UInt8) (h1 : a ≠ 92) (h2 : a ≠ g) : upL g (a :: r) = (a :: (upL g r).1, (upL g r).2) := by
  cases r with
  | nil => unfold upL; rw [if_neg h1, if_neg h2]
  | cons c r => conv => lhs; unfold upL
                rw [if_neg h1, if_neg h2]
theorem escL_len (g : UInt8) (l : List UInt8) : (escL g l).1.length + (escL g l).2.length ≤ l.length + 1 := by
  cases l with
  | nil => exact Nat.le_refl _
  | cons c r => unfold escL; simp only; split <;> simp <;> omega
section
variable {T : TypeId} {s : ByteArray} {at_ b : Nat} {w : World} {l : List UInt8}
set_option maxHeartbeats 4000000 in
theorem escaped_any (h : Plc T s at_ b w) (hs : s.size ≤ 1000000) (hl : Lf s at_ l) (g : UInt8) :
    Calls Tryz.prog 147 #[.pointer (some ⟨b, 0, none⟩), .int .u8 (g.toNat : Int)] w fun e w' => e = .returned (.string ⟨(escL g l).1.toArray⟩) ∧ Fr (On b) w w' ∧ Plc T s (s.size - (escL g l).2.length) b w' := by
  cases l with
  | nil =>
    obtain rfl := hl.end_
    have HN : Hid _ := next_end h hs
    have HF : Hid (∀ q, Fr (On b) w (w.drewN q) ∧ Plc T s (s.size - (escL g []).2.length) b (w.drewN q)) := fun q => ⟨Fr.drewN _ _ q, h.kp (kp_drewN _ q)⟩
    clear h hl
    go_enter Tryz.func147, Tryz.ntmps147
    go_wp2_with fail
    refine Calls.mono HN.out ?_
    rintro e w2 ⟨rfl, q, rfl⟩
    clear HN
    go_wp2_with fail
    go_ret
    exact ⟨rfl, HF.out q⟩
  | cons c r =>
    obtain ⟨h1, h2, h3⟩ := hl.cons
    have HN : Hid _ := next_one h hs h1
    rw [h2] at HN
    have hk : s.size - r.length = at_ + 1 := h3.pos.symm
    have HK : Hid (∀ w1 w2, (Fr (On b) w w1 ∧ Plc T s (at_ + 1) b w1) → Kp w1 w2 → Fr (On b) w w2 ∧ Plc T s (s.size - (escL g (c :: r)).2.length) b w2) := fun w1 w2 q k => ⟨q.1.trans (Fr.of_below k), by
      have := q.2.kp k
      show Plc T s (s.size - r.length) b w2
      rw [hk]; exact this⟩
    by_cases hc : c = g
    · subst hc
      have g1 : ((c.toNat : Int) == (c.toNat : Int)) = true := by simp
      have hcv := fun z : World => one_str z c _ rfl
      have he : (escL c (c :: r)).1 = [c] := by unfold escL; simp only [if_true]
      rw [he]
      clear h hl h1 h2 h3 hk he
      go_enter Tryz.func147, Tryz.ntmps147
      go_wp2_with fail
      refine Calls.mono HN.out ?_
      rintro e w2 ⟨rfl, q1, q2⟩
      have HX : Hid (Fr (On b) w w2 ∧ Plc T s (at_ + 1) b w2) := ⟨q1, q2⟩
      clear HN q1 q2
      go_wp2_with fail
      go_ret
      exact ⟨rfl, HK.out _ _ HX.out (kp_alloc _ _)⟩
    · have g1 : ((c.toNat : Int) == (g.toNat : Int)) = false := by
        rw [beq_eq_false_iff_ne]; intro e; exact hc (UInt8.toNat_inj.1 (by omega))
      have hcv := fun z : World => two_str z 92 c 92 _ rfl rfl
      have he : (escL g (c :: r)).1 = [92, c] := by unfold escL; simp only [if_neg hc]
      rw [he]
      clear h hl h1 h2 h3 hk he hc
      go_enter Tryz.func147, Tryz.ntmps147
      go_wp2_with fail
      refine Calls.mono HN.out ?_
      rintro e w2 ⟨rfl, q1, q2⟩
      have HX : Hid (Fr (On b) w w2 ∧ Plc T s (at_ + 1) b w2) := ⟨q1, q2⟩
      clear HN q1 q2
      go_wp2_with fail
      go_ret
      exact ⟨rfl, HK.out _ _ HX.out (kp_alloc _ _)⟩
end
end Go.Proofs.YtfgapmfjfienhaaGreatDoor
/- Up to a sign: the loop. -/
namespace Go.Proofs.YtfgapmfjfienhaaGreatDoor
open Go.ChangeShapes Go.WideShapes Go.ChangeAt Go.RowKit Go.Maps Go.MapKept
set_option linter.unusedVariables false
set_option linter.unusedSimpArgs false
set_option maxRecDepth 100000
section
variable {T : TypeId} {s : ByteArray} {k j b B : Nat} {w w1 w2 : World} {l m : List UInt8}
theorem fr_blw (f : Fr (On b) w w1) (h : Below w.heap.size w1 w2) : Fr (On b) w w2 := ⟨h.os.trans f.os, h.tape.trans f.tape, h.output.trans f.output, Nat.le_trans f.size h.size, fun k hk hn => (h.block k hk).trans (f.block k hk hn)⟩
theorem Plc.blw (h : Plc T s k b w1) (hb : b < B) (q : Below B w1 w2) : Plc T s k b w2 := Lc.heap h (q.block b hb)
theorem strs_bcs (x : List UInt8) : Lib.strCells ⟨x.toArray⟩ = bcs x := by simp [Lib.strCells, bcs]
/-- A text under way. -/
structure Txu (T : TypeId) (s : ByteArray) (b : Nat) (w : World) (k : Nat) (v : Value) (acc : List UInt8) (w1 : World) : Prop where
  row : w1.ownsRow w.heap.size 5 1 v acc.length (bcs acc)
  pc : Plc T s k b w1
  fr : Fr (On b) w w1
  hb : b < w.heap.size
  hk : k ≤ s.size
  le : acc.length ≤ k
variable {v v' : Value} {acc : List UInt8}
theorem Txu.start (h : Plc T s k b w) (hk : k ≤ s.size) : Txu T s b w k (.slice none 0 0) [] w := ⟨World.ownsRow_nil _ _ _ _, h, Fr.refl _ _, Lc.lt h, hk, Nat.zero_le _⟩
theorem Txu.call (h : Txu T s b w k v acc w1) (f : Fr (On b) w1 w2) (p : Plc T s j b w2) (hj : j ≤ s.size) (hkj : k ≤ j) : Txu T s b w j v acc w2 :=
  ⟨row_fr h.row f fun i e hi => by unfold On at hi; subst hi; have := (h.row.lt _ e).1; have := h.hb; omega, p, h.fr.trans f, h.hb, hj, Nat.le_trans h.le hkj⟩
theorem Txu.kp (h : Txu T s b w k v acc w1) (f : Kp w1 w2) : Txu T s b w k v acc w2 := ⟨row_kp h.row f, h.pc.kp f, h.fr.trans (Fr.of_below f), h.hb, h.hk, h.le⟩
theorem Txu.more (h : Txu T s b w k v acc w1) {d : List UInt8} (hr : w2.ownsRow w.heap.size 5 1 v' (acc.length + d.length) (bcs acc ++ bcs d)) (hg : w1.grownBy w2 v.ownBlock) (hd : acc.length + d.length ≤ k) : Txu T s b w k v' (acc ++ d) w2 := by
  have hB := below_grown h.row h.fr.size hg
  exact ⟨by rw [List.length_append, bcs_append]; exact hr, h.pc.blw h.hb hB, fr_blw h.fr hB, h.hb, h.hk, by rw [List.length_append]; exact hd⟩
theorem Txu.str (h : Txu T s b w k v acc w1) : (convert 24 9 v).run Tryz.prog w1 = .ok (.string ⟨acc.toArray⟩) w1 := row_str h.row
theorem Txu.form (h : Txu T s b w k v acc w1) : ∃ a c, v = .slice a acc.length c ∧ acc.length ≤ c ∧ c ≤ maxLen := owns_form h.row
set_option maxHeartbeats 16000000 in
theorem upTo_any (h : Plc T s k b w) (hs : s.size ≤ 1000000) (hl : Lf s k l) (g : UInt8) :
    Calls Tryz.prog 135 #[.pointer (some ⟨b, 0, none⟩), .int .u8 (g.toNat : Int)] w fun e w' => e = .returned (.string ⟨(upL g l).1.toArray⟩) ∧ Fr (On b) w w' ∧ Plc T s (s.size - (upL g l).2.length) b w' := by
  obtain ⟨i9, hi9, z0, z1, z2⟩ := info_parts infoUB
  obtain ⟨R, hR⟩ : ∃ R, upL g l = R := ⟨_, rfl⟩
  have H0 : Hid (Lf s k l ∧ upL g l = R ∧ Txu T s b w k (.slice none 0 0) [] w) := ⟨hl, hR, Txu.start h hl.1⟩
  rw [hR]
  clear h hl hR
  go_enter Tryz.func135, Tryz.ntmps135
  go_wp2_with fail
  go_loopw [5] (fun v5 wr => ∃ (k : Nat) (m acc : List UInt8), Hid (Lf s k m ∧ (acc ++ (upL g m).1, (upL g m).2) = R ∧ Txu T s b w k v5 acc wr)) (fun v5 wr => s.size - plOf b wr)
  case atStart => exact ⟨k, l, [], H0.out.1, by rw [← H0.out.2.1]; rfl, H0.out.2.2⟩
  case round =>
    clear H0
    obtain ⟨k, m, acc, HJ⟩ := hrel
    obtain ⟨va, vc, rfl, v1, v2⟩ := HJ.out.2.2.form
    have hpl := HJ.out.2.2.pc.pl
    cases m with
    | nil =>
      as_aux_lemma =>
      have hk := HJ.out.1.end_
      have HN : Hid (Calls Tryz.prog 141 #[.pointer (some ⟨b, 0, none⟩)] wr fun e w' => e = .returned (.tuple #[.int .u8 0, .bool false]) ∧ ∃ q, w' = wr.drewN q) := by
        have := HJ.out.2.2.pc
        rw [hk] at this
        exact next_end this hs
      clear hk hpl v1 v2
      go_wp2_with fail
      refine Calls.mono HN.out ?_
      rintro e w2 ⟨rfl, q, rfl⟩
      clear HN
      have HT := HJ.out.2.2.kp (kp_drewN wr q)
      have hcv := HT.str
      have HX : Hid (Value.string ⟨acc.toArray⟩ = .string ⟨R.1.toArray⟩ ∧ Fr (On b) w (wr.drewN q) ∧ Plc T s (s.size - R.2.length) b (wr.drewN q)) := by
        have e := HJ.out.2.1
        rw [upL_nil, List.append_nil] at e
        refine ⟨by rw [← e], HT.fr, ?_⟩
        have e2 : s.size - R.2.length = k := by rw [← e]; have := HJ.out.1.end_; simp [this]
        rw [e2]; exact HT.pc
      clear HT HJ
      go_wp2_with fail
      go_ret
      exact ⟨congrArg Ending.returned HX.out.1, HX.out.2⟩
    | cons a r =>
      have hc := HJ.out.1.cons
      have HN : Hid (Calls Tryz.prog 141 #[.pointer (some ⟨b, 0, none⟩)] wr fun e w' => e = .returned (.tuple #[.int .u8 (a.toNat : Int), .bool true]) ∧ Hid (Txu T s b w (k + 1) (.slice va acc.length vc) acc w')) := by
        have := next_one HJ.out.2.2.pc hs hc.1
        rw [hc.2.1] at this
        refine this.mono ?_
        rintro e w' ⟨rfl, q1, q2⟩
        exact ⟨rfl, HJ.out.2.2.call q1 q2 hc.2.2.1 (Nat.le_succ k)⟩
      have HL : Hid (Lf s (k + 1) r) := hc.2.2
      have HE : Hid ((acc ++ (upL g (a :: r)).1, (upL g (a :: r)).2) = R) := HJ.out.2.1
      have hle : acc.length ≤ k := HJ.out.2.2.le
      have hk6 : k + 1 ≤ s.size := hc.1
      clear hc HJ
      by_cases h92 : a = 92
      · as_aux_lemma =>
        subst h92
        go_wp2_with fail
        refine Calls.mono HN.out ?_
        rintro e w2 ⟨rfl, HA⟩
        clear HN
        have HC : Hid (Calls Tryz.prog 147 #[.pointer (some ⟨b, 0, none⟩), .int .u8 (g.toNat : Int)] w2 fun e w' => e = .returned (.string ⟨(escL g r).1.toArray⟩) ∧ Hid (Txu T s b w (s.size - (escL g r).2.length) (.slice va acc.length vc) acc w')) := by
          refine (escaped_any HA.out.pc hs HL.out g).mono ?_
          rintro e w' ⟨rfl, q1, q2⟩
          have hq := HL.out.suf (escL_suf g r)
          have hp := HL.out.pos
          have hsl := (escL_suf g r).length_le
          exact ⟨rfl, HA.out.call q1 q2 hq.1 (by omega)⟩
        clear HA
        go_wp2_with fail
        refine Calls.mono HC.out ?_
        rintro e w3 ⟨rfl, HD⟩
        clear HC
        have hlen := escL_len g r
        have hrl := HL.out.len
        have hsl := (escL_suf g r).length_le
        have hpos := HL.out.1
        have h92l : 0 < (escL g r).1.length := by cases r with | nil => exact Nat.zero_lt_one | cons c r => unfold escL; simp only; split <;> simp
        have hsz : (⟨(escL g r).1.toArray⟩ : ByteArray).size = (escL g r).1.length := by show (escL g r).1.toArray.size = _; simp
        have hdd : acc.length + (escL g r).1.length ≤ s.size - (escL g r).2.length := by omega
        have hd6 : acc.length + (escL g r).1.length ≤ 1000002 := by omega
        have hmeas : s.size - (s.size - (escL g r).2.length) < s.size - k := by omega
        have HS : Hid (upL g (92 :: r) = ((escL g r).1 ++ (upL g (escL g r).2).1, (upL g (escL g r).2).2)) := upL_esc g r
        have HL2 : Hid (Lf s (s.size - (escL g r).2.length) (escL g r).2) := HL.out.suf (escL_suf g r)
        obtain ⟨E, hE⟩ : ∃ E, escL g r = E := ⟨_, rfl⟩
        rw [hE] at HD HS HL2 hdd hd6 hsz h92l hmeas ⊢
        have HB : Hid (w.heap.size ≤ w3.heap.size) := HD.out.fr.size
        have HR : Hid (w3.ownsRow w.heap.size 5 1 (.slice va acc.length vc) acc.length (bcs acc)) := HD.out.row
        clear hE hlen hrl hsl hpos HL
        go_wp2_with (at_builtin; refine Lib.wpList_append_own_string w3 rfl (.tmp 25) (.tmp 28) 24 9 rfl w.heap.size 5 i9 Tryz.underlying24 Tryz.underlying9 hi9 z0 z1 z2 (.slice va acc.length vc) acc.length (bcs acc) rfl HR.out ⟨E.1.toArray⟩ rfl (by rw [hsz]; unfold maxLen; omega) (by rw [hsz]; omega) HB.out ?_; intro v' w' q1 q2 q3; clear q3; rw [hsz, strs_bcs] at q1; have HF : Hid _ := HD.out.more q1 q2 hdd; obtain ⟨a', c', rfl, q4, q5⟩ := owns_form q1; clear q1 q2 q4 q5)
        go_roundw
        case rel => exact ⟨_, E.2, acc ++ E.1, HL2.out, by rw [← HE.out, HS.out, List.append_assoc], HF.out⟩
        case measure => have := HF.out.pc.pl; rw [this, hpl]; exact hmeas
      · by_cases hg : a = g
        · as_aux_lemma =>
          subst hg
          have g1 : ((a.toNat : Int) == 92) = false := by
            rw [beq_eq_false_iff_ne]; intro e; exact h92 (UInt8.toNat_inj.1 (by show a.toNat = 92; omega))
          have g2 : ((a.toNat : Int) == (a.toNat : Int)) = true := by simp
          have HS : Hid (upL a (a :: r) = ([], r)) := upL_sign a r h92
          clear hpl h92
          go_wp2_with fail
          refine Calls.mono HN.out ?_
          rintro e w2 ⟨rfl, HA⟩
          clear HN
          have hcv := HA.out.str
          have HX : Hid (Value.string ⟨acc.toArray⟩ = .string ⟨R.1.toArray⟩ ∧ Fr (On b) w w2 ∧ Plc T s (s.size - R.2.length) b w2) := by
            have e := HE.out
            rw [HS.out, List.append_nil] at e
            refine ⟨by rw [← e], HA.out.fr, ?_⟩
            have e2 : s.size - R.2.length = k + 1 := by rw [← e]; exact HL.out.pos.symm
            rw [e2]; exact HA.out.pc
          clear HA HE HS HL
          go_wp2_with fail
          go_ret
          exact ⟨congrArg Ending.returned HX.out.1, HX.out.2⟩
        · as_aux_lemma =>
          have g1 : ((a.toNat : Int) == 92) = false := by
            rw [beq_eq_false_iff_ne]; intro e; exact h92 (UInt8.toNat_inj.1 (by show a.toNat = 92; omega))
          have g2 : ((a.toNat : Int) == (g.toNat : Int)) = false := by
            rw [beq_eq_false_iff_ne]; intro e; exact hg (UInt8.toNat_inj.1 (by omega))
          have HS : Hid (upL g (a :: r) = (a :: (upL g r).1, (upL g r).2)) := upL_one g a r h92 hg
          clear h92 hg
          go_wp2_with fail
          refine Calls.mono HN.out ?_
          rintro e w2 ⟨rfl, HA⟩
          clear HN
          have HR : Hid ((w2.alloc (.cells #[.int .u8 (a.toNat : Int)] 5)).ownsRow w.heap.size 5 1 (.slice va acc.length vc) acc.length (bcs acc)) := row_kp HA.out.row (kp_alloc _ _)
          have HB : Hid (w.heap.size ≤ (w2.alloc (.cells #[.int .u8 (a.toNat : Int)] 5)).heap.size) := Nat.le_trans HA.out.fr.size (by rw [alloc_size]; omega)
          have HA2 : Hid _ := HA.out.kp (kp_alloc w2 (.cells #[.int .u8 (a.toNat : Int)] 5))
          clear HA
          go_wp2_with (at_builtin; refine wpList_append_own _ rfl (.tmp 13) (.tmp 15) 24 rfl w.heap.size 5 i9 _ 1 1 Tryz.underlying24 hi9 z0 z1 z2 rfl (by decide) (.slice va acc.length vc) acc.length (bcs acc) rfl HR.out ⟨w2.heap.size, 0, none⟩ 1 1 [.int .u8 (a.toNat : Int)] rfl rfl (cell_one_new _ _ _) (by simp [Value.oneCell']) (by unfold maxLen; omega) (by omega) HB.out ?_; intro v' w' q1 q2 q3; clear q3; have HF : Hid _ := HA2.out.more (d := [a]) q1 q2 (by simp; omega); obtain ⟨a', c', rfl, q4, q5⟩ := owns_form q1; clear q1 q2 q4 q5)
          go_roundw
          case rel => exact ⟨k + 1, r, acc ++ [a], HL.out, by rw [← HE.out, HS.out, List.append_assoc]; rfl, HF.out⟩
          case measure => have := HF.out.pc.pl; rw [this, hpl]; omega
end
end Go.Proofs.YtfgapmfjfienhaaGreatDoor
/- An address without its offset: too long a number; patterns. -/
namespace Go.Proofs.YtfgapmfjfienhaaGreatDoor
open Go.ChangeShapes Go.WideShapes Go.ChangeAt Go.RowKit Go.Maps Go.MapKept
set_option linter.unusedVariables false
set_option linter.unusedSimpArgs false
set_option maxRecDepth 100000
section
variable {T : TypeId} {s : ByteArray} {at_ b p : Nat} {w w1 w2 : World} {l : List UInt8}
set_option maxHeartbeats 8000000 in
theorem plain_long (h : Plc T s at_ b w) (hs : s.size ≤ 1000000) (ha : at_ ≤ s.size) (hn : numV s at_ = none) :
    Calls Tryz.prog 142 #[.pointer (some ⟨b, 0, none⟩)] w fun e w' => e = .returned (.tuple #[.agg #[.int .u8 0, .int .i64 0, .int .u8 0, .string ⟨#[]⟩, .int .i64 0, .bool false], .int .u16 141]) ∧ Fr (On b) w w' ∧ Plc T s (spanE digF s at_) b w' := by
  obtain ⟨p, hp⟩ : ∃ p, w.heap.size = p := ⟨_, rfl⟩
  obtain ⟨W1, hW1⟩ : ∃ z, w.alloc (.cells #[.int .u8 0, .int .i64 0, .int .u8 0, .string ⟨#[]⟩, .int .i64 0, .bool false] 43) = z := ⟨_, rfl⟩
  have HI : Hid (Ans T s at_ b p [.int .u8 0, .int .i64 0, .int .u8 0, .string ⟨#[]⟩, .int .i64 0, .bool false] w W1) := by rw [← hW1, ← hp]; exact ans_new h
  clear h
  have HN : Hid (Calls Tryz.prog 149 #[.pointer (some ⟨b, 0, none⟩)] W1 fun e w' => e = .returned (.tuple #[.int .i64 0, .bool false, .int .u16 141]) ∧ Hid (Ans T s (spanE digF s at_) b p [.int .u8 0, .int .i64 0, .int .u8 0, .string ⟨#[]⟩, .int .i64 0, .bool false] w w')) := by
    refine (number_long HI.out.pc hs ha ?_).mono ?_
    · unfold numV at hn
      simp only at hn
      split at hn
      · cases hn
      · split at hn
        · assumption
        · cases hn
    · rintro e w' ⟨rfl, q1, q2⟩
      exact ⟨rfl, HI.out.call q1 q2⟩
  clear ha HI hn
  go_enter Tryz.func142, Tryz.ntmps142
  go_wp2_with fail
  refine Calls.mono HN.out ?_
  rintro e w2 ⟨rfl, HA⟩
  clear HN
  go_wp2_with (refine wpList_store_box HA.out.lc 0 [.int .u8 0, .int .i64 0, .int .u8 0, .string ⟨#[]⟩, .int .i64 0, .bool false] rfl 43 (.tmp 2) (.tmp 19) rfl rfl rfl (Nat.le_refl 6) sizeAddr (one6 ⟨rfl, rfl, rfl, rfl, rfl, rfl⟩) rfl ?_; intro w9 q1 q2 q3; have HX : Hid _ := HA.out.put q1 q2; clear q1 q2 q3)
  refine bodyPost_ret (results_box2 rfl rfl HX.out.lc Tryz.underlying43 rfl sizeAddr) rfl ?_
  exact ⟨rfl, HX.out.fr, HX.out.pc⟩
set_option maxHeartbeats 8000000 in
theorem plain_fore (h : Plc T s at_ b w) (hs : s.size ≤ 1000000) (ha : at_ < s.size) (hn : numV s at_ = some (none, at_)) (hc : byteAt s at_ = 47) (hl : Lf s (at_ + 1) l) :
    Calls Tryz.prog 142 #[.pointer (some ⟨b, 0, none⟩)] w fun e w' => e = .returned (.tuple #[.agg #[.int .u8 5, .int .i64 0, .int .u8 0, .string ⟨(upL 47 l).1.toArray⟩, .int .i64 0, .bool false], .int .u16 0]) ∧ Fr (On b) w w' ∧ Plc T s (s.size - (upL 47 l).2.length) b w' := by
  obtain ⟨p, hp⟩ : ∃ p, w.heap.size = p := ⟨_, rfl⟩
  obtain ⟨W1, hW1⟩ : ∃ z, w.alloc (.cells #[.int .u8 0, .int .i64 0, .int .u8 0, .string ⟨#[]⟩, .int .i64 0, .bool false] 43) = z := ⟨_, rfl⟩
  have HI : Hid (Ans T s at_ b p [.int .u8 0, .int .i64 0, .int .u8 0, .string ⟨#[]⟩, .int .i64 0, .bool false] w W1) := by rw [← hW1, ← hp]; exact ans_new h
  clear h
  have HO : Hid (∀ z, Ans T s at_ b p [.int .u8 0, .int .i64 0, .int .u8 0, .string ⟨#[]⟩, .int .i64 0, .bool false] w z → Calls Tryz.prog 127 #[.pointer (some ⟨b, 0, none⟩), .string ⟨#[46, 36, 39, 47, 63]⟩] z fun e w' => e = .returned (.tuple #[.int .u8 (byteAt s at_), .bool true]) ∧ Hid (Ans T s (at_ + 1) b p [.int .u8 0, .int .i64 0, .int .u8 0, .string ⟨#[]⟩, .int .i64 0, .bool false] w w')) := fun z hz => by
    refine (oneOf_yes hz.pc hs ha (by rw [amo_pl' (byteAt_lt s at_), hc]; decide)).mono ?_
    rintro e w' ⟨rfl, q1, q2⟩
    exact ⟨rfl, hz.call q1 q2⟩
  rw [hc] at HO
  have HN : Hid (Calls Tryz.prog 149 #[.pointer (some ⟨b, 0, none⟩)] W1 fun e w' => e = .returned (.tuple #[.int .i64 0, .bool false, .int .u16 0]) ∧ Hid (Ans T s at_ b p [.int .u8 0, .int .i64 0, .int .u8 0, .string ⟨#[]⟩, .int .i64 0, .bool false] w w')) := by
    refine (number_none HI.out.pc hs (by omega) (numV_none hn).1).mono ?_
    rintro e w' ⟨rfl, q1, q2⟩
    exact ⟨rfl, HI.out.call q1 q2⟩
  clear HI hn
  have HU : Hid (∀ z, Ans T s (at_ + 1) b p [.int .u8 0, .int .i64 0, .int .u8 0, .string ⟨#[]⟩, .int .i64 0, .bool false] w z → Calls Tryz.prog 135 #[.pointer (some ⟨b, 0, none⟩), .int .u8 47] z fun e w' => e = .returned (.string ⟨(upL 47 l).1.toArray⟩) ∧ Hid (Ans T s (s.size - (upL 47 l).2.length) b p [.int .u8 0, .int .i64 0, .int .u8 0, .string ⟨#[]⟩, .int .i64 0, .bool false] w w')) := fun z hz => by
    refine (upTo_any hz.pc hs hl 47).mono ?_
    rintro e w' ⟨rfl, q1, q2⟩
    exact ⟨rfl, hz.call q1 q2⟩
  clear hl
  obtain ⟨U, hU⟩ : ∃ U, upL 47 l = U := ⟨_, rfl⟩
  rw [hU] at HU ⊢
  clear hU
  clear ha hc
  go_enter Tryz.func142, Tryz.ntmps142
  go_wp2_with fail
  refine Calls.mono HN.out ?_
  rintro e w2 ⟨rfl, HA⟩
  clear HN
  go_wp2_with fail
  refine Calls.mono (HO.out _ HA.out) ?_
  rintro e w3 ⟨rfl, HB⟩
  clear HO HA
  go_wp2_with fail
  refine Calls.mono (HU.out _ HB.out) ?_
  rintro e w4 ⟨rfl, HC⟩
  clear HU HB
  go_wp2_with (refine wpList_store_box HC.out.lc 0 [.int .u8 5, .int .i64 0, .int .u8 0, .string ⟨U.1.toArray⟩, .int .i64 0, .bool false] rfl 43 (.tmp 2) (.tmp 51) rfl rfl rfl (Nat.le_refl 6) sizeAddr (one6 ⟨rfl, rfl, rfl, rfl, rfl, rfl⟩) rfl ?_; intro w9 q1 q2 q3; have HX : Hid _ := HC.out.put q1 q2; clear q1 q2 q3)
  refine bodyPost_ret (results_box2 rfl rfl HX.out.lc Tryz.underlying43 rfl sizeAddr) rfl ?_
  exact ⟨rfl, HX.out.fr, HX.out.pc⟩
set_option maxHeartbeats 8000000 in
theorem plain_back (h : Plc T s at_ b w) (hs : s.size ≤ 1000000) (ha : at_ < s.size) (hn : numV s at_ = some (none, at_)) (hc : byteAt s at_ = 63) (hl : Lf s (at_ + 1) l) :
    Calls Tryz.prog 142 #[.pointer (some ⟨b, 0, none⟩)] w fun e w' => e = .returned (.tuple #[.agg #[.int .u8 6, .int .i64 0, .int .u8 0, .string ⟨(upL 63 l).1.toArray⟩, .int .i64 0, .bool false], .int .u16 0]) ∧ Fr (On b) w w' ∧ Plc T s (s.size - (upL 63 l).2.length) b w' := by
  obtain ⟨p, hp⟩ : ∃ p, w.heap.size = p := ⟨_, rfl⟩
  obtain ⟨W1, hW1⟩ : ∃ z, w.alloc (.cells #[.int .u8 0, .int .i64 0, .int .u8 0, .string ⟨#[]⟩, .int .i64 0, .bool false] 43) = z := ⟨_, rfl⟩
  have HI : Hid (Ans T s at_ b p [.int .u8 0, .int .i64 0, .int .u8 0, .string ⟨#[]⟩, .int .i64 0, .bool false] w W1) := by rw [← hW1, ← hp]; exact ans_new h
  clear h
  have HO : Hid (∀ z, Ans T s at_ b p [.int .u8 0, .int .i64 0, .int .u8 0, .string ⟨#[]⟩, .int .i64 0, .bool false] w z → Calls Tryz.prog 127 #[.pointer (some ⟨b, 0, none⟩), .string ⟨#[46, 36, 39, 47, 63]⟩] z fun e w' => e = .returned (.tuple #[.int .u8 (byteAt s at_), .bool true]) ∧ Hid (Ans T s (at_ + 1) b p [.int .u8 0, .int .i64 0, .int .u8 0, .string ⟨#[]⟩, .int .i64 0, .bool false] w w')) := fun z hz => by
    refine (oneOf_yes hz.pc hs ha (by rw [amo_pl' (byteAt_lt s at_), hc]; decide)).mono ?_
    rintro e w' ⟨rfl, q1, q2⟩
    exact ⟨rfl, hz.call q1 q2⟩
  rw [hc] at HO
  have HN : Hid (Calls Tryz.prog 149 #[.pointer (some ⟨b, 0, none⟩)] W1 fun e w' => e = .returned (.tuple #[.int .i64 0, .bool false, .int .u16 0]) ∧ Hid (Ans T s at_ b p [.int .u8 0, .int .i64 0, .int .u8 0, .string ⟨#[]⟩, .int .i64 0, .bool false] w w')) := by
    refine (number_none HI.out.pc hs (by omega) (numV_none hn).1).mono ?_
    rintro e w' ⟨rfl, q1, q2⟩
    exact ⟨rfl, HI.out.call q1 q2⟩
  clear HI hn
  have HU : Hid (∀ z, Ans T s (at_ + 1) b p [.int .u8 0, .int .i64 0, .int .u8 0, .string ⟨#[]⟩, .int .i64 0, .bool false] w z → Calls Tryz.prog 135 #[.pointer (some ⟨b, 0, none⟩), .int .u8 63] z fun e w' => e = .returned (.string ⟨(upL 63 l).1.toArray⟩) ∧ Hid (Ans T s (s.size - (upL 63 l).2.length) b p [.int .u8 0, .int .i64 0, .int .u8 0, .string ⟨#[]⟩, .int .i64 0, .bool false] w w')) := fun z hz => by
    refine (upTo_any hz.pc hs hl 63).mono ?_
    rintro e w' ⟨rfl, q1, q2⟩
    exact ⟨rfl, hz.call q1 q2⟩
  clear hl
  obtain ⟨U, hU⟩ : ∃ U, upL 63 l = U := ⟨_, rfl⟩
  rw [hU] at HU ⊢
  clear hU
  clear ha hc
  go_enter Tryz.func142, Tryz.ntmps142
  go_wp2_with fail
  refine Calls.mono HN.out ?_
  rintro e w2 ⟨rfl, HA⟩
  clear HN
  go_wp2_with fail
  refine Calls.mono (HO.out _ HA.out) ?_
  rintro e w3 ⟨rfl, HB⟩
  clear HO HA
  go_wp2_with fail
  refine Calls.mono (HU.out _ HB.out) ?_
  rintro e w4 ⟨rfl, HC⟩
  clear HU HB
  go_wp2_with (refine wpList_store_box HC.out.lc 0 [.int .u8 6, .int .i64 0, .int .u8 0, .string ⟨U.1.toArray⟩, .int .i64 0, .bool false] rfl 43 (.tmp 2) (.tmp 59) rfl rfl rfl (Nat.le_refl 6) sizeAddr (one6 ⟨rfl, rfl, rfl, rfl, rfl, rfl⟩) rfl ?_; intro w9 q1 q2 q3; have HX : Hid _ := HC.out.put q1 q2; clear q1 q2 q3)
  refine bodyPost_ret (results_box2 rfl rfl HX.out.lc Tryz.underlying43 rfl sizeAddr) rfl ?_
  exact ⟨rfl, HX.out.fr, HX.out.pc⟩
set_option maxHeartbeats 8000000 in
theorem address_bad (h : Plc T s at_ b w) (hs : s.size ≤ 1000000)
    (HP : ∀ z, Plc T s at_ b z → Calls Tryz.prog 142 #[.pointer (some ⟨b, 0, none⟩)] z fun e w' => (∃ x1 x2 x3 x4 x5 x6, e = .returned (.tuple #[.agg #[.int .u8 x1, .int .i64 x2, .int .u8 x3, .string x4, .int .i64 x5, .bool x6], .int .u16 141])) ∧ Fr (On b) z w' ∧ ∃ k, Plc T s k b w') :
    Calls Tryz.prog 129 #[.pointer (some ⟨b, 0, none⟩)] w fun e w' => e = .returned (.tuple #[.agg #[.int .u8 0, .int .i64 0, .int .u8 0, .string ⟨#[]⟩, .int .i64 0, .bool false], .int .u16 141]) ∧ Fr (On b) w w' ∧ ∃ k, Plc T s k b w' := by
  obtain ⟨p, hp⟩ : ∃ p, w.heap.size = p := ⟨_, rfl⟩
  obtain ⟨W1, hW1⟩ : ∃ z, w.alloc (.cells #[.int .u8 0, .int .i64 0, .int .u8 0, .string ⟨#[]⟩, .int .i64 0, .bool false] 43) = z := ⟨_, rfl⟩
  have HI : Hid (Ans T s at_ b p [.int .u8 0, .int .i64 0, .int .u8 0, .string ⟨#[]⟩, .int .i64 0, .bool false] w W1) := by rw [← hW1, ← hp]; exact ans_new h
  clear h
  have HPl : Hid (Calls Tryz.prog 142 #[.pointer (some ⟨b, 0, none⟩)] W1 fun e w' => (∃ x1 x2 x3 x4 x5 x6, e = .returned (.tuple #[.agg #[.int .u8 x1, .int .i64 x2, .int .u8 x3, .string x4, .int .i64 x5, .bool x6], .int .u16 141])) ∧ ∃ k, Hid (Ans T s k b p [.int .u8 0, .int .i64 0, .int .u8 0, .string ⟨#[]⟩, .int .i64 0, .bool false] w w')) := (HP W1 HI.out.pc).mono (by
    rintro e w' ⟨r1, q1, k, q2⟩
    exact ⟨r1, k, HI.out.call q1 q2⟩)
  clear HP HI
  go_enter Tryz.func129, Tryz.ntmps129
  go_wp2_with fail
  refine Calls.mono HPl.out ?_
  rintro e w2 ⟨⟨x1, x2, x3, x4, x5, x6, rfl⟩, k, HA⟩
  clear HPl
  obtain ⟨q, hq⟩ : ∃ q, w2.heap.size = q := ⟨_, rfl⟩
  obtain ⟨W3, hW3⟩ : ∃ z, w2.alloc (.cells #[.int .u8 0, .int .i64 0, .int .u8 0, .string ⟨#[]⟩, .int .i64 0, .bool false] 43) = z := ⟨_, rfl⟩
  have HB : Hid (An2 T s k b p q [.int .u8 0, .int .i64 0, .int .u8 0, .string ⟨#[]⟩, .int .i64 0, .bool false] [.int .u8 0, .int .i64 0, .int .u8 0, .string ⟨#[]⟩, .int .i64 0, .bool false] w W3) := by rw [← hW3, ← hq]; exact HA.out.two
  clear HA
  go_wp2_with (first | (refine wpList_store_box HB.out.lq 0 [.int .u8 x1, .int .i64 x2, .int .u8 x3, .string x4, .int .i64 x5, .bool x6] rfl 43 (.tmp 4) (.tmp 10) rfl rfl rfl (Nat.le_refl 6) sizeAddr (one6 ⟨rfl, rfl, rfl, rfl, rfl, rfl⟩) rfl ?_; intro w9 q1 q2 q3; have HC : Hid _ := HB.out.put q1 q2; clear q1 q2 q3) | (refine wpList_store_box HC.out.an.lc 0 [.int .u8 0, .int .i64 0, .int .u8 0, .string ⟨#[]⟩, .int .i64 0, .bool false] rfl 43 (.tmp 2) (.tmp 14) rfl rfl rfl (Nat.le_refl 6) sizeAddr (one6 ⟨rfl, rfl, rfl, rfl, rfl, rfl⟩) rfl ?_; intro w10 q1 q2 q3; have HX : Hid _ := HC.out.an.put q1 q2; clear q1 q2 q3))
  refine bodyPost_ret (results_box2 rfl rfl HX.out.lc Tryz.underlying43 rfl sizeAddr) rfl ?_
  exact ⟨rfl, HX.out.fr, _, HX.out.pc⟩
end
end Go.Proofs.YtfgapmfjfienhaaGreatDoor
/- An address, by what comes. -/
namespace Go.Proofs.YtfgapmfjfienhaaGreatDoor
open Go.ChangeShapes Go.WideShapes Go.ChangeAt Go.RowKit Go.Maps Go.MapKept
set_option linter.unusedVariables false
set_option linter.unusedSimpArgs false
set_option maxRecDepth 100000
/-- An address's cells. -/
def adC (a : AdP) : List Value := [.int .u8 (a.kd : Int), .int .i64 (a.n : Int), .int .u8 (a.c : Int), .string ⟨a.pt.toArray⟩, .int .i64 a.off, .bool a.semi]
/-- What plain answers, and address. -/
structure AdR (T : TypeId) (s : ByteArray) (b : Nat) (R : Option (AdP × List UInt8)) (w : World) (e : Ending) (w' : World) : Prop where
  yes : ∀ a r, R = some (a, r) → e = .returned (.tuple #[.agg (adC a).toArray, .int .u16 0]) ∧ Fr (On b) w w' ∧ Plc T s (s.size - r.length) b w'
  no : R = none → (∃ a, e = .returned (.tuple #[.agg (adC a).toArray, .int .u16 141])) ∧ Fr (On b) w w' ∧ ∃ k, Plc T s k b w'
theorem plainL_kd {l r : List UInt8} {a : AdP} (h : plainL l = some (a, r)) : a.kd < 7 ∧ a.off = 0 ∧ a.semi = false := by
  unfold plainL at h
  repeat' split at h
  all_goals first
    | (cases h; done)
    | (simp only [Option.some.injEq, Prod.mk.injEq] at h; obtain ⟨rfl, _⟩ := h; exact ⟨by simp, rfl, rfl⟩)
section
variable {T : TypeId} {s : ByteArray} {k b : Nat} {w : World} {l : List UInt8}
theorem AdR.ok {R : Option (AdP × List UInt8)} {a : AdP} {r : List UInt8} {e : Ending} {w' : World} (hR : R = some (a, r)) (h : e = .returned (.tuple #[.agg (adC a).toArray, .int .u16 0]) ∧ Fr (On b) w w' ∧ Plc T s (s.size - r.length) b w') : AdR T s b R w e w' :=
  ⟨fun a' r' q => by rw [hR] at q; cases q; exact h, fun q => by rw [hR] at q; cases q⟩
theorem AdR.bad {R : Option (AdP × List UInt8)} {a : AdP} {e : Ending} {w' : World} {k : Nat} (hR : R = none) (h : e = .returned (.tuple #[.agg (adC a).toArray, .int .u16 141]) ∧ Fr (On b) w w' ∧ Plc T s k b w') : AdR T s b R w e w' :=
  ⟨fun a' r' q => (by rw [hR] at q; cases q), fun q => ⟨⟨a, h.1⟩, h.2.1, k, h.2.2⟩⟩
theorem apl_any (h : Plc T s k b w) (hs : s.size ≤ 1000000) (hl : Lf s k l) :
    Calls Tryz.prog 142 #[.pointer (some ⟨b, 0, none⟩)] w fun e w' => AdR T s b (plainL l) w e w' := by
  have hV := numV_L hl
  have hk := hl.1
  cases hn : numL l with
  | none =>
    rw [hn] at hV
    refine (plain_long h hs hk hV).mono ?_
    intro e w' q
    exact .bad (a := {}) (by unfold plainL; rw [hn]) q
  | some q =>
    obtain ⟨m, r⟩ := q
    cases m with
    | some n =>
      rw [hn] at hV
      refine (plain_num h hs hk (n := n) (k := s.size - r.length) hV).mono ?_
      intro e w' q
      exact .ok (a := { kd := 1, n := n }) (r := r) (by unfold plainL; rw [hn]) q
    | none =>
      obtain rfl := numL_none hn
      rw [hn] at hV
      have hV2 : numV s k = some (none, k) := by rw [hV, Option.map_some, ← hl.pos]
      cases hc : r with
      | nil =>
        have e : k = s.size := by rw [hc] at hl; exact hl.end_
        have e2 : s.size - ([] : List UInt8).length = k := by simp [e]
        refine (plain_none h hs hk hV2 (fun q => absurd q (by omega))).mono ?_
        intro e' w' q
        exact .ok (a := {}) (r := []) (by unfold plainL; rw [← hc, hn, hc]) (by rw [e2]; exact q)
      | cons a t =>
        have hcons := hl
        rw [hc] at hcons
        obtain ⟨h1, h2, h3⟩ := hcons.cons
        have hp3 := h3.pos
        have hne : ∀ x : UInt8, a ≠ x → byteAt s k ≠ x.toNat := fun x hx q => hx (UInt8.toNat_inj.1 (by rw [← h2]; exact q))
        by_cases c1 : a = 46
        · subst c1
          refine (plain_dot h hs h1 hV2 h2).mono ?_
          intro e' w' q
          exact .ok (a := { kd := 2 }) (r := t) (by unfold plainL; rw [← hc, hn, hc]; rfl) (by rw [hp3] at q; exact q)
        by_cases c2 : a = 36
        · subst c2
          refine (plain_end h hs h1 hV2 h2).mono ?_
          intro e' w' q
          exact .ok (a := { kd := 3 }) (r := t) (by unfold plainL; rw [← hc, hn, hc]; rfl) (by rw [hp3] at q; exact q)
        by_cases c3 : a = 39
        · subst c3
          cases t with
          | nil =>
            refine (plain_markend h hs h1 hV2 h2 h3.end_).mono ?_
            intro e' w' q
            exact .bad (a := {}) (by unfold plainL; rw [← hc, hn, hc]; rfl) q
          | cons c t2 =>
            obtain ⟨m1, m2, m3⟩ := h3.cons
            have hp4 := m3.pos
            refine (plain_mark h hs h1 hV2 h2 m1).mono ?_
            intro e' w' q
            exact .ok (a := { kd := 4, c := c.toNat }) (r := t2) (by unfold plainL; rw [← hc, hn, hc]; rfl) (by rw [hp4, m2] at q; exact q)
        by_cases c4 : a = 47
        · subst c4
          refine (plain_fore h hs h1 hV2 h2 h3).mono ?_
          intro e' w' q
          exact .ok (a := { kd := 5, pt := (upL 47 t).1 }) (r := (upL 47 t).2) (by unfold plainL; rw [← hc, hn, hc]; rfl) q
        by_cases c5 : a = 63
        · subst c5
          refine (plain_back h hs h1 hV2 h2 h3).mono ?_
          intro e' w' q
          exact .ok (a := { kd := 6, pt := (upL 63 t).1 }) (r := (upL 63 t).2) (by unfold plainL; rw [← hc, hn, hc]; rfl) q
        refine (plain_none h hs hk hV2 (fun _ => ⟨hne 46 c1, hne 36 c2, hne 39 c3, hne 47 c4, hne 63 c5⟩)).mono ?_
        intro e' w' q
        refine .ok (a := {}) (r := a :: t) ?_ (by rw [← hcons.pos]; exact q)
        unfold plainL
        rw [← hc, hn, hc]
        simp only [if_neg c1, if_neg c2, if_neg c3, if_neg c4, if_neg c5]
theorem aad_any (h : Plc T s k b w) (hs : s.size ≤ 1000000) (hl : Lf s k l) :
    Calls Tryz.prog 129 #[.pointer (some ⟨b, 0, none⟩)] w fun e w' => AdR T s b (addrL l) w e w' := by
  cases hp : plainL l with
  | none =>
    refine (address_bad h hs (fun z hz => (apl_any hz hs hl).mono fun e w' q => ?_)).mono ?_
    · obtain ⟨⟨a, q1⟩, q2, q3⟩ := q.no hp
      exact ⟨⟨_, _, _, _, _, _, q1⟩, q2, q3⟩
    · rintro e w' ⟨rfl, q2, k, q3⟩
      exact .bad (a := {}) (by unfold addrL; rw [hp]) ⟨rfl, q2, q3⟩
  | some q =>
    obtain ⟨a, r⟩ := q
    obtain ⟨hkd, ho, hsm⟩ := plainL_kd hp
    have hL := hl.suf (plainL_suf hp)
    have hrl := hL.len
    have hF := offF_L (r.length + 1) 0 hL
    cases hof : offL (r.length + 1) r 0 with
    | none =>
      rw [hof] at hF
      refine (address_gen h hs (kd := a.kd) (by omega) (n := a.n) (c := a.c) (pt := ⟨a.pt.toArray⟩) (k1 := s.size - r.length) (off := 0) (er := 141) (PK := fun _ => True) (fun z hz => (apl_any hz hs hl).mono fun e w' q => ?_) hL.1 (fun z hz => (offset_any hz hs hL.1 (f := r.length + 1) (by have := hL.1; omega) hF).mono fun e w' q => ?_)).mono ?_
      · obtain ⟨q1, q2, q3⟩ := q.yes _ _ hp
        unfold adC at q1
        rw [ho, hsm] at q1
        exact ⟨q1, q2, q3⟩
      · obtain ⟨q1, q2, k2, q3⟩ := q.no rfl
        exact ⟨q1, k2, trivial, q2, q3⟩
      · rintro e w' ⟨k2, _, rfl, q2, q3⟩
        refine .bad (a := { a with kd := (kdF a.kd (s.size - r.length) k2).toNat, off := 0, semi := false }) (by unfold addrL; rw [hp]; simp only [hof]) ⟨?_, q2, q3⟩
        unfold adC
        have : ((kdF a.kd (s.size - r.length) k2).toNat : Int) = kdF a.kd (s.size - r.length) k2 := by unfold kdF; split <;> simp
        simp only [this]
    | some p =>
      obtain ⟨o, r'⟩ := p
      rw [hof] at hF
      have hL' := hL.suf (offL_suf _ _ _ hof)
      refine (address_gen h hs (kd := a.kd) (by omega) (n := a.n) (c := a.c) (pt := ⟨a.pt.toArray⟩) (k1 := s.size - r.length) (off := o) (er := 0) (PK := fun k2 => k2 = s.size - r'.length) (fun z hz => (apl_any hz hs hl).mono fun e w' q => ?_) hL.1 (fun z hz => (offset_any hz hs hL.1 (f := r.length + 1) (by have := hL.1; omega) hF).mono fun e w' q => ?_)).mono ?_
      · obtain ⟨q1, q2, q3⟩ := q.yes _ _ hp
        unfold adC at q1
        rw [ho, hsm] at q1
        exact ⟨q1, q2, q3⟩
      · obtain ⟨q1, q2, q3, _⟩ := q.yes _ _ rfl
        exact ⟨q1, _, rfl, q2, q3⟩
      · rintro e w' ⟨k2, rfl, rfl, q2, q3⟩
        refine .ok (a := { a with off := o, kd := if a.kd = 0 ∧ r'.length < r.length then 2 else a.kd }) (r := r') (by unfold addrL; rw [hp]; simp only [hof]) ⟨?_, q2, q3⟩
        unfold adC
        have : (((if a.kd = 0 ∧ r'.length < r.length then 2 else a.kd : Nat)) : Int) = kdF a.kd (s.size - r.length) (s.size - r'.length) := by
          unfold kdF
          have h1 := hL'.1
          have h2 := hL'.len
          have h3 := (offL_suf _ _ _ hof).length_le
          have h4 := hL.1
          by_cases c : a.kd = 0 ∧ r'.length < r.length
          · rw [if_pos c, if_pos ⟨c.1, by omega⟩]; rfl
          · rw [if_neg c, if_neg (fun q => c ⟨q.1, by omega⟩)]
        simp only [this, hsm]
end
end Go.Proofs.YtfgapmfjfienhaaGreatDoor
/- Addresses, one behind the other. -/
namespace Go.Proofs.YtfgapmfjfienhaaGreatDoor
open Go.ChangeShapes Go.WideShapes Go.ChangeAt Go.RowKit Go.Maps Go.MapKept
set_option linter.unusedVariables false
set_option linter.unusedSimpArgs false
set_option maxRecDepth 100000
theorem infoAddr : (Tryz.prog.info? 43).map (fun i => (i.zero, i.size, i.bytes)) = some (some (.agg #[.int .u8 0, .int .i64 0, .int .u8 0, .string ⟨#[]⟩, .int .i64 0, .bool false]), 6, 56) := by kernel_rfl
def adCs (l : List AdP) : List Value := l.flatMap adC
theorem adC_len (a : AdP) : (adC a).length = 6 := rfl
theorem adCs_len : ∀ l : List AdP, (adCs l).length = l.length * 6
  | [] => rfl
  | a :: r => by
    have := adCs_len r
    unfold adCs at this ⊢
    rw [List.flatMap_cons, List.length_append, this, adC_len, List.length_cons]; omega
theorem adCs_app (l : List AdP) (a : AdP) : adCs (l ++ [a]) = adCs l ++ adC a := by simp [adCs]
theorem adC_one (a : AdP) : ∀ u ∈ adC a, u.oneCell' = true := one6 ⟨rfl, rfl, rfl, rfl, rfl, rfl⟩
theorem amo_cs : ∀ c : Fin 256, amo c.val ⟨#[44, 59]⟩ = (c.val == 44 || c.val == 59) := by decide +kernel
theorem amo_cs' {c : Nat} (h : c < 256) : amo c ⟨#[44, 59]⟩ = (c == 44 || c == 59) := amo_cs ⟨c, h⟩
theorem amo_pc : ∀ c : Fin 256, amo c.val ⟨#[37]⟩ = (c.val == 37) := by decide +kernel
theorem amo_pc' {c : Nat} (h : c < 256) : amo c ⟨#[37]⟩ = (c == 37) := amo_pc ⟨c, h⟩
section
variable {T : TypeId} {s : ByteArray} {k b : Nat} {w w1 w2 : World} {l : List UInt8}
theorem whl_blk (h : Plc T s k b w) (hs : s.size ≤ 1000000) (hl : Lf s k l) :
    Calls Tryz.prog 125 #[.pointer (some ⟨b, 0, none⟩), .func (.func 128) #[] #[]] w fun e w' => (∃ x, e = .returned (.string x)) ∧ Fr (On b) w w' ∧ Plc T s (s.size - (l.dropWhile bkB).length) b w' := by
  obtain ⟨e1, e2, e3⟩ := hl.span blkF
  have e4 : spanE blkF s k = s.size - (l.dropWhile bkB).length := e2.pos
  refine (while_blk h hs hl.1).mono ?_
  rintro e w' ⟨rfl, q1, q2⟩
  exact ⟨⟨_, rfl⟩, q1, by rw [← e4]; exact q2⟩
theorem whl_ahe (h : Plc T s k b w) (hs : s.size ≤ 1000000) (hl : Lf s k l) :
    Calls Tryz.prog 125 #[.pointer (some ⟨b, 0, none⟩), .func (.func 126) #[] #[]] w fun e w' => (∃ x, e = .returned (.string x)) ∧ Fr (On b) w w' ∧ Plc T s (s.size - (l.dropWhile ahB).length) b w' := by
  obtain ⟨e1, e2, e3⟩ := hl.span aheF
  have e4 : spanE aheF s k = s.size - (l.dropWhile ahB).length := e2.pos
  refine (while_ahe h hs hl.1).mono ?_
  rintro e w' ⟨rfl, q1, q2⟩
  exact ⟨⟨_, rfl⟩, q1, by rw [← e4]; exact q2⟩
theorem sgn_any (h : Plc T s k b w) (hs : s.size ≤ 1000000) (hl : Lf s k l) :
    Calls Tryz.prog 127 #[.pointer (some ⟨b, 0, none⟩), .string ⟨#[44, 59]⟩] w fun e w' => e = .returned (.tuple #[.int .u8 (((signL l).1.map UInt8.toNat).getD 0 : Nat), .bool (signL l).1.isSome]) ∧ Fr (On b) w w' ∧ Plc T s (s.size - (signL l).2.length) b w' := by
  cases l with
  | nil =>
    have e := hl.end_
    subst e
    refine (oneOf_end h hs).mono ?_
    rintro e w' ⟨rfl, q, rfl⟩
    exact ⟨rfl, Fr.drewN _ _ q, h.kp (kp_drewN _ q)⟩
  | cons a r =>
    obtain ⟨h1, h2, h3⟩ := hl.cons
    have hm := amo_cs' (byteAt_lt s k)
    rw [h2] at hm
    by_cases c : a = 44 ∨ a = 59
    · have hs1 : signL (a :: r) = (some a, r) := by unfold signL; simp only [if_pos c]
      rw [hs1]
      refine (oneOf_yes h hs h1 (by rw [h2, hm]; rcases c with rfl | rfl <;> rfl)).mono ?_
      rintro e w' ⟨rfl, q1, q2⟩
      exact ⟨by rw [h2]; rfl, q1, by rw [← h3.pos]; exact q2⟩
    · have hs1 : signL (a :: r) = (none, a :: r) := by unfold signL; simp only [if_neg c]
      rw [hs1]
      refine (oneOf_no h hs h1 (by
        rw [h2, hm]
        have n1 : a.toNat ≠ 44 := fun q => c (.inl (UInt8.toNat_inj.1 q))
        have n2 : a.toNat ≠ 59 := fun q => c (.inr (UInt8.toNat_inj.1 q))
        simp [n1, n2])).mono ?_
      rintro e w' ⟨rfl, q, rfl⟩
      exact ⟨rfl, Fr.drewN _ _ q, by rw [← hl.pos]; exact h.kp (kp_drewN _ q)⟩
/-- Addresses under way. -/
structure Adu (T : TypeId) (s : ByteArray) (b : Nat) (w : World) (k : Nat) (v : Value) (acc : List AdP) (w1 : World) : Prop where
  row : w1.ownsRow w.heap.size 43 6 v acc.length (adCs acc)
  pc : Plc T s k b w1
  fr : Fr (On b) w w1
  hb : b < w.heap.size
  le : acc.length ≤ k + 1
variable {v v' : Value} {acc : List AdP} {j q : Nat} {m m' : List Value}
theorem Adu.start (h : Plc T s k b w1) (f : Fr (On b) w w1) (hb : b < w.heap.size) : Adu T s b w k (.slice none 0 0) [] w1 := ⟨World.ownsRow_nil _ _ _ _, h, f, hb, Nat.zero_le _⟩
theorem Adu.call (h : Adu T s b w k v acc w1) (f : Fr (On b) w1 w2) (p : Plc T s j b w2) (hj : acc.length ≤ j + 1) : Adu T s b w j v acc w2 :=
  ⟨row_fr h.row f fun i e hi => by unfold On at hi; subst hi; have := (h.row.lt _ e).1; have := h.hb; omega, p, h.fr.trans f, h.hb, hj⟩
theorem Adu.kp (h : Adu T s b w k v acc w1) (f : Kp w1 w2) : Adu T s b w k v acc w2 := ⟨row_kp h.row f, h.pc.kp f, h.fr.trans (Fr.of_below f), h.hb, h.le⟩
theorem Adu.form (h : Adu T s b w k v acc w1) : ∃ a c, v = .slice a acc.length c ∧ acc.length ≤ c ∧ c ≤ maxLen := owns_form h.row
theorem Adu.more (h : Adu T s b w k v acc w1) {a : AdP} (hr : w2.ownsRow w.heap.size 43 6 v' (acc.length + 1) (adCs acc ++ adC a)) (hg : w1.grownBy w2 v.ownBlock) (hk : acc.length ≤ k) : Adu T s b w k v' (acc ++ [a]) w2 := by
  have hB := below_grown h.row h.fr.size hg
  exact ⟨by rw [List.length_append, adCs_app]; exact hr, h.pc.blw h.hb hB, fr_blw h.fr hB, h.hb, by rw [List.length_append]; exact Nat.succ_le_succ hk⟩
/-- .. and the address that is read. -/
structure Adv (T : TypeId) (s : ByteArray) (b : Nat) (w : World) (k : Nat) (v : Value) (acc : List AdP) (q : Nat) (m : List Value) (w1 : World) : Prop where
  u : Adu T s b w k v acc w1
  lq : Lc 43 q m w1
  hq : w.heap.size ≤ q
  ne : v.ownBlock ≠ some q
theorem Adu.two (h : Adu T s b w k v acc w1) : Adv T s b w k v acc w1.heap.size [.int .u8 0, .int .i64 0, .int .u8 0, .string ⟨#[]⟩, .int .i64 0, .bool false] (w1.alloc (.cells #[.int .u8 0, .int .i64 0, .int .u8 0, .string ⟨#[]⟩, .int .i64 0, .bool false] 43)) :=
  ⟨h.kp (kp_alloc _ _), Lc.new w1 [.int .u8 0, .int .i64 0, .int .u8 0, .string ⟨#[]⟩, .int .i64 0, .bool false] 43, h.fr.size, fun e => by have := (h.row.lt _ e).2; omega⟩
theorem Adv.call (h : Adv T s b w k v acc q m w1) (f : Fr (On b) w1 w2) (p : Plc T s j b w2) (hj : acc.length ≤ j + 1) : Adv T s b w j v acc q m w2 :=
  ⟨h.u.call f p hj, h.lq.fr f (by unfold On; have := h.u.hb; have := h.hq; omega), h.hq, h.ne⟩
theorem Adv.put (h : Adv T s b w k v acc q m w1) (x : Lc 43 q m' w2) (f : Fr (On q) w1 w2) : Adv T s b w k v acc q m' w2 :=
  ⟨⟨row_fr h.u.row f fun i e hi => by unfold On at hi; subst hi; exact h.ne e, Lc.fr h.u.pc f (by unfold On; have := h.u.hb; have := h.hq; omega), frB h.u.fr h.hq f, h.u.hb, h.u.le⟩, x, h.hq, h.ne⟩
theorem Adv.set (h : Adv T s b w k v acc q m w1) (i : Nat) (x : Value) : Adv T s b w k v acc q (m.set i x) (w1.setCell ⟨q, i, none⟩ x) := h.put (h.lq.set i x) (fr_set _ _ _ _)
/-- What addresses answers. -/
structure AdsR (T : TypeId) (s : ByteArray) (b : Nat) (R : Option (List AdP × List UInt8)) (w : World) (e : Ending) (w' : World) : Prop where
  yes : ∀ xs r, R = some (xs, r) → (∃ v, e = .returned (.tuple #[v, .int .u16 0]) ∧ w'.ownsRow w.heap.size 43 6 v xs.length (adCs xs)) ∧ Fr (On b) w w' ∧ Plc T s (s.size - r.length) b w'
  no : R = none → e = .returned (.tuple #[.slice none 0 0, .int .u16 141]) ∧ Fr (On b) w w' ∧ ∃ k, Plc T s k b w'
theorem AdsR.ok {R : Option (List AdP × List UInt8)} {xs : List AdP} {r : List UInt8} {e : Ending} (hR : R = some (xs, r)) (h : (∃ v, e = .returned (.tuple #[v, .int .u16 0]) ∧ w1.ownsRow w.heap.size 43 6 v xs.length (adCs xs)) ∧ Fr (On b) w w1 ∧ Plc T s (s.size - r.length) b w1) : AdsR T s b R w e w1 :=
  ⟨fun a' r' q => by rw [hR] at q; cases q; exact h, fun q => by rw [hR] at q; cases q⟩
theorem AdsR.bad {R : Option (List AdP × List UInt8)} {e : Ending} (hR : R = none) (h : e = .returned (.tuple #[.slice none 0 0, .int .u16 141]) ∧ Fr (On b) w w1 ∧ ∃ k, Plc T s k b w1) : AdsR T s b R w e w1 :=
  ⟨fun a' r' q => (by rw [hR] at q; cases q), fun q => h⟩
theorem addrL_kd {l r : List UInt8} {a : AdP} (h : addrL l = some (a, r)) : a.kd < 7 := by
  unfold addrL at h
  split at h
  · cases h
  · rename_i a0 r0 h0
    split at h
    · cases h
    · simp only [Option.some.injEq, Prod.mk.injEq] at h
      obtain ⟨rfl, _⟩ := h
      have := (plainL_kd h0).1
      show (if _ then _ else _) < 7
      split <;> omega
theorem addrL_semi {l r : List UInt8} {a : AdP} (h : addrL l = some (a, r)) : a.semi = false := by
  unfold addrL at h
  split at h
  · cases h
  · rename_i a0 r0 h0
    split at h
    · cases h
    · simp only [Option.some.injEq, Prod.mk.injEq] at h
      obtain ⟨rfl, _⟩ := h
      exact (plainL_kd h0).2.2
theorem isS_none {sg : Option UInt8} (h : sg.isSome = false) : sg = none := by
  cases sg with
  | none => rfl
  | some y => cases h
theorem isS_some {sg : Option UInt8} (h : sg.isSome = true) : sg ≠ none := by
  cases sg with
  | none => cases h
  | some y => simp
theorem row2 (W : World) (x y : AdP) : (W.alloc (.cells (adC x ++ adC y).toArray 43)).ownsRow W.heap.size 43 6 (.slice (some ⟨W.heap.size, 0, none⟩) 2 2) 2 (adC x ++ adC y) :=
  ⟨rfl, .inr ⟨W.heap.size, 2, _, rfl, Nat.le_refl _, alloc_new _ _, Nat.le_refl _, by simp [maxLen], rfl, rfl⟩⟩
set_option maxHeartbeats 32000000 in
theorem addresses_none (h : Plc T s k b w) (hs : s.size ≤ 1000000) (hl : Lf s k l) {l1 : List UInt8} (hl1 : l.dropWhile ahB = l1) (hp : ∀ t, l1 ≠ 37 :: t) :
    Calls Tryz.prog 99 #[.pointer (some ⟨b, 0, none⟩)] w fun e w' => AdsR T s b (adsL (l1.length + 1) l1 []) w e w' := by
  obtain ⟨i9, hi9, z0, z1, z2⟩ := info_parts infoAddr
  obtain ⟨R, hR⟩ : ∃ R, adsL (l1.length + 1) l1 [] = R := ⟨_, rfl⟩
  have hb := h.lt
  have HA : Hid (Calls Tryz.prog 125 #[.pointer (some ⟨b, 0, none⟩), .func (.func 126) #[] #[]] w fun e w' => (∃ x, e = .returned (.string x)) ∧ Hid (Fr (On b) w w' ∧ Plc T s (s.size - l1.length) b w')) := by
    rw [← hl1]; exact (whl_ahe h hs hl).mono (fun e w' ⟨q1, q2⟩ => ⟨q1, q2⟩)
  have hL : Lf s (s.size - l1.length) l1 := hl.suf (by rw [← hl1]; exact dropW_suf l)
  have HP : Hid (∀ z, (Fr (On b) w z ∧ Plc T s (s.size - l1.length) b z) → Calls Tryz.prog 127 #[.pointer (some ⟨b, 0, none⟩), .string ⟨#[37]⟩] z fun e w' => e = .returned (.tuple #[.int .u8 0, .bool false]) ∧ Hid (Fr (On b) w w' ∧ Plc T s (s.size - l1.length) b w')) := by
    intro z hz
    cases l1 with
    | nil =>
      have e := hL.end_
      have hz2 := hz.2
      rw [e] at hz2
      refine (oneOf_end hz2 hs).mono ?_
      rintro e w' ⟨rfl, q, rfl⟩
      exact ⟨rfl, hz.1.trans (Fr.drewN _ _ q), hz.2.kp (kp_drewN _ q)⟩
    | cons a t =>
      obtain ⟨h1, h2, h3⟩ := hL.cons
      refine (oneOf_no hz.2 hs h1 (by
        rw [amo_pc' (byteAt_lt s _), h2]
        have n1 : a.toNat ≠ 37 := fun q => hp t (by rw [UInt8.toNat_inj.1 (show a.toNat = (37 : UInt8).toNat from q)])
        simp [n1])).mono ?_
      rintro e w' ⟨rfl, q, rfl⟩
      exact ⟨rfl, hz.1.trans (Fr.drewN _ _ q), hz.2.kp (kp_drewN _ q)⟩
  have H0 : Hid (Lf s (s.size - l1.length) l1 ∧ adsL (l1.length + 1) l1 [] = R ∧ b < w.heap.size) := ⟨hL, hR, hb⟩
  rw [hR]
  clear h hl hR hb hL hl1 hp
  go_enter Tryz.func99, Tryz.ntmps99
  go_wp2_with fail
  refine Calls.mono HA.out ?_
  rintro e w1 ⟨⟨x, rfl⟩, HX⟩
  clear HA
  go_wp2_with fail
  refine Calls.mono (HP.out _ HX.out) ?_
  rintro e w2 ⟨rfl, HY⟩
  clear HP HX
  go_wp2_with fail
  go_loopw [6] (fun v6 wr => ∃ (k f : Nat) (m : List UInt8) (acc : List AdP), Hid (Lf s k m ∧ m.length < f ∧ adsL f m acc = R ∧ Adu T s b w k v6 acc wr ∧ acc.length ≤ k)) (fun v6 wr => s.size - plOf b wr)
  case atStart => exact ⟨_, _, l1, [], H0.out.1, Nat.lt_succ_self _, H0.out.2.1, Adu.start HY.out.2 HY.out.1 H0.out.2.2, Nat.zero_le _⟩
  case round =>
    clear H0 HY
    obtain ⟨k, f, m, acc, HJ⟩ := hrel
    obtain ⟨f, rfl⟩ : ∃ g, f = g + 1 := ⟨f - 1, by have := HJ.out.2.1; omega⟩
    obtain ⟨va, vc, rfl, v1, v2⟩ := HJ.out.2.2.2.1.form
    have hpl := HJ.out.2.2.2.1.pc.pl
    have HAd : Hid (Calls Tryz.prog 129 #[.pointer (some ⟨b, 0, none⟩)] wr fun e w' => AdR T s b (addrL m) wr e w') := aad_any HJ.out.2.2.2.1.pc hs HJ.out.1
    have hacc := HJ.out.2.2.2.2
    cases hA : addrL m with
    | none =>
      as_aux_lemma =>
      rw [hA] at HAd
      have HR : Hid (R = none) := by have := HJ.out.2.2.1; unfold adsL at this; rw [hA] at this; exact this.symm
      clear hpl hA
      go_wp2_with fail
      refine Calls.mono HAd.out ?_
      intro e w3 q
      obtain ⟨⟨x, rfl⟩, q2, k3, q3⟩ := q.no rfl
      have HX : Hid (Fr (On b) w w3 ∧ ∃ k, Plc T s k b w3) := ⟨HJ.out.2.2.2.1.fr.trans q2, k3, q3⟩
      clear q q2 q3 HAd HJ
      obtain ⟨q, hq⟩ : ∃ q, w3.heap.size = q := ⟨_, rfl⟩
      obtain ⟨W3, hW3⟩ : ∃ z, w3.alloc (.cells #[.int .u8 0, .int .i64 0, .int .u8 0, .string ⟨#[]⟩, .int .i64 0, .bool false] 43) = z := ⟨_, rfl⟩
      have HB : Hid (Lc 43 q [.int .u8 0, .int .i64 0, .int .u8 0, .string ⟨#[]⟩, .int .i64 0, .bool false] W3 ∧ w.heap.size ≤ q ∧ b < q ∧ Fr (On b) w W3 ∧ ∃ k, Plc T s k b W3) := by
        obtain ⟨k, hk⟩ := HX.out.2
        rw [← hW3, ← hq]
        exact ⟨Lc.new w3 [.int .u8 0, .int .i64 0, .int .u8 0, .string ⟨#[]⟩, .int .i64 0, .bool false] 43, HX.out.1.size, hk.lt, HX.out.1.trans (Fr.of_below (kp_alloc _ _)), k, hk.kp (kp_alloc _ _)⟩
      clear HX
      go_wp2_with (refine wpList_store_box HB.out.1 0 (adC x) rfl 43 (.tmp 7) (.tmp 33) rfl rfl rfl (Nat.le_refl 6) sizeAddr (adC_one x) rfl ?_; intro w9 q1 q2 q3; have HC : Hid (Fr (On b) w w9 ∧ ∃ k, Plc T s k b w9) := ⟨frB HB.out.2.2.2.1 HB.out.2.1 q2, HB.out.2.2.2.2.imp fun k hk => Lc.fr hk q2 (by unfold On; have := HB.out.2.2.1; omega)⟩; clear q1 q2 q3)
      go_ret2
      exact .bad HR.out ⟨rfl, HC.out.1, HC.out.2⟩
    | some p =>
      obtain ⟨⟨kd, n, c, pt, off, smi⟩, r⟩ := p
      obtain rfl : smi = false := addrL_semi hA
      have hkd : kd < 7 := addrL_kd hA
      have hsf := addrL_suf hA
      rw [hA] at HAd
      have hLr := HJ.out.1.suf hsf
      have hmr := hsf.length_le
      have hlm := HJ.out.1.len
      have hkm := HJ.out.1.1
      obtain ⟨r1, hr1⟩ : ∃ r1, r.dropWhile bkB = r1 := ⟨_, rfl⟩
      have hs1 : r1 <:+ r := by rw [← hr1]; exact dropW_suf r
      have hL1 := hLr.suf hs1
      have hl1 := hs1.length_le
      obtain ⟨sg, r2, hsg⟩ : ∃ sg r2, signL r1 = (sg, r2) := ⟨_, _, rfl⟩
      have hs2 : r2 <:+ r1 := by have := signL_suf r1; rw [hsg] at this; exact this
      have hL2 := hL1.suf hs2
      have hl2 := hs2.length_le
      obtain ⟨r3, hr3⟩ : ∃ r3, r2.dropWhile bkB = r3 := ⟨_, rfl⟩
      have hs3 : r3 <:+ r2 := by rw [← hr3]; exact dropW_suf r2
      have hl3 := hs3.length_le
      have HStep : Hid ((if kd = 0 ∧ sg = none ∧ acc = [] then some ([], r3) else if sg = none then some (acc ++ [⟨if kd = 0 then 2 else kd, n, c, pt, off, decide (sg = some 59)⟩], r3) else adsL f r3 (acc ++ [⟨if kd = 0 then 2 else kd, n, c, pt, off, decide (sg = some 59)⟩])) = R) := by
        have := HJ.out.2.2.1
        unfold adsL at this
        rw [hA] at this
        simp only [hr1, hsg, hr3] at this
        exact this
      have HFu : Hid (m.length < f + 1) := HJ.out.2.1
      have hlt1 : sg ≠ none → r2.length < r1.length := by
        intro hne
        cases r1 with
        | nil => unfold signL at hsg; cases hsg; exact absurd rfl hne
        | cons y t =>
          unfold signL at hsg
          simp only at hsg
          split at hsg
          · cases hsg; exact Nat.lt_succ_self _
          · cases hsg; exact absurd rfl hne
      obtain ⟨G, hG⟩ : ∃ G : Nat, (sg.map UInt8.toNat).getD 0 = G := ⟨_, rfl⟩
      obtain ⟨M, hM⟩ : ∃ M : Bool, sg.isSome = M := ⟨_, rfl⟩
      obtain ⟨sm, hsm⟩ : ∃ sm : Bool, decide (sg = some 59) = sm := ⟨_, rfl⟩
      have gs : ((G : Int) == 59) = sm := by
        rw [← hG, ← hsm]
        cases sg with
        | none => rfl
        | some y =>
          show (((y.toNat : Nat) : Int) == 59) = _
          rw [Bool.eq_iff_iff]
          simp only [beq_iff_eq, decide_eq_true_eq, Option.some.injEq]
          exact ⟨fun q => UInt8.toNat_inj.1 (by show y.toNat = 59; omega), fun q => by rw [q]; rfl⟩
      have HW1 : Hid (∀ z q, Adv T s b w (s.size - r.length) (.slice va acc.length vc) acc q [.int .u8 (kd : Int), .int .i64 (n : Int), .int .u8 (c : Int), .string ⟨pt.toArray⟩, .int .i64 off, .bool false] z → Calls Tryz.prog 125 #[.pointer (some ⟨b, 0, none⟩), .func (.func 128) #[] #[]] z fun e w' => (∃ x, e = .returned (.string x)) ∧ Hid (Adv T s b w (s.size - r1.length) (.slice va acc.length vc) acc q [.int .u8 (kd : Int), .int .i64 (n : Int), .int .u8 (c : Int), .string ⟨pt.toArray⟩, .int .i64 off, .bool false] w')) := by
        intro z q hz
        refine (whl_blk hz.u.pc hs hLr).mono ?_
        rintro e w' ⟨q1, q2, q3⟩
        rw [hr1] at q3
        exact ⟨q1, hz.call q2 q3 (by omega)⟩
      have HW2 : Hid (∀ z q, Adv T s b w (s.size - r1.length) (.slice va acc.length vc) acc q [.int .u8 (kd : Int), .int .i64 (n : Int), .int .u8 (c : Int), .string ⟨pt.toArray⟩, .int .i64 off, .bool false] z → Calls Tryz.prog 127 #[.pointer (some ⟨b, 0, none⟩), .string ⟨#[44, 59]⟩] z fun e w' => e = .returned (.tuple #[.int .u8 (G : Int), .bool M]) ∧ Hid (Adv T s b w (s.size - r2.length) (.slice va acc.length vc) acc q [.int .u8 (kd : Int), .int .i64 (n : Int), .int .u8 (c : Int), .string ⟨pt.toArray⟩, .int .i64 off, .bool false] w')) := by
        intro z q hz
        have := sgn_any hz.u.pc hs hL1
        rw [hsg] at this
        simp only [hG, hM] at this
        refine this.mono ?_
        rintro e w' ⟨rfl, q2, q3⟩
        exact ⟨rfl, hz.call q2 q3 (by omega)⟩
      have HW3 : Hid (∀ z q, Adv T s b w (s.size - r2.length) (.slice va acc.length vc) acc q [.int .u8 (kd : Int), .int .i64 (n : Int), .int .u8 (c : Int), .string ⟨pt.toArray⟩, .int .i64 off, .bool false] z → Calls Tryz.prog 125 #[.pointer (some ⟨b, 0, none⟩), .func (.func 128) #[] #[]] z fun e w' => (∃ x, e = .returned (.string x)) ∧ Hid (Adv T s b w (s.size - r3.length) (.slice va acc.length vc) acc q [.int .u8 (kd : Int), .int .i64 (n : Int), .int .u8 (c : Int), .string ⟨pt.toArray⟩, .int .i64 off, .bool false] w')) := by
        intro z q hz
        refine (whl_blk hz.u.pc hs hL2).mono ?_
        rintro e w' ⟨q1, q2, q3⟩
        rw [hr3] at q3
        exact ⟨q1, hz.call q2 q3 (by omega)⟩
      have hL3 := hL2.suf hs3
      have HL3 : Hid (Lf s (s.size - r3.length) r3) := hL3
      obtain ⟨K, hKK⟩ : ∃ K, s.size - r3.length = K := ⟨_, rfl⟩
      rw [hKK] at HW3 HL3
      have hK6 : K ≤ 1000000 := by omega
      have hkK : k ≤ K := by omega
      have hkr : sg ≠ none → r3.length < m.length := fun q => by have := hlt1 q; omega
      have hkK2 : sg ≠ none → k < K := fun q => by have := hlt1 q; omega
      have HKe : Hid (s.size - r3.length = K) := hKK
      have HAcc : Hid (acc.length ≤ k) := hacc
      go_wp2_with fail
      refine Calls.mono HAd.out ?_
      intro e w3 q0
      obtain ⟨q1, f3, p3⟩ := q0.yes _ _ rfl
      simp only [adC] at q1
      subst q1
      have HU3 : Hid (Adu T s b w (s.size - r.length) (.slice va acc.length vc) acc w3) := HJ.out.2.2.2.1.call f3 p3 (by have := HAcc.out; omega)
      clear q0 f3 p3 HAd HJ
      obtain ⟨q, hq⟩ : ∃ q, w3.heap.size = q := ⟨_, rfl⟩
      obtain ⟨W3, hW3⟩ : ∃ z, w3.alloc (.cells #[.int .u8 0, .int .i64 0, .int .u8 0, .string ⟨#[]⟩, .int .i64 0, .bool false] 43) = z := ⟨_, rfl⟩
      have HB : Hid (Adv T s b w (s.size - r.length) (.slice va acc.length vc) acc q [.int .u8 0, .int .i64 0, .int .u8 0, .string ⟨#[]⟩, .int .i64 0, .bool false] W3) := by rw [← hW3, ← hq]; exact HU3.out.two
      have HHH : Hid (hA = hA) := rfl
      have hlk : acc.length ≤ K := by have := HAcc.out; omega
      have HM : Hid (sg.isSome = M) := hM
      have HSm : Hid (decide (sg = some 59) = sm) := hsm
      have HkK2 : Hid (sg ≠ none → k < K) := hkK2
      have Hkr : Hid (sg ≠ none → r3.length < m.length) := hkr
      clear HU3 HHH hLr hmr hlm hkm hs1 hL1 hl1 hsg hs2 hL2 hl2 hs3 hl3 hlt1 hL3 hKK hkK hkr hkK2 hacc hr1 hr3 hG hM hsm hsf hA hkd
      go_wp2_with (refine wpList_store_box HB.out.lq 0 [.int .u8 (kd : Int), .int .i64 (n : Int), .int .u8 (c : Int), .string ⟨pt.toArray⟩, .int .i64 off, .bool false] rfl 43 (.tmp 7) (.tmp 33) rfl rfl rfl (Nat.le_refl 6) sizeAddr (one6 ⟨rfl, rfl, rfl, rfl, rfl, rfl⟩) rfl ?_; intro w4 q1 q2 q3; have HC : Hid _ := HB.out.put q1 q2; clear q1 q2 q3)
      refine Calls.mono (HW1.out _ _ HC.out) ?_
      rintro e w41 ⟨⟨x1, rfl⟩, HC1⟩
      clear HW1 HC HB hq hW3
      go_wp2_with fail
      refine Calls.mono (HW2.out _ _ HC1.out) ?_
      rintro e w42 ⟨rfl, HC2⟩
      clear HW2 HC1
      go_wp2_with fail
      refine Calls.mono (HW3.out _ _ HC2.out) ?_
      rintro e w5 ⟨⟨x2, rfl⟩, HD⟩
      clear HW3 HC2
      by_cases hkd : kd = 0
      · have g0 : ((kd : Int) == 0) = true := by rw [beq_iff_eq]; omega
        cases M with
        | false =>
          by_cases hae : acc.length = 0
          · as_aux_lemma =>
            have g6 : ((acc.length : Int) == 0) = true := by rw [beq_iff_eq]; omega
            have HRR : Hid (R = some ([], r3)) := by
              have := HStep.out
              have hn : sg = none := isS_none HM.out
              rw [if_pos ⟨hkd, hn, List.eq_nil_of_length_eq_zero hae⟩] at this
              exact this.symm
            have HX : Hid (Fr (On b) w w5 ∧ Plc T s K b w5) := ⟨HD.out.u.fr, HD.out.u.pc⟩
            have c0 : w5.cell? ⟨q, 0, none⟩ = some (.int .u8 (kd : Int)) := HD.out.lq.at (j := 0) rfl
            clear HD HStep hkd hae HM HSm HkK2 Hkr
            go_wp2_with fail
            go_ret2
            exact .ok HRR.out ⟨⟨_, rfl, World.ownsRow_nil _ _ _ _⟩, HX.out.1, by rw [HKe.out]; exact HX.out.2⟩
          · have g6 : ((acc.length : Int) == 0) = false := by rw [beq_eq_false_iff_ne]; omega
            have HN : Hid (sg = none) := isS_none HM.out
            have HRR : Hid (some (acc ++ [⟨2, n, c, pt, off, sm⟩], r3) = R) := by
              have this := HStep.out
              have hn := HN.out
              rw [if_neg (fun q => hae (by rw [q.2.2]; rfl))] at this
              rw [if_pos hn, HSm.out, if_pos hkd] at this
              exact this
            clear HStep hkd HM HSm hae
            have c0 : w5.cell? ⟨q, 0, none⟩ = some (.int .u8 (kd : Int)) := HD.out.lq.at (j := 0) rfl
            have f0 : w5.frozen? ⟨q, 0, none⟩ = false := HD.out.lq.fz 0
            go_upto_region 17 with fail
            have HE : Hid _ := HD.out.set 0 (.int .u8 2)
            obtain ⟨W6, hW6⟩ : ∃ z, w5.setCell ⟨q, 0, none⟩ (.int .u8 2) = z := ⟨_, rfl⟩
            rw [hW6] at HE ⊢
            clear hW6 HD c0 f0
            have f5 : W6.frozen? ⟨q, 5, none⟩ = false := HE.out.lq.fz 5
            have c5 : W6.cell? ⟨q, 5, none⟩ = some (.bool false) := HE.out.lq.at (j := 5) rfl
            go_upto_region 18 with fail
            have HG : Hid (Adv T s b w K (.slice va acc.length vc) acc q [.int .u8 2, .int .i64 (n : Int), .int .u8 (c : Int), .string ⟨pt.toArray⟩, .int .i64 off, .bool sm] (World.setCell W6 ⟨q, 5, none⟩ (.bool sm))) := HE.out.set 5 (.bool sm)
            obtain ⟨W7, hW7⟩ : ∃ z, W6.setCell ⟨q, 5, none⟩ (.bool sm) = z := ⟨_, rfl⟩
            rw [hW7] at HG ⊢
            clear hW7 HE f5 c5
            have HR : Hid ((W7.alloc (.cells #[.int .u8 2, .int .i64 (n : Int), .int .u8 (c : Int), .string ⟨pt.toArray⟩, .int .i64 off, .bool sm] 43)).ownsRow w.heap.size 43 6 (.slice va acc.length vc) acc.length (adCs acc)) := row_kp HG.out.u.row (kp_alloc _ _)
            have HB : Hid (w.heap.size ≤ (W7.alloc (.cells #[.int .u8 2, .int .i64 (n : Int), .int .u8 (c : Int), .string ⟨pt.toArray⟩, .int .i64 off, .bool sm] 43)).heap.size) := Nat.le_trans HG.out.u.fr.size (by rw [alloc_size]; omega)
            have HU : Hid _ := HG.out.u.kp (kp_alloc W7 (.cells #[.int .u8 2, .int .i64 (n : Int), .int .u8 (c : Int), .string ⟨pt.toArray⟩, .int .i64 off, .bool sm] 43))
            have HN6 : Hid (∀ (i : Nat) (u : Value), ([.int .u8 2, .int .i64 (n : Int), .int .u8 (c : Int), .string ⟨pt.toArray⟩, .int .i64 off, .bool sm] : List Value)[i]? = some u → (W7.alloc (.cells #[.int .u8 2, .int .i64 (n : Int), .int .u8 (c : Int), .string ⟨pt.toArray⟩, .int .i64 off, .bool sm] 43)).cell? ((⟨W7.heap.size, 0, none⟩ : Addr).add i) = some u) := by
              intro i u hi
              rw [addr_add, cell_at (alloc_new W7 _)]
              simpa using hi
            go_wp2_with (first | (at_builtin; refine wpList_append_own _ rfl (.tmp 72) (.tmp 74) 25 rfl w.heap.size 43 i9 _ 6 56 Tryz.underlying25 hi9 z0 z1 z2 rfl (by decide) (.slice va acc.length vc) acc.length (adCs acc) rfl HR.out ⟨W7.heap.size, 0, none⟩ 1 1 [.int .u8 2, .int .i64 (n : Int), .int .u8 (c : Int), .string ⟨pt.toArray⟩, .int .i64 off, .bool sm] rfl rfl HN6.out (one6 ⟨rfl, rfl, rfl, rfl, rfl, rfl⟩) (by unfold maxLen; omega) (by omega) HB.out ?_; intro v9 w9 q1 q2 q3; clear q3; have HF : Hid _ := HU.out.more (a := ⟨2, n, c, pt, off, sm⟩) q1 q2 hlk; obtain ⟨a9, c9, rfl, q4, q5⟩ := owns_form q1; clear q1 q2 q4 q5) | (refine Great.wpList_buildSliceTo rfl 25 43 1 #[(0, .tmp 73)] rfl W7.heap.size rfl (some 74) rfl Tryz.underlying25 #[.int .u8 2, .int .i64 (n : Int), .int .u8 (c : Int), .string ⟨pt.toArray⟩, .int .i64 off, .bool sm] (by kernel_rfl) ?_) | (refine wpList_load_box HG.out.lq 0 [.int .u8 2, .int .i64 (n : Int), .int .u8 (c : Int), .string ⟨pt.toArray⟩, .int .i64 off, .bool sm] rfl 43 (.tmp 7) rfl rfl rfl _ Tryz.underlying43 rfl sizeAddr ?_))
            go_ret2
            exact .ok HRR.out.symm ⟨⟨_, rfl, HF.out.row⟩, HF.out.fr, by rw [HKe.out]; exact HF.out.pc⟩

        | true =>
          skip
          have HN : Hid (sg ≠ none) := isS_some HM.out
          have HRR : Hid (adsL f r3 (acc ++ [⟨2, n, c, pt, off, sm⟩]) = R) := by
            have this := HStep.out
            have hn := HN.out
            rw [if_neg (fun q => hn q.2.1)] at this
            rw [if_neg hn, HSm.out, if_pos hkd] at this
            exact this
          clear HStep hkd HM HSm
          have c0 : w5.cell? ⟨q, 0, none⟩ = some (.int .u8 (kd : Int)) := HD.out.lq.at (j := 0) rfl
          have f0 : w5.frozen? ⟨q, 0, none⟩ = false := HD.out.lq.fz 0
          go_upto_region 17 with fail
          have HE : Hid _ := HD.out.set 0 (.int .u8 2)
          obtain ⟨W6, hW6⟩ : ∃ z, w5.setCell ⟨q, 0, none⟩ (.int .u8 2) = z := ⟨_, rfl⟩
          rw [hW6] at HE ⊢
          clear hW6 HD c0 f0
          have f5 : W6.frozen? ⟨q, 5, none⟩ = false := HE.out.lq.fz 5
          have c5 : W6.cell? ⟨q, 5, none⟩ = some (.bool false) := HE.out.lq.at (j := 5) rfl
          go_upto_region 18 with fail
          have HG : Hid (Adv T s b w K (.slice va acc.length vc) acc q [.int .u8 2, .int .i64 (n : Int), .int .u8 (c : Int), .string ⟨pt.toArray⟩, .int .i64 off, .bool sm] (World.setCell W6 ⟨q, 5, none⟩ (.bool sm))) := HE.out.set 5 (.bool sm)
          obtain ⟨W7, hW7⟩ : ∃ z, W6.setCell ⟨q, 5, none⟩ (.bool sm) = z := ⟨_, rfl⟩
          rw [hW7] at HG ⊢
          clear hW7 HE f5 c5
          have HR : Hid ((W7.alloc (.cells #[.int .u8 2, .int .i64 (n : Int), .int .u8 (c : Int), .string ⟨pt.toArray⟩, .int .i64 off, .bool sm] 43)).ownsRow w.heap.size 43 6 (.slice va acc.length vc) acc.length (adCs acc)) := row_kp HG.out.u.row (kp_alloc _ _)
          have HB : Hid (w.heap.size ≤ (W7.alloc (.cells #[.int .u8 2, .int .i64 (n : Int), .int .u8 (c : Int), .string ⟨pt.toArray⟩, .int .i64 off, .bool sm] 43)).heap.size) := Nat.le_trans HG.out.u.fr.size (by rw [alloc_size]; omega)
          have HU : Hid _ := HG.out.u.kp (kp_alloc W7 (.cells #[.int .u8 2, .int .i64 (n : Int), .int .u8 (c : Int), .string ⟨pt.toArray⟩, .int .i64 off, .bool sm] 43))
          have HN6 : Hid (∀ (i : Nat) (u : Value), ([.int .u8 2, .int .i64 (n : Int), .int .u8 (c : Int), .string ⟨pt.toArray⟩, .int .i64 off, .bool sm] : List Value)[i]? = some u → (W7.alloc (.cells #[.int .u8 2, .int .i64 (n : Int), .int .u8 (c : Int), .string ⟨pt.toArray⟩, .int .i64 off, .bool sm] 43)).cell? ((⟨W7.heap.size, 0, none⟩ : Addr).add i) = some u) := by
            intro i u hi
            rw [addr_add, cell_at (alloc_new W7 _)]
            simpa using hi
          go_wp2_with (first | (at_builtin; refine wpList_append_own _ rfl (.tmp 72) (.tmp 74) 25 rfl w.heap.size 43 i9 _ 6 56 Tryz.underlying25 hi9 z0 z1 z2 rfl (by decide) (.slice va acc.length vc) acc.length (adCs acc) rfl HR.out ⟨W7.heap.size, 0, none⟩ 1 1 [.int .u8 2, .int .i64 (n : Int), .int .u8 (c : Int), .string ⟨pt.toArray⟩, .int .i64 off, .bool sm] rfl rfl HN6.out (one6 ⟨rfl, rfl, rfl, rfl, rfl, rfl⟩) (by unfold maxLen; omega) (by omega) HB.out ?_; intro v9 w9 q1 q2 q3; clear q3; have HF : Hid _ := HU.out.more (a := ⟨2, n, c, pt, off, sm⟩) q1 q2 hlk; obtain ⟨a9, c9, rfl, q4, q5⟩ := owns_form q1; clear q1 q2 q4 q5) | (refine Great.wpList_buildSliceTo rfl 25 43 1 #[(0, .tmp 73)] rfl W7.heap.size rfl (some 74) rfl Tryz.underlying25 #[.int .u8 2, .int .i64 (n : Int), .int .u8 (c : Int), .string ⟨pt.toArray⟩, .int .i64 off, .bool sm] (by kernel_rfl) ?_) | (refine wpList_load_box HG.out.lq 0 [.int .u8 2, .int .i64 (n : Int), .int .u8 (c : Int), .string ⟨pt.toArray⟩, .int .i64 off, .bool sm] rfl 43 (.tmp 7) rfl rfl rfl _ Tryz.underlying43 rfl sizeAddr ?_))
          go_roundw
          case rel => exact ⟨K, f, r3, _, HL3.out, by have := Hkr.out HN.out; have := HFu.out; omega, HRR.out, HF.out, by have := HkK2.out HN.out; have := HAcc.out; rw [List.length_append]; show _ + 1 ≤ _; omega⟩
          case measure => have h1 := HF.out.pc.pl; have h2 := HkK2.out HN.out; have h3 := HL3.out.1; rw [h1, hpl]; omega

      · have g0 : ((kd : Int) == 0) = false := by rw [beq_eq_false_iff_ne]; omega
        cases M with
        | false =>
          skip
          have HN : Hid (sg = none) := isS_none HM.out
          have HRR : Hid (some (acc ++ [⟨kd, n, c, pt, off, sm⟩], r3) = R) := by
            have this := HStep.out
            have hn := HN.out
            rw [if_neg (fun q => hkd q.1)] at this
            rw [if_pos hn, HSm.out, if_neg hkd] at this
            exact this
          clear HStep hkd HM HSm
          have c0 : w5.cell? ⟨q, 0, none⟩ = some (.int .u8 (kd : Int)) := HD.out.lq.at (j := 0) rfl
          have f0 : w5.frozen? ⟨q, 0, none⟩ = false := HD.out.lq.fz 0
          have f5 : w5.frozen? ⟨q, 5, none⟩ = false := HD.out.lq.fz 5
          have c5 : w5.cell? ⟨q, 5, none⟩ = some (.bool false) := HD.out.lq.at (j := 5) rfl
          go_upto_region 17 with fail
          have HE : Hid _ := HD.out
          clear HD
          go_upto_region 18 with fail
          have HG : Hid (Adv T s b w K (.slice va acc.length vc) acc q [.int .u8 (kd : Int), .int .i64 (n : Int), .int .u8 (c : Int), .string ⟨pt.toArray⟩, .int .i64 off, .bool sm] (World.setCell w5 ⟨q, 5, none⟩ (.bool sm))) := HE.out.set 5 (.bool sm)
          obtain ⟨W7, hW7⟩ : ∃ z, w5.setCell ⟨q, 5, none⟩ (.bool sm) = z := ⟨_, rfl⟩
          rw [hW7] at HG ⊢
          clear hW7 HE f5 c5
          try clear c0 f0
          have HR : Hid ((W7.alloc (.cells #[.int .u8 (kd : Int), .int .i64 (n : Int), .int .u8 (c : Int), .string ⟨pt.toArray⟩, .int .i64 off, .bool sm] 43)).ownsRow w.heap.size 43 6 (.slice va acc.length vc) acc.length (adCs acc)) := row_kp HG.out.u.row (kp_alloc _ _)
          have HB : Hid (w.heap.size ≤ (W7.alloc (.cells #[.int .u8 (kd : Int), .int .i64 (n : Int), .int .u8 (c : Int), .string ⟨pt.toArray⟩, .int .i64 off, .bool sm] 43)).heap.size) := Nat.le_trans HG.out.u.fr.size (by rw [alloc_size]; omega)
          have HU : Hid _ := HG.out.u.kp (kp_alloc W7 (.cells #[.int .u8 (kd : Int), .int .i64 (n : Int), .int .u8 (c : Int), .string ⟨pt.toArray⟩, .int .i64 off, .bool sm] 43))
          have HN6 : Hid (∀ (i : Nat) (u : Value), ([.int .u8 (kd : Int), .int .i64 (n : Int), .int .u8 (c : Int), .string ⟨pt.toArray⟩, .int .i64 off, .bool sm] : List Value)[i]? = some u → (W7.alloc (.cells #[.int .u8 (kd : Int), .int .i64 (n : Int), .int .u8 (c : Int), .string ⟨pt.toArray⟩, .int .i64 off, .bool sm] 43)).cell? ((⟨W7.heap.size, 0, none⟩ : Addr).add i) = some u) := by
            intro i u hi
            rw [addr_add, cell_at (alloc_new W7 _)]
            simpa using hi
          go_wp2_with (first | (at_builtin; refine wpList_append_own _ rfl (.tmp 72) (.tmp 74) 25 rfl w.heap.size 43 i9 _ 6 56 Tryz.underlying25 hi9 z0 z1 z2 rfl (by decide) (.slice va acc.length vc) acc.length (adCs acc) rfl HR.out ⟨W7.heap.size, 0, none⟩ 1 1 [.int .u8 (kd : Int), .int .i64 (n : Int), .int .u8 (c : Int), .string ⟨pt.toArray⟩, .int .i64 off, .bool sm] rfl rfl HN6.out (one6 ⟨rfl, rfl, rfl, rfl, rfl, rfl⟩) (by unfold maxLen; omega) (by omega) HB.out ?_; intro v9 w9 q1 q2 q3; clear q3; have HF : Hid _ := HU.out.more (a := ⟨kd, n, c, pt, off, sm⟩) q1 q2 hlk; obtain ⟨a9, c9, rfl, q4, q5⟩ := owns_form q1; clear q1 q2 q4 q5) | (refine Great.wpList_buildSliceTo rfl 25 43 1 #[(0, .tmp 73)] rfl W7.heap.size rfl (some 74) rfl Tryz.underlying25 #[.int .u8 (kd : Int), .int .i64 (n : Int), .int .u8 (c : Int), .string ⟨pt.toArray⟩, .int .i64 off, .bool sm] (by kernel_rfl) ?_) | (refine wpList_load_box HG.out.lq 0 [.int .u8 (kd : Int), .int .i64 (n : Int), .int .u8 (c : Int), .string ⟨pt.toArray⟩, .int .i64 off, .bool sm] rfl 43 (.tmp 7) rfl rfl rfl _ Tryz.underlying43 rfl sizeAddr ?_))
          go_ret2
          exact .ok HRR.out.symm ⟨⟨_, rfl, HF.out.row⟩, HF.out.fr, by rw [HKe.out]; exact HF.out.pc⟩

        | true =>
          skip
          have HN : Hid (sg ≠ none) := isS_some HM.out
          have HRR : Hid (adsL f r3 (acc ++ [⟨kd, n, c, pt, off, sm⟩]) = R) := by
            have this := HStep.out
            have hn := HN.out
            rw [if_neg (fun q => hn q.2.1)] at this
            rw [if_neg hn, HSm.out, if_neg hkd] at this
            exact this
          clear HStep hkd HM HSm
          have c0 : w5.cell? ⟨q, 0, none⟩ = some (.int .u8 (kd : Int)) := HD.out.lq.at (j := 0) rfl
          have f0 : w5.frozen? ⟨q, 0, none⟩ = false := HD.out.lq.fz 0
          have f5 : w5.frozen? ⟨q, 5, none⟩ = false := HD.out.lq.fz 5
          have c5 : w5.cell? ⟨q, 5, none⟩ = some (.bool false) := HD.out.lq.at (j := 5) rfl
          go_upto_region 17 with fail
          have HE : Hid _ := HD.out
          clear HD
          go_upto_region 18 with fail
          have HG : Hid (Adv T s b w K (.slice va acc.length vc) acc q [.int .u8 (kd : Int), .int .i64 (n : Int), .int .u8 (c : Int), .string ⟨pt.toArray⟩, .int .i64 off, .bool sm] (World.setCell w5 ⟨q, 5, none⟩ (.bool sm))) := HE.out.set 5 (.bool sm)
          obtain ⟨W7, hW7⟩ : ∃ z, w5.setCell ⟨q, 5, none⟩ (.bool sm) = z := ⟨_, rfl⟩
          rw [hW7] at HG ⊢
          clear hW7 HE f5 c5
          try clear c0 f0
          have HR : Hid ((W7.alloc (.cells #[.int .u8 (kd : Int), .int .i64 (n : Int), .int .u8 (c : Int), .string ⟨pt.toArray⟩, .int .i64 off, .bool sm] 43)).ownsRow w.heap.size 43 6 (.slice va acc.length vc) acc.length (adCs acc)) := row_kp HG.out.u.row (kp_alloc _ _)
          have HB : Hid (w.heap.size ≤ (W7.alloc (.cells #[.int .u8 (kd : Int), .int .i64 (n : Int), .int .u8 (c : Int), .string ⟨pt.toArray⟩, .int .i64 off, .bool sm] 43)).heap.size) := Nat.le_trans HG.out.u.fr.size (by rw [alloc_size]; omega)
          have HU : Hid _ := HG.out.u.kp (kp_alloc W7 (.cells #[.int .u8 (kd : Int), .int .i64 (n : Int), .int .u8 (c : Int), .string ⟨pt.toArray⟩, .int .i64 off, .bool sm] 43))
          have HN6 : Hid (∀ (i : Nat) (u : Value), ([.int .u8 (kd : Int), .int .i64 (n : Int), .int .u8 (c : Int), .string ⟨pt.toArray⟩, .int .i64 off, .bool sm] : List Value)[i]? = some u → (W7.alloc (.cells #[.int .u8 (kd : Int), .int .i64 (n : Int), .int .u8 (c : Int), .string ⟨pt.toArray⟩, .int .i64 off, .bool sm] 43)).cell? ((⟨W7.heap.size, 0, none⟩ : Addr).add i) = some u) := by
            intro i u hi
            rw [addr_add, cell_at (alloc_new W7 _)]
            simpa using hi
          go_wp2_with (first | (at_builtin; refine wpList_append_own _ rfl (.tmp 72) (.tmp 74) 25 rfl w.heap.size 43 i9 _ 6 56 Tryz.underlying25 hi9 z0 z1 z2 rfl (by decide) (.slice va acc.length vc) acc.length (adCs acc) rfl HR.out ⟨W7.heap.size, 0, none⟩ 1 1 [.int .u8 (kd : Int), .int .i64 (n : Int), .int .u8 (c : Int), .string ⟨pt.toArray⟩, .int .i64 off, .bool sm] rfl rfl HN6.out (one6 ⟨rfl, rfl, rfl, rfl, rfl, rfl⟩) (by unfold maxLen; omega) (by omega) HB.out ?_; intro v9 w9 q1 q2 q3; clear q3; have HF : Hid _ := HU.out.more (a := ⟨kd, n, c, pt, off, sm⟩) q1 q2 hlk; obtain ⟨a9, c9, rfl, q4, q5⟩ := owns_form q1; clear q1 q2 q4 q5) | (refine Great.wpList_buildSliceTo rfl 25 43 1 #[(0, .tmp 73)] rfl W7.heap.size rfl (some 74) rfl Tryz.underlying25 #[.int .u8 (kd : Int), .int .i64 (n : Int), .int .u8 (c : Int), .string ⟨pt.toArray⟩, .int .i64 off, .bool sm] (by kernel_rfl) ?_) | (refine wpList_load_box HG.out.lq 0 [.int .u8 (kd : Int), .int .i64 (n : Int), .int .u8 (c : Int), .string ⟨pt.toArray⟩, .int .i64 off, .bool sm] rfl 43 (.tmp 7) rfl rfl rfl _ Tryz.underlying43 rfl sizeAddr ?_))
          go_roundw
          case rel => exact ⟨K, f, r3, _, HL3.out, by have := Hkr.out HN.out; have := HFu.out; omega, HRR.out, HF.out, by have := HkK2.out HN.out; have := HAcc.out; rw [List.length_append]; show _ + 1 ≤ _; omega⟩
          case measure => have h1 := HF.out.pc.pl; have h2 := HkK2.out HN.out; have h3 := HL3.out.1; rw [h1, hpl]; omega

end
end Go.Proofs.YtfgapmfjfienhaaGreatDoor
