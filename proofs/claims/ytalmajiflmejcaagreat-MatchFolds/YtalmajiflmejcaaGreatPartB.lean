/- Texts that the proof of the law stands on: Fm0, Fd0, Fn1, Fn2, Fs1, Fs2, Fe1, Ft1, Ft2. -/
import Derived.Test.YtalmajiflmejcaaGreatPartA
import Derived.Lib.Strings
import Derived.Lib.Walk
import Derived.WalkLawsBesides
import Derived.Deep.RegionWith
import Derived.Deep.Cut
import Derived.BigCall
import Derived.Deep.RegionHeld3
/- The document's own reader of patterns, as plain functions of its text. -/
namespace Go.Proofs.YtalmajiflmejcaaGreat
open Go.ChangeShapes Go.WideShapes Go.ChangeAt Go.RowKit
set_option linter.unusedVariables false
set_option linter.unusedSimpArgs false
/-- Is a byte one of a text's? -/
def memB (s : ByteArray) (c : Nat) : Bool := s.data.toList.any fun b => b.toNat == c
def sgnS : ByteArray := ⟨#[94, 36, 46, 42, 91, 126, 43, 61, 63, 123, 40, 41, 124, 60, 62]⟩
def modS : ByteArray := ⟨#[118, 109, 77, 86]⟩
def plainS (md : Nat) : ByteArray := if md = 118 then sgnS else if md = 109 then ⟨#[94, 36, 46, 42, 91, 126]⟩ else if md = 77 then ⟨#[94, 36]⟩ else ⟨#[]⟩
def letrF (c : Nat) : Nat × Bool := if c = 101 then (27, true) else if c = 116 then (9, true) else if c = 114 then (13, true) else if c = 98 then (8, true) else (0, false)
/-- A token: a sign, or a node, or nothing (a mode, a case); where it ends. -/
structure Tk where
  sg : Nat
  nd : Nd
  non : Bool
  nx : Nat
  md : Nat
  cs : Nat
def Tk.cells (t : Tk) : List Value := .int .u8 t.sg :: (t.nd.cells (.slice none 0 0) ++ [.bool t.non, .int .i64 t.nx, .int .u8 t.md, .int .u8 t.cs])
def Tk.val (t : Tk) : Value := .agg t.cells.toArray
def tk0 (nx md cs : Nat) : Tk := ⟨0, { op := 0 }, false, nx, md, cs⟩
/-- The token of a backslash, the byte c and the byte z behind that. -/
def slC (md cs nx c z : Nat) : Tk × Bool :=
  if memB modS c then ({ tk0 nx md cs with md := c, non := true }, true)
  else if c = 99 then ({ tk0 nx md cs with cs := 1, non := true }, true)
  else if c = 67 then ({ tk0 nx md cs with cs := 2, non := true }, true)
  else if memB sgnS c then (if memB (plainS md) c then ({ tk0 nx md cs with nd := { op := 2, c := c } }, true) else ({ tk0 nx md cs with sg := c }, true))
  else if 49 ≤ c ∧ c ≤ 57 then ({ tk0 nx md cs with nd := { op := 9, n := c - 48 } }, true)
  else if knB (smI c) then ({ tk0 nx md cs with nd := { op := 4, set := foldS (isB c) 256 } }, true)
  else if (letrF c).2 then ({ tk0 nx md cs with nd := { op := 2, c := (letrF c).1 } }, true)
  else if c = 110 then ({ tk0 nx md cs with nd := { op := 4 } }, true)
  else if c = 122 ∧ z = 115 then ({ tk0 (nx + 1) md cs with nd := { op := 14 } }, true)
  else if c = 122 ∧ z = 101 then ({ tk0 (nx + 1) md cs with nd := { op := 15 } }, true)
  else if isB 119 c = true ∧ c ≠ 95 then (tk0 nx md cs, false)
  else ({ tk0 nx md cs with nd := { op := 2, c := c } }, true)
def slashF (s : ByteArray) (md cs at_ : Nat) : Tk × Bool :=
  if s.size ≤ at_ + 1 then (tk0 (at_ + 2) md cs, false) else slC md cs (at_ + 2) (byteAt s (at_ + 1)) (byteAt s (at_ + 2))
def tkF (s : ByteArray) (md cs at_ : Nat) : Tk × Bool :=
  if byteAt s at_ = 92 then slashF s md cs at_
  else if memB (plainS md) (byteAt s at_) then ({ tk0 (at_ + 1) md cs with sg := byteAt s at_ }, true)
  else ({ tk0 (at_ + 1) md cs with nd := { op := 2, c := byteAt s at_ } }, true)
/-- What is told of the document's reader. -/
structure FS where
  k : Nat
  md : Nat
  cs : Nat
  g : Nat
  dn : List Bool
  nds : List Nd
  err : Nat
  pl : Nat
/-- A branch: its pieces, and whether the last one may be repeated. -/
structure Bs where
  ks : List Nat
  may : Bool
def wrongF (e at_ : Nat) (r : FS) : FS := if r.err = 0 then { r with err := e, pl := at_ } else r
def nodeF (d : Nd) (r : FS) : Nat × FS := if 400 < r.nds.length then (0, r) else (r.nds.length, { r with nds := r.nds ++ [d] })
def rowF (op : Nat) (ks : List Nat) (r : FS) : Nat × FS :=
  match ks with
  | [] => nodeF { op := 1 } r
  | [x] => (x, r)
  | _ => nodeF { op := op, kids := ks } r
/-- A byte of a collection; where it ends. -/
def itemF (s : ByteArray) (at_ : Nat) : Nat × Nat :=
  if byteAt s at_ = 92 ∧ at_ + 1 < s.size then
    if (letrF (byteAt s (at_ + 1))).2 then ((letrF (byteAt s (at_ + 1))).1, at_ + 2)
    else if byteAt s (at_ + 1) = 110 then (10, at_ + 2)
    else if memB ⟨#[92, 93, 94, 45]⟩ (byteAt s (at_ + 1)) then (byteAt s (at_ + 1), at_ + 2)
    else (byteAt s at_, at_ + 1)
  else (byteAt s at_, at_ + 1)
/-- Small letters from a place on: where they end. -/
def smlL (s : ByteArray) : Nat → Nat → Nat
  | 0, k => k
  | f + 1, k => if k < s.size ∧ isB 108 (byteAt s k) = true then smlL s f (k + 1) else k
def sub (s : ByteArray) (a b : Nat) : List UInt8 := (s.data.toList.drop a).take (b - a)
def nameF (s : ByteArray) (at_ : Nat) : S4 × Nat × Bool :=
  if s.size ≤ at_ + 1 ∨ byteAt s at_ ≠ 91 ∨ byteAt s (at_ + 1) ≠ 58 then (zeroS, 0, false)
  else if s.size ≤ smlL s s.size (at_ + 2) + 1 ∨ byteAt s (smlL s s.size (at_ + 2)) ≠ 58 ∨ byteAt s (smlL s s.size (at_ + 2) + 1) ≠ 93 then (zeroS, 0, false)
  else (foldS (nmB (sub s (at_ + 2) (smlL s s.size (at_ + 2)))) 256, smlL s s.size (at_ + 2) + 2, nmK (sub s (at_ + 2) (smlL s s.size (at_ + 2))))
/-- The bytes from c on, so many. -/
def addL (q : S4) (c : Nat) : Nat → S4
  | 0 => q
  | n + 1 => addL (withS q c) (c + 1) n
/-- A span, or one byte: low, high, where it ends. -/
def spF (s : ByteArray) (at_ : Nat) : Nat × Nat × Nat :=
  if (itemF s at_).2 + 1 < s.size ∧ byteAt s (itemF s at_).2 = 45 ∧ byteAt s ((itemF s at_).2 + 1) ≠ 93 then ((itemF s at_).1, itemF s ((itemF s at_).2 + 1)) else ((itemF s at_).1, (itemF s at_).1, (itemF s at_).2)
/-- A collection's items, up to its end: the set, whether a range falls, where it ends. -/
def clL (s : ByteArray) : Nat → Nat → S4 → Bool → Bool → Option (S4 × Bool × Nat)
  | 0, _, _, _, _ => none
  | f + 1, at_, q, fl, first =>
    if at_ < s.size then
      if byteAt s at_ = 93 ∧ first = false then some (q, fl, at_ + 1)
      else if (nameF s at_).2.2 then clL s f (nameF s at_).2.1 (bothS q (nameF s at_).1) fl false
      else clL s f (spF s at_).2.2 (addL q (spF s at_).1 ((spF s at_).2.1 + 1 - (spF s at_).1)) (fl || decide ((spF s at_).2.1 < (spF s at_).1)) false
    else none
def notAt (s : ByteArray) (at_ : Nat) : Bool := decide (at_ < s.size) && byteAt s at_ == 94
/-- A collection behind a bracket: the set and where it ends (0: none), and the reader. -/
def clF (s : ByteArray) (opn : Nat) (r : FS) : S4 × Nat × FS :=
  match clL s (s.size + 2) (if notAt s (opn + 1) then opn + 2 else opn + 1) zeroS false true with
  | none => (zeroS, 0, r)
  | some (q, fl, en) => (if notAt s (opn + 1) then notS q else q, en, if fl then wrongF 30 opn r else r)
/-- Digits at a place, four at most. -/
def nrL (s : ByteArray) (a : Nat) : Nat → Nat → Nat → Nat × Nat
  | 0, k, n => (n, k)
  | f + 1, k, n => if k < s.size ∧ digB (byteAt s k) = true ∧ k - a < 4 then nrL s a f (k + 1) (10 * n + (byteAt s k - 48)) else (n, k)
def nrF (s : ByteArray) (a : Nat) : Nat × Nat × Bool := ((nrL s a 5 a 0).1, (nrL s a 5 a 0).2, decide (a < (nrL s a 5 a 0).2 ∧ (nrL s a 5 a 0).2 - a ≤ 3))
/-- Is this byte at a place? -/
def isAt (s : ByteArray) (k c : Nat) : Bool := decide (k < s.size) && byteAt s k == c
/-- Bounds behind a brace, from the sign that ends them on. -/
def brc4 (s : ByteArray) (lz : Bool) (mn : Nat) (mx : Int) (b : Nat) : Option (Nat × Int × Bool × Nat) :=
  if s.size ≤ b ∨ byteAt s b ≠ 125 ∨ 60 < mn ∨ 60 < mx ∨ (0 ≤ mx ∧ mx < mn) then none else some (mn, mx, lz, b + 1)
/-- .. from the least one's end on. -/
def brc3 (s : ByteArray) (lz : Bool) (mn : Nat) (mx : Int) (a : Nat) : Option (Nat × Int × Bool × Nat) :=
  if isAt s a 44 then
    if a + 1 < (nrF s (a + 1)).2.1 ∧ (nrF s (a + 1)).2.2 = false then none
    else brc4 s lz mn (if (nrF s (a + 1)).2.2 then (nrF s (a + 1)).1 else -1) (if isAt s (nrF s (a + 1)).2.1 92 then (nrF s (a + 1)).2.1 + 1 else (nrF s (a + 1)).2.1)
  else brc4 s lz mn mx (if isAt s a 92 then a + 1 else a)
def brc2 (s : ByteArray) (lz : Bool) (a : Nat) : Option (Nat × Int × Bool × Nat) :=
  if a < (nrF s a).2.1 ∧ (nrF s a).2.2 = false then none else brc3 s lz (nrF s a).1 (if (nrF s a).2.2 then (nrF s a).1 else -1) (nrF s a).2.1
/-- Bounds behind a brace: least, most, lazy, where they end. -/
def brcF (s : ByteArray) (a0 : Nat) : Option (Nat × Int × Bool × Nat) := if isAt s a0 45 then brc2 s true (a0 + 1) else brc2 s false a0
/-- Does a branch end at a place, what is no piece passed over? -/
def endL (s : ByteArray) (cs : Nat) : Nat → Nat → Nat → Bool
  | 0, _, _ => true
  | f + 1, k, md =>
    if s.size ≤ k then true
    else if (tkF s md cs k).2 = false ∨ (tkF s md cs k).1.non = false then (tkF s md cs k).2 && ((tkF s md cs k).1.sg == 124 || (tkF s md cs k).1.sg == 41)
    else endL s cs f (tkF s md cs k).1.nx (tkF s md cs k).1.md
def pieceF (b : Bs) (i : Nat) (may : Bool) : Bs := ⟨b.ks ++ [i], may⟩
/-- A node is made, and is a piece. -/
def putF (d : Nd) (may : Bool) (r : FS) (b : Bs) : FS × Bs := ((nodeF d r).2, pieceF b (nodeF d r).1 may)
def mnyF (s : ByteArray) (sg at_ nx : Nat) (r : FS) (b : Bs) : FS × Bs :=
  if b.may = false then
    if sg = 42 then
      ({ (putF { op := 2, c := 42 } true r b).1 with k := nx }, (putF { op := 2, c := 42 } true r b).2)
    else (wrongF 32 at_ r, b)
  else if sg = 123 then
    match brcF s nx with
    | none => (wrongF 32 at_ r, b)
    | some (mn, mx, lz, en) =>
      ({ (nodeF { op := 7, mn := mn, mx := mx, lz := lz, kids := [b.ks.getLastD 0] } r).2 with k := en }, ⟨b.ks.dropLast ++ [(nodeF { op := 7, mn := mn, mx := mx, lz := lz, kids := [b.ks.getLastD 0] } r).1], false⟩)
  else
    let d : Nd := { op := 7, mn := if sg = 43 then 1 else 0, mx := if sg = 61 ∨ sg = 63 then 1 else -1, kids := [b.ks.getLastD 0] }
    ({ (nodeF d r).2 with k := nx }, ⟨b.ks.dropLast ++ [(nodeF d r).1], false⟩)
/-- The nodes of the last replacement's bytes. -/
def lastL (last : List Nat) (r : FS) (ks : List Nat) : FS × List Nat :=
  match last with
  | [] => (r, ks)
  | c :: cs => lastL cs (nodeF { op := 2, c := c } r).2 (ks ++ [(nodeF { op := 2, c := c } r).1])
def lastF (last : ByteArray) (r : FS) : Nat × FS :=
  rowF 5 (lastL (last.data.toList.map (·.toNat)) r []).2 (lastL (last.data.toList.map (·.toNat)) r []).1
def grpF (s : ByteArray) (BRS : FS → Nat × FS) (at_ : Nat) (r : FS) (b : Bs) : FS × Bs :=
  if 9 ≤ r.g then (wrongF 31 at_ r, b)
  else
    let x := BRS { r with g := r.g + 1 }
    if x.2.err ≠ 0 then (x.2, b)
    else if s.size ≤ x.2.k then (wrongF 31 at_ x.2, b)
    else putF { op := 8, n := r.g + 1, kids := [x.1] } true { x.2 with k := (tkF s x.2.md x.2.cs x.2.k).1.nx, dn := x.2.dn.set (r.g + 1) true } b
def sgnF (s last : ByteArray) (BRS : FS → Nat × FS) (c at_ nx : Nat) (r0 : FS) (b : Bs) : FS × Bs :=
  let r := { r0 with k := nx }
  if c = 94 then (if b.ks = [] then putF { op := 10 } false r b else putF { op := 2, c := 94 } true r b)
  else if c = 36 then (if endL s r.cs (s.size + 1) nx r.md then putF { op := 11 } false r b else putF { op := 2, c := 36 } true r b)
  else if c = 46 then putF { op := 3 } true r b
  else if c = 60 then putF { op := 12 } false r b
  else if c = 62 then putF { op := 13 } false r b
  else if c = 126 then ((lastF last r).2, pieceF b (lastF last r).1 true)
  else if c = 91 then
    (if 0 < (clF s (nx - 1) r).2.1 then putF { op := 4, set := (clF s (nx - 1) r).1 } true { (clF s (nx - 1) r).2.2 with k := (clF s (nx - 1) r).2.1 } b
     else putF { op := 2, c := 91 } true (clF s (nx - 1) r).2.2 b)
  else if c = 40 then grpF s BRS at_ r b
  else mnyF s c at_ nx r b
/-- The pieces of a branch from here on. -/
def bchL (s last : ByteArray) (BRS : FS → Nat × FS) (wi : Bool) : Nat → FS → Bs → FS × Bs
  | 0, r, b => (r, b)
  | f + 1, r, b =>
    if r.err = 0 ∧ r.k < s.size then
      let t := tkF s r.md r.cs r.k
      if t.2 = false then (wrongF 30 r.k r, b)
      else if t.1.non then bchL s last BRS wi f { r with md := t.1.md, cs := t.1.cs, k := t.1.nx } b
      else if t.1.sg = 124 ∨ (t.1.sg = 41 ∧ wi = true) then (r, b)
      else if t.1.sg = 41 then (wrongF 31 r.k r, b)
      else if t.1.sg ≠ 0 then bchL s last BRS wi f (sgnF s last BRS t.1.sg r.k t.1.nx r b).1 (sgnF s last BRS t.1.sg r.k t.1.nx r b).2
      else if t.1.nd.op = 9 ∧ r.dn.getD t.1.nd.n false = false then (wrongF 31 r.k r, b)
      else bchL s last BRS wi f (putF t.1.nd (t.1.nd.op != 14 && t.1.nd.op != 15) { r with k := t.1.nx } b).1 (putF t.1.nd (t.1.nd.op != 14 && t.1.nd.op != 15) { r with k := t.1.nx } b).2
    else (r, b)
def bchF (s last : ByteArray) (BRS : FS → Nat × FS) (wi : Bool) (r : FS) : Nat × FS :=
  rowF 5 (bchL s last BRS wi (s.size + 2) r ⟨[], false⟩).2.ks (bchL s last BRS wi (s.size + 2) r ⟨[], false⟩).1
/-- The branches from here on. -/
def bssL (s last : ByteArray) (BRS : FS → Nat × FS) (wi : Bool) : Nat → FS → List Nat → FS × List Nat
  | 0, r, ks => (r, ks)
  | f + 1, r, ks =>
    if r.err = 0 ∧ r.k < s.size then
      if (tkF s r.md r.cs r.k).1.sg = 124 then bssL s last BRS wi f (bchF s last BRS wi { r with k := (tkF s r.md r.cs r.k).1.nx }).2 (ks ++ [(bchF s last BRS wi { r with k := (tkF s r.md r.cs r.k).1.nx }).1])
      else (r, ks)
    else (r, ks)
def bssF (s last : ByteArray) (BRS : FS → Nat × FS) (wi : Bool) (r : FS) : Nat × FS :=
  rowF 6 (bssL s last BRS wi (s.size + 2) (bchF s last BRS wi r).2 [(bchF s last BRS wi r).1]).2 (bssL s last BRS wi (s.size + 2) (bchF s last BRS wi r).2 [(bchF s last BRS wi r).1]).1
/-- The branches within so many groups. -/
def bsN (s last : ByteArray) : Nat → FS → Nat × FS
  | 0, r => (0, r)
  | n + 1, r => bssF s last (bsN s last n) true r
def fs0 : FS := ⟨0, 109, 0, 0, List.replicate 10 false, [], 0, 0⟩
/-- What Parse comes to: the error and its place, or the root, groups, case and nodes. -/
def refF (s last : ByteArray) : Except (Nat × Nat) (Nat × FS) :=
  if 300 < s.size ∨ 1000 < last.size then .error (33, 0)
  else
    let x := bssF s last (bsN s last 9) false fs0
    if x.2.err ≠ 0 then .error (x.2.err, x.2.pl)
    else if 400 < x.2.nds.length then .error (33, 0)
    else .ok x
end Go.Proofs.YtalmajiflmejcaaGreat
/- The document's reader in memory: its struct, its list of nodes, each node's kids; a branch that is under way. -/
namespace Go.Proofs.YtalmajiflmejcaaGreat
open Go.ChangeShapes Go.WideShapes Go.ChangeAt Go.RowKit
set_option linter.unusedVariables false
set_option linter.unusedSimpArgs false
def fcells (s last : ByteArray) (r : FS) (nv : Value) : List Value :=
  [.string s, .int .i64 r.k, .int .u8 r.md, nv, .int .i64 0, .int .i64 0, .int .u8 r.cs] ++ r.dn.map Value.bool ++ [.int .i64 r.err, .int .i64 r.pl, .int .i64 r.g, .string last]
structure Fd (B rb : Nat) (s last : ByteArray) (r : FS) (vn : Qv) (ns : List (Nd × Value)) (w : World) : Prop where
  ge : B ≤ rb
  ten : r.dn.length = 10
  blk : w.heap[rb]? = some (.cells (fcells s last r vn.v).toArray 167 (0, 0))
  row : w.ownsRow B 195 11 vn.v ns.length (flat ns)
  apart : vn.ownBlock ≠ some rb
  nds : ns.map (·.1) = r.nds
  kids : ∀ x ∈ ns, KRow B w x.2 x.1.kids ∧ OffK rb vn x.2 ∧ ∀ j, x.2.ownBlock = some j → vn.kb j
  kbl : ∀ j, vn.kb j → j < w.heap.size
theorem ten_form {l : List Bool} (h : l.length = 10) : ∃ a b c d e f g i j k, l = [a, b, c, d, e, f, g, i, j, k] := by
  match l, h with
  | [a, b, c, d, e, f, g, i, j, k], _ => exact ⟨a, b, c, d, e, f, g, i, j, k, rfl⟩
section
variable {B rb : Nat} {s last : ByteArray} {r : FS} {vn : Qv} {ns : List (Nd × Value)} {w w1 : World}
theorem Fd.lt (h : Fd B rb s last r vn ns w) : rb < w.heap.size := (Array.getElem?_eq_some_iff.1 h.blk).1
theorem Fd.cell (h : Fd B rb s last r vn ns w) (j : Nat) : w.cell? ⟨rb, j, none⟩ = (fcells s last r vn.v)[j]? := by rw [cell_at h.blk]; exact List.getElem?_toArray
theorem Fd.c0 (h : Fd B rb s last r vn ns w) : w.cell? ⟨rb, 0, none⟩ = some (.string s) := by rw [h.cell]; rfl
theorem Fd.c1 (h : Fd B rb s last r vn ns w) : w.cell? ⟨rb, 1, none⟩ = some (.int .i64 r.k) := by rw [h.cell]; rfl
theorem Fd.c2 (h : Fd B rb s last r vn ns w) : w.cell? ⟨rb, 2, none⟩ = some (.int .u8 r.md) := by rw [h.cell]; rfl
theorem Fd.c3 (h : Fd B rb s last r vn ns w) : w.cell? ⟨rb, 3, none⟩ = some vn.v := by rw [h.cell]; rfl
theorem Fd.c4 (h : Fd B rb s last r vn ns w) : w.cell? ⟨rb, 4, none⟩ = some (.int .i64 0) := by rw [h.cell]; rfl
theorem Fd.c5 (h : Fd B rb s last r vn ns w) : w.cell? ⟨rb, 5, none⟩ = some (.int .i64 0) := by rw [h.cell]; rfl
theorem Fd.c6 (h : Fd B rb s last r vn ns w) : w.cell? ⟨rb, 6, none⟩ = some (.int .u8 r.cs) := by rw [h.cell]; rfl
theorem Fd.cd (h : Fd B rb s last r vn ns w) {n : Nat} (hn : n < 10) : w.cell? ⟨rb, 7 + n, none⟩ = some (.bool (r.dn.getD n false)) := by
  rw [h.cell]
  obtain ⟨a, b, c, d, e, f, g, i, j, k, q⟩ := ten_form h.ten
  unfold fcells
  rw [q]
  match n, hn with
  | 0, _ | 1, _ | 2, _ | 3, _ | 4, _ | 5, _ | 6, _ | 7, _ | 8, _ | 9, _ => rfl
theorem Fd.c17 (h : Fd B rb s last r vn ns w) : w.cell? ⟨rb, 17, none⟩ = some (.int .i64 r.err) := by
  rw [h.cell]; obtain ⟨a, b, c, d, e, f, g, i, j, k, q⟩ := ten_form h.ten; unfold fcells; rw [q]; rfl
theorem Fd.c18 (h : Fd B rb s last r vn ns w) : w.cell? ⟨rb, 18, none⟩ = some (.int .i64 r.pl) := by
  rw [h.cell]; obtain ⟨a, b, c, d, e, f, g, i, j, k, q⟩ := ten_form h.ten; unfold fcells; rw [q]; rfl
theorem Fd.c19 (h : Fd B rb s last r vn ns w) : w.cell? ⟨rb, 19, none⟩ = some (.int .i64 r.g) := by
  rw [h.cell]; obtain ⟨a, b, c, d, e, f, g, i, j, k, q⟩ := ten_form h.ten; unfold fcells; rw [q]; rfl
theorem Fd.c20 (h : Fd B rb s last r vn ns w) : w.cell? ⟨rb, 20, none⟩ = some (.string last) := by
  rw [h.cell]; obtain ⟨a, b, c, d, e, f, g, i, j, k, q⟩ := ten_form h.ten; unfold fcells; rw [q]; rfl
theorem Fd.fz (h : Fd B rb s last r vn ns w) (j : Nat) : w.frozen? ⟨rb, j, none⟩ = false := by simp [World.frozen?, h.blk]
theorem Fd.len (h : Fd B rb s last r vn ns w) : ns.length = r.nds.length := by rw [← h.nds]; simp
theorem Fd.own (h : Fd B rb s last r vn ns w) : ∀ j, vn.ownBlock = some j → B ≤ j ∧ j < w.heap.size := h.row.lt
/-- The struct has turned, the rest is as it was. -/
theorem Fd.turn (h : Fd B rb s last r vn ns w) (k : Fr (On rb) w w1) {r' : FS} (hd : r'.dn.length = 10) (hn : r'.nds = r.nds) (hb : w1.heap[rb]? = some (.cells (fcells s last r' vn.v).toArray 167 (0, 0))) : Fd B rb s last r' vn ns w1 := by
  have a : Adv rb vn w vn w1 := Adv.on vn k
  have hrow : w1.ownsRow B 195 11 vn.v ns.length (flat ns) := by
    refine ⟨h.row.1, ?_⟩
    rcases h.row.2 with q | ⟨b, cap, cur, e, hb, hg, rest⟩
    · exact .inl q
    · refine .inr ⟨b, cap, cur, e, hb, ?_, rest⟩
      rw [k.block b (Array.getElem?_eq_some_iff.1 hg).1 fun q => h.apart (by unfold Qv.ownBlock; rw [e]; simp only [Value.ownBlock, Option.some.injEq]; exact q)]; exact hg
  exact ⟨h.ge, hd, hb, hrow, h.apart, by rw [h.nds, hn], fun x hx => by
    obtain ⟨q1, q2⟩ := row_advK (h.kids x hx).1 (h.kids x hx).2.1 a
    exact ⟨q1, q2, (h.kids x hx).2.2⟩, fun j hj => Nat.lt_of_lt_of_le (h.kbl j hj) k.size⟩
theorem Fd.kp (h : Fd B rb s last r vn ns w) (k : Kp w w1) : Fd B rb s last r vn ns w1 :=
  ⟨h.ge, h.ten, by rw [k.block rb h.lt]; exact h.blk, row_kp h.row k, h.apart, h.nds, fun x hx => ⟨row_kp (h.kids x hx).1 k, (h.kids x hx).2⟩, fun j hj => Nat.lt_of_lt_of_le (h.kbl j hj) k.size⟩
end
/-- The reader, whatever its nodes' kids lie in. -/
def Fq (B rb : Nat) (s last : ByteArray) (r : FS) (vn : Qv) (w : World) : Prop := ∃ ns, Fd B rb s last r vn ns w
section
variable {B rb : Nat} {s last : ByteArray} {r : FS} {vn vn' : Qv} {w w1 w2 : World}
theorem Fq.lt (h : Fq B rb s last r vn w) : rb < w.heap.size := by obtain ⟨ns, h⟩ := h; exact h.lt
theorem Fq.hB (h : Fq B rb s last r vn w) : B ≤ w.heap.size := by obtain ⟨ns, h⟩ := h; have := h.lt; have := h.ge; omega
theorem Fq.kp (h : Fq B rb s last r vn w) (k : Kp w w1) : Fq B rb s last r vn w1 := by obtain ⟨ns, h⟩ := h; exact ⟨ns, h.kp k⟩
theorem Fq.c0 (h : Fq B rb s last r vn w) : w.cell? ⟨rb, 0, none⟩ = some (.string s) := by obtain ⟨ns, h⟩ := h; exact h.c0
theorem Fq.c1 (h : Fq B rb s last r vn w) : w.cell? ⟨rb, 1, none⟩ = some (.int .i64 r.k) := by obtain ⟨ns, h⟩ := h; exact h.c1
theorem Fq.c2 (h : Fq B rb s last r vn w) : w.cell? ⟨rb, 2, none⟩ = some (.int .u8 r.md) := by obtain ⟨ns, h⟩ := h; exact h.c2
theorem Fq.c3 (h : Fq B rb s last r vn w) : w.cell? ⟨rb, 3, none⟩ = some vn.v := by obtain ⟨ns, h⟩ := h; exact h.c3
theorem Fq.c4 (h : Fq B rb s last r vn w) : w.cell? ⟨rb, 4, none⟩ = some (.int .i64 0) := by obtain ⟨ns, h⟩ := h; exact h.c4
theorem Fq.c5 (h : Fq B rb s last r vn w) : w.cell? ⟨rb, 5, none⟩ = some (.int .i64 0) := by obtain ⟨ns, h⟩ := h; exact h.c5
theorem Fq.c6 (h : Fq B rb s last r vn w) : w.cell? ⟨rb, 6, none⟩ = some (.int .u8 r.cs) := by obtain ⟨ns, h⟩ := h; exact h.c6
theorem Fq.cd (h : Fq B rb s last r vn w) {n : Nat} (hn : n < 10) : w.cell? ⟨rb, 7 + n, none⟩ = some (.bool (r.dn.getD n false)) := by obtain ⟨ns, h⟩ := h; exact h.cd hn
theorem Fq.c17 (h : Fq B rb s last r vn w) : w.cell? ⟨rb, 17, none⟩ = some (.int .i64 r.err) := by obtain ⟨ns, h⟩ := h; exact h.c17
theorem Fq.c18 (h : Fq B rb s last r vn w) : w.cell? ⟨rb, 18, none⟩ = some (.int .i64 r.pl) := by obtain ⟨ns, h⟩ := h; exact h.c18
theorem Fq.c19 (h : Fq B rb s last r vn w) : w.cell? ⟨rb, 19, none⟩ = some (.int .i64 r.g) := by obtain ⟨ns, h⟩ := h; exact h.c19
theorem Fq.c20 (h : Fq B rb s last r vn w) : w.cell? ⟨rb, 20, none⟩ = some (.string last) := by obtain ⟨ns, h⟩ := h; exact h.c20
theorem Fq.fz (h : Fq B rb s last r vn w) (j : Nat) : w.frozen? ⟨rb, j, none⟩ = false := by obtain ⟨ns, h⟩ := h; exact h.fz j
theorem Fq.ten (h : Fq B rb s last r vn w) : r.dn.length = 10 := by obtain ⟨ns, h⟩ := h; exact h.ten
theorem Fq.own (h : Fq B rb s last r vn w) : ∀ j, vn.ownBlock = some j → B ≤ j ∧ j < w.heap.size := by obtain ⟨ns, h⟩ := h; exact h.own
theorem Fq.apart (h : Fq B rb s last r vn w) : vn.ownBlock ≠ some rb := by obtain ⟨ns, h⟩ := h; exact h.apart
theorem Fq.kbl (h : Fq B rb s last r vn w) : ∀ j, vn.kb j → j < w.heap.size := by obtain ⟨ns, h⟩ := h; exact h.kbl
theorem Fq.below (h : Fq B rb s last r vn w) (a : Adv rb vn w vn' w1) : Below B w w1 := by
  have hB := h.hB
  obtain ⟨ns, h⟩ := h
  exact AdvX.below a hB h.ge fun j hj => (h.own j hj).1
theorem Fq.turn (h : Fq B rb s last r vn w) (k : Fr (On rb) w w1) {r' : FS} (hd : r'.dn.length = 10) (hn : r'.nds = r.nds) (hb : w1.heap[rb]? = some (.cells (fcells s last r' vn.v).toArray 167 (0, 0))) : Fq B rb s last r' vn w1 := by
  obtain ⟨ns, h⟩ := h; exact ⟨ns, h.turn k hd hn hb⟩
theorem Fq.blk (h : Fq B rb s last r vn w) : w.heap[rb]? = some (.cells (fcells s last r vn.v).toArray 167 (0, 0)) := by obtain ⟨ns, h⟩ := h; exact h.blk
/-- One cell of the struct. -/
theorem Fq.set (h : Fq B rb s last r vn w) {off : Nat} {v : Value} {r' : FS} (hd : r'.dn.length = 10) (hn : r'.nds = r.nds) (hc : (fcells s last r vn.v).set off v = fcells s last r' vn.v) : Fq B rb s last r' vn (w.setCell ⟨rb, off, none⟩ v) := by
  refine h.turn (fr_set _ _ _ _) hd hn ?_
  rw [heap_setCell h.blk, List.setIfInBounds_toArray, hc]
theorem Fq.setK (h : Fq B rb s last r vn w) (k' : Nat) : Fq B rb s last { r with k := k' } vn (w.setCell ⟨rb, 1, none⟩ (.int .i64 k')) := h.set h.ten rfl rfl
theorem Fq.setMd (h : Fq B rb s last r vn w) (m' : Nat) : Fq B rb s last { r with md := m' } vn (w.setCell ⟨rb, 2, none⟩ (.int .u8 m')) := h.set h.ten rfl rfl
theorem Fq.setCs (h : Fq B rb s last r vn w) (c' : Nat) : Fq B rb s last { r with cs := c' } vn (w.setCell ⟨rb, 6, none⟩ (.int .u8 c')) := h.set h.ten rfl rfl
theorem Fq.setDn (h : Fq B rb s last r vn w) {n : Nat} (hn : n < 10) : Fq B rb s last { r with dn := r.dn.set n true } vn (w.setCell ⟨rb, 7 + n, none⟩ (.bool true)) := by
  refine h.set (by simp [h.ten]) rfl ?_
  obtain ⟨a, b, c, d, e, f, g, i, j, k, q⟩ := ten_form h.ten
  unfold fcells
  simp only [q]
  match n, hn with
  | 0, _ | 1, _ | 2, _ | 3, _ | 4, _ | 5, _ | 6, _ | 7, _ | 8, _ | 9, _ => rfl
theorem Fq.setErr (h : Fq B rb s last r vn w) (e' : Nat) : Fq B rb s last { r with err := e' } vn (w.setCell ⟨rb, 17, none⟩ (.int .i64 e')) := by
  refine h.set h.ten rfl ?_
  obtain ⟨a, b, c, d, e, f, g, i, j, k, q⟩ := ten_form h.ten
  unfold fcells
  simp only [q]
  rfl
theorem Fq.setPl (h : Fq B rb s last r vn w) (e' : Nat) : Fq B rb s last { r with pl := e' } vn (w.setCell ⟨rb, 18, none⟩ (.int .i64 e')) := by
  refine h.set h.ten rfl ?_
  obtain ⟨a, b, c, d, e, f, g, i, j, k, q⟩ := ten_form h.ten
  unfold fcells
  simp only [q]
  rfl
theorem Fq.setG (h : Fq B rb s last r vn w) (e' : Nat) : Fq B rb s last { r with g := e' } vn (w.setCell ⟨rb, 19, none⟩ (.int .i64 e')) := by
  refine h.set h.ten rfl ?_
  obtain ⟨a, b, c, d, e, f, g, i, j, k, q⟩ := ten_form h.ten
  unfold fcells
  simp only [q]
  rfl
/-- Memory elsewhere has turned. -/
theorem Fq.off (h : Fq B rb s last r vn w) {P : Nat → Prop} (hP : ∀ j, P j → (j ≠ rb ∧ vn.ownBlock ≠ some j) ∧ ¬ vn.kb j) (f : Fr P w w1) : Fq B rb s last r vn w1 := by
  obtain ⟨ns, h⟩ := h
  have hrow : ∀ {e size n v xs}, w.ownsRow B e size v n xs → (∀ j, v.ownBlock = some j → ¬ P j) → w1.ownsRow B e size v n xs := by
    intro e size n v xs hr hn
    refine ⟨hr.1, ?_⟩
    rcases hr.2 with q | ⟨b, cap, cur, e, hb, hg, rest⟩
    · exact .inl q
    · refine .inr ⟨b, cap, cur, e, hb, ?_, rest⟩
      rw [f.block b (Array.getElem?_eq_some_iff.1 hg).1 (hn b (by rw [e]; rfl))]; exact hg
  refine ⟨ns, h.ge, h.ten, ?_, hrow h.row fun j hj q => (hP j q).1.2 hj, h.apart, h.nds, fun x hx => ⟨hrow (h.kids x hx).1 fun j hj q => (hP j q).2 ((h.kids x hx).2.2 j hj), (h.kids x hx).2⟩, fun j hj => Nat.lt_of_lt_of_le (h.kbl j hj) f.size⟩
  rw [f.block rb h.lt fun q => (hP rb q).1.1 rfl]; exact h.blk
/-- A node more: what is to be shown behind the append. -/
theorem Fd.grow {ns : List (Nd × Value)} (h : Fd B rb s last r vn ns w) {d : Nd} {kv : Value} (hk : KRow B w kv d.kids) (ho : OffK rb vn kv) {w1 w2 : World} (k : Kp w w1) {g cap : Nat}
    (hown : w2.ownsRow B 195 11 (.slice (some ⟨g, 0, none⟩) (ns.length + 1) cap) (ns.length + 1) (flat ns ++ d.cells kv)) (hg : w1.grownBy w2 vn.v.ownBlock) (hat : vn.v.ownBlock = some g ∨ g = w1.heap.size) (hlt : g < w2.heap.size) :
    (w2.cell? ⟨rb, 3, none⟩ = some vn.v ∧ w2.frozen? ⟨rb, 3, none⟩ = false) ∧ Fd B rb s last { r with nds := r.nds ++ [d] } (grown vn g (ns.length + 1) cap kv) (ns ++ [(d, kv)]) (w2.setCell ⟨rb, 3, none⟩ (.slice (some ⟨g, 0, none⟩) (ns.length + 1) cap)) ∧
      AdvX kv.ownBlock rb vn w (grown vn g (ns.length + 1) cap kv) (w2.setCell ⟨rb, 3, none⟩ (.slice (some ⟨g, 0, none⟩) (ns.length + 1) cap)) := by
  have hrb : rb < w1.heap.size := Nat.lt_of_lt_of_le h.lt k.size
  have hgr : g ≠ rb := by
    rcases hat with e | e
    · exact fun q => h.apart (by unfold Qv.ownBlock; rw [e, q])
    · omega
  have e0 : w2.heap[rb]? = w.heap[rb]? := by
    rw [hg.block rb hrb (fun e => h.apart e.symm)]; exact k.block rb h.lt
  have hsc : w2.heap[rb]? = some (.cells (fcells s last r vn.v).toArray 167 (0, 0)) := by rw [e0]; exact h.blk
  have ha : AdvX kv.ownBlock rb vn w (grown vn g (ns.length + 1) cap kv) (w2.setCell ⟨rb, 3, none⟩ (.slice (some ⟨g, 0, none⟩) (ns.length + 1) cap)) := by
    refine ⟨?_, ?_, fun j _ hq => hq⟩
    · have f1 : Fr (Rb rb vn) w w2 := ⟨hg.os.trans k.os, hg.tape.trans k.tape, hg.output.trans k.output, Nat.le_trans k.size hg.size, fun j hj hn => by
        rw [hg.block j (Nat.lt_of_lt_of_le hj k.size) (fun e => hn (.inr e.symm))]; exact k.block j hj⟩
      exact f1.trans (Fr.setCell (S := Rb rb vn) (.inl rfl) w2)
    · rcases hat with e | e
      · exact .inl (by unfold Qv.ownBlock; rw [e]; rfl)
      · exact .inr fun j hj => by
          simp only [grown, Qv.ownBlock, Value.ownBlock, Option.some.injEq] at hj
          rw [← hj, e]; exact k.size
  refine ⟨⟨by rw [cell_at hsc]; rfl, by simp [World.frozen?, hsc]⟩, ⟨h.ge, h.ten, ?_, ?_, ?_, ?_, ?_, ?_⟩, ha⟩
  · rw [heap_setCell hsc, List.setIfInBounds_toArray]; rfl
  · have hr := hown
    rw [show (ns ++ [(d, kv)]).length = ns.length + 1 by simp, flat_snoc]
    refine ⟨hr.1, ?_⟩
    rcases hr.2 with ⟨q, _⟩ | ⟨b, c, cur, e, hb, hq, rest⟩
    · cases q
    · refine .inr ⟨b, c, cur, e, hb, ?_, rest⟩
      injection e with e _ _
      injection e with e
      injection e with e _ _
      rw [heap_setCell_other (by rw [← e]; exact hgr)]; exact hq
  · simp only [grown, Qv.ownBlock, Value.ownBlock, ne_eq, Option.some.injEq]; exact hgr
  · simp [h.nds]
  · intro x hx
    rcases List.mem_append.1 hx with hx | hx
    · obtain ⟨q1, q2⟩ := row_advK (h.kids x hx).1 (h.kids x hx).2.1 ha
      exact ⟨q1, q2, fun j hj => .inl ((h.kids x hx).2.2 j hj)⟩
    · simp only [List.mem_singleton] at hx
      subst hx
      obtain ⟨q1, q2⟩ := row_advK hk ho ha
      exact ⟨q1, q2, fun j hj => .inr hj⟩
  · intro j hj
    rw [size_setCell]
    have hsz := Nat.le_trans k.size hg.size
    rcases hj with hj | hj
    · exact Nat.lt_of_lt_of_le (h.kbl j hj) hsz
    · exact Nat.lt_of_lt_of_le (hk.lt j hj).2 hsz
end
end Go.Proofs.YtalmajiflmejcaaGreat
/- The document's reader: in, plain, letter, wrong. -/
namespace Go.Proofs.YtalmajiflmejcaaGreat
open Go.ChangeShapes Go.WideShapes Go.ChangeAt Go.RowKit
set_option linter.unusedVariables false
set_option linter.unusedSimpArgs false
theorem any_drop (t : ByteArray) (c j : Nat) (hj : j < t.size) : ((t.data.toList.drop j).any fun b => b.toNat == c) = ((t[j]).toNat == c || (t.data.toList.drop (j + 1)).any fun b => b.toNat == c) := by
  rw [List.drop_eq_getElem_cons (by rw [← Lib.size_eq]; omega)]
  rfl
theorem fin_any (t : ByteArray) (c : Nat) (ht : t.size ≤ 400) (w : World) :
    Calls Tryz.prog 144 #[.string t, .int .u8 c] w fun e w' => e = .returned (.bool (memB t c)) ∧ w' = w := by
  unfold memB
  obtain ⟨y, hy⟩ : ∃ y, (t.data.toList.any fun b => b.toNat == c) = y := ⟨_, rfl⟩
  rw [hy]
  have HY : Hid ((t.data.toList.any fun b => b.toNat == c) = y) := hy
  clear hy
  go_enter Tryz.func144, Tryz.ntmps144
  go_wp2_with fail
  go_loopw [5] (fun v3 wr => ∃ j : Nat, j ≤ t.size ∧ v3 = .int .i64 j ∧ wr = w ∧ ((t.data.toList.drop j).any fun b => b.toNat == c) = y) (fun v3 _ => t.size - (intOf v3).toNat)
  case atStart => exact ⟨0, Nat.zero_le _, rfl, rfl, by rw [List.drop_zero]; exact HY.out⟩
  case round =>
    obtain ⟨j, hj, rfl, rfl, hq⟩ := hrel
    by_cases hlt : j < t.size
    · have d1 : decide ((j : Int) < (t.size : Int)) = true := by simp; omega
      rw [any_drop t c j hlt] at hq
      by_cases hc : (t[j]).toNat = c
      · have dc : (((t[j]).toNat : Int) == (c : Int)) = true := by simp; omega
        have hy : y = true := by rw [← hq]; simp [hc]
        subst hy
        clear hq hc HY
        go_wp2_with fail
        go_ret
        exact ⟨rfl, rfl⟩
      · have dc : (((t[j]).toNat : Int) == (c : Int)) = false := by simp; omega
        have HQ : Hid (((t.data.toList.drop (j + 1)).any fun b => b.toNat == c) = y) := by
          rw [beq_eq_false_iff_ne.2 hc, Bool.false_or] at hq; exact hq
        clear hq hc HY
        go_wp2_with fail
        go_roundw
        case rel => exact ⟨j + 1, by omega, by go_num, by trivial, HQ.out⟩
        case measure => simp [intOf]; omega
    · have d1 : decide ((j : Int) < (t.size : Int)) = false := by simp; omega
      have hy : y = false := by rw [← hq, List.drop_eq_nil_of_le (by rw [← Lib.size_eq]; omega)]; rfl
      subst hy
      clear hq HY
      go_wp2_with fail
      go_ret
      exact ⟨rfl, rfl⟩
theorem fplain_any (md : Nat) (w : World) : Calls Tryz.prog 145 #[.int .u8 md] w fun e w' => e = .returned (.string (plainS md)) ∧ w' = w := by
  unfold plainS sgnS
  by_cases h1 : md = 118
  · subst h1
    go_enter Tryz.func145, Tryz.ntmps145
    go_wp2_with fail
    go_ret
    exact ⟨rfl, rfl⟩
  by_cases h2 : md = 109
  · subst h2
    go_enter Tryz.func145, Tryz.ntmps145
    go_wp2_with fail
    go_ret
    exact ⟨rfl, rfl⟩
  by_cases h3 : md = 77
  · subst h3
    go_enter Tryz.func145, Tryz.ntmps145
    go_wp2_with fail
    go_ret
    exact ⟨rfl, rfl⟩
  rw [if_neg h1, if_neg h2, if_neg h3]
  have e1 : ((md : Int) == 118) = false := by simp; omega
  have e2 : ((md : Int) == 109) = false := by simp; omega
  have e3 : ((md : Int) == 77) = false := by simp; omega
  clear h1 h2 h3
  go_enter Tryz.func145, Tryz.ntmps145
  go_wp2_with fail
  go_ret
  exact ⟨rfl, rfl⟩
theorem fletter_any (c : Nat) (w : World) : Calls Tryz.prog 169 #[.int .u8 c] w fun e w' => e = .returned (.tuple #[.int .u8 (letrF c).1, .bool (letrF c).2]) ∧ w' = w := by
  unfold letrF
  by_cases h1 : c = 101
  · subst h1
    go_enter Tryz.func169, Tryz.ntmps169
    go_wp2_with fail
    go_ret2
    exact ⟨rfl, rfl⟩
  by_cases h2 : c = 116
  · subst h2
    go_enter Tryz.func169, Tryz.ntmps169
    go_wp2_with fail
    go_ret2
    exact ⟨rfl, rfl⟩
  by_cases h3 : c = 114
  · subst h3
    go_enter Tryz.func169, Tryz.ntmps169
    go_wp2_with fail
    go_ret2
    exact ⟨rfl, rfl⟩
  by_cases h4 : c = 98
  · subst h4
    go_enter Tryz.func169, Tryz.ntmps169
    go_wp2_with fail
    go_ret2
    exact ⟨rfl, rfl⟩
  rw [if_neg h1, if_neg h2, if_neg h3, if_neg h4]
  have e1 : ((c : Int) == 101) = false := by simp; omega
  have e2 : ((c : Int) == 116) = false := by simp; omega
  have e3 : ((c : Int) == 114) = false := by simp; omega
  have e4 : ((c : Int) == 98) = false := by simp; omega
  clear h1 h2 h3 h4
  go_enter Tryz.func169, Tryz.ntmps169
  go_wp2_with fail
  go_ret2
  exact ⟨rfl, rfl⟩
section
variable {B rb : Nat} {s last : ByteArray} {r : FS} {vn : Qv} {w : World}
theorem fwrong_any (h : Fq B rb s last r vn w) (e a : Nat) :
    Calls Tryz.prog 139 #[.pointer (some ⟨rb, 0, none⟩), .int .i64 e, .int .i64 a] w fun en w' => en = .returned (.tuple #[]) ∧ Fq B rb s last (wrongF e a r) vn w' ∧ Fr (On rb) w w' := by
  unfold wrongF
  have c17 := h.c17
  have f17 := h.fz 17
  have f18 := h.fz 18
  have c18 := h.c18
  by_cases he : r.err = 0
  · rw [if_pos he]
    rw [he] at c17
    have H1 : Hid (Fq B rb s last { r with err := e, pl := a } vn ((w.setCell ⟨rb, 17, none⟩ (.int .i64 e)).setCell ⟨rb, 18, none⟩ (.int .i64 a)) ∧ Fr (On rb) w ((w.setCell ⟨rb, 17, none⟩ (.int .i64 e)).setCell ⟨rb, 18, none⟩ (.int .i64 a))) := ⟨(h.setErr e).setPl a, (fr_set _ _ _ _).trans (fr_set _ _ _ _)⟩
    clear h he
    go_enter Tryz.func139, Tryz.ntmps139
    go_wp2_with fail
    go_end0
    exact ⟨rfl, H1.out⟩
  · rw [if_neg he]
    obtain ⟨x, hx⟩ : ∃ x, r.err = x := ⟨_, rfl⟩
    rw [hx] at c17 he
    have d1 : ((x : Int) == 0) = false := by simp; omega
    have H1 : Hid (Fq B rb s last r vn w ∧ Fr (On rb) w w) := ⟨h, Fr.refl _ _⟩
    clear h he hx
    go_enter Tryz.func139, Tryz.ntmps139
    go_wp2_with fail
    go_end0
    exact ⟨rfl, H1.out⟩
end
end Go.Proofs.YtalmajiflmejcaaGreat
/- The document's reader: node, row. -/
namespace Go.Proofs.YtalmajiflmejcaaGreat
open Go.ChangeShapes Go.WideShapes Go.ChangeAt Go.RowKit
set_option linter.unusedVariables false
set_option linter.unusedSimpArgs false
theorem AdvX.weak {rb : Nat} {vn vn' : Qv} {w w' : World} (h : Adv rb vn w vn' w') (x : Option Nat) : AdvX x rb vn w vn' w' := ⟨h.fr, h.own, fun j hj hq => (h.kbs j hj hq).elim .inl fun z => by cases z⟩
section
variable {B rb : Nat} {s last : ByteArray} {r : FS} {vn : Qv} {ns : List (Nd × Value)} {w : World}
/-- What a call that may add a node comes to. -/
def FAdd (B rb : Nat) (s last : ByteArray) (R : Nat × FS) (vn : Qv) (x : Option Nat) (w : World) (e : Ending) (w' : World) : Prop :=
  e = .returned (.int .i64 R.1) ∧ ∃ vn', Fq B rb s last R.2 vn' w' ∧ AdvX x rb vn w vn' w'
set_option maxHeartbeats 1000000 in
set_option maxRecDepth 100000 in
theorem fnode_room (h : Fd B rb s last r vn ns w) (d : Nd) {kv : Value} (hk : KRow B w kv d.kids) (ho : OffK rb vn kv) (hl : ¬ 400 < r.nds.length) (hB : B ≤ w.heap.size) :
    Calls Tryz.prog 142 #[.pointer (some ⟨rb, 0, none⟩), d.val kv] w (FAdd B rb s last (r.nds.length, { r with nds := r.nds ++ [d] }) vn kv.ownBlock w) := by
  obtain ⟨ka, kc, rfl, _, _⟩ := owns_form hk
  obtain ⟨vv, vkb⟩ := vn
  obtain ⟨va, vc, e, v1, v2⟩ := owns_form h.row
  simp only at e
  subst e
  obtain ⟨N, hN⟩ : ∃ N, ns.length = N := ⟨_, rfl⟩
  have hN2 : r.nds.length = N := by rw [← h.len]; exact hN
  unfold FAdd
  simp only
  rw [hN2] at hl ⊢
  rw [hN]
  have dl : decide ((400 : Int) < (N : Int)) = false := decide_eq_false (by omega)
  have dl2 : decide (400 < N) = false := decide_eq_false hl
  obtain ⟨i9, hi9, z0, z1, z2⟩ := info_parts infoNode
  have c3 := h.c3; have f3 := h.fz 3
  rw [hN] at c3
  have HO : Hid (w.ownsRow B 195 11 (.slice va N vc) N (flat ns)) := by have := h.row; rw [hN] at this; exact this
  have HG : Hid (∀ w1, Kp w w1 → ∀ g cap w2, w2.ownsRow B 195 11 (.slice (some ⟨g, 0, none⟩) (N + 1) cap) (N + 1) (flat ns ++ d.cells (.slice ka d.kids.length kc)) → w1.grownBy w2 (Value.slice va N vc).ownBlock → ((Value.slice va N vc).ownBlock = some g ∨ g = w1.heap.size) → g < w2.heap.size →
      (w2.cell? ⟨rb, 3, none⟩ = some (.slice va N vc) ∧ w2.frozen? ⟨rb, 3, none⟩ = false) ∧ Hid (Fd B rb s last { r with nds := r.nds ++ [d] } (grown ⟨.slice va N vc, vkb⟩ g (N + 1) cap (.slice ka d.kids.length kc)) (ns ++ [(d, .slice ka d.kids.length kc)]) (w2.setCell ⟨rb, 3, none⟩ (.slice (some ⟨g, 0, none⟩) (N + 1) cap)) ∧
      AdvX (Value.slice ka d.kids.length kc).ownBlock rb ⟨.slice va N vc, vkb⟩ w (grown ⟨.slice va N vc, vkb⟩ g (N + 1) cap (.slice ka d.kids.length kc)) (w2.setCell ⟨rb, 3, none⟩ (.slice (some ⟨g, 0, none⟩) (N + 1) cap)))) := by
    intro w1 k g cap w2 q1 q2 q3 q4
    rw [← hN] at q1 q2 q3 ⊢
    exact h.grow hk ho k q1 q2 q3 q4
  unfold maxLen at v2
  unfold Nd.val
  have HK : Hid (Kp w (((w.alloc (nodeObj d (.slice ka d.kids.length kc))).drew).alloc (nodeObj d (.slice ka d.kids.length kc)))) := kp_trans (kp_trans (kp_alloc w _) (kp_drew _)) (kp_alloc _ _)
  have HSZ : Hid ((((w.alloc (nodeObj d (.slice ka d.kids.length kc))).alloc (nodeObj d (.slice ka d.kids.length kc))).drew).heap.size = w.heap.size + 2) := by show (((w.alloc (nodeObj d (.slice ka d.kids.length kc))).alloc (nodeObj d (.slice ka d.kids.length kc))).drew).heap.size = w.heap.size + 2; rw [drew_heap, alloc_size, alloc_size]
  have HK2 : Hid (Kp w (((w.alloc (nodeObj d (.slice ka d.kids.length kc))).alloc (nodeObj d (.slice ka d.kids.length kc))).drew)) := kp_trans (kp_trans (kp_alloc w _) (kp_alloc _ _)) (kp_drew _)
  have HOW : Hid ((((w.alloc (nodeObj d (.slice ka d.kids.length kc))).alloc (nodeObj d (.slice ka d.kids.length kc))).drew).ownsRow B 195 11 (.slice va N vc) N (flat ns)) := row_kp HO.out HK2.out
  have HNEW : Hid (∀ j u, (d.cells (.slice ka d.kids.length kc))[j]? = some u → (((w.alloc (nodeObj d (.slice ka d.kids.length kc))).alloc (nodeObj d (.slice ka d.kids.length kc))).drew).cell? ((⟨w.heap.size + 1, 0, none⟩ : Addr).add j) = some u) := by
    intro j u hj
    have e : w.heap.size + 1 = (w.alloc (nodeObj d (.slice ka d.kids.length kc))).heap.size := by rw [alloc_size]
    rw [Addr.add_lit, e]
    have := alloc_new (w.alloc (nodeObj d (.slice ka d.kids.length kc))) (nodeObj d (.slice ka d.kids.length kc))
    rw [← drew_heap] at this
    unfold nodeObj at this ⊢
    rw [cell_at this, Nat.zero_add]
    rw [← hj]; exact List.getElem?_toArray
  have HONE : Hid (∀ u ∈ d.cells (.slice ka d.kids.length kc), u.oneCell' = true) := by
    intro u hu
    simp only [Nd.cells, List.mem_cons, List.not_mem_nil, or_false] at hu
    rcases hu with rfl | rfl | rfl | rfl | rfl | rfl | rfl | rfl | rfl | rfl | rfl <;> rfl
  have HBW : Hid (B ≤ (((w.alloc (nodeObj d (.slice ka d.kids.length kc))).alloc (nodeObj d (.slice ka d.kids.length kc))).drew).heap.size) := by have := HSZ.out; show B ≤ _; omega
  have hrb : rb < w.heap.size := h.lt
  clear h hk ho hN hN2
  go_enter Tryz.func142, Tryz.ntmps142
  go_upto_region 3 with fail
  go_region_law ((refine step_append_lies _ (by rfl) (.tmp 17) (.tmp 19) 90 rfl B 195 i9 _ 11 96 Tryz.underlying90 hi9 z0 z1 z2 rfl (by decide) (.slice va N vc) N (flat ns) (by rfl) HOW.out ⟨w.heap.size + 1, 0, none⟩ 1 1 (d.cells (.slice ka d.kids.length kc)) (by rfl) rfl HNEW.out HONE.out (by omega) (by unfold maxLen; omega) (by omega) HBW.out (w.heap.size + 2) HSZ.out ?_; intro g cp w2 hown hgrow hat hlt; obtain ⟨⟨q0, qf⟩, HF⟩ := HG.out _ HK2.out g cp w2 hown hgrow (by rw [HSZ.out]; exact hat) hlt; clear hown hgrow hat))
  all_goals
    obtain ⟨w3, hw3⟩ : ∃ w3, w2.setCell ⟨rb, 3, none⟩ (.slice (some ⟨g, 0, none⟩) (N + 1) cp) = w3 := ⟨_, rfl⟩
    rw [hw3] at HF ⊢
    have d4 : w3.cell? ⟨rb, 3, none⟩ = some (.slice (some ⟨g, 0, none⟩) (N + 1) cp) := HF.out.1.c3
    clear hw3
    go_wp2_with fail
    go_ret
    exact ⟨by simp, _, ⟨_, HF.out.1⟩, HF.out.2⟩
theorem fnode_full (h : Fd B rb s last r vn ns w) (d : Nd) {kv : Value} (hk : KRow B w kv d.kids) (hl : 400 < r.nds.length) :
    Calls Tryz.prog 142 #[.pointer (some ⟨rb, 0, none⟩), d.val kv] w (FAdd B rb s last (0, r) vn kv.ownBlock w) := by
  obtain ⟨ka, kc, rfl, _, _⟩ := owns_form hk
  obtain ⟨vv, vkb⟩ := vn
  obtain ⟨va, vc, e, v1, v2⟩ := owns_form h.row
  simp only at e
  subst e
  obtain ⟨N, hN⟩ : ∃ N, ns.length = N := ⟨_, rfl⟩
  have hN2 : r.nds.length = N := by rw [← h.len]; exact hN
  rw [hN2] at hl
  rw [hN]
  have dl : decide ((400 : Int) < (N : Int)) = true := decide_eq_true (by omega)
  have dl2 : decide (400 < N) = true := decide_eq_true hl
  have c3 := h.c3
  rw [hN] at c3
  have HF : Hid (∀ ob, Fq B rb s last r ⟨.slice va N vc, vkb⟩ (w.alloc ob) ∧ Adv rb ⟨.slice va N vc, vkb⟩ w ⟨.slice va N vc, vkb⟩ (w.alloc ob)) := fun ob => by
    rw [← hN]
    exact ⟨⟨_, h.kp (kp_alloc w ob)⟩, Adv.kp _ rb (kp_alloc w ob)⟩
  have hrb : rb < w.heap.size := h.lt
  unfold Nd.val
  clear h hk hN hN2
  go_enter Tryz.func142, Tryz.ntmps142
  go_wp2_with fail
  go_ret
  exact ⟨rfl, _, (HF.out _).1, (HF.out _).2.weak _⟩
theorem fnode_any (h : Fq B rb s last r vn w) (d : Nd) {kv : Value} (hk : KRow B w kv d.kids) (ho : OffK rb vn kv) :
    Calls Tryz.prog 142 #[.pointer (some ⟨rb, 0, none⟩), d.val kv] w (FAdd B rb s last (nodeF d r) vn kv.ownBlock w) := by
  have hB := h.hB
  obtain ⟨ns, h⟩ := h
  unfold nodeF
  by_cases hl : 400 < r.nds.length
  · rw [if_pos hl]; exact fnode_full h d hk hl
  · rw [if_neg hl]; exact fnode_room h d hk ho hl hB
/-- A node without kids. -/
theorem fleaf (h : Fq B rb s last r vn w) (d : Nd) (hd : d.kids = []) : Calls Tryz.prog 142 #[.pointer (some ⟨rb, 0, none⟩), d.val (.slice none 0 0)] w (FAdd B rb s last (nodeF d r) vn none w) :=
  fnode_any h d (by rw [hd]; exact leaf_row B w) (off_nil _ _)
theorem frow_any (h : Fq B rb s last r vn w) (op : Nat) {v : Value} {ks : List Nat} (hk : KRow B w v ks) (ho : OffK rb vn v) (h3 : ks.length < 100000) :
    Calls Tryz.prog 114 #[.pointer (some ⟨rb, 0, none⟩), .int .u8 op, v] w (FAdd B rb s last (rowF op ks r) vn v.ownBlock w) := by
  obtain ⟨a, c, rfl, k1, k2⟩ := owns_form hk
  unfold maxLen at k2
  match ks, hk, k1, h3 with
  | [], hk, k1, h3 =>
    have HA : Hid (Calls Tryz.prog 142 #[.pointer (some ⟨rb, 0, none⟩), .agg #[.int .u8 1, .int .u8 0, .int .u64 0, .int .u64 0, .int .u64 0, .int .u64 0, .int .i64 0, .int .i64 0, .bool false, .int .i64 0, .slice none 0 0]] w (FAdd B rb s last (nodeF { op := 1 } r) vn none w)) := fleaf h { op := 1 } rfl
    clear h hk ho
    go_enter Tryz.func114, Tryz.ntmps114
    go_wp2_with fail
    refine Calls.mono HA.out ?_
    rintro e w1 ⟨rfl, vn', q1, q2⟩
    have HQ : Hid (Fq B rb s last (nodeF { op := 1 } r).2 vn' w1 ∧ Adv rb vn w vn' w1) := ⟨q1, q2⟩
    clear q1 q2
    go_wp2_with fail
    go_ret
    exact ⟨rfl, vn', HQ.out.1, HQ.out.2.weak _⟩
  | [x], hk, k1, h3 =>
    obtain ⟨kb, rfl, c0, _⟩ := krow_cell (v := .slice a 1 c) hk (j := 0) (x := x) rfl
    have HQ : Hid (Fq B rb s last r vn w) := h
    clear hk ho h
    simp only [List.length_cons, List.length_nil, Nat.zero_add] at k1
    go_enter Tryz.func114, Tryz.ntmps114
    go_wp2_with fail
    go_ret
    exact ⟨rfl, vn, HQ.out, (Adv.refl _ _ _).weak _⟩
  | x :: y :: l, hk, k1, h3 =>
    have HA : Calls Tryz.prog 142 #[.pointer (some ⟨rb, 0, none⟩), .agg #[.int .u8 op, .int .u8 0, .int .u64 0, .int .u64 0, .int .u64 0, .int .u64 0, .int .i64 0, .int .i64 0, .bool false, .int .i64 0, .slice a (x :: y :: l).length c]] w (FAdd B rb s last (nodeF { op := op, kids := x :: y :: l } r) vn (Value.slice a (x :: y :: l).length c).ownBlock w) := fnode_any h { op := op, kids := x :: y :: l } hk ho
    have HR : Hid (rowF op (x :: y :: l) r = nodeF { op := op, kids := x :: y :: l } r) := rfl
    obtain ⟨K, hK⟩ : ∃ K, (x :: y :: l).length = K := ⟨_, rfl⟩
    have hK2 : 2 ≤ K := by rw [← hK]; simp
    rw [hK] at HA h3 ⊢
    rw [HR.out]
    have HA' : Hid _ := HA
    have d0 : ((K : Int) == 0) = false := by simp; omega
    have d1 : ((K : Int) == 1) = false := by simp; omega
    clear h hk ho hK HA k1
    go_enter Tryz.func114, Tryz.ntmps114
    go_wp2_with fail
    refine Calls.mono HA'.out ?_
    rintro e w1 ⟨rfl, q⟩
    have HQ : Hid _ := q
    clear q
    go_wp2_with fail
    go_ret
    exact ⟨rfl, HQ.out⟩
end
end Go.Proofs.YtalmajiflmejcaaGreat
/- The document's reader: slash. -/
namespace Go.Proofs.YtalmajiflmejcaaGreat
open Go.ChangeShapes Go.WideShapes Go.ChangeAt Go.RowKit
set_option linter.unusedVariables false
set_option linter.unusedSimpArgs false
theorem rowTk : ∃ d, Tryz.prog.underlying 197 = some d ∧ d.isRow = true := ⟨_, Tryz.underlying197, rfl⟩
theorem sizeTk : (Tryz.prog.info? 197).map (·.size) = some 16 := by kernel_rfl
theorem sizeNd : (Tryz.prog.info? 195).map (·.size) = some 11 := by kernel_rfl
theorem oneNd (d : Nd) : ∀ v ∈ d.cells (.slice none 0 0), v.oneCell' = true := by
  intro u hu
  simp only [Nd.cells, List.mem_cons, List.not_mem_nil, or_false] at hu
  rcases hu with rfl | rfl | rfl | rfl | rfl | rfl | rfl | rfl | rfl | rfl | rfl <;> rfl
theorem oneTk (t : Tk) : ∀ v ∈ t.cells, v.oneCell' = true := by
  intro u hu
  unfold Tk.cells at hu
  simp only [List.mem_cons, List.mem_append, List.not_mem_nil, or_false] at hu
  rcases hu with rfl | hu | rfl | rfl | rfl | rfl
  · rfl
  · exact oneNd _ u hu
  all_goals rfl
theorem plain_small (md : Nat) : (plainS md).size ≤ 400 := by
  unfold plainS
  by_cases h1 : md = 118
  · rw [if_pos h1]; decide
  rw [if_neg h1]
  by_cases h2 : md = 109
  · rw [if_pos h2]; decide
  rw [if_neg h2]
  by_cases h3 : md = 77
  · rw [if_pos h3]; decide
  rw [if_neg h3]; decide
section
variable {rb : Nat} {s : ByteArray} {md cs at_ : Nat} {w : World}
/-- What is there while slash looks: the answer's box, the token's box. -/
structure Sl (n : Nat) (t : Tk) (w w1 : World) : Prop where
  kp : Kp w w1
  eq : w.heap.size = n
  sz : n + 2 ≤ w1.heap.size
  a : Lc 197 n (tk0 0 0 0).cells w1
  b : Lc 197 (n + 1) t.cells w1
theorem Sl.more {n : Nat} {t : Tk} {w1 w2 : World} (h : Sl n t w w1) (k : Kp w1 w2) : Sl n t w w2 := ⟨kp_trans h.kp k, h.eq, Nat.le_trans h.sz k.size, h.a.kp k, h.b.kp k⟩
theorem sl_new (t : Tk) (w : World) : Sl w.heap.size t w ((w.alloc (.cells (tk0 0 0 0).cells.toArray 197)).alloc (.cells t.cells.toArray 197)).drew := by
  refine ⟨kp_trans (kp_trans (kp_alloc _ _) (kp_alloc _ _)) (kp_drew _), rfl, by rw [drew_heap, alloc_size, alloc_size]; omega, ?_, ?_⟩
  · exact ((Lc.new w _ _).kp (kp_alloc _ _)).kp (kp_drew _)
  · have := (Lc.new (w.alloc (.cells (tk0 0 0 0).cells.toArray 197)) t.cells 197).kp (kp_drew _)
    rw [alloc_size] at this; exact this
/-- The token's box has turned. -/
theorem Sl.turn {n : Nat} {t t' : Tk} {w1 w2 : World} (h : Sl n t w w1) (f : Fr (On (n + 1)) w1 w2) (hb : Lc 197 (n + 1) t'.cells w2) : Sl n t' w w2 := by
  have e := h.eq
  refine ⟨⟨f.os.trans h.kp.os, f.tape.trans h.kp.tape, f.output.trans h.kp.output, Nat.le_trans h.kp.size f.size, fun j hj => ?_⟩, h.eq, Nat.le_trans h.sz f.size, h.a.fr f (by unfold On; omega), hb⟩
  rw [f.block j (Nat.lt_of_lt_of_le hj h.kp.size) (by unfold On; omega)]; exact h.kp.block j hj
theorem sl_node {nx md cs : Nat} (d : Nd) : Go.Proofs.YtalmajiflmejcaaGreat.sets (tk0 nx md cs).cells 1 (d.cells (.slice none 0 0)) = ({ tk0 nx md cs with nd := d } : Tk).cells := rfl
theorem Sl.done {n : Nat} {t : Tk} {w1 w2 : World} (h : Sl n t w w1) (f : Fr (On n) w1 w2) : Kp w w2 := by
  have e := h.eq
  refine ⟨f.os.trans h.kp.os, f.tape.trans h.kp.tape, f.output.trans h.kp.output, Nat.le_trans h.kp.size f.size, fun j hj => ?_⟩
  rw [f.block j (Nat.lt_of_lt_of_le hj h.kp.size) (by unfold On; omega)]; exact h.kp.block j hj
/-- A token that stands in a box is read whole. -/
theorem lc_get {n : Nat} {t : Tk} {w1 : World} (h : Lc 197 n t.cells w1) : ∀ j v, t.cells[j]? = some v → w1.cell? ⟨n, j, none⟩ = some v := fun j v hj => h.at hj
set_option maxHeartbeats 4000000 in
set_option maxRecDepth 100000 in
theorem slash_end (c0 : w.cell? ⟨rb, 0, none⟩ = some (.string s)) (c2 : w.cell? ⟨rb, 2, none⟩ = some (.int .u8 md)) (c6 : w.cell? ⟨rb, 6, none⟩ = some (.int .u8 cs)) (hrb : rb < w.heap.size) (hs : s.size ≤ 400) (ha : at_ ≤ 1000) (hlt : s.size ≤ at_ + 1) :
    Calls Tryz.prog 143 #[.pointer (some ⟨rb, 0, none⟩), .int .i64 at_] w fun e w' => e = .returned (.tuple #[(tk0 (at_ + 2) md cs).val, .bool false]) ∧ Kp w w' := by
  obtain ⟨A1, hA1⟩ : ∃ A1, at_ + 1 = A1 := ⟨_, rfl⟩
  obtain ⟨A2, hA2⟩ : ∃ A2, at_ + 2 = A2 := ⟨_, rfl⟩
  obtain ⟨A3, hA3⟩ : ∃ A3, at_ + 3 = A3 := ⟨_, rfl⟩
  have i1 : (at_ : Int) + 1 = (A1 : Int) := by omega
  have i2 : (at_ : Int) + 2 = (A2 : Int) := by omega
  have i3 : (at_ : Int) + 3 = (A3 : Int) := by omega
  have l1 : A1 ≤ 1001 := by omega
  have l2 : A2 ≤ 1002 := by omega
  have l3 : A3 ≤ 1003 := by omega
  rw [hA2]
  have d1 : decide ((s.size : Int) ≤ (A1 : Int)) = true := decide_eq_true (by omega)
  have d2 : decide (s.size ≤ A1) = true := decide_eq_true (by omega)
  clear hA1 hA2 hA3 hlt
  have HS : Hid _ := sl_new (tk0 A2 md cs) w
  obtain ⟨dT, hT1, hT2⟩ := rowTk
  go_enter Tryz.func143, Tryz.ntmps143
  go_upto_region 1 with fail
  go_region
  change Exit.then _ _ _ _ (((w.alloc (.cells (tk0 0 0 0).cells.toArray 197)).alloc (.cells (tk0 A2 md cs).cells.toArray 197)).drew)
  obtain ⟨W1, hW1⟩ : ∃ W1, ((w.alloc (.cells (tk0 0 0 0).cells.toArray 197)).alloc (.cells (tk0 A2 md cs).cells.toArray 197)).drew = W1 := ⟨_, rfl⟩
  rw [hW1] at HS ⊢
  have e0 := kp_cell HS.out.kp c0
  have e2 := kp_cell HS.out.kp c2
  obtain ⟨n, hn⟩ : ∃ n, w.heap.size = n := ⟨_, rfl⟩
  rw [hn] at HS ⊢
  clear hW1 c6 c0 c2 hn
  go_wp2_with (first | (refine wpList_load_box HS.out.b 0 ((tk0 A2 md cs : Tk)).cells rfl 197 (.tmp 6) rfl rfl rfl dT hT1 hT2 sizeTk ?_) | (refine wpList_store_box HS.out.a 0 ((tk0 A2 md cs : Tk)).cells rfl 197 (.tmp 4) (.tmp 32) rfl rfl rfl (Nat.le_refl 16) sizeTk (oneTk _) rfl ?_; intro wz lz fz sz; have HZ : Hid (Lc 197 n ((tk0 A2 md cs : Tk)).cells wz ∧ Kp w wz) := ⟨lz, HS.out.done fz⟩; clear lz fz sz))
  exact bodyPost_ret (results_box2 rfl rfl HZ.out.1 hT1 hT2 sizeTk) rfl ⟨rfl, HZ.out.2⟩
set_option maxHeartbeats 40000000 in
set_option maxRecDepth 100000 in
theorem slash_more (c0 : w.cell? ⟨rb, 0, none⟩ = some (.string s)) (c2 : w.cell? ⟨rb, 2, none⟩ = some (.int .u8 md)) (c6 : w.cell? ⟨rb, 6, none⟩ = some (.int .u8 cs)) (hrb : rb < w.heap.size) (hs : s.size ≤ 400) (ha : at_ ≤ 1000) (hlt : at_ + 1 < s.size) (SF : Tk × Bool) (hSF : slC md cs (at_ + 2) (byteAt s (at_ + 1)) (byteAt s (at_ + 2)) = SF) :
    Calls Tryz.prog 143 #[.pointer (some ⟨rb, 0, none⟩), .int .i64 at_] w fun e w' => e = .returned (.tuple #[SF.1.val, .bool SF.2]) ∧ Kp w w' := by
  obtain ⟨A1, hA1⟩ : ∃ A1, at_ + 1 = A1 := ⟨_, rfl⟩
  obtain ⟨A2, hA2⟩ : ∃ A2, at_ + 2 = A2 := ⟨_, rfl⟩
  obtain ⟨A3, hA3⟩ : ∃ A3, at_ + 3 = A3 := ⟨_, rfl⟩
  have i1 : (at_ : Int) + 1 = (A1 : Int) := by omega
  have i2 : (at_ : Int) + 2 = (A2 : Int) := by omega
  have i3 : (at_ : Int) + 3 = (A3 : Int) := by omega
  have l1 : A1 ≤ 1001 := by omega
  have l2 : A2 ≤ 1002 := by omega
  have l3 : A3 ≤ 1003 := by omega
  rw [hA1, hA2] at hSF
  have hA23 : A2 + 1 = A3 := by omega
  have d1 : decide ((s.size : Int) ≤ (A1 : Int)) = false := decide_eq_false (by omega)
  have d2 : decide (s.size ≤ A1) = false := decide_eq_false (by omega)
  have hlt1 : A1 < s.size := by omega
  have hC : byteAt s A1 = (s[A1]).toNat := byteAt_eq s A1 hlt1
  obtain ⟨C, hCe⟩ : ∃ C, byteAt s A1 = C := ⟨_, rfl⟩
  rw [hCe] at hSF
  have hC2 : (s[A1]).toNat = C := by rw [← hC]; exact hCe
  have hC3 : C < 256 := by rw [← hCe]; exact byteAt_lt _ _
  obtain ⟨Z, hZe⟩ : ∃ Z, byteAt s A2 = Z := ⟨_, rfl⟩
  rw [hZe] at hSF
  have HZZ : Hid ((∀ h : A2 < s.size, (s[A2]).toNat = Z) ∧ (¬ A2 < s.size → Z = 0)) := by
    refine ⟨fun h => by rw [← byteAt_eq s A2 h]; exact hZe, fun h => ?_⟩
    rw [← hZe]; unfold byteAt
    rw [List.getElem?_eq_none (by rw [← Lib.size_eq]; omega)]; rfl
  have HF : Hid (slC md cs A2 C Z = SF) := hSF
  clear hA1 hA2 hA3 hlt hSF hC hCe hZe
  obtain ⟨L, hL⟩ : ∃ L, letrF C = L := ⟨_, rfl⟩
  obtain ⟨LC, LB⟩ := L
  have HLt : Hid (∀ x, Calls Tryz.prog 169 #[.int .u8 C] x fun e w' => e = .returned (.tuple #[.int .u8 LC, .bool LB]) ∧ w' = x) := fun x => by
    have := fletter_any C x; rw [hL] at this; exact this
  obtain ⟨KN, hKN⟩ : ∃ KN, knB (smI (C : Int)) = KN := ⟨_, rfl⟩
  obtain ⟨FS4, hFS4⟩ : ∃ FS4, foldS (isB (C : Int)) 256 = FS4 := ⟨_, rfl⟩
  have HOf : Hid (∀ x, Calls Tryz.prog 170 #[.int .u8 C] x fun e w' => e = .returned (.tuple #[.agg #[.int .u64 FS4.a, .int .u64 FS4.b, .int .u64 FS4.c, .int .u64 FS4.d], .bool KN]) ∧ Kp x w') := fun x => by
    have := rOf_any (C : Int) x; rw [hKN, hFS4] at this; exact this
  have HL : Hid (letrF C = (LC, LB)) := hL
  have HKN : Hid (knB (smI (C : Int)) = KN) := hKN
  have HFS4 : Hid (foldS (isB (C : Int)) 256 = FS4) := hFS4
  clear hL hKN hFS4
  have HS : Hid _ := sl_new (tk0 A2 md cs) w
  obtain ⟨dT, hT1, hT2⟩ := rowTk
  go_enter Tryz.func143, Tryz.ntmps143
  go_upto_region 1 with fail
  go_region
  change Exit.then _ _ _ _ (((w.alloc (.cells (tk0 0 0 0).cells.toArray 197)).alloc (.cells (tk0 A2 md cs).cells.toArray 197)).drew)
  obtain ⟨W1, hW1⟩ : ∃ W1, ((w.alloc (.cells (tk0 0 0 0).cells.toArray 197)).alloc (.cells (tk0 A2 md cs).cells.toArray 197)).drew = W1 := ⟨_, rfl⟩
  rw [hW1] at HS ⊢
  have e0 := kp_cell HS.out.kp c0
  have e2 := kp_cell HS.out.kp c2
  obtain ⟨n, hn⟩ : ∃ n, w.heap.size = n := ⟨_, rfl⟩
  rw [hn] at HS ⊢
  clear hW1 hn
  go_upto_region 5 with fail
  clear hC2
  go_upto_region 8 with (first | (go_at_call 169; refine Calls.mono (HLt.out _) ?_; rintro e _ ⟨rfl, rfl⟩) | (go_at_call 170; refine Calls.mono (HOf.out _) ?_; rintro e w2 ⟨rfl, hk2⟩))
  have HS2 : Hid _ := HS.out.more (kp_more hk2 (.cells #[.int .u64 FS4.a, .int .u64 FS4.b, .int .u64 FS4.c, .int .u64 FS4.d] 108))
  have HBx : Hid (Lc 108 w2.heap.size [.int .u64 FS4.a, .int .u64 FS4.b, .int .u64 FS4.c, .int .u64 FS4.d] (w2.alloc (.cells #[.int .u64 FS4.a, .int .u64 FS4.b, .int .u64 FS4.c, .int .u64 FS4.d] 108))) := Lc.new w2 _ _
  obtain ⟨m, hm⟩ : ∃ m, w2.heap.size = m := ⟨_, rfl⟩
  obtain ⟨W2, hW2⟩ : ∃ W2, w2.alloc (.cells #[.int .u64 FS4.a, .int .u64 FS4.b, .int .u64 FS4.c, .int .u64 FS4.d] 108) = W2 := ⟨_, rfl⟩
  rw [hW2, hm] at HBx
  rw [hW2] at HS2 ⊢
  rw [hm]
  clear hW2 hm hk2 e0 e2
  clear HS HLt HOf
  have e0 := kp_cell HS2.out.kp c0
  have e2 := kp_cell HS2.out.kp c2
  clear c0 c2 c6 hrb
  have b0 : W2.cell? ⟨n + 1, 0, none⟩ = some (.int .u8 0) := HS2.out.b.at rfl
  have b12 : W2.cell? ⟨n + 1, 12, none⟩ = some (.bool false) := HS2.out.b.at rfl
  have b14 : W2.cell? ⟨n + 1, 14, none⟩ = some (.int .u8 md) := HS2.out.b.at rfl
  have b15 : W2.cell? ⟨n + 1, 15, none⟩ = some (.int .u8 cs) := HS2.out.b.at rfl
  have q0 : W2.cell? ⟨m, 0, none⟩ = some (.int .u64 FS4.a) := HBx.out.at rfl
  have q1 : W2.cell? ⟨m, 1, none⟩ = some (.int .u64 FS4.b) := HBx.out.at rfl
  have q2 : W2.cell? ⟨m, 2, none⟩ = some (.int .u64 FS4.c) := HBx.out.at rfl
  have q3 : W2.cell? ⟨m, 3, none⟩ = some (.int .u64 FS4.d) := HBx.out.at rfl
  clear HBx
  have HI1 : Hid (∀ y, memB modS C = y → ∀ x, Calls Tryz.prog 144 #[.string ⟨#[118, 109, 77, 86]⟩, .int .u8 C] x fun e w' => e = .returned (.bool y) ∧ x = w') := fun y hy x => by rw [← hy]; exact Calls.mono (fin_any modS C (by decide) x) fun e w' h => ⟨h.1, h.2.symm⟩
  have HI2 : Hid (∀ y, memB sgnS C = y → ∀ x, Calls Tryz.prog 144 #[.string ⟨#[94, 36, 46, 42, 91, 126, 43, 61, 63, 123, 40, 41, 124, 60, 62]⟩, .int .u8 C] x fun e w' => e = .returned (.bool y) ∧ x = w') := fun y hy x => by rw [← hy]; exact Calls.mono (fin_any sgnS C (by decide) x) fun e w' h => ⟨h.1, h.2.symm⟩
  have HI3 : Hid (∀ y, memB (plainS md) C = y → ∀ x, Calls Tryz.prog 144 #[.string (plainS md), .int .u8 C] x fun e w' => e = .returned (.bool y) ∧ x = w') := fun y hy x => by rw [← hy]; exact Calls.mono (fin_any (plainS md) C (plain_small md) x) fun e w' h => ⟨h.1, h.2.symm⟩
  have HI4 : Hid (∀ y, isB 119 (C : Int) = y → ∀ x, Calls Tryz.prog 123 #[.int .u8 119, .int .u8 C] x fun e w' => e = .returned (.bool y) ∧ x = w') := fun y hy x => by rw [← hy]; exact Calls.mono (rIs_any 119 C x) fun e w' h => ⟨h.1, h.2.symm⟩
  have HPl : Hid (∀ x, Calls Tryz.prog 145 #[.int .u8 md] x fun e w' => e = .returned (.string (plainS md)) ∧ x = w') := fun x => Calls.mono (fplain_any md x) fun e w' h => ⟨h.1, h.2.symm⟩
  have HFF := HF.out
  unfold slC at HFF
  obtain ⟨PS, hPS⟩ : ∃ PS, plainS md = PS := ⟨_, rfl⟩
  rw [hPS] at HFF HI3 HPl
  clear hPS
  by_cases h1 : memB modS C = true
  · rw [if_pos h1] at HFF
    subst HFF
    have HM1 : Hid _ := HI1.out true h1
    clear HI1 HI2 HI3 HI4 h1
    have HY : Hid (Sl n ({ tk0 A2 md cs with md := C, non := true }) w ((W2.setCell ⟨n + 1, 14, none⟩ (.int .u8 C)).setCell ⟨n + 1, 12, none⟩ (.bool true))) := HS2.out.turn ((fr_set _ _ _ _).trans (fr_set _ _ _ _)) ((HS2.out.b.set 14 _).set 12 _)
    have f14 := HS2.out.b.fz 14
    have f12 := HS2.out.b.fz 12
    go_wp2_with (first | (go_at_call 144; refine Calls.mono (HM1.out _) ?_; rintro e _ ⟨rfl, rfl⟩) | (refine wpList_load_box HY.out.b 0 (({ tk0 A2 md cs with md := C, non := true } : Tk)).cells rfl 197 (.tmp 6) rfl rfl rfl dT hT1 hT2 sizeTk ?_) | (refine wpList_store_box HY.out.a 0 (({ tk0 A2 md cs with md := C, non := true } : Tk)).cells rfl 197 (.tmp 4) (.tmp 175) rfl rfl rfl (Nat.le_refl 16) sizeTk (oneTk _) rfl ?_; intro wz lz fz sz; have HZ : Hid (Lc 197 n (({ tk0 A2 md cs with md := C, non := true } : Tk)).cells wz ∧ Kp w wz) := ⟨lz, HY.out.done fz⟩; clear lz fz sz))
    exact bodyPost_ret (results_box2 rfl rfl HZ.out.1 hT1 hT2 sizeTk) rfl ⟨rfl, HZ.out.2⟩
  rw [if_neg h1] at HFF
  have HM1 : Hid _ := HI1.out false (Bool.eq_false_iff.2 h1)
  clear HI1 h1
  by_cases h2 : C = 99
  · rw [if_pos h2] at HFF
    subst HFF
    have k2 : ((C : Int) == 99) = true := by simp; omega
    clear HI2 HI3 HI4 h2
    have HY : Hid (Sl n ({ tk0 A2 md cs with cs := 1, non := true }) w ((W2.setCell ⟨n + 1, 15, none⟩ (.int .u8 1)).setCell ⟨n + 1, 12, none⟩ (.bool true))) := HS2.out.turn ((fr_set _ _ _ _).trans (fr_set _ _ _ _)) ((HS2.out.b.set 15 _).set 12 _)
    have f15 := HS2.out.b.fz 15
    have f12 := HS2.out.b.fz 12
    go_wp2_with (first | (go_at_call 144; refine Calls.mono (HM1.out _) ?_; rintro e _ ⟨rfl, rfl⟩) | (refine wpList_load_box HY.out.b 0 (({ tk0 A2 md cs with cs := 1, non := true } : Tk)).cells rfl 197 (.tmp 6) rfl rfl rfl dT hT1 hT2 sizeTk ?_) | (refine wpList_store_box HY.out.a 0 (({ tk0 A2 md cs with cs := 1, non := true } : Tk)).cells rfl 197 (.tmp 4) (.tmp 175) rfl rfl rfl (Nat.le_refl 16) sizeTk (oneTk _) rfl ?_; intro wz lz fz sz; have HZ : Hid (Lc 197 n (({ tk0 A2 md cs with cs := 1, non := true } : Tk)).cells wz ∧ Kp w wz) := ⟨lz, HY.out.done fz⟩; clear lz fz sz))
    exact bodyPost_ret (results_box2 rfl rfl HZ.out.1 hT1 hT2 sizeTk) rfl ⟨rfl, HZ.out.2⟩
  rw [if_neg h2] at HFF
  have k2 : ((C : Int) == 99) = false := by simp; omega
  clear h2
  by_cases h3 : C = 67
  · rw [if_pos h3] at HFF
    subst HFF
    have k3 : ((C : Int) == 67) = true := by simp; omega
    clear HI2 HI3 HI4 h3
    have HY : Hid (Sl n ({ tk0 A2 md cs with cs := 2, non := true }) w ((W2.setCell ⟨n + 1, 15, none⟩ (.int .u8 2)).setCell ⟨n + 1, 12, none⟩ (.bool true))) := HS2.out.turn ((fr_set _ _ _ _).trans (fr_set _ _ _ _)) ((HS2.out.b.set 15 _).set 12 _)
    have f15 := HS2.out.b.fz 15
    have f12 := HS2.out.b.fz 12
    go_wp2_with (first | (go_at_call 144; refine Calls.mono (HM1.out _) ?_; rintro e _ ⟨rfl, rfl⟩) | (refine wpList_load_box HY.out.b 0 (({ tk0 A2 md cs with cs := 2, non := true } : Tk)).cells rfl 197 (.tmp 6) rfl rfl rfl dT hT1 hT2 sizeTk ?_) | (refine wpList_store_box HY.out.a 0 (({ tk0 A2 md cs with cs := 2, non := true } : Tk)).cells rfl 197 (.tmp 4) (.tmp 175) rfl rfl rfl (Nat.le_refl 16) sizeTk (oneTk _) rfl ?_; intro wz lz fz sz; have HZ : Hid (Lc 197 n (({ tk0 A2 md cs with cs := 2, non := true } : Tk)).cells wz ∧ Kp w wz) := ⟨lz, HY.out.done fz⟩; clear lz fz sz))
    exact bodyPost_ret (results_box2 rfl rfl HZ.out.1 hT1 hT2 sizeTk) rfl ⟨rfl, HZ.out.2⟩
  rw [if_neg h3] at HFF
  have k3 : ((C : Int) == 67) = false := by simp; omega
  clear h3
  go_upto_region 17 with (go_at_call 144; refine Calls.mono (HM1.out _) ?_; rintro e _ ⟨rfl, rfl⟩)
  clear HM1 k2 k3
  by_cases h4 : memB sgnS C = true
  · rw [if_pos h4] at HFF
    have HM2 : Hid _ := HI2.out true h4
    clear HI2 h4
    go_upto_region 18 with (go_at_call 144; refine Calls.mono (HM2.out _) ?_; rintro e _ ⟨rfl, rfl⟩)
    clear HM2
    by_cases h5 : memB PS C = true
    · rw [if_pos h5] at HFF
      subst HFF
      have HM3 : Hid _ := HI3.out true h5
      clear HI3 HI4 h5
      go_wp2_with (first | (go_at_call 144; refine Calls.mono (HM3.out _) ?_; rintro e _ ⟨rfl, rfl⟩) | (go_at_call 145; refine Calls.mono (HPl.out _) ?_; rintro e _ ⟨rfl, rfl⟩) | (refine wpList_store_box HS2.out.b 1 (Nd.cells ({ op := 2, c := C }) (.slice none 0 0)) rfl 195 (.tmp 81) (.tmp 80) rfl rfl rfl (by exact (by decide : 12 ≤ 16)) sizeNd (oneNd _) (sl_node ({ op := 2, c := C })) ?_; intro wy ly fy sy; have HY : Hid (Sl n { tk0 A2 md cs with nd := { op := 2, c := C } } w wy) := HS2.out.turn fy ly; clear ly fy sy) | (refine wpList_load_box HY.out.b 0 (({ tk0 A2 md cs with nd := { op := 2, c := C } } : Tk)).cells rfl 197 (.tmp 6) rfl rfl rfl dT hT1 hT2 sizeTk ?_) | (refine wpList_store_box HY.out.a 0 (({ tk0 A2 md cs with nd := { op := 2, c := C } } : Tk)).cells rfl 197 (.tmp 4) (.tmp 175) rfl rfl rfl (Nat.le_refl 16) sizeTk (oneTk _) rfl ?_; intro wz lz fz sz; have HZ : Hid (Lc 197 n (({ tk0 A2 md cs with nd := { op := 2, c := C } } : Tk)).cells wz ∧ Kp w wz) := ⟨lz, HY.out.done fz⟩; clear lz fz sz))
      exact bodyPost_ret (results_box2 rfl rfl HZ.out.1 hT1 hT2 sizeTk) rfl ⟨rfl, HZ.out.2⟩
    · rw [if_neg h5] at HFF
      subst HFF
      have HM3 : Hid _ := HI3.out false (Bool.eq_false_iff.2 h5)
      clear HI3 HI4 h5
      have HY : Hid (Sl n ({ tk0 A2 md cs with sg := C }) w (W2.setCell ⟨n + 1, 0, none⟩ (.int .u8 C))) := HS2.out.turn (fr_set _ _ _ _) (HS2.out.b.set 0 _)
      have f0 := HS2.out.b.fz 0
      go_wp2_with (first | (go_at_call 144; refine Calls.mono (HM3.out _) ?_; rintro e _ ⟨rfl, rfl⟩) | (go_at_call 145; refine Calls.mono (HPl.out _) ?_; rintro e _ ⟨rfl, rfl⟩) | (refine wpList_load_box HY.out.b 0 (({ tk0 A2 md cs with sg := C } : Tk)).cells rfl 197 (.tmp 6) rfl rfl rfl dT hT1 hT2 sizeTk ?_) | (refine wpList_store_box HY.out.a 0 (({ tk0 A2 md cs with sg := C } : Tk)).cells rfl 197 (.tmp 4) (.tmp 175) rfl rfl rfl (Nat.le_refl 16) sizeTk (oneTk _) rfl ?_; intro wz lz fz sz; have HZ : Hid (Lc 197 n (({ tk0 A2 md cs with sg := C } : Tk)).cells wz ∧ Kp w wz) := ⟨lz, HY.out.done fz⟩; clear lz fz sz))
      exact bodyPost_ret (results_box2 rfl rfl HZ.out.1 hT1 hT2 sizeTk) rfl ⟨rfl, HZ.out.2⟩
  rw [if_neg h4] at HFF
  have HM2 : Hid _ := HI2.out false (Bool.eq_false_iff.2 h4)
  clear HI2 HI3 h4
  go_upto_region 21 with (go_at_call 144; refine Calls.mono (HM2.out _) ?_; rintro e _ ⟨rfl, rfl⟩)
  clear HM2 HPl
  by_cases h6 : 49 ≤ C ∧ C ≤ 57
  · rw [if_pos h6] at HFF
    have k6 : decide ((49 : Int) ≤ (C : Int)) = true := decide_eq_true (by omega)
    have k7 : decide ((C : Int) ≤ 57) = true := decide_eq_true (by omega)
    obtain ⟨N, hN⟩ : ∃ N, C - 48 = N := ⟨_, rfl⟩
    have k8 : (C : Int) - 48 = (N : Int) := by omega
    have k9 : N ≤ 9 := by omega
    rw [hN] at HFF
    subst HFF
    clear hN HI4 h6
    go_wp2_with (first | (go_at_call 123; refine Calls.mono (HM4.out _) ?_; rintro e _ ⟨rfl, rfl⟩) | (refine wpList_store_box HS2.out.b 1 (Nd.cells ({ op := 9, n := N }) (.slice none 0 0)) rfl 195 (.tmp 95) (.tmp 94) rfl rfl rfl (by exact (by decide : 12 ≤ 16)) sizeNd (oneNd _) (sl_node ({ op := 9, n := N })) ?_; intro wy ly fy sy; have HY : Hid (Sl n { tk0 A2 md cs with nd := { op := 9, n := N } } w wy) := HS2.out.turn fy ly; clear ly fy sy) | (refine wpList_load_box HY.out.b 0 (({ tk0 A2 md cs with nd := { op := 9, n := N } } : Tk)).cells rfl 197 (.tmp 6) rfl rfl rfl dT hT1 hT2 sizeTk ?_) | (refine wpList_store_box HY.out.a 0 (({ tk0 A2 md cs with nd := { op := 9, n := N } } : Tk)).cells rfl 197 (.tmp 4) (.tmp 175) rfl rfl rfl (Nat.le_refl 16) sizeTk (oneTk _) rfl ?_; intro wz lz fz sz; have HZ : Hid (Lc 197 n (({ tk0 A2 md cs with nd := { op := 9, n := N } } : Tk)).cells wz ∧ Kp w wz) := ⟨lz, HY.out.done fz⟩; clear lz fz sz))
    exact bodyPost_ret (results_box2 rfl rfl HZ.out.1 hT1 hT2 sizeTk) rfl ⟨rfl, HZ.out.2⟩
  rw [if_neg h6] at HFF
  have HW : Hid ((decide ((49 : Int) ≤ (C : Int)) = false) ∨ (decide ((49 : Int) ≤ (C : Int)) = true ∧ decide ((C : Int) ≤ 57) = false)) := by
    by_cases hq : 49 ≤ C
    · exact .inr ⟨decide_eq_true (by omega), decide_eq_false (by omega)⟩
    · exact .inl (decide_eq_false (by omega))
  clear h6
  rcases HW.out with k6 | ⟨k6, k5⟩
  all_goals
    clear HW
    rw [HKN.out] at HFF
    cases KN
    case true =>
      rw [if_pos rfl, HFS4.out] at HFF
      subst HFF
      clear HI4
      go_wp2_with (first | (go_at_call 123; refine Calls.mono (HM4.out _) ?_; rintro e _ ⟨rfl, rfl⟩) | (refine wpList_store_box HS2.out.b 1 (Nd.cells ({ op := 4, set := FS4 }) (.slice none 0 0)) rfl 195 (.tmp 100) (.tmp 99) rfl rfl rfl (by exact (by decide : 12 ≤ 16)) sizeNd (oneNd _) (sl_node ({ op := 4, set := FS4 })) ?_; intro wy ly fy sy; have HY : Hid (Sl n { tk0 A2 md cs with nd := { op := 4, set := FS4 } } w wy) := HS2.out.turn fy ly; clear ly fy sy) | (refine wpList_load_box HY.out.b 0 (({ tk0 A2 md cs with nd := { op := 4, set := FS4 } } : Tk)).cells rfl 197 (.tmp 6) rfl rfl rfl dT hT1 hT2 sizeTk ?_) | (refine wpList_store_box HY.out.a 0 (({ tk0 A2 md cs with nd := { op := 4, set := FS4 } } : Tk)).cells rfl 197 (.tmp 4) (.tmp 175) rfl rfl rfl (Nat.le_refl 16) sizeTk (oneTk _) rfl ?_; intro wz lz fz sz; have HZ : Hid (Lc 197 n (({ tk0 A2 md cs with nd := { op := 4, set := FS4 } } : Tk)).cells wz ∧ Kp w wz) := ⟨lz, HY.out.done fz⟩; clear lz fz sz))
      exact bodyPost_ret (results_box2 rfl rfl HZ.out.1 hT1 hT2 sizeTk) rfl ⟨rfl, HZ.out.2⟩
    rw [if_neg (by simp), HL.out] at HFF
    cases LB
    case true =>
      rw [if_pos rfl] at HFF
      subst HFF
      clear HI4
      go_wp2_with (first | (go_at_call 123; refine Calls.mono (HM4.out _) ?_; rintro e _ ⟨rfl, rfl⟩) | (refine wpList_store_box HS2.out.b 1 (Nd.cells ({ op := 2, c := LC }) (.slice none 0 0)) rfl 195 (.tmp 105) (.tmp 104) rfl rfl rfl (by exact (by decide : 12 ≤ 16)) sizeNd (oneNd _) (sl_node ({ op := 2, c := LC })) ?_; intro wy ly fy sy; have HY : Hid (Sl n { tk0 A2 md cs with nd := { op := 2, c := LC } } w wy) := HS2.out.turn fy ly; clear ly fy sy) | (refine wpList_load_box HY.out.b 0 (({ tk0 A2 md cs with nd := { op := 2, c := LC } } : Tk)).cells rfl 197 (.tmp 6) rfl rfl rfl dT hT1 hT2 sizeTk ?_) | (refine wpList_store_box HY.out.a 0 (({ tk0 A2 md cs with nd := { op := 2, c := LC } } : Tk)).cells rfl 197 (.tmp 4) (.tmp 175) rfl rfl rfl (Nat.le_refl 16) sizeTk (oneTk _) rfl ?_; intro wz lz fz sz; have HZ : Hid (Lc 197 n (({ tk0 A2 md cs with nd := { op := 2, c := LC } } : Tk)).cells wz ∧ Kp w wz) := ⟨lz, HY.out.done fz⟩; clear lz fz sz))
      exact bodyPost_ret (results_box2 rfl rfl HZ.out.1 hT1 hT2 sizeTk) rfl ⟨rfl, HZ.out.2⟩
    rw [if_neg (by simp)] at HFF
    by_cases h7 : C = 110
    · rw [if_pos h7] at HFF
      subst HFF
      have k7 : ((C : Int) == 110) = true := by simp; omega
      clear HI4 h7
      go_wp2_with (first | (go_at_call 123; refine Calls.mono (HM4.out _) ?_; rintro e _ ⟨rfl, rfl⟩) | (refine wpList_store_box HS2.out.b 1 (Nd.cells ({ op := 4 }) (.slice none 0 0)) rfl 195 (.tmp 110) (.tmp 109) rfl rfl rfl (by exact (by decide : 12 ≤ 16)) sizeNd (oneNd _) (sl_node ({ op := 4 })) ?_; intro wy ly fy sy; have HY : Hid (Sl n { tk0 A2 md cs with nd := { op := 4 } } w wy) := HS2.out.turn fy ly; clear ly fy sy) | (refine wpList_load_box HY.out.b 0 (({ tk0 A2 md cs with nd := { op := 4 } } : Tk)).cells rfl 197 (.tmp 6) rfl rfl rfl dT hT1 hT2 sizeTk ?_) | (refine wpList_store_box HY.out.a 0 (({ tk0 A2 md cs with nd := { op := 4 } } : Tk)).cells rfl 197 (.tmp 4) (.tmp 175) rfl rfl rfl (Nat.le_refl 16) sizeTk (oneTk _) rfl ?_; intro wz lz fz sz; have HZ : Hid (Lc 197 n (({ tk0 A2 md cs with nd := { op := 4 } } : Tk)).cells wz ∧ Kp w wz) := ⟨lz, HY.out.done fz⟩; clear lz fz sz))
      exact bodyPost_ret (results_box2 rfl rfl HZ.out.1 hT1 hT2 sizeTk) rfl ⟨rfl, HZ.out.2⟩
    rw [if_neg h7] at HFF
    have k7 : ((C : Int) == 110) = false := by simp; omega
    clear h7
    by_cases h8 : C = 122
    · have k8 : ((C : Int) == 122) = true := by simp; omega
      by_cases h9 : A2 < s.size
      · have k9 : decide ((A2 : Int) < (s.size : Int)) = true := decide_eq_true (by omega)
        have k10 : decide (A2 < s.size) = true := decide_eq_true h9
        have hZ2 : (s[A2]).toNat = Z := HZZ.out.1 h9
        by_cases h11 : Z = 115
        · rw [if_pos ⟨h8, h11⟩, hA23] at HFF
          subst HFF
          have k11 : ((Z : Int) == 115) = true := by simp; omega
          clear HI4 h8 h11
          go_wp2_with (first | (go_at_call 123; refine Calls.mono (HM4.out _) ?_; rintro e _ ⟨rfl, rfl⟩) | (refine wpList_store_box HS2.out.b 1 (Nd.cells ({ op := 14 }) (.slice none 0 0)) rfl 195 (.tmp 135) (.tmp 134) rfl rfl rfl (by exact (by decide : 12 ≤ 16)) sizeNd (oneNd _) (sl_node ({ op := 14 })) ?_; intro wy ly fy sy; have HY : Hid (Sl n { tk0 A2 md cs with nd := { op := 14 } } w wy) := HS2.out.turn fy ly; clear ly fy sy; have y13 : wy.cell? ⟨n + 1, 13, none⟩ = some (.int .i64 A2) := HY.out.b.at rfl; have yf := HY.out.b.fz 13; have HX : Hid (Sl n { tk0 A3 md cs with nd := { op := 14 } } w (wy.setCell ⟨n + 1, 13, none⟩ (.int .i64 A3))) := HY.out.turn (fr_set _ _ _ _) (HY.out.b.set 13 _)) | (refine wpList_load_box HX.out.b 0 (({ tk0 A3 md cs with nd := { op := 14 } } : Tk)).cells rfl 197 (.tmp 6) rfl rfl rfl dT hT1 hT2 sizeTk ?_) | (refine wpList_store_box HX.out.a 0 (({ tk0 A3 md cs with nd := { op := 14 } } : Tk)).cells rfl 197 (.tmp 4) (.tmp 175) rfl rfl rfl (Nat.le_refl 16) sizeTk (oneTk _) rfl ?_; intro wz lz fz sz; have HZ : Hid (Lc 197 n (({ tk0 A3 md cs with nd := { op := 14 } } : Tk)).cells wz ∧ Kp w wz) := ⟨lz, HX.out.done fz⟩; clear lz fz sz))
          exact bodyPost_ret (results_box2 rfl rfl HZ.out.1 hT1 hT2 sizeTk) rfl ⟨rfl, HZ.out.2⟩
        rw [if_neg (fun q => h11 q.2)] at HFF
        have k11 : ((Z : Int) == 115) = false := by simp; omega
        by_cases h12 : Z = 101
        · rw [if_pos ⟨h8, h12⟩, hA23] at HFF
          subst HFF
          have k12 : ((Z : Int) == 101) = true := by simp; omega
          clear HI4 h8 h11 h12
          go_wp2_with (first | (go_at_call 123; refine Calls.mono (HM4.out _) ?_; rintro e _ ⟨rfl, rfl⟩) | (refine wpList_store_box HS2.out.b 1 (Nd.cells ({ op := 15 }) (.slice none 0 0)) rfl 195 (.tmp 163) (.tmp 162) rfl rfl rfl (by exact (by decide : 12 ≤ 16)) sizeNd (oneNd _) (sl_node ({ op := 15 })) ?_; intro wy ly fy sy; have HY : Hid (Sl n { tk0 A2 md cs with nd := { op := 15 } } w wy) := HS2.out.turn fy ly; clear ly fy sy; have y13 : wy.cell? ⟨n + 1, 13, none⟩ = some (.int .i64 A2) := HY.out.b.at rfl; have yf := HY.out.b.fz 13; have HX : Hid (Sl n { tk0 A3 md cs with nd := { op := 15 } } w (wy.setCell ⟨n + 1, 13, none⟩ (.int .i64 A3))) := HY.out.turn (fr_set _ _ _ _) (HY.out.b.set 13 _)) | (refine wpList_load_box HX.out.b 0 (({ tk0 A3 md cs with nd := { op := 15 } } : Tk)).cells rfl 197 (.tmp 6) rfl rfl rfl dT hT1 hT2 sizeTk ?_) | (refine wpList_store_box HX.out.a 0 (({ tk0 A3 md cs with nd := { op := 15 } } : Tk)).cells rfl 197 (.tmp 4) (.tmp 175) rfl rfl rfl (Nat.le_refl 16) sizeTk (oneTk _) rfl ?_; intro wz lz fz sz; have HZ : Hid (Lc 197 n (({ tk0 A3 md cs with nd := { op := 15 } } : Tk)).cells wz ∧ Kp w wz) := ⟨lz, HX.out.done fz⟩; clear lz fz sz))
          exact bodyPost_ret (results_box2 rfl rfl HZ.out.1 hT1 hT2 sizeTk) rfl ⟨rfl, HZ.out.2⟩
        rw [if_neg (fun q => h12 q.2)] at HFF
        have k12 : ((Z : Int) == 101) = false := by simp; omega
        have hw : isB 119 (C : Int) = true := by rw [h8]; decide
        have k13 : ((C : Int) == 95) = false := by simp; omega
        rw [if_pos ⟨hw, by omega⟩] at HFF
        subst HFF
        have HM4 : Hid _ := HI4.out true hw
        clear HI4 h8 h11 h12 hw
        go_wp2_with (first | (go_at_call 123; refine Calls.mono (HM4.out _) ?_; rintro e _ ⟨rfl, rfl⟩) | (refine wpList_load_box HS2.out.b 0 ((tk0 A2 md cs : Tk)).cells rfl 197 (.tmp 6) rfl rfl rfl dT hT1 hT2 sizeTk ?_) | (refine wpList_store_box HS2.out.a 0 ((tk0 A2 md cs : Tk)).cells rfl 197 (.tmp 4) (.tmp 174) rfl rfl rfl (Nat.le_refl 16) sizeTk (oneTk _) rfl ?_; intro wz lz fz sz; have HZ : Hid (Lc 197 n ((tk0 A2 md cs : Tk)).cells wz ∧ Kp w wz) := ⟨lz, HS2.out.done fz⟩; clear lz fz sz))
        exact bodyPost_ret (results_box2 rfl rfl HZ.out.1 hT1 hT2 sizeTk) rfl ⟨rfl, HZ.out.2⟩
      · have k9 : decide ((A2 : Int) < (s.size : Int)) = false := decide_eq_false (by omega)
        have k10 : decide (A2 < s.size) = false := decide_eq_false h9
        have hZ2 : Z = 0 := HZZ.out.2 h9
        rw [if_neg (fun q => by omega), if_neg (fun q => by omega)] at HFF
        have hw : isB 119 (C : Int) = true := by rw [h8]; decide
        have k13 : ((C : Int) == 95) = false := by simp; omega
        rw [if_pos ⟨hw, by omega⟩] at HFF
        subst HFF
        have HM4 : Hid _ := HI4.out true hw
        clear HI4 h8 h9 hZ2 hw
        go_wp2_with (first | (go_at_call 123; refine Calls.mono (HM4.out _) ?_; rintro e _ ⟨rfl, rfl⟩) | (refine wpList_load_box HS2.out.b 0 ((tk0 A2 md cs : Tk)).cells rfl 197 (.tmp 6) rfl rfl rfl dT hT1 hT2 sizeTk ?_) | (refine wpList_store_box HS2.out.a 0 ((tk0 A2 md cs : Tk)).cells rfl 197 (.tmp 4) (.tmp 174) rfl rfl rfl (Nat.le_refl 16) sizeTk (oneTk _) rfl ?_; intro wz lz fz sz; have HZ : Hid (Lc 197 n ((tk0 A2 md cs : Tk)).cells wz ∧ Kp w wz) := ⟨lz, HS2.out.done fz⟩; clear lz fz sz))
        exact bodyPost_ret (results_box2 rfl rfl HZ.out.1 hT1 hT2 sizeTk) rfl ⟨rfl, HZ.out.2⟩
    · have k8 : ((C : Int) == 122) = false := by simp; omega
      rw [if_neg (fun q => h8 q.1), if_neg (fun q => h8 q.1)] at HFF
      clear h8
      by_cases hw : isB 119 (C : Int) = true
      · have HM4 : Hid _ := HI4.out true hw
        clear HI4
        by_cases h13 : C = 95
        · rw [if_neg (fun q => q.2 h13)] at HFF
          subst HFF
          have k13 : ((C : Int) == 95) = true := by simp; omega
          clear h13 hw
          go_wp2_with (first | (go_at_call 123; refine Calls.mono (HM4.out _) ?_; rintro e _ ⟨rfl, rfl⟩) | (refine wpList_store_box HS2.out.b 1 (Nd.cells ({ op := 2, c := C }) (.slice none 0 0)) rfl 195 (.tmp 52) (.tmp 51) rfl rfl rfl (by exact (by decide : 12 ≤ 16)) sizeNd (oneNd _) (sl_node ({ op := 2, c := C })) ?_; intro wy ly fy sy; have HY : Hid (Sl n { tk0 A2 md cs with nd := { op := 2, c := C } } w wy) := HS2.out.turn fy ly; clear ly fy sy) | (refine wpList_load_box HY.out.b 0 (({ tk0 A2 md cs with nd := { op := 2, c := C } } : Tk)).cells rfl 197 (.tmp 6) rfl rfl rfl dT hT1 hT2 sizeTk ?_) | (refine wpList_store_box HY.out.a 0 (({ tk0 A2 md cs with nd := { op := 2, c := C } } : Tk)).cells rfl 197 (.tmp 4) (.tmp 175) rfl rfl rfl (Nat.le_refl 16) sizeTk (oneTk _) rfl ?_; intro wz lz fz sz; have HZ : Hid (Lc 197 n (({ tk0 A2 md cs with nd := { op := 2, c := C } } : Tk)).cells wz ∧ Kp w wz) := ⟨lz, HY.out.done fz⟩; clear lz fz sz))
          exact bodyPost_ret (results_box2 rfl rfl HZ.out.1 hT1 hT2 sizeTk) rfl ⟨rfl, HZ.out.2⟩
        · rw [if_pos ⟨hw, h13⟩] at HFF
          subst HFF
          have k13 : ((C : Int) == 95) = false := by simp; omega
          clear h13 hw
          go_wp2_with (first | (go_at_call 123; refine Calls.mono (HM4.out _) ?_; rintro e _ ⟨rfl, rfl⟩) | (refine wpList_load_box HS2.out.b 0 ((tk0 A2 md cs : Tk)).cells rfl 197 (.tmp 6) rfl rfl rfl dT hT1 hT2 sizeTk ?_) | (refine wpList_store_box HS2.out.a 0 ((tk0 A2 md cs : Tk)).cells rfl 197 (.tmp 4) (.tmp 174) rfl rfl rfl (Nat.le_refl 16) sizeTk (oneTk _) rfl ?_; intro wz lz fz sz; have HZ : Hid (Lc 197 n ((tk0 A2 md cs : Tk)).cells wz ∧ Kp w wz) := ⟨lz, HS2.out.done fz⟩; clear lz fz sz))
          exact bodyPost_ret (results_box2 rfl rfl HZ.out.1 hT1 hT2 sizeTk) rfl ⟨rfl, HZ.out.2⟩
      · rw [if_neg (fun q => hw q.1)] at HFF
        subst HFF
        have HM4 : Hid _ := HI4.out false (Bool.eq_false_iff.2 hw)
        clear HI4 hw
        go_wp2_with (first | (go_at_call 123; refine Calls.mono (HM4.out _) ?_; rintro e _ ⟨rfl, rfl⟩) | (refine wpList_store_box HS2.out.b 1 (Nd.cells ({ op := 2, c := C }) (.slice none 0 0)) rfl 195 (.tmp 52) (.tmp 51) rfl rfl rfl (by exact (by decide : 12 ≤ 16)) sizeNd (oneNd _) (sl_node ({ op := 2, c := C })) ?_; intro wy ly fy sy; have HY : Hid (Sl n { tk0 A2 md cs with nd := { op := 2, c := C } } w wy) := HS2.out.turn fy ly; clear ly fy sy) | (refine wpList_load_box HY.out.b 0 (({ tk0 A2 md cs with nd := { op := 2, c := C } } : Tk)).cells rfl 197 (.tmp 6) rfl rfl rfl dT hT1 hT2 sizeTk ?_) | (refine wpList_store_box HY.out.a 0 (({ tk0 A2 md cs with nd := { op := 2, c := C } } : Tk)).cells rfl 197 (.tmp 4) (.tmp 175) rfl rfl rfl (Nat.le_refl 16) sizeTk (oneTk _) rfl ?_; intro wz lz fz sz; have HZ : Hid (Lc 197 n (({ tk0 A2 md cs with nd := { op := 2, c := C } } : Tk)).cells wz ∧ Kp w wz) := ⟨lz, HY.out.done fz⟩; clear lz fz sz))
        exact bodyPost_ret (results_box2 rfl rfl HZ.out.1 hT1 hT2 sizeTk) rfl ⟨rfl, HZ.out.2⟩

theorem slash_any (c0 : w.cell? ⟨rb, 0, none⟩ = some (.string s)) (c2 : w.cell? ⟨rb, 2, none⟩ = some (.int .u8 md)) (c6 : w.cell? ⟨rb, 6, none⟩ = some (.int .u8 cs)) (hrb : rb < w.heap.size) (hs : s.size ≤ 400) (ha : at_ ≤ 1000) :
    Calls Tryz.prog 143 #[.pointer (some ⟨rb, 0, none⟩), .int .i64 at_] w fun e w' => e = .returned (.tuple #[(slashF s md cs at_).1.val, .bool (slashF s md cs at_).2]) ∧ Kp w w' := by
  by_cases h : s.size ≤ at_ + 1
  · rw [show slashF s md cs at_ = (tk0 (at_ + 2) md cs, false) from if_pos h]; exact slash_end c0 c2 c6 hrb hs ha h
  · rw [show slashF s md cs at_ = slC md cs (at_ + 2) (byteAt s (at_ + 1)) (byteAt s (at_ + 2)) from if_neg h]; exact slash_more c0 c2 c6 hrb hs ha (by omega) _ rfl

end
end Go.Proofs.YtalmajiflmejcaaGreat
/- The document's reader: token. -/
namespace Go.Proofs.YtalmajiflmejcaaGreat
open Go.ChangeShapes Go.WideShapes Go.ChangeAt Go.RowKit
set_option linter.unusedVariables false
set_option linter.unusedSimpArgs false
section
variable {rb : Nat} {s : ByteArray} {md cs at_ : Nat} {w : World}
theorem kp_on1 {w w1 w2 : World} {n : Nat} (k : Kp w w1) (f : Fr (On n) w1 w2) (hn : w.heap.size ≤ n) : Kp w w2 :=
  ⟨f.os.trans k.os, f.tape.trans k.tape, f.output.trans k.output, Nat.le_trans k.size f.size, fun j hj => by
    rw [f.block j (Nat.lt_of_lt_of_le hj k.size) (by unfold On; omega)]; exact k.block j hj⟩
set_option maxHeartbeats 4000000 in
set_option maxRecDepth 100000 in
theorem token_slash (c0 : w.cell? ⟨rb, 0, none⟩ = some (.string s)) (c2 : w.cell? ⟨rb, 2, none⟩ = some (.int .u8 md)) (c6 : w.cell? ⟨rb, 6, none⟩ = some (.int .u8 cs)) (hrb : rb < w.heap.size) (hs : s.size ≤ 400) (ha : at_ < s.size) (h9 : byteAt s at_ = 92) :
    Calls Tryz.prog 113 #[.pointer (some ⟨rb, 0, none⟩), .int .i64 at_] w fun e w' => e = .returned (.tuple #[(slashF s md cs at_).1.val, .bool (slashF s md cs at_).2]) ∧ Kp w w' := by
  have h1 : (s[at_]).toNat = 92 := by rw [← byteAt_eq s at_ ha]; exact h9
  obtain ⟨dT, hT1, hT2⟩ := rowTk
  obtain ⟨⟨t, b⟩, hF⟩ : ∃ F, slashF s md cs at_ = F := ⟨_, rfl⟩
  have HS : Hid (Lc 197 w.heap.size (tk0 0 0 0).cells (w.alloc (.cells (tk0 0 0 0).cells.toArray 197)) ∧ Kp w (w.alloc (.cells (tk0 0 0 0).cells.toArray 197))) := ⟨Lc.new w _ _, kp_alloc _ _⟩
  have HC : Hid (Calls Tryz.prog 143 #[.pointer (some ⟨rb, 0, none⟩), .int .i64 at_] (w.alloc (.cells (tk0 0 0 0).cells.toArray 197)) fun e w' => e = .returned (.tuple #[.agg t.cells.toArray, .bool b]) ∧ Kp (w.alloc (.cells (tk0 0 0 0).cells.toArray 197)) w') := by
    have := slash_any (kp_cell HS.out.2 c0) (kp_cell HS.out.2 c2) (kp_cell HS.out.2 c6) (by rw [alloc_size]; omega) hs (by omega) (at_ := at_)
    rw [hF] at this
    exact this
  rw [hF]
  have e0 := kp_cell HS.out.2 c0
  obtain ⟨W1, hW1⟩ : ∃ W1, w.alloc (.cells (tk0 0 0 0).cells.toArray 197) = W1 := ⟨_, rfl⟩
  clear h9 hF
  go_enter Tryz.func113, Tryz.ntmps113
  go_upto_region 1 with fail
  change Code.wp _ _ _ _ (w.alloc (.cells (tk0 0 0 0).cells.toArray 197))
  rw [hW1] at HS HC e0 ⊢
  clear hW1
  go_wp2_with (first | (go_at_call 143; refine Calls.mono HC.out ?_; rintro e w2 ⟨rfl, k2⟩; have H2 : Hid (Lc 197 w.heap.size (tk0 0 0 0).cells w2 ∧ Kp w w2) := ⟨HS.out.1.kp k2, kp_trans HS.out.2 k2⟩; clear k2) | (refine wpList_store_box H2.out.1 0 t.cells rfl 197 (.tmp 4) (.tmp 19) rfl rfl rfl (Nat.le_refl 16) sizeTk (oneTk _) rfl ?_; intro wz lz fz sz; have HZ : Hid (Lc 197 w.heap.size t.cells wz ∧ Kp w wz) := ⟨lz, kp_on1 H2.out.2 fz (Nat.le_refl _)⟩; clear lz fz sz))
  exact bodyPost_ret (results_box2 rfl rfl HZ.out.1 hT1 hT2 sizeTk) rfl ⟨rfl, HZ.out.2⟩
set_option maxHeartbeats 4000000 in
set_option maxRecDepth 100000 in
theorem token_plain (c0 : w.cell? ⟨rb, 0, none⟩ = some (.string s)) (c2 : w.cell? ⟨rb, 2, none⟩ = some (.int .u8 md)) (c6 : w.cell? ⟨rb, 6, none⟩ = some (.int .u8 cs)) (hrb : rb < w.heap.size) (hs : s.size ≤ 400) (ha : at_ < s.size) (h9 : ¬ byteAt s at_ = 92) (t : Tk)
    (ht : (if memB (plainS md) (byteAt s at_) then { tk0 (at_ + 1) md cs with sg := byteAt s at_ } else { tk0 (at_ + 1) md cs with nd := { op := 2, c := byteAt s at_ } } : Tk) = t) :
    Calls Tryz.prog 113 #[.pointer (some ⟨rb, 0, none⟩), .int .i64 at_] w fun e w' => e = .returned (.tuple #[t.val, .bool true]) ∧ Kp w w' := by
  obtain ⟨C, hC⟩ : ∃ C, (s[at_]).toNat = C := ⟨_, rfl⟩
  rw [byteAt_eq s at_ ha, hC] at h9 ht
  obtain ⟨dT, hT1, hT2⟩ := rowTk
  obtain ⟨A1, hA1⟩ : ∃ A1, at_ + 1 = A1 := ⟨_, rfl⟩
  have i1 : (at_ : Int) + 1 = (A1 : Int) := by omega
  rw [hA1] at ht
  have l1 : A1 ≤ 401 := by omega
  have k9 : ((C : Int) == 92) = false := by simp; omega
  obtain ⟨PS, hPS⟩ : ∃ PS, plainS md = PS := ⟨_, rfl⟩
  have HPl : Hid (∀ x, Calls Tryz.prog 145 #[.int .u8 md] x fun e w' => e = .returned (.string PS) ∧ x = w') := fun x => by have := fplain_any md x; rw [hPS] at this; exact this.mono fun e w' h => ⟨h.1, h.2.symm⟩
  obtain ⟨M, hM⟩ : ∃ M, memB PS C = M := ⟨_, rfl⟩
  have HIn : Hid (∀ x, Calls Tryz.prog 144 #[.string PS, .int .u8 C] x fun e w' => e = .returned (.bool M) ∧ x = w') := fun x => by have := fin_any PS C (by rw [← hPS]; exact plain_small md) x; rw [hM] at this; exact this.mono fun e w' h => ⟨h.1, h.2.symm⟩
  rw [hPS, hM] at ht
  have HS : Hid _ := sl_new (tk0 A1 md cs) w
  clear h9 hPS hM hA1
  go_enter Tryz.func113, Tryz.ntmps113
  go_upto_region 4 with fail
  go_region
  change Exit.then _ _ _ _ (((w.alloc (.cells (tk0 0 0 0).cells.toArray 197)).alloc (.cells (tk0 A1 md cs).cells.toArray 197)).drew)
  obtain ⟨W1, hW1⟩ : ∃ W1, ((w.alloc (.cells (tk0 0 0 0).cells.toArray 197)).alloc (.cells (tk0 A1 md cs).cells.toArray 197)).drew = W1 := ⟨_, rfl⟩
  rw [hW1] at HS ⊢
  have e2 := kp_cell HS.out.kp c2
  obtain ⟨n, hn⟩ : ∃ n, w.heap.size = n := ⟨_, rfl⟩
  rw [hn] at HS ⊢
  clear hW1 c0 c2 c6 hrb
  have b0 : W1.cell? ⟨n + 1, 0, none⟩ = some (.int .u8 0) := HS.out.b.at rfl
  have f0 := HS.out.b.fz 0
  cases M
  · have htf : ({ tk0 A1 md cs with nd := { op := 2, c := C } } : Tk) = t := ht
    subst htf
    clear ht
    go_wp2_with (first | (go_at_call 145; refine Calls.mono (HPl.out _) ?_; rintro e _ ⟨rfl, rfl⟩) | (go_at_call 144; refine Calls.mono (HIn.out _) ?_; rintro e _ ⟨rfl, rfl⟩) | (refine wpList_store_box HS.out.b 1 (Nd.cells { op := 2, c := C } (.slice none 0 0)) rfl 195 (.tmp 44) (.tmp 43) rfl rfl rfl (by exact (by decide : 12 ≤ 16)) sizeNd (oneNd _) (sl_node { op := 2, c := C }) ?_; intro wy ly fy sy; have HY : Hid (Sl n { tk0 A1 md cs with nd := { op := 2, c := C } } w wy) := HS.out.turn fy ly; clear ly fy sy) | (refine wpList_load_box HY.out.b 0 ({ tk0 A1 md cs with nd := { op := 2, c := C } } : Tk).cells rfl 197 (.tmp 7) rfl rfl rfl dT hT1 hT2 sizeTk ?_) | (refine wpList_store_box HY.out.a 0 ({ tk0 A1 md cs with nd := { op := 2, c := C } } : Tk).cells rfl 197 (.tmp 4) (.tmp 45) rfl rfl rfl (Nat.le_refl 16) sizeTk (oneTk _) rfl ?_; intro wz lz fz sz; have HZ : Hid (Lc 197 n ({ tk0 A1 md cs with nd := { op := 2, c := C } } : Tk).cells wz ∧ Kp w wz) := ⟨lz, HY.out.done fz⟩; clear lz fz sz))
    exact bodyPost_ret (results_box2 rfl rfl HZ.out.1 hT1 hT2 sizeTk) rfl ⟨rfl, HZ.out.2⟩
  · have htf : ({ tk0 A1 md cs with sg := C } : Tk) = t := ht
    subst htf
    clear ht
    have HY : Hid (Sl n ({ tk0 A1 md cs with sg := C }) w (W1.setCell ⟨n + 1, 0, none⟩ (.int .u8 C))) := HS.out.turn (fr_set _ _ _ _) (HS.out.b.set 0 _)
    go_wp2_with (first | (go_at_call 145; refine Calls.mono (HPl.out _) ?_; rintro e _ ⟨rfl, rfl⟩) | (go_at_call 144; refine Calls.mono (HIn.out _) ?_; rintro e _ ⟨rfl, rfl⟩) | (refine wpList_load_box HY.out.b 0 ({ tk0 A1 md cs with sg := C } : Tk).cells rfl 197 (.tmp 7) rfl rfl rfl dT hT1 hT2 sizeTk ?_) | (refine wpList_store_box HY.out.a 0 ({ tk0 A1 md cs with sg := C } : Tk).cells rfl 197 (.tmp 4) (.tmp 45) rfl rfl rfl (Nat.le_refl 16) sizeTk (oneTk _) rfl ?_; intro wz lz fz sz; have HZ : Hid (Lc 197 n ({ tk0 A1 md cs with sg := C } : Tk).cells wz ∧ Kp w wz) := ⟨lz, HY.out.done fz⟩; clear lz fz sz))
    exact bodyPost_ret (results_box2 rfl rfl HZ.out.1 hT1 hT2 sizeTk) rfl ⟨rfl, HZ.out.2⟩
theorem token_any (c0 : w.cell? ⟨rb, 0, none⟩ = some (.string s)) (c2 : w.cell? ⟨rb, 2, none⟩ = some (.int .u8 md)) (c6 : w.cell? ⟨rb, 6, none⟩ = some (.int .u8 cs)) (hrb : rb < w.heap.size) (hs : s.size ≤ 400) (ha : at_ < s.size) :
    Calls Tryz.prog 113 #[.pointer (some ⟨rb, 0, none⟩), .int .i64 at_] w fun e w' => e = .returned (.tuple #[(tkF s md cs at_).1.val, .bool (tkF s md cs at_).2]) ∧ Kp w w' := by
  unfold tkF
  by_cases h : byteAt s at_ = 92
  · rw [if_pos h]; exact token_slash c0 c2 c6 hrb hs ha h
  · rw [if_neg h]
    have := token_plain c0 c2 c6 hrb hs ha h _ rfl
    by_cases hm : memB (plainS md) (byteAt s at_) = true
    · rw [if_pos hm] at this ⊢; exact this
    · rw [if_neg hm] at this ⊢; exact this
end
end Go.Proofs.YtalmajiflmejcaaGreat
/- The document's reader: ends. -/
namespace Go.Proofs.YtalmajiflmejcaaGreat
open Go.ChangeShapes Go.WideShapes Go.ChangeAt Go.RowKit
set_option linter.unusedVariables false
set_option linter.unusedSimpArgs false
theorem rowFR : ∃ d, Tryz.prog.underlying 167 = some d ∧ d.isRow = true := ⟨_, Tryz.underlying167, rfl⟩
theorem sizeFR : (Tryz.prog.info? 167).map (·.size) = some 21 := by kernel_rfl
/-- Where the reader is, as memory has it. -/
def kAt (rb : Nat) (w : World) : Nat := match w.cell? ⟨rb, 1, none⟩ with | some (.int _ n) => n.toNat | _ => 0
section
variable {B rb : Nat} {s last : ByteArray} {r : FS} {vn : Qv} {w w1 : World}
theorem Fq.kAt (h : Fq B rb s last r vn w) : kAt rb w = r.k := by unfold Go.Proofs.YtalmajiflmejcaaGreat.kAt; rw [h.c1]; rfl
theorem fcells_len (h : r.dn.length = 10) (v : Value) : (fcells s last r v).length = 21 := by simp [fcells, h]
theorem sets_get : ∀ (cs pre l : List Value), l.length = cs.length → sets (pre ++ l) pre.length cs = pre ++ cs
  | [], pre, l, h => by simp only [List.length_nil, List.length_eq_zero_iff] at h; subst h; simp [sets]
  | c :: cs, pre, x :: l, h => by
    rw [sets]
    have := sets_get cs (pre ++ [c]) l (by simpa using h)
    simpa using this
theorem sets_all {l cs : List Value} (h : l.length = cs.length) : sets l 0 cs = cs := sets_get cs [] l h
theorem oneF (s last : ByteArray) (r : FS) {v : Value} (hv : v.oneCell' = true) : ∀ u ∈ fcells s last r v, u.oneCell' = true := by
  intro u hu
  unfold fcells at hu
  simp only [List.mem_append, List.mem_cons, List.not_mem_nil, or_false, List.mem_map] at hu
  rcases hu with ((rfl | rfl | rfl | rfl | rfl | rfl | rfl) | ⟨b, _, rfl⟩) | rfl | rfl | rfl | rfl
  all_goals first | rfl | exact hv
def zeroFR : List Value := [.string ⟨#[]⟩, .int .i64 0, .int .u8 0, .slice none 0 0, .int .i64 0, .int .i64 0, .int .u8 0, .bool false, .bool false, .bool false, .bool false, .bool false, .bool false, .bool false, .bool false, .bool false, .bool false, .int .i64 0, .int .i64 0, .int .i64 0, .string ⟨#[]⟩]
/-- What ends has under way. -/
structure En (B rb n : Nat) (s last : ByteArray) (r : FS) (vn : Qv) (w : World) (k md : Nat) (x : World) : Prop where
  eq : w.heap.size = n
  rr : Fq B rb s last { r with k := k, md := md } vn x
  fr : Fr (On rb) w x
  old : Lc 167 n (fcells s last r vn.v) x
theorem En.kp {n k md : Nat} {x y : World} (h : En B rb n s last r vn w k md x) (q : Kp x y) : En B rb n s last r vn w k md y :=
  ⟨h.eq, h.rr.kp q, h.fr.trans (Fr.of_below q), h.old.kp q⟩
theorem En.on {n k md k2 md2 : Nat} {x y : World} (h : En B rb n s last r vn w k md x) (f : Fr (On rb) x y) (hr : Fq B rb s last { r with k := k2, md := md2 } vn y) (hn : n ≠ rb) : En B rb n s last r vn w k2 md2 y :=
  ⟨h.eq, hr, h.fr.trans f, h.old.fr f (by unfold On; exact hn)⟩
/-- Memory that neither the reader nor the copy has has turned. -/
theorem En.elsewhere {n m k md : Nat} {x y : World} (h : En B rb n s last r vn w k md x) (f : Fr (On m) x y) (hr : m ≠ rb) (hn : m ≠ n) (hm : w.heap.size ≤ m) (ho : vn.ownBlock ≠ some m ∧ ¬ vn.kb m) : En B rb n s last r vn w k md y :=
  ⟨h.eq, h.rr.off (P := On m) (fun j hj => by unfold On at hj; subst hj; exact ⟨⟨hr, ho.1⟩, ho.2⟩) f, h.fr.trans' f fun j hj q => by unfold On at q; omega, h.old.fr f (by unfold On; exact Ne.symm hn)⟩
/-- The reader is set back. -/
theorem En.back {n k md : Nat} {x : World} (h : En B rb n s last r vn w k md x) (h0 : Fq B rb s last r vn w) : Kp w ((x.setCell ⟨rb, 1, none⟩ (.int .i64 r.k)).setCell ⟨rb, 2, none⟩ (.int .u8 r.md)) := by
  have f := (h.fr.trans (fr_set rb 1 (.int .i64 r.k) x)).trans (fr_set rb 2 (.int .u8 r.md) _)
  have hb := ((h.rr.setK r.k).setMd r.md).blk
  refine ⟨f.os, f.tape, f.output, f.size, fun j hj => ?_⟩
  by_cases e : j = rb
  · subst e; rw [hb, h0.blk]
  · exact f.block j hj (by unfold On; exact e)
theorem tk0_nx (nx md cs : Nat) : (tk0 nx md cs).nx = nx := rfl
theorem slC_next (md cs nx c z : Nat) : nx ≤ (slC md cs nx c z).1.nx ∧ (slC md cs nx c z).1.nx ≤ nx + 1 := by
  unfold slC
  by_cases h0 : memB modS c = true
  · rw [if_pos h0]; exact ⟨Nat.le_refl _, Nat.le_succ _⟩
  rw [if_neg h0]
  by_cases h1 : c = 99
  · rw [if_pos h1]; exact ⟨Nat.le_refl _, Nat.le_succ _⟩
  rw [if_neg h1]
  by_cases h2 : c = 67
  · rw [if_pos h2]; exact ⟨Nat.le_refl _, Nat.le_succ _⟩
  rw [if_neg h2]
  by_cases h3 : memB sgnS c = true
  · rw [if_pos h3]
    by_cases q : memB (plainS md) c = true
    · rw [if_pos q]; exact ⟨Nat.le_refl _, Nat.le_succ _⟩
    · rw [if_neg q]; exact ⟨Nat.le_refl _, Nat.le_succ _⟩
  rw [if_neg h3]
  by_cases h4 : 49 ≤ c ∧ c ≤ 57
  · rw [if_pos h4]; exact ⟨Nat.le_refl _, Nat.le_succ _⟩
  rw [if_neg h4]
  by_cases h5 : knB (smI c) = true
  · rw [if_pos h5]; exact ⟨Nat.le_refl _, Nat.le_succ _⟩
  rw [if_neg h5]
  by_cases h6 : (letrF c).2 = true
  · rw [if_pos h6]; exact ⟨Nat.le_refl _, Nat.le_succ _⟩
  rw [if_neg h6]
  by_cases h7 : c = 110
  · rw [if_pos h7]; exact ⟨Nat.le_refl _, Nat.le_succ _⟩
  rw [if_neg h7]
  by_cases h8 : c = 122 ∧ z = 115
  · rw [if_pos h8]; exact ⟨Nat.le_succ _, Nat.le_refl _⟩
  rw [if_neg h8]
  by_cases h9 : c = 122 ∧ z = 101
  · rw [if_pos h9]; exact ⟨Nat.le_succ _, Nat.le_refl _⟩
  rw [if_neg h9]
  by_cases h10 : isB 119 c = true ∧ c ≠ 95
  · rw [if_pos h10]; exact ⟨Nat.le_refl _, Nat.le_succ _⟩
  rw [if_neg h10]
  exact ⟨Nat.le_refl _, Nat.le_succ _⟩
theorem tkF_next (s : ByteArray) (md cs k : Nat) : k < (tkF s md cs k).1.nx ∧ (tkF s md cs k).1.nx ≤ k + 3 := by
  unfold tkF slashF
  split
  · split
    · simp [tk0]
    · have := slC_next md cs (k + 2) (byteAt s (k + 1)) (byteAt s (k + 2)); omega
  · split <;> simp [tk0]
set_option maxHeartbeats 4000000 in
set_option maxRecDepth 100000 in
theorem ends_any (h : Fq B rb s last r vn w) (hs : s.size ≤ 400) {nx : Nat} (hx : nx ≤ 1000) (y : Bool) (hy : endL s r.cs (s.size + 1) nx r.md = y) :
    Calls Tryz.prog 164 #[.pointer (some ⟨rb, 0, none⟩), .int .i64 nx] w fun e w' => e = .returned (.bool y) ∧ Kp w w' := by
  obtain ⟨dT, hT1, hT2⟩ := rowTk
  obtain ⟨dF, hF1, hF2⟩ := rowFR
  obtain ⟨va, vc, hv⟩ : ∃ va vc, vn.v = .slice va r.nds.length vc := by
    obtain ⟨ns, h⟩ := h
    obtain ⟨va, vc, e, _, _⟩ := owns_form h.row
    exact ⟨va, vc, by rw [e, h.len]⟩
  have hone : vn.v.oneCell' = true := by rw [hv]; rfl
  have hlen := fcells_len (s := s) (last := last) h.ten vn.v
  have hrb := h.lt
  have HB : Hid (Lc 167 rb (fcells s last r vn.v) w) := h.blk
  have HZ0 : Hid (Lc 167 w.heap.size zeroFR (w.alloc (.cells zeroFR.toArray 167))) := Lc.new _ _ _
  have H0 : Hid (Fq B rb s last r vn w ∧ endL s r.cs (s.size + 1) nx r.md = y ∧ (Tryz.prog.info? 167).map (·.size) = some (fcells s last r vn.v).length ∧ ((fcells s last r vn.v).drop 0).take (fcells s last r vn.v).length = fcells s last r vn.v ∧ 0 + (fcells s last r vn.v).length ≤ zeroFR.length ∧ (∀ u ∈ fcells s last r vn.v, u.oneCell' = true) ∧ sets zeroFR 0 (fcells s last r vn.v) = fcells s last r vn.v) :=
    ⟨h, hy, by rw [hlen]; exact sizeFR, by simp, by rw [hlen]; exact Nat.le_refl 21, oneF s last r hone, sets_all (by rw [hlen]; rfl)⟩
  clear h hy hone hlen hv
  go_enter Tryz.func164, Tryz.ntmps164
  go_upto_region 2 with (first | (refine wpList_load_box HB.out 0 (fcells s last r vn.v) rfl 167 (.tmp 10) rfl rfl H0.out.2.2.2.1 dF hF1 hF2 H0.out.2.2.1 ?_) | (refine wpList_store_box HZ0.out 0 (fcells s last r vn.v) rfl 167 (.tmp 5) (.tmp 11) rfl rfl rfl H0.out.2.2.2.2.1 H0.out.2.2.1 H0.out.2.2.2.2.2.1 H0.out.2.2.2.2.2.2 ?_; intro wz lz fz sz; have HZ : Hid (Lc 167 w.heap.size (fcells s last r vn.v) wz ∧ Kp w wz) := ⟨lz, kp_on1 (kp_alloc w _) fz (Nat.le_refl _)⟩; clear lz fz sz))
  have HE : Hid (En B rb w.heap.size s last r vn w nx r.md (wz.setCell ⟨rb, 1, none⟩ (.int .i64 nx)) ∧ w.heap.size ≠ rb) := by
    have hq := H0.out.1.kp HZ.out.2
    exact ⟨⟨rfl, hq.setK nx, (Fr.of_below HZ.out.2).trans (fr_set _ _ _ _), HZ.out.1.other (Nat.ne_of_lt hrb)⟩, Nat.ne_of_gt hrb⟩
  have c1 : wz.cell? ⟨rb, 1, none⟩ = some (.int .i64 r.k) := (H0.out.1.kp HZ.out.2).c1
  have f1 := (H0.out.1.kp HZ.out.2).fz 1
  obtain ⟨n, hn⟩ : ∃ n, w.heap.size = n := ⟨_, rfl⟩
  rw [hn] at HE ⊢
  clear HB HZ0 hn HZ
  go_wp2_with fail
  clear c1 f1
  go_loopw [6] (fun v6 wr => ∃ (f k md : Nat), v6 = .bool false ∧ s.size < f + k ∧ k ≤ 1000 ∧ endL s r.cs f k md = y ∧ En B rb n s last r vn w k md wr) (fun _ wr => s.size - kAt rb wr)
  case atStart => exact ⟨s.size + 1, nx, r.md, rfl, by omega, hx, H0.out.2.1, HE.out.1⟩
  case round =>
    obtain ⟨f, k, md, rfl, g1, g2, g3, g4⟩ := hrel
    have HA : Hid (kAt rb wr = k) := g4.rr.kAt
    have H1 : Hid (En B rb n s last r vn w k md wr.drew) := g4.kp (kp_drew _)
    have c0 : wr.cell? ⟨rb, 0, none⟩ = some (.string s) := g4.rr.c0
    have c1 : wr.cell? ⟨rb, 1, none⟩ = some (.int .i64 k) := g4.rr.c1
    clear g4
    have kk : decide ((s.size : Int) ≤ (k : Int)) = decide (s.size ≤ k) := by rw [decide_eq_decide]; omega
    obtain ⟨yk, hyk⟩ : ∃ yk, decide (s.size ≤ k) = yk := ⟨_, rfl⟩
    rw [hyk] at kk
    go_wp2_with fail
    go_region
    change Exit.then _ _ _ _ wr.drew
    generalize wr.drew = wd at H1 ⊢
    clear c0 c1 kk
    have c1 : wd.cell? ⟨rb, 1, none⟩ = some (.int .i64 k) := H1.out.rr.c1
    have c2 : wd.cell? ⟨rb, 2, none⟩ = some (.int .u8 md) := H1.out.rr.c2
    have f1 := H1.out.rr.fz 1
    have f2 := H1.out.rr.fz 2
    have o1 : wd.cell? ⟨n, 1, none⟩ = some (.int .i64 r.k) := H1.out.old.at rfl
    have o2 : wd.cell? ⟨n, 2, none⟩ = some (.int .u8 r.md) := H1.out.old.at rfl
    have hnr : n ≠ rb := HE.out.2
    cases yk
    · have hlt : k < s.size := by have := of_decide_eq_false hyk; omega
      cases f with
      | zero => omega
      | succ f =>
      rw [endL, if_neg (by omega)] at g3
      obtain ⟨⟨t, ok⟩, ht⟩ : ∃ T, tkF s md r.cs k = T := ⟨_, rfl⟩
      rw [ht] at g3
      have HT : Hid (∀ x, En B rb n s last r vn w k md x → Calls Tryz.prog 113 #[.pointer (some ⟨rb, 0, none⟩), .int .i64 k] x fun e w' => e = .returned (.tuple #[.agg t.cells.toArray, .bool ok]) ∧ Kp x w') := fun x hx => by
        have := token_any (at_ := k) hx.rr.c0 hx.rr.c2 hx.rr.c6 hx.rr.lt hs hlt
        rw [ht] at this
        exact this
      have HNx : Hid (t.nx ≤ 1000 ∧ (ok = true → k < t.nx)) := by
        have := tkF_next s md r.cs k
        rw [ht] at this
        simp only at this
        exact ⟨by omega, fun _ => this.1⟩
      have HG : Hid _ := g3
      clear g3 hyk ht o1 o2 c2
      obtain ⟨sg, nd, non, tx, tm, tc⟩ := t
      go_upto_region 7 with (first | (go_at_call 113; refine Calls.mono (HT.out _ H1.out) ?_; rintro e w2 ⟨rfl, k2⟩; have H2 : Hid (En B rb n s last r vn w k md (w2.alloc (.cells (tk0 0 0 0).cells.toArray 197)) ∧ Lc 197 w2.heap.size (tk0 0 0 0).cells (w2.alloc (.cells (tk0 0 0 0).cells.toArray 197)) ∧ rb < w2.heap.size ∧ n < w2.heap.size) := ⟨(H1.out.kp k2).kp (kp_alloc _ _), Lc.new _ _ _, (H1.out.kp k2).rr.lt, (H1.out.kp k2).old.lt⟩; have HFr : Hid (vn.ownBlock ≠ some w2.heap.size ∧ ¬ vn.kb w2.heap.size) := ⟨fun q => by have := (H1.out.kp k2).rr.own _ q; omega, fun q => by have := (H1.out.kp k2).rr.kbl _ q; omega⟩; clear k2) | (refine wpList_store_box H2.out.2.1 0 (Tk.cells ⟨sg, nd, non, tx, tm, tc⟩) rfl 197 (.tmp 7) (.tmp 33) rfl rfl rfl (Nat.le_refl 16) sizeTk (oneTk _) rfl ?_; intro wy ly fy sy; have H3 : Hid (En B rb n s last r vn w k md wy ∧ Lc 197 w2.heap.size (Tk.cells ⟨sg, nd, non, tx, tm, tc⟩) wy ∧ w2.heap.size ≠ rb ∧ w2.heap.size ≠ n) := ⟨H2.out.1.elsewhere fy (by have := H2.out.2.2; omega) (by have := H2.out.2.2; omega) (by have := H2.out.1.eq; have := H2.out.2.2; omega) HFr.out, ly, by have := H2.out.2.2; omega, by have := H2.out.2.2; omega⟩; clear ly fy sy))
      clear c1 f1 f2 H2 HFr HT
      obtain ⟨m, hm⟩ : ∃ m, w2.heap.size = m := ⟨_, rfl⟩
      rw [hm] at H3 ⊢
      clear hm
      have t0 : wy.cell? ⟨m, 0, none⟩ = some (.int .u8 sg) := H3.out.2.1.at rfl
      have t12 : wy.cell? ⟨m, 12, none⟩ = some (.bool non) := H3.out.2.1.at rfl
      have t13 : wy.cell? ⟨m, 13, none⟩ = some (.int .i64 tx) := H3.out.2.1.at rfl
      have t14 : wy.cell? ⟨m, 14, none⟩ = some (.int .u8 tm) := H3.out.2.1.at rfl
      have c1 : wy.cell? ⟨rb, 1, none⟩ = some (.int .i64 k) := H3.out.1.rr.c1
      have c2 : wy.cell? ⟨rb, 2, none⟩ = some (.int .u8 md) := H3.out.1.rr.c2
      have f1 := H3.out.1.rr.fz 1
      have f2 := H3.out.1.rr.fz 2
      have o1 : wy.cell? ⟨n, 1, none⟩ = some (.int .i64 r.k) := H3.out.1.old.at rfl
      have o2 : wy.cell? ⟨n, 2, none⟩ = some (.int .u8 r.md) := H3.out.1.old.at rfl
      have hmr : m ≠ rb := H3.out.2.2.1
      have HK : Hid (Kp w ((wy.setCell ⟨rb, 1, none⟩ (.int .i64 r.k)).setCell ⟨rb, 2, none⟩ (.int .u8 r.md))) := H3.out.1.back H0.out.1
      have hG := HG.out
      try simp only at hG
      clear HG
      cases ok
      · have hyf : y = false := by rw [← hG, if_pos (.inl rfl)]; rfl
        subst hyf
        clear hG
        go_wp2_with fail
        go_ret
        exact ⟨rfl, HK.out⟩
      cases non
      · have hyf : y = ((sg == 124) || (sg == 41)) := by rw [← hG, if_pos (.inr rfl)]; rfl
        have HY : Hid (y = ((sg == 124) || (sg == 41))) := hyf
        clear hG hyf
        by_cases s1 : sg = 124
        · have q1 : ((sg : Int) == 124) = true := by simp; omega
          have HY2 : Hid (y = true) := by show y = true; rw [HY.out, beq_iff_eq.2 s1]; rfl
          clear HY s1
          go_wp2_with fail
          go_ret
          exact ⟨by rw [HY2.out]; rfl, HK.out⟩
        have q1 : ((sg : Int) == 124) = false := by simp; omega
        by_cases s2 : sg = 41
        · have q2 : ((sg : Int) == 41) = true := by simp; omega
          have HY2 : Hid (y = true) := by show y = true; rw [HY.out, beq_iff_eq.2 s2]; simp
          clear HY s1 s2
          go_wp2_with fail
          go_ret
          exact ⟨by rw [HY2.out]; rfl, HK.out⟩
        · have q2 : ((sg : Int) == 41) = false := by simp; omega
          have HY2 : Hid (y = false) := by show y = false; rw [HY.out, beq_eq_false_iff_ne.2 s1, beq_eq_false_iff_ne.2 s2]; rfl
          clear HY s1 s2
          go_wp2_with fail
          go_ret
          exact ⟨by rw [HY2.out]; rfl, HK.out⟩
      · have HN : Hid (endL s r.cs f tx tm = y ∧ tx ≤ 1000 ∧ k < tx) := ⟨by rw [if_neg (by simp)] at hG; exact hG, HNx.out.1, HNx.out.2 rfl⟩
        have H4 : Hid (En B rb n s last r vn w tx tm ((wy.setCell ⟨rb, 2, none⟩ (.int .u8 tm)).setCell ⟨rb, 1, none⟩ (.int .i64 tx))) := H3.out.1.on ((fr_set _ _ _ _).trans (fr_set _ _ _ _)) ((H3.out.1.rr.setMd tm).setK tx) hnr
        clear hG HK o1 o2
        go_wp2_with fail
        go_roundw
        case rel => exact ⟨f, tx, tm, rfl, by have := HN.out.2.2; omega, HN.out.2.1, HN.out.1, H4.out⟩
        case measure =>
          rw [HA.out, H4.out.rr.kAt]
          have := HN.out.2.2
          show s.size - tx < s.size - k
          omega
    · have hlt : s.size ≤ k := of_decide_eq_true hyk
      have hyt : y = true := by
        rw [← g3]
        cases f with
        | zero => rfl
        | succ f => rw [endL, if_pos hlt]
      subst hyt
      have HK : Hid (Kp w ((wd.setCell ⟨rb, 1, none⟩ (.int .i64 r.k)).setCell ⟨rb, 2, none⟩ (.int .u8 r.md))) := H1.out.back H0.out.1
      clear g3 hlt hyk
      go_wp2_with fail
      go_ret
      exact ⟨rfl, HK.out⟩
end
end Go.Proofs.YtalmajiflmejcaaGreat
/- The document's reader: item, number, token. -/
namespace Go.Proofs.YtalmajiflmejcaaGreat
open Go.ChangeShapes Go.WideShapes Go.ChangeAt Go.RowKit
set_option linter.unusedVariables false
set_option linter.unusedSimpArgs false
section
variable {rb : Nat} {s : ByteArray} {at_ : Nat} {w : World}
theorem item_one (c0 : w.cell? ⟨rb, 0, none⟩ = some (.string s)) (hs : s.size ≤ 400) (ha : at_ < s.size) (hn : ¬ (byteAt s at_ = 92 ∧ at_ + 1 < s.size)) :
    Calls Tryz.prog 192 #[.pointer (some ⟨rb, 0, none⟩), .int .i64 at_] w fun e w' => e = .returned (.tuple #[.int .u8 (byteAt s at_), .int .i64 ((at_ : Int) + 1)]) ∧ w' = w := by
  have hB := byteAt_eq s at_ ha
  obtain ⟨C, hC⟩ : ∃ C, byteAt s at_ = C := ⟨_, rfl⟩
  have h1 : (s[at_]).toNat = C := by rw [← hB]; exact hC
  rw [hC] at hn ⊢
  by_cases h2 : C = 92
  · have h3 : ¬ at_ + 1 < s.size := fun q => hn ⟨h2, q⟩
    have k1 : ((C : Int) != 92) = false := by simp; omega
    have k2 : decide ((s.size : Int) ≤ (at_ : Int) + 1) = true := decide_eq_true (by omega)
    have HC : Hid (C = 92) := h2
    clear hB hC hn h2 h3
    go_enter Tryz.func192, Tryz.ntmps192
    go_wp2_with fail
    go_ret2
    exact ⟨rfl, rfl⟩
  · have k1 : ((C : Int) != 92) = true := by simp; omega
    clear hB hC hn h2
    go_enter Tryz.func192, Tryz.ntmps192
    go_wp2_with fail
    go_ret2
    exact ⟨rfl, rfl⟩
theorem item_two (c0 : w.cell? ⟨rb, 0, none⟩ = some (.string s)) (hs : s.size ≤ 400) (h9 : byteAt s at_ = 92) (ha : at_ + 1 < s.size) :
    Calls Tryz.prog 192 #[.pointer (some ⟨rb, 0, none⟩), .int .i64 at_] w fun e w' => e = .returned (.tuple #[.int .u8 (itemF s at_).1, .int .i64 (itemF s at_).2]) ∧ w' = w := by
  have hB := byteAt_eq s at_ (by omega)
  have h1 : (s[at_]).toNat = 92 := by rw [← hB]; exact h9
  obtain ⟨A1, hA1⟩ : ∃ A1, at_ + 1 = A1 := ⟨_, rfl⟩
  obtain ⟨A2, hA2⟩ : ∃ A2, at_ + 2 = A2 := ⟨_, rfl⟩
  have i1 : (at_ : Int) + 1 = (A1 : Int) := by omega
  have i2 : (at_ : Int) + 2 = (A2 : Int) := by omega
  have HI : itemF s at_ = if (letrF (byteAt s A1)).2 then ((letrF (byteAt s A1)).1, A2) else if byteAt s A1 = 110 then (10, A2) else if memB ⟨#[92, 93, 94, 45]⟩ (byteAt s A1) then (byteAt s A1, A2) else (92, A1) := by
    unfold itemF
    rw [if_pos ⟨h9, ha⟩, hA1, hA2, h9]
  rw [HI]
  rw [hA1] at ha
  have hB1 := byteAt_eq s A1 ha
  obtain ⟨D, hD⟩ : ∃ D, byteAt s A1 = D := ⟨_, rfl⟩
  have h2 : (s[A1]).toNat = D := by rw [← hB1]; exact hD
  rw [hD]
  have k2 : decide ((s.size : Int) ≤ (A1 : Int)) = false := decide_eq_false (by omega)
  have k2' : decide (s.size ≤ A1) = false := decide_eq_false (by omega)
  obtain ⟨L, hL⟩ : ∃ L, letrF D = L := ⟨_, rfl⟩
  obtain ⟨LC, LB⟩ := L
  have HLt : Hid (∀ x, Calls Tryz.prog 169 #[.int .u8 D] x fun e w' => e = .returned (.tuple #[.int .u8 LC, .bool LB]) ∧ x = w') := fun x => by
    have := fletter_any D x; rw [hL] at this; exact this.mono fun e w' h => ⟨h.1, h.2.symm⟩
  obtain ⟨M, hM⟩ : ∃ M, memB ⟨#[92, 93, 94, 45]⟩ D = M := ⟨_, rfl⟩
  have HMm : Hid (∀ x, Calls Tryz.prog 144 #[.string ⟨#[92, 93, 94, 45]⟩, .int .u8 D] x fun e w' => e = .returned (.bool M) ∧ x = w') := fun x => by
    have := fin_any ⟨#[92, 93, 94, 45]⟩ D (by decide) x; rw [hM] at this; exact this.mono fun e w' h => ⟨h.1, h.2.symm⟩
  rw [hL, hM]
  have l1 : A1 ≤ 400 := by omega
  have l2 : A2 ≤ 401 := by omega
  clear hB hB1 hD hL hM HI hA1 hA2 h9
  have l0 : at_ < s.size := by omega
  cases LB
  case true =>
    rw [if_pos rfl]
    go_enter Tryz.func192, Tryz.ntmps192
    go_wp2_with (first | (go_at_call 169; refine Calls.mono (HLt.out _) ?_; rintro e _ ⟨rfl, rfl⟩) | (go_at_call 144; refine Calls.mono (HMm.out _) ?_; rintro e _ ⟨rfl, rfl⟩))
    go_ret2
    exact ⟨rfl, rfl⟩
  rw [if_neg (by simp)]
  by_cases h3 : D = 110
  · rw [if_pos h3]
    have k3 : ((D : Int) == 110) = true := by simp; omega
    clear h3
    go_enter Tryz.func192, Tryz.ntmps192
    go_wp2_with (first | (go_at_call 169; refine Calls.mono (HLt.out _) ?_; rintro e _ ⟨rfl, rfl⟩) | (go_at_call 144; refine Calls.mono (HMm.out _) ?_; rintro e _ ⟨rfl, rfl⟩))
    go_ret2
    exact ⟨rfl, rfl⟩
  rw [if_neg h3]
  have k3 : ((D : Int) == 110) = false := by simp; omega
  clear h3
  cases M
  case true =>
    rw [if_pos rfl]
    go_enter Tryz.func192, Tryz.ntmps192
    go_wp2_with (first | (go_at_call 169; refine Calls.mono (HLt.out _) ?_; rintro e _ ⟨rfl, rfl⟩) | (go_at_call 144; refine Calls.mono (HMm.out _) ?_; rintro e _ ⟨rfl, rfl⟩))
    go_ret2
    exact ⟨rfl, rfl⟩
  rw [if_neg (by simp)]
  go_enter Tryz.func192, Tryz.ntmps192
  go_wp2_with (first | (go_at_call 169; refine Calls.mono (HLt.out _) ?_; rintro e _ ⟨rfl, rfl⟩) | (go_at_call 144; refine Calls.mono (HMm.out _) ?_; rintro e _ ⟨rfl, rfl⟩))
  go_ret2
  exact ⟨rfl, rfl⟩
theorem item_any (c0 : w.cell? ⟨rb, 0, none⟩ = some (.string s)) (hs : s.size ≤ 400) (ha : at_ < s.size) :
    Calls Tryz.prog 192 #[.pointer (some ⟨rb, 0, none⟩), .int .i64 at_] w fun e w' => e = .returned (.tuple #[.int .u8 (itemF s at_).1, .int .i64 (itemF s at_).2]) ∧ w' = w := by
  by_cases h : byteAt s at_ = 92 ∧ at_ + 1 < s.size
  · exact item_two c0 hs h.1 h.2
  · have := item_one c0 hs ha h
    unfold itemF
    rw [if_neg h]; exact this
/-- Digits at a place. -/
theorem nrL_le {s : ByteArray} {a : Nat} : ∀ {f k n : Nat}, k ≤ (nrL s a f k n).2 ∧ (k ≤ s.size → (nrL s a f k n).2 ≤ s.size) ∧ (k ≤ a + 4 → (nrL s a f k n).2 ≤ a + 4) := by
  intro f
  induction f with
  | zero => intro k n; exact ⟨Nat.le_refl _, id, id⟩
  | succ f ih =>
    intro k n
    rw [nrL]
    split
    · rename_i h
      obtain ⟨h1, h2, h3⟩ := @ih (k + 1) (10 * n + (byteAt s k - 48))
      exact ⟨by omega, fun _ => h2 (by omega), fun _ => h3 (by omega)⟩
    · exact ⟨Nat.le_refl _, id, id⟩
theorem nrL_num {s : ByteArray} {a : Nat} : ∀ {f k n : Nat}, a ≤ k → n < 10 ^ (k - a) → (nrL s a f k n).1 < 10 ^ ((nrL s a f k n).2 - a) := by
  intro f
  induction f with
  | zero => intro k n _ h; exact h
  | succ f ih =>
    intro k n hk h
    rw [nrL]
    split
    · rename_i q
      refine ih (by omega) ?_
      have : byteAt s k - 48 ≤ 9 := by have := q.2.1; simp only [digB, bt, decide_eq_true_eq] at this; omega
      rw [show k + 1 - a = (k - a) + 1 by omega, Nat.pow_succ]
      omega
    · exact h
theorem nrF_le (s : ByteArray) (a : Nat) : a ≤ (nrF s a).2.1 ∧ (a ≤ s.size → (nrF s a).2.1 ≤ s.size) ∧ (nrF s a).2.1 ≤ a + 4 := by
  obtain ⟨h1, h2, h3⟩ := @nrL_le s a 5 a 0
  exact ⟨h1, h2, h3 (by omega)⟩
theorem nrF_num (s : ByteArray) (a : Nat) : (nrF s a).1 < 10000 := by
  have := @nrL_num s a 5 a 0 (Nat.le_refl _) (by simp)
  have h3 := (@nrL_le s a 5 a 0).2.2 (by omega)
  refine Nat.lt_of_lt_of_le this ?_
  calc 10 ^ ((nrL s a 5 a 0).2 - a) ≤ 10 ^ 4 := Nat.pow_le_pow_right (by decide) (by omega)
    _ = 10000 := by decide
theorem is_d' (c : Int) (x : World) : Calls Tryz.prog 123 #[.int .u8 100, .int .u8 c] x fun e w' => e = .returned (.bool (digB c)) ∧ x = w' := by
  have := rIs_any 100 c x
  rw [show isB 100 c = digB c by simp [isB, smI, grtB, bt, knB, clsB]] at this
  exact this.mono fun e w' h => ⟨h.1, h.2.symm⟩
end
end Go.Proofs.YtalmajiflmejcaaGreat
/- The document's reader: number. -/
namespace Go.Proofs.YtalmajiflmejcaaGreat
open Go.ChangeShapes Go.WideShapes Go.ChangeAt Go.RowKit
set_option linter.unusedVariables false
set_option linter.unusedSimpArgs false
section
variable {rb : Nat} {s : ByteArray} {at_ : Nat} {w : World}
theorem decide_and_eq (p q : Prop) [Decidable p] [Decidable q] : decide (p ∧ q) = (decide p && decide q) := by
  by_cases hp : p <;> by_cases hq : q <;> simp [hp, hq]
set_option maxHeartbeats 4000000 in
set_option maxRecDepth 100000 in
theorem fnumber_any (c0 : w.cell? ⟨rb, 0, none⟩ = some (.string s)) (hs : s.size ≤ 400) (ha : at_ ≤ 1000) :
    Calls Tryz.prog 208 #[.pointer (some ⟨rb, 0, none⟩), .int .i64 at_] w fun e w' => e = .returned (.tuple #[.int .i64 (nrF s at_).1, .int .i64 (nrF s at_).2.1, .bool (nrF s at_).2.2]) ∧ w' = w := by
  unfold nrF
  simp only
  obtain ⟨R, hR⟩ : ∃ R, nrL s at_ 5 at_ 0 = R := ⟨_, rfl⟩
  rw [hR]
  have HR : Hid (nrL s at_ 5 at_ 0 = R) := hR
  clear hR
  go_enter Tryz.func208, Tryz.ntmps208
  go_wp2_with fail
  go_loopw [7, 8] (fun v7 v8 wr => ∃ (f k n : Nat), v7 = .int .i64 k ∧ v8 = .int .i64 n ∧ wr = w ∧ at_ ≤ k ∧ k ≤ at_ + 4 ∧ f + k = at_ + 5 ∧ n < 10 ^ (k - at_) ∧ nrL s at_ f k n = R) (fun v7 _ _ => at_ + 5 - (intOf v7).toNat)
  case atStart => exact ⟨5, at_, 0, rfl, rfl, rfl, Nat.le_refl _, by omega, by omega, by simp, HR.out⟩
  case round =>
    obtain ⟨f, k, n, rfl, rfl, rfl, h1, h2, h3, h4, h5⟩ := hrel
    obtain ⟨f, rfl⟩ : ∃ f', f = f' + 1 := ⟨f - 1, by omega⟩
    rw [nrL] at h5
    obtain ⟨J, hJ⟩ : ∃ J, k - at_ = J := ⟨_, rfl⟩
    have i1 : (k : Int) - (at_ : Int) = (J : Int) := by omega
    rw [hJ] at h4 h5
    by_cases hgo : k < s.size ∧ digB (byteAt s k) = true ∧ J < 4
    · rw [if_pos hgo] at h5
      obtain ⟨g1, g2, g3⟩ := hgo
      have k1 : decide ((k : Int) < (s.size : Int)) = true := decide_eq_true (by omega)
      have k1' : decide (k < s.size) = true := decide_eq_true g1
      have k2 : decide ((J : Int) < 4) = true := decide_eq_true (by omega)
      have k2' : decide (J < 4) = true := decide_eq_true g3
      rw [byteAt_eq s k g1] at g2 h5
      obtain ⟨C, hC⟩ : ∃ C, (s[k]).toNat = C := ⟨_, rfl⟩
      rw [hC] at g2 h5
      have HI : Hid (∀ x, Calls Tryz.prog 123 #[.int .u8 100, .int .u8 C] x fun e w' => e = .returned (.bool true) ∧ x = w') := fun x => by have := is_d' (C : Int) x; rw [g2] at this; exact this
      have hC2 : 48 ≤ C ∧ C ≤ 57 := by simp only [digB, bt, decide_eq_true_eq] at g2; omega
      obtain ⟨D, hD⟩ : ∃ D, C - 48 = D := ⟨_, rfl⟩
      have i2 : (C : Int) - 48 = (D : Int) := by omega
      have i3 : D ≤ 9 := by omega
      rw [hD] at h5
      have hn : n < 1000 := by
        refine Nat.lt_of_lt_of_le h4 ?_
        have : 10 ^ J ≤ 10 ^ 3 := Nat.pow_le_pow_right (by decide) (by omega)
        exact this
      have HN : Hid (nrL s at_ f (k + 1) (10 * n + D) = R ∧ 10 * n + D < 10 ^ (k + 1 - at_) ∧ f + (k + 1) = at_ + 5 ∧ k + 1 ≤ at_ + 4) := by
        refine ⟨h5, ?_, by omega, by omega⟩
        rw [show k + 1 - at_ = J + 1 by omega, Nat.pow_succ]
        omega
      obtain ⟨M, hM⟩ : ∃ M, 10 * n + D = M := ⟨_, rfl⟩
      rw [hM] at HN
      have i4 : (10 : Int) * (n : Int) + (D : Int) = (M : Int) := by omega
      have i5 : M < 20000 := by omega
      clear hM
      clear h3 h4 h5 hD hJ g2 hC2 HR
      go_wp2_with (go_at_call 123; refine Calls.mono (HI.out _) ?_; rintro e _ ⟨rfl, rfl⟩)
      go_roundw
      case rel => exact ⟨f, k + 1, M, by go_num, by go_num, by trivial, by omega, HN.out.2.2.2, HN.out.2.2.1, HN.out.2.1, HN.out.1⟩
      case measure => simp [intOf]; omega
    · rw [if_neg hgo] at h5
      have HN : Hid (R = (n, k)) := h5.symm
      have HB : Hid (decide (at_ < k ∧ k - at_ ≤ 3) = (decide ((at_ : Int) < (k : Int)) && decide ((J : Int) ≤ 3))) := by
        rw [decide_and_eq]
        have e1 : decide (at_ < k) = decide ((at_ : Int) < (k : Int)) := by simp
        have e2 : decide (k - at_ ≤ 3) = decide ((J : Int) ≤ 3) := by rw [hJ, decide_eq_decide]; omega
        rw [e1, e2]
        exact rfl
      obtain ⟨y1, hy1⟩ : ∃ y1, decide ((at_ : Int) < (k : Int)) = y1 := ⟨_, rfl⟩
      obtain ⟨y2, hy2⟩ : ∃ y2, decide ((J : Int) ≤ 3) = y2 := ⟨_, rfl⟩
      rw [hy1, hy2] at HB
      have hy1' : decide (at_ < k) = y1 := by rw [← hy1, decide_eq_decide]; omega
      have hy2' : decide (J ≤ 3) = y2 := by rw [← hy2, decide_eq_decide]; omega
      by_cases g1 : k < s.size
      · have k1 : decide ((k : Int) < (s.size : Int)) = true := decide_eq_true (by omega)
        have k1' : decide (k < s.size) = true := decide_eq_true g1
        rw [byteAt_eq s k g1] at hgo
        obtain ⟨C, hC⟩ : ∃ C, (s[k]).toNat = C := ⟨_, rfl⟩
        rw [hC] at hgo
        obtain ⟨y, hy⟩ : ∃ y, digB (C : Int) = y := ⟨_, rfl⟩
        have HI : Hid (∀ x, Calls Tryz.prog 123 #[.int .u8 100, .int .u8 C] x fun e w' => e = .returned (.bool y) ∧ x = w') := fun x => by have := is_d' (C : Int) x; rw [hy] at this; exact this
        cases y
        · clear h3 h4 h5 hJ hgo hy HR
          cases y1 <;> cases y2
          all_goals
            go_wp2_with (go_at_call 123; refine Calls.mono (HI.out _) ?_; rintro e _ ⟨rfl, rfl⟩)
            go_ret3
            rw [HN.out, HB.out]
            exact ⟨rfl, rfl⟩
        · have g3 : ¬ J < 4 := fun q => hgo ⟨g1, hy, q⟩
          have k2 : decide ((J : Int) < 4) = false := decide_eq_false (by omega)
          have k2' : decide (J < 4) = false := decide_eq_false g3
          clear h3 h4 h5 hJ hgo hy HR g3
          cases y1 <;> cases y2
          all_goals
            go_wp2_with (go_at_call 123; refine Calls.mono (HI.out _) ?_; rintro e _ ⟨rfl, rfl⟩)
            go_ret3
            rw [HN.out, HB.out]
            exact ⟨rfl, rfl⟩
      · have k1 : decide ((k : Int) < (s.size : Int)) = false := decide_eq_false (by omega)
        have k1' : decide (k < s.size) = false := decide_eq_false g1
        clear h3 h4 h5 hJ hgo HR
        cases y1 <;> cases y2
        all_goals
          go_wp2_with fail
          go_ret3
          rw [HN.out, HB.out]
          exact ⟨rfl, rfl⟩
end
end Go.Proofs.YtalmajiflmejcaaGreat
