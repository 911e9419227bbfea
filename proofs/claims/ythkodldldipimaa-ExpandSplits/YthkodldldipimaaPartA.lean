/- Texts that the proof of the law stands on: Leaf, Ref, XB, XP, XW, XM, XE, XG, XL, XN, XK, XKn, XLG. -/
import Derived.Test.YthkodldldipimaaRows
import Derived.WalkKit
import Derived.ProofKit
import Derived.OpenShut
import Derived.Maps.AppendAt
import Derived.Deep.AppendLies
import Derived.Laws.IdiomStrings
import Derived.Laws.EntriesVeiled
import Derived.WalkSmall
import Derived.BigCall
import Derived.BigQuiet
import Derived.BigRegion
import Derived.Deep.QuietTactic
import Derived.Below
import Derived.LoopTactic
import Derived.RegionTactic
import Derived.Deep.RegionLaw
import Derived.Deep.RegionWith
import Derived.Deep.MidRow
import Derived.Laws.AppendOwn
import Derived.WalkLawsBesides
import Derived.Deep.Cut
import Derived.Deep.CutRange
import Derived.Laws.AppendOwnNone
import Derived.Laws.Concat
import Derived.Lib.MinMax
/- Each test of a byte in package kind, and each one of the document's answer, returns just what a plain function of the byte says, and leaves the world as it was; for every byte. -/
namespace Go.Proofs.Ythkodldldipimaa
open Go.ChangeShapes Go.WideShapes Go.ChangeAt Go.RowKit

def bt (c a b : Int) : Bool := decide (a ≤ c ∧ c ≤ b)
def digB (c : Int) : Bool := bt c 48 57
def octB (c : Int) : Bool := bt c 48 55
def smlB (c : Int) : Bool := bt c 97 122
def grtB (c : Int) : Bool := bt c 65 90
def letB (c : Int) : Bool := smlB c || grtB c
def ladB (c : Int) : Bool := letB c || digB c
def hedB (c : Int) : Bool := letB c || c == 95
def wrdB (c : Int) : Bool := hedB c || digB c
def blkB (c : Int) : Bool := c == 32 || c == 9
def spcB (c : Int) : Bool := c == 32 || bt c 9 13
def hexB (c : Int) : Bool := digB c || bt c 97 102 || bt c 65 70
def ctlB (c : Int) : Bool := decide (c < 32) || c == 127
def pctB (c : Int) : Bool := bt c 33 47 || bt c 58 64 || bt c 91 96 || bt c 123 126

theorem bt_yes {c a b : Int} (h1 : a ≤ c) (h2 : c ≤ b) : bt c a b = true := by simp [bt, h1, h2]
theorem bt_no1 {c a b : Int} (h1 : ¬ a ≤ c) : bt c a b = false := by simp [bt, h1]
theorem bt_no2 {c a b : Int} (h2 : ¬ c ≤ b) : bt c a b = false := by simp [bt, h2]

theorem between_any (c a b : Int) (w : World) :
    Calls Try.prog 29 #[.int .u8 c, .int .u8 a, .int .u8 b] w fun e w' => e = .returned (.bool (bt c a b)) ∧ w' = w := by
  by_cases h1 : a ≤ c
  · by_cases h2 : c ≤ b
    · rw [bt_yes h1 h2]
      go_enter Try.func29, Try.ntmps29
      go_wp2
      go_ret
      exact ⟨rfl, rfl⟩
    · rw [bt_no2 h2]
      go_enter Try.func29, Try.ntmps29
      go_wp2
      go_ret
      exact ⟨rfl, rfl⟩
  · rw [bt_no1 h1]
    go_enter Try.func29, Try.ntmps29
    go_wp2
    go_ret
    exact ⟨rfl, rfl⟩

theorem isSmall_any (c : Int) (w : World) :
    Calls Try.prog 25 #[.int .u8 c] w fun e w' => e = .returned (.bool (smlB c)) ∧ w' = w := by
  unfold smlB
  go_enter Try.func25, Try.ntmps25
  go_wp2_with (go_at_call 29; refine (between_any _ _ _ _).mono ?_; rintro e w' ⟨rfl, rfl⟩)
  go_ret
  exact ⟨rfl, rfl⟩

theorem isGreat_any (c : Int) (w : World) :
    Calls Try.prog 26 #[.int .u8 c] w fun e w' => e = .returned (.bool (grtB c)) ∧ w' = w := by
  unfold grtB
  go_enter Try.func26, Try.ntmps26
  go_wp2_with (go_at_call 29; refine (between_any _ _ _ _).mono ?_; rintro e w' ⟨rfl, rfl⟩)
  go_ret
  exact ⟨rfl, rfl⟩

end Go.Proofs.Ythkodldldipimaa
/- The document's answer for one byte (its classes, its letters) returns just what plain functions of the byte say, and leaves the world as it was. -/
namespace Go.Proofs.Ythkodldldipimaa
open Go.ChangeShapes Go.WideShapes Go.ChangeAt Go.RowKit

def smI (c : Int) : Int := if grtB c then c + 32 else c
def grI (c : Int) : Int := if smlB c then c - 32 else c
def knB (k : Int) : Bool := k == 100 || k == 120 || k == 111 || k == 119 || k == 104 || k == 97 || k == 108 || k == 117 || k == 115
def clsB (k c : Int) : Bool :=
  if k = 100 then digB c else if k = 120 then hexB c else if k = 111 then octB c else if k = 119 then wrdB c else if k = 104 then hedB c
  else if k = 97 then letB c else if k = 108 then smlB c else if k = 117 then grtB c else if k = 115 then blkB c else false
def isB (k c : Int) : Bool := knB (smI k) && (clsB (smI k) c != grtB k)

theorem ret_u8 {a b : Int} (h : a = b) : Ending.returned (.int .u8 a) = .returned (.int .u8 b) := by rw [h]
theorem grtB_iff {c : Int} : grtB c = true ↔ 65 ≤ c ∧ c ≤ 90 := by simp [grtB, bt]
theorem smlB_iff {c : Int} : smlB c = true ↔ 97 ≤ c ∧ c ≤ 122 := by simp [smlB, bt]
theorem knB_no {k : Int} (h : knB k = false) : (k == 100) = false ∧ (k == 120) = false ∧ (k == 111) = false ∧ (k == 119) = false ∧ (k == 104) = false ∧ (k == 97) = false ∧ (k == 108) = false ∧ (k == 117) = false ∧ (k == 115) = false := by
  simpa [knB, and_assoc] using h
theorem knB_yes {k : Int} (h : knB k = true) : k = 100 ∨ k = 120 ∨ k = 111 ∨ k = 119 ∨ k = 104 ∨ k = 97 ∨ k = 108 ∨ k = 117 ∨ k = 115 := by
  simpa [knB, or_assoc] using h
theorem clsB_no {k : Int} (c : Int) (h : knB k = false) : clsB k c = false := by
  obtain ⟨h1, h2, h3, h4, h5, h6, h7, h8, h9⟩ := knB_no h
  simp only [beq_eq_false_iff_ne, ne_eq] at h1 h2 h3 h4 h5 h6 h7 h8 h9
  simp [clsB, h1, h2, h3, h4, h5, h6, h7, h8, h9]

-- BEGIN rbetween
theorem rbetween_any (c a b : Int) (w : World) :
    Calls Try.prog 32 #[.int .u8 c, .int .u8 a, .int .u8 b] w fun e w' => e = .returned (.bool (bt c a b)) ∧ w' = w := by
  by_cases h1 : a ≤ c
  · by_cases h2 : c ≤ b
    · rw [bt_yes h1 h2]
      go_enter Try.func32, Try.ntmps32
      go_wp2
      go_ret
      exact ⟨rfl, rfl⟩
    · rw [bt_no2 h2]
      go_enter Try.func32, Try.ntmps32
      go_wp2
      go_ret
      exact ⟨rfl, rfl⟩
  · rw [bt_no1 h1]
    go_enter Try.func32, Try.ntmps32
    go_wp2
    go_ret
    exact ⟨rfl, rfl⟩
-- END
-- BEGIN rbetween rsmall
theorem rsmall_any (c : Int) (w : World) :
    Calls Try.prog 30 #[.int .u8 c] w fun e w' => e = .returned (.bool (smlB c)) ∧ w' = w := by
  unfold smlB
  go_enter Try.func30, Try.ntmps30
  go_wp2_with (go_at_call 32; refine (rbetween_any _ _ _ _).mono ?_; rintro e w' ⟨rfl, rfl⟩)
  go_ret
  exact ⟨rfl, rfl⟩
-- END
-- BEGIN rbetween rgreat
theorem rgreat_any (c : Int) (w : World) :
    Calls Try.prog 31 #[.int .u8 c] w fun e w' => e = .returned (.bool (grtB c)) ∧ w' = w := by
  unfold grtB
  go_enter Try.func31, Try.ntmps31
  go_wp2_with (go_at_call 32; refine (rbetween_any _ _ _ _).mono ?_; rintro e w' ⟨rfl, rfl⟩)
  go_ret
  exact ⟨rfl, rfl⟩
-- END
-- END
-- BEGIN rSmall rgreat
theorem rSmall_any (c : Int) (w : World) :
    Calls Try.prog 28 #[.int .u8 c] w fun e w' => e = .returned (.int .u8 (smI c)) ∧ w' = w := by
  unfold smI
  cases h : grtB c
  · go_enter Try.func28, Try.ntmps28
    go_wp2_with (go_at_call 31; refine (rgreat_any _ _).mono ?_; rintro e w' ⟨rfl, rfl⟩)
    go_ret
    exact ⟨rfl, rfl⟩
  · obtain ⟨h1, h2⟩ := grtB_iff.1 h
    go_enter Try.func28, Try.ntmps28
    go_wp2_with (go_at_call 31; refine (rgreat_any _ _).mono ?_; rintro e w' ⟨rfl, rfl⟩)
    go_ret
    exact ⟨rfl, rfl⟩
-- END
-- BEGIN rGreat rsmall
theorem rGreat_any (c : Int) (w : World) :
    Calls Try.prog 27 #[.int .u8 c] w fun e w' => e = .returned (.int .u8 (grI c)) ∧ w' = w := by
  unfold grI
  cases h : smlB c
  · go_enter Try.func27, Try.ntmps27
    go_wp2_with (go_at_call 30; refine (rsmall_any _ _).mono ?_; rintro e w' ⟨rfl, rfl⟩)
    go_ret
    exact ⟨rfl, rfl⟩
  · obtain ⟨h1, h2⟩ := smlB_iff.1 h
    go_enter Try.func27, Try.ntmps27
    go_wp2_with (go_at_call 30; refine (rsmall_any _ _).mono ?_; rintro e w' ⟨rfl, rfl⟩)
    go_ret
    exact ⟨rfl, rfl⟩
-- END
theorem wrd_other (c : Int) : wrdB c = (smlB c || grtB c || digB c || c == 95) := by
  unfold wrdB hedB letB
  cases smlB c <;> cases grtB c <;> cases digB c <;> cases (c == 95) <;> rfl
-- END
-- END
-- END
-- END

end Go.Proofs.Ythkodldldipimaa
/- What memory holds, and what a call leaves as it was. -/
namespace Go.Proofs.Ythkodldldipimaa
open Go.ChangeShapes Go.WideShapes Go.ChangeAt Go.RowKit
set_option linter.unusedVariables false
set_option linter.unusedSimpArgs false
theorem drewN_heap (w : World) (n : Nat) : (w.drewN n).heap = w.heap := by induction n generalizing w <;> simp_all [World.drewN]
theorem drew2 (w : World) (a b : Nat) : (w.drewN a).drewN b = w.drewN (a + b) := by
  have e : ∀ (n : Nat) (w : World), w.drewN n = { w with drawn := w.drawn + n } := by
    intro n
    induction n with
    | zero => intro w; rfl
    | succ n ih => intro w; simp [World.drewN, World.drew, ih, Nat.add_assoc, Nat.add_comm 1 n]
  simp [e, Nat.add_assoc]
theorem heap_setCell {w : World} {b off : Nat} {v : Value} {cur : Array Value} {e : TypeId} {fr : Nat × Nat} (hg : w.heap[b]? = some (.cells cur e fr)) :
    (w.setCell ⟨b, off, none⟩ v).heap[b]? = some (.cells (cur.setIfInBounds off v) e fr) := by
  have hlt : b < w.heap.size := (Array.getElem?_eq_some_iff.1 hg).1
  simp [World.setCell, Array.getElem?_modify, hg]
theorem heap_setCell_other {w : World} {b off k : Nat} {v : Value} (hk : k ≠ b) : (w.setCell ⟨b, off, none⟩ v).heap[k]? = w.heap[k]? := by
  simp [World.setCell, Array.getElem?_modify, Ne.symm hk]
theorem size_setCell (w : World) (a : Addr) (v : Value) : (w.setCell a v).heap.size = w.heap.size := by simp [World.setCell]
theorem alloc_new (w : World) (ob : Obj) : (w.alloc ob).heap[w.heap.size]? = some ob := by show (w.heap.push ob)[w.heap.size]? = _; simp
theorem alloc_old (w : World) (ob : Obj) (k : Nat) (hk : k < w.heap.size) : (w.alloc ob).heap[k]? = w.heap[k]? := by
  show (w.heap.push ob)[k]? = _; rw [Array.getElem?_push_lt hk, Array.getElem?_eq_getElem hk]
theorem alloc_size (w : World) (ob : Obj) : (w.alloc ob).heap.size = w.heap.size + 1 := by show (w.heap.push ob).size = _; simp

/-- From w to w' no block that was there has turned but those of which 'S' speaks. -/
structure Fr (S : Nat → Prop) (w w' : World) : Prop where
  os : w'.os = w.os
  tape : w'.tape = w.tape
  output : w'.output = w.output
  size : w.heap.size ≤ w'.heap.size
  block : ∀ k, k < w.heap.size → ¬ S k → w'.heap[k]? = w.heap[k]?
section
variable {S S' : Nat → Prop} {w w1 w2 : World}
theorem Fr.refl (S : Nat → Prop) (w : World) : Fr S w w := ⟨rfl, rfl, rfl, Nat.le_refl _, fun _ _ _ => rfl⟩
theorem Fr.trans' (h : Fr S w w1) (h' : Fr S' w1 w2) (hs : ∀ k, k < w.heap.size → S' k → S k) : Fr S w w2 :=
  ⟨h'.os.trans h.os, h'.tape.trans h.tape, h'.output.trans h.output, Nat.le_trans h.size h'.size,
   fun k hk hn => (h'.block k (Nat.lt_of_lt_of_le hk h.size) (fun hq => hn (hs k hk hq))).trans (h.block k hk hn)⟩
theorem Fr.trans (h : Fr S w w1) (h' : Fr S w1 w2) : Fr S w w2 := h.trans' h' fun _ _ q => q
theorem Fr.mono (h : Fr S w w1) (hs : ∀ k, k < w.heap.size → S k → S' k) : Fr S' w w1 := ⟨h.os, h.tape, h.output, h.size, fun k hk hn => h.block k hk fun q => hn (hs k hk q)⟩
theorem Fr.drewN (S : Nat → Prop) (w : World) (n : Nat) : Fr S w (w.drewN n) := by
  refine ⟨?_, ?_, ?_, by rw [drewN_heap]; exact Nat.le_refl _, fun _ _ _ => by rw [drewN_heap]⟩
  all_goals (induction n generalizing w <;> simp_all [World.drewN])
theorem Fr.setCell {b off : Nat} {v : Value} (hS : S b) (w : World) : Fr S w (w.setCell ⟨b, off, none⟩ v) :=
  ⟨rfl, rfl, rfl, by rw [size_setCell]; exact Nat.le_refl _, fun k _ hn => heap_setCell_other fun e => hn (e ▸ hS)⟩
theorem Fr.alloc (S : Nat → Prop) (w : World) (ob : Obj) : Fr S w (w.alloc ob) := ⟨rfl, rfl, rfl, by rw [alloc_size]; omega, fun k hk _ => alloc_old w ob k hk⟩
theorem Fr.below {B : Nat} (h : Fr S w w1) (hB : B ≤ w.heap.size) (hS : ∀ k, k < B → ¬ S k) : Below B w w1 := ⟨h.os, h.tape, h.output, h.size, fun k hk => h.block k (by omega) (hS k hk)⟩
theorem Fr.of_below (h : Below w.heap.size w w1) : Fr S w w1 := ⟨h.os, h.tape, h.output, h.size, fun k hk _ => h.block k hk⟩
end
/-- This one block. -/
def On (b k : Nat) : Prop := k = b
theorem fr_set (b off : Nat) (v : Value) (w : World) : Fr (On b) w (w.setCell ⟨b, off, none⟩ v) := Fr.setCell (S := On b) rfl w
/-- Nothing that was there has turned. -/
abbrev Kp (w w' : World) : Prop := Below w.heap.size w w'
theorem kp_drewN (w : World) (q : Nat) : Kp w (w.drewN q) := (Fr.drewN (fun _ => False) w q).below (Nat.le_refl _) fun _ _ h => h
theorem kp_alloc (w : World) (ob : Obj) : Kp w (w.alloc ob) := (Below.refl _ w).alloc (Nat.le_refl _) ob
theorem kp_trans {a b c : World} (h : Kp a b) (k : Kp b c) : Kp a c := h.trans (k.mono h.size)

theorem Fr.new {S : Nat → Prop} {w w1 : World} {n off : Nat} {v : Value} (h : Fr S w w1) (hn : w.heap.size ≤ n) : Fr S w (w1.setCell ⟨n, off, none⟩ v) :=
  ⟨h.os, h.tape, h.output, by rw [size_setCell]; exact h.size, fun k hk hS => by rw [heap_setCell_other (by omega)]; exact h.block k hk hS⟩
theorem Fr.frAlloc {S : Nat → Prop} {w w1 : World} {ob : Obj} (h : Fr S (w.alloc ob) w1) : Fr S w w1 := (Fr.alloc S w ob).trans h
/-- A byte of a text, nought behind its end. -/
def byteAt (s : ByteArray) (k : Nat) : Nat := ((s.data.toList[k]?).map UInt8.toNat).getD 0
theorem byteAt_lt (s : ByteArray) (k : Nat) : byteAt s k < 256 := by
  unfold byteAt
  cases s.data.toList[k]? with
  | none => simp
  | some b => simpa using b.toNat_lt
theorem byteAt_eq (s : ByteArray) (k : Nat) (h : k < s.size) : byteAt s k = (s[k]).toNat := by
  have : s.data.toList[k]? = some (s[k]) := by
    rw [List.getElem?_eq_getElem (by simpa using h)]; rfl
  unfold byteAt; rw [this]; rfl

theorem cell_at {w : World} {b : Nat} {e : TypeId} {cur : Array Value} {fr : Nat × Nat} (hg : w.heap[b]? = some (.cells cur e fr)) (j : Nat) : w.cell? ⟨b, j, none⟩ = cur[j]? := by simp [World.cell?, hg]
theorem kp_cell {w w1 : World} (k : Kp w w1) {a : Addr} {u : Value} (h : w.cell? a = some u) : w1.cell? a = some u := by
  rw [World.cell?_of_block (k.block _ ?_)]
  · exact h
  · rcases Nat.lt_or_ge a.block w.heap.size with q | q
    · exact q
    · simp [World.cell?, Array.getElem?_eq_none q] at h
theorem addr_add (g j : Nat) : (⟨g, 0, none⟩ : Addr).add j = ⟨g, j, none⟩ := by unfold Addr.add; split <;> simp_all
theorem kp_drew_size (w : World) : w.drew.heap.size = w.heap.size := rfl
theorem kp_drew (w : World) : Kp w w.drew := kp_drewN w 1
section
variable {w w1 : World} {B : Nat} {v : Value}
theorem row_kp {e : TypeId} {size n : Nat} {xs : List Value} (hr : w.ownsRow B e size v n xs) (h : Kp w w1) : w1.ownsRow B e size v n xs := by
  refine ⟨hr.1, ?_⟩
  rcases hr.2 with q | ⟨b, cap, cur, rfl, hb, hg, rest⟩
  · exact .inl q
  · exact .inr ⟨b, cap, cur, rfl, hb, by rw [h.block b (hr.lt b rfl).2]; exact hg, rest⟩
theorem row_fr {e : TypeId} {size n : Nat} {xs : List Value} {S : Nat → Prop} (hr : w.ownsRow B e size v n xs) (h : Fr S w w1) (hn : ∀ j, v.ownBlock = some j → ¬ S j) : w1.ownsRow B e size v n xs := by
  refine ⟨hr.1, ?_⟩
  rcases hr.2 with q | ⟨b, cap, cur, rfl, hb, hg, rest⟩
  · exact .inl q
  · exact .inr ⟨b, cap, cur, rfl, hb, by rw [h.block b (hr.lt b rfl).2 (hn b rfl)]; exact hg, rest⟩
theorem row_lift {e : TypeId} {B' size n : Nat} {xs : List Value} (hr : w.ownsRow B e size v n xs) (h : ∀ j, v.ownBlock = some j → B' ≤ j) : w.ownsRow B' e size v n xs := by
  refine ⟨hr.1, ?_⟩
  rcases hr.2 with q | ⟨b, cap, cur, rfl, hb, hg, rest⟩
  · exact .inl q
  · exact .inr ⟨b, cap, cur, rfl, h b rfl, hg, rest⟩
theorem owns_form {size n : Nat} {e : TypeId} {xs : List Value} (h : w.ownsRow B e size v n xs) : ∃ a cap, v = .slice a n cap ∧ n ≤ cap ∧ cap ≤ maxLen := by
  rcases h.2 with ⟨rfl, rfl⟩ | ⟨b, cap, cur, rfl, _, _, h1, h2, _⟩
  · exact ⟨none, 0, rfl, Nat.le_refl _, by simp [maxLen]⟩
  · exact ⟨_, cap, rfl, h1, h2⟩
end
theorem info_parts {t : TypeId} {z : Option Value} {a b : Nat} (h : (Try.prog.info? t).map (fun i => (i.zero, i.size, i.bytes)) = some (z, a, b)) : ∃ i, Try.prog.info? t = some i ∧ i.zero = z ∧ i.size = a ∧ i.bytes = b := by
  obtain ⟨i, h1, h2⟩ := Option.map_eq_some_iff.1 h
  simp only [Prod.mk.injEq] at h2
  exact ⟨i, h1, h2.1, h2.2.1, h2.2.2⟩
theorem infoUB : (Try.prog.info? 5).map (fun i => (i.zero, i.size, i.bytes)) = some (some (.int .u8 0), 1, 1) := by kernel_rfl
def Lc (T : TypeId) (b : Nat) (l : List Value) (w : World) : Prop := w.heap[b]? = some (.cells l.toArray T (0, 0))
section
variable {T : TypeId} {b : Nat} {l : List Value} {w w1 : World}
theorem Lc.lt (h : Lc T b l w) : b < w.heap.size := (Array.getElem?_eq_some_iff.1 h).1
theorem Lc.cell (h : Lc T b l w) (j : Nat) : w.cell? ⟨b, j, none⟩ = l[j]? := by rw [cell_at h]; exact List.getElem?_toArray
theorem Lc.at (h : Lc T b l w) {j : Nat} {v : Value} (hj : l[j]? = some v) : w.cell? ⟨b, j, none⟩ = some v := by rw [h.cell, hj]
theorem Lc.fz (h : Lc T b l w) (j : Nat) : w.frozen? ⟨b, j, none⟩ = false := by unfold Lc at h; simp [World.frozen?, h]
theorem Lc.new (w : World) (l : List Value) (T : TypeId) : Lc T w.heap.size l (w.alloc (.cells l.toArray T)) := alloc_new w _
theorem Lc.heap (h : Lc T b l w) (he : w1.heap[b]? = w.heap[b]?) : Lc T b l w1 := by unfold Lc at h ⊢; rw [he]; exact h
theorem Lc.kp (h : Lc T b l w) (k : Kp w w1) : Lc T b l w1 := h.heap (k.block b h.lt)
theorem Lc.fr {S : Nat → Prop} (h : Lc T b l w) (k : Fr S w w1) (hn : ¬ S b) : Lc T b l w1 := h.heap (k.block b h.lt hn)
theorem Lc.set (h : Lc T b l w) (j : Nat) (v : Value) : Lc T b (l.set j v) (w.setCell ⟨b, j, none⟩ v) := by
  unfold Lc at h ⊢; rw [heap_setCell h, List.setIfInBounds_toArray]
theorem Lc.other (h : Lc T b l w) {n off : Nat} {v : Value} (hn : n ≠ b) : Lc T b l (w.setCell ⟨n, off, none⟩ v) := h.heap (heap_setCell_other (Ne.symm hn))
theorem kp_new {w0 : World} (k : Kp w0 w) {n off : Nat} {v : Value} (hn : w0.heap.size ≤ n) : Kp w0 (w.setCell ⟨n, off, none⟩ v) :=
  ⟨k.os, k.tape, k.output, by rw [size_setCell]; exact k.size, fun j hj => by rw [heap_setCell_other (by omega)]; exact k.block j hj⟩
theorem kp_more {w0 : World} (k : Kp w0 w) (o : Obj) : Kp w0 (w.alloc o) := kp_trans k (kp_alloc _ _)
end
/-- A list's elements from a place on are these. -/
def sets (l : List Value) : Nat → List Value → List Value
  | _, [] => l
  | o, v :: r => sets (l.set o v) (o + 1) r
section
variable {T : TypeId} {b : Nat} {l : List Value} {w w1 : World}
theorem Lc.sets : ∀ {l : List Value} {w : World} (vs : List Value) (o : Nat), Lc T b l w → Lc T b (sets l o vs) (w.setCells b o vs)
  | l, w, [], o, h => h
  | l, w, v :: r, o, h => Lc.sets r (o + 1) (h.set o v)
theorem fr_sets (b : Nat) : ∀ (vs : List Value) (o : Nat) (w : World), Fr (On b) w (w.setCells b o vs)
  | [], o, w => Fr.refl _ _
  | v :: r, o, w => (fr_set b o v w).trans (fr_sets b r (o + 1) _)
theorem size_sets (b : Nat) : ∀ (vs : List Value) (o : Nat) (w : World), (w.setCells b o vs).heap.size = w.heap.size
  | [], o, w => rfl
  | v :: r, o, w => (size_sets b r (o + 1) _).trans (size_setCell _ _ _)
theorem Lc.range (h : Lc T b l w) (o : Nat) {cs : List Value} (hc : ∀ j v, cs[j]? = some v → l[o + j]? = some v) : w.rangeAt b o cs := fun j v hj => h.at (hc j v hj)
theorem Lc.there (h : Lc T b l w) {o n : Nat} (hn : o + n ≤ l.length) : w.there b o n := fun j hj => ⟨by rw [h.cell, List.getElem?_eq_getElem (by omega)]; rfl, h.fz _⟩
variable {ops : Array Oper} {rest : List Oper} {op : Oper} {a : Act} {Q : Exit → Act → World → Prop}
theorem wpList_load_box (h : Lc T b l w) (o : Nat) (cs : List Value) (hgd : op.guard = none) (ty : TypeId) (x : Operand) (ho : op.op = .load ty x) (hx : a.eval x = .pointer (some ⟨b, o, none⟩)) (hc : (l.drop o).take cs.length = cs)
    (d : TypeDesc) (hu : Try.prog.underlying ty = some d) (hd : d.isRow = true) (hi : (Try.prog.info? ty).map (·.size) = some cs.length)
    (k : wpList Try.prog ops Q rest (a.put op.dst (.agg cs.toArray)) w) : wpList Try.prog ops Q (op :: rest) a w := by
  refine wpList_load_mid hgd ty x ho b o hx cs d (h.range o fun j v hj => ?_) hu hd hi k
  have hl := (List.getElem?_eq_some_iff.1 hj).1
  rw [← hc, List.getElem?_take_of_lt hl, List.getElem?_drop] at hj
  exact hj
theorem wpList_store_box (h : Lc T b l w) (o : Nat) (cs : List Value) (hgd : op.guard = none) (ty : TypeId) (x y : Operand) (ho : op.op = .store ty x y) (hx : a.eval x = .pointer (some ⟨b, o, none⟩)) (hy : a.eval y = .agg cs.toArray)
    (hf : o + cs.length ≤ l.length) (hi : (Try.prog.info? ty).map (·.size) = some cs.length) (h1 : ∀ v ∈ cs, v.oneCell' = true) {l' : List Value} (hl : Go.Proofs.Ythkodldldipimaa.sets l o cs = l')
    (k : ∀ w', Lc T b l' w' → Fr (On b) w w' → w'.heap.size = w.heap.size → wpList Try.prog ops Q rest (a.put op.dst undef) w') : wpList Try.prog ops Q (op :: rest) a w := by
  refine wpList_store_mid hgd ty x y ho b o cs.toArray hx hy ?_ (by simpa using hi) (all_oneCell_toArray h1) ?_
  · have : cs.toArray.size = cs.length := by simp
    rw [this]; exact h.there hf
  · have e : cs.toArray.toList = cs := by simp
    rw [e]
    exact k _ (hl ▸ h.sets cs o) (fr_sets _ _ _ _) (size_sets _ _ _ _)
theorem results_box1 {fn : Func} {t : Tmp} {ty : TypeId} (hr : fn.results = #[.cell t ty]) {tmps : Array Value} (hp : tmps.getD t undef = .pointer (some ⟨b, 0, none⟩)) (h : Lc T b l w)
    {d : TypeDesc} (hu : Try.prog.underlying ty = some d) (hd : d.isRow = true) (hi : (Try.prog.info? ty).map (·.size) = some l.length) :
    (results fn tmps).run Try.prog w = .ok (.agg l.toArray) w := by
  have := run_loadVar_mid (P := Try.prog) w b 0 ty l d (h.range 0 fun j v hj => by rw [Nat.zero_add]; exact hj) hu hd hi
  rw [Array.getD_eq_getD_getElem?] at hp
  simp [results, hr, hp, asAddr, this]
theorem results_box2 {fn : Func} {t u : Tmp} {ty : TypeId} (hr : fn.results = #[.cell t ty, .tmp u]) {tmps : Array Value} (hp : tmps.getD t undef = .pointer (some ⟨b, 0, none⟩)) (h : Lc T b l w)
    {d : TypeDesc} (hu : Try.prog.underlying ty = some d) (hd : d.isRow = true) (hi : (Try.prog.info? ty).map (·.size) = some l.length) :
    (results fn tmps).run Try.prog w = .ok (.tuple #[.agg l.toArray, tmps.getD u undef]) w := by
  have := run_loadVar_mid (P := Try.prog) w b 0 ty l d (h.range 0 fun j v hj => by rw [Nat.zero_add]; exact hj) hu hd hi
  rw [Array.getD_eq_getD_getElem?] at hp
  simp [results, hr, hp, asAddr, this]
theorem results_box3 {fn : Func} {t u v : Tmp} {ty : TypeId} (hr : fn.results = #[.cell t ty, .tmp u, .tmp v]) {tmps : Array Value} (hp : tmps.getD t undef = .pointer (some ⟨b, 0, none⟩)) (h : Lc T b l w)
    {d : TypeDesc} (hu : Try.prog.underlying ty = some d) (hd : d.isRow = true) (hi : (Try.prog.info? ty).map (·.size) = some l.length) :
    (results fn tmps).run Try.prog w = .ok (.tuple #[.agg l.toArray, tmps.getD u undef, tmps.getD v undef]) w := by
  have := run_loadVar_mid (P := Try.prog) w b 0 ty l d (h.range 0 fun j v hj => by rw [Nat.zero_add]; exact hj) hu hd hi
  rw [Array.getD_eq_getD_getElem?] at hp
  simp [results, hr, hp, asAddr, this]
end
section
variable {w w1 : World} {u u' : Value} {T T' : TypeId} {m m' : Nat} {l l' : List Value}
theorem row_ne {B n size : Nat} {e : TypeId} {xs : List Value} (hr : w.ownsRow B e size u n xs) (hm : Lc T m l w) (hT : T ≠ e) : u.ownBlock ≠ some m := by
  intro q
  rcases hr.2 with ⟨z, _⟩ | ⟨b, cap, cur, z, hb, hg, _⟩
  · rw [z] at q; cases q
  · rw [z] at q
    simp only [Value.ownBlock, Option.some.injEq] at q
    subst q
    unfold Lc at hm
    rw [hm] at hg
    injection hg with hg
    injection hg with _ hg
    exact hT hg
theorem row_row {B n size B' n' size' : Nat} {e e' : TypeId} {xs xs' : List Value} (hr : w.ownsRow B e size u n xs) (hr' : w.ownsRow B' e' size' u' n' xs') (hT : e ≠ e') : ∀ j, u.ownBlock = some j → u'.ownBlock ≠ some j := by
  intro j q q'
  rcases hr.2 with ⟨z, _⟩ | ⟨b, cap, cur, z, hb, hg, _⟩
  · rw [z] at q; cases q
  rcases hr'.2 with ⟨z', _⟩ | ⟨b', cap', cur', z', hb', hg', _⟩
  · rw [z'] at q'; cases q'
  rw [z] at q
  rw [z'] at q'
  simp only [Value.ownBlock, Option.some.injEq] at q q'
  subst q
  subst q'
  rw [hg] at hg'
  injection hg' with hg'
  injection hg' with _ hg'
  exact hT hg'
theorem lc_ne (h : Lc T m l w) (h' : Lc T' m' l' w) (hT : T ≠ T') : m ≠ m' := by
  rintro rfl
  unfold Lc at h h'
  rw [h] at h'
  injection h' with h'
  injection h' with _ h'
  exact hT h'
end
/-- Bytes as they lie in memory. -/
def bcs (l : List UInt8) : List Value := l.map fun b => Value.int .u8 b.toNat
theorem bcs_len (l : List UInt8) : (bcs l).length = l.length := by simp [bcs]
theorem bcs_append (a b : List UInt8) : bcs (a ++ b) = bcs a ++ bcs b := by simp [bcs]
theorem bcs_one (l : List UInt8) : ∀ u ∈ bcs l, u.oneCell' = true := fun u hu => by
  obtain ⟨b, _, rfl⟩ := List.mem_map.1 hu
  rfl
theorem drop_at {S : ByteArray} {i : Nat} (h : i < S.size) : S.data.toList.drop i = S[i] :: S.data.toList.drop (i + 1) := by
  rw [List.drop_eq_getElem_cons (by simpa using h)]
  rfl
end Go.Proofs.Ythkodldldipimaa
/- How letters are laid, and a page of lines: plain. -/
namespace Go.Proofs.Ythkodldldipimaa
open Go.ChangeShapes Go.WideShapes Go.ChangeAt Go.RowKit
set_option linter.unusedVariables false
set_option linter.unusedSimpArgs false
/-- How a byte is laid: as it is, great, small. -/
inductive Lt where
  | as | gr | sm
def Lt.fn : Lt → Nat
  | .as => 14
  | .gr => 22
  | .sm => 23
def Lt.val (t : Lt) : Value := .func (Fn.func t.fn) #[] #[]
def grB (c : UInt8) : UInt8 := if 97 ≤ c.toNat ∧ c.toNat ≤ 122 then c - 32 else c
def smB (c : UInt8) : UInt8 := if 65 ≤ c.toNat ∧ c.toNat ≤ 90 then c + 32 else c
def Lt.ap : Lt → UInt8 → UInt8
  | .as, c => c
  | .gr, c => grB c
  | .sm, c => smB c
theorem grI_toNat (c : UInt8) : grI (c.toNat : Int) = ((grB c).toNat : Int) := by
  unfold grI grB
  by_cases h : 97 ≤ c.toNat ∧ c.toNat ≤ 122
  · rw [if_pos h, smlB_iff.2 (by omega), UInt8.toNat_sub_of_le _ _ (by rw [UInt8.le_iff_toNat_le]; show 32 ≤ _; omega)]
    show (c.toNat : Int) - 32 = ((c.toNat - 32 : Nat) : Int)
    omega
  · rw [if_neg h]
    cases q : smlB (c.toNat : Int)
    · rfl
    · have := smlB_iff.1 q; omega
theorem smI_toNat (c : UInt8) : smI (c.toNat : Int) = ((smB c).toNat : Int) := by
  unfold smI smB
  by_cases h : 65 ≤ c.toNat ∧ c.toNat ≤ 90
  · rw [if_pos h, grtB_iff.2 (by omega), UInt8.toNat_add]
    show (c.toNat : Int) + 32 = (((c.toNat + 32) % 256 : Nat) : Int)
    omega
  · rw [if_neg h]
    cases q : grtB (c.toNat : Int)
    · rfl
    · have := grtB_iff.1 q; omega
/-- A page: how the next byte is laid, all others; the lines that are done; the one that is open. -/
structure Pg where
  nx : Lt
  al : Lt
  ls : List (List UInt8)
  op : List UInt8
def Pg.put (p : Pg) (c : UInt8) : Pg := { p with nx := p.al, op := p.op ++ [p.nx.ap c] }
def Pg.lay (p : Pg) (s : List UInt8) : Pg := s.foldl Pg.put p
def Pg.fin (p : Pg) : Pg := { p with ls := p.ls ++ [p.op], op := [] }
def Pg.say (p : Pg) (c : Nat) : Pg :=
  if c = 117 then { p with nx := .gr } else if c = 108 then { p with nx := .sm }
  else if c = 85 then { p with nx := .gr, al := .gr } else if c = 76 then { p with nx := .sm, al := .sm } else { p with nx := .as, al := .as }
/-- A piece of a replacement. -/
structure Tm where
  kd : Nat
  tx : List UInt8
  n : Int
  c : Nat
def Tm.cells (t : Tm) : List Value := [.int .u8 t.kd, .string ⟨t.tx.toArray⟩, .int .i64 t.n, .int .u8 t.c]
def flatT (l : List Tm) : List Value := l.flatMap Tm.cells
/-- A match: its 22 numbers. -/
structure Mt where
  fm : Int
  tt : Int
  bg : List Int
  ed : List Int
def nums (l : List Int) : List Value := l.map fun i => Value.int .i64 i
def Mt.cells (m : Mt) : List Value := .int .i64 m.fm :: .int .i64 m.tt :: (nums m.bg ++ nums m.ed)
/-- What a group remembers of a line. -/
def grpF (line : List UInt8) (m : Mt) (n : Int) : List UInt8 :=
  if n < 0 ∨ 10 ≤ n then [] else
    let b := m.bg.getD n.toNat 0
    let e := m.ed.getD n.toNat 0
    if b < 0 ∨ e < b ∨ (line.length : Int) < e then [] else (line.drop b.toNat).take (e.toNat - b.toNat)
def stepX (line : List UInt8) (m : Mt) (p : Pg) (t : Tm) : Pg :=
  if t.kd = 1 then p.lay t.tx else if t.kd = 2 then p.lay (grpF line m t.n) else if t.kd = 3 then p.fin else if t.kd = 4 then p.say t.c else p
def pg0 : Pg := ⟨.as, .as, [], []⟩
def pageF (line : List UInt8) (m : Mt) (l : List Tm) : Pg := l.foldl (stepX line m) pg0
def linesF (l : List Tm) (line : List UInt8) (m : Mt) : List (List UInt8) := (pageF line m l).fin.ls
/-- Lines as they lie. -/
def strs (l : List (List UInt8)) : List Value := l.map fun s => Value.string ⟨s.toArray⟩
theorem strs_len (l : List (List UInt8)) : (strs l).length = l.length := by simp [strs]
theorem strs_append (a b : List (List UInt8)) : strs (a ++ b) = strs a ++ strs b := by simp [strs]
theorem lay_snoc (p : Pg) (s : List UInt8) (c : UInt8) : p.lay (s ++ [c]) = (p.lay s).put c := by simp [Pg.lay]
theorem lay_ls (p : Pg) (s : List UInt8) : (p.lay s).ls = p.ls := by
  induction s generalizing p with
  | nil => rfl
  | cons c s ih => exact ih (p.put c)
theorem lay_al (p : Pg) (s : List UInt8) : (p.lay s).al = p.al := by
  induction s generalizing p with
  | nil => rfl
  | cons c s ih => exact ih (p.put c)
theorem lay_len (p : Pg) (s : List UInt8) : (p.lay s).op.length = p.op.length + s.length := by
  induction s generalizing p with
  | nil => rfl
  | cons c s ih =>
    have := ih (p.put c)
    have e : (p.put c).op.length = p.op.length + 1 := by simp [Pg.put]
    simp only [List.length_cons]
    show ((p.put c).lay s).op.length = _
    omega
theorem say_ls (p : Pg) (c : Nat) : (p.say c).ls = p.ls ∧ (p.say c).op = p.op := by unfold Pg.say; (repeat' split) <;> exact ⟨rfl, rfl⟩
end Go.Proofs.Ythkodldldipimaa
/- How a byte is laid: write, say, alike; a page in memory. -/
namespace Go.Proofs.Ythkodldldipimaa
open Go.ChangeShapes Go.WideShapes Go.ChangeAt Go.RowKit
set_option linter.unusedVariables false
set_option linter.unusedSimpArgs false
theorem kSmall_any (c : Int) (w : World) :
    Calls Try.prog 23 #[.int .u8 c] w fun e w' => e = .returned (.int .u8 (smI c)) ∧ w' = w := by
  unfold smI
  cases h : grtB c
  · go_enter Try.func23, Try.ntmps23
    go_wp2_with (go_at_call 26; refine (isGreat_any _ _).mono ?_; rintro e w' ⟨rfl, rfl⟩)
    go_ret
    exact ⟨rfl, rfl⟩
  · obtain ⟨h1, h2⟩ := grtB_iff.1 h
    go_enter Try.func23, Try.ntmps23
    go_wp2_with (go_at_call 26; refine (isGreat_any _ _).mono ?_; rintro e w' ⟨rfl, rfl⟩)
    go_ret
    exact ⟨ret_u8 (by omega), rfl⟩
theorem kGreat_any (c : Int) (w : World) :
    Calls Try.prog 22 #[.int .u8 c] w fun e w' => e = .returned (.int .u8 (grI c)) ∧ w' = w := by
  unfold grI
  cases h : smlB c
  · go_enter Try.func22, Try.ntmps22
    go_wp2_with (go_at_call 25; refine (isSmall_any _ _).mono ?_; rintro e w' ⟨rfl, rfl⟩)
    go_ret
    exact ⟨rfl, rfl⟩
  · obtain ⟨h1, h2⟩ := smlB_iff.1 h
    go_enter Try.func22, Try.ntmps22
    go_wp2_with (go_at_call 25; refine (isSmall_any _ _).mono ?_; rintro e w' ⟨rfl, rfl⟩)
    go_ret
    exact ⟨ret_u8 (by omega), rfl⟩
theorem asItIs_any (c : Int) (w : World) :
    Calls Try.prog 14 #[.int .u8 c] w fun e w' => e = .returned (.int .u8 c) ∧ w' = w := by
  go_enter Try.func14, Try.ntmps14
  go_wp2
  go_ret
  exact ⟨rfl, rfl⟩
theorem letter_any (t : Lt) (c : UInt8) (w : World) :
    Calls Try.prog t.fn #[.int .u8 c.toNat] w fun e w' => e = .returned (.int .u8 ((t.ap c).toNat : Int)) ∧ w' = w := by
  cases t
  · exact asItIs_any _ w
  · have := kGreat_any (c.toNat : Int) w; rw [grI_toNat] at this; exact this
  · have := kSmall_any (c.toNat : Int) w; rw [smI_toNat] at this; exact this
section
variable {b : Nat} {nx al : Lt} {vl vo : Value} {w : World}
theorem write_any (h : Lc 44 b [nx.val, al.val, vl, vo] w) (c : UInt8) :
    Calls Try.prog 21 #[.pointer (some ⟨b, 0, none⟩), .int .u8 c.toNat] w fun e w' => e = .returned (.int .u8 ((nx.ap c).toNat : Int)) ∧ w' = w.setCell ⟨b, 0, none⟩ al.val := by
  have c0 := h.at (j := 0) rfl
  have c1 := h.at (j := 1) rfl
  have f0 := h.fz 0
  have HL : Hid _ := letter_any nx c w
  unfold Lt.val at c1 ⊢
  obtain ⟨A, hA⟩ : ∃ A, al.fn = A := ⟨_, rfl⟩
  rw [hA] at c1 ⊢
  obtain ⟨R, hR⟩ : ∃ R : Nat, (nx.ap c).toNat = R := ⟨_, rfl⟩
  rw [hR] at HL ⊢
  obtain ⟨C, hC⟩ : ∃ C : Nat, c.toNat = C := ⟨_, rfl⟩
  rw [hC] at HL ⊢
  clear h hA hR hC
  cases nx
  all_goals
    simp only [Lt.val, Lt.fn] at c0 HL
    go_enter Try.func21, Try.ntmps21
    go_wp2_with fail
    refine Calls.mono HL.out ?_
    rintro e w' ⟨rfl, rfl⟩
    go_wp2_with fail
    go_ret
    exact ⟨rfl, rfl⟩
end
theorem alike_any (t : Lt) (w : World) :
    Calls Try.prog 13 #[t.val] w fun e w' => e = .returned (.agg #[t.val, t.val]) ∧ Kp w w' := by
  have HK : Hid _ := kp_alloc w (.cells #[t.val, t.val] 41)
  unfold Lt.val at HK ⊢
  obtain ⟨A, hA⟩ : ∃ A, t.fn = A := ⟨_, rfl⟩
  rw [hA] at HK ⊢
  clear hA
  have HL : Hid _ := Lc.new w [Value.func (Fn.func A) #[] #[], Value.func (Fn.func A) #[] #[]] 41
  go_enter Try.func13, Try.ntmps13
  go_wp2_with fail
  refine bodyPost_ret (results_box1 rfl rfl HL.out Try.underlying41 rfl (by kernel_rfl)) rfl ?_
  exact ⟨rfl, HK.out⟩
end Go.Proofs.Ythkodldldipimaa
/- A page in memory; what a call on it leaves as it was; say. -/
namespace Go.Proofs.Ythkodldldipimaa
open Go.ChangeShapes Go.WideShapes Go.ChangeAt Go.RowKit
set_option linter.unusedVariables false
set_option linter.unusedSimpArgs false
/-- What lay below 'n0' is as it was, and so is all that is no page, no line, no byte. -/
structure Ky (n0 : Nat) (w w' : World) : Prop where
  bel : Below n0 w w'
  oth : ∀ (k : Nat) (c : Array Value) (e : TypeId) (f : Nat × Nat), w.heap[k]? = some (Obj.cells c e f) → e ≠ 44 → e ≠ 9 → e ≠ 5 → w'.heap[k]? = some (Obj.cells c e f)
section
variable {n0 : Nat} {w w1 w2 : World}
theorem Ky.refl (n0 : Nat) (w : World) : Ky n0 w w := ⟨Below.refl _ _, fun _ _ _ _ h _ _ _ => h⟩
theorem Ky.trans (h : Ky n0 w w1) (k : Ky n0 w1 w2) : Ky n0 w w2 := ⟨h.bel.trans k.bel, fun j c e f q a b d => k.oth j c e f (h.oth j c e f q a b d) a b d⟩
theorem Ky.kp (k : Kp w w1) (hn : n0 ≤ w.heap.size) : Ky n0 w w1 := ⟨k.mono hn, fun j c e f q _ _ _ => by rw [k.block j (Array.getElem?_eq_some_iff.1 q).1]; exact q⟩
theorem Ky.size (h : Ky n0 w w1) : w.heap.size ≤ w1.heap.size := h.bel.size
theorem Ky.set {b off : Nat} {l : List Value} (h : Lc 44 b l w) (hb : n0 ≤ b) (v : Value) : Ky n0 w (w.setCell ⟨b, off, none⟩ v) :=
  ⟨⟨rfl, rfl, rfl, by rw [size_setCell]; exact Nat.le_refl _, fun k hk => heap_setCell_other (by omega)⟩, fun k c e f q a _ _ => by
    rw [heap_setCell_other]; · exact q
    rintro rfl
    unfold Lc at h
    rw [h] at q
    injection q with q
    injection q with _ q
    exact a q.symm⟩
theorem Ky.grown {v : Value} {e : TypeId} {size n : Nat} {xs : List Value} (hr : w.ownsRow n0 e size v n xs) (he : e = 9 ∨ e = 5) (hn : n0 ≤ w.heap.size) (hg : w.grownBy w1 v.ownBlock) : Ky n0 w w1 := by
  refine ⟨⟨hg.os, hg.tape, hg.output, hg.size, fun k hk => hg.block k (by omega) fun e => by have := (hr.lt k e.symm).1; omega⟩, fun k c e' f q _ a b => ?_⟩
  · rw [hg.block k (Array.getElem?_eq_some_iff.1 q).1 fun e1 => ?_]
    · exact q
    rcases hr.2 with ⟨z, _⟩ | ⟨g, cap, cur, z, hb, hgg, _⟩
    · rw [z] at e1; cases e1
    · rw [z] at e1
      simp only [Value.ownBlock, Option.some.injEq] at e1
      subst e1
      rw [hgg] at q
      injection q with q
      injection q with _ q
      rcases he with rfl | rfl
      · exact a q.symm
      · exact b q.symm
end
/-- A page in memory. -/
structure Pw (n0 b : Nat) (p : Pg) (vl vo : Value) (w : World) : Prop where
  box : Lc 44 b [p.nx.val, p.al.val, vl, vo] w
  rl : w.ownsRow n0 9 1 vl p.ls.length (strs p.ls)
  ro : w.ownsRow n0 5 1 vo p.op.length (bcs p.op)
  ge : n0 ≤ b
/-- What a call on a page leaves. -/
def Pc (n0 b : Nat) (p : Pg) (w w' : World) : Prop := ∃ vl vo, Pw n0 b p vl vo w' ∧ Ky n0 w w'
section
variable {n0 b : Nat} {p : Pg} {vl vo : Value} {w w1 : World}
theorem Pw.kp (h : Pw n0 b p vl vo w) (k : Kp w w1) : Pw n0 b p vl vo w1 := ⟨h.box.kp k, row_kp h.rl k, row_kp h.ro k, h.ge⟩
theorem Pw.le (h : Pw n0 b p vl vo w) : n0 ≤ w.heap.size := Nat.le_of_lt (Nat.lt_of_le_of_lt h.ge h.box.lt)
/-- The cells of the page are turned, its rows stay. -/
theorem Pw.turn (h : Pw n0 b p vl vo w) {off : Nat} {v : Value} {n a : Lt} (hl : [p.nx.val, p.al.val, vl, vo].set off v = [n.val, a.val, vl, vo]) : Pw n0 b { p with nx := n, al := a } vl vo (w.setCell ⟨b, off, none⟩ v) := by
  have f := fr_set b off v w
  refine ⟨by have := h.box.set off v; rw [hl] at this; exact this, row_fr h.rl f fun j hj q => ?_, row_fr h.ro f fun j hj q => ?_, h.ge⟩
  · unfold On at q; subst q; exact row_ne h.rl h.box (by decide) hj
  · unfold On at q; subst q; exact row_ne h.ro h.box (by decide) hj
set_option maxHeartbeats 1000000 in
theorem say_any (h : Pw n0 b p vl vo w) (c : Nat) (hc : c < 256) :
    Calls Try.prog 18 #[.pointer (some ⟨b, 0, none⟩), .int .u8 c] w fun e w' => e = .returned (.tuple #[]) ∧ Pw n0 b (p.say c) vl vo w' ∧ Ky n0 w w' := by
  have c0 := h.box.at (j := 0) rfl
  have c1 := h.box.at (j := 1) rfl
  have f0 := h.box.fz 0
  have f1 := h.box.fz 1
  by_cases h1 : c = 117
  · subst h1
    have HP : Hid (Pw n0 b (p.say 117) vl vo (w.setCell ⟨b, 0, none⟩ Lt.gr.val) ∧ Ky n0 w (w.setCell ⟨b, 0, none⟩ Lt.gr.val)) := ⟨h.turn (n := .gr) (a := p.al) rfl, Ky.set h.box h.ge _⟩
    clear h
    go_enter Try.func18, Try.ntmps18
    go_wp2_with fail
    go_end0
    exact ⟨rfl, HP.out⟩
  by_cases h2 : c = 108
  · subst h2
    have HP : Hid (Pw n0 b (p.say 108) vl vo (w.setCell ⟨b, 0, none⟩ Lt.sm.val) ∧ Ky n0 w (w.setCell ⟨b, 0, none⟩ Lt.sm.val)) := ⟨h.turn (n := .sm) (a := p.al) rfl, Ky.set h.box h.ge _⟩
    clear h
    go_enter Try.func18, Try.ntmps18
    go_wp2_with fail
    go_end0
    exact ⟨rfl, HP.out⟩
  have H : ∀ t : Lt, Hid (∀ w1, Kp w w1 → (w1.cell? ⟨b, 0, none⟩ = some p.nx.val ∧ w1.cell? ⟨b, 1, none⟩ = some p.al.val ∧ w1.frozen? ⟨b, 0, none⟩ = false ∧ w1.frozen? ⟨b, 1, none⟩ = false) ∧ Hid (Pw n0 b { p with nx := t, al := t } vl vo ((w1.setCell ⟨b, 0, none⟩ t.val).setCell ⟨b, 1, none⟩ t.val) ∧ Ky n0 w ((w1.setCell ⟨b, 0, none⟩ t.val).setCell ⟨b, 1, none⟩ t.val))) := by
    intro t w1 k
    have h1 := h.kp k
    have h2 := h1.turn (n := t) (a := p.al) (off := 0) (v := t.val) rfl
    have h3 := h2.turn (n := t) (a := t) (off := 1) (v := t.val) rfl
    exact ⟨⟨h1.box.at rfl, h1.box.at rfl, h1.box.fz _, h1.box.fz _⟩, h3, ((Ky.kp k h.le).trans (Ky.set h1.box h1.ge _)).trans (Ky.set h2.box h2.ge _)⟩
  have HA : Hid (∀ t w, Calls Try.prog 13 #[Lt.val t] w fun e w' => e = .returned (.agg #[t.val, t.val]) ∧ Kp w w') := fun t w => alike_any t w
  have e1 : ((c : Int) == 117) = false := by simp; omega
  have e2 : ((c : Int) == 108) = false := by simp; omega
  clear h c0 c1 f0 f1
  by_cases h3 : c = 85
  · subst h3
    have HT := H .gr
    rw [show p.say 85 = { p with nx := .gr, al := .gr } from rfl]
    clear H h1 h2 e1 e2
    go_enter Try.func18, Try.ntmps18
    go_wp2_with fail
    refine Calls.mono (HA.out Lt.gr w) ?_
    rintro e w1 ⟨rfl, k⟩
    obtain ⟨⟨c0, c1, f0, f1⟩, HP⟩ := HT.out w1 k
    unfold Lt.val at HP ⊢
    simp only [Lt.fn] at HP ⊢
    clear HT HA k
    go_wp2_with fail
    go_end0
    exact ⟨rfl, HP.out⟩
  have e3 : ((c : Int) == 85) = false := by simp; omega
  by_cases h4 : c = 76
  · subst h4
    have HT := H .sm
    rw [show p.say 76 = { p with nx := .sm, al := .sm } from rfl]
    clear H h1 h2 e1 e2
    go_enter Try.func18, Try.ntmps18
    go_wp2_with fail
    refine Calls.mono (HA.out Lt.sm w) ?_
    rintro e w1 ⟨rfl, k⟩
    obtain ⟨⟨c0, c1, f0, f1⟩, HP⟩ := HT.out w1 k
    unfold Lt.val at HP ⊢
    simp only [Lt.fn] at HP ⊢
    clear HT HA k
    go_wp2_with fail
    go_end0
    exact ⟨rfl, HP.out⟩
  have e4 : ((c : Int) == 76) = false := by simp; omega
  have HT := H .as
  rw [show p.say c = { p with nx := .as, al := .as } by unfold Pg.say; rw [if_neg h1, if_neg h2, if_neg h3, if_neg h4]]
  clear H h1 h2 h3 h4
  go_enter Try.func18, Try.ntmps18
  go_wp2_with fail
  refine Calls.mono (HA.out Lt.as w) ?_
  rintro e w1 ⟨rfl, k⟩
  obtain ⟨⟨c0, c1, f0, f1⟩, HP⟩ := HT.out w1 k
  unfold Lt.val at HP ⊢
  simp only [Lt.fn] at HP ⊢
  clear HT HA k
  go_wp2_with fail
  go_end0
  exact ⟨rfl, HP.out⟩
end
end Go.Proofs.Ythkodldldipimaa
/- A line ends: endLine. -/
namespace Go.Proofs.Ythkodldldipimaa
open Go.ChangeShapes Go.WideShapes Go.ChangeAt Go.RowKit
set_option linter.unusedVariables false
set_option linter.unusedSimpArgs false
theorem infoStr : (Try.prog.info? 9).map (fun i => (i.zero, i.size, i.bytes)) = some (some (.string ⟨#[]⟩), 1, 16) := by kernel_rfl
section
variable {n0 b : Nat} {p : Pg} {vl vo : Value} {w w1 w2 : World}
theorem bytes_str {xs : List UInt8} {W : World} (h : W.ownsRow n0 5 1 vo xs.length (bcs xs)) : (convert 37 9 vo).run Try.prog W = .ok (.string ⟨xs.toArray⟩) W := by
  rcases h.2 with ⟨rfl, q⟩ | ⟨g, cap, cur, rfl, _, hg, h1, h2, h3, h4⟩
  · have : xs = [] := List.eq_nil_of_length_eq_zero q
    subst this
    rw [run_convert_bytes_string W 37 9 5 none 0 0 Try.underlying37 Try.underlying5 Try.underlying9]
    simp [Conv.bytesToString]
    rfl
  · refine run_convert_bytes_back W 37 9 5 ⟨g, 0, none⟩ cap xs Try.underlying37 Try.underlying5 Try.underlying9 fun j hj => ?_
    rw [addr_add, cell_at hg]
    have : (bcs xs)[j]? = some (.int .u8 (xs[j].toNat : Int)) := by simp [bcs, hj]
    rw [← h4, List.getElem?_take] at this
    split at this
    · simpa using this
    · cases this
/-- Behind a line that has ended. -/
theorem Pw.line (h : Pw n0 b p vl vo w) {v' : Value} (hw1 : w1 = w.alloc (.cells #[.string ⟨p.op.toArray⟩] 9))
    (ho : w2.ownsRow n0 9 1 v' (p.ls.length + 1) (strs p.ls ++ [.string ⟨p.op.toArray⟩])) (hg : w1.grownBy w2 vl.ownBlock) :
    (w2.cell? ⟨b, 2, none⟩ = some vl ∧ w2.frozen? ⟨b, 2, none⟩ = false) ∧ Hid (Pw n0 b { p with ls := p.ls ++ [p.op] } v' vo (w2.setCell ⟨b, 2, none⟩ v') ∧ Ky n0 w (w2.setCell ⟨b, 2, none⟩ v')) := by
  have h2 : Pw n0 b p vl vo w1 := by rw [hw1]; exact h.kp (kp_alloc _ _)
  have ky1 : Ky n0 w w1 := by rw [hw1]; exact Ky.kp (kp_alloc _ _) h.le
  have hb : Lc 44 b [p.nx.val, p.al.val, vl, vo] w2 := h2.box.heap (hg.block b h2.box.lt fun e => row_ne h2.rl h2.box (by decide) e.symm)
  have hro : w2.ownsRow n0 5 1 vo p.op.length (bcs p.op) :=
    row_fr h2.ro (S := fun k => vl.ownBlock = some k) ⟨hg.os, hg.tape, hg.output, hg.size, fun k hk hn => hg.block k hk fun e => hn e.symm⟩ fun j hj q => row_row h2.rl h2.ro (by decide) j q hj
  have ky2 : Ky n0 w w2 := ky1.trans (Ky.grown h2.rl (.inl rfl) h2.le hg)
  refine ⟨⟨hb.at rfl, hb.fz _⟩, ⟨hb.set 2 v', ?_, row_fr hro (fr_set b 2 v' w2) fun j hj q => ?_, h.ge⟩, ky2.trans (Ky.set hb h.ge _)⟩
  · rw [List.length_append, strs_append]
    exact row_fr ho (fr_set b 2 v' w2) fun j hj q => by unfold On at q; subst q; exact row_ne ho hb (by decide) hj
  · unfold On at q; subst q; exact row_ne hro hb (by decide) hj
theorem row_zero {v : Value} {n : Nat} {xs : List Value} {a : Option Addr} {c : Nat} (hr : w.ownsRow n0 5 1 (.slice a n c) n xs) : w.ownsRow n0 5 1 (.slice a 0 c) 0 [] := by
  rcases hr.2 with ⟨q, e⟩ | ⟨g, cap, cur, e, hb, hg, h1, h2, h3, h4⟩
  · injection q with q1 q2 q3
    subst q1 q3
    exact World.ownsRow_nil _ _ _ _
  · injection e with e1 e2 e3
    subst e1 e3
    exact ⟨by simp, .inr ⟨g, c, cur, rfl, hb, hg, Nat.zero_le _, h2, h3, by simp⟩⟩
theorem Pw.empty {a : Option Addr} {n c : Nat} (h : Pw n0 b p vl (.slice a n c) w) (hn : p.op.length = n) : Pw n0 b { p with op := [] } vl (.slice a 0 c) (w.setCell ⟨b, 3, none⟩ (.slice a 0 c)) ∧ Ky n0 w (w.setCell ⟨b, 3, none⟩ (.slice a 0 c)) := by
  have f := fr_set b 3 (Value.slice a 0 c) w
  have hr : w.ownsRow n0 5 1 (.slice a 0 c) 0 [] := row_zero (n := n) (xs := bcs p.op) (v := vl) (by have := h.ro; rw [hn] at this; exact this)
  refine ⟨⟨h.box.set 3 _, row_fr h.rl f fun j hj q => ?_, row_fr hr f fun j hj q => ?_, h.ge⟩, Ky.set h.box h.ge _⟩
  · unfold On at q; subst q; exact row_ne h.rl h.box (by decide) hj
  · unfold On at q; subst q; exact row_ne hr h.box (by decide) hj
set_option maxHeartbeats 4000000 in
set_option maxRecDepth 100000 in
theorem end_any (h : Pw n0 b p vl vo w) (hS : p.ls.length ≤ 8000000) :
    Calls Try.prog 17 #[.pointer (some ⟨b, 0, none⟩)] w fun e w' => e = .returned (.tuple #[]) ∧ Pc n0 b p.fin w w' := by
  obtain ⟨i9, hi9, z0, z1, z2⟩ := info_parts infoStr
  have hd := h.kp (kp_drew w)
  obtain ⟨va, vc, rfl, v1, v2⟩ := owns_form h.rl
  obtain ⟨oa, oc, rfl, v3, v4⟩ := owns_form h.ro
  obtain ⟨M, hM⟩ : ∃ M, p.ls.length = M := ⟨_, rfl⟩
  obtain ⟨K, hK⟩ : ∃ K, p.op.length = K := ⟨_, rfl⟩
  obtain ⟨X, hX⟩ : ∃ X : ByteArray, (⟨p.op.toArray⟩ : ByteArray) = X := ⟨_, rfl⟩
  have HD : Hid (Ky n0 w w.drew) := Ky.kp (kp_drew w) h.le
  have HM : Hid (∀ v' w2, w2.ownsRow n0 9 1 v' (M + 1) (strs p.ls ++ [.string X]) → (w.alloc (.cells #[.string X] 9)).drew.grownBy w2 (Value.slice va M vc).ownBlock →
      (w2.cell? ⟨b, 2, none⟩ = some (Value.slice va M vc) ∧ w2.frozen? ⟨b, 2, none⟩ = false) ∧ Hid (Pw n0 b { p with ls := p.ls ++ [p.op] } v' (.slice oa K oc) (w2.setCell ⟨b, 2, none⟩ v') ∧ Ky n0 w.drew (w2.setCell ⟨b, 2, none⟩ v'))) := by
    intro v' w2 a1 a2
    rw [← hM, ← hX] at a1
    rw [← hM] at a2
    rw [← hM, ← hK]
    exact hd.line (w1 := (w.alloc (.cells #[.string X] 9)).drew) (by rw [hX]; rfl) a1 a2
  have kc : ∀ W, Kp w W → (convert 37 9 (.slice oa K oc)).run Try.prog W = .ok (.string X) W := fun W k => by
    have := bytes_str (row_kp h.ro k)
    rw [hK, hX] at this; exact this
  have kc1 := kc w (Below.refl _ _)
  have kc2 := kc w.drew (kp_drew w)
  have h1a := (h.kp (kp_alloc w (.cells #[.string X] 9))).kp (kp_drew _)
  have c2 : w.cell? ⟨b, 2, none⟩ = some (.slice va M vc) := by rw [← hM]; exact h.box.at rfl
  have c3 : w.cell? ⟨b, 3, none⟩ = some (.slice oa K oc) := by rw [← hK]; exact h.box.at rfl
  have c22 : (w.alloc (.cells #[.string X] 9)).cell? ⟨b, 2, none⟩ = some (.slice va M vc) := by rw [← hM]; exact (h.kp (kp_alloc w (.cells #[.string X] 9))).box.at rfl
  have HR : Hid ((w.alloc (.cells #[.string X] 9)).drew.ownsRow n0 9 1 (.slice va M vc) M (strs p.ls)) := by
    have := h1a.rl
    rw [← hM]; exact this
  have HN0 : Hid (n0 ≤ (w.alloc (.cells #[.string X] 9)).drew.heap.size) := h1a.le
  have HSZ : Hid ((w.alloc (.cells #[.string X] 9)).drew.heap.size = w.heap.size + 1) := alloc_size _ _
  have HNW : Hid (∀ j u, ([.string X] : List Value)[j]? = some u → (w.alloc (.cells #[.string X] 9)).drew.cell? ((⟨w.heap.size, 0, none⟩ : Addr).add j) = some u) := cell_one_new w _ _
  have HK : Hid (p.op.length = K) := hK
  rw [hM] at hS
  rw [hK] at v3
  unfold maxLen at v4
  clear h hd hM hK hX h1a kc v1 v2
  go_enter Try.func17, Try.ntmps17
  go_upto_region 0 with fail
  go_region_law (refine step_append_lies _ rfl (.tmp 6) (.tmp 12) 26 rfl n0 9 i9 _ 1 16 Try.underlying26 hi9 z0 z1 z2 rfl (by decide) (.slice va M vc) M (strs p.ls) rfl HR.out ⟨w.heap.size, 0, none⟩ 1 1 [.string X] rfl rfl HNW.out (by simp [Value.oneCell']) (by omega) (by unfold maxLen; omega) (by omega) HN0.out (w.heap.size + 1) HSZ.out ?_; intro g cp w2 q1 q2 q3 q4; clear q3 q4; obtain ⟨⟨d2, f2⟩, HF⟩ := HM.out _ w2 q1 q2; clear q1 q2)
  all_goals
    obtain ⟨W3, hW3⟩ : ∃ W3, w2.setCell ⟨b, 2, none⟩ (.slice (some ⟨g, 0, none⟩) (M + 1) cp) = W3 := ⟨_, rfl⟩
    rw [hW3] at HF ⊢
    have d3 : W3.cell? ⟨b, 3, none⟩ = some (.slice oa K oc) := HF.out.1.box.at rfl
    have g3 : W3.frozen? ⟨b, 3, none⟩ = false := HF.out.1.box.fz _
    have HE : Hid (Pc n0 b p.fin w (W3.setCell ⟨b, 3, none⟩ (.slice oa 0 oc))) := by
      obtain ⟨a1, a2⟩ := HF.out.1.empty HK.out
      exact ⟨_, _, a1, (HD.out.trans HF.out.2).trans a2⟩
    clear hW3 HF HM HR kc1 kc2 c2 c3 c22 d2 f2
    go_wp2_with fail
    go_end0
    exact ⟨rfl, HE.out⟩
end
end Go.Proofs.Ythkodldldipimaa
/- What a group remembers: group. -/
namespace Go.Proofs.Ythkodldldipimaa
open Go.ChangeShapes Go.WideShapes Go.ChangeAt Go.RowKit
set_option linter.unusedVariables false
set_option linter.unusedSimpArgs false
/-- The match's 22 numbers stand. -/
structure Mt.fit (m : Mt) : Prop where
  b : m.bg.length = 10
  e : m.ed.length = 10
theorem Mt.len {m : Mt} (h : m.fit) : m.cells.length = 22 := by simp [Mt.cells, nums, h.b, h.e]
theorem Mt.getB {m : Mt} (h : m.fit) {k : Nat} (hk : k < 10) : m.cells[2 + k]? = some (.int .i64 (m.bg.getD k 0)) := by
  simp only [Mt.cells]
  rw [show 2 + k = (k + 1) + 1 by omega, List.getElem?_cons_succ, List.getElem?_cons_succ, List.getElem?_append_left (by simp [nums, h.b]; exact hk)]
  simp [nums, List.getElem?_eq_getElem (show k < m.bg.length by rw [h.b]; exact hk)]
theorem Mt.getE {m : Mt} (h : m.fit) {k : Nat} (hk : k < 10) : m.cells[12 + k]? = some (.int .i64 (m.ed.getD k 0)) := by
  simp only [Mt.cells]
  have e : (nums m.bg).length = 10 := by simp [nums, h.b]
  rw [show 12 + k = (10 + k + 1) + 1 by omega, List.getElem?_cons_succ, List.getElem?_cons_succ, List.getElem?_append_right (by rw [e]; omega), e, show 10 + k - 10 = k by omega]
  simp [nums, List.getElem?_eq_getElem (show k < m.ed.length by rw [h.e]; exact hk)]
theorem mt_one (m : Mt) : ∀ v ∈ m.cells, v.oneCell' = true := by
  intro v hv
  simp only [Mt.cells, List.mem_cons, List.mem_append, nums, List.mem_map] at hv
  rcases hv with rfl | rfl | ⟨_, _, rfl⟩ | ⟨_, _, rfl⟩ <;> rfl
set_option maxHeartbeats 4000000 in
set_option maxRecDepth 100000 in
theorem ogroup_any (L : ByteArray) (m : Mt) (hm : m.fit) (n : Int) (w : World) :
    Calls Try.prog 16 #[.string L, .agg m.cells.toArray, .int .i64 n] w fun e w' => e = .returned (.string ⟨(grpF L.data.toList m n).toArray⟩) ∧ Kp w w' := by
  have HK : Hid (Kp w (w.alloc (.cells m.cells.toArray 25))) := kp_alloc _ _
  by_cases h0 : n < 0 ∨ 10 ≤ n
  · have e0 : grpF L.data.toList m n = [] := by unfold grpF; rw [if_pos h0]
    rw [e0]
    clear e0
    by_cases h1 : n < 0
    · have d1 : decide (n < 0) = true := decide_eq_true h1
      clear h0
      go_enter Try.func16, Try.ntmps16
      go_wp2_with fail
      go_ret
      exact ⟨rfl, HK.out⟩
    · have h2 : 10 ≤ n := by omega
      have d1 : decide (n < 0) = false := decide_eq_false h1
      have d2 : decide (10 ≤ n) = true := decide_eq_true h2
      clear h0
      go_enter Try.func16, Try.ntmps16
      go_wp2_with fail
      go_ret
      exact ⟨rfl, HK.out⟩
  obtain ⟨k, rfl⟩ : ∃ k : Nat, n = (k : Int) := ⟨n.toNat, by omega⟩
  have hk : k < 10 := by omega
  have d1 : decide ((k : Int) < 0) = false := decide_eq_false (by omega)
  have d2 : decide (10 ≤ (k : Int)) = false := decide_eq_false (by omega)
  have hL := Lc.new w m.cells 25
  have c1 := hL.at (Mt.getB hm hk)
  have c2 := hL.at (Mt.getE hm hk)
  obtain ⟨B, hB⟩ : ∃ B, m.bg.getD k 0 = B := ⟨_, rfl⟩
  obtain ⟨E, hE⟩ : ∃ E, m.ed.getD k 0 = E := ⟨_, rfl⟩
  rw [hB] at c1
  rw [hE] at c2
  obtain ⟨N, hN⟩ : ∃ N, L.size = N := ⟨_, rfl⟩
  have hNl : L.data.toList.length = N := by rw [← hN]; simp
  have eg : grpF L.data.toList m (k : Int) = if B < 0 ∨ E < B ∨ (N : Int) < E then [] else (L.data.toList.drop B.toNat).take (E.toNat - B.toNat) := by
    unfold grpF
    rw [if_neg (by omega)]
    simp only [Int.toNat_natCast, hB, hE, hNl]
  obtain ⟨W, hW⟩ : ∃ W, w.alloc (.cells m.cells.toArray 25) = W := ⟨_, rfl⟩
  have HW : Hid (w.alloc (.cells m.cells.toArray 25) = W) := hW
  rw [hW] at c1 c2 HK
  have HD : Hid (∀ n, Kp w (W.drewN n)) := fun n => kp_trans HK.out (kp_drewN _ _)
  have HZ : Hid (L.size = N) := hN
  rw [eg]
  clear h0 hL hB hE hW hNl eg HK
  by_cases h1 : B < 0
  · have b1 : decide (B < 0) = true := decide_eq_true h1
    rw [if_pos (.inl h1)]
    go_enter Try.func16, Try.ntmps16
    go_upto_region 3 with fail
    rw [HW.out]
    go_quiet (fail)
    go_wp2_with fail
    go_ret
    exact ⟨rfl, HD.out _⟩
  have b1 : decide (B < 0) = false := decide_eq_false h1
  by_cases h2 : E < B
  · have b2 : decide (E < B) = true := decide_eq_true h2
    rw [if_pos (.inr (.inl h2))]
    go_enter Try.func16, Try.ntmps16
    go_upto_region 3 with fail
    rw [HW.out]
    go_quiet (fail)
    go_wp2_with fail
    go_ret
    exact ⟨rfl, HD.out _⟩
  have b2 : decide (E < B) = false := decide_eq_false h2
  by_cases h3 : (N : Int) < E
  · have b3 : decide ((N : Int) < E) = true := decide_eq_true h3
    rw [if_pos (.inr (.inr h3))]
    go_enter Try.func16, Try.ntmps16
    go_upto_region 3 with fail
    rw [HW.out]
    go_quiet (fail)
    go_wp2_with fail
    go_ret
    exact ⟨rfl, HD.out _⟩
  have b3 : decide ((N : Int) < E) = false := decide_eq_false h3
  rw [if_neg (by omega)]
  obtain ⟨x, rfl⟩ : ∃ x : Nat, B = (x : Int) := ⟨B.toNat, by omega⟩
  obtain ⟨y, rfl⟩ : ∃ y : Nat, E = (y : Int) := ⟨E.toNat, by omega⟩
  have HE : Hid ((⟨((L.data.toList.drop x).take (y - x)).toArray⟩ : ByteArray) = L.extract x y) := by
    show _ = _
    apply ByteArray.ext
    rw [ByteArray.data_extract]
    apply Array.toList_inj.1
    simp [List.extract]
  simp only [Int.toNat_natCast]
  rw [HE.out]
  have h2' : x ≤ y := by omega
  have h3' : y ≤ N := by omega
  go_enter Try.func16, Try.ntmps16
  go_upto_region 3 with fail
  rw [HW.out]
  go_quiet (fail)
  go_wp2_with fail
  go_ret
  exact ⟨rfl, HD.out _⟩
end Go.Proofs.Ythkodldldipimaa
/- Bytes are laid: lay. -/
namespace Go.Proofs.Ythkodldldipimaa
open Go.ChangeShapes Go.WideShapes Go.ChangeAt Go.RowKit
set_option linter.unusedVariables false
set_option linter.unusedSimpArgs false
theorem run_callGo {P : Program} {f : FuncId} {fn : Func} (args : Array Value) (w : World) (hf : P.funcs[f]? = some fn) (hn : (fn.name == "runtime.NumGoroutine") = false) (hb : fn.body.isNone = false) : (callFunc f args).run P w = .ok (.enter f args) w := by
  have h1 : ¬ fn.name = "runtime.NumGoroutine" := by simpa using hn
  have h2 : ¬ fn.body = none := by intro e; rw [e] at hb; cases hb
  simp [callFunc, hf, h1, h2]
/-- The call of a Go function, as one step of a region that draws. -/
theorem step_call {P : Program} {ops : Array Oper} {o : Oper} {a : Act} {w : World} {K : Act → World → Prop} {Q : Exit → Act → World → Prop} {E : Prop} (f : FuncId) {fn : Func} {xs : Array Operand} {ats : Array TypeId} {vals : Array Value}
    (hg : o.guard = none) (hop : o.op = .call { callee := .value (.func f), args := xs, argTypes := ats }) (hv : xs.map a.eval = vals)
    (hf : P.funcs[f]? = some fn) (hn : (fn.name == "runtime.NumGoroutine") = false) (hb : fn.body.isNone = false)
    (h : Calls P f vals w fun e w' => ∃ v, e = .returned v ∧ K (a.put o.dst v) w') : if Region.wanted o (yielded ops a.tmps) = true then Oper.wp P o a w K Q else E := by
  have hw : Region.wanted o (yielded ops a.tmps) = true := by simp [Region.wanted, hg]
  rw [if_pos hw]
  obtain ⟨dst, op, type, pos, after, guard⟩ := o
  simp only at hop hg
  subst hop; subst hg
  unfold Oper.wp
  rw [execOp_call_go, show (#[] ++ xs.map a.eval ++ #[]) = vals by simp [hv], run_callGo vals w hf hn hb]
  simp only [Oper.upon]
  refine Calls.mono h ?_
  rintro e w' ⟨v, rfl, hK⟩
  exact hK
section
variable {n0 b : Nat} {p : Pg} {vl vo : Value} {w w1 w2 : World}
/-- Behind a byte that was laid. -/
theorem Pw.put (h : Pw n0 b p vl vo w) {c : UInt8} {v' : Value} (hw1 : w1 = (w.setCell ⟨b, 0, none⟩ p.al.val).alloc (.cells #[.int .u8 ((p.nx.ap c).toNat : Int)] 5))
    (ho : w2.ownsRow n0 5 1 v' (p.op.length + 1) (bcs p.op ++ [.int .u8 ((p.nx.ap c).toNat : Int)])) (hg : w1.grownBy w2 vo.ownBlock) :
    (w2.cell? ⟨b, 3, none⟩ = some vo ∧ w2.frozen? ⟨b, 3, none⟩ = false) ∧ Hid (Pw n0 b (p.put c) vl v' (w2.setCell ⟨b, 3, none⟩ v') ∧ Ky n0 w (w2.setCell ⟨b, 3, none⟩ v')) := by
  have h1 := h.turn (n := p.al) (a := p.al) (off := 0) (v := p.al.val) rfl
  have h2 : Pw n0 b { p with nx := p.al, al := p.al } vl vo w1 := by rw [hw1]; exact h1.kp (kp_alloc _ _)
  have ky1 : Ky n0 w w1 := by rw [hw1]; exact (Ky.set h.box h.ge _).trans (Ky.kp (kp_alloc _ _) h1.le)
  have hb : Lc 44 b [p.al.val, p.al.val, vl, vo] w2 := h2.box.heap (hg.block b h2.box.lt fun e => row_ne h2.ro h2.box (by decide) e.symm)
  have hrl : w2.ownsRow n0 9 1 vl p.ls.length (strs p.ls) :=
    row_fr h2.rl (S := fun k => vo.ownBlock = some k) ⟨hg.os, hg.tape, hg.output, hg.size, fun k hk hn => hg.block k hk fun e => hn e.symm⟩ fun j hj q => row_row h2.ro h2.rl (by decide) j q hj
  have ky2 : Ky n0 w w2 := ky1.trans (Ky.grown h2.ro (.inr rfl) h2.le hg)
  refine ⟨⟨hb.at rfl, hb.fz _⟩, ⟨hb.set 3 v', row_fr hrl (fr_set b 3 v' w2) fun j hj q => ?_, ?_, h.ge⟩, ky2.trans (Ky.set hb h.ge _)⟩
  · unfold On at q; subst q; exact row_ne hrl hb (by decide) hj
  · have e1 : (p.put c).op.length = p.op.length + 1 := by simp [Pg.put]
    have e2 : bcs (p.put c).op = bcs p.op ++ [.int .u8 ((p.nx.ap c).toNat : Int)] := by simp [Pg.put, bcs]
    rw [e1, e2]
    exact row_fr ho (fr_set b 3 v' w2) fun j hj q => by unfold On at q; subst q; exact row_ne ho hb (by decide) hj
set_option maxHeartbeats 4000000 in
set_option maxRecDepth 100000 in
theorem lay_any (h : Pw n0 b p vl vo w) (S : ByteArray) (hS : p.op.length + S.size ≤ 8000000) :
    Calls Try.prog 15 #[.pointer (some ⟨b, 0, none⟩), .string S] w fun e w' => e = .returned (.tuple #[]) ∧ Pc n0 b (p.lay S.data.toList) w w' := by
  obtain ⟨i9, hi9, z0, z1, z2⟩ := info_parts infoUB
  obtain ⟨N, hN⟩ : ∃ N, S.size = N := ⟨_, rfl⟩
  have HP : Hid (Pw n0 b p vl vo w) := h
  have HN : Hid (S.size = N) := hN
  rw [hN] at hS
  clear h
  go_enter Try.func15, Try.ntmps15
  go_wp2_with fail
  go_loopw [7] (fun v7 wr => ∃ i : Nat, i ≤ N ∧ v7 = .int .i64 i ∧ Hid (Pc n0 b (p.lay (S.data.toList.take i)) w wr)) (fun v7 _ => N - (intOf v7).toNat)
  case atStart => exact ⟨0, Nat.zero_le _, rfl, ⟨vl, vo, HP.out, Ky.refl _ _⟩⟩
  case round =>
    obtain ⟨i, hi, rfl, HC⟩ := hrel
    clear HP
    by_cases hlt : i < N
    · have dl : decide ((i : Int) < (N : Int)) = true := decide_eq_true (by omega)
      have hil : i < S.size := by rw [hN]; exact hlt
      obtain ⟨c, hc⟩ : ∃ c, S[i]'hil = c := ⟨_, rfl⟩
      have HT : Hid (S.data.toList.take (i + 1) = S.data.toList.take i ++ [c]) := by
        show _ = _
        rw [List.take_add_one, show S.data.toList[i]? = some c by rw [← hc, List.getElem?_eq_getElem (by simpa using hil)]; rfl]
        rfl
      obtain ⟨q, hq⟩ : ∃ q, p.lay (S.data.toList.take i) = q := ⟨_, rfl⟩
      have HQ : Hid (p.lay (S.data.toList.take i) = q) := hq
      have hlen : q.op.length = p.op.length + i := by rw [← hq, lay_len, List.length_take, Nat.min_eq_left]; simpa using Nat.le_of_lt hil
      rw [hq] at HC
      obtain ⟨vl', vo', h', ky⟩ := HC.out
      have HK : Hid (Ky n0 w wr.drew) := ky.trans (Ky.kp (kp_drew wr) h'.le)
      have hd := h'.kp (kp_drew wr)
      obtain ⟨va, vc, rfl, v1, v2⟩ := owns_form hd.ro
      obtain ⟨M, hM⟩ : ∃ M, q.op.length = M := ⟨_, rfl⟩
      obtain ⟨W1, hW1⟩ : ∃ W1, wr.drew.setCell ⟨b, 0, none⟩ q.al.val = W1 := ⟨_, rfl⟩
      have HW : Hid (Calls Try.prog 21 #[.pointer (some ⟨b, 0, none⟩), .int .u8 c.toNat] wr.drew fun e w' => e = .returned (.int .u8 ((q.nx.ap c).toNat : Int)) ∧ W1 = w') := by
        rw [← hW1]; exact (write_any hd.box c).mono fun e w' h => ⟨h.1, h.2.symm⟩
      have HM : Hid (∀ v' w2, w2.ownsRow n0 5 1 v' (M + 1) (bcs q.op ++ [.int .u8 ((q.nx.ap c).toNat : Int)]) → (W1.alloc (.cells #[.int .u8 ((q.nx.ap c).toNat : Int)] 5)).grownBy w2 (Value.slice va q.op.length vc).ownBlock →
          (w2.cell? ⟨b, 3, none⟩ = some (Value.slice va M vc) ∧ w2.frozen? ⟨b, 3, none⟩ = false) ∧ Hid (Pw n0 b (q.put c) vl' v' (w2.setCell ⟨b, 3, none⟩ v') ∧ Ky n0 wr.drew (w2.setCell ⟨b, 3, none⟩ v'))) := by
        intro v' w2 a1 a2
        rw [← hM] at a1 ⊢
        exact hd.put (by rw [hW1]) a1 a2
      have h1 := hd.turn (n := q.al) (a := q.al) (off := 0) (v := q.al.val) rfl
      rw [hW1] at h1
      obtain ⟨R, hR⟩ : ∃ R : Nat, (q.nx.ap c).toNat = R := ⟨_, rfl⟩
      rw [hR] at HM HW
      have h1a := h1.kp (kp_alloc W1 (.cells #[.int .u8 (R : Int)] 5))
      rw [hM] at HM hlen
      have hMb : M + 1 ≤ 8000000 := by omega
      clear hlen
      have c3 : wr.cell? ⟨b, 3, none⟩ = some (.slice va M vc) := by rw [← hM]; exact h'.box.at rfl
      have c31 : W1.cell? ⟨b, 3, none⟩ = some (.slice va M vc) := by rw [← hM]; exact h1.box.at rfl
      have c32 : (W1.alloc (.cells #[.int .u8 (R : Int)] 5)).cell? ⟨b, 3, none⟩ = some (.slice va M vc) := by rw [← hM]; exact h1a.box.at rfl
      have HR : Hid ((W1.alloc (.cells #[.int .u8 (R : Int)] 5)).ownsRow n0 5 1 (.slice va M vc) M (bcs q.op)) := by
        have := h1a.ro
        rw [← hM]; exact this
      have HN0 : Hid (n0 ≤ (W1.alloc (.cells #[.int .u8 (R : Int)] 5)).heap.size) := h1a.le
      have HSZ : Hid ((W1.alloc (.cells #[.int .u8 (R : Int)] 5)).heap.size = W1.heap.size + 1) := alloc_size _ _
      have HNW : Hid (∀ j u, ([.int .u8 (R : Int)] : List Value)[j]? = some u → (W1.alloc (.cells #[.int .u8 (R : Int)] 5)).cell? ((⟨W1.heap.size, 0, none⟩ : Addr).add j) = some u) := cell_one_new _ _ _
      have hcn : (S[i]'hil).toNat = c.toNat := by rw [hc]
      obtain ⟨C, hC⟩ : ∃ C : Nat, c.toNat = C := ⟨_, rfl⟩
      rw [hC] at hcn HW
      clear hC hc hq hd h' ky HC h1 h1a hW1 hR v1 v2 hM
      go_upto_region 3 with fail
      go_region_law (first
        | (refine step_call 21 (vals := #[.pointer (some ⟨b, 0, none⟩), .int .u8 (C : Int)]) rfl rfl (by simp [Act.eval]) Try.func21 (by kernel_rfl) (by kernel_rfl) ?_; refine Calls.mono HW.out ?_; rintro e w' ⟨rfl, hw⟩; subst hw; refine ⟨_, rfl, ?_⟩)
        | (refine step_append_lies _ rfl (.tmp 14) (.tmp 22) 37 rfl n0 5 i9 _ 1 1 Try.underlying37 hi9 z0 z1 z2 rfl (by decide) (.slice va M vc) M (bcs q.op) rfl HR.out ⟨W1.heap.size, 0, none⟩ 1 1 [.int .u8 (R : Int)] rfl rfl HNW.out (by simp [Value.oneCell']) (by omega) (by unfold maxLen; omega) (by omega) HN0.out (W1.heap.size + 1) HSZ.out ?_; intro g cp w2 q1 q2 q3 q4; clear q3 q4; obtain ⟨⟨d3, f3⟩, HF⟩ := HM.out _ w2 q1 q2; clear q1 q2))
      all_goals
        go_wp2_with fail
        go_roundw
        case rel => exact ⟨i + 1, by omega, by go_num, ⟨_, _, by rw [HT.out, lay_snoc, HQ.out]; exact HF.out.1, HK.out.trans HF.out.2⟩⟩
        case measure => simp only [intOf]; omega
    · obtain rfl : i = N := by omega
      have dl : decide ((i : Int) < (i : Int)) = false := by simp
      rw [List.take_of_length_le (by rw [← hN]; simp)] at HC
      go_wp2_with fail
      go_end0
      exact ⟨rfl, HC.out⟩
end
end Go.Proofs.Ythkodldldipimaa
/- Lines of any pieces. -/
namespace Go.Proofs.Ythkodldldipimaa
open Go.ChangeShapes Go.WideShapes Go.ChangeAt Go.RowKit
set_option linter.unusedVariables false
set_option linter.unusedSimpArgs false
/-- Pieces in memory. -/
def Tms (v : Value) (l : List Tm) (w : World) : Prop := ∃ a cap, v = .slice a l.length cap ∧ l.length ≤ cap ∧ cap ≤ maxLen ∧ ∀ i t, l[i]? = some t → ∃ B o, a = some ⟨B, o, none⟩ ∧ B < w.heap.size ∧ ∀ j, j < 4 → w.cell? ⟨B, o + i * 4 + j, none⟩ = t.cells[j]?
theorem Tms.kp {v : Value} {l : List Tm} {w w1 : World} (h : Tms v l w) (k : Kp w w1) : Tms v l w1 := by
  obtain ⟨a, cap, rfl, h1, h2, h3⟩ := h
  refine ⟨a, cap, rfl, h1, h2, fun i t hi => ?_⟩
  obtain ⟨B, o, e, hB, hc⟩ := h3 i t hi
  refine ⟨B, o, e, Nat.lt_of_lt_of_le hB k.size, fun j hj => ?_⟩
  rw [← hc j hj]
  simp only [World.cell?, k.block B hB]
/-- Pieces that are no more than is looked at. -/
structure Mod (l : List Tm) (line : List UInt8) : Prop where
  tx : ∀ t ∈ l, t.tx.length ≤ 1000 ∧ t.kd < 256 ∧ t.c < 256
  ln : line.length ≤ 1000
  n : l.length ≤ 1000
theorem grp_len (line : List UInt8) (m : Mt) (n : Int) : (grpF line m n).length ≤ line.length := by
  unfold grpF
  split
  · simp
  · dsimp only
    split
    · simp
    · simp only [List.length_take, List.length_drop]; omega
theorem page_snoc (line : List UInt8) (m : Mt) (l : List Tm) (t : Tm) : pageF line m (l ++ [t]) = stepX line m (pageF line m l) t := by simp [pageF]
theorem page_len {line : List UInt8} {l : List Tm} (h : Mod l line) (m : Mt) : ∀ i, i ≤ l.length → (pageF line m (l.take i)).op.length ≤ 1000 * i ∧ (pageF line m (l.take i)).ls.length ≤ i := by
  intro i
  induction i with
  | zero => intro _; exact ⟨Nat.zero_le _, Nat.zero_le _⟩
  | succ i ih =>
    intro hi
    obtain ⟨a, b⟩ := ih (by omega)
    obtain ⟨t, ht⟩ : ∃ t, l[i]? = some t := ⟨_, List.getElem?_eq_getElem (by omega)⟩
    have hm := h.tx t (List.mem_of_getElem? ht)
    rw [List.take_add_one, ht, Option.toList_some, page_snoc]
    generalize pageF line m (l.take i) = p at a b
    unfold stepX
    split
    · rw [lay_len, lay_ls]; omega
    split
    · rw [lay_len, lay_ls]
      have := grp_len line m t.n
      have := h.ln
      omega
    split
    · simp only [Pg.fin, List.length_nil, List.length_append, List.length_singleton]; omega
    split
    · rw [(say_ls p t.c).1, (say_ls p t.c).2]; omega
    · omega
/-- What is known while the pieces are laid. -/
structure Ln (w0 : World) (bm b : Nat) (m : Mt) (p : Pg) (w : World) : Prop where
  pg : ∃ vl vo, Pw w0.heap.size b p vl vo w
  kp : Kp w0 w
  mt : Lc 25 bm m.cells w
theorem Ln.ky {w0 : World} {bm b : Nat} {m : Mt} {p q : Pg} {w w1 : World} (h : Ln w0 bm b m p w) (k : Pc w0.heap.size b q w w1) : Ln w0 bm b m q w1 := by
  obtain ⟨vl, vo, h1, ky⟩ := k
  exact ⟨⟨vl, vo, h1⟩, h.kp.trans ky.bel, ky.oth _ _ _ _ h.mt (by decide) (by decide) (by decide)⟩
theorem Ln.kpp {w0 : World} {bm b : Nat} {m : Mt} {p : Pg} {w w1 : World} (h : Ln w0 bm b m p w) (k : Kp w w1) : Ln w0 bm b m p w1 := by
  obtain ⟨vl, vo, h1⟩ := h.pg
  exact ⟨⟨vl, vo, h1.kp k⟩, kp_trans h.kp k, h.mt.kp k⟩
set_option maxHeartbeats 4000000 in
set_option maxRecDepth 100000 in
theorem lines_any {v : Value} {l : List Tm} {w : World} (h : Tms v l w) (L : ByteArray) (m : Mt) (hm : m.fit) (hd : Mod l L.data.toList) :
    Calls Try.prog 9 #[v, .string L, .agg m.cells.toArray] w fun e w' => (∃ u, e = .returned u ∧ w'.ownsRow w.heap.size 9 1 u (linesF l L.data.toList m).length (strs (linesF l L.data.toList m))) ∧ Kp w w' := by
  obtain ⟨va, vc, rfl, v1, v2, hc⟩ := h
  obtain ⟨N, hN⟩ : ∃ N, l.length = N := ⟨_, rfl⟩
  have HN : Hid (l.length = N) := hN
  have HC : Hid _ := hc
  have HD : Hid _ := hd
  have HM : Hid _ := hm
  have HA : Hid (∀ w, Calls Try.prog 13 #[.func (Fn.func 14) #[] #[]] w fun e w' => e = .returned (.agg #[.func (Fn.func 14) #[] #[], .func (Fn.func 14) #[] #[]]) ∧ Kp w w') := fun w => alike_any .as w
  have HB : Hid (Lc 25 w.heap.size m.cells (w.alloc (.cells m.cells.toArray 25)) ∧ Kp w (w.alloc (.cells m.cells.toArray 25))) := ⟨Lc.new _ _ _, kp_alloc _ _⟩
  obtain ⟨W0, hW0⟩ : ∃ W0, w.alloc (.cells m.cells.toArray 25) = W0 := ⟨_, rfl⟩
  have HW0 : Hid (w.alloc (.cells m.cells.toArray 25) = W0) := hW0
  obtain ⟨bm, hbm⟩ : ∃ bm, w.heap.size = bm := ⟨_, rfl⟩
  have HBM : Hid (w.heap.size = bm) := hbm
  rw [hW0, hbm] at HB
  rw [hN] at v1 ⊢
  unfold maxLen at v2
  clear hc hd hm hN hW0 hbm
  go_enter Try.func9, Try.ntmps9
  go_wp2_with fail
  rw [HW0.out]
  refine Calls.mono (HA.out W0) ?_
  rintro e w1 ⟨rfl, k1⟩
  have HK1 : Hid (Kp w w1 ∧ Lc 25 bm m.cells w1) := ⟨kp_trans HB.out.2 k1, HB.out.1.kp k1⟩
  obtain ⟨bp, hbp⟩ : ∃ bp, w1.heap.size = bp := ⟨_, rfl⟩
  have HS : Hid (Ln w bm bp m (pageF L.data.toList m (l.take 0)) (w1.alloc (.cells #[.func (Fn.func 14) #[] #[], .func (Fn.func 14) #[] #[], .slice none 0 0, .slice none 0 0] 44))) := by
    rw [← hbp]
    exact ⟨⟨.slice none 0 0, .slice none 0 0, Lc.new w1 [.func (Fn.func 14) #[] #[], .func (Fn.func 14) #[] #[], .slice none 0 0, .slice none 0 0] 44, World.ownsRow_nil _ _ _ _, World.ownsRow_nil _ _ _ _, HK1.out.1.size⟩, kp_trans HK1.out.1 (kp_alloc _ _), HK1.out.2.kp (kp_alloc _ _)⟩
  rw [HBM.out]
  clear k1 HB HA
  go_wp2_with fail
  obtain ⟨W2, hW2⟩ : ∃ W2, w1.alloc (.cells #[.func (Fn.func 14) #[] #[], .func (Fn.func 14) #[] #[], .slice none 0 0, .slice none 0 0] 44) = W2 := ⟨_, rfl⟩
  rw [hW2] at HS ⊢
  clear hW2 hbp HK1
  go_loopw [14] (fun v14 wr => ∃ i : Nat, i ≤ N ∧ v14 = .int .i64 i ∧ Hid (Ln w bm bp m (pageF L.data.toList m (l.take i)) wr)) (fun v14 _ => N - (intOf v14).toNat)
  case atStart => exact ⟨0, Nat.zero_le _, rfl, HS.out⟩
  case round =>
    obtain ⟨i, hi, rfl, HI⟩ := hrel
    clear HS
    by_cases hlt : i < N
    · have dl : decide ((i : Int) < (N : Int)) = true := decide_eq_true (by omega)
      obtain ⟨t, ht⟩ : ∃ t, l[i]? = some t := ⟨_, List.getElem?_eq_getElem (by rw [HN.out]; exact hlt)⟩
      have HT : Hid (pageF L.data.toList m (l.take (i + 1)) = stepX L.data.toList m (pageF L.data.toList m (l.take i)) t) := by
        show _ = _
        rw [List.take_add_one, ht, Option.toList_some, page_snoc]
      have HL : Hid ((pageF L.data.toList m (l.take i)).op.length ≤ 1000 * i ∧ (pageF L.data.toList m (l.take i)).ls.length ≤ i ∧ i ≤ 1000) := by
        have := page_len HD.out m i (by rw [HN.out]; exact hi)
        have := HD.out.n
        rw [HN.out] at this
        exact ⟨by omega, by omega, by omega⟩
      have HX := HD.out.tx t (List.mem_of_getElem? ht)
      obtain ⟨B, o, rfl, hB, hc⟩ := HC.out i t ht
      have k := HI.out.kp
      have hcc : ∀ j, j < 4 → wr.cell? ⟨B, o + i * 4 + j, none⟩ = t.cells[j]? := fun j hj => by rw [← hc j hj]; simp only [World.cell?, k.block B hB]
      have c0 := hcc 0 (by omega)
      have c1 := hcc 1 (by omega)
      have c2 := hcc 2 (by omega)
      have c3 := hcc 3 (by omega)
      obtain ⟨kd, tx, n, cc⟩ := t
      simp only [Tm.cells, List.getElem?_cons_zero, List.getElem?_cons_succ, Nat.add_zero] at c0 c1 c2 c3
      have HA : Hid (Ln w bm bp m (pageF L.data.toList m (l.take i)) (wr.alloc (.cells #[.int .u8 kd, .string ⟨tx.toArray⟩, .int .i64 n, .int .u8 cc] 29)) ∧ Lc 29 wr.heap.size [.int .u8 kd, .string ⟨tx.toArray⟩, .int .i64 n, .int .u8 cc] (wr.alloc (.cells #[.int .u8 kd, .string ⟨tx.toArray⟩, .int .i64 n, .int .u8 cc] 29))) :=
        ⟨HI.out.kpp (kp_alloc _ _), Lc.new _ _ _⟩
      obtain ⟨W3, hW3⟩ : ∃ W3, wr.alloc (.cells #[.int .u8 kd, .string ⟨tx.toArray⟩, .int .i64 n, .int .u8 cc] 29) = W3 := ⟨_, rfl⟩
      obtain ⟨bt, hbt⟩ : ∃ bt, wr.heap.size = bt := ⟨_, rfl⟩
      rw [hW3, hbt] at HA
      have HW3 : Hid (wr.alloc (.cells #[.int .u8 kd, .string ⟨tx.toArray⟩, .int .i64 n, .int .u8 cc] 29) = W3 ∧ wr.heap.size = bt) := ⟨hW3, hbt⟩
      obtain ⟨p, hp⟩ : ∃ p, pageF L.data.toList m (l.take i) = p := ⟨_, rfl⟩
      rw [hp] at HT HL HA
      have HP : Hid (pageF L.data.toList m (l.take i) = p) := hp
      have HXX : Hid (tx.length ≤ 1000 ∧ kd < 256 ∧ cc < 256) := HX
      clear k hc hcc hB ht HX hW3 hbt hp HI
      go_upto_region 5 with fail
      (try rw [HW3.out.2])
      rw [HW3.out.1]
      have t0 : W3.cell? ⟨bt, 0, none⟩ = some (.int .u8 kd) := HA.out.2.at rfl
      have t1 : W3.cell? ⟨bt, 1, none⟩ = some (.string ⟨tx.toArray⟩) := HA.out.2.at rfl
      have t2 : W3.cell? ⟨bt, 2, none⟩ = some (.int .i64 n) := HA.out.2.at rfl
      have t3 : W3.cell? ⟨bt, 3, none⟩ = some (.int .u8 cc) := HA.out.2.at rfl
      clear c0 c1 c2 c3
      by_cases k1 : kd = 1
      · subst k1
        have HY : Hid (Calls Try.prog 15 #[.pointer (some ⟨bp, 0, none⟩), .string ⟨tx.toArray⟩] W3 fun e w' => e = .returned (.tuple #[]) ∧ Ln w bm bp m (stepX L.data.toList m p ⟨1, tx, n, cc⟩) w') := by
          obtain ⟨vl, vo, h1⟩ := HA.out.1.pg
          have := HL.out
          have := HXX.out
          refine (lay_any h1 ⟨tx.toArray⟩ (by show p.op.length + tx.toArray.size ≤ _; simp; omega)).mono ?_
          rintro e w' ⟨rfl, h2⟩
          exact ⟨rfl, HA.out.1.ky h2⟩
        go_wp2_with (go_at_call 15; refine Calls.mono HY.out ?_; rintro e w4 ⟨rfl, q⟩; have HF : Hid _ := q; clear q)
        go_roundw
        case rel => exact ⟨i + 1, by omega, by go_num, by rw [HT.out]; exact HF.out⟩
        case measure => simp only [intOf]; omega
      have e1 : ((kd : Int) == 1) = false := by simp; omega
      by_cases k2 : kd = 2
      · subst k2
        have HG : Hid (Calls Try.prog 16 #[.string L, .agg m.cells.toArray, .int .i64 n] W3 fun e w' => e = .returned (.string ⟨(grpF L.data.toList m n).toArray⟩) ∧ Kp W3 w') := ogroup_any L m HM.out n W3
        have HY : Hid (∀ W4, Kp W3 W4 → Calls Try.prog 15 #[.pointer (some ⟨bp, 0, none⟩), .string ⟨(grpF L.data.toList m n).toArray⟩] W4 fun e w' => e = .returned (.tuple #[]) ∧ Ln w bm bp m (stepX L.data.toList m p ⟨2, tx, n, cc⟩) w') := by
          intro W4 k4
          have ha := HA.out.1.kpp k4
          obtain ⟨vl, vo, h1⟩ := ha.pg
          have := HL.out
          have := grp_len L.data.toList m n
          have := HD.out.ln
          refine (lay_any h1 ⟨(grpF L.data.toList m n).toArray⟩ (by show p.op.length + (grpF L.data.toList m n).toArray.size ≤ _; rw [List.size_toArray]; omega)).mono ?_
          rintro e w' ⟨rfl, h2⟩
          exact ⟨rfl, ha.ky h2⟩
        have HMT : Hid (Lc 25 bm m.cells W3 ∧ m.cells.length = 22) := ⟨HA.out.1.mt, Mt.len HM.out⟩
        go_wp2_with (first | (refine wpList_load_box HMT.out.1 0 m.cells rfl 25 (.tmp 5) rfl rfl (List.take_of_length_le (Nat.le_refl _)) _ Try.underlying25 rfl (by rw [HMT.out.2]; kernel_rfl) ?_) | (go_at_call 16; refine Calls.mono HG.out ?_; rintro e w4 ⟨rfl, q⟩; have HQ : Hid _ := q; clear q) | (go_at_call 15; refine Calls.mono (HY.out _ HQ.out) ?_; rintro e w5 ⟨rfl, q⟩; have HF : Hid _ := q; clear q))
        go_roundw
        case rel => exact ⟨i + 1, by omega, by go_num, by rw [HT.out]; exact HF.out⟩
        case measure => simp only [intOf]; omega
      have e2 : ((kd : Int) == 2) = false := by simp; omega
      by_cases k3 : kd = 3
      · subst k3
        have HY : Hid (Calls Try.prog 17 #[.pointer (some ⟨bp, 0, none⟩)] W3 fun e w' => e = .returned (.tuple #[]) ∧ Ln w bm bp m (stepX L.data.toList m p ⟨3, tx, n, cc⟩) w') := by
          obtain ⟨vl, vo, h1⟩ := HA.out.1.pg
          have := HL.out
          refine (end_any h1 (by omega)).mono ?_
          rintro e w' ⟨rfl, h2⟩
          exact ⟨rfl, HA.out.1.ky h2⟩
        go_wp2_with (go_at_call 17; refine Calls.mono HY.out ?_; rintro e w4 ⟨rfl, q⟩; have HF : Hid _ := q; clear q)
        go_roundw
        case rel => exact ⟨i + 1, by omega, by go_num, by rw [HT.out]; exact HF.out⟩
        case measure => simp only [intOf]; omega
      have e3 : ((kd : Int) == 3) = false := by simp; omega
      by_cases k4 : kd = 4
      · subst k4
        have HY : Hid (Calls Try.prog 18 #[.pointer (some ⟨bp, 0, none⟩), .int .u8 cc] W3 fun e w' => e = .returned (.tuple #[]) ∧ Ln w bm bp m (stepX L.data.toList m p ⟨4, tx, n, cc⟩) w') := by
          obtain ⟨vl, vo, h1⟩ := HA.out.1.pg
          refine (say_any h1 cc HXX.out.2.2).mono ?_
          rintro e w' ⟨rfl, h2, h3⟩
          exact ⟨rfl, HA.out.1.ky ⟨_, _, h2, h3⟩⟩
        go_wp2_with (go_at_call 18; refine Calls.mono HY.out ?_; rintro e w4 ⟨rfl, q⟩; have HF : Hid _ := q; clear q)
        go_roundw
        case rel => exact ⟨i + 1, by omega, by go_num, by rw [HT.out]; exact HF.out⟩
        case measure => simp only [intOf]; omega
      have e4 : ((kd : Int) == 4) = false := by simp; omega
      have HF : Hid (Ln w bm bp m (stepX L.data.toList m p ⟨kd, tx, n, cc⟩) W3) := by
        have := HA.out.1
        unfold stepX
        rw [if_neg k1, if_neg k2, if_neg k3, if_neg k4]
        exact this
      go_wp2_with fail
      go_roundw
      case rel => exact ⟨i + 1, by omega, by go_num, by rw [HT.out]; exact HF.out⟩
      case measure => simp only [intOf]; omega
    · obtain rfl : i = N := by omega
      have dl : decide ((i : Int) < (i : Int)) = false := by simp
      have hbd := (page_len HD.out m i (by rw [HN.out]; exact Nat.le_refl _)).2
      have hn := HD.out.n
      rw [List.take_of_length_le (by rw [HN.out]; exact Nat.le_refl _)] at HI hbd
      rw [HN.out] at hn
      have HY : Hid (Calls Try.prog 17 #[.pointer (some ⟨bp, 0, none⟩)] wr fun e w' => e = .returned (.tuple #[]) ∧ ∃ vl vo, Pw w.heap.size bp (pageF L.data.toList m l).fin vl vo w' ∧ Kp w w') := by
        obtain ⟨vl, vo, h1⟩ := HI.out.pg
        refine (end_any h1 (by omega)).mono ?_
        rintro e w' ⟨rfl, h2⟩
        obtain ⟨vl', vo', h3⟩ := (HI.out.ky h2).pg
        exact ⟨rfl, vl', vo', h3, (HI.out.ky h2).kp⟩
      clear hbd
      go_wp2_with fail
      refine Calls.mono HY.out ?_
      rintro e w4 ⟨rfl, vl, vo, h1, h2⟩
      obtain ⟨a, c, rfl, q1, q2⟩ := owns_form h1.rl
      have c2 := h1.box.at (j := 2) rfl
      have HF : Hid (w4.ownsRow w.heap.size 9 1 (.slice a (linesF l L.data.toList m).length c) (linesF l L.data.toList m).length (strs (linesF l L.data.toList m)) ∧ Kp w w4) := ⟨h1.rl, h2⟩
      rw [show (pageF L.data.toList m l).fin.ls.length = (linesF l L.data.toList m).length from rfl] at c2
      obtain ⟨K, hK⟩ : ∃ K, (linesF l L.data.toList m).length = K := ⟨_, rfl⟩
      have HKK : Hid ((linesF l L.data.toList m).length = K) := hK
      rw [hK] at c2 HF
      clear h1 h2 q1 q2 hK
      go_wp2_with fail
      go_ret
      exact ⟨⟨_, rfl, by rw [HKK.out]; exact HF.out.1⟩, HF.out.2⟩
end Go.Proofs.Ythkodldldipimaa
/- The chapter's example. -/
namespace Go.Proofs.Ythkodldldipimaa
open Go.ChangeShapes Go.WideShapes Go.ChangeAt Go.RowKit
set_option linter.unusedVariables false
set_option linter.unusedSimpArgs false
theorem flatT_get {l : List Tm} {i : Nat} {t : Tm} (h : l[i]? = some t) (j : Nat) (hj : j < 4) : (flatT l)[i * 4 + j]? = t.cells[j]? := by
  induction l generalizing i with
  | nil => simp at h
  | cons a l ih =>
    have hc : a.cells.length = 4 := rfl
    cases i with
    | zero =>
      simp only [List.getElem?_cons_zero, Option.some.injEq] at h
      subst h
      simp only [flatT, List.flatMap_cons]
      rw [List.getElem?_append_left (by omega)]
      simp
    | succ i =>
      simp only [List.getElem?_cons_succ] at h
      have := ih h
      simp only [flatT, List.flatMap_cons] at *
      rw [List.getElem?_append_right (by omega), hc, show (i + 1) * 4 + j - 4 = i * 4 + j by omega]
      exact this
theorem flatT_len (l : List Tm) : (flatT l).length = l.length * 4 := by
  induction l with
  | nil => rfl
  | cons a l ih =>
    have hc : a.cells.length = 4 := rfl
    simp only [flatT, List.flatMap_cons, List.length_append, List.length_cons] at *
    omega
/-- Pieces that were built. -/
theorem tms_new (l : List Tm) (w : World) (hl : l.length ≤ 1000) : Tms (.slice (some ⟨w.heap.size, 0, none⟩) l.length l.length) l (w.alloc (.cells (flatT l).toArray 29)) := by
  refine ⟨_, _, rfl, Nat.le_refl _, by unfold maxLen; omega, fun i t hi => ⟨_, _, rfl, by rw [alloc_size]; omega, fun j hj => ?_⟩⟩
  rw [(Lc.new w (flatT l) 29).cell, Nat.zero_add]
  exact flatT_get hi j hj
/-- Pieces that a row holds. -/
theorem tms_row {v : Value} {l : List Tm} {w : World} {B n : Nat} (hn : l.length = n) (h : w.ownsRow B 29 4 v n (flatT l)) : Tms v l w := by
  subst hn
  obtain ⟨a, cap, rfl, h1, h2⟩ := owns_form h
  refine ⟨a, cap, rfl, h1, h2, fun i t hi => ?_⟩
  have hlt := (List.getElem?_eq_some_iff.1 hi).1
  rcases h.2 with ⟨q, e⟩ | ⟨g, cap', cur, e, hb, hg, h1, h2, h3, h4⟩
  · omega
  · injection e with e _ _
    refine ⟨g, 0, e, (Array.getElem?_eq_some_iff.1 hg).1, fun j hj => ?_⟩
    rw [cell_at hg, ← flatT_get hi j hj, ← h4, List.getElem?_take, if_pos (by omega), Array.getElem?_toList, Nat.zero_add]
def zer10 : List Int := [0, 0, 0, 0, 0, 0, 0, 0, 0, 0]
/-- Lines in memory: the slice, its cells. -/
structure Sl (a : Option Addr) (n cap : Nat) (l : List (List UInt8)) (w : World) : Prop where
  len : l.length = n
  le : n ≤ cap
  cap : cap ≤ maxLen
  at_ : ∀ i s, l[i]? = some s → ∃ g, a = some ⟨g, 0, none⟩ ∧ g < w.heap.size ∧ w.cell? ⟨g, i, none⟩ = some (.string ⟨s.toArray⟩)
theorem Sl.kp {a : Option Addr} {n cap : Nat} {l : List (List UInt8)} {w w1 : World} (h : Sl a n cap l w) (k : Kp w w1) : Sl a n cap l w1 :=
  ⟨h.len, h.le, h.cap, fun i s hi => by
    obtain ⟨g, e, hg, hc⟩ := h.at_ i s hi
    exact ⟨g, e, Nat.lt_of_lt_of_le hg k.size, kp_cell k hc⟩⟩
theorem sl_row {v : Value} {l : List (List UInt8)} {w : World} {B : Nat} (h : w.ownsRow B 9 1 v l.length (strs l)) : ∃ a cap, v = .slice a l.length cap ∧ Sl a l.length cap l w := by
  obtain ⟨a, cap, rfl, h1, h2⟩ := owns_form h
  refine ⟨a, cap, rfl, rfl, h1, h2, fun i s hi => ?_⟩
  have hlt := (List.getElem?_eq_some_iff.1 hi).1
  rcases h.2 with ⟨q, e⟩ | ⟨g, cap', cur, e, hb, hg, h1, h2, h3, h4⟩
  · omega
  · injection e with e _ _
    refine ⟨g, e, (Array.getElem?_eq_some_iff.1 hg).1, ?_⟩
    have : (strs l)[i]? = some (.string ⟨s.toArray⟩) := by simp [strs, hi]
    rw [cell_at hg, ← this, ← h4, List.getElem?_take, if_pos (by omega), Array.getElem?_toList]
/-- Lines, as callers see it. -/
theorem lines_sl {v : Value} {l : List Tm} {w : World} (h : Tms v l w) (L : ByteArray) (m : Mt) (hm : m.fit) (hd : Mod l L.data.toList) {out : List (List UInt8)} (ho : linesF l L.data.toList m = out) :
    Calls Try.prog 9 #[v, .string L, .agg m.cells.toArray] w fun e w' => ∃ a n cap, e = .returned (.slice a n cap) ∧ Sl a n cap out w' ∧ Kp w w' := by
  refine (lines_any h L m hm hd).mono ?_
  rintro e w' ⟨⟨u, rfl, hr⟩, k⟩
  rw [ho] at hr
  obtain ⟨a, cap, rfl, hs⟩ := sl_row hr
  exact ⟨a, _, cap, rfl, hs, k⟩
def knL : List Tm := [⟨4, [], 0, 117⟩, ⟨2, [], 0, 0⟩, ⟨1, [120], 0, 0⟩, ⟨4, [], 0, 85⟩, ⟨2, [], 0, 0⟩]
def knM : Mt := ⟨0, 2, zer10, [2, 0, 0, 0, 0, 0, 0, 0, 0, 0]⟩
theorem kn_out : linesF knL [97, 98] knM = [[65, 98, 120, 65, 66]] := by decide +kernel
theorem size_mt : (Try.prog.info? 25).map (·.size) = some 22 := by kernel_rfl
theorem zero_mt : (Try.prog.info? 25).map (fun i => i.zero) = some (some (.agg (Mt.cells ⟨0, 0, zer10, zer10⟩).toArray)) := by kernel_rfl
theorem kn_mod : Mod knL [97, 98] := ⟨by decide, by decide, by decide⟩
theorem kn_call (v : Value) (w : World) (h : Tms v knL w) : Calls Try.prog 9 #[v, .string ⟨#[97, 98]⟩, .agg knM.cells.toArray] w fun e w' => ∃ a n cap, e = .returned (.slice a n cap) ∧ Sl a n cap [[65, 98, 120, 65, 66]] w' ∧ Kp w w' :=
  lines_sl h ⟨#[97, 98]⟩ knM ⟨rfl, rfl⟩ kn_mod kn_out
end Go.Proofs.Ythkodldldipimaa
/- The chapter's example, walked. -/
namespace Go.Proofs.Ythkodldldipimaa
open Go.ChangeShapes Go.WideShapes Go.ChangeAt Go.RowKit
set_option linter.unusedVariables false
set_option linter.unusedSimpArgs false
theorem sets_mid : ∀ (cs pre l suf : List Value), l.length = cs.length → Go.Proofs.Ythkodldldipimaa.sets (pre ++ (l ++ suf)) pre.length cs = pre ++ (cs ++ suf)
  | [], pre, l, suf, h => by rw [List.length_eq_zero_iff.1 h]; rfl
  | v :: r, pre, l, suf, h => by
    cases l with
    | nil => simp at h
    | cons y l =>
      rw [Go.Proofs.Ythkodldldipimaa.sets, List.set_append_right _ _ (Nat.le_refl _), Nat.sub_self, List.cons_append, List.set_cons_zero]
      have := sets_mid r (pre ++ [v]) l suf (by simpa using h)
      simp only [List.append_assoc, List.cons_append, List.nil_append, List.length_append, List.length_singleton] at this
      exact this
theorem sets_full (l vs : List Value) (h : l.length = vs.length) : Go.Proofs.Ythkodldldipimaa.sets l 0 vs = vs := by
  have := sets_mid vs [] l [] h
  simpa using this
theorem row_mt : ∃ d, Try.prog.underlying 25 = some d ∧ d.isRow = true := ⟨_, Try.underlying25, rfl⟩
theorem one_m1 : ∀ v ∈ ([.int .i64 0, .int .i64 2, .int .i64 0, .int .i64 0, .int .i64 0, .int .i64 0, .int .i64 0, .int .i64 0, .int .i64 0, .int .i64 0, .int .i64 0, .int .i64 0, .int .i64 0, .int .i64 0, .int .i64 0, .int .i64 0, .int .i64 0, .int .i64 0, .int .i64 0, .int .i64 0, .int .i64 0, .int .i64 0] : List Value), v.oneCell' = true := by simp [Value.oneCell']
set_option maxHeartbeats 2000000 in
set_option maxRecDepth 100000 in
theorem oknown_any (w : World) : Calls Try.prog 8 #[] w fun e w' => e = .returned (.bool true) ∧ Kp w w' := by
  obtain ⟨dT, hT1, hT2⟩ := row_mt
  have HT : Hid (Try.prog.underlying 25 = some dT ∧ dT.isRow = true) := ⟨hT1, hT2⟩
  clear hT1 hT2
  have HC : Hid (∀ v w, Tms v knL w → Calls Try.prog 9 #[v, .string ⟨#[97, 98]⟩, .agg #[.int .i64 0, .int .i64 2, .int .i64 0, .int .i64 0, .int .i64 0, .int .i64 0, .int .i64 0, .int .i64 0, .int .i64 0, .int .i64 0, .int .i64 0, .int .i64 0, .int .i64 2, .int .i64 0, .int .i64 0, .int .i64 0, .int .i64 0, .int .i64 0, .int .i64 0, .int .i64 0, .int .i64 0, .int .i64 0]] w fun e w' => ∃ a n cap, e = .returned (.slice a n cap) ∧ Sl a n cap [[65, 98, 120, 65, 66]] w' ∧ Kp w w') := fun v w h => kn_call v w h
  obtain ⟨b, hb⟩ : ∃ b, w.heap.size = b := ⟨_, rfl⟩
  obtain ⟨W0, hW0⟩ : ∃ W0, w.alloc (.cells #[.int .i64 0, .int .i64 0, .int .i64 0, .int .i64 0, .int .i64 0, .int .i64 0, .int .i64 0, .int .i64 0, .int .i64 0, .int .i64 0, .int .i64 0, .int .i64 0, .int .i64 0, .int .i64 0, .int .i64 0, .int .i64 0, .int .i64 0, .int .i64 0, .int .i64 0, .int .i64 0, .int .i64 0, .int .i64 0] 25) = W0 := ⟨_, rfl⟩
  have H0 : Hid (Lc 25 b [.int .i64 0, .int .i64 0, .int .i64 0, .int .i64 0, .int .i64 0, .int .i64 0, .int .i64 0, .int .i64 0, .int .i64 0, .int .i64 0, .int .i64 0, .int .i64 0, .int .i64 0, .int .i64 0, .int .i64 0, .int .i64 0, .int .i64 0, .int .i64 0, .int .i64 0, .int .i64 0, .int .i64 0, .int .i64 0] W0 ∧ Kp w W0 ∧ w.heap.size = b) := by
    rw [← hW0, ← hb]; exact ⟨Lc.new w [.int .i64 0, .int .i64 0, .int .i64 0, .int .i64 0, .int .i64 0, .int .i64 0, .int .i64 0, .int .i64 0, .int .i64 0, .int .i64 0, .int .i64 0, .int .i64 0, .int .i64 0, .int .i64 0, .int .i64 0, .int .i64 0, .int .i64 0, .int .i64 0, .int .i64 0, .int .i64 0, .int .i64 0, .int .i64 0] 25, kp_alloc _ _, rfl⟩
  go_enter Try.func8, Try.ntmps8
  go_upto_region 2 with (refine wpList_store_box H0.out.1 0 [.int .i64 0, .int .i64 2, .int .i64 0, .int .i64 0, .int .i64 0, .int .i64 0, .int .i64 0, .int .i64 0, .int .i64 0, .int .i64 0, .int .i64 0, .int .i64 0, .int .i64 0, .int .i64 0, .int .i64 0, .int .i64 0, .int .i64 0, .int .i64 0, .int .i64 0, .int .i64 0, .int .i64 0, .int .i64 0] rfl 25 (.tmp 1) (.tmp 4) rfl rfl rfl (by decide) size_mt one_m1 (sets_full _ _ rfl) ?_; intro W1 q1 q2 q3; have H1 : Hid (Lc 25 b [.int .i64 0, .int .i64 2, .int .i64 0, .int .i64 0, .int .i64 0, .int .i64 0, .int .i64 0, .int .i64 0, .int .i64 0, .int .i64 0, .int .i64 0, .int .i64 0, .int .i64 0, .int .i64 0, .int .i64 0, .int .i64 0, .int .i64 0, .int .i64 0, .int .i64 0, .int .i64 0, .int .i64 0, .int .i64 0] W1 ∧ Fr (On b) W0 W1) := ⟨q1, q2⟩; clear q1 q2 q3)
  have c12 : W1.cell? ⟨b, 12, none⟩ = some (.int .i64 0) := H1.out.1.at rfl
  have f12 : W1.frozen? ⟨b, 12, none⟩ = false := H1.out.1.fz _
  clear hW0 hb
  obtain ⟨W2, hW2⟩ : ∃ W2, W1.setCell ⟨b, 12, none⟩ (.int .i64 2) = W2 := ⟨_, rfl⟩
  have H2 : Hid (Lc 25 b [.int .i64 0, .int .i64 2, .int .i64 0, .int .i64 0, .int .i64 0, .int .i64 0, .int .i64 0, .int .i64 0, .int .i64 0, .int .i64 0, .int .i64 0, .int .i64 0, .int .i64 2, .int .i64 0, .int .i64 0, .int .i64 0, .int .i64 0, .int .i64 0, .int .i64 0, .int .i64 0, .int .i64 0, .int .i64 0] W2 ∧ Kp w W2) := by
    have f1 : Fr (On b) W0 W2 := H1.out.2.trans (by rw [← hW2]; exact fr_set b 12 _ W1)
    refine ⟨by rw [← hW2]; exact H1.out.1.set 12 _, H0.out.2.1.trans (f1.below H0.out.2.1.size fun j hj q => ?_)⟩
    unfold On at q
    have := H0.out.2.2
    omega
  go_upto_region 3 with fail
  clear c12 f12 H1 H0 hW2
  obtain ⟨t, ht⟩ : ∃ t, W2.heap.size = t := ⟨_, rfl⟩
  obtain ⟨W3, hW3⟩ : ∃ W3, W2.alloc (.cells #[.int .u8 4, .string ⟨#[]⟩, .int .i64 0, .int .u8 117, .int .u8 2, .string ⟨#[]⟩, .int .i64 0, .int .u8 0, .int .u8 1, .string ⟨#[120]⟩, .int .i64 0, .int .u8 0, .int .u8 4, .string ⟨#[]⟩, .int .i64 0, .int .u8 85, .int .u8 2, .string ⟨#[]⟩, .int .i64 0, .int .u8 0] 29) = W3 := ⟨_, rfl⟩
  have H3 : Hid (Tms (.slice (some ⟨t, 0, none⟩) 5 5) knL W3 ∧ Kp w W3 ∧ Lc 25 b [.int .i64 0, .int .i64 2, .int .i64 0, .int .i64 0, .int .i64 0, .int .i64 0, .int .i64 0, .int .i64 0, .int .i64 0, .int .i64 0, .int .i64 0, .int .i64 0, .int .i64 2, .int .i64 0, .int .i64 0, .int .i64 0, .int .i64 0, .int .i64 0, .int .i64 0, .int .i64 0, .int .i64 0, .int .i64 0] W3) := by
    rw [← hW3, ← ht]
    exact ⟨tms_new knL W2 (by decide), kp_trans H2.out.2 (kp_alloc _ _), H2.out.1.kp (kp_alloc _ _)⟩
  go_upto_region 4 with fail
  clear hW3 ht
  go_wp2_with (first | (refine wpList_load_box H3.out.2.2 0 [.int .i64 0, .int .i64 2, .int .i64 0, .int .i64 0, .int .i64 0, .int .i64 0, .int .i64 0, .int .i64 0, .int .i64 0, .int .i64 0, .int .i64 0, .int .i64 0, .int .i64 2, .int .i64 0, .int .i64 0, .int .i64 0, .int .i64 0, .int .i64 0, .int .i64 0, .int .i64 0, .int .i64 0, .int .i64 0] rfl 25 (.tmp 1) rfl rfl rfl dT HT.out.1 HT.out.2 size_mt ?_) | (go_at_call 9; refine Calls.mono (HC.out _ _ H3.out.1) ?_; rintro e w4 ⟨a, n, cap, rfl, q1, q2⟩; obtain ⟨g, rfl, q3, c0⟩ := q1.at_ 0 _ rfl; have H4 : Hid (Kp w w4) := kp_trans H3.out.2.1 q2; obtain rfl : 1 = n := q1.len; have l1 := q1.le; clear q1 q2 q3))
  go_ret
  exact ⟨rfl, H4.out⟩
end Go.Proofs.Ythkodldldipimaa
/- ExpandGroup: the walk. -/
namespace Go.Proofs.Ythkodldldipimaa
open Go.ChangeShapes Go.WideShapes Go.ChangeAt Go.RowKit
set_option linter.unusedVariables false
set_option linter.unusedSimpArgs false
theorem lay_as (p : Pg) (h1 : p.nx = .as) (h2 : p.al = .as) (s : List UInt8) : p.lay s = { p with op := p.op ++ s } := by
  induction s generalizing p with
  | nil => simp [Pg.lay]
  | cons c s ih =>
    show (p.put c).lay s = _
    rw [ih (p.put c) h2 h2]
    simp [Pg.put, h1, h2, Lt.ap]
def grpP (K : Nat) : List Tm := [⟨2, [], K, 0⟩, ⟨2, [], 10, 0⟩, ⟨2, [], -1, 0⟩]
def grpM (K : Nat) (f t : Int) : Mt := ⟨0, 0, zer10.set K f, zer10.set K t⟩
theorem grp_lines (K : Nat) (L : List UInt8) (m : Mt) : linesF (grpP K) L m = [grpF L m K] := by
  have e1 : grpF L m 10 = [] := by unfold grpF; rw [if_pos (.inr (by decide))]
  have e2 : grpF L m (-1) = [] := by unfold grpF; rw [if_pos (.inl (by decide))]
  have h : pageF L m (grpP K) = ⟨.as, .as, [], grpF L m K⟩ := by
    simp only [pageF, grpP, List.foldl_cons, List.foldl_nil, stepX, e1, e2]
    simp only [show (2 : Nat) = 1 ↔ False by decide, if_true, if_false]
    rw [lay_as pg0 rfl rfl]
    rfl
  simp [linesF, h, Pg.fin]
theorem grpM_fit (K : Nat) (f t : Int) : (grpM K f t).fit := ⟨by simp [grpM, zer10], by simp [grpM, zer10]⟩
theorem grpM_set1 {K : Nat} (hK : K < 10) (f : Int) : (Mt.cells ⟨0, 0, zer10, zer10⟩).set (2 + K) (.int .i64 f) = Mt.cells ⟨0, 0, zer10.set K f, zer10⟩ := by
  have : K = 0 ∨ K = 1 ∨ K = 2 ∨ K = 3 ∨ K = 4 ∨ K = 5 ∨ K = 6 ∨ K = 7 ∨ K = 8 ∨ K = 9 := by omega
  rcases this with rfl | rfl | rfl | rfl | rfl | rfl | rfl | rfl | rfl | rfl <;> rfl
theorem grpM_set2 {K : Nat} (hK : K < 10) (f t : Int) : (Mt.cells ⟨0, 0, zer10.set K f, zer10⟩).set (12 + K) (.int .i64 t) = (grpM K f t).cells := by
  have : K = 0 ∨ K = 1 ∨ K = 2 ∨ K = 3 ∨ K = 4 ∨ K = 5 ∨ K = 6 ∨ K = 7 ∨ K = 8 ∨ K = 9 := by omega
  rcases this with rfl | rfl | rfl | rfl | rfl | rfl | rfl | rfl | rfl | rfl <;> rfl
theorem grpM_get {K : Nat} (hK : K < 10) (f t : Int) : (grpM K f t).bg.getD K 0 = f ∧ (grpM K f t).ed.getD K 0 = t := by
  simp [grpM, zer10, hK]
theorem zer_get (K : Nat) : zer10.getD K 0 = 0 := by
  match K with
  | 0 | 1 | 2 | 3 | 4 | 5 | 6 | 7 | 8 | 9 => rfl
  | K + 10 => simp [zer10]
theorem grp_flat (K : Nat) : flatT (grpP K) = [.int .u8 2, .string ⟨#[]⟩, .int .i64 K, .int .u8 0, .int .u8 2, .string ⟨#[]⟩, .int .i64 10, .int .u8 0, .int .u8 2, .string ⟨#[]⟩, .int .i64 (-1), .int .u8 0] := rfl
theorem grp_call {K : Nat} (hK : K < 10) (f t : Int) (L : ByteArray) (hL : L.size ≤ 500) {G : ByteArray} (hG : ⟨(grpF L.data.toList (grpM K f t) K).toArray⟩ = G) (v : Value) (w : World) (h : Tms v (grpP K) w) :
    Calls Try.prog 9 #[v, .string L, .agg (grpM K f t).cells.toArray] w fun e w' => ∃ a n cap, e = .returned (.slice a n cap) ∧ (∃ g, a = some ⟨g, 0, none⟩ ∧ w'.cell? ⟨g, 0, none⟩ = some (.string G)) ∧ 1 = n ∧ n ≤ cap ∧ Kp w w' := by
  refine (lines_sl h L _ (grpM_fit K f t) ⟨by simp [grpP], by simp; omega, by simp [grpP]⟩ (grp_lines K _ _)).mono ?_
  rintro e w' ⟨a, n, cap, rfl, hs, k⟩
  obtain ⟨g, rfl, _, hc⟩ := hs.at_ 0 _ rfl
  rw [hG] at hc
  exact ⟨_, _, _, rfl, ⟨g, rfl, hc⟩, hs.len, hs.le, k⟩
set_option maxHeartbeats 4000000 in
set_option maxRecDepth 100000 in
theorem group_walk (L : ByteArray) (f : Int) (t : Int) (n : Int) (w : World) : Calls Try.prog 3 #[.string L, .int .i64 f, .int .i64 t, .int .i64 n] w fun e w' => e = .returned (.bool true) ∧ Kp w w' := by
  obtain ⟨N, hN⟩ : ∃ N, L.size = N := ⟨_, rfl⟩
  by_cases hbig : 500 < N
  · have d1 : decide ((N : Int) > 500) = true := decide_eq_true (by omega)
    have d1' : decide ((500 : Int) < (N : Int)) = true := decide_eq_true (by omega)
    go_enter Try.func3, Try.ntmps3
    go_wp2_with fail
    refine Calls.mono (oknown_any w) ?_
    rintro e w1 ⟨rfl, k1⟩
    go_wp2_with fail
    go_ret
    exact ⟨rfl, k1⟩
  have d1 : decide ((N : Int) > 500) = false := decide_eq_false (by omega)
  have d1' : decide ((500 : Int) < (N : Int)) = false := decide_eq_false (by omega)
  obtain ⟨dT, hT1, hT2⟩ := row_mt
  have HT : Hid (Try.prog.underlying 25 = some dT ∧ dT.isRow = true) := ⟨hT1, hT2⟩
  obtain ⟨K, hK⟩ : ∃ K : Nat, (max n 0) % 10 = (K : Int) := ⟨((max n 0) % 10).toNat, by omega⟩
  have hK10 : K < 10 := by omega
  have hKt : (max n 0).tmod 10 = (K : Int) := by rw [Int.tmod_eq_emod_of_nonneg (by omega)]; exact hK
  obtain ⟨G, hG⟩ : ∃ G : ByteArray, (⟨(grpF L.data.toList (grpM K f t) K).toArray⟩ : ByteArray) = G := ⟨_, rfl⟩
  have HG : Hid ((⟨(grpF L.data.toList (grpM K f t) K).toArray⟩ : ByteArray) = G) := hG
  have HC : Hid (∀ v w, Tms v (grpP K) w → Calls Try.prog 9 #[v, .string L, .agg (grpM K f t).cells.toArray] w fun e w' => ∃ a n cap, e = .returned (.slice a n cap) ∧ (∃ g, a = some ⟨g, 0, none⟩ ∧ w'.cell? ⟨g, 0, none⟩ = some (.string G)) ∧ 1 = n ∧ n ≤ cap ∧ Kp w w') := fun v w h => grp_call hK10 f t L (by omega) hG v w h
  have HL : Hid (L.size = N) := hN
  clear hT1 hT2 hG
  go_enter Try.func3, Try.ntmps3
  go_wp2_with fail
  refine Calls.mono (oknown_any w) ?_
  rintro e w1 ⟨rfl, k1⟩
  have HK1 : Hid (Kp w w1) := k1
  clear k1
  obtain ⟨b, hb⟩ : ∃ b, w1.heap.size = b := ⟨_, rfl⟩
  obtain ⟨W0, hW0⟩ : ∃ W0, w1.alloc (.cells #[.int .i64 0, .int .i64 0, .int .i64 0, .int .i64 0, .int .i64 0, .int .i64 0, .int .i64 0, .int .i64 0, .int .i64 0, .int .i64 0, .int .i64 0, .int .i64 0, .int .i64 0, .int .i64 0, .int .i64 0, .int .i64 0, .int .i64 0, .int .i64 0, .int .i64 0, .int .i64 0, .int .i64 0, .int .i64 0] 25) = W0 := ⟨_, rfl⟩
  have H0 : Hid (Lc 25 b [.int .i64 0, .int .i64 0, .int .i64 0, .int .i64 0, .int .i64 0, .int .i64 0, .int .i64 0, .int .i64 0, .int .i64 0, .int .i64 0, .int .i64 0, .int .i64 0, .int .i64 0, .int .i64 0, .int .i64 0, .int .i64 0, .int .i64 0, .int .i64 0, .int .i64 0, .int .i64 0, .int .i64 0, .int .i64 0] W0 ∧ Kp w W0 ∧ w.heap.size ≤ b) := by
    rw [← hW0, ← hb]; exact ⟨Lc.new w1 [.int .i64 0, .int .i64 0, .int .i64 0, .int .i64 0, .int .i64 0, .int .i64 0, .int .i64 0, .int .i64 0, .int .i64 0, .int .i64 0, .int .i64 0, .int .i64 0, .int .i64 0, .int .i64 0, .int .i64 0, .int .i64 0, .int .i64 0, .int .i64 0, .int .i64 0, .int .i64 0, .int .i64 0, .int .i64 0] 25, kp_trans HK1.out (kp_alloc _ _), HK1.out.size⟩
  go_upto_region 4 with (refine wpList_store_box H0.out.1 0 [.int .i64 0, .int .i64 0, .int .i64 0, .int .i64 0, .int .i64 0, .int .i64 0, .int .i64 0, .int .i64 0, .int .i64 0, .int .i64 0, .int .i64 0, .int .i64 0, .int .i64 0, .int .i64 0, .int .i64 0, .int .i64 0, .int .i64 0, .int .i64 0, .int .i64 0, .int .i64 0, .int .i64 0, .int .i64 0] rfl 25 (.tmp 9) (.tmp 21) rfl rfl rfl (by decide) size_mt (mt_one ⟨0, 0, zer10, zer10⟩) (sets_full _ _ rfl) ?_; intro W1 q1 q2 q3; have H1 : Hid (Lc 25 b (Mt.cells ⟨0, 0, zer10, zer10⟩) W1 ∧ Fr (On b) W0 W1) := ⟨q1, q2⟩; clear q1 q2 q3)
  clear hW0 hb
  have c2 : W1.cell? ⟨b, 2 + K, none⟩ = some (.int .i64 0) := by rw [H1.out.1.at (Mt.getB ⟨rfl, rfl⟩ hK10), zer_get]
  have f2 : W1.frozen? ⟨b, 2 + K, none⟩ = false := H1.out.1.fz _
  obtain ⟨W2, hW2⟩ : ∃ W2, W1.setCell ⟨b, 2 + K, none⟩ (.int .i64 f) = W2 := ⟨_, rfl⟩
  have H2 : Hid (Lc 25 b (Mt.cells ⟨0, 0, zer10.set K f, zer10⟩) W2 ∧ Fr (On b) W0 W2) := by
    refine ⟨?_, H1.out.2.trans (by rw [← hW2]; exact fr_set b _ _ W1)⟩
    rw [← hW2, ← grpM_set1 hK10]
    exact H1.out.1.set _ _
  go_upto_region 6 with fail
  clear hW2 c2 f2
  have c12 : W2.cell? ⟨b, 12 + K, none⟩ = some (.int .i64 0) := by rw [H2.out.1.at (Mt.getE ⟨by simp [zer10], rfl⟩ hK10), zer_get]
  have f12 : W2.frozen? ⟨b, 12 + K, none⟩ = false := H2.out.1.fz _
  obtain ⟨W3, hW3⟩ : ∃ W3, W2.setCell ⟨b, 12 + K, none⟩ (.int .i64 t) = W3 := ⟨_, rfl⟩
  have H3 : Hid (Lc 25 b (grpM K f t).cells W3 ∧ Kp w W3) := by
    have f1 : Fr (On b) W0 W3 := H2.out.2.trans (by rw [← hW3]; exact fr_set b _ _ W2)
    refine ⟨?_, H0.out.2.1.trans (f1.below H0.out.2.1.size fun j hj q => ?_)⟩
    · rw [← hW3, ← grpM_set2 hK10]
      exact H2.out.1.set _ _
    · unfold On at q
      have := H0.out.2.2
      omega
  go_upto_region 7 with fail
  clear hW3 c12 f12 H1 H2 H0
  obtain ⟨p, hp⟩ : ∃ p, W3.heap.size = p := ⟨_, rfl⟩
  obtain ⟨W4, hW4⟩ : ∃ W4, W3.alloc (.cells #[.int .u8 2, .string ⟨#[]⟩, .int .i64 K, .int .u8 0, .int .u8 2, .string ⟨#[]⟩, .int .i64 10, .int .u8 0, .int .u8 2, .string ⟨#[]⟩, .int .i64 (-1), .int .u8 0] 29) = W4 := ⟨_, rfl⟩
  have H4 : Hid (Tms (.slice (some ⟨p, 0, none⟩) 3 3) (grpP K) W4 ∧ Kp w W4 ∧ Lc 25 b (grpM K f t).cells W4 ∧ (grpM K f t).cells.length = 22) := by
    rw [← hW4, ← hp]
    exact ⟨tms_new (grpP K) W3 (by simp [grpP]), kp_trans H3.out.2 (kp_alloc _ _), H3.out.1.kp (kp_alloc _ _), Mt.len (grpM_fit _ _ _)⟩
  go_upto_region 8 with (first | (refine wpList_load_box H4.out.2.2.1 0 (grpM K f t).cells rfl 25 (.tmp 9) rfl rfl (List.take_of_length_le (Nat.le_refl _)) dT HT.out.1 HT.out.2 (by rw [H4.out.2.2.2]; exact size_mt) ?_) | (go_at_call 9; refine Calls.mono (HC.out _ _ H4.out.1) ?_; rintro e w5 ⟨a, nn, cap, rfl, ⟨g, rfl, c0⟩, rfl, l1, q2⟩; have H5 : Hid (Kp w w5) := kp_trans H4.out.2.1 q2; clear q2))
  clear hW4 hp HC H3 H4 hK hKt
  have HGG : Hid (grpF L.data.toList (grpM K f t) K = if f < 0 ∨ t < f ∨ (N : Int) < t then [] else (L.data.toList.drop f.toNat).take (t.toNat - f.toNat)) := by
    show _ = _
    unfold grpF
    rw [if_neg (by omega)]
    simp only [Int.toNat_natCast, (grpM_get hK10 f t).1, (grpM_get hK10 f t).2]
    rw [show L.data.toList.length = N by rw [← HL.out]; simp]
  clear hK10
  by_cases h1 : f < 0
  · have e1 : decide (f ≥ 0) = false := decide_eq_false (by omega)
    have e1' : decide (0 ≤ f) = false := decide_eq_false (by omega)
    have eG : G = ⟨#[]⟩ := by rw [← HG.out, HGG.out, if_pos (.inl h1)]
    subst eG
    go_wp2_with fail
    go_ret
    exact ⟨rfl, H5.out⟩
  have e1 : decide (f ≥ 0) = true := decide_eq_true (by omega)
  have e1' : decide (0 ≤ f) = true := decide_eq_true (by omega)
  by_cases h2 : t < f
  · have e2 : decide (f ≤ t) = false := decide_eq_false (by omega)
    have eG : G = ⟨#[]⟩ := by rw [← HG.out, HGG.out, if_pos (.inr (.inl h2))]
    subst eG
    go_wp2_with fail
    go_ret
    exact ⟨rfl, H5.out⟩
  have e2 : decide (f ≤ t) = true := decide_eq_true (by omega)
  by_cases h3 : (N : Int) < t
  · have e3 : decide (t ≤ (N : Int)) = false := decide_eq_false (by omega)
    have eG : G = ⟨#[]⟩ := by rw [← HG.out, HGG.out, if_pos (.inr (.inr h3))]
    subst eG
    go_wp2_with fail
    go_ret
    exact ⟨rfl, H5.out⟩
  obtain ⟨x, rfl⟩ : ∃ x : Nat, f = (x : Int) := ⟨f.toNat, by omega⟩
  obtain ⟨y, rfl⟩ : ∃ y : Nat, t = (y : Int) := ⟨t.toNat, by omega⟩
  have e3 : decide ((y : Int) ≤ (N : Int)) = true := decide_eq_true (by omega)
  have e3' : decide (y ≤ N) = true := decide_eq_true (by omega)
  have e2' : decide (x ≤ y) = true := decide_eq_true (by omega)
  have h2' : x ≤ y := by omega
  have h3' : y ≤ N := by omega
  have eG : G = L.extract x y := by
    rw [← HG.out, HGG.out, if_neg (by omega)]
    apply ByteArray.ext
    rw [ByteArray.data_extract]
    apply Array.toList_inj.1
    simp [List.extract]
  subst eG
  clear HG HGG
  go_wp2_with fail
  go_ret
  exact ⟨rfl, H5.out⟩
end Go.Proofs.Ythkodldldipimaa
