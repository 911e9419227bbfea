/- Texts that the proof of the law stands on: Eval4, Til, Eval5, PParts0, PAlt, PForm, PSnd0, PSnd, PSnd2, Inv0, Inv1, Inv2, Inv3, Inv4. -/
import Derived.Test.YtlgemficalcghaaGreatPartI
import Derived.Lib.SmallJoins
import Derived.OpenShut
import Derived.Deep.Slices
import Derived.WalkKit
import Derived.ProofKit
/- What ~ is read as. -/
namespace Go.Proofs.YtlgemficalcghaaGreat
open Go.ChangeShapes Go.WideShapes Go.ChangeAt Go.RowKit
set_option linter.unusedVariables false
set_option linter.unusedSimpArgs false
/-- The nodes of ~, and the root. -/
def tilN (l : List UInt8) : List Nd := if l.length = 0 then [{ op := 1 }] else if l.length = 1 then bytesN l else bytesN l ++ [{ op := 5, kids := List.range l.length }]
def tilR (l : List UInt8) : Nat := if l.length ≤ 1 then 0 else l.length
theorem again_til (l : List UInt8) : againF ⟨l.toArray⟩ { rs0 with k := 1 } = (tilR l, { rs0 with k := 1, nds := tilN l }) := by
  unfold againF
  rw [if_neg (by simp [rs0]), size_list]
  have e : ({ rs0 with k := 1 } : RS).nds.length = 0 := rfl
  rw [e]
  have e2 : (List.range l.length).map (0 + ·) = List.range l.length := by simp
  rw [e2]
  show joinF 5 (List.range l.length) { rs0 with k := 1, nds := [] ++ bytesN l } = _
  rw [List.nil_append]
  by_cases h0 : l.length = 0
  · have : l = [] := List.eq_nil_of_length_eq_zero h0
    subst this; rfl
  by_cases h1 : l.length = 1
  · have e3 : tilN l = bytesN l := by unfold tilN; rw [if_neg h0, if_pos h1]
    have e4 : tilR l = 0 := by unfold tilR; rw [if_pos (by omega)]
    rw [e3, e4, h1]; rfl
  obtain ⟨n, hn⟩ : ∃ n, l.length = n + 2 := ⟨l.length - 2, by omega⟩
  have e3 : tilN l = bytesN l ++ [{ op := 5, kids := List.range l.length }] := by unfold tilN; rw [if_neg h0, if_neg h1]
  have e4 : tilR l = l.length := by unfold tilR; rw [if_neg (by omega)]
  have e5 : List.range l.length = 0 :: 1 :: (List.range n).map (· + 2) := by
    rw [hn, List.range_succ_eq_map, List.range_succ_eq_map]; simp [Function.comp_def]
  have e6 : (bytesN l).length = l.length := by simp [bytesN]
  rw [e3, e4, e5]
  show addN { op := 5, kids := 0 :: 1 :: (List.range n).map (· + 2) } _ = _
  unfold addN
  simp only [e6]
theorem til_read {l : List UInt8} (hl : l.length ≤ 300) : see (parF ⟨#[126]⟩ ⟨l.toArray⟩) = .ok (tilR l, 0, 0, tilN l) := by
  have hn : nextF ⟨#[126]⟩ 2 0 mdM 0 = .ok (⟨2, 126, 0⟩, 1, mdM, 0) := by kernel_rfl
  have h2 : nextF ⟨#[126]⟩ 2 1 mdM 0 = .ok (⟨0, 0, 1⟩, 1, mdM, 0) := by kernel_rfl
  have hpc : ∀ G r, pieceF G ⟨#[126]⟩ ⟨l.toArray⟩ ⟨2, 126, 0⟩ true r = .ok (againF ⟨l.toArray⟩ r) := fun G r => by simp [pieceF, signF]
  have hbr : ∀ G, brF (pieceF G ⟨#[126]⟩ ⟨l.toArray⟩) ⟨#[126]⟩ 2 rs0 [] = .ok (tilR l, ⟨0, 0, 1⟩, { rs0 with k := 1, nds := tilN l }) := fun G => by
    rw [brF]
    have hn' : nextF ⟨#[126]⟩ ((⟨#[126]⟩ : ByteArray).size + 1) rs0.k rs0.md rs0.cs = .ok (⟨2, 126, 0⟩, 1, mdM, 0) := hn
    simp only [hn']
    rw [if_neg (by decide), if_neg (by decide)]
    simp only [List.isEmpty_nil, hpc]
    have ha : againF ⟨l.toArray⟩ { rs0 with k := 1, md := mdM, cs := 0 } = (tilR l, { rs0 with k := 1, nds := tilN l }) := again_til l
    rw [ha, brF]
    have h2' : nextF ⟨#[126]⟩ ((⟨#[126]⟩ : ByteArray).size + 1) 1 rs0.md rs0.cs = .ok (⟨0, 0, 1⟩, 1, mdM, 0) := h2
    simp only [h2']
    rw [if_pos (by rfl)]
    rfl
  have hlen : (tilN l).length ≤ 301 := by
    unfold tilN
    split
    · simp
    · split
      · simp [bytesN]; omega
      · simp [bytesN]; omega
  unfold parF patF
  have e0 : (⟨#[126]⟩ : ByteArray).size = 1 := rfl
  have e1 : (⟨l.toArray⟩ : ByteArray).size = l.length := size_list l
  rw [if_neg (by rw [e0, e1]; omega), brsF]
  show see (match brsL (fun r => brF (pieceF (groupF (brsF ⟨#[126]⟩ ⟨l.toArray⟩ 9)) ⟨#[126]⟩ ⟨l.toArray⟩) ⟨#[126]⟩ 2 r []) 2 rs0 [] with
    | .error e => .error e
    | .ok (i, t, r') => if t.kd ≠ 0 then .error (31, t.pl) else if 400 < r'.nds.length then .error (33, 0) else .ok (i, r')) = _
  rw [brsL, hbr]
  simp only [joinF, List.nil_append]
  rw [if_neg (by decide)]
  simp only
  rw [if_neg (by decide), if_neg (by show ¬ 400 < (tilN l).length; omega)]
  rfl
/-- Leaves that are asked for from the last on. -/
theorem tree_leaves {L : List Nq} {G : Int} : ∀ (k f : Nat) (asked : List Bool), k < f → k ≤ L.length → asked.length = L.length → (∀ i, i < k → ∃ c, L[i]? = some { op := 2, c := c }) → (∀ i, i < k → asked.getD i false = false) → treeF L G f ((List.range k).map fun (n : Nat) => (n : Int)) asked = true := by
  intro k
  induction k with
  | zero =>
    intro f asked hf _ _ _ _
    obtain ⟨f, rfl⟩ : ∃ f', f = f' + 1 := ⟨f - 1, by omega⟩
    simp [treeF]
  | succ k ih =>
    intro f asked hf hk hl hL hA
    obtain ⟨f, rfl⟩ : ∃ f', f = f' + 1 := ⟨f - 1, by omega⟩
    obtain ⟨c, hc⟩ := hL k (by omega)
    have hn : nodeAt L (k : Int) = { op := 2, c := c } := by unfold nodeAt; rw [Int.toNat_natCast, hc]; rfl
    have hh : hasB L (k : Int) = true := decide_eq_true ⟨by omega, by omega⟩
    rw [treeF, List.range_succ, List.map_append]
    simp only [List.map_cons, List.map_nil, List.getLast?_concat, List.dropLast_concat, hn, hh, Int.toNat_natCast, hA k (by omega)]
    rw [if_pos (by simp [fitB, leafB]), List.append_nil]
    refine ih f (asked.set k true) (by omega) (by omega) (by simp [hl]) (fun i hi => hL i (by omega)) (fun i hi => ?_)
    have := hA i (by omega)
    simp only [List.getD_eq_getElem?_getD, List.getElem?_set_ne (by omega : k ≠ i)] at this ⊢
    exact this
end Go.Proofs.YtlgemficalcghaaGreat
/- The nodes of plain bytes: how many, which, and that they are sound. -/
namespace Go.Proofs.YtlgemficalcghaaGreat
open Go.ChangeShapes Go.WideShapes Go.ChangeAt Go.RowKit
set_option linter.unusedVariables false
set_option linter.unusedSimpArgs false
theorem til_len (l : List UInt8) : (tilN l).length = if l.length ≤ 1 then 1 else l.length + 1 := by
  unfold tilN
  by_cases h0 : l.length = 0
  · rw [if_pos h0, if_pos (by omega)]; rfl
  by_cases h1 : l.length = 1
  · rw [if_neg h0, if_pos h1, if_pos (by omega)]; simp [bytesN, h1]
  · rw [if_neg h0, if_neg h1, if_neg (by omega)]; simp [bytesN]
theorem til_byte {l : List UInt8} {i : Nat} (hi : i < l.length) : (tilN l)[i]? = some { op := 2, c := (l[i]).toNat } := by
  have hb : (bytesN l)[i]? = some { op := 2, c := (l[i]).toNat } := by simp [bytesN, hi]
  unfold tilN
  rw [if_neg (by omega)]
  split
  · exact hb
  · rw [List.getElem?_append_left (by simp [bytesN]; exact hi)]; exact hb
theorem til_root {l : List UInt8} (hl : 2 ≤ l.length) : (tilN l)[l.length]? = some { op := 5, kids := List.range l.length } := by
  unfold tilN
  rw [if_neg (by omega), if_neg (by omega), List.getElem?_append_right (by simp [bytesN])]
  simp [bytesN]
theorem til_op (l : List UInt8) : ∀ d ∈ (tilN l).map Nd.q, (d.op = 1 ∨ d.op = 2 ∨ d.op = 5) ∧ d.kids.length ≤ l.length := by
  intro d hd
  unfold tilN at hd
  split at hd
  · simp at hd; subst hd; exact ⟨.inl rfl, Nat.zero_le _⟩
  · have hb : ∀ d ∈ (bytesN l).map Nd.q, (d.op = 1 ∨ d.op = 2 ∨ d.op = 5) ∧ d.kids.length ≤ l.length := by
      intro d hd
      simp only [bytesN, List.map_map, List.mem_map, Function.comp] at hd
      obtain ⟨b, _, rfl⟩ := hd
      exact ⟨.inr (.inl rfl), Nat.zero_le _⟩
    split at hd
    · exact hb d hd
    · rw [List.map_append, List.mem_append] at hd
      rcases hd with hd | hd
      · exact hb d hd
      · simp only [List.map_cons, List.map_nil, List.mem_singleton] at hd
        subst hd
        exact ⟨.inr (.inr rfl), by simp [Nd.q]⟩
theorem til_sound {l : List UInt8} (hl : l.length ≤ 300) : soundF ((tilN l).map Nd.q) (tilR l) 0 = true := by
  unfold soundF
  rw [decide_eq_true (by omega), Bool.true_and]
  have hlen := til_len l
  have hleaf : ∀ i, i < l.length → ∃ c, ((tilN l).map Nd.q)[i]? = some { op := 2, c := c } := fun i hi => ⟨(l[i]).toNat, by rw [List.getElem?_map, til_byte hi]; rfl⟩
  have hrep : ∀ (n i : Nat), (List.replicate n false).getD i false = false := fun n i => by
    simp only [List.getD_eq_getElem?_getD]
    cases h : (List.replicate n false)[i]? with
    | none => rfl
    | some b => have := List.mem_of_getElem? h; simp at this; exact this.2
  by_cases h0 : l.length = 0
  · have : l = [] := List.eq_nil_of_length_eq_zero h0
    subst this; rfl
  by_cases h1 : l.length = 1
  · have e4 : tilR l = 0 := by unfold tilR; rw [if_pos (by omega)]
    rw [e4]
    exact tree_leaves 1 _ _ (by rw [List.length_map, hlen, if_pos (by omega)]; omega) (by rw [List.length_map, hlen, if_pos (by omega)]; omega) (by simp) (fun i hi => hleaf i (by omega)) (fun i _ => hrep _ i)
  have e4 : tilR l = l.length := by unfold tilR; rw [if_neg (by omega)]
  rw [if_neg (by omega)] at hlen
  have hroot : nodeAt ((tilN l).map Nd.q) (l.length : Int) = { op := 5, kids := (List.range l.length).map fun (n : Nat) => (n : Int) } := by
    unfold nodeAt
    rw [Int.toNat_natCast, List.getElem?_map, til_root (by omega)]; rfl
  have hh : hasB ((tilN l).map Nd.q) (l.length : Int) = true := decide_eq_true ⟨by omega, by rw [List.length_map, hlen]; omega⟩
  rw [e4, treeF]
  simp only [List.getLast?_singleton, List.dropLast_singleton, hroot, hh, hrep, Int.toNat_natCast, List.nil_append]
  rw [if_pos (by simp [fitB, leafB]; omega)]
  refine tree_leaves l.length _ _ (by rw [List.length_map, hlen]; omega) (by rw [List.length_map, hlen]; omega) (by simp) hleaf (fun i hi => ?_)
  simp only [List.getD_eq_getElem?_getD, List.getElem?_set_ne (by omega : l.length ≠ i)]
  have := hrep ((tilN l).map Nd.q).length i
  simp only [List.getD_eq_getElem?_getD] at this
  exact this
end Go.Proofs.YtlgemficalcghaaGreat
/- What plain bytes are read as, behind a mode's word or none. -/
namespace Go.Proofs.YtlgemficalcghaaGreat
open Go.ChangeShapes Go.WideShapes Go.ChangeAt Go.RowKit
set_option linter.unusedVariables false
set_option linter.unusedSimpArgs false
/-- A mode's word, and the mode behind it. -/
def Md (m : List UInt8) (md : ByteArray) : Prop := (m = [] ∧ md = mdM) ∨ (m = [92, 118] ∧ md = mdV) ∨ (m = [92, 109] ∧ md = mdM) ∨ (m = [92, 77] ∧ md = mdN) ∨ (m = [92, 86] ∧ md = mdO)
theorem join_til (l : List UInt8) (r : RS) (h : r.nds = bytesN l) : joinF 5 (List.range l.length) r = (tilR l, { r with nds := tilN l }) := by
  obtain ⟨k, md, cs, g, cl, nds⟩ := r
  simp only at h
  subst h
  by_cases h0 : l.length = 0
  · have : l = [] := List.eq_nil_of_length_eq_zero h0
    subst this; rfl
  by_cases h1 : l.length = 1
  · have e3 : tilN l = bytesN l := by unfold tilN; rw [if_neg h0, if_pos h1]
    have e4 : tilR l = 0 := by unfold tilR; rw [if_pos (by omega)]
    rw [e3, e4, h1]; rfl
  obtain ⟨n, hn⟩ : ∃ n, l.length = n + 2 := ⟨l.length - 2, by omega⟩
  have e3 : tilN l = bytesN l ++ [{ op := 5, kids := List.range l.length }] := by unfold tilN; rw [if_neg h0, if_neg h1]
  have e4 : tilR l = l.length := by unfold tilR; rw [if_neg (by omega)]
  have e5 : List.range l.length = 0 :: 1 :: (List.range n).map (· + 2) := by
    rw [hn, List.range_succ_eq_map, List.range_succ_eq_map]; simp [Function.comp_def]
  have e6 : (bytesN l).length = l.length := by simp [bytesN]
  rw [e3, e4, e5]
  show addN { op := 5, kids := 0 :: 1 :: (List.range n).map (· + 2) } _ = _
  unfold addN
  simp only [e6]
section
variable {m t : List UInt8} {md : ByteArray}
theorem byte_at (i : Nat) (hi : i < t.length) : byteAt ⟨(m ++ t).toArray⟩ (m.length + i) = (t[i]).toNat := by
  unfold byteAt
  simp [hi]
theorem next_one (hb : ∀ b ∈ t, b ≠ 92 ∧ amo b.toNat md = false) (f i cs : Nat) (hi : i < t.length) : nextF ⟨(m ++ t).toArray⟩ (f + 1) (m.length + i) md cs = .ok (⟨1, (t[i]).toNat, m.length + i⟩, m.length + i + 1, md, cs) := by
  have hq := hb t[i] (List.getElem_mem hi)
  have h92 : (t[i]).toNat ≠ 92 := fun e => hq.1 (UInt8.toNat_inj.1 e)
  have ht : tokOf ⟨(m ++ t).toArray⟩ md (m.length + i) = some (⟨1, (t[i]).toNat, m.length + i⟩, m.length + i + 1) := by
    unfold tokOf
    rw [if_pos (by rw [size_list, List.length_append]; omega), byte_at i hi, if_neg h92, hq.2]
    rfl
  rw [nextF, ht]
  rfl
theorem next_fin (f cs : Nat) : nextF ⟨(m ++ t).toArray⟩ (f + 1) (m.length + t.length) md cs = .ok (⟨0, 0, m.length + t.length⟩, m.length + t.length, md, cs) := by
  have ht : tokOf ⟨(m ++ t).toArray⟩ md (m.length + t.length) = some (⟨0, 0, m.length + t.length⟩, m.length + t.length) := by
    unfold tokOf
    rw [if_neg (by rw [size_list, List.length_append]; omega)]
  rw [nextF, ht]
  rfl
theorem br_plain (hb : ∀ b ∈ t, b ≠ 92 ∧ amo b.toNat md = false) (G : Tok → RS → Except (Nat × Nat) (Nat × RS)) (last : ByteArray) : ∀ (j i f : Nat) (r : RS), i + j = t.length → j < f → r.k = m.length + i → r.md = md → r.nds = bytesN (t.take i) →
    brF (pieceF G ⟨(m ++ t).toArray⟩ last) ⟨(m ++ t).toArray⟩ f r (List.range i) = .ok (tilR t, ⟨0, 0, m.length + t.length⟩, { r with k := m.length + t.length, nds := tilN t }) := by
  intro j
  induction j with
  | zero =>
    intro i f r hi hf hk hm hn
    obtain ⟨f, rfl⟩ : ∃ f', f = f' + 1 := ⟨f - 1, by omega⟩
    obtain rfl : i = t.length := by omega
    rw [brF, hk, hm, next_fin]
    simp only
    rw [if_pos (by rfl)]
    rw [List.take_length] at hn
    have := join_til t { r with k := m.length + t.length, md := md } hn
    obtain ⟨rk, rmd, rcs, rg, rcl, rn⟩ := r
    simp only at hm hk hn this ⊢
    subst hm
    rw [this]
  | succ j ih =>
    intro i f r hi hf hk hm hn
    obtain ⟨f, rfl⟩ : ∃ f', f = f' + 1 := ⟨f - 1, by omega⟩
    rw [brF, hk, hm, next_one hb _ i _ (by omega)]
    simp only
    rw [if_neg (by simp [Tok.ends]), if_neg (by simp)]
    have hp : ∀ b q, pieceF G ⟨(m ++ t).toArray⟩ last ⟨1, (t[i]'(by omega)).toNat, m.length + i⟩ b q = .ok (addN { op := 2, c := (t[i]'(by omega)).toNat } q) := fun b q => rfl
    rw [hp]
    obtain ⟨rk, rmd, rcs, rg, rcl, rn⟩ := r
    simp only at hm hk hn ⊢
    subst hm hk hn
    simp only [addN]
    have e1 : (bytesN (t.take i)).length = i := by simp [bytesN]; omega
    rw [e1, ← List.range_succ]
    rw [ih (i + 1) f _ (by omega) (by omega) (by simp only; omega) rfl (by simp only; rw [List.take_succ_eq_append_getElem (by omega)]; unfold bytesN; rw [List.map_append]; rfl)]
theorem next_start (h : Md m md) (f cs : Nat) (hf : 1 ≤ f) : ∀ R, nextF ⟨(m ++ t).toArray⟩ f m.length md cs = R → nextF ⟨(m ++ t).toArray⟩ (f + 1) m.length md cs = R → nextF ⟨(m ++ t).toArray⟩ (f + 1) 0 mdM cs = R := by
  intro R h1 h2
  rcases h with ⟨rfl, rfl⟩ | ⟨rfl, rfl⟩ | ⟨rfl, rfl⟩ | ⟨rfl, rfl⟩ | ⟨rfl, rfl⟩
  · exact h2
  all_goals
    rw [← h1, nextF]
    unfold tokOf
    rw [if_pos (by rw [size_list]; simp), if_pos (by rfl), if_pos (by rw [size_list]; simp)]
    rfl
theorem plain_read3 (h : Md m md) (hb : ∀ b ∈ t, b ≠ 92 ∧ amo b.toNat md = false) (hl : t.length ≤ 290) : see (parF ⟨(m ++ t).toArray⟩ ⟨#[]⟩) = .ok (tilR t, 0, 0, tilN t) := by
  have hml : m.length ≤ 2 := by rcases h with ⟨rfl, _⟩ | ⟨rfl, _⟩ | ⟨rfl, _⟩ | ⟨rfl, _⟩ | ⟨rfl, _⟩ <;> simp
  have hsz : (⟨(m ++ t).toArray⟩ : ByteArray).size = m.length + t.length := by rw [size_list, List.length_append]
  have hbr : ∀ G, brF (pieceF G ⟨(m ++ t).toArray⟩ ⟨#[]⟩) ⟨(m ++ t).toArray⟩ (m.length + t.length + 1) rs0 [] = .ok (tilR t, ⟨0, 0, m.length + t.length⟩, { rs0 with k := m.length + t.length, md := md, nds := tilN t }) := fun G => by
    have q := br_plain (m := m) hb G ⟨#[]⟩ t.length 0 (m.length + t.length + 1) { rs0 with k := m.length, md := md } (by omega) (by omega) rfl rfl rfl
    rw [← q]
    rw [brF, brF]
    have e : nextF ⟨(m ++ t).toArray⟩ ((⟨(m ++ t).toArray⟩ : ByteArray).size + 1) 0 mdM 0 = nextF ⟨(m ++ t).toArray⟩ ((⟨(m ++ t).toArray⟩ : ByteArray).size + 1) m.length md 0 := by
      by_cases h0 : m.length + t.length = 0
      · obtain rfl : m = [] := List.eq_nil_of_length_eq_zero (by omega)
        rcases h with ⟨_, rfl⟩ | ⟨h, _⟩ | ⟨h, _⟩ | ⟨h, _⟩ | ⟨h, _⟩
        · rfl
        all_goals cases h
      obtain ⟨z, hz⟩ : ∃ z, m.length + t.length = z + 1 := ⟨m.length + t.length - 1, by omega⟩
      rw [hsz, hz]
      refine next_start h (z + 1) 0 (by omega) _ ?_ rfl
      by_cases ht : t.length = 0
      · have e1 := fun f => next_fin (m := m) (t := t) (md := md) f 0
        rw [ht, Nat.add_zero] at e1
        rw [e1, e1]
      · have e1 := fun f => next_one (m := m) hb f 0 0 (by omega)
        rw [Nat.add_zero] at e1
        rw [e1, e1]
    have e' : nextF ⟨(m ++ t).toArray⟩ ((⟨(m ++ t).toArray⟩ : ByteArray).size + 1) rs0.k rs0.md rs0.cs = nextF ⟨(m ++ t).toArray⟩ ((⟨(m ++ t).toArray⟩ : ByteArray).size + 1) m.length md 0 := e
    rw [e']
    rfl
  have hlen : (tilN t).length ≤ 301 := by
    unfold tilN
    split
    · simp
    · split
      · simp [bytesN]; omega
      · simp [bytesN]; omega
  unfold parF patF
  have e1 : (⟨#[]⟩ : ByteArray).size = 0 := rfl
  rw [if_neg (by rw [hsz, e1]; omega), brsF, hsz]
  rw [brsL, hbr]
  simp only [joinF, List.nil_append]
  rw [if_neg (by decide)]
  simp only
  rw [if_neg (by decide), if_neg (by show ¬ 400 < (tilN t).length; omega)]
  rfl
theorem plain_read (h : Md m md) (hb : ∀ b ∈ t, b ≠ 92 ∧ amo b.toNat md = false) (hl : t.length ≤ 100) : see (parF ⟨(m ++ t).toArray⟩ ⟨#[]⟩) = .ok (tilR t, 0, 0, tilN t) := plain_read3 h hb (by omega)
end
end Go.Proofs.YtlgemficalcghaaGreat
/- ProgParts: the code of letters, and whether a text is of letters alone. -/
namespace Go.Proofs.YtlgemficalcghaaGreat
open Go.ChangeShapes Go.WideShapes Go.ChangeAt Go.RowKit
set_option linter.unusedVariables false
set_option linter.unusedSimpArgs false
def insC (b : UInt8) : Ins := { op := 1, c := b.toNat }
def codL (l : List UInt8) : List Ins := l.map insC ++ [{ op := 14 }]
def lowB (c : Nat) : Bool := decide (97 ≤ c ∧ c ≤ 122)
def lowL (l : List UInt8) : Bool := l.all fun b => lowB b.toNat
theorem low_amo : ∀ n : Fin 256, lowB n.val = true → n.val ≠ 92 ∧ amo n.val mdM = false := by decide +kernel
theorem mapT_all {f : Int → Option PT} {h : Int → PT} : ∀ (ks : List Int), (∀ k ∈ ks, f k = some (h k)) → mapT f ks = some (ks.map h)
  | [], _ => rfl
  | k :: ks, q => by
    rw [mapT, q k (by simp), mapT_all ks (fun x hx => q x (by simp [hx]))]
    rfl
theorem til_leaf {l : List UInt8} {i : Nat} (hi : i < l.length) (n : Nat) : toT ((tilN l).map Nd.q) (n + 1) (i : Int) = some (.leaf (insC l[i])) := by
  have hlen := til_len l
  have hh : hasB ((tilN l).map Nd.q) (i : Int) = true := decide_eq_true ⟨by omega, by rw [List.length_map, hlen]; split <;> omega⟩
  have hnode : nodeAt ((tilN l).map Nd.q) (i : Int) = { op := 2, c := (l[i]).toNat } := by
    unfold nodeAt
    rw [Int.toNat_natCast, List.getElem?_map, til_byte hi]; rfl
  rw [toT, if_pos hh]
  simp only [hnode]
  rfl
theorem seq_leaf (l : List UInt8) (p r : Nat) : (seqOf (l.map fun b => .leaf (insC b))).code p r = l.map insC ∧ (seqOf (l.map fun b => PT.leaf (insC b))).len = l.length ∧ (seqOf (l.map fun b => PT.leaf (insC b))).rnd = 0 ∧ (seqOf (l.map fun b => PT.leaf (insC b))).size ≤ 2 * l.length + 1 := by
  induction l generalizing p r with
  | nil => simp [seqOf, PT.code, PT.len, PT.rnd, PT.size]
  | cons b l ih =>
    obtain ⟨h1, h2, h3, h4⟩ := ih (p + 1) (r + 0)
    simp only [List.map_cons, seqOf, PT.code, PT.len, PT.rnd, PT.size, h1, h2, h3, List.length_cons]
    exact ⟨by simp, by omega, by simp, by omega⟩
theorem til_tree (l : List UInt8) : ∃ t, toT ((tilN l).map Nd.q) 100 (tilR l : Nat) = some t ∧ t.code 0 0 = l.map insC ∧ t.len = l.length ∧ t.rnd = 0 ∧ t.size ≤ 2 * l.length + 1 := by
  by_cases h0 : l.length = 0
  · have : l = [] := List.eq_nil_of_length_eq_zero h0
    subst this
    exact ⟨.empty, rfl, rfl, rfl, rfl, by simp [PT.size]⟩
  by_cases h1 : l.length = 1
  · have e4 : tilR l = 0 := by unfold tilR; rw [if_pos (by omega)]
    obtain ⟨b, rfl⟩ := List.length_eq_one_iff.1 h1
    exact ⟨.leaf (insC b), by rw [e4]; exact til_leaf (l := [b]) (i := 0) (by simp) 99, rfl, rfl, rfl, by simp [PT.size]⟩
  have e4 : tilR l = l.length := by unfold tilR; rw [if_neg (by omega)]
  have hlen := til_len l
  rw [if_neg (by omega)] at hlen
  have hroot : nodeAt ((tilN l).map Nd.q) (l.length : Int) = { op := 5, kids := (List.range l.length).map fun (n : Nat) => (n : Int) } := by
    unfold nodeAt
    rw [Int.toNat_natCast, List.getElem?_map, til_root (by omega)]; rfl
  have hh : hasB ((tilN l).map Nd.q) (l.length : Int) = true := decide_eq_true ⟨by omega, by rw [List.length_map, hlen]; omega⟩
  have hm : mapT (toT ((tilN l).map Nd.q) 99) ((List.range l.length).map fun (n : Nat) => (n : Int)) = some (l.map fun b => .leaf (insC b)) := by
    rw [mapT_all (h := fun k => .leaf (insC (l.getD k.toNat 0))) _ (fun k hk => ?_)]
    · congr 1
      apply List.ext_getElem
      · simp
      · intro i h1 h2
        simp at h1
        simp [h1]
    · obtain ⟨i, hi, rfl⟩ := List.mem_map.1 hk
      rw [List.mem_range] at hi
      rw [til_leaf hi 98]
      simp [hi]
  obtain ⟨q1, q2, q3, q4⟩ := seq_leaf l 0 0
  refine ⟨_, ?_, q1, q2, q3, q4⟩
  rw [e4, toT, if_pos hh]
  simp only [hroot, hm]
  rw [if_pos True.intro, if_pos (by simp; omega)]
  rfl
theorem progF_code {t : PT} (h : t.len + 1 ≤ 2000) : progF t = some (t.code 0 0 ++ [{ op := 14 }], t.rnd) := by
  unfold progF
  have e : runT t ([], 0) = some (t.code 0 0, t.rnd) := by
    unfold runT
    rw [if_pos (by simp; omega)]
    simp
  rw [e, Option.bind_some]
  unfold runI
  rw [if_pos (by simp [PT.code_len]; omega)]
theorem parts_seen {l : List UInt8} (hp : lowL l = true) (hl : l.length ≤ 290) : ∃ r, resF l = some r ∧ okR r = true ∧ r.cs = 0 ∧ progF r.t = some (codL l, 0) := by
  have hb : ∀ b ∈ l, b ≠ 92 ∧ amo b.toNat mdM = false := by
    intro b hb
    unfold lowL at hp
    rw [List.all_eq_true] at hp
    have q := low_amo ⟨b.toNat, UInt8.toNat_lt b⟩ (hp b hb)
    exact ⟨fun e => q.1 (by rw [e]; rfl), q.2⟩
  have hr := plain_read3 (m := []) (t := l) (md := mdM) (.inl ⟨rfl, rfl⟩) hb hl
  rw [List.nil_append] at hr
  obtain ⟨t, h1, h2, h3, h4, h5⟩ := til_tree l
  refine ⟨⟨tilR l, 0, 0, tilN l, t⟩, by unfold resF; rw [hr]; simp only [h1]; rfl, ?_, rfl, ?_⟩
  · have hlen := til_len l
    have hk : (tilN l).all (fun d => decide (d.kids.length ≤ 400)) = true := by
      rw [List.all_eq_true]
      intro d hd
      have := (til_op l d.q (List.mem_map.2 ⟨d, hd, rfl⟩)).2
      simp only [Nd.q, List.length_map] at this
      exact decide_eq_true (by omega)
    simp only [okR, Bool.and_eq_true, decide_eq_true_eq]
    refine ⟨⟨⟨til_sound (by omega), ?_⟩, hk⟩, by omega⟩
    rw [hlen]
    split <;> omega
  · show progF t = _
    rw [progF_code (by omega), h2, h4]
    rfl
section
variable {w w1 : World}
set_option maxHeartbeats 4000000 in
set_option maxRecDepth 100000 in
theorem qplain_any (s : ByteArray) (w : World) (hs : s.size ≤ 400) : Calls Tryz.prog 12 #[.string s] w fun e w' => e = .returned (.bool (lowL s.data.toList)) ∧ w' = w := by
  obtain ⟨X, hX⟩ : ∃ X, (s.data.toList.all fun b => lowB b.toNat) = X := ⟨_, rfl⟩
  obtain ⟨n, hn⟩ : ∃ n, s.size = n := ⟨_, rfl⟩
  unfold lowL
  rw [hX]
  have HX : Hid ((s.data.toList.all fun b => lowB b.toNat) = X ∧ s.size = n ∧ s.data.toList.length = n) := ⟨hX, hn, by rw [Array.length_toList]; exact hn⟩
  clear hX
  go_enter Tryz.func12, Tryz.ntmps12
  go_wp2_with fail
  go_loopw [3] (fun v2 wr => ∃ i : Nat, i ≤ n ∧ v2 = .int .i64 i ∧ ((s.data.toList.drop i).all fun b => lowB b.toNat) = X ∧ wr = w) (fun v2 _ => n - (intOf v2).toNat)
  case atStart => exact ⟨0, Nat.zero_le _, rfl, HX.out.1, rfl⟩
  case round =>
    obtain ⟨i, hi, rfl, hd, rfl⟩ := hrel
    by_cases hlt : i < n
    · have dl : decide ((i : Int) < (n : Int)) = true := decide_eq_true (by omega)
      have hil : i < s.size := by rw [hn]; exact hlt
      have hil2 : i < s.data.toList.length := by rw [HX.out.2.2]; exact hlt
      obtain ⟨c, hc⟩ : ∃ c, s[i]'hil = c := ⟨_, rfl⟩
      have hc2 : s.data.toList[i]'hil2 = c := by rw [← hc]; rfl
      have HD : Hid ((lowB c.toNat && ((s.data.toList.drop (i + 1)).all fun b => lowB b.toNat)) = X) := by
        show _ = X
        rw [← hd, List.drop_eq_getElem_cons hil2, List.all_cons, hc2]
      clear hd hc2 hil2
      cases hp : lowB c.toNat
      · have hX : X = false := by rw [← HD.out, hp]; rfl
        subst hX
        have HP : Hid (lowB c.toNat = false) := hp
        clear hp HD HX
        go_wp2_with fail
        all_goals first
          | (go_ret; exact ⟨rfl, rfl⟩)
          | (exfalso
             have hq := HP.out
             unfold lowB at hq
             simp at hq
             simp_all
             try omega)
      · have HP : Hid (lowB c.toNat = true ∧ ((s.data.toList.drop (i + 1)).all fun b => lowB b.toNat) = X) := ⟨hp, by rw [← HD.out, hp]; rfl⟩
        clear hp HD
        go_wp2_with fail
        all_goals first
          | exact ⟨⟨i + 1, by omega, by go_num, HP.out.2, trivial⟩, by simp [intOf]; omega⟩
          | (exfalso
             have hq := HP.out.1
             unfold lowB at hq
             simp at hq
             simp_all
             try omega)
    · obtain rfl : i = n := by omega
      have dl : decide ((i : Int) < (i : Int)) = false := by simp
      have hX : X = true := by rw [← hd, List.drop_eq_nil_of_le (by rw [HX.out.2.2]; omega)]; rfl
      subst hX
      clear hd
      go_wp2_with fail
      go_ret
      exact ⟨rfl, rfl⟩
end
end Go.Proofs.YtlgemficalcghaaGreat
/- ProgAlt: the walk. -/
namespace Go.Proofs.YtlgemficalcghaaGreat
open Go.ChangeShapes Go.WideShapes Go.ChangeAt Go.RowKit
set_option linter.unusedVariables false
set_option linter.unusedSimpArgs false
theorem sA_len (i : Nat) : (sA i).length ≤ 3 * i := by
  induction i with
  | zero => simp [sA]
  | succ i ih =>
    simp only [sA]
    split
    · simp; omega
    · simp; omega
section
variable {w w1 : World}
theorem byte_str (w : World) (n : Int) (c : UInt8) (h : n = (c.toNat : Int)) : (convert 22 9 (.slice (some ⟨w.heap.size, 0, none⟩) 1 1)).run Tryz.prog (w.alloc (.cells #[.int .u8 n] 5)) = .ok (str [c]) (w.alloc (.cells #[.int .u8 n] 5)) :=
  run_convert_bytes_back (P := Tryz.prog) _ 22 9 5 ⟨w.heap.size, 0, none⟩ 1 [c] Tryz.underlying22 Tryz.underlying5 Tryz.underlying9 (fun j hj => by
    have hj0 : j = 0 := by simpa using hj
    subst hj0
    rw [Addr.add_lit, cell_at (alloc_new w _)]
    show some (Value.int .u8 n) = some (Value.int .u8 (c.toNat : Int))
    rw [h])
theorem Cd.cell8 {b o cap n : Nat} {C : List Ins} (h : Cd w (.slice (some ⟨b, o, none⟩) n cap) C) {i : Nat} {d : Ins} (hi : C[i]? = some d) (j : Nat) (u : Value) (hj : d.cells[j]? = some u) : w.cell? ⟨b, o + i * 8 + j, none⟩ = some u := by
  obtain ⟨b', o', e, q⟩ := h.at_ hi
  injection e with e
  injection e with e1 e2
  subst e1 e2
  exact q j u hj
/-- What is known of the code of so many branches. -/
structure AltF (M : Nat) (C : List Ins) : Prop where
  len : C.length = 3 * M - 1
  sp : ∀ i, i < M - 1 → C[3 * i]? = some (splitI false (3 * i) (3 * i + 3))
  by_ : ∀ i, i < M - 1 → ∃ d, C[3 * i + 1]? = some d ∧ d.c = 97 + i
  jp : ∀ i, i < M - 1 → C[3 * i + 2]? = some (jumpI (3 * M - 2))
  la : ∃ d, C[3 * M - 3]? = some d ∧ d.c = 97 + (M - 1)
theorem altC_f {M : Nat} {C : List Ins} (h : altC M C = true) : AltF M C := by
  simp only [altC, Bool.and_eq_true, decide_eq_true_eq, List.all_eq_true, List.mem_range] at h
  obtain ⟨⟨h1, h2⟩, h3⟩ := h
  refine ⟨h1, fun i hi => (h2 i hi).1.1, fun i hi => ?_, fun i hi => (h2 i hi).2, ?_⟩
  · obtain ⟨d, q1, q2⟩ := Option.map_eq_some_iff.1 (h2 i hi).1.2
    exact ⟨d, q1, q2⟩
  · obtain ⟨d, q1, q2⟩ := Option.map_eq_some_iff.1 h3
    exact ⟨d, q1, q2⟩
set_option maxHeartbeats 4000000 in
set_option maxRecDepth 100000 in
theorem alt_law (n : Nat) (hn : n < 256) (g : Gm w) : Calls Tryz.prog 3 #[.int .u8 n] w fun e w' => e = .returned (.bool true) ∧ Kp w w' := by
  obtain ⟨m, hm⟩ : ∃ m, n % 20 = m := ⟨_, rfl⟩
  have e1 : (n : Int) % 20 = (m : Int) := by omega
  obtain ⟨M, hM⟩ : ∃ M, m + 1 = M := ⟨_, rfl⟩
  have e2 : 1 + (m : Int) = (M : Int) := by omega
  have hM20 : 1 ≤ M ∧ M ≤ 20 := by omega
  have hch := chAlt_all ⟨m, by omega⟩
  simp only [hM] at hch
  have HG : Hid (Gm w ∧ chAlt M = true) := ⟨g, hch⟩
  clear g hm hM hch
  go_enter Tryz.func3, Tryz.ntmps3
  go_wp2_with fail
  go_loopw [4, 5] (fun v4 v5 wr => ∃ i : Nat, i ≤ M ∧ v5 = .int .i64 i ∧ v4 = str (sA i) ∧ Hid (Kp w wr)) (fun _ v5 _ => M - (intOf v5).toNat)
  case atStart => exact ⟨0, Nat.zero_le _, rfl, rfl, Below.refl _ _⟩
  case round =>
    obtain ⟨i, hi, rfl, rfl, HK⟩ := hrel
    by_cases hlt : i < M
    · have dl : decide ((i : Int) < (M : Int)) = true := decide_eq_true (by omega)
      obtain ⟨c, hc⟩ : ∃ c, (97 + i).toUInt8 = c := ⟨_, rfl⟩
      have ec : 97 + (i : Int) = (c.toNat : Int) := by rw [← hc]; simp [Nat.toUInt8]; omega
      have hl := sA_len i
      have hcv := fun W => byte_str W (97 + (i : Int)) c ec
      have HL : Hid ((sA (i + 1)).length ≤ 1000) := by have := sA_len (i + 1); show _ ≤ _; omega
      by_cases h0 : 0 < i
      · have d0 : decide ((0 : Int) < (i : Int)) = true := decide_eq_true (by omega)
        obtain ⟨y, hy⟩ : ∃ y, sA i ++ [92, 124] = y := ⟨_, rfl⟩
        have hA1 := cat_run hy (by rw [← hy]; simp; omega)
        obtain ⟨z, hz⟩ : ∃ z, sA (i + 1) = z := ⟨_, rfl⟩
        have hA2 := cat_run (show y ++ [c] = z from by rw [← hy, ← hz, ← hc]; simp [sA, h0]) (by rw [← hz]; have := HL.out; omega)
        have HZ : Hid (sA (i + 1) = z) := hz
        clear hy hz hc ec hl
        go_wp2_with fail
        go_roundw
        case rel => exact ⟨i + 1, by omega, by go_num, by rw [HZ.out], kp_trans HK.out (kp_alloc _ _)⟩
        case measure => simp only [intOf]; omega
      · have hi0 : i = 0 := by omega
        subst hi0
        have hA2 := cat_run (show ([] : List UInt8) ++ [c] = [c] from rfl) (by simp)
        have HZ : Hid (sA (0 + 1) = [c]) := by rw [← hc]; rfl
        have hs0 : sA 0 = [] := rfl
        rw [hs0]
        clear hc ec hl
        simp only [Int.natCast_zero, Int.add_zero] at hcv dl ⊢
        go_wp2_with fail
        go_roundw
        case rel => exact ⟨0 + 1, by omega, by go_num, by rw [HZ.out], kp_trans HK.out (kp_alloc _ _)⟩
        case measure => simp only [intOf]; omega
    · have hiM : i = M := by omega
      subst hiM
      have dl : decide ((i : Int) < (i : Int)) = false := by simp
      have hch := HG.out.2
      unfold chAlt at hch
      cases hr : resF (sA i) with
      | none => rw [hr] at hch; cases hch
      | some r =>
        rw [hr] at hch
        simp only [Bool.and_eq_true, beq_iff_eq] at hch
        obtain ⟨⟨ho, hcs⟩, hpx⟩ := hch
        cases hp : progF r.t with
        | none => rw [hp] at hpx; cases hpx
        | some x =>
          rw [hp] at hpx
          simp only [Bool.and_eq_true, beq_iff_eq] at hpx
          obtain ⟨hx2, hal⟩ := hpx
          obtain ⟨C, rd⟩ := x
          simp only at hx2 hal
          subst hx2
          have HF : Hid (resF (sA i) = some r ∧ okR r = true ∧ progF r.t = some (C, 0) ∧ AltF i C ∧ Kp w wr) := ⟨hr, ho, hp, altC_f hal, HK.out⟩
          clear hr ho hp hal hcs
          go_wp2_with fail
          refine Calls.mono (seen_parse HF.out.1 (HG.out.1.kp HF.out.2.2.2.2)) ?_
          rintro e w1 ⟨va, vc, rfl, q1, q2⟩
          have H1 : Hid (Pt w1 (.slice va r.nds.length vc) (r.nds.map Nd.q) ∧ Kp w w1) := ⟨q1, kp_trans HF.out.2.2.2.2 q2⟩
          clear q1 q2
          go_wp2_with fail
          refine Calls.mono (seen_compile HF.out.1 HF.out.2.1 (H1.out.1.kp (kp_alloc _ _)) false) ?_
          rw [HF.out.2.2.1]
          rintro e w2 ⟨ca, cap, rfl, q1, q2⟩
          have hlen : C.length = 3 * i - 1 := HF.out.2.2.2.1.len
          obtain ⟨N, hN⟩ : ∃ N, C.length = N := ⟨_, rfl⟩
          simp only at q1 ⊢
          rw [hN] at q1
          rw [hN]
          have H2 : Hid (Kp w w2 ∧ Cd w2 (.slice ca N cap) C ∧ C.length = N) := ⟨kp_trans (kp_trans H1.out.2 (kp_alloc _ _)) q2, q1, hN⟩
          obtain ⟨T, hT⟩ : ∃ T : Nat, 3 * i = T := ⟨_, rfl⟩
          have t0 : 3 * (i : Int) = (T : Int) := by omega
          have t1 : (T : Int) - 1 = (N : Int) := by omega
          clear q1 q2 hlen hN hT
          obtain ⟨f, hf⟩ : ∃ f, foldsB r.cs false = f := ⟨_, rfl⟩
          rw [hf]
          clear hf
          go_wp2_with fail
          have HP : Hid (PgBox w2.heap.size (.slice ca N cap) (.int .i64 0) (.bool f) (w2.alloc (.cells #[.slice ca N cap, .int .i64 0, .bool f] 32)) ∧ Cd (w2.alloc (.cells #[.slice ca N cap, .int .i64 0, .bool f] 32)) (.slice ca N cap) C ∧ Kp w (w2.alloc (.cells #[.slice ca N cap, .int .i64 0, .bool f] 32))) := ⟨alloc_new w2 _, H2.out.2.1.kp (kp_alloc _ _), kp_trans H2.out.1 (kp_alloc _ _)⟩
          obtain ⟨pb, hpb⟩ : ∃ pb, w2.heap.size = pb := ⟨_, rfl⟩
          rw [hpb] at HP ⊢
          clear hpb
          generalize (w2.alloc (.cells #[.slice ca N cap, .int .i64 0, .bool f] 32)) = wp at HP ⊢
          obtain ⟨dl0, hla, hlc⟩ := HF.out.2.2.2.1.la
          obtain ⟨b, o, rfl, hcl⟩ := HP.out.2.1.at_ hla
          obtain ⟨T3, hT3⟩ : ∃ T3 : Nat, 3 * i - 3 = T3 := ⟨_, rfl⟩
          obtain ⟨T2, hT2⟩ : ∃ T2 : Nat, 3 * i - 2 = T2 := ⟨_, rfl⟩
          obtain ⟨Mm, hMm⟩ : ∃ Mm : Nat, i - 1 = Mm := ⟨_, rfl⟩
          have t2 : (T : Int) - 2 = (T2 : Int) := by omega
          have t3 : (T : Int) - 3 = (T3 : Int) := by omega
          have t4 : (i : Int) - 1 = (Mm : Int) := by omega
          have cla : wp.cell? ⟨b, o + T3 * 8 + 1, none⟩ = some (.int .u8 (97 + (Mm : Int))) := by
            have := hcl 1 _ rfl
            rw [hT3, hlc, hMm] at this
            rw [this]; rfl
          have hT3N : T3 < N := by omega
          have hNc := HP.out.2.1.len.2
          unfold maxLen at hNc
          obtain ⟨⟨g0, g1, g2⟩, _⟩ := HP.out.1.cells
          have HMm : Hid (i - 1 = Mm ∧ 3 * i - 2 = T2 ∧ AltF i C) := ⟨hMm, hT2, HF.out.2.2.2.1⟩
          clear hla hlc hcl hT3 hT2 hMm
          go_loopw [11] (fun v11 wr => ∃ j : Nat, j ≤ Mm ∧ v11 = .int .i64 j ∧ wr = wp) (fun v11 _ => Mm - (intOf v11).toNat)
          case atStart => exact ⟨0, Nat.zero_le _, rfl, rfl⟩
          case round =>
            obtain ⟨j, hj, rfl, rfl⟩ := hrel
            by_cases hlj : j < Mm
            · have dj : decide ((j : Int) < (Mm : Int)) = true := decide_eq_true (by omega)
              obtain ⟨k, hk⟩ : ∃ k : Nat, 3 * j = k := ⟨_, rfl⟩
              obtain ⟨k1, hk1⟩ : ∃ k1 : Nat, k + 1 = k1 := ⟨_, rfl⟩
              obtain ⟨k2, hk2⟩ : ∃ k2 : Nat, k + 2 = k2 := ⟨_, rfl⟩
              obtain ⟨k3, hk3⟩ : ∃ k3 : Nat, k + 3 = k3 := ⟨_, rfl⟩
              have s0 : 3 * (j : Int) = (k : Int) := by omega
              have s1 : (k : Int) + 1 = (k1 : Int) := by omega
              have s2 : (k : Int) + 2 = (k2 : Int) := by omega
              have s3 : (k : Int) + 3 = (k3 : Int) := by omega
              have hjm : j < i - 1 := by have := HMm.out.1; omega
              have hb2 : k2 < N := by omega
              have hb1 : k1 < N := by omega
              have hb0 : k < N := by omega
              have hsp := HMm.out.2.2.sp j hjm
              obtain ⟨dby, hby, hbc⟩ := HMm.out.2.2.by_ j hjm
              have hjp := HMm.out.2.2.jp j hjm
              rw [hk] at hsp hby hjp
              rw [hk1] at hby
              rw [hk2, HMm.out.2.1] at hjp
              rw [hk3] at hsp
              have esp : splitI false k k3 = ⟨4, 0, zeroS, (k1 : Int), (k3 : Int)⟩ := by simp only [splitI, Bool.false_eq_true, if_false]; rw [s1]
              have ejp : jumpI T2 = ⟨5, 0, zeroS, (T2 : Int), 0⟩ := rfl
              rw [esp] at hsp
              rw [ejp] at hjp
              have cc := fun q1 q2 q3 q4 => (HP.out.2.1.cell8 (i := q1) (d := q2) q3 q4)
              have a0 := HP.out.2.1.cell8 hsp 0 _ rfl
              have a1 := HP.out.2.1.cell8 hsp 1 _ rfl
              have a2 := HP.out.2.1.cell8 hsp 2 _ rfl
              have a3 := HP.out.2.1.cell8 hsp 3 _ rfl
              have a4 := HP.out.2.1.cell8 hsp 4 _ rfl
              have a5 := HP.out.2.1.cell8 hsp 5 _ rfl
              have a6 := HP.out.2.1.cell8 hsp 6 _ rfl
              have a7 := HP.out.2.1.cell8 hsp 7 _ rfl
              have b1 := HP.out.2.1.cell8 hby 1 _ rfl
              have j0 := HP.out.2.1.cell8 hjp 0 _ rfl
              have j1 := HP.out.2.1.cell8 hjp 1 _ rfl
              have j2 := HP.out.2.1.cell8 hjp 2 _ rfl
              have j3 := HP.out.2.1.cell8 hjp 3 _ rfl
              have j4 := HP.out.2.1.cell8 hjp 4 _ rfl
              have j5 := HP.out.2.1.cell8 hjp 5 _ rfl
              have j6 := HP.out.2.1.cell8 hjp 6 _ rfl
              have j7 := HP.out.2.1.cell8 hjp 7 _ rfl
              rw [hbc] at b1
              simp only [zeroS, Nat.add_zero, Int.natCast_zero, Int.natCast_add, Int.cast_ofNat_Int] at a0 a1 a2 a3 a4 a5 a6 a7 b1 j0 j1 j2 j3 j4 j5 j6 j7
              have heq : ∀ w : World, (Op.equalIn 10000 39 (.agg #[.int .u8 4, .int .u8 0, .int .u64 0, .int .u64 0, .int .u64 0, .int .u64 0, .int .i64 k1, .int .i64 k3]) (.agg #[.int .u8 4, .int .u8 0, .int .u64 0, .int .u64 0, .int .u64 0, .int .u64 0, .int .i64 k1, .int .i64 k3])).run Tryz.prog w = .ok true w := fun w => (eq_inst ⟨4, 0, zeroS, k1, k3⟩ ⟨4, 0, zeroS, k1, k3⟩ w).trans (by simp [insB])
              have heq2 : ∀ w : World, (Op.equalIn 10000 39 (.agg #[.int .u8 5, .int .u8 0, .int .u64 0, .int .u64 0, .int .u64 0, .int .u64 0, .int .i64 T2, .int .i64 0]) (.agg #[.int .u8 5, .int .u8 0, .int .u64 0, .int .u64 0, .int .u64 0, .int .u64 0, .int .i64 T2, .int .i64 0])).run Tryz.prog w = .ok true w := fun w => (eq_inst ⟨5, 0, zeroS, T2, 0⟩ ⟨5, 0, zeroS, T2, 0⟩ w).trans (by simp [insB])
              clear hsp hby hbc hjp esp ejp hk hk1 hk2 hk3 cc
              go_wp2_with fail
              go_roundw
              case rel => exact ⟨j + 1, by omega, by go_num, by simp⟩
              case measure => simp only [intOf]; omega
            · have hjM : j = Mm := by omega
              have dj : decide ((j : Int) < (Mm : Int)) = false := decide_eq_false (by omega)
              clear hjM
              go_wp2_with fail
              refine Calls.mono (qknown_any (HG.out.1.kp HP.out.2.2)) ?_
              rintro e w3 ⟨rfl, q⟩
              have HQ : Hid (Kp w w3) := kp_trans HP.out.2.2 q
              replace g0 := kp_cell q g0
              replace g1 := kp_cell q g1
              replace g2 := kp_cell q g2
              replace cla := kp_cell q cla
              clear q
              go_wp2_with fail
              go_ret
              exact ⟨rfl, HQ.out⟩
end
end Go.Proofs.YtlgemficalcghaaGreat
/- A program that is handed in: its code can be read, its numbers fit. -/
namespace Go.Proofs.YtlgemficalcghaaGreat
open Go.ChangeShapes Go.WideShapes Go.ChangeAt Go.RowKit
set_option linter.unusedVariables false
set_option linter.unusedSimpArgs false
set_option maxRecDepth 100000
structure InsOk (d : Ins) : Prop where
  op : d.op < 256
  x : -9223372036854775808 ≤ d.x ∧ d.x ≤ 9223372036854775807
  y : -9223372036854775808 ≤ d.y ∧ d.y ≤ 9223372036854775807
theorem fU8 {a : Int} (w : (Lit.int .u8 a).wf = true) : 0 ≤ a ∧ a < 256 := by
  have h : (decide (IntKind.u8.min ≤ a) && decide (a ≤ IntKind.u8.max)) = true := w
  rw [Bool.and_eq_true, decide_eq_true_eq, decide_eq_true_eq] at h
  have e1 : IntKind.u8.min = 0 := by decide
  have e2 : IntKind.u8.max = 255 := by decide
  omega
theorem fU64 {a : Int} (w : (Lit.int .u64 a).wf = true) : 0 ≤ a := by
  have h : (decide (IntKind.u64.min ≤ a) && decide (a ≤ IntKind.u64.max)) = true := w
  rw [Bool.and_eq_true, decide_eq_true_eq, decide_eq_true_eq] at h
  have e1 : IntKind.u64.min = 0 := by decide
  omega
theorem fI64 {a : Int} (w : (Lit.int .i64 a).wf = true) : -9223372036854775808 ≤ a ∧ a ≤ 9223372036854775807 := by
  have h : (decide (IntKind.i64.min ≤ a) && decide (a ≤ IntKind.i64.max)) = true := w
  rw [Bool.and_eq_true, decide_eq_true_eq, decide_eq_true_eq] at h
  have e1 : IntKind.i64.min = -9223372036854775808 := by decide
  have e2 : IntKind.i64.max = 9223372036854775807 := by decide
  omega
theorem underInst : (Tryz.prog.underlying 39).map (fun | .struct fs => fs.toList.map (fun f => (f.type, f.offset)) | _ => []) = some [(5, 0), (5, 1), (37, 2), (3, 6), (3, 7)] := by kernel_rfl
theorem underProg : (Tryz.prog.underlying 32).map (fun | .struct fs => fs.toList.map (fun f => (f.type, f.offset)) | _ => []) = some [(30, 0), (3, 1), (4, 2)] := by kernel_rfl
theorem underSetA : Tryz.prog.underlying 37 = some (.array 4 35) := by kernel_rfl
theorem cInst : Tryz.prog.cellsOf 39 = 8 := by kernel_rfl
theorem cProg : Tryz.prog.cellsOf 32 = 3 := by kernel_rfl
theorem cUB : Tryz.prog.cellsOf 5 = 1 := by kernel_rfl
theorem cInt : Tryz.prog.cellsOf 3 = 1 := by kernel_rfl
theorem cBool : Tryz.prog.cellsOf 4 = 1 := by kernel_rfl
theorem cWord : Tryz.prog.cellsOf 35 = 1 := by kernel_rfl
theorem cSet : Tryz.prog.cellsOf 37 = 4 := by kernel_rfl
theorem cInsts : Tryz.prog.cellsOf 30 = 1 := by kernel_rfl
theorem inst_cells {H : Type} {enc : TypeId × Value → H} {W : World} {fuel : Nat} {cs : List Value} {x : DataW H × List MemPlace} (h : DataW.trod enc Tryz.prog W 0 (fun _ => true) true fuel 39 cs = some x) :
    ∃ d : Ins, cs = d.cells ∧ InsOk d := by
  have hu := underInst
  rw [Option.map_eq_some_iff] at hu
  obtain ⟨ty, hty, hfs⟩ := hu
  match ty, hty, hfs with
  | .struct fs, hty, hfs =>
    simp only at hfs
    obtain ⟨xs, n, _, rfl, hcl, hxl, hf⟩ := DataW.trod_struct hty h
    rw [cInst] at hcl
    match cs, hcl with
    | [k0, k1, k2, k3, k4, k5, k6, k7], _ =>
      obtain ⟨fl⟩ := fs
      match fl, hfs with
      | [f0, f1, f2, f3, f4], hfs =>
        simp only [List.map_cons, List.map_nil, List.cons.injEq, Prod.mk.injEq, and_true] at hfs
        obtain ⟨⟨t0, o0⟩, ⟨t1, o1⟩, ⟨t2, o2⟩, ⟨t3, o3⟩, ⟨t4, o4⟩⟩ := hfs
        match xs, hxl with
        | [y0, y1, y2, y3, y4], _ =>
          have g0 := hf 0 f0 rfl
          have g1 := hf 1 f1 rfl
          have g2 := hf 2 f2 rfl
          have g3 := hf 3 f3 rfl
          have g4 := hf 4 f4 rfl
          rw [t0, o0, cUB] at g0
          rw [t1, o1, cUB] at g1
          rw [t2, o2, cSet] at g2
          rw [t3, o3, cInt] at g3
          rw [t4, o4, cInt] at g4
          obtain ⟨a0, e0, r0, w0⟩ := DataW.trod_int Tryz.underlying5 g0
          obtain ⟨a1, e1, r1, w1⟩ := DataW.trod_int Tryz.underlying5 g1
          obtain ⟨zs, m, _, _, _, hzl, hz⟩ := DataW.trod_array underSetA g2
          obtain ⟨a6, e6, r6, w6⟩ := DataW.trod_int Tryz.underlying3 g3
          obtain ⟨a7, e7, r7, w7⟩ := DataW.trod_int Tryz.underlying3 g4
          match zs, hzl with
          | [z0, z1, z2, z3], _ =>
            have q0 := hz 0 (by omega)
            have q1 := hz 1 (by omega)
            have q2 := hz 2 (by omega)
            have q3 := hz 3 (by omega)
            rw [cWord] at q0 q1 q2 q3
            obtain ⟨b0, c0, _, v0⟩ := DataW.trod_int Tryz.underlying35 q0
            obtain ⟨b1, c1, _, v1⟩ := DataW.trod_int Tryz.underlying35 q1
            obtain ⟨b2, c2, _, v2⟩ := DataW.trod_int Tryz.underlying35 q2
            obtain ⟨b3, c3, _, v3⟩ := DataW.trod_int Tryz.underlying35 q3
            simp at e0 e1 e6 e7 c0 c1 c2 c3
            have u0 := fU8 w0
            have u1 := fU8 w1
            refine ⟨⟨a0.toNat, a1.toNat, ⟨b0.toNat, b1.toNat, b2.toNat, b3.toNat⟩, a6, a7⟩, ?_, ⟨by show a0.toNat < 256; omega, fI64 w6, fI64 w7⟩⟩
            simp only [Ins.cells, Int.toNat_of_nonneg u0.1, Int.toNat_of_nonneg u1.1, Int.toNat_of_nonneg (fU64 v0), Int.toNat_of_nonneg (fU64 v1), Int.toNat_of_nonneg (fU64 v2), Int.toNat_of_nonneg (fU64 v3)]
            rw [e0, e1, e6, e7, c0, c1, c2, c3]
theorem insts_cells {H : Type} {enc : TypeId × Value → H} {W : World} {fuel : Nat} {v : Value} {x : DataW H × List MemPlace} (h : DataW.trod enc Tryz.prog W 0 (fun _ => true) true fuel 30 [v] = some x) :
    ∃ C : List Ins, Cd W v C ∧ ∀ d ∈ C, InsOk d := by
  rcases Deep.open_slice Tryz.underlying30 h with ⟨hcs, hx⟩ | ⟨a, len, cap, m, n, D, Pl, hcs, _, hl, hm, hmm, hx, hcell⟩
  · simp at hcs
    subst hcs
    exact ⟨[], ⟨none, 0, rfl, by simp, by simp [maxLen], fun i d hi => by cases hi⟩, fun d hd => by cases hd⟩
  · simp at hcs
    subst hcs
    simp only [if_true] at hmm
    subst hmm
    rw [cInst] at hcell
    have each : ∀ i, i < m → ∃ d : Ins, (∀ c j, d.cells[j]? = some c → W.cell? ((a.add (i * 8)).add j) = some c) ∧ InsOk d := fun i hi => by
      obtain ⟨cs', h1, h2⟩ := hcell i hi
      obtain ⟨d, e, r1⟩ := inst_cells h2
      obtain ⟨_, hlen, hc⟩ := World.cells?_some h1
      refine ⟨d, fun c j hj => ?_, r1⟩
      rw [hc j (by have := (List.getElem?_eq_some_iff.1 hj).1; simpa [Ins.cells] using this), e]; exact hj
    haveI : Inhabited Ins := ⟨{ op := 0 }⟩
    obtain ⟨F, hF⟩ := Deep.choose_lt each
    refine ⟨(List.range len).map F, ⟨some a, m, by simp, by simpa using hl, hm, fun i d hi => ?_⟩, fun d hd => ?_⟩
    · simp only [List.getElem?_map, Option.map_eq_some_iff] at hi
      obtain ⟨k, hk, rfl⟩ := hi
      obtain ⟨hlt, hk⟩ := List.getElem?_eq_some_iff.1 hk
      simp at hk hlt
      subst hk
      obtain ⟨b, off, spot⟩ := a
      have hspot : spot = none := by
        have := (hF 0 (by omega)).1 _ 0 rfl
        simpa [Addr.add] using World.cell?_spot this
      subst hspot
      refine ⟨b, off, rfl, fun j u hj => ?_⟩
      have := (hF i (by omega)).1 u j hj
      rw [Addr.add_lit, Addr.add_lit] at this
      exact this
    · obtain ⟨k, hk, rfl⟩ := List.mem_map.1 hd
      rw [List.mem_range] at hk
      exact (hF k (by omega)).2
theorem prog_form {H : Type} {enc : TypeId × Value → H} {W : World} {base : Nat} {v : Value} {d : DataW H} {p : List MemPlace} (hval : Value.okWide Tryz.prog W .any base 32 v) (h : DataW.Trod enc Tryz.prog W 0 (fun _ => true) true 32 v d p) :
    ∃ (a : Option Addr) (N cap : Nat) (r : Int) (f : Bool) (C : List Ins), v = .agg #[.slice a N cap, .int .i64 r, .bool f] ∧ Cd W (.slice a N cap) C ∧ (∀ d ∈ C, InsOk d) ∧ (-9223372036854775808 ≤ r ∧ r ≤ 9223372036854775807) := by
  have hu := underProg
  rw [Option.map_eq_some_iff] at hu
  obtain ⟨ty, hty, hfs⟩ := hu
  match ty, hty, hfs with
  | .struct fs, hty, hfs =>
    simp only at hfs
    obtain ⟨cs, rfl, hsz⟩ := okWide_struct hty hval
    obtain ⟨fuel, hf0⟩ := h
    obtain ⟨xs, n, _, _, hcl, hxl, hf⟩ := DataW.trod_struct hty hf0
    obtain ⟨cl⟩ := cs
    rw [cProg] at hcl
    match cl, hcl with
    | [k0, k1, k2], _ =>
      obtain ⟨fl⟩ := fs
      match fl, hfs with
      | [f0, f1, f2], hfs =>
        simp only [List.map_cons, List.map_nil, List.cons.injEq, Prod.mk.injEq, and_true] at hfs
        obtain ⟨⟨t0, o0⟩, ⟨t1, o1⟩, ⟨t2, o2⟩⟩ := hfs
        match xs, hxl with
        | [y0, y1, y2], _ =>
          have g0 := hf 0 f0 rfl
          have g1 := hf 1 f1 rfl
          have g2 := hf 2 f2 rfl
          rw [t0, o0, cInsts] at g0
          rw [t1, o1, cInt] at g1
          rw [t2, o2, cBool] at g2
          have g0' : DataW.trod enc Tryz.prog W 0 (fun _ => true) true n 30 [k0] = some y0 := g0
          obtain ⟨C, hC, hok⟩ := insts_cells g0'
          obtain ⟨a1, e1, r1, w1⟩ := DataW.trod_int Tryz.underlying3 g1
          obtain ⟨f, e2, r2⟩ := DataW.trod_bool Tryz.underlying4 g2
          simp [Value.cells] at e1 e2
          obtain ⟨a, cap, e, _⟩ := id hC
          subst e e1 e2
          exact ⟨a, C.length, cap, a1, f, C, rfl, hC, hok, fI64 w1⟩
end Go.Proofs.YtlgemficalcghaaGreat
/- Is an instruction fit: both texts. -/
namespace Go.Proofs.YtlgemficalcghaaGreat
open Go.ChangeShapes Go.WideShapes Go.ChangeAt Go.RowKit
set_option linter.unusedVariables false
set_option linter.unusedSimpArgs false
def plB (x n : Int) : Bool := decide (0 ≤ x) && decide (x < n)
def fitD (N : Nat) (r : Int) (d : Ins) : Bool :=
  if d.op = 4 then plB d.x N && plB d.y N else if d.op = 5 then plB d.x N else if d.op = 6 then plB d.x 22 else if d.op = 7 then plB d.x 10 else if d.op = 12 ∨ d.op = 13 then plB d.x r else decide (1 ≤ d.op ∧ d.op ≤ 14)
section
variable {w w1 : World}
theorem gbelow_any (x n : Int) (w : World) : Calls Tryz.prog 40 #[.int .i64 x, .int .i64 n] w fun e w' => e = .returned (.bool (plB x n)) ∧ w' = w := by
  unfold plB
  cases h : decide (0 ≤ x)
  · go_enter Tryz.func40, Tryz.ntmps40
    go_wp2_with fail
    go_ret
    exact ⟨rfl, rfl⟩
  · go_enter Tryz.func40, Tryz.ntmps40
    go_wp2_with fail
    go_ret
    exact ⟨rfl, rfl⟩
theorem dplace_any (x n : Int) (w : World) : Calls Tryz.prog 34 #[.int .i64 x, .int .i64 n] w fun e w' => e = .returned (.bool (plB x n)) ∧ w' = w := by
  unfold plB
  cases h : decide (0 ≤ x)
  · go_enter Tryz.func34, Tryz.ntmps34
    go_wp2_with fail
    go_ret
    exact ⟨rfl, rfl⟩
  · go_enter Tryz.func34, Tryz.ntmps34
    go_wp2_with fail
    go_ret
    exact ⟨rfl, rfl⟩
set_option maxHeartbeats 4000000 in
set_option maxRecDepth 100000 in
theorem gfits_any (N : Nat) (r : Int) (d : Ins) (w : World) : Calls Tryz.prog 33 #[.agg #[.int .i64 N, .int .i64 r], d.val] w fun e w' => e = .returned (.bool (fitD N r d)) ∧ Kp w w' := by
  obtain ⟨op, c, ⟨sa, sb, sc, sd⟩, x, y⟩ := d
  unfold Ins.val
  have hop : op = 0 ∨ op = 1 ∨ op = 2 ∨ op = 3 ∨ op = 8 ∨ op = 9 ∨ op = 10 ∨ op = 11 ∨ op = 14 ∨ op = 4 ∨ op = 5 ∨ op = 6 ∨ op = 7 ∨ op = 12 ∨ op = 13 ∨ 14 < op := by omega
  rcases hop with rfl | rfl | rfl | rfl | rfl | rfl | rfl | rfl | rfl | rfl | rfl | rfl | rfl | rfl | rfl | hop
  · go_enter Tryz.func33, Tryz.ntmps33
    go_wp2_with fail
    go_ret
    exact ⟨rfl, kp_trans (kp_alloc _ _) (kp_alloc _ _)⟩
  · go_enter Tryz.func33, Tryz.ntmps33
    go_wp2_with fail
    go_ret
    exact ⟨rfl, kp_trans (kp_alloc _ _) (kp_alloc _ _)⟩
  · go_enter Tryz.func33, Tryz.ntmps33
    go_wp2_with fail
    go_ret
    exact ⟨rfl, kp_trans (kp_alloc _ _) (kp_alloc _ _)⟩
  · go_enter Tryz.func33, Tryz.ntmps33
    go_wp2_with fail
    go_ret
    exact ⟨rfl, kp_trans (kp_alloc _ _) (kp_alloc _ _)⟩
  · go_enter Tryz.func33, Tryz.ntmps33
    go_wp2_with fail
    go_ret
    exact ⟨rfl, kp_trans (kp_alloc _ _) (kp_alloc _ _)⟩
  · go_enter Tryz.func33, Tryz.ntmps33
    go_wp2_with fail
    go_ret
    exact ⟨rfl, kp_trans (kp_alloc _ _) (kp_alloc _ _)⟩
  · go_enter Tryz.func33, Tryz.ntmps33
    go_wp2_with fail
    go_ret
    exact ⟨rfl, kp_trans (kp_alloc _ _) (kp_alloc _ _)⟩
  · go_enter Tryz.func33, Tryz.ntmps33
    go_wp2_with fail
    go_ret
    exact ⟨rfl, kp_trans (kp_alloc _ _) (kp_alloc _ _)⟩
  · go_enter Tryz.func33, Tryz.ntmps33
    go_wp2_with fail
    go_ret
    exact ⟨rfl, kp_trans (kp_alloc _ _) (kp_alloc _ _)⟩
  · cases hp : plB x (N : Int)
    · have HP : Hid (plB x (N : Int) = false) := hp
      clear hp
      go_enter Tryz.func33, Tryz.ntmps33
      go_wp2_with fail
      refine Calls.mono (gbelow_any _ _ _) ?_
      rintro e x1 ⟨rfl, hw⟩
      rw [hw, HP.out]
      clear hw x1
      go_wp2_with fail
      go_ret
      exact ⟨by unfold fitD; rw [if_pos rfl]; simp only [HP.out]; rfl, kp_trans (kp_alloc _ _) (kp_alloc _ _)⟩
    · have HP : Hid (plB x (N : Int) = true) := hp
      clear hp
      go_enter Tryz.func33, Tryz.ntmps33
      go_wp2_with fail
      refine Calls.mono (gbelow_any _ _ _) ?_
      rintro e x1 ⟨rfl, hw⟩
      rw [hw, HP.out]
      clear hw x1
      go_wp2_with fail
      refine Calls.mono (gbelow_any _ _ _) ?_
      rintro e x1 ⟨rfl, hw⟩
      rw [hw]
      clear hw x1
      go_wp2_with fail
      go_ret
      exact ⟨by unfold fitD; rw [if_pos rfl]; simp only [HP.out]; rfl, kp_trans (kp_alloc _ _) (kp_alloc _ _)⟩
  · go_enter Tryz.func33, Tryz.ntmps33
    go_wp2_with fail
    refine Calls.mono (gbelow_any _ _ _) ?_
    rintro e x1 ⟨rfl, hw⟩
    rw [hw]
    clear hw x1
    go_wp2_with fail
    go_ret
    exact ⟨rfl, kp_trans (kp_alloc _ _) (kp_alloc _ _)⟩
  · go_enter Tryz.func33, Tryz.ntmps33
    go_wp2_with fail
    refine Calls.mono (gbelow_any _ _ _) ?_
    rintro e x1 ⟨rfl, hw⟩
    rw [hw]
    clear hw x1
    go_wp2_with fail
    go_ret
    exact ⟨rfl, kp_trans (kp_alloc _ _) (kp_alloc _ _)⟩
  · go_enter Tryz.func33, Tryz.ntmps33
    go_wp2_with fail
    refine Calls.mono (gbelow_any _ _ _) ?_
    rintro e x1 ⟨rfl, hw⟩
    rw [hw]
    clear hw x1
    go_wp2_with fail
    go_ret
    exact ⟨rfl, kp_trans (kp_alloc _ _) (kp_alloc _ _)⟩
  · go_enter Tryz.func33, Tryz.ntmps33
    go_wp2_with fail
    refine Calls.mono (gbelow_any _ _ _) ?_
    rintro e x1 ⟨rfl, hw⟩
    rw [hw]
    clear hw x1
    go_wp2_with fail
    go_ret
    exact ⟨rfl, kp_trans (kp_alloc _ _) (kp_alloc _ _)⟩
  · go_enter Tryz.func33, Tryz.ntmps33
    go_wp2_with fail
    refine Calls.mono (gbelow_any _ _ _) ?_
    rintro e x1 ⟨rfl, hw⟩
    rw [hw]
    clear hw x1
    go_wp2_with fail
    go_ret
    exact ⟨rfl, kp_trans (kp_alloc _ _) (kp_alloc _ _)⟩
  · have n1 : ((op : Int) == 1) = false := by simp; omega
    have m1 : decide ((op : Int) = 1) = false := by simp; omega
    have n2 : ((op : Int) == 2) = false := by simp; omega
    have m2 : decide ((op : Int) = 2) = false := by simp; omega
    have n3 : ((op : Int) == 3) = false := by simp; omega
    have m3 : decide ((op : Int) = 3) = false := by simp; omega
    have n4 : ((op : Int) == 4) = false := by simp; omega
    have m4 : decide ((op : Int) = 4) = false := by simp; omega
    have n5 : ((op : Int) == 5) = false := by simp; omega
    have m5 : decide ((op : Int) = 5) = false := by simp; omega
    have n6 : ((op : Int) == 6) = false := by simp; omega
    have m6 : decide ((op : Int) = 6) = false := by simp; omega
    have n7 : ((op : Int) == 7) = false := by simp; omega
    have m7 : decide ((op : Int) = 7) = false := by simp; omega
    have n8 : ((op : Int) == 8) = false := by simp; omega
    have m8 : decide ((op : Int) = 8) = false := by simp; omega
    have n9 : ((op : Int) == 9) = false := by simp; omega
    have m9 : decide ((op : Int) = 9) = false := by simp; omega
    have n10 : ((op : Int) == 10) = false := by simp; omega
    have m10 : decide ((op : Int) = 10) = false := by simp; omega
    have n11 : ((op : Int) == 11) = false := by simp; omega
    have m11 : decide ((op : Int) = 11) = false := by simp; omega
    have n12 : ((op : Int) == 12) = false := by simp; omega
    have m12 : decide ((op : Int) = 12) = false := by simp; omega
    have n13 : ((op : Int) == 13) = false := by simp; omega
    have m13 : decide ((op : Int) = 13) = false := by simp; omega
    have n14 : ((op : Int) == 14) = false := by simp; omega
    have m14 : decide ((op : Int) = 14) = false := by simp; omega
    have l14 : decide ((op : Int) ≤ 14) = false := by simp; omega
    have l1 : decide (1 ≤ (op : Int)) = true := by simp; omega
    have HR : Hid (14 < op) := hop
    clear hop
    go_enter Tryz.func33, Tryz.ntmps33
    go_wp2_with fail
    go_ret
    exact ⟨by have := HR.out; unfold fitD; simp only; rw [if_neg (by omega), if_neg (by omega), if_neg (by omega), if_neg (by omega), if_neg (by omega), decide_eq_false (by omega)]; rfl, kp_trans (kp_alloc _ _) (kp_alloc _ _)⟩
set_option maxHeartbeats 4000000 in
set_option maxRecDepth 100000 in
theorem dfine_any (a : Option Addr) (cap : Nat) (f : Bool) (N : Nat) (r : Int) (d : Ins) (w : World) : Calls Tryz.prog 25 #[.agg #[.slice a N cap, .int .i64 r, .bool f], d.val] w fun e w' => e = .returned (.bool (fitD N r d)) ∧ Kp w w' := by
  obtain ⟨op, c, ⟨sa, sb, sc, sd⟩, x, y⟩ := d
  unfold Ins.val
  have hop : op = 0 ∨ op = 1 ∨ op = 2 ∨ op = 3 ∨ op = 8 ∨ op = 9 ∨ op = 10 ∨ op = 11 ∨ op = 14 ∨ op = 4 ∨ op = 5 ∨ op = 6 ∨ op = 7 ∨ op = 12 ∨ op = 13 ∨ 14 < op := by omega
  rcases hop with rfl | rfl | rfl | rfl | rfl | rfl | rfl | rfl | rfl | rfl | rfl | rfl | rfl | rfl | rfl | hop
  · go_enter Tryz.func25, Tryz.ntmps25
    go_wp2_with fail
    go_ret
    exact ⟨rfl, kp_trans (kp_alloc _ _) (kp_alloc _ _)⟩
  · go_enter Tryz.func25, Tryz.ntmps25
    go_wp2_with fail
    go_ret
    exact ⟨rfl, kp_trans (kp_alloc _ _) (kp_alloc _ _)⟩
  · go_enter Tryz.func25, Tryz.ntmps25
    go_wp2_with fail
    go_ret
    exact ⟨rfl, kp_trans (kp_alloc _ _) (kp_alloc _ _)⟩
  · go_enter Tryz.func25, Tryz.ntmps25
    go_wp2_with fail
    go_ret
    exact ⟨rfl, kp_trans (kp_alloc _ _) (kp_alloc _ _)⟩
  · go_enter Tryz.func25, Tryz.ntmps25
    go_wp2_with fail
    go_ret
    exact ⟨rfl, kp_trans (kp_alloc _ _) (kp_alloc _ _)⟩
  · go_enter Tryz.func25, Tryz.ntmps25
    go_wp2_with fail
    go_ret
    exact ⟨rfl, kp_trans (kp_alloc _ _) (kp_alloc _ _)⟩
  · go_enter Tryz.func25, Tryz.ntmps25
    go_wp2_with fail
    go_ret
    exact ⟨rfl, kp_trans (kp_alloc _ _) (kp_alloc _ _)⟩
  · go_enter Tryz.func25, Tryz.ntmps25
    go_wp2_with fail
    go_ret
    exact ⟨rfl, kp_trans (kp_alloc _ _) (kp_alloc _ _)⟩
  · go_enter Tryz.func25, Tryz.ntmps25
    go_wp2_with fail
    go_ret
    exact ⟨rfl, kp_trans (kp_alloc _ _) (kp_alloc _ _)⟩
  · cases hp : plB x (N : Int)
    · have HP : Hid (plB x (N : Int) = false) := hp
      clear hp
      go_enter Tryz.func25, Tryz.ntmps25
      go_wp2_with fail
      refine Calls.mono (dplace_any _ _ _) ?_
      rintro e x1 ⟨rfl, hw⟩
      rw [hw, HP.out]
      clear hw x1
      go_wp2_with fail
      go_ret
      exact ⟨by unfold fitD; rw [if_pos rfl]; simp only [HP.out]; rfl, kp_trans (kp_alloc _ _) (kp_alloc _ _)⟩
    · have HP : Hid (plB x (N : Int) = true) := hp
      clear hp
      go_enter Tryz.func25, Tryz.ntmps25
      go_wp2_with fail
      refine Calls.mono (dplace_any _ _ _) ?_
      rintro e x1 ⟨rfl, hw⟩
      rw [hw, HP.out]
      clear hw x1
      go_wp2_with fail
      refine Calls.mono (dplace_any _ _ _) ?_
      rintro e x1 ⟨rfl, hw⟩
      rw [hw]
      clear hw x1
      go_wp2_with fail
      go_ret
      exact ⟨by unfold fitD; rw [if_pos rfl]; simp only [HP.out]; rfl, kp_trans (kp_alloc _ _) (kp_alloc _ _)⟩
  · go_enter Tryz.func25, Tryz.ntmps25
    go_wp2_with fail
    refine Calls.mono (dplace_any _ _ _) ?_
    rintro e x1 ⟨rfl, hw⟩
    rw [hw]
    clear hw x1
    go_wp2_with fail
    go_ret
    exact ⟨rfl, kp_trans (kp_alloc _ _) (kp_alloc _ _)⟩
  · go_enter Tryz.func25, Tryz.ntmps25
    go_wp2_with fail
    refine Calls.mono (dplace_any _ _ _) ?_
    rintro e x1 ⟨rfl, hw⟩
    rw [hw]
    clear hw x1
    go_wp2_with fail
    go_ret
    exact ⟨rfl, kp_trans (kp_alloc _ _) (kp_alloc _ _)⟩
  · go_enter Tryz.func25, Tryz.ntmps25
    go_wp2_with fail
    refine Calls.mono (dplace_any _ _ _) ?_
    rintro e x1 ⟨rfl, hw⟩
    rw [hw]
    clear hw x1
    go_wp2_with fail
    go_ret
    exact ⟨rfl, kp_trans (kp_alloc _ _) (kp_alloc _ _)⟩
  · go_enter Tryz.func25, Tryz.ntmps25
    go_wp2_with fail
    refine Calls.mono (dplace_any _ _ _) ?_
    rintro e x1 ⟨rfl, hw⟩
    rw [hw]
    clear hw x1
    go_wp2_with fail
    go_ret
    exact ⟨rfl, kp_trans (kp_alloc _ _) (kp_alloc _ _)⟩
  · go_enter Tryz.func25, Tryz.ntmps25
    go_wp2_with fail
    refine Calls.mono (dplace_any _ _ _) ?_
    rintro e x1 ⟨rfl, hw⟩
    rw [hw]
    clear hw x1
    go_wp2_with fail
    go_ret
    exact ⟨rfl, kp_trans (kp_alloc _ _) (kp_alloc _ _)⟩
  · have n1 : ((op : Int) == 1) = false := by simp; omega
    have m1 : decide ((op : Int) = 1) = false := by simp; omega
    have n2 : ((op : Int) == 2) = false := by simp; omega
    have m2 : decide ((op : Int) = 2) = false := by simp; omega
    have n3 : ((op : Int) == 3) = false := by simp; omega
    have m3 : decide ((op : Int) = 3) = false := by simp; omega
    have n4 : ((op : Int) == 4) = false := by simp; omega
    have m4 : decide ((op : Int) = 4) = false := by simp; omega
    have n5 : ((op : Int) == 5) = false := by simp; omega
    have m5 : decide ((op : Int) = 5) = false := by simp; omega
    have n6 : ((op : Int) == 6) = false := by simp; omega
    have m6 : decide ((op : Int) = 6) = false := by simp; omega
    have n7 : ((op : Int) == 7) = false := by simp; omega
    have m7 : decide ((op : Int) = 7) = false := by simp; omega
    have n8 : ((op : Int) == 8) = false := by simp; omega
    have m8 : decide ((op : Int) = 8) = false := by simp; omega
    have n9 : ((op : Int) == 9) = false := by simp; omega
    have m9 : decide ((op : Int) = 9) = false := by simp; omega
    have n10 : ((op : Int) == 10) = false := by simp; omega
    have m10 : decide ((op : Int) = 10) = false := by simp; omega
    have n11 : ((op : Int) == 11) = false := by simp; omega
    have m11 : decide ((op : Int) = 11) = false := by simp; omega
    have n12 : ((op : Int) == 12) = false := by simp; omega
    have m12 : decide ((op : Int) = 12) = false := by simp; omega
    have n13 : ((op : Int) == 13) = false := by simp; omega
    have m13 : decide ((op : Int) = 13) = false := by simp; omega
    have n14 : ((op : Int) == 14) = false := by simp; omega
    have m14 : decide ((op : Int) = 14) = false := by simp; omega
    have l14 : decide ((op : Int) ≤ 14) = false := by simp; omega
    have l1 : decide (1 ≤ (op : Int)) = true := by simp; omega
    have HR : Hid (14 < op) := hop
    clear hop
    go_enter Tryz.func25, Tryz.ntmps25
    go_wp2_with fail
    go_ret
    exact ⟨by have := HR.out; unfold fitD; simp only; rw [if_neg (by omega), if_neg (by omega), if_neg (by omega), if_neg (by omega), if_neg (by omega), decide_eq_false (by omega)]; rfl, kp_trans (kp_alloc _ _) (kp_alloc _ _)⟩
end
end Go.Proofs.YtlgemficalcghaaGreat
/- Sound: both texts. -/
namespace Go.Proofs.YtlgemficalcghaaGreat
open Go.ChangeShapes Go.WideShapes Go.ChangeAt Go.RowKit
set_option linter.unusedVariables false
set_option linter.unusedSimpArgs false
def lastB (C : List Ins) : Bool := match C.getLast? with | some d => (d.op : Int) == 14 || (d.op : Int) == 5 | none => false
def sizeB (N : Nat) (r : Int) : Bool := decide (1 ≤ N) && decide (N ≤ 2000) && decide (0 ≤ r) && decide (r ≤ 2000)
def sndF (C : List Ins) (r : Int) : Bool := sizeB C.length r && C.all (fitD C.length r) && lastB C
section
variable {w w1 : World}
theorem box2 (w : World) (a b : Value) (t : TypeId) : ((w.alloc (.cells #[a, b] t)).cell? ⟨w.heap.size, 0, none⟩ = some a ∧ (w.alloc (.cells #[a, b] t)).cell? ⟨w.heap.size, 1, none⟩ = some b) ∧ Kp w (w.alloc (.cells #[a, b] t)) :=
  ⟨⟨by rw [cell_at (alloc_new w _)]; rfl, by rw [cell_at (alloc_new w _)]; rfl⟩, kp_alloc _ _⟩
theorem box3 (w : World) (a b c : Value) (t : TypeId) : ((w.alloc (.cells #[a, b, c] t)).cell? ⟨w.heap.size, 0, none⟩ = some a ∧ (w.alloc (.cells #[a, b, c] t)).cell? ⟨w.heap.size, 1, none⟩ = some b ∧ (w.alloc (.cells #[a, b, c] t)).cell? ⟨w.heap.size, 2, none⟩ = some c) ∧ Kp w (w.alloc (.cells #[a, b, c] t)) :=
  ⟨⟨by rw [cell_at (alloc_new w _)]; rfl, by rw [cell_at (alloc_new w _)]; rfl, by rw [cell_at (alloc_new w _)]; rfl⟩, kp_alloc _ _⟩
theorem all_step {p : Ins → Bool} {C : List Ins} {j : Nat} {d : Ins} (h : C[j]? = some d) : (C.drop j).all p = (p d && (C.drop (j + 1)).all p) := by
  obtain ⟨hl, hd⟩ := List.getElem?_eq_some_iff.1 h
  rw [List.drop_eq_getElem_cons hl, List.all_cons, hd]
set_option maxHeartbeats 4000000 in
set_option maxRecDepth 100000 in
theorem gall_any {b o N cap : Nat} (K : Nat) (r : Int) {C : List Ins} (h : Cd w (.slice (some ⟨b, o, none⟩) N cap) C) : Calls Tryz.prog 23 #[.agg #[.int .i64 K, .int .i64 r], .slice (some ⟨b, o, none⟩) N cap] w fun e w' => e = .returned (.bool (C.all (fitD K r))) ∧ Kp w w' := by
  obtain ⟨hl, hc1, hm1⟩ := h.len
  unfold maxLen at hm1
  obtain ⟨X, hX⟩ : ∃ X, C.all (fitD K r) = X := ⟨_, rfl⟩
  rw [hX]
  have HC : Hid (Cd w (.slice (some ⟨b, o, none⟩) N cap) C ∧ C.length = N ∧ (C.drop 0).all (fitD K r) = X) := ⟨h, hl.symm, hX⟩
  clear h hl hX
  go_enter Tryz.func23, Tryz.ntmps23
  go_wp2_with fail
  obtain ⟨⟨g0, g1⟩, kx⟩ := box2 w (.int .i64 K) (.int .i64 r) 59
  have HP : Hid (Kp w (w.alloc (.cells #[.int .i64 K, .int .i64 r] 59))) := kx
  clear kx
  obtain ⟨x1, hx1⟩ : ∃ x, w.heap.size = x := ⟨_, rfl⟩
  rw [hx1] at g0 g1 ⊢
  clear hx1
  generalize (w.alloc (.cells #[.int .i64 K, .int .i64 r] 59)) = wp at *
  go_loopw [9] (fun v9 wr => ∃ j : Nat, j ≤ N ∧ v9 = .int .i64 j ∧ Hid ((C.drop j).all (fitD K r) = X ∧ Kp wp wr)) (fun v9 _ => N - (intOf v9).toNat)
  case atStart => exact ⟨0, Nat.zero_le _, rfl, HC.out.2.2, Below.refl _ _⟩
  case round =>
    obtain ⟨j, hj, rfl, HK⟩ := hrel
    replace g0 := kp_cell HK.out.2 g0
    replace g1 := kp_cell HK.out.2 g1
    by_cases hlj : j < N
    · have dj : decide ((j : Int) < (N : Int)) = true := decide_eq_true (by omega)
      obtain ⟨d, hd⟩ : ∃ d, C[j]? = some d := ⟨_, List.getElem?_eq_getElem (by rw [HC.out.2.1]; exact hlj)⟩
      have q1 := HC.out.1.kp (kp_trans HP.out HK.out.2)
      obtain ⟨op, c, ⟨sa, sb, sc, sd⟩, x, y⟩ := d
      have a0 := q1.cell8 hd 0 _ rfl
      have a1 := q1.cell8 hd 1 _ rfl
      have a2 := q1.cell8 hd 2 _ rfl
      have a3 := q1.cell8 hd 3 _ rfl
      have a4 := q1.cell8 hd 4 _ rfl
      have a5 := q1.cell8 hd 5 _ rfl
      have a6 := q1.cell8 hd 6 _ rfl
      have a7 := q1.cell8 hd 7 _ rfl
      simp only [Nat.add_zero] at a0
      have HS : Hid ((fitD K r ⟨op, c, ⟨sa, sb, sc, sd⟩, x, y⟩ && (C.drop (j + 1)).all (fitD K r)) = X) := by show _ = X; rw [← all_step hd]; exact HK.out.1
      have HI : Hid (∀ w, Calls Tryz.prog 33 #[.agg #[.int .i64 K, .int .i64 r], .agg #[.int .u8 op, .int .u8 c, .int .u64 sa, .int .u64 sb, .int .u64 sc, .int .u64 sd, .int .i64 x, .int .i64 y]] w fun e w' => e = .returned (.bool (fitD K r ⟨op, c, ⟨sa, sb, sc, sd⟩, x, y⟩)) ∧ Kp w w') := fun w => gfits_any K r ⟨op, c, ⟨sa, sb, sc, sd⟩, x, y⟩ w
      have g0' := kp_cell (kp_alloc wr (.cells #[.int .u8 op, .int .u8 c, .int .u64 sa, .int .u64 sb, .int .u64 sc, .int .u64 sd, .int .i64 x, .int .i64 y] 39)) g0
      have g1' := kp_cell (kp_alloc wr (.cells #[.int .u8 op, .int .u8 c, .int .u64 sa, .int .u64 sb, .int .u64 sc, .int .u64 sd, .int .i64 x, .int .i64 y] 39)) g1
      clear hd q1
      go_wp2_with fail
      refine Calls.mono (HI.out _) ?_
      cases hf : fitD K r ⟨op, c, ⟨sa, sb, sc, sd⟩, x, y⟩
      · rw [hf, Bool.false_and] at HS
        obtain rfl := HS.out
        rintro e w2 ⟨rfl, q⟩
        have HK2 : Hid (Kp w w2) := kp_trans (kp_trans HP.out HK.out.2) (kp_trans (kp_alloc _ _) q)
        clear q hf
        go_wp2_with fail
        go_ret
        exact ⟨rfl, HK2.out⟩
      · rw [hf, Bool.true_and] at HS
        rintro e w2 ⟨rfl, q⟩
        have HK2 : Hid (Kp wp w2) := kp_trans HK.out.2 (kp_trans (kp_alloc _ _) q)
        clear q hf
        go_wp2_with fail
        go_roundw
        case rel => exact ⟨j + 1, by omega, by go_num, HS.out, HK2.out⟩
        case measure => simp only [intOf]; omega
    · have dj : decide ((j : Int) < (N : Int)) = false := decide_eq_false (by omega)
      have hX : X = true := by rw [← HK.out.1, List.drop_eq_nil_of_le (by rw [HC.out.2.1]; omega)]; rfl
      subst hX
      go_wp2_with fail
      go_ret
      exact ⟨rfl, kp_trans HP.out HK.out.2⟩
theorem gsizes_any (N : Nat) (r : Int) (w : World) : Calls Tryz.prog 22 #[.agg #[.int .i64 N, .int .i64 r]] w fun e w' => e = .returned (.bool (sizeB N r)) ∧ Kp w w' := by
  by_cases h1 : 1 ≤ N
  · have d1 : decide ((1 : Int) ≤ (N : Int)) = true := decide_eq_true (by omega)
    by_cases h2 : N ≤ 2000
    · have d2 : decide ((N : Int) ≤ (2000 : Int)) = true := decide_eq_true (by omega)
      by_cases h3 : 0 ≤ r
      · have d3 : decide (0 ≤ r) = true := decide_eq_true h3
        have HB : Hid (sizeB N r = decide (r ≤ 2000)) := by show _ = _; unfold sizeB; simp [h1, h2, h3]
        clear h1 h2 h3
        go_enter Tryz.func22, Tryz.ntmps22
        go_wp2_with fail
        go_ret
        exact ⟨by rw [HB.out]; rfl, kp_alloc _ _⟩
      · have d3 : decide (0 ≤ r) = false := decide_eq_false h3
        have HB : Hid (sizeB N r = false) := by show _ = _; unfold sizeB; simp [h1, h2, h3]
        clear h1 h2 h3
        go_enter Tryz.func22, Tryz.ntmps22
        go_wp2_with fail
        go_ret
        exact ⟨by rw [HB.out]; rfl, kp_alloc _ _⟩
    · have d2 : decide ((N : Int) ≤ (2000 : Int)) = false := decide_eq_false (by omega)
      have HB : Hid (sizeB N r = false) := by show _ = _; unfold sizeB; simp [h1, h2]
      clear h1 h2
      go_enter Tryz.func22, Tryz.ntmps22
      go_wp2_with fail
      go_ret
      exact ⟨by rw [HB.out]; rfl, kp_alloc _ _⟩
  · have d1 : decide ((1 : Int) ≤ (N : Int)) = false := decide_eq_false (by omega)
    have HB : Hid (sizeB N r = false) := by show _ = _; unfold sizeB; simp [h1]
    clear h1
    go_enter Tryz.func22, Tryz.ntmps22
    go_wp2_with fail
    go_ret
    exact ⟨by rw [HB.out]; rfl, kp_alloc _ _⟩
theorem last_cell {b o N cap : Nat} {C : List Ins} (h : Cd w (.slice (some ⟨b, o, none⟩) N cap) C) (hN : 1 ≤ N) : ∃ op : Nat, w.cell? ⟨b, o + (N - 1) * 8, none⟩ = some (.int .u8 op) ∧ lastB C = ((op : Int) == 14 || (op : Int) == 5) := by
  have hl := h.len.1
  obtain ⟨d, hd⟩ : ∃ d, C[N - 1]? = some d := ⟨_, List.getElem?_eq_getElem (by omega)⟩
  refine ⟨d.op, h.cell8 hd 0 _ rfl, ?_⟩
  unfold lastB
  rw [List.getLast?_eq_getElem?, ← hl, hd]
theorem gends_any {b o N cap : Nat} {C : List Ins} (h : Cd w (.slice (some ⟨b, o, none⟩) N cap) C) (hN : 1 ≤ N) : Calls Tryz.prog 24 #[.slice (some ⟨b, o, none⟩) N cap] w fun e w' => e = .returned (.bool (lastB C)) ∧ Kp w w' := by
  obtain ⟨hl, hc1, hm1⟩ := h.len
  unfold maxLen at hm1
  obtain ⟨op, h0, h1⟩ := last_cell h hN
  rw [h1]
  obtain ⟨k, hk⟩ : ∃ k, N - 1 = k := ⟨_, rfl⟩
  rw [hk] at h0
  have e : (N : Int) - 1 = (k : Int) := by omega
  have hlt : k < N := by omega
  clear h hl h1 hk
  cases h14 : ((op : Int) == 14)
  · go_enter Tryz.func24, Tryz.ntmps24
    go_wp2_with fail
    go_ret
    exact ⟨rfl, Below.refl _ _⟩
  · go_enter Tryz.func24, Tryz.ntmps24
    go_wp2_with fail
    go_ret
    exact ⟨rfl, Below.refl _ _⟩
end
end Go.Proofs.YtlgemficalcghaaGreat
/- Sound: both texts, whole. -/
namespace Go.Proofs.YtlgemficalcghaaGreat
open Go.ChangeShapes Go.WideShapes Go.ChangeAt Go.RowKit
set_option linter.unusedVariables false
set_option linter.unusedSimpArgs false
section
variable {w w1 : World}
theorem box32 (w : World) (a b c d e : Value) (t u : TypeId) : (((w.alloc (.cells #[a, b, c] t)).alloc (.cells #[d, e] u)).cell? ⟨w.heap.size, 0, none⟩ = some a ∧ ((w.alloc (.cells #[a, b, c] t)).alloc (.cells #[d, e] u)).cell? ⟨w.heap.size + 1, 0, none⟩ = some d ∧ ((w.alloc (.cells #[a, b, c] t)).alloc (.cells #[d, e] u)).cell? ⟨w.heap.size + 1, 1, none⟩ = some e) ∧ Kp w ((w.alloc (.cells #[a, b, c] t)).alloc (.cells #[d, e] u)) := by
  have h1 := (box3 w a b c t).1.1
  have h2 := (box2 (w.alloc (.cells #[a, b, c] t)) d e u).1
  rw [alloc_size] at h2
  exact ⟨⟨kp_cell (kp_alloc _ _) h1, h2.1, h2.2⟩, kp_trans (kp_alloc _ _) (kp_alloc _ _)⟩
set_option maxHeartbeats 4000000 in
set_option maxRecDepth 100000 in
theorem gsound_any {a : Option Addr} {N cap : Nat} (f : Bool) (r : Int) {C : List Ins} (h : Cd w (.slice a N cap) C) : Calls Tryz.prog 15 #[.agg #[.slice a N cap, .int .i64 r, .bool f]] w fun e w' => e = .returned (.bool (sndF C r)) ∧ Kp w w' := by
  have hl := h.len.1
  cases hs : sizeB N r
  · have HB : Hid (sizeB N r = false ∧ sndF C r = false) := ⟨hs, by unfold sndF; rw [← hl, hs]; rfl⟩
    rw [HB.out.2]
    clear h hs hl
    go_enter Tryz.func15, Tryz.ntmps15
    go_wp2_with fail
    refine Calls.mono (gsizes_any N r _) ?_
    rw [HB.out.1]
    rintro e w2 ⟨rfl, q⟩
    have HK : Hid (Kp w w2) := kp_trans (box32 _ _ _ _ _ _ _ _).2 q
    clear q
    go_wp2_with fail
    go_ret
    exact ⟨rfl, HK.out⟩
  have hN : 1 ≤ N := by unfold sizeB at hs; simp at hs; omega
  obtain ⟨b, o, rfl, t1⟩ := h.at_ (List.getElem?_eq_getElem (show 0 < C.length by omega))
  clear t1
  obtain ⟨⟨y0, y1, y2⟩, yk⟩ := box32 w (.slice (some ⟨b, o, none⟩) N cap) (.int .i64 r) (.bool f) (.int .i64 N) (.int .i64 r) 32 59
  have HB : Hid (sizeB N r = true ∧ Cd w (.slice (some ⟨b, o, none⟩) N cap) C ∧ Kp w ((w.alloc (.cells #[.slice (some ⟨b, o, none⟩) N cap, .int .i64 r, .bool f] 32)).alloc (.cells #[.int .i64 N, .int .i64 r] 59)) ∧ sndF C r = (C.all (fitD N r) && lastB C) ∧ 1 ≤ N) := ⟨hs, h, yk, by unfold sndF; rw [← hl, hs]; rfl, hN⟩
  clear h hs hl yk hN
  cases ha : C.all (fitD N r)
  · have HA : Hid (C.all (fitD N r) = false) := ha
    rw [HB.out.2.2.2.1, HA.out, Bool.false_and]
    clear ha
    go_enter Tryz.func15, Tryz.ntmps15
    go_wp2_with fail
    refine Calls.mono (gsizes_any N r _) ?_
    rw [HB.out.1]
    rintro e w2 ⟨rfl, q⟩
    have HK : Hid (Kp w w2) := kp_trans HB.out.2.2.1 q
    replace y0 := kp_cell q y0
    replace y1 := kp_cell q y1
    replace y2 := kp_cell q y2
    clear q
    go_wp2_with fail
    refine Calls.mono (gall_any N r (HB.out.2.1.kp HK.out)) ?_
    rw [HA.out]
    rintro e w3 ⟨rfl, q⟩
    have HK2 : Hid (Kp w w3) := kp_trans HK.out q
    clear q
    go_wp2_with fail
    go_ret
    exact ⟨rfl, HK2.out⟩
  · have HA : Hid (C.all (fitD N r) = true) := ha
    rw [HB.out.2.2.2.1, HA.out, Bool.true_and]
    clear ha
    go_enter Tryz.func15, Tryz.ntmps15
    go_wp2_with fail
    refine Calls.mono (gsizes_any N r _) ?_
    rw [HB.out.1]
    rintro e w2 ⟨rfl, q⟩
    have HK : Hid (Kp w w2) := kp_trans HB.out.2.2.1 q
    replace y0 := kp_cell q y0
    replace y1 := kp_cell q y1
    replace y2 := kp_cell q y2
    clear q
    go_wp2_with fail
    refine Calls.mono (gall_any N r (HB.out.2.1.kp HK.out)) ?_
    rw [HA.out]
    rintro e w3 ⟨rfl, q⟩
    have HK2 : Hid (Kp w w3) := kp_trans HK.out q
    replace y0 := kp_cell q y0
    replace y1 := kp_cell q y1
    replace y2 := kp_cell q y2
    clear q
    go_wp2_with fail
    refine Calls.mono (gends_any (HB.out.2.1.kp HK2.out) HB.out.2.2.2.2) ?_
    rintro e w4 ⟨rfl, q⟩
    have HK3 : Hid (Kp w w4) := kp_trans HK2.out q
    clear q
    go_wp2_with fail
    go_ret
    exact ⟨rfl, HK3.out⟩
end
end Go.Proofs.YtlgemficalcghaaGreat
/- Trees whose code goes on to places that it has. -/
namespace Go.Proofs.YtlgemficalcghaaGreat
set_option linter.unusedVariables false
set_option linter.unusedSimpArgs false
def leafK (i : Ins) : Prop := (i.op = 1 ∨ i.op = 2 ∨ i.op = 3 ∨ i.op = 8 ∨ i.op = 9 ∨ i.op = 10 ∨ i.op = 11) ∨ (i.op = 6 ∧ 0 ≤ i.x ∧ i.x < 22) ∨ (i.op = 7 ∧ 0 ≤ i.x ∧ i.x < 10)
def PT.gd : PT → Prop
  | .empty => True
  | .leaf i => leafK i
  | .seq a b => a.gd ∧ b.gd
  | .alt a b => a.gd ∧ b.gd
  | .many _ _ _ k => k.gd
  | .group n k => (0 ≤ n ∧ n ≤ 9) ∧ k.gd
section
variable {N : Nat} {R : Int}
theorem fit_leaf {i : Ins} (h : leafK i) : fitD N R i = true := by
  unfold leafK at h
  unfold fitD plB
  rcases h with h | ⟨h, h1, h2⟩ | ⟨h, h1, h2⟩
  · rw [if_neg (by omega), if_neg (by omega), if_neg (by omega), if_neg (by omega), if_neg (by omega)]
    exact decide_eq_true (by omega)
  · rw [if_neg (by omega), if_neg (by omega), if_pos h]; simp [h1, h2]
  · rw [if_neg (by omega), if_neg (by omega), if_neg (by omega), if_pos h]; simp [h1, h2]
theorem fit_split {lz : Bool} {p e : Nat} (h1 : p + 1 < N) (h2 : e < N) : fitD N R (splitI lz p e) = true := by
  unfold splitI fitD plB
  cases lz
  · simp; omega
  · simp; omega
theorem fit_jump {e : Nat} (h : e < N) : fitD N R (jumpI e) = true := by unfold jumpI fitD plB; simp; omega
theorem fit_start {r : Nat} (h : (r : Int) < R) : fitD N R (startI r) = true := by unfold startI fitD plB; simp; omega
theorem fit_gone {r : Nat} (h : (r : Int) < R) : fitD N R (goneI r) = true := by unfold goneI fitD plB; simp; omega
theorem fit_save {x : Int} (h1 : 0 ≤ x) (h2 : x < 22) : fitD N R (saveI x) = true := by unfold saveI fitD plB; simp; omega
theorem fit_copies {f : Nat → Nat → List Ins} {l q : Nat} (hf : ∀ p r : Nat, p + l < N → ((r + q : Nat) : Int) ≤ R → ∀ i ∈ f p r, fitD N R i = true) :
    ∀ (n p r : Nat), p + n * l < N → ((r + n * q : Nat) : Int) ≤ R → ∀ i ∈ copiesC f l q n p r, fitD N R i = true
  | 0, p, r, _, _, i, hi => by simp [copiesC] at hi
  | n + 1, p, r, h1, h2, i, hi => by
    rw [Nat.succ_mul] at h1 h2
    rw [copiesC, List.mem_append] at hi
    rcases hi with hi | hi
    · exact hf p r (by omega) (by omega) i hi
    · exact fit_copies hf n (p + l) (r + q) (by omega) (by omega) i hi
theorem fit_tries {f : Nat → Nat → List Ins} {l q : Nat} {s : Nat → Ins} (hs : ∀ a, a + 1 < N → fitD N R (s a) = true) (hf : ∀ p r : Nat, p + l < N → ((r + q : Nat) : Int) ≤ R → ∀ i ∈ f p r, fitD N R i = true) :
    ∀ (n p r : Nat), p + n * (l + 3) < N → ((r + n * (q + 1) : Nat) : Int) ≤ R → ∀ i ∈ triesC f l q s n p r, fitD N R i = true
  | 0, p, r, _, _, i, hi => by simp [triesC] at hi
  | n + 1, p, r, h1, h2, i, hi => by
    rw [Nat.succ_mul] at h1 h2
    rw [triesC] at hi
    simp only [List.cons_append, List.mem_cons, List.mem_append] at hi
    rcases hi with rfl | rfl | hi | rfl | hi
    · exact hs p (by omega)
    · exact fit_start (by omega)
    · exact hf (p + 2) (r + 1) (by omega) (by omega) i hi
    · exact fit_gone (by omega)
    · exact fit_tries hs hf n (p + l + 3) (r + q + 1) (by omega) (by omega) i hi
theorem code_fit : ∀ (t : PT) (p r : Nat), t.gd → p + t.len < N → ((r + t.rnd : Nat) : Int) ≤ R → ∀ i ∈ t.code p r, fitD N R i = true
  | .empty, p, r, _, _, _, i, hi => by simp [PT.code] at hi
  | .leaf d, p, r, hg, _, _, i, hi => by simp only [PT.code, List.mem_singleton] at hi; subst hi; exact fit_leaf hg
  | .seq a b, p, r, hg, h1, h2, i, hi => by
    simp only [PT.len] at h1
    simp only [PT.rnd] at h2
    simp only [PT.code, List.mem_append] at hi
    rcases hi with hi | hi
    · exact code_fit a p r hg.1 (by omega) (by omega) i hi
    · exact code_fit b _ _ hg.2 (by omega) (by omega) i hi
  | .alt a b, p, r, hg, h1, h2, i, hi => by
    simp only [PT.len] at h1
    simp only [PT.rnd] at h2
    simp only [PT.code, List.cons_append, List.mem_cons, List.mem_append] at hi
    rcases hi with rfl | hi | rfl | hi
    · exact fit_split (by omega) (by omega)
    · exact code_fit a _ _ hg.1 (by omega) (by omega) i hi
    · exact fit_jump (by omega)
    · exact code_fit b _ _ hg.2 (by omega) (by omega) i hi
  | .many mn mx lz k, p, r, hg, h1, h2, i, hi => by
    simp only [PT.len] at h1
    simp only [PT.rnd] at h2
    have hk := fun p r h1 h2 i hi => code_fit k p r hg h1 h2 i hi
    simp only [PT.code, List.mem_append] at hi
    cases mx with
    | none =>
      simp only at h1 h2 hi
      rcases hi with hi | hi
      · exact fit_copies hk mn p r (by omega) (by omega) i hi
      · simp only [List.cons_append, List.mem_cons, List.mem_append, List.not_mem_nil, or_false] at hi
        rcases hi with rfl | rfl | hi | rfl | rfl
        · exact fit_split (by omega) (by omega)
        · exact fit_start (by omega)
        · exact hk _ _ (by omega) (by omega) i hi
        · exact fit_gone (by omega)
        · exact fit_jump (by omega)
    | some m =>
      simp only at h1 h2 hi
      rcases hi with hi | hi
      · exact fit_copies hk mn p r (by omega) (by omega) i hi
      · exact fit_tries (fun a ha => fit_split ha (by omega)) hk (m - mn) _ _ (by omega) (by omega) i hi
  | .group n k, p, r, hg, h1, h2, i, hi => by
    simp only [PT.len] at h1
    simp only [PT.rnd] at h2
    obtain ⟨⟨n1, n2⟩, hk⟩ := hg
    simp only [PT.code, List.cons_append, List.mem_cons, List.mem_append, List.not_mem_nil, or_false] at hi
    rcases hi with rfl | hi | rfl
    · exact fit_save (by omega) (by omega)
    · exact code_fit k _ _ hk (by omega) (by omega) i hi
    · exact fit_save (by omega) (by omega)
end
theorem code_snd {t : PT} (hg : t.gd) (hl : t.len + 1 ≤ 2000) : sndF (t.code 0 0 ++ [{ op := 14 }]) t.rnd = true := by
  have h1 : (t.code 0 0 ++ [({ op := 14 } : Ins)]).length = t.len + 1 := by simp [PT.code_len]
  have h2 := t.rnd_le
  unfold sndF
  rw [h1]
  simp only [Bool.and_eq_true, List.all_eq_true]
  refine ⟨⟨?_, ?_⟩, ?_⟩
  · unfold sizeB; simp; omega
  · intro i hi
    rw [List.mem_append] at hi
    rcases hi with hi | hi
    · exact code_fit t 0 0 hg (by omega) (by omega) i hi
    · simp only [List.mem_singleton] at hi; subst hi; rfl
  · simp [lastB]
end Go.Proofs.YtlgemficalcghaaGreat
/- What is kept of the nodes while a pattern is read: they are trees. -/
namespace Go.Proofs.YtlgemficalcghaaGreat
set_option linter.unusedVariables false
set_option linter.unusedSimpArgs false
def seqSz (T : Nat → PT) (ks : List Nat) : Nat := (ks.map fun k => (T k).size + 1).sum
/-- A piece that may be repeated: a row is of bytes. -/
def Pc (nds : List Nd) (p : Nat) : Prop := ∀ d, nds[p]? = some d → d.op = 5 → ∀ x ∈ d.kids, ∃ e, nds[x]? = some e ∧ e.op = 2
def opA (nds : List Nd) (p : Nat) : Nat := ((nds[p]?).map (·.op)).getD 0
/-- What a node's word asks of its kids. -/
def Shp (nds : List Nd) (d : Nd) : Prop :=
  (leafB d.op = true ∧ d.kids = []) ∨ ((d.op = 5 ∨ d.op = 6) ∧ 2 ≤ d.kids.length) ∨ (d.op = 9 ∧ d.kids = []) ∨ (d.op = 8 ∧ ∃ x, d.kids = [x]) ∨
  (d.op = 7 ∧ ∃ x, d.kids = [x] ∧ (0 ≤ d.mn ∧ d.mn ≤ 60 ∧ (d.mx < 0 ∨ (d.mn ≤ d.mx ∧ d.mx ≤ 60))) ∧ repB (opA nds x) = true ∧ Pc nds x)
structure Wf (r : RS) (A : List Nat) : Prop where
  kl : ∀ (k : Nat) (d : Nd), r.nds[k]? = some d → ∀ x ∈ d.kids, x < k
  kn : ∀ (k : Nat) (d : Nd), r.nds[k]? = some d → d.kids.Nodup
  sh : ∀ (k : Nat) (d : Nd), r.nds[k]? = some d → Shp r.nds d
  own : ∀ (k1 k2 : Nat) (d1 d2 : Nd) (x : Nat), r.nds[k1]? = some d1 → r.nds[k2]? = some d2 → x ∈ d1.kids → x ∈ d2.kids → k1 = k2
  rn : A.Nodup
  fr : ∀ x ∈ A, ∀ (k : Nat) (d : Nd), r.nds[k]? = some d → x ∉ d.kids
  lt : ∀ x ∈ A, x < r.nds.length
  cl : ∀ j, r.cl.getD j false = true → 1 ≤ j ∧ j ≤ r.g
  g : r.g ≤ 9
  ns : ∀ (k : Nat) (d : Nd), r.nds[k]? = some d → (d.op = 8 ∨ d.op = 9) → 1 ≤ d.n ∧ d.n ≤ r.g
  tr : ∃ T : Nat → PT, (∀ k, k < r.nds.length → (T k).gd ∧ ∀ n, k < n → toT (r.nds.map Nd.q) n (k : Int) = some (T k)) ∧ seqSz T A ≤ 3 * r.nds.length
theorem Pc.ext {nds e : List Nd} {p : Nat} (h : Pc nds p) (hp : p < nds.length) : Pc (nds ++ e) p := by
  intro d hd h5 x hx
  rw [List.getElem?_append_left hp] at hd
  obtain ⟨y, h1, h2⟩ := h d hd h5 x hx
  exact ⟨y, by rw [List.getElem?_append_left (List.getElem?_eq_some_iff.1 h1).1]; exact h1, h2⟩
theorem opA_ext {nds e : List Nd} {p : Nat} (hp : p < nds.length) : opA (nds ++ e) p = opA nds p := by unfold opA; rw [List.getElem?_append_left hp]
theorem Shp.ext {nds e : List Nd} {d : Nd} (h : Shp nds d) (hk : ∀ x ∈ d.kids, x < nds.length) : Shp (nds ++ e) d := by
  rcases h with h | h | h | h | ⟨h0, x, hx, h1, h2, h3⟩
  · exact .inl h
  · exact .inr (.inl h)
  · exact .inr (.inr (.inl h))
  · exact .inr (.inr (.inr (.inl h)))
  · have hl := hk x (by rw [hx]; simp)
    exact .inr (.inr (.inr (.inr ⟨h0, x, hx, h1, by rw [opA_ext hl]; exact h2, h3.ext hl⟩)))
theorem mapT_mono {f g : Int → Option PT} : ∀ (ks : List Int) (ts : List PT), (∀ k ∈ ks, ∀ t, f k = some t → g k = some t) → mapT f ks = some ts → mapT g ks = some ts
  | [], ts, _, h => h
  | k :: ks, ts, q, h => by
    rw [mapT] at h ⊢
    cases h1 : f k with
    | none => rw [h1] at h; cases h
    | some t =>
      rw [h1, Option.bind_some] at h
      rw [q k (by simp) t h1, Option.bind_some]
      cases h2 : mapT f ks with
      | none => rw [h2] at h; cases h
      | some us => rw [h2] at h; rw [mapT_mono ks us (fun x hx => q x (by simp [hx])) h2]; exact h
theorem toT_ext {L e : List Nq} : ∀ (n : Nat) (a : Int) (t : PT), toT L n a = some t → toT (L ++ e) n a = some t
  | 0, a, t, h => by cases h
  | n + 1, a, t, h => by
    rw [toT] at h ⊢
    by_cases hh : hasB L a = true
    · rw [if_pos hh] at h
      have hb : 0 ≤ a ∧ a < (L.length : Int) := of_decide_eq_true hh
      have hh2 : hasB (L ++ e) a = true := decide_eq_true ⟨hb.1, by rw [List.length_append]; omega⟩
      have hn : nodeAt (L ++ e) a = nodeAt L a := by unfold nodeAt; rw [List.getElem?_append_left (by omega)]
      rw [if_pos hh2, hn]
      simp only at h ⊢
      have hm : ∀ ts ks, mapT (toT L n) ks = some ts → mapT (toT (L ++ e) n) ks = some ts := fun ts ks => mapT_mono ks ts fun k _ t ht => toT_ext n k t ht
      have ho : ∀ (f : List PT → PT) ks, (mapT (toT L n) ks).map f = some t → (mapT (toT (L ++ e) n) ks).map f = some t := fun f ks h => by
        obtain ⟨ts, h1, h2⟩ := Option.map_eq_some_iff.1 h
        rw [hm ts ks h1]; simp [h2]
      have hs : ∀ (f : PT → PT) k, (toT L n k).map f = some t → (toT (L ++ e) n k).map f = some t := fun f k h => by
        obtain ⟨u, h1, h2⟩ := Option.map_eq_some_iff.1 h
        rw [toT_ext n k u h1]; simp [h2]
      split at h
      · rename_i h5
        rw [if_pos h5]
        split at h
        · rename_i h6; rw [if_pos h6]; exact ho _ _ h
        · cases h
      rename_i h5
      rw [if_neg h5]
      split at h
      · rename_i h6; rw [if_pos h6]; exact h
      rename_i h6
      rw [if_neg h6]
      split at h
      · rename_i h7
        rw [if_pos h7]
        split at h
        · rename_i h8; rw [if_pos h8]; exact ho _ _ h
        · cases h
      rename_i h7
      rw [if_neg h7]
      split at h
      · rename_i h8
        rw [if_pos h8]
        split at h
        · rename_i h9; rw [if_pos h9]; exact hs _ _ h
        · cases h
      rename_i h8
      rw [if_neg h8]
      split at h
      · rename_i h9
        rw [if_pos h9]
        split at h
        · rename_i h10; rw [if_pos h10]; exact hs _ _ h
        · cases h
      rename_i h9
      rw [if_neg h9]
      exact h
    · rw [if_neg hh] at h; cases h
theorem mapT_nat {f : Int → Option PT} {T : Nat → PT} : ∀ (ks : List Nat), (∀ k ∈ ks, f (k : Int) = some (T k)) → mapT f (ks.map fun (k : Nat) => (k : Int)) = some (ks.map T)
  | [], _ => rfl
  | k :: ks, q => by
    rw [List.map_cons, mapT, q k (by simp), mapT_nat ks (fun x hx => q x (by simp [hx]))]
    rfl
theorem seq_size (T : Nat → PT) : ∀ ks : List Nat, (seqOf (ks.map T)).size = seqSz T ks + 1
  | [] => rfl
  | k :: ks => by
    have := seq_size T ks
    simp only [List.map_cons, seqOf, PT.size, seqSz, List.sum_cons] at this ⊢
    omega
theorem alt_size (T : Nat → PT) : ∀ ks : List Nat, (altOf (ks.map T)).size ≤ seqSz T ks + 1
  | [] => by simp [altOf, PT.size]
  | [k] => by simp [altOf, seqSz]; omega
  | k :: l :: ks => by
    have := alt_size T (l :: ks)
    simp only [List.map_cons, altOf, PT.size, seqSz, List.sum_cons] at this ⊢
    omega
theorem seq_gd (T : Nat → PT) : ∀ ks : List Nat, (∀ k ∈ ks, (T k).gd) → (seqOf (ks.map T)).gd
  | [], _ => trivial
  | k :: ks, h => ⟨h k (by simp), seq_gd T ks fun x hx => h x (by simp [hx])⟩
theorem alt_gd (T : Nat → PT) : ∀ ks : List Nat, (∀ k ∈ ks, (T k).gd) → (altOf (ks.map T)).gd
  | [], _ => trivial
  | [k], h => h k (by simp)
  | k :: l :: ks, h => ⟨h k (by simp), alt_gd T (l :: ks) fun x hx => h x (by simp [hx])⟩
end Go.Proofs.YtlgemficalcghaaGreat
/- One node more. -/
namespace Go.Proofs.YtlgemficalcghaaGreat
set_option linter.unusedVariables false
set_option linter.unusedSimpArgs false
theorem tree_new {nds : List Nd} {d : Nd} {T : Nat → PT} {g : Nat} (hg : g ≤ 9) (hT : ∀ k, k < nds.length → (T k).gd ∧ ∀ n, k < n → toT (nds.map Nd.q) n (k : Int) = some (T k)) (hk : ∀ x ∈ d.kids, x < nds.length) (hs : Shp nds d) (hn : (d.op = 8 ∨ d.op = 9) → 1 ≤ d.n ∧ d.n ≤ g) :
    ∃ t : PT, t.gd ∧ t.size ≤ seqSz T d.kids + 1 ∧ ∀ n, nds.length < n → toT ((nds ++ [d]).map Nd.q) n (nds.length : Int) = some t := by
  have hh : hasB ((nds ++ [d]).map Nd.q) (nds.length : Int) = true := decide_eq_true ⟨by omega, by simp; omega⟩
  have hnode : nodeAt ((nds ++ [d]).map Nd.q) (nds.length : Int) = d.q := by unfold nodeAt; simp
  have hone : ∀ m k, k ∈ d.kids → nds.length ≤ m → toT ((nds ++ [d]).map Nd.q) m (k : Int) = some (T k) := fun m k hkk hm => by
    have := hk k hkk
    rw [List.map_append]
    exact toT_ext _ _ _ ((hT k this).2 m (by omega))
  have hall : ∀ m, nds.length ≤ m → mapT (toT ((nds ++ [d]).map Nd.q) m) d.q.kids = some (d.kids.map T) := fun m hm => mapT_nat d.kids fun k hkk => hone m k hkk hm
  have hgd : ∀ k ∈ d.kids, (T k).gd := fun k hkk => (hT k (hk k hkk)).1
  have hlen : d.q.kids.length = d.kids.length := by simp [Nd.q]
  have start : ∀ t : PT, t.gd → t.size ≤ seqSz T d.kids + 1 → (∀ m, nds.length ≤ m → (if d.q.op = 5 then if 1 ≤ d.q.kids.length then (mapT (toT ((nds ++ [d]).map Nd.q) m) d.q.kids).map seqOf else none
      else if d.q.op = 1 then some .empty
      else if d.q.op = 6 then if 1 ≤ d.q.kids.length then (mapT (toT ((nds ++ [d]).map Nd.q) m) d.q.kids).map altOf else none
      else if d.q.op = 7 then if d.q.kids.length = 1 ∧ 0 ≤ d.q.mn ∧ d.q.mn ≤ 60 ∧ d.q.mx ≤ 60 ∧ (d.q.mx < 0 ∨ d.q.mn ≤ d.q.mx) then (toT ((nds ++ [d]).map Nd.q) m (d.q.kids.headD 0)).map (.many d.q.mn.toNat (if d.q.mx < 0 then none else some d.q.mx.toNat) d.q.lz) else none
      else if d.q.op = 8 then if d.q.kids.length = 1 ∧ 0 ≤ d.q.n ∧ d.q.n ≤ 9 then (toT ((nds ++ [d]).map Nd.q) m (d.q.kids.headD 0)).map (.group d.q.n) else none
      else some (.leaf (leafI d.q))) = some t) → ∃ t : PT, t.gd ∧ t.size ≤ seqSz T d.kids + 1 ∧ ∀ n, nds.length < n → toT ((nds ++ [d]).map Nd.q) n (nds.length : Int) = some t := fun t h1 h2 h3 =>
    ⟨t, h1, h2, fun n hn => by
      obtain ⟨m, rfl⟩ : ∃ m, n = m + 1 := ⟨n - 1, by omega⟩
      rw [toT, if_pos hh, hnode]
      exact h3 m (by omega)⟩
  have eop : d.q.op = d.op := rfl
  rcases hs with ⟨hl, hk0⟩ | ⟨ho, h2⟩ | ⟨ho, hk0⟩ | ⟨ho, x, hx⟩ | ⟨ho, x, hx, hb, _, _⟩
  · by_cases h1 : d.op = 1
    · exact start .empty trivial (by simp [PT.size]) fun m hm => by rw [eop, if_neg (by omega), if_pos h1]
    · have hor : d.op = 2 ∨ d.op = 3 ∨ d.op = 4 ∨ d.op = 10 ∨ d.op = 11 ∨ d.op = 12 ∨ d.op = 13 ∨ d.op = 14 ∨ d.op = 15 := by unfold leafB at hl; simp at hl; omega
      refine start (.leaf (leafI d.q)) ?_ (by simp [PT.size]) fun m hm => by rw [eop, if_neg (by omega), if_neg h1, if_neg (by omega), if_neg (by omega), if_neg (by omega)]
      show leafK (leafI d.q)
      unfold leafI leafK
      rw [eop]
      rcases hor with h | h | h | h | h | h | h | h | h <;> simp [h]
  · rcases ho with ho | ho
    · exact start (seqOf (d.kids.map T)) (seq_gd T _ hgd) (by rw [seq_size]; exact Nat.le_refl _) fun m hm => by rw [eop, if_pos ho, if_pos (by rw [hlen]; omega), hall m hm]; rfl
    · exact start (altOf (d.kids.map T)) (alt_gd T _ hgd) (alt_size T _) fun m hm => by rw [eop, if_neg (by omega), if_neg (by omega), if_pos ho, if_pos (by rw [hlen]; omega), hall m hm]; rfl
  · have hnn := hn (.inr ho)
    refine start (.leaf (leafI d.q)) ?_ (by simp [PT.size]) fun m hm => by rw [eop, if_neg (by omega), if_neg (by omega), if_neg (by omega), if_neg (by omega), if_neg (by omega)]
    show leafK (leafI d.q)
    unfold leafI leafK
    rw [eop]
    have e : d.q.n = (d.n : Int) := rfl
    simp [ho, e]
    omega
  · have hnn := hn (.inl ho)
    have e : d.q.n = (d.n : Int) := rfl
    have eh : d.q.kids.headD 0 = (x : Int) := by simp [Nd.q, hx]
    have hxm : x ∈ d.kids := by rw [hx]; simp
    refine start (.group d.n (T x)) ⟨by omega, hgd x hxm⟩ (by simp [PT.size, seqSz, hx]) fun m hm => ?_
    rw [eop, if_neg (by omega), if_neg (by omega), if_neg (by omega), if_neg (by omega), if_pos ho, if_pos ⟨by rw [hlen, hx]; rfl, by omega, by omega⟩, eh, hone m x hxm hm, e]
    rfl
  · have eh : d.q.kids.headD 0 = (x : Int) := by simp [Nd.q, hx]
    have hxm : x ∈ d.kids := by rw [hx]; simp
    have e1 : d.q.mn = d.mn := rfl
    have e2 : d.q.mx = d.mx := rfl
    refine start (.many d.q.mn.toNat (if d.q.mx < 0 then none else some d.q.mx.toNat) d.q.lz (T x)) (hgd x hxm) (by simp [PT.size, seqSz, hx]) fun m hm => ?_
    rw [eop, if_neg (by omega), if_neg (by omega), if_neg (by omega), if_pos ho, if_pos ⟨by rw [hlen, hx]; rfl, by omega, by omega, by omega, by omega⟩, eh, hone m x hxm hm]
    rfl
theorem seqSz_append (T : Nat → PT) (a b : List Nat) : seqSz T (a ++ b) = seqSz T a + seqSz T b := by simp [seqSz]
theorem seqSz_congr {T U : Nat → PT} {a : List Nat} (h : ∀ k ∈ a, T k = U k) : seqSz T a = seqSz U a := by
  unfold seqSz
  congr 1
  exact List.map_congr_left fun k hk => by rw [h k hk]
theorem get_snoc {nds : List Nd} {d e : Nd} {k : Nat} (h : (nds ++ [d])[k]? = some e) : (k < nds.length ∧ nds[k]? = some e) ∨ (k = nds.length ∧ e = d) := by
  by_cases hk : k < nds.length
  · rw [List.getElem?_append_left hk] at h; exact .inl ⟨hk, h⟩
  · have := (List.getElem?_eq_some_iff.1 h).1
    simp at this
    have e1 : k = nds.length := by omega
    subst e1
    simp at h
    exact .inr ⟨rfl, h.symm⟩
theorem Wf.add {r : RS} {A : List Nat} {d : Nd} (h : Wf r (A ++ d.kids)) (hs : Shp r.nds d) (hn : (d.op = 8 ∨ d.op = 9) → 1 ≤ d.n ∧ d.n ≤ r.g) : Wf (addN d r).2 (A ++ [r.nds.length]) := by
  have hk : ∀ x ∈ d.kids, x < r.nds.length := fun x hx => h.lt x (by simp [hx])
  have hA : ∀ x ∈ A, x < r.nds.length := fun x hx => h.lt x (by simp [hx])
  have hrn := List.nodup_append.1 h.rn
  refine ⟨?_, ?_, ?_, ?_, ?_, ?_, ?_, h.cl, h.g, ?_, ?_⟩
  · intro k e he x hx
    rcases get_snoc he with ⟨h1, h2⟩ | ⟨h1, rfl⟩
    · exact h.kl k e h2 x hx
    · rw [h1]; exact hk x hx
  · intro k e he
    rcases get_snoc he with ⟨h1, h2⟩ | ⟨h1, rfl⟩
    · exact h.kn k e h2
    · exact hrn.2.1
  · intro k e he
    rcases get_snoc he with ⟨h1, h2⟩ | ⟨h1, rfl⟩
    · exact (h.sh k e h2).ext fun x hx => by have := h.kl k e h2 x hx; omega
    · exact hs.ext hk
  · intro k1 k2 d1 d2 x h1 h2 x1 x2
    rcases get_snoc h1 with ⟨a1, b1⟩ | ⟨a1, rfl⟩
    · rcases get_snoc h2 with ⟨a2, b2⟩ | ⟨a2, rfl⟩
      · exact h.own k1 k2 d1 d2 x b1 b2 x1 x2
      · exact absurd x1 (h.fr x (by simp [x2]) k1 d1 b1)
    · rcases get_snoc h2 with ⟨a2, b2⟩ | ⟨a2, rfl⟩
      · exact absurd x2 (h.fr x (by simp [x1]) k2 d2 b2)
      · omega
  · refine List.nodup_append.2 ⟨hrn.1, by simp, fun a ha b hb => ?_⟩
    simp only [List.mem_singleton] at hb
    have := hA a ha
    omega
  · intro x hx k e he hc
    rw [List.mem_append, List.mem_singleton] at hx
    rcases get_snoc he with ⟨h1, h2⟩ | ⟨h1, rfl⟩
    · rcases hx with hx | hx
      · exact h.fr x (by simp [hx]) k e h2 hc
      · have := h.kl k e h2 x hc; omega
    · rcases hx with hx | hx
      · exact hrn.2.2 x hx x hc rfl
      · have := hk x hc; omega
  · intro x hx
    rw [List.mem_append, List.mem_singleton] at hx
    show x < (r.nds ++ [d]).length
    rw [List.length_append]
    rcases hx with hx | hx
    · have := hA x hx; simp; omega
    · simp; omega
  · intro k e he ho
    rcases get_snoc he with ⟨h1, h2⟩ | ⟨h1, rfl⟩
    · exact h.ns k e h2 ho
    · exact hn ho
  · obtain ⟨T, hT, hz⟩ := h.tr
    obtain ⟨t, t1, t2, t3⟩ := tree_new h.g hT hk hs hn
    refine ⟨fun k => if k = r.nds.length then t else T k, fun k hkk => ?_, ?_⟩
    · show _ ∧ ∀ n, k < n → toT ((r.nds ++ [d]).map Nd.q) n (k : Int) = _
      by_cases e : k = r.nds.length
      · subst e
        simp only [if_pos rfl]
        exact ⟨t1, t3⟩
      · simp only [if_neg e]
        have hkk' : k < (r.nds ++ [d]).length := hkk
        rw [List.length_append] at hkk'
        simp at hkk'
        obtain ⟨q1, q2⟩ := hT k (by omega)
        refine ⟨q1, fun n hn => ?_⟩
        rw [List.map_append]
        exact toT_ext _ _ _ (q2 n hn)
    · rw [seqSz_append] at hz ⊢
      have e1 : seqSz (fun k => if k = r.nds.length then t else T k) A = seqSz T A := seqSz_congr fun k hkk => by rw [if_neg (by have := hA k hkk; omega)]
      rw [e1]
      have e2 : seqSz (fun k => if k = r.nds.length then t else T k) [r.nds.length] = t.size + 1 := by simp [seqSz]
      have e3 : (addN d r).2.nds.length = r.nds.length + 1 := by simp [addN]
      rw [e2, e3]
      omega
end Go.Proofs.YtlgemficalcghaaGreat
/- What is kept from piece to piece. -/
namespace Go.Proofs.YtlgemficalcghaaGreat
set_option linter.unusedVariables false
set_option linter.unusedSimpArgs false
structure Got (r r' : RS) (A : List Nat) (i : Nat) : Prop where
  wf : Wf r' (A ++ [i])
  g : r.g ≤ r'.g
  pre : ∃ e, r'.nds = r.nds ++ e
def PGot (r r' : RS) (A : List Nat) (i : Nat) : Prop := Got r r' A i ∧ Pc r'.nds i
section
variable {s last : ByteArray} {r r' : RS} {t : Tok} {i n : Nat} {A ks : List Nat}
theorem Wf.k (h : Wf r A) (k : Nat) (md : ByteArray) (cs : Nat) : Wf { r with k := k, md := md, cs := cs } A := ⟨h.kl, h.kn, h.sh, h.own, h.rn, h.fr, h.lt, h.cl, h.g, h.ns, h.tr⟩
theorem Got.k {k : Nat} {md : ByteArray} {cs : Nat} (h : Got { r with k := k, md := md, cs := cs } r' A i) : Got r r' A i := ⟨h.wf, h.g, h.pre⟩
theorem Got.trans {r1 : RS} {A1 : List Nat} {j : Nat} (hg : r.g ≤ r1.g) (hp : ∃ e, r1.nds = r.nds ++ e) (h : Got r1 r' A i) : Got r r' A i := by
  obtain ⟨e1, h1⟩ := hp
  obtain ⟨e2, h2⟩ := h.pre
  exact ⟨h.wf, Nat.le_trans hg h.g, e1 ++ e2, by rw [h2, h1, List.append_assoc]⟩
theorem Pc.new {nds : List Nd} {d : Nd} (h : d.op ≠ 5) : Pc (nds ++ [d]) nds.length := by
  intro e he h5
  simp at he
  subst he
  exact absurd h5 h
theorem pg_leaf {d : Nd} (h : Wf r A) (hk : d.kids = []) (ho : leafB d.op = true) : PGot r (addN d r).2 A (addN d r).1 := by
  have h5 : d.op ≠ 5 := fun e => by rw [e] at ho; cases ho
  refine ⟨⟨Wf.add (d := d) (by rw [hk, List.append_nil]; exact h) (.inl ⟨ho, hk⟩) (fun q => ?_), Nat.le_refl _, [d], rfl⟩, Pc.new h5⟩
  rcases q with q | q <;> (rw [q] at ho; cases ho)
theorem pg_of {x : Nat × RS} {d : Nd} (e : (.ok (addN d r) : Except (Nat × Nat) (Nat × RS)) = .ok (i, r')) (h : Wf r A) (hk : d.kids = []) (ho : leafB d.op = true) : PGot r r' A i := by
  injection e with e
  have := pg_leaf h hk ho
  rw [e] at this
  exact this
theorem join_got {op : Nat} (hop : op = 5 ∨ op = 6) (h : Wf r (A ++ ks)) : Got r (joinF op ks r).2 A (joinF op ks r).1 := by
  match ks, h with
  | [], h => exact (pg_leaf (d := { op := 1 }) (by rw [List.append_nil] at h; exact h) rfl rfl).1
  | [x], h => exact ⟨h, Nat.le_refl _, [], by simp [joinF]⟩
  | x :: y :: l, h => exact ⟨Wf.add (d := { op := op, kids := x :: y :: l }) h (.inr (.inl ⟨hop, by simp⟩)) (fun q => by simp only at q; omega), Nat.le_refl _, [_], rfl⟩
theorem wf_bytes (h : Wf r A) : ∀ l : List UInt8, Wf { r with nds := r.nds ++ bytesN l } (A ++ (List.range l.length).map (r.nds.length + ·)) := by
  intro l
  have key : ∀ n, n ≤ l.length → Wf { r with nds := r.nds ++ bytesN (l.take n) } (A ++ (List.range n).map (r.nds.length + ·)) := by
    intro n
    induction n with
    | zero => intro _; simp only [List.take_zero, bytesN, List.map_nil, List.append_nil, List.range_zero]; exact h
    | succ n ih =>
      intro hn
      have h1 := ih (by omega)
      have hl : (bytesN (l.take n)).length = n := by simp [bytesN]; omega
      have h2 := Wf.add (r := { r with nds := r.nds ++ bytesN (l.take n) }) (A := A ++ (List.range n).map (r.nds.length + ·)) (d := { op := 2, c := (l[n]'(by omega)).toNat }) (by simpa using h1) (.inl ⟨rfl, rfl⟩) (fun q => by simp at q)
      unfold addN at h2
      simp only [List.length_append, hl] at h2
      rw [List.range_succ, List.map_append, ← List.append_assoc]
      have e : bytesN (l.take (n + 1)) = bytesN (l.take n) ++ [{ op := 2, c := (l[n]'(by omega)).toNat }] := by
        rw [List.take_succ_eq_append_getElem (by omega)]; unfold bytesN; rw [List.map_append]; rfl
      rw [e, ← List.append_assoc]
      exact h2
  have := key l.length (Nat.le_refl _)
  rw [List.take_length] at this
  exact this
theorem again_got (h : Wf r A) : PGot r (againF last r).2 A (againF last r).1 := by
  unfold againF
  split
  · exact pg_leaf h rfl rfl
  · have hb := wf_bytes h last.data.toList
    have hl : last.data.toList.length = last.size := by rw [Array.length_toList]; rfl
    rw [hl] at hb
    have hj := join_got (op := 5) (.inl rfl) hb
    refine ⟨⟨hj.wf, hj.g, ?_⟩, ?_⟩
    · obtain ⟨e, he⟩ := hj.pre
      exact ⟨bytesN last.data.toList ++ e, by rw [he]; simp⟩
    · have hbl : (bytesN last.data.toList).length = last.size := by simp [bytesN]
      have hnode : ∀ j, j < last.size → ∀ e : List Nd, ∃ d, ((r.nds ++ bytesN last.data.toList) ++ e)[r.nds.length + j]? = some d ∧ d.op = 2 := fun j hj e => by
        refine ⟨{ op := 2, c := (last.data.toList[j]'(by rw [hl]; exact hj)).toNat }, ?_, rfl⟩
        rw [List.getElem?_append_left (by rw [List.length_append, hbl]; omega), List.getElem?_append_right (by omega), Nat.add_sub_cancel_left]
        unfold bytesN
        rw [List.getElem?_map, List.getElem?_eq_getElem (by rw [hl]; exact hj)]
        rfl
      unfold joinF
      split
      · exact Pc.new (by decide)
      · rename_i x hx
        intro d hd h5
        have hx' : x ∈ (List.range last.size).map (r.nds.length + ·) := by rw [hx]; simp
        obtain ⟨j, hj, rfl⟩ := List.mem_map.1 hx'
        rw [List.mem_range] at hj
        obtain ⟨e, h1, h2⟩ := hnode j hj []
        rw [List.append_nil] at h1
        simp only at hd
        rw [h1] at hd
        injection hd with hd
        subst hd
        omega
      · intro d hd h5 x hx
        simp only [addN] at hd ⊢
        simp at hd
        subst hd
        simp only at hx
        obtain ⟨j, hj, rfl⟩ := List.mem_map.1 hx
        rw [List.mem_range] at hj
        exact hnode j hj _
end
end Go.Proofs.YtlgemficalcghaaGreat
/- Pieces, repetitions, groups, branches. -/
namespace Go.Proofs.YtlgemficalcghaaGreat
set_option linter.unusedVariables false
set_option linter.unusedSimpArgs false
section
variable {s last : ByteArray} {r r' : RS} {t : Tok} {i n : Nat} {A ks : List Nat}
theorem numG_60 {fr : Nat} : ∀ {f k n m j : Nat}, numG s fr f k n = some (m, j) → n ≤ 60 → m ≤ 60 := by
  intro f
  induction f with
  | zero => intro k n m j h hn; simp [numG] at h; omega
  | succ f ih =>
    intro k n m j h hn
    rw [numG] at h
    split at h
    · split at h
      · split at h
        · cases h
        · exact ih h (by omega)
      · cases h; exact hn
    · cases h; exact hn
theorem finF_b {k n : Nat} {m : Int} {y : Bool} {a : Nat} {b : Int} {c : Bool} {j : Nat} (h : finF s k n m y = some (a, b, c, j)) : a = n ∧ b = m ∧ ¬ (0 ≤ m ∧ m < n) := by
  unfold finF at h
  split at h
  · split at h
    · cases h
    · rename_i hq; cases h; exact ⟨rfl, rfl, hq⟩
  · split at h
    · split at h
      · cases h
      · rename_i hq; cases h; exact ⟨rfl, rfl, hq⟩
    · cases h
theorem bndF_b {k : Nat} {a : Nat} {b : Int} {c : Bool} {j : Nat} (h : bndF s k = some (a, b, c, j)) : a ≤ 60 ∧ (b < 0 ∨ ((a : Int) ≤ b ∧ b ≤ 60)) := by
  unfold bndF at h
  split at h
  · cases h
  · rename_i n k2 h2
    have n60 := numG_60 h2 (by omega)
    split at h
    · split at h
      · cases h
      · rename_i m k3 h3
        have m60 := numG_60 h3 (by omega)
        obtain ⟨rfl, rfl, q⟩ := finF_b h
        refine ⟨n60, ?_⟩
        split at q
        · rename_i hq; rw [if_pos hq]; omega
        · rename_i hq; rw [if_neg hq]; omega
    · obtain ⟨rfl, rfl, q⟩ := finF_b h
      refine ⟨n60, ?_⟩
      by_cases hq : (if pfx s k ⟨#[45]⟩ then k + 1 else k) < k2
      · rw [if_pos hq] at q ⊢; omega
      · rw [if_neg hq] at q ⊢; omega
theorem times_b {d : Nd} (h : timesF s t r = .ok (d, r')) : (d.op = 7 ∧ (0 ≤ d.mn ∧ d.mn ≤ 60 ∧ (d.mx < 0 ∨ (d.mn ≤ d.mx ∧ d.mx ≤ 60)))) ∧ ∃ k, r' = { r with k := k } := by
  unfold timesF at h
  split at h
  · cases h; exact ⟨⟨rfl, by decide⟩, r.k, rfl⟩
  · split at h
    · cases h; exact ⟨⟨rfl, by decide⟩, r.k, rfl⟩
    · split at h
      · split at h
        · cases h
        · rename_i n mx lz j hb
          cases h
          have := bndF_b hb
          exact ⟨⟨rfl, by simp only; omega⟩, j, rfl⟩
      · cases h; exact ⟨⟨rfl, by decide⟩, r.k, rfl⟩
theorem letter_got (hw : Wf r A) (h : letterF s t r = .ok (i, r')) : PGot r r' A i := by
  unfold letterF at h
  split at h
  · exact pg_of (x := (0, r)) h hw rfl rfl
  split at h
  · exact pg_of (x := (0, r)) h hw rfl rfl
  split at h
  · unfold edgeF at h
    split at h
    · have := pg_of (x := (0, r)) h (hw.k (r.k + 1) r.md r.cs) rfl rfl
      exact ⟨this.1.k, this.2⟩
    · split at h
      · have := pg_of (x := (0, r)) h (hw.k (r.k + 1) r.md r.cs) rfl rfl
        exact ⟨this.1.k, this.2⟩
      · cases h
  split at h
  · unfold backF at h
    split at h
    · rename_i hc
      injection h with h
      have e1 : i = r.nds.length := by rw [show i = (i, r').1 from rfl, ← h]; rfl
      have e2 : r' = (addN { op := 9, n := t.c - 48 } r).2 := by rw [show r' = (i, r').2 from rfl, ← h]
      subst e1 e2
      exact ⟨⟨Wf.add (d := { op := 9, n := t.c - 48 }) (by rw [List.append_nil]; exact hw) (.inr (.inr (.inl ⟨rfl, rfl⟩))) (fun _ => hw.cl _ hc), Nat.le_refl _, [_], rfl⟩, Pc.new (by simp)⟩
    · cases h
  split at h
  · exact pg_of (x := (0, r)) h hw rfl rfl
  · cases h
theorem eol_got (hw : Wf r A) (h : eolF s t r = .ok (i, r')) : PGot r r' A i := by
  unfold eolF at h
  split at h
  · cases h
  · split at h
    · exact pg_of (x := (0, r)) h hw rfl rfl
    · exact pg_of (x := (0, r)) h hw rfl rfl
theorem set_got (hw : Wf r A) (h : setF s t r = .ok (i, r')) : PGot r r' A i := by
  unfold setF at h
  split at h
  · cases h
  · rename_i r1 hc
    unfold collF at hc
    split at hc
    · cases hc; exact pg_of (x := (0, r)) h hw rfl rfl
    · split at hc
      · cases hc
      · cases hc
  · rename_i q r1 hc
    unfold collF at hc
    split at hc
    · cases hc
    · split at hc
      · cases hc
      · cases hc
        have := pg_of (x := (0, r)) h (hw.k _ r.md r.cs) rfl rfl
        exact ⟨this.1.k, this.2⟩
theorem sign_got {G : Tok → RS → Except (Nat × Nat) (Nat × RS)} {first : Bool} (hw : Wf r A) (hG : ∀ i r', G t r = .ok (i, r') → PGot r r' A i) (h : signF G s last t first r = .ok (i, r')) : PGot r r' A i := by
  unfold signF at h
  split at h
  · split at h
    · exact pg_of (x := (0, r)) h hw rfl rfl
    · exact pg_of (x := (0, r)) h hw rfl rfl
  split at h
  · exact eol_got hw h
  split at h
  · exact pg_of (x := (0, r)) h hw rfl rfl
  split at h
  · exact pg_of (x := (0, r)) h hw rfl rfl
  split at h
  · exact pg_of (x := (0, r)) h hw rfl rfl
  split at h
  · injection h with h
    have := again_got (last := last) hw
    rw [h] at this
    exact this
  split at h
  · exact set_got hw h
  split at h
  · exact hG _ _ h
  · exact pg_of (x := (0, r)) h hw rfl rfl
theorem piece_got {G : Tok → RS → Except (Nat × Nat) (Nat × RS)} {first : Bool} (hw : Wf r A) (hG : ∀ i r', G t r = .ok (i, r') → PGot r r' A i) (h : pieceF G s last t first r = .ok (i, r')) : PGot r r' A i := by
  unfold pieceF at h
  split at h
  · exact sign_got hw hG h
  · split at h
    · exact letter_got hw h
    · exact pg_of (x := (0, r)) h hw rfl rfl
theorem group_got {BR : RS → Except (Nat × Nat) (Nat × Tok × RS)} (hw : Wf r A) (hB : ∀ r1 i t r2, Wf r1 A → BR r1 = .ok (i, t, r2) → Got r1 r2 A i) (h : groupF BR t r = .ok (i, r')) : PGot r r' A i := by
  unfold groupF at h
  split at h
  · cases h
  · rename_i h9
    have hg := hw.g
    split at h
    · cases h
    · rename_i kid en r1 h1
      have hw1 : Wf { r with g := r.g + 1 } A := ⟨hw.kl, hw.kn, hw.sh, hw.own, hw.rn, hw.fr, hw.lt, fun j hj => by have := hw.cl j hj; exact ⟨this.1, by show j ≤ r.g + 1; omega⟩, by show r.g + 1 ≤ 9; omega, fun k d hd ho => by have := hw.ns k d hd ho; exact ⟨this.1, by show d.n ≤ r.g + 1; omega⟩, hw.tr⟩
      have a := hB _ _ _ _ hw1 h1
      have ag : r.g + 1 ≤ r1.g := a.g
      split at h
      · cases h
      · cases h
        have b := a.wf
        have hw2 : Wf { r1 with cl := r1.cl.set (r.g + 1) true } (A ++ [kid]) := ⟨b.kl, b.kn, b.sh, b.own, b.rn, b.fr, b.lt, fun j hj => by
            show 1 ≤ j ∧ j ≤ r1.g
            by_cases e : j = r.g + 1
            · omega
            · refine b.cl j ?_
              simp only [List.getD_eq_getElem?_getD] at hj ⊢
              rw [List.getElem?_set_ne (by omega)] at hj
              exact hj, b.g, b.ns, b.tr⟩
        refine ⟨⟨Wf.add (d := { op := 8, n := r.g + 1, kids := [kid] }) hw2 (.inr (.inr (.inr (.inl ⟨rfl, kid, rfl⟩)))) (fun _ => ⟨by simp, ag⟩), by show r.g ≤ r1.g; omega, ?_⟩, Pc.new (by simp)⟩
        obtain ⟨e, he⟩ := a.pre
        exact ⟨e ++ [{ op := 8, n := r.g + 1, kids := [kid] }], by simp only [addN]; rw [he]; simp⟩
theorem many_got {ks' : List Nat} (hw : Wf r (A ++ ks)) (hp : ∀ p ∈ ks, Pc r.nds p) (h : manyF s t ks r = .ok (ks', r')) : Wf r' (A ++ ks') ∧ (∀ p ∈ ks', Pc r'.nds p) ∧ r.g ≤ r'.g ∧ ∃ e, r'.nds = r.nds ++ e := by
  have lit : ∀ {k2 : List Nat} {r2 : RS}, (.ok (ks ++ [r.nds.length], { r with nds := r.nds ++ [{ op := 2, c := t.c }] }) : Except (Nat × Nat) (List Nat × RS)) = .ok (k2, r2) → Wf r2 (A ++ k2) ∧ (∀ p ∈ k2, Pc r2.nds p) ∧ r.g ≤ r2.g ∧ ∃ e, r2.nds = r.nds ++ e := by
    intro k2 r2 e
    injection e with e
    injection e with e1 e2
    subst e1 e2
    have q := pg_leaf (d := { op := 2, c := t.c }) hw rfl rfl
    refine ⟨by rw [← List.append_assoc]; exact q.1.wf, fun p hpp => ?_, Nat.le_refl _, [_], rfl⟩
    rw [List.mem_append, List.mem_singleton] at hpp
    rcases hpp with hpp | rfl
    · exact (hp p hpp).ext (hw.lt p (by simp [hpp]))
    · exact Pc.new (by simp)
  unfold manyF at h
  split at h
  · split at h
    · cases h
    · exact lit h
  · rename_i p hl
    split at h
    · rename_i hrep
      split at h
      · cases h
      · rename_i d r1 ht
        obtain ⟨⟨d7, db⟩, k, rfl⟩ := times_b ht
        injection h with h
        injection h with e1 e2
        subst e1 e2
        obtain ⟨l, rfl⟩ := List.getLast?_eq_some_iff.1 hl
        have hset : (l ++ [p]).set ((l ++ [p]).length - 1) r.nds.length = l ++ [r.nds.length] := by simp
        have hw' : Wf { r with k := k } ((A ++ l) ++ [p]) := by
          rw [List.append_assoc]
          exact hw.k k r.md r.cs
        have q := Wf.add (r := { r with k := k }) (A := A ++ l) (d := { d with kids := [p] }) hw' (.inr (.inr (.inr (.inr ⟨d7, p, rfl, db, hrep, hp p (List.mem_of_getLast? hl)⟩)))) (fun q => by simp only [d7] at q; omega)
        refine ⟨by simp only [hset]; rw [← List.append_assoc]; exact q, fun x hx => ?_, Nat.le_refl _, [_], rfl⟩
        simp only [hset, List.mem_append, List.mem_singleton] at hx
        rcases hx with hx | rfl
        · exact (hp x (by simp [hx])).ext (hw.lt x (by simp [hx]))
        · exact Pc.new (by show d.op ≠ 5; omega)
    · split at h
      · cases h
      · exact lit h
theorem br_got {P : Tok → Bool → RS → Except (Nat × Nat) (Nat × RS)} (hP : ∀ t b r A i r', Wf r A → P t b r = .ok (i, r') → PGot r r' A i) :
    ∀ (f : Nat) (r : RS) (ks : List Nat) (i : Nat) (t : Tok) (r' : RS), Wf r (A ++ ks) → (∀ p ∈ ks, Pc r.nds p) → brF P s f r ks = .ok (i, t, r') → Got r r' A i := by
  intro f
  induction f with
  | zero => intro r ks i t r' _ _ h; simp [brF] at h
  | succ f ih =>
    intro r ks i t r' hw hp h
    rw [brF] at h
    split at h
    · cases h
    · rename_i t1 k md cs hn
      have hw1 := hw.k k md cs
      split at h
      · cases h
        exact (join_got (.inl rfl) hw1).k
      · split at h
        · split at h
          · cases h
          · rename_i ks' r1 hm
            obtain ⟨q1, q2, q3, q4⟩ := many_got hw1 hp hm
            exact Got.trans (A1 := []) (j := 0) q3 q4 (ih _ _ _ _ _ q1 q2 h)
        · split at h
          · cases h
          · rename_i i1 r1 hp1
            obtain ⟨q1, q2⟩ := hP _ _ _ _ _ _ hw1 hp1
            refine Got.trans (A1 := []) (j := 0) q1.g q1.pre (ih _ _ _ _ _ (by rw [← List.append_assoc]; exact q1.wf) (fun p hpp => ?_) h)
            rw [List.mem_append, List.mem_singleton] at hpp
            rcases hpp with hpp | rfl
            · obtain ⟨e, he⟩ := q1.pre
              rw [he]
              exact (hp p hpp).ext (hw.lt p (by simp [hpp]))
            · exact q2
theorem brs_got {F : RS → Except (Nat × Nat) (Nat × Tok × RS)} (hF : ∀ r A i t r', Wf r A → F r = .ok (i, t, r') → Got r r' A i) :
    ∀ (f : Nat) (r : RS) (ks : List Nat) (i : Nat) (t : Tok) (r' : RS), Wf r (A ++ ks) → brsL F f r ks = .ok (i, t, r') → Got r r' A i := by
  intro f
  induction f with
  | zero => intro r ks i t r' _ h; simp [brsL] at h
  | succ f ih =>
    intro r ks i t r' hw h
    rw [brsL] at h
    split at h
    · cases h
    · rename_i i1 t1 r1 h1
      have q := hF _ _ _ _ _ hw h1
      have q1 : Wf r1 (A ++ (ks ++ [i1])) := by rw [← List.append_assoc]; exact q.wf
      split at h
      · exact Got.trans (A1 := []) (j := 0) q.g q.pre (ih _ _ _ _ _ q1 h)
      · cases h
        exact Got.trans (A1 := []) (j := 0) q.g q.pre (join_got (.inr rfl) q1)
theorem brsF_got : ∀ (n : Nat) (r : RS) (A : List Nat) (i : Nat) (t : Tok) (r' : RS), Wf r A → brsF s last n r = .ok (i, t, r') → Got r r' A i
  | 0, _, _, _, _, _, _, h => by cases h
  | n + 1, r, A, i, t, r', hw, h => by
    rw [brsF] at h
    refine brs_got (fun r1 A1 i1 t1 r2 h1 h2 => ?_) _ _ [] _ _ _ (by rw [List.append_nil]; exact hw) h
    refine br_got (fun t3 b3 r3 A3 i3 r4 h3 h4 => ?_) _ _ [] _ _ _ (by rw [List.append_nil]; exact h1) (fun p hp => by cases hp) h2
    exact piece_got h3 (fun i5 r5 h5 => group_got h3 (fun r6 i6 t6 r7 h6 h7 => brsF_got n r6 A3 i6 t6 r7 h6 h7) h5) h4
theorem wf0 : Wf rs0 [] where
  kl k d h := by simp [rs0] at h
  kn k d h := by simp [rs0] at h
  sh k d h := by simp [rs0] at h
  own k1 k2 d1 d2 x h := by simp [rs0] at h
  rn := by simp
  fr x h := by cases h
  lt x h := by cases h
  cl j h := by
    exfalso
    simp only [rs0, List.getD_eq_getElem?_getD] at h
    cases hq : (List.replicate 10 false)[j]? with
    | none => rw [hq] at h; cases h
    | some b => have := List.mem_of_getElem? hq; simp at this; rw [hq, this] at h; cases h
  g := by decide
  ns k d h := by simp [rs0] at h
  tr := ⟨fun _ => .empty, fun k h => by simp [rs0] at h, by simp [seqSz]⟩
theorem parF_wf (h : parF s last = .ok (i, r')) : Wf r' [i] ∧ r'.nds.length ≤ 400 := by
  unfold parF patF at h
  split at h
  · cases h
  · split at h
    · cases h
    · rename_i i1 t1 r1 hb
      split at h
      · cases h
      · split at h
        · cases h
        · rename_i h4
          cases h
          exact ⟨(brsF_got _ _ [] _ _ _ wf0 hb).wf, by omega⟩
end
end Go.Proofs.YtlgemficalcghaaGreat
