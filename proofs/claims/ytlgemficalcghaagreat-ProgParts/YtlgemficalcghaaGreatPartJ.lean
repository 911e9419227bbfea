/- Texts that the proof of the law stands on: Eval4, Til, Eval5, PParts0, PAlt, PSame, PParts. -/
import Derived.Test.YtlgemficalcghaaGreatPartI
/- What ~ is read as. -/
namespace Go.Proofs.YtlgemficalcghaaGreat
open Go.ChangeShapes Go.WideShapes Go.ChangeAt Go.RowKit
set_option linter.unusedVariables false
set_option linter.unusedSimpArgs false
/-- The nodes of ~, and the root. -/
def tilN (l : List UInt8) : List Nd := if l.length = 0 then [{ op := 1 }] else if l.length = 1 then bytesN l else bytesN l ++ [{ op := 5, kids := List.range l.length }]
def tilR (l : List UInt8) : Nat := if l.length ≤ 1 then 0 else l.length
theorem again_til (l : List UInt8) : againF ⟨l.toArray⟩ { rs0 with k := 1 } = (tilR l, { rs0 with k := 1, nds := tilN l }) := by
  unfold againF
  rw [if_neg (by simp [rs0]), size_list]
  have e : ({ rs0 with k := 1 } : RS).nds.length = 0 := rfl
  rw [e]
  have e2 : (List.range l.length).map (0 + ·) = List.range l.length := by simp
  rw [e2]
  show joinF 5 (List.range l.length) { rs0 with k := 1, nds := [] ++ bytesN l } = _
  rw [List.nil_append]
  by_cases h0 : l.length = 0
  · have : l = [] := List.eq_nil_of_length_eq_zero h0
    subst this; rfl
  by_cases h1 : l.length = 1
  · have e3 : tilN l = bytesN l := by unfold tilN; rw [if_neg h0, if_pos h1]
    have e4 : tilR l = 0 := by unfold tilR; rw [if_pos (by omega)]
    rw [e3, e4, h1]; rfl
  obtain ⟨n, hn⟩ : ∃ n, l.length = n + 2 := ⟨l.length - 2, by omega⟩
  have e3 : tilN l = bytesN l ++ [{ op := 5, kids := List.range l.length }] := by unfold tilN; rw [if_neg h0, if_neg h1]
  have e4 : tilR l = l.length := by unfold tilR; rw [if_neg (by omega)]
  have e5 : List.range l.length = 0 :: 1 :: (List.range n).map (· + 2) := by
    rw [hn, List.range_succ_eq_map, List.range_succ_eq_map]; simp [Function.comp_def]
  have e6 : (bytesN l).length = l.length := by simp [bytesN]
  rw [e3, e4, e5]
  show addN { op := 5, kids := 0 :: 1 :: (List.range n).map (· + 2) } _ = _
  unfold addN
  simp only [e6]
theorem til_read {l : List UInt8} (hl : l.length ≤ 300) : see (parF ⟨#[126]⟩ ⟨l.toArray⟩) = .ok (tilR l, 0, 0, tilN l) := by
  have hn : nextF ⟨#[126]⟩ 2 0 mdM 0 = .ok (⟨2, 126, 0⟩, 1, mdM, 0) := by kernel_rfl
  have h2 : nextF ⟨#[126]⟩ 2 1 mdM 0 = .ok (⟨0, 0, 1⟩, 1, mdM, 0) := by kernel_rfl
  have hpc : ∀ G r, pieceF G ⟨#[126]⟩ ⟨l.toArray⟩ ⟨2, 126, 0⟩ true r = .ok (againF ⟨l.toArray⟩ r) := fun G r => by simp [pieceF, signF]
  have hbr : ∀ G, brF (pieceF G ⟨#[126]⟩ ⟨l.toArray⟩) ⟨#[126]⟩ 2 rs0 [] = .ok (tilR l, ⟨0, 0, 1⟩, { rs0 with k := 1, nds := tilN l }) := fun G => by
    rw [brF]
    have hn' : nextF ⟨#[126]⟩ ((⟨#[126]⟩ : ByteArray).size + 1) rs0.k rs0.md rs0.cs = .ok (⟨2, 126, 0⟩, 1, mdM, 0) := hn
    simp only [hn']
    rw [if_neg (by decide), if_neg (by decide)]
    simp only [List.isEmpty_nil, hpc]
    have ha : againF ⟨l.toArray⟩ { rs0 with k := 1, md := mdM, cs := 0 } = (tilR l, { rs0 with k := 1, nds := tilN l }) := again_til l
    rw [ha, brF]
    have h2' : nextF ⟨#[126]⟩ ((⟨#[126]⟩ : ByteArray).size + 1) 1 rs0.md rs0.cs = .ok (⟨0, 0, 1⟩, 1, mdM, 0) := h2
    simp only [h2']
    rw [if_pos (by rfl)]
    rfl
  have hlen : (tilN l).length ≤ 301 := by
    unfold tilN
    split
    · simp
    · split
      · simp [bytesN]; omega
      · simp [bytesN]; omega
  unfold parF patF
  have e0 : (⟨#[126]⟩ : ByteArray).size = 1 := rfl
  have e1 : (⟨l.toArray⟩ : ByteArray).size = l.length := size_list l
  rw [if_neg (by rw [e0, e1]; omega), brsF]
  show see (match brsL (fun r => brF (pieceF (groupF (brsF ⟨#[126]⟩ ⟨l.toArray⟩ 9)) ⟨#[126]⟩ ⟨l.toArray⟩) ⟨#[126]⟩ 2 r []) 2 rs0 [] with
    | .error e => .error e
    | .ok (i, t, r') => if t.kd ≠ 0 then .error (31, t.pl) else if 400 < r'.nds.length then .error (33, 0) else .ok (i, r')) = _
  rw [brsL, hbr]
  simp only [joinF, List.nil_append]
  rw [if_neg (by decide)]
  simp only
  rw [if_neg (by decide), if_neg (by show ¬ 400 < (tilN l).length; omega)]
  rfl
/-- Leaves that are asked for from the last on. -/
theorem tree_leaves {L : List Nq} {G : Int} : ∀ (k f : Nat) (asked : List Bool), k < f → k ≤ L.length → asked.length = L.length → (∀ i, i < k → ∃ c, L[i]? = some { op := 2, c := c }) → (∀ i, i < k → asked.getD i false = false) → treeF L G f ((List.range k).map fun (n : Nat) => (n : Int)) asked = true := by
  intro k
  induction k with
  | zero =>
    intro f asked hf _ _ _ _
    obtain ⟨f, rfl⟩ : ∃ f', f = f' + 1 := ⟨f - 1, by omega⟩
    simp [treeF]
  | succ k ih =>
    intro f asked hf hk hl hL hA
    obtain ⟨f, rfl⟩ : ∃ f', f = f' + 1 := ⟨f - 1, by omega⟩
    obtain ⟨c, hc⟩ := hL k (by omega)
    have hn : nodeAt L (k : Int) = { op := 2, c := c } := by unfold nodeAt; rw [Int.toNat_natCast, hc]; rfl
    have hh : hasB L (k : Int) = true := decide_eq_true ⟨by omega, by omega⟩
    rw [treeF, List.range_succ, List.map_append]
    simp only [List.map_cons, List.map_nil, List.getLast?_concat, List.dropLast_concat, hn, hh, Int.toNat_natCast, hA k (by omega)]
    rw [if_pos (by simp [fitB, leafB]), List.append_nil]
    refine ih f (asked.set k true) (by omega) (by omega) (by simp [hl]) (fun i hi => hL i (by omega)) (fun i hi => ?_)
    have := hA i (by omega)
    simp only [List.getD_eq_getElem?_getD, List.getElem?_set_ne (by omega : k ≠ i)] at this ⊢
    exact this
end Go.Proofs.YtlgemficalcghaaGreat
/- The nodes of plain bytes: how many, which, and that they are sound. -/
namespace Go.Proofs.YtlgemficalcghaaGreat
open Go.ChangeShapes Go.WideShapes Go.ChangeAt Go.RowKit
set_option linter.unusedVariables false
set_option linter.unusedSimpArgs false
theorem til_len (l : List UInt8) : (tilN l).length = if l.length ≤ 1 then 1 else l.length + 1 := by
  unfold tilN
  by_cases h0 : l.length = 0
  · rw [if_pos h0, if_pos (by omega)]; rfl
  by_cases h1 : l.length = 1
  · rw [if_neg h0, if_pos h1, if_pos (by omega)]; simp [bytesN, h1]
  · rw [if_neg h0, if_neg h1, if_neg (by omega)]; simp [bytesN]
theorem til_byte {l : List UInt8} {i : Nat} (hi : i < l.length) : (tilN l)[i]? = some { op := 2, c := (l[i]).toNat } := by
  have hb : (bytesN l)[i]? = some { op := 2, c := (l[i]).toNat } := by simp [bytesN, hi]
  unfold tilN
  rw [if_neg (by omega)]
  split
  · exact hb
  · rw [List.getElem?_append_left (by simp [bytesN]; exact hi)]; exact hb
theorem til_root {l : List UInt8} (hl : 2 ≤ l.length) : (tilN l)[l.length]? = some { op := 5, kids := List.range l.length } := by
  unfold tilN
  rw [if_neg (by omega), if_neg (by omega), List.getElem?_append_right (by simp [bytesN])]
  simp [bytesN]
theorem til_op (l : List UInt8) : ∀ d ∈ (tilN l).map Nd.q, (d.op = 1 ∨ d.op = 2 ∨ d.op = 5) ∧ d.kids.length ≤ l.length := by
  intro d hd
  unfold tilN at hd
  split at hd
  · simp at hd; subst hd; exact ⟨.inl rfl, Nat.zero_le _⟩
  · have hb : ∀ d ∈ (bytesN l).map Nd.q, (d.op = 1 ∨ d.op = 2 ∨ d.op = 5) ∧ d.kids.length ≤ l.length := by
      intro d hd
      simp only [bytesN, List.map_map, List.mem_map, Function.comp] at hd
      obtain ⟨b, _, rfl⟩ := hd
      exact ⟨.inr (.inl rfl), Nat.zero_le _⟩
    split at hd
    · exact hb d hd
    · rw [List.map_append, List.mem_append] at hd
      rcases hd with hd | hd
      · exact hb d hd
      · simp only [List.map_cons, List.map_nil, List.mem_singleton] at hd
        subst hd
        exact ⟨.inr (.inr rfl), by simp [Nd.q]⟩
theorem til_sound {l : List UInt8} (hl : l.length ≤ 300) : soundF ((tilN l).map Nd.q) (tilR l) 0 = true := by
  unfold soundF
  rw [decide_eq_true (by omega), Bool.true_and]
  have hlen := til_len l
  have hleaf : ∀ i, i < l.length → ∃ c, ((tilN l).map Nd.q)[i]? = some { op := 2, c := c } := fun i hi => ⟨(l[i]).toNat, by rw [List.getElem?_map, til_byte hi]; rfl⟩
  have hrep : ∀ (n i : Nat), (List.replicate n false).getD i false = false := fun n i => by
    simp only [List.getD_eq_getElem?_getD]
    cases h : (List.replicate n false)[i]? with
    | none => rfl
    | some b => have := List.mem_of_getElem? h; simp at this; exact this.2
  by_cases h0 : l.length = 0
  · have : l = [] := List.eq_nil_of_length_eq_zero h0
    subst this; rfl
  by_cases h1 : l.length = 1
  · have e4 : tilR l = 0 := by unfold tilR; rw [if_pos (by omega)]
    rw [e4]
    exact tree_leaves 1 _ _ (by rw [List.length_map, hlen, if_pos (by omega)]; omega) (by rw [List.length_map, hlen, if_pos (by omega)]; omega) (by simp) (fun i hi => hleaf i (by omega)) (fun i _ => hrep _ i)
  have e4 : tilR l = l.length := by unfold tilR; rw [if_neg (by omega)]
  rw [if_neg (by omega)] at hlen
  have hroot : nodeAt ((tilN l).map Nd.q) (l.length : Int) = { op := 5, kids := (List.range l.length).map fun (n : Nat) => (n : Int) } := by
    unfold nodeAt
    rw [Int.toNat_natCast, List.getElem?_map, til_root (by omega)]; rfl
  have hh : hasB ((tilN l).map Nd.q) (l.length : Int) = true := decide_eq_true ⟨by omega, by rw [List.length_map, hlen]; omega⟩
  rw [e4, treeF]
  simp only [List.getLast?_singleton, List.dropLast_singleton, hroot, hh, hrep, Int.toNat_natCast, List.nil_append]
  rw [if_pos (by simp [fitB, leafB]; omega)]
  refine tree_leaves l.length _ _ (by rw [List.length_map, hlen]; omega) (by rw [List.length_map, hlen]; omega) (by simp) hleaf (fun i hi => ?_)
  simp only [List.getD_eq_getElem?_getD, List.getElem?_set_ne (by omega : l.length ≠ i)]
  have := hrep ((tilN l).map Nd.q).length i
  simp only [List.getD_eq_getElem?_getD] at this
  exact this
end Go.Proofs.YtlgemficalcghaaGreat
/- What plain bytes are read as, behind a mode's word or none. -/
namespace Go.Proofs.YtlgemficalcghaaGreat
open Go.ChangeShapes Go.WideShapes Go.ChangeAt Go.RowKit
set_option linter.unusedVariables false
set_option linter.unusedSimpArgs false
/-- A mode's word, and the mode behind it. -/
def Md (m : List UInt8) (md : ByteArray) : Prop := (m = [] ∧ md = mdM) ∨ (m = [92, 118] ∧ md = mdV) ∨ (m = [92, 109] ∧ md = mdM) ∨ (m = [92, 77] ∧ md = mdN) ∨ (m = [92, 86] ∧ md = mdO)
theorem join_til (l : List UInt8) (r : RS) (h : r.nds = bytesN l) : joinF 5 (List.range l.length) r = (tilR l, { r with nds := tilN l }) := by
  obtain ⟨k, md, cs, g, cl, nds⟩ := r
  simp only at h
  subst h
  by_cases h0 : l.length = 0
  · have : l = [] := List.eq_nil_of_length_eq_zero h0
    subst this; rfl
  by_cases h1 : l.length = 1
  · have e3 : tilN l = bytesN l := by unfold tilN; rw [if_neg h0, if_pos h1]
    have e4 : tilR l = 0 := by unfold tilR; rw [if_pos (by omega)]
    rw [e3, e4, h1]; rfl
  obtain ⟨n, hn⟩ : ∃ n, l.length = n + 2 := ⟨l.length - 2, by omega⟩
  have e3 : tilN l = bytesN l ++ [{ op := 5, kids := List.range l.length }] := by unfold tilN; rw [if_neg h0, if_neg h1]
  have e4 : tilR l = l.length := by unfold tilR; rw [if_neg (by omega)]
  have e5 : List.range l.length = 0 :: 1 :: (List.range n).map (· + 2) := by
    rw [hn, List.range_succ_eq_map, List.range_succ_eq_map]; simp [Function.comp_def]
  have e6 : (bytesN l).length = l.length := by simp [bytesN]
  rw [e3, e4, e5]
  show addN { op := 5, kids := 0 :: 1 :: (List.range n).map (· + 2) } _ = _
  unfold addN
  simp only [e6]
section
variable {m t : List UInt8} {md : ByteArray}
theorem byte_at (i : Nat) (hi : i < t.length) : byteAt ⟨(m ++ t).toArray⟩ (m.length + i) = (t[i]).toNat := by
  unfold byteAt
  simp [hi]
theorem next_one (hb : ∀ b ∈ t, b ≠ 92 ∧ amo b.toNat md = false) (f i cs : Nat) (hi : i < t.length) : nextF ⟨(m ++ t).toArray⟩ (f + 1) (m.length + i) md cs = .ok (⟨1, (t[i]).toNat, m.length + i⟩, m.length + i + 1, md, cs) := by
  have hq := hb t[i] (List.getElem_mem hi)
  have h92 : (t[i]).toNat ≠ 92 := fun e => hq.1 (UInt8.toNat_inj.1 e)
  have ht : tokOf ⟨(m ++ t).toArray⟩ md (m.length + i) = some (⟨1, (t[i]).toNat, m.length + i⟩, m.length + i + 1) := by
    unfold tokOf
    rw [if_pos (by rw [size_list, List.length_append]; omega), byte_at i hi, if_neg h92, hq.2]
    rfl
  rw [nextF, ht]
  rfl
theorem next_fin (f cs : Nat) : nextF ⟨(m ++ t).toArray⟩ (f + 1) (m.length + t.length) md cs = .ok (⟨0, 0, m.length + t.length⟩, m.length + t.length, md, cs) := by
  have ht : tokOf ⟨(m ++ t).toArray⟩ md (m.length + t.length) = some (⟨0, 0, m.length + t.length⟩, m.length + t.length) := by
    unfold tokOf
    rw [if_neg (by rw [size_list, List.length_append]; omega)]
  rw [nextF, ht]
  rfl
theorem br_plain (hb : ∀ b ∈ t, b ≠ 92 ∧ amo b.toNat md = false) (G : Tok → RS → Except (Nat × Nat) (Nat × RS)) (last : ByteArray) : ∀ (j i f : Nat) (r : RS), i + j = t.length → j < f → r.k = m.length + i → r.md = md → r.nds = bytesN (t.take i) →
    brF (pieceF G ⟨(m ++ t).toArray⟩ last) ⟨(m ++ t).toArray⟩ f r (List.range i) = .ok (tilR t, ⟨0, 0, m.length + t.length⟩, { r with k := m.length + t.length, nds := tilN t }) := by
  intro j
  induction j with
  | zero =>
    intro i f r hi hf hk hm hn
    obtain ⟨f, rfl⟩ : ∃ f', f = f' + 1 := ⟨f - 1, by omega⟩
    obtain rfl : i = t.length := by omega
    rw [brF, hk, hm, next_fin]
    simp only
    rw [if_pos (by rfl)]
    rw [List.take_length] at hn
    have := join_til t { r with k := m.length + t.length, md := md } hn
    obtain ⟨rk, rmd, rcs, rg, rcl, rn⟩ := r
    simp only at hm hk hn this ⊢
    subst hm
    rw [this]
  | succ j ih =>
    intro i f r hi hf hk hm hn
    obtain ⟨f, rfl⟩ : ∃ f', f = f' + 1 := ⟨f - 1, by omega⟩
    rw [brF, hk, hm, next_one hb _ i _ (by omega)]
    simp only
    rw [if_neg (by simp [Tok.ends]), if_neg (by simp)]
    have hp : ∀ b q, pieceF G ⟨(m ++ t).toArray⟩ last ⟨1, (t[i]'(by omega)).toNat, m.length + i⟩ b q = .ok (addN { op := 2, c := (t[i]'(by omega)).toNat } q) := fun b q => rfl
    rw [hp]
    obtain ⟨rk, rmd, rcs, rg, rcl, rn⟩ := r
    simp only at hm hk hn ⊢
    subst hm hk hn
    simp only [addN]
    have e1 : (bytesN (t.take i)).length = i := by simp [bytesN]; omega
    rw [e1, ← List.range_succ]
    rw [ih (i + 1) f _ (by omega) (by omega) (by simp only; omega) rfl (by simp only; rw [List.take_succ_eq_append_getElem (by omega)]; unfold bytesN; rw [List.map_append]; rfl)]
theorem next_start (h : Md m md) (f cs : Nat) (hf : 1 ≤ f) : ∀ R, nextF ⟨(m ++ t).toArray⟩ f m.length md cs = R → nextF ⟨(m ++ t).toArray⟩ (f + 1) m.length md cs = R → nextF ⟨(m ++ t).toArray⟩ (f + 1) 0 mdM cs = R := by
  intro R h1 h2
  rcases h with ⟨rfl, rfl⟩ | ⟨rfl, rfl⟩ | ⟨rfl, rfl⟩ | ⟨rfl, rfl⟩ | ⟨rfl, rfl⟩
  · exact h2
  all_goals
    rw [← h1, nextF]
    unfold tokOf
    rw [if_pos (by rw [size_list]; simp), if_pos (by rfl), if_pos (by rw [size_list]; simp)]
    rfl
theorem plain_read3 (h : Md m md) (hb : ∀ b ∈ t, b ≠ 92 ∧ amo b.toNat md = false) (hl : t.length ≤ 290) : see (parF ⟨(m ++ t).toArray⟩ ⟨#[]⟩) = .ok (tilR t, 0, 0, tilN t) := by
  have hml : m.length ≤ 2 := by rcases h with ⟨rfl, _⟩ | ⟨rfl, _⟩ | ⟨rfl, _⟩ | ⟨rfl, _⟩ | ⟨rfl, _⟩ <;> simp
  have hsz : (⟨(m ++ t).toArray⟩ : ByteArray).size = m.length + t.length := by rw [size_list, List.length_append]
  have hbr : ∀ G, brF (pieceF G ⟨(m ++ t).toArray⟩ ⟨#[]⟩) ⟨(m ++ t).toArray⟩ (m.length + t.length + 1) rs0 [] = .ok (tilR t, ⟨0, 0, m.length + t.length⟩, { rs0 with k := m.length + t.length, md := md, nds := tilN t }) := fun G => by
    have q := br_plain (m := m) hb G ⟨#[]⟩ t.length 0 (m.length + t.length + 1) { rs0 with k := m.length, md := md } (by omega) (by omega) rfl rfl rfl
    rw [← q]
    rw [brF, brF]
    have e : nextF ⟨(m ++ t).toArray⟩ ((⟨(m ++ t).toArray⟩ : ByteArray).size + 1) 0 mdM 0 = nextF ⟨(m ++ t).toArray⟩ ((⟨(m ++ t).toArray⟩ : ByteArray).size + 1) m.length md 0 := by
      by_cases h0 : m.length + t.length = 0
      · obtain rfl : m = [] := List.eq_nil_of_length_eq_zero (by omega)
        rcases h with ⟨_, rfl⟩ | ⟨h, _⟩ | ⟨h, _⟩ | ⟨h, _⟩ | ⟨h, _⟩
        · rfl
        all_goals cases h
      obtain ⟨z, hz⟩ : ∃ z, m.length + t.length = z + 1 := ⟨m.length + t.length - 1, by omega⟩
      rw [hsz, hz]
      refine next_start h (z + 1) 0 (by omega) _ ?_ rfl
      by_cases ht : t.length = 0
      · have e1 := fun f => next_fin (m := m) (t := t) (md := md) f 0
        rw [ht, Nat.add_zero] at e1
        rw [e1, e1]
      · have e1 := fun f => next_one (m := m) hb f 0 0 (by omega)
        rw [Nat.add_zero] at e1
        rw [e1, e1]
    have e' : nextF ⟨(m ++ t).toArray⟩ ((⟨(m ++ t).toArray⟩ : ByteArray).size + 1) rs0.k rs0.md rs0.cs = nextF ⟨(m ++ t).toArray⟩ ((⟨(m ++ t).toArray⟩ : ByteArray).size + 1) m.length md 0 := e
    rw [e']
    rfl
  have hlen : (tilN t).length ≤ 301 := by
    unfold tilN
    split
    · simp
    · split
      · simp [bytesN]; omega
      · simp [bytesN]; omega
  unfold parF patF
  have e1 : (⟨#[]⟩ : ByteArray).size = 0 := rfl
  rw [if_neg (by rw [hsz, e1]; omega), brsF, hsz]
  rw [brsL, hbr]
  simp only [joinF, List.nil_append]
  rw [if_neg (by decide)]
  simp only
  rw [if_neg (by decide), if_neg (by show ¬ 400 < (tilN t).length; omega)]
  rfl
theorem plain_read (h : Md m md) (hb : ∀ b ∈ t, b ≠ 92 ∧ amo b.toNat md = false) (hl : t.length ≤ 100) : see (parF ⟨(m ++ t).toArray⟩ ⟨#[]⟩) = .ok (tilR t, 0, 0, tilN t) := plain_read3 h hb (by omega)
end
end Go.Proofs.YtlgemficalcghaaGreat
/- ProgParts: the code of letters, and whether a text is of letters alone. -/
namespace Go.Proofs.YtlgemficalcghaaGreat
open Go.ChangeShapes Go.WideShapes Go.ChangeAt Go.RowKit
set_option linter.unusedVariables false
set_option linter.unusedSimpArgs false
def insC (b : UInt8) : Ins := { op := 1, c := b.toNat }
def codL (l : List UInt8) : List Ins := l.map insC ++ [{ op := 14 }]
def lowB (c : Nat) : Bool := decide (97 ≤ c ∧ c ≤ 122)
def lowL (l : List UInt8) : Bool := l.all fun b => lowB b.toNat
theorem low_amo : ∀ n : Fin 256, lowB n.val = true → n.val ≠ 92 ∧ amo n.val mdM = false := by decide +kernel
theorem mapT_all {f : Int → Option PT} {h : Int → PT} : ∀ (ks : List Int), (∀ k ∈ ks, f k = some (h k)) → mapT f ks = some (ks.map h)
  | [], _ => rfl
  | k :: ks, q => by
    rw [mapT, q k (by simp), mapT_all ks (fun x hx => q x (by simp [hx]))]
    rfl
theorem til_leaf {l : List UInt8} {i : Nat} (hi : i < l.length) (n : Nat) : toT ((tilN l).map Nd.q) (n + 1) (i : Int) = some (.leaf (insC l[i])) := by
  have hlen := til_len l
  have hh : hasB ((tilN l).map Nd.q) (i : Int) = true := decide_eq_true ⟨by omega, by rw [List.length_map, hlen]; split <;> omega⟩
  have hnode : nodeAt ((tilN l).map Nd.q) (i : Int) = { op := 2, c := (l[i]).toNat } := by
    unfold nodeAt
    rw [Int.toNat_natCast, List.getElem?_map, til_byte hi]; rfl
  rw [toT, if_pos hh]
  simp only [hnode]
  rfl
theorem seq_leaf (l : List UInt8) (p r : Nat) : (seqOf (l.map fun b => .leaf (insC b))).code p r = l.map insC ∧ (seqOf (l.map fun b => PT.leaf (insC b))).len = l.length ∧ (seqOf (l.map fun b => PT.leaf (insC b))).rnd = 0 ∧ (seqOf (l.map fun b => PT.leaf (insC b))).size ≤ 2 * l.length + 1 := by
  induction l generalizing p r with
  | nil => simp [seqOf, PT.code, PT.len, PT.rnd, PT.size]
  | cons b l ih =>
    obtain ⟨h1, h2, h3, h4⟩ := ih (p + 1) (r + 0)
    simp only [List.map_cons, seqOf, PT.code, PT.len, PT.rnd, PT.size, h1, h2, h3, List.length_cons]
    exact ⟨by simp, by omega, by simp, by omega⟩
theorem til_tree (l : List UInt8) : ∃ t, toT ((tilN l).map Nd.q) 100 (tilR l : Nat) = some t ∧ t.code 0 0 = l.map insC ∧ t.len = l.length ∧ t.rnd = 0 ∧ t.size ≤ 2 * l.length + 1 := by
  by_cases h0 : l.length = 0
  · have : l = [] := List.eq_nil_of_length_eq_zero h0
    subst this
    exact ⟨.empty, rfl, rfl, rfl, rfl, by simp [PT.size]⟩
  by_cases h1 : l.length = 1
  · have e4 : tilR l = 0 := by unfold tilR; rw [if_pos (by omega)]
    obtain ⟨b, rfl⟩ := List.length_eq_one_iff.1 h1
    exact ⟨.leaf (insC b), by rw [e4]; exact til_leaf (l := [b]) (i := 0) (by simp) 99, rfl, rfl, rfl, by simp [PT.size]⟩
  have e4 : tilR l = l.length := by unfold tilR; rw [if_neg (by omega)]
  have hlen := til_len l
  rw [if_neg (by omega)] at hlen
  have hroot : nodeAt ((tilN l).map Nd.q) (l.length : Int) = { op := 5, kids := (List.range l.length).map fun (n : Nat) => (n : Int) } := by
    unfold nodeAt
    rw [Int.toNat_natCast, List.getElem?_map, til_root (by omega)]; rfl
  have hh : hasB ((tilN l).map Nd.q) (l.length : Int) = true := decide_eq_true ⟨by omega, by rw [List.length_map, hlen]; omega⟩
  have hm : mapT (toT ((tilN l).map Nd.q) 99) ((List.range l.length).map fun (n : Nat) => (n : Int)) = some (l.map fun b => .leaf (insC b)) := by
    rw [mapT_all (h := fun k => .leaf (insC (l.getD k.toNat 0))) _ (fun k hk => ?_)]
    · congr 1
      apply List.ext_getElem
      · simp
      · intro i h1 h2
        simp at h1
        simp [h1]
    · obtain ⟨i, hi, rfl⟩ := List.mem_map.1 hk
      rw [List.mem_range] at hi
      rw [til_leaf hi 98]
      simp [hi]
  obtain ⟨q1, q2, q3, q4⟩ := seq_leaf l 0 0
  refine ⟨_, ?_, q1, q2, q3, q4⟩
  rw [e4, toT, if_pos hh]
  simp only [hroot, hm]
  rw [if_pos True.intro, if_pos (by simp; omega)]
  rfl
theorem progF_code {t : PT} (h : t.len + 1 ≤ 2000) : progF t = some (t.code 0 0 ++ [{ op := 14 }], t.rnd) := by
  unfold progF
  have e : runT t ([], 0) = some (t.code 0 0, t.rnd) := by
    unfold runT
    rw [if_pos (by simp; omega)]
    simp
  rw [e, Option.bind_some]
  unfold runI
  rw [if_pos (by simp [PT.code_len]; omega)]
theorem parts_seen {l : List UInt8} (hp : lowL l = true) (hl : l.length ≤ 290) : ∃ r, resF l = some r ∧ okR r = true ∧ r.cs = 0 ∧ progF r.t = some (codL l, 0) := by
  have hb : ∀ b ∈ l, b ≠ 92 ∧ amo b.toNat mdM = false := by
    intro b hb
    unfold lowL at hp
    rw [List.all_eq_true] at hp
    have q := low_amo ⟨b.toNat, UInt8.toNat_lt b⟩ (hp b hb)
    exact ⟨fun e => q.1 (by rw [e]; rfl), q.2⟩
  have hr := plain_read3 (m := []) (t := l) (md := mdM) (.inl ⟨rfl, rfl⟩) hb hl
  rw [List.nil_append] at hr
  obtain ⟨t, h1, h2, h3, h4, h5⟩ := til_tree l
  refine ⟨⟨tilR l, 0, 0, tilN l, t⟩, by unfold resF; rw [hr]; simp only [h1]; rfl, ?_, rfl, ?_⟩
  · have hlen := til_len l
    have hk : (tilN l).all (fun d => decide (d.kids.length ≤ 400)) = true := by
      rw [List.all_eq_true]
      intro d hd
      have := (til_op l d.q (List.mem_map.2 ⟨d, hd, rfl⟩)).2
      simp only [Nd.q, List.length_map] at this
      exact decide_eq_true (by omega)
    simp only [okR, Bool.and_eq_true, decide_eq_true_eq]
    refine ⟨⟨⟨til_sound (by omega), ?_⟩, hk⟩, by omega⟩
    rw [hlen]
    split <;> omega
  · show progF t = _
    rw [progF_code (by omega), h2, h4]
    rfl
section
variable {w w1 : World}
set_option maxHeartbeats 4000000 in
set_option maxRecDepth 100000 in
theorem qplain_any (s : ByteArray) (w : World) (hs : s.size ≤ 400) : Calls Tryz.prog 12 #[.string s] w fun e w' => e = .returned (.bool (lowL s.data.toList)) ∧ w' = w := by
  obtain ⟨X, hX⟩ : ∃ X, (s.data.toList.all fun b => lowB b.toNat) = X := ⟨_, rfl⟩
  obtain ⟨n, hn⟩ : ∃ n, s.size = n := ⟨_, rfl⟩
  unfold lowL
  rw [hX]
  have HX : Hid ((s.data.toList.all fun b => lowB b.toNat) = X ∧ s.size = n ∧ s.data.toList.length = n) := ⟨hX, hn, by rw [Array.length_toList]; exact hn⟩
  clear hX
  go_enter Tryz.func12, Tryz.ntmps12
  go_wp2_with fail
  go_loopw [3] (fun v2 wr => ∃ i : Nat, i ≤ n ∧ v2 = .int .i64 i ∧ ((s.data.toList.drop i).all fun b => lowB b.toNat) = X ∧ wr = w) (fun v2 _ => n - (intOf v2).toNat)
  case atStart => exact ⟨0, Nat.zero_le _, rfl, HX.out.1, rfl⟩
  case round =>
    obtain ⟨i, hi, rfl, hd, rfl⟩ := hrel
    by_cases hlt : i < n
    · have dl : decide ((i : Int) < (n : Int)) = true := decide_eq_true (by omega)
      have hil : i < s.size := by rw [hn]; exact hlt
      have hil2 : i < s.data.toList.length := by rw [HX.out.2.2]; exact hlt
      obtain ⟨c, hc⟩ : ∃ c, s[i]'hil = c := ⟨_, rfl⟩
      have hc2 : s.data.toList[i]'hil2 = c := by rw [← hc]; rfl
      have HD : Hid ((lowB c.toNat && ((s.data.toList.drop (i + 1)).all fun b => lowB b.toNat)) = X) := by
        show _ = X
        rw [← hd, List.drop_eq_getElem_cons hil2, List.all_cons, hc2]
      clear hd hc2 hil2
      cases hp : lowB c.toNat
      · have hX : X = false := by rw [← HD.out, hp]; rfl
        subst hX
        have HP : Hid (lowB c.toNat = false) := hp
        clear hp HD HX
        go_wp2_with fail
        all_goals first
          | (go_ret; exact ⟨rfl, rfl⟩)
          | (exfalso
             have hq := HP.out
             unfold lowB at hq
             simp at hq
             simp_all
             try omega)
      · have HP : Hid (lowB c.toNat = true ∧ ((s.data.toList.drop (i + 1)).all fun b => lowB b.toNat) = X) := ⟨hp, by rw [← HD.out, hp]; rfl⟩
        clear hp HD
        go_wp2_with fail
        all_goals first
          | exact ⟨⟨i + 1, by omega, by go_num, HP.out.2, trivial⟩, by simp [intOf]; omega⟩
          | (exfalso
             have hq := HP.out.1
             unfold lowB at hq
             simp at hq
             simp_all
             try omega)
    · obtain rfl : i = n := by omega
      have dl : decide ((i : Int) < (i : Int)) = false := by simp
      have hX : X = true := by rw [← hd, List.drop_eq_nil_of_le (by rw [HX.out.2.2]; omega)]; rfl
      subst hX
      clear hd
      go_wp2_with fail
      go_ret
      exact ⟨rfl, rfl⟩
end
end Go.Proofs.YtlgemficalcghaaGreat
/- ProgAlt: the walk. -/
namespace Go.Proofs.YtlgemficalcghaaGreat
open Go.ChangeShapes Go.WideShapes Go.ChangeAt Go.RowKit
set_option linter.unusedVariables false
set_option linter.unusedSimpArgs false
theorem sA_len (i : Nat) : (sA i).length ≤ 3 * i := by
  induction i with
  | zero => simp [sA]
  | succ i ih =>
    simp only [sA]
    split
    · simp; omega
    · simp; omega
section
variable {w w1 : World}
theorem byte_str (w : World) (n : Int) (c : UInt8) (h : n = (c.toNat : Int)) : (convert 22 9 (.slice (some ⟨w.heap.size, 0, none⟩) 1 1)).run Tryz.prog (w.alloc (.cells #[.int .u8 n] 5)) = .ok (str [c]) (w.alloc (.cells #[.int .u8 n] 5)) :=
  run_convert_bytes_back (P := Tryz.prog) _ 22 9 5 ⟨w.heap.size, 0, none⟩ 1 [c] Tryz.underlying22 Tryz.underlying5 Tryz.underlying9 (fun j hj => by
    have hj0 : j = 0 := by simpa using hj
    subst hj0
    rw [Addr.add_lit, cell_at (alloc_new w _)]
    show some (Value.int .u8 n) = some (Value.int .u8 (c.toNat : Int))
    rw [h])
theorem Cd.cell8 {b o cap n : Nat} {C : List Ins} (h : Cd w (.slice (some ⟨b, o, none⟩) n cap) C) {i : Nat} {d : Ins} (hi : C[i]? = some d) (j : Nat) (u : Value) (hj : d.cells[j]? = some u) : w.cell? ⟨b, o + i * 8 + j, none⟩ = some u := by
  obtain ⟨b', o', e, q⟩ := h.at_ hi
  injection e with e
  injection e with e1 e2
  subst e1 e2
  exact q j u hj
/-- What is known of the code of so many branches. -/
structure AltF (M : Nat) (C : List Ins) : Prop where
  len : C.length = 3 * M - 1
  sp : ∀ i, i < M - 1 → C[3 * i]? = some (splitI false (3 * i) (3 * i + 3))
  by_ : ∀ i, i < M - 1 → ∃ d, C[3 * i + 1]? = some d ∧ d.c = 97 + i
  jp : ∀ i, i < M - 1 → C[3 * i + 2]? = some (jumpI (3 * M - 2))
  la : ∃ d, C[3 * M - 3]? = some d ∧ d.c = 97 + (M - 1)
theorem altC_f {M : Nat} {C : List Ins} (h : altC M C = true) : AltF M C := by
  simp only [altC, Bool.and_eq_true, decide_eq_true_eq, List.all_eq_true, List.mem_range] at h
  obtain ⟨⟨h1, h2⟩, h3⟩ := h
  refine ⟨h1, fun i hi => (h2 i hi).1.1, fun i hi => ?_, fun i hi => (h2 i hi).2, ?_⟩
  · obtain ⟨d, q1, q2⟩ := Option.map_eq_some_iff.1 (h2 i hi).1.2
    exact ⟨d, q1, q2⟩
  · obtain ⟨d, q1, q2⟩ := Option.map_eq_some_iff.1 h3
    exact ⟨d, q1, q2⟩
set_option maxHeartbeats 4000000 in
set_option maxRecDepth 100000 in
theorem alt_law (n : Nat) (hn : n < 256) (g : Gm w) : Calls Tryz.prog 3 #[.int .u8 n] w fun e w' => e = .returned (.bool true) ∧ Kp w w' := by
  obtain ⟨m, hm⟩ : ∃ m, n % 20 = m := ⟨_, rfl⟩
  have e1 : (n : Int) % 20 = (m : Int) := by omega
  obtain ⟨M, hM⟩ : ∃ M, m + 1 = M := ⟨_, rfl⟩
  have e2 : 1 + (m : Int) = (M : Int) := by omega
  have hM20 : 1 ≤ M ∧ M ≤ 20 := by omega
  have hch := chAlt_all ⟨m, by omega⟩
  simp only [hM] at hch
  have HG : Hid (Gm w ∧ chAlt M = true) := ⟨g, hch⟩
  clear g hm hM hch
  go_enter Tryz.func3, Tryz.ntmps3
  go_wp2_with fail
  go_loopw [4, 5] (fun v4 v5 wr => ∃ i : Nat, i ≤ M ∧ v5 = .int .i64 i ∧ v4 = str (sA i) ∧ Hid (Kp w wr)) (fun _ v5 _ => M - (intOf v5).toNat)
  case atStart => exact ⟨0, Nat.zero_le _, rfl, rfl, Below.refl _ _⟩
  case round =>
    obtain ⟨i, hi, rfl, rfl, HK⟩ := hrel
    by_cases hlt : i < M
    · have dl : decide ((i : Int) < (M : Int)) = true := decide_eq_true (by omega)
      obtain ⟨c, hc⟩ : ∃ c, (97 + i).toUInt8 = c := ⟨_, rfl⟩
      have ec : 97 + (i : Int) = (c.toNat : Int) := by rw [← hc]; simp [Nat.toUInt8]; omega
      have hl := sA_len i
      have hcv := fun W => byte_str W (97 + (i : Int)) c ec
      have HL : Hid ((sA (i + 1)).length ≤ 1000) := by have := sA_len (i + 1); show _ ≤ _; omega
      by_cases h0 : 0 < i
      · have d0 : decide ((0 : Int) < (i : Int)) = true := decide_eq_true (by omega)
        obtain ⟨y, hy⟩ : ∃ y, sA i ++ [92, 124] = y := ⟨_, rfl⟩
        have hA1 := cat_run hy (by rw [← hy]; simp; omega)
        obtain ⟨z, hz⟩ : ∃ z, sA (i + 1) = z := ⟨_, rfl⟩
        have hA2 := cat_run (show y ++ [c] = z from by rw [← hy, ← hz, ← hc]; simp [sA, h0]) (by rw [← hz]; have := HL.out; omega)
        have HZ : Hid (sA (i + 1) = z) := hz
        clear hy hz hc ec hl
        go_wp2_with fail
        go_roundw
        case rel => exact ⟨i + 1, by omega, by go_num, by rw [HZ.out], kp_trans HK.out (kp_alloc _ _)⟩
        case measure => simp only [intOf]; omega
      · have hi0 : i = 0 := by omega
        subst hi0
        have hA2 := cat_run (show ([] : List UInt8) ++ [c] = [c] from rfl) (by simp)
        have HZ : Hid (sA (0 + 1) = [c]) := by rw [← hc]; rfl
        have hs0 : sA 0 = [] := rfl
        rw [hs0]
        clear hc ec hl
        simp only [Int.natCast_zero, Int.add_zero] at hcv dl ⊢
        go_wp2_with fail
        go_roundw
        case rel => exact ⟨0 + 1, by omega, by go_num, by rw [HZ.out], kp_trans HK.out (kp_alloc _ _)⟩
        case measure => simp only [intOf]; omega
    · have hiM : i = M := by omega
      subst hiM
      have dl : decide ((i : Int) < (i : Int)) = false := by simp
      have hch := HG.out.2
      unfold chAlt at hch
      cases hr : resF (sA i) with
      | none => rw [hr] at hch; cases hch
      | some r =>
        rw [hr] at hch
        simp only [Bool.and_eq_true, beq_iff_eq] at hch
        obtain ⟨⟨ho, hcs⟩, hpx⟩ := hch
        cases hp : progF r.t with
        | none => rw [hp] at hpx; cases hpx
        | some x =>
          rw [hp] at hpx
          simp only [Bool.and_eq_true, beq_iff_eq] at hpx
          obtain ⟨hx2, hal⟩ := hpx
          obtain ⟨C, rd⟩ := x
          simp only at hx2 hal
          subst hx2
          have HF : Hid (resF (sA i) = some r ∧ okR r = true ∧ progF r.t = some (C, 0) ∧ AltF i C ∧ Kp w wr) := ⟨hr, ho, hp, altC_f hal, HK.out⟩
          clear hr ho hp hal hcs
          go_wp2_with fail
          refine Calls.mono (seen_parse HF.out.1 (HG.out.1.kp HF.out.2.2.2.2)) ?_
          rintro e w1 ⟨va, vc, rfl, q1, q2⟩
          have H1 : Hid (Pt w1 (.slice va r.nds.length vc) (r.nds.map Nd.q) ∧ Kp w w1) := ⟨q1, kp_trans HF.out.2.2.2.2 q2⟩
          clear q1 q2
          go_wp2_with fail
          refine Calls.mono (seen_compile HF.out.1 HF.out.2.1 (H1.out.1.kp (kp_alloc _ _)) false) ?_
          rw [HF.out.2.2.1]
          rintro e w2 ⟨ca, cap, rfl, q1, q2⟩
          have hlen : C.length = 3 * i - 1 := HF.out.2.2.2.1.len
          obtain ⟨N, hN⟩ : ∃ N, C.length = N := ⟨_, rfl⟩
          simp only at q1 ⊢
          rw [hN] at q1
          rw [hN]
          have H2 : Hid (Kp w w2 ∧ Cd w2 (.slice ca N cap) C ∧ C.length = N) := ⟨kp_trans (kp_trans H1.out.2 (kp_alloc _ _)) q2, q1, hN⟩
          obtain ⟨T, hT⟩ : ∃ T : Nat, 3 * i = T := ⟨_, rfl⟩
          have t0 : 3 * (i : Int) = (T : Int) := by omega
          have t1 : (T : Int) - 1 = (N : Int) := by omega
          clear q1 q2 hlen hN hT
          obtain ⟨f, hf⟩ : ∃ f, foldsB r.cs false = f := ⟨_, rfl⟩
          rw [hf]
          clear hf
          go_wp2_with fail
          have HP : Hid (PgBox w2.heap.size (.slice ca N cap) (.int .i64 0) (.bool f) (w2.alloc (.cells #[.slice ca N cap, .int .i64 0, .bool f] 32)) ∧ Cd (w2.alloc (.cells #[.slice ca N cap, .int .i64 0, .bool f] 32)) (.slice ca N cap) C ∧ Kp w (w2.alloc (.cells #[.slice ca N cap, .int .i64 0, .bool f] 32))) := ⟨alloc_new w2 _, H2.out.2.1.kp (kp_alloc _ _), kp_trans H2.out.1 (kp_alloc _ _)⟩
          obtain ⟨pb, hpb⟩ : ∃ pb, w2.heap.size = pb := ⟨_, rfl⟩
          rw [hpb] at HP ⊢
          clear hpb
          generalize (w2.alloc (.cells #[.slice ca N cap, .int .i64 0, .bool f] 32)) = wp at HP ⊢
          obtain ⟨dl0, hla, hlc⟩ := HF.out.2.2.2.1.la
          obtain ⟨b, o, rfl, hcl⟩ := HP.out.2.1.at_ hla
          obtain ⟨T3, hT3⟩ : ∃ T3 : Nat, 3 * i - 3 = T3 := ⟨_, rfl⟩
          obtain ⟨T2, hT2⟩ : ∃ T2 : Nat, 3 * i - 2 = T2 := ⟨_, rfl⟩
          obtain ⟨Mm, hMm⟩ : ∃ Mm : Nat, i - 1 = Mm := ⟨_, rfl⟩
          have t2 : (T : Int) - 2 = (T2 : Int) := by omega
          have t3 : (T : Int) - 3 = (T3 : Int) := by omega
          have t4 : (i : Int) - 1 = (Mm : Int) := by omega
          have cla : wp.cell? ⟨b, o + T3 * 8 + 1, none⟩ = some (.int .u8 (97 + (Mm : Int))) := by
            have := hcl 1 _ rfl
            rw [hT3, hlc, hMm] at this
            rw [this]; rfl
          have hT3N : T3 < N := by omega
          have hNc := HP.out.2.1.len.2
          unfold maxLen at hNc
          obtain ⟨⟨g0, g1, g2⟩, _⟩ := HP.out.1.cells
          have HMm : Hid (i - 1 = Mm ∧ 3 * i - 2 = T2 ∧ AltF i C) := ⟨hMm, hT2, HF.out.2.2.2.1⟩
          clear hla hlc hcl hT3 hT2 hMm
          go_loopw [11] (fun v11 wr => ∃ j : Nat, j ≤ Mm ∧ v11 = .int .i64 j ∧ wr = wp) (fun v11 _ => Mm - (intOf v11).toNat)
          case atStart => exact ⟨0, Nat.zero_le _, rfl, rfl⟩
          case round =>
            obtain ⟨j, hj, rfl, rfl⟩ := hrel
            by_cases hlj : j < Mm
            · have dj : decide ((j : Int) < (Mm : Int)) = true := decide_eq_true (by omega)
              obtain ⟨k, hk⟩ : ∃ k : Nat, 3 * j = k := ⟨_, rfl⟩
              obtain ⟨k1, hk1⟩ : ∃ k1 : Nat, k + 1 = k1 := ⟨_, rfl⟩
              obtain ⟨k2, hk2⟩ : ∃ k2 : Nat, k + 2 = k2 := ⟨_, rfl⟩
              obtain ⟨k3, hk3⟩ : ∃ k3 : Nat, k + 3 = k3 := ⟨_, rfl⟩
              have s0 : 3 * (j : Int) = (k : Int) := by omega
              have s1 : (k : Int) + 1 = (k1 : Int) := by omega
              have s2 : (k : Int) + 2 = (k2 : Int) := by omega
              have s3 : (k : Int) + 3 = (k3 : Int) := by omega
              have hjm : j < i - 1 := by have := HMm.out.1; omega
              have hb2 : k2 < N := by omega
              have hb1 : k1 < N := by omega
              have hb0 : k < N := by omega
              have hsp := HMm.out.2.2.sp j hjm
              obtain ⟨dby, hby, hbc⟩ := HMm.out.2.2.by_ j hjm
              have hjp := HMm.out.2.2.jp j hjm
              rw [hk] at hsp hby hjp
              rw [hk1] at hby
              rw [hk2, HMm.out.2.1] at hjp
              rw [hk3] at hsp
              have esp : splitI false k k3 = ⟨4, 0, zeroS, (k1 : Int), (k3 : Int)⟩ := by simp only [splitI, Bool.false_eq_true, if_false]; rw [s1]
              have ejp : jumpI T2 = ⟨5, 0, zeroS, (T2 : Int), 0⟩ := rfl
              rw [esp] at hsp
              rw [ejp] at hjp
              have cc := fun q1 q2 q3 q4 => (HP.out.2.1.cell8 (i := q1) (d := q2) q3 q4)
              have a0 := HP.out.2.1.cell8 hsp 0 _ rfl
              have a1 := HP.out.2.1.cell8 hsp 1 _ rfl
              have a2 := HP.out.2.1.cell8 hsp 2 _ rfl
              have a3 := HP.out.2.1.cell8 hsp 3 _ rfl
              have a4 := HP.out.2.1.cell8 hsp 4 _ rfl
              have a5 := HP.out.2.1.cell8 hsp 5 _ rfl
              have a6 := HP.out.2.1.cell8 hsp 6 _ rfl
              have a7 := HP.out.2.1.cell8 hsp 7 _ rfl
              have b1 := HP.out.2.1.cell8 hby 1 _ rfl
              have j0 := HP.out.2.1.cell8 hjp 0 _ rfl
              have j1 := HP.out.2.1.cell8 hjp 1 _ rfl
              have j2 := HP.out.2.1.cell8 hjp 2 _ rfl
              have j3 := HP.out.2.1.cell8 hjp 3 _ rfl
              have j4 := HP.out.2.1.cell8 hjp 4 _ rfl
              have j5 := HP.out.2.1.cell8 hjp 5 _ rfl
              have j6 := HP.out.2.1.cell8 hjp 6 _ rfl
              have j7 := HP.out.2.1.cell8 hjp 7 _ rfl
              rw [hbc] at b1
              simp only [zeroS, Nat.add_zero, Int.natCast_zero, Int.natCast_add, Int.cast_ofNat_Int] at a0 a1 a2 a3 a4 a5 a6 a7 b1 j0 j1 j2 j3 j4 j5 j6 j7
              have heq : ∀ w : World, (Op.equalIn 10000 39 (.agg #[.int .u8 4, .int .u8 0, .int .u64 0, .int .u64 0, .int .u64 0, .int .u64 0, .int .i64 k1, .int .i64 k3]) (.agg #[.int .u8 4, .int .u8 0, .int .u64 0, .int .u64 0, .int .u64 0, .int .u64 0, .int .i64 k1, .int .i64 k3])).run Tryz.prog w = .ok true w := fun w => (eq_inst ⟨4, 0, zeroS, k1, k3⟩ ⟨4, 0, zeroS, k1, k3⟩ w).trans (by simp [insB])
              have heq2 : ∀ w : World, (Op.equalIn 10000 39 (.agg #[.int .u8 5, .int .u8 0, .int .u64 0, .int .u64 0, .int .u64 0, .int .u64 0, .int .i64 T2, .int .i64 0]) (.agg #[.int .u8 5, .int .u8 0, .int .u64 0, .int .u64 0, .int .u64 0, .int .u64 0, .int .i64 T2, .int .i64 0])).run Tryz.prog w = .ok true w := fun w => (eq_inst ⟨5, 0, zeroS, T2, 0⟩ ⟨5, 0, zeroS, T2, 0⟩ w).trans (by simp [insB])
              clear hsp hby hbc hjp esp ejp hk hk1 hk2 hk3 cc
              go_wp2_with fail
              go_roundw
              case rel => exact ⟨j + 1, by omega, by go_num, by simp⟩
              case measure => simp only [intOf]; omega
            · have hjM : j = Mm := by omega
              have dj : decide ((j : Int) < (Mm : Int)) = false := decide_eq_false (by omega)
              clear hjM
              go_wp2_with fail
              refine Calls.mono (qknown_any (HG.out.1.kp HP.out.2.2)) ?_
              rintro e w3 ⟨rfl, q⟩
              have HQ : Hid (Kp w w3) := kp_trans HP.out.2.2 q
              replace g0 := kp_cell q g0
              replace g1 := kp_cell q g1
              replace g2 := kp_cell q g2
              replace cla := kp_cell q cla
              clear q
              go_wp2_with fail
              go_ret
              exact ⟨rfl, HQ.out⟩
end
end Go.Proofs.YtlgemficalcghaaGreat
/- Same of two programs whose code reads alike. -/
namespace Go.Proofs.YtlgemficalcghaaGreat
open Go.ChangeShapes Go.WideShapes Go.ChangeAt Go.RowKit
set_option linter.unusedVariables false
set_option linter.unusedSimpArgs false
theorem insB_self (a : Ins) : insB a a = true := by simp [insB]
section
variable {w w1 : World}
theorem alloc_two (w : World) (x y : Obj) : ((w.alloc x).alloc y).heap[w.heap.size + 1]? = some y := by
  have := alloc_new (w.alloc x) y
  rw [alloc_size] at this
  exact this
set_option maxHeartbeats 4000000 in
set_option maxRecDepth 100000 in
theorem same_eq {a1 a2 : Option Addr} {c1 c2 N : Nat} {C : List Ins} (h1 : Cd w (.slice a1 N c1) C) (h2 : Cd w (.slice a2 N c2) C) (hN : 1 ≤ N) (f : Bool) :
    Calls Tryz.prog 13 #[.agg #[.slice a1 N c1, .int .i64 0, .bool f], .agg #[.slice a2 N c2, .int .i64 0, .bool f]] w fun e w' => e = .returned (.bool true) ∧ Kp w w' := by
  obtain ⟨hl1, hc1, hm1⟩ := h1.len
  obtain ⟨hl2, hc2, hm2⟩ := h2.len
  unfold maxLen at hm1 hm2
  obtain ⟨b1, o1, rfl, r1⟩ := h1.at_ (List.getElem?_eq_getElem (show 0 < C.length by omega))
  obtain ⟨b2, o2, rfl, r2⟩ := h2.at_ (List.getElem?_eq_getElem (show 0 < C.length by omega))
  have HC : Hid (Cd w (.slice (some ⟨b1, o1, none⟩) N c1) C ∧ Cd w (.slice (some ⟨b2, o2, none⟩) N c2) C ∧ C.length = N) := ⟨h1, h2, hl1.symm⟩
  clear r1 r2 h1 h2 hl1 hl2
  go_enter Tryz.func13, Tryz.ntmps13
  go_wp2_with fail
  have HP : Hid (PgBox w.heap.size (.slice (some ⟨b1, o1, none⟩) N c1) (.int .i64 0) (.bool f) ((w.alloc (.cells #[.slice (some ⟨b1, o1, none⟩) N c1, .int .i64 0, .bool f] 32)).alloc (.cells #[.slice (some ⟨b2, o2, none⟩) N c2, .int .i64 0, .bool f] 32)) ∧
      PgBox (w.heap.size + 1) (.slice (some ⟨b2, o2, none⟩) N c2) (.int .i64 0) (.bool f) ((w.alloc (.cells #[.slice (some ⟨b1, o1, none⟩) N c1, .int .i64 0, .bool f] 32)).alloc (.cells #[.slice (some ⟨b2, o2, none⟩) N c2, .int .i64 0, .bool f] 32)) ∧
      Kp w ((w.alloc (.cells #[.slice (some ⟨b1, o1, none⟩) N c1, .int .i64 0, .bool f] 32)).alloc (.cells #[.slice (some ⟨b2, o2, none⟩) N c2, .int .i64 0, .bool f] 32))) :=
    ⟨(show PgBox _ _ _ _ _ from alloc_new w _).fr (S := fun _ => False) (Fr.of_below (kp_alloc _ _)) (fun z => z), alloc_two w _ _, kp_trans (kp_alloc _ _) (kp_alloc _ _)⟩
  obtain ⟨x1, hx1⟩ : ∃ x, w.heap.size = x := ⟨_, rfl⟩
  rw [hx1] at HP ⊢
  clear hx1
  generalize ((w.alloc (.cells #[.slice (some ⟨b1, o1, none⟩) N c1, .int .i64 0, .bool f] 32)).alloc (.cells #[.slice (some ⟨b2, o2, none⟩) N c2, .int .i64 0, .bool f] 32)) = wp at HP ⊢
  obtain ⟨⟨g0, g1, g2⟩, _⟩ := HP.out.1.cells
  obtain ⟨⟨k0, k1, k2⟩, _⟩ := HP.out.2.1.cells
  go_loopw [5] (fun v5 wr => ∃ j : Nat, j ≤ N ∧ v5 = .int .i64 j ∧ Hid (Kp wp wr)) (fun v5 _ => N - (intOf v5).toNat)
  case atStart => exact ⟨0, Nat.zero_le _, rfl, Below.refl _ _⟩
  case round =>
    obtain ⟨j, hj, rfl, HK⟩ := hrel
    replace g0 := kp_cell HK.out g0
    replace k0 := kp_cell HK.out k0
    clear g1 g2 k1 k2
    by_cases hlj : j < N
    · have dj : decide ((j : Int) < (N : Int)) = true := decide_eq_true (by omega)
      obtain ⟨d, hd⟩ : ∃ d, C[j]? = some d := ⟨_, List.getElem?_eq_getElem (by rw [HC.out.2.2]; exact hlj)⟩
      have q1 := HC.out.1.kp (kp_trans HP.out.2.2 HK.out)
      have q2 := HC.out.2.1.kp (kp_trans HP.out.2.2 HK.out)
      obtain ⟨op, c, ⟨sa, sb, sc, sd⟩, x, y⟩ := d
      have a0 := q1.cell8 hd 0 _ rfl
      have a1 := q1.cell8 hd 1 _ rfl
      have a2 := q1.cell8 hd 2 _ rfl
      have a3 := q1.cell8 hd 3 _ rfl
      have a4 := q1.cell8 hd 4 _ rfl
      have a5 := q1.cell8 hd 5 _ rfl
      have a6 := q1.cell8 hd 6 _ rfl
      have a7 := q1.cell8 hd 7 _ rfl
      have j0 := q2.cell8 hd 0 _ rfl
      have j1 := q2.cell8 hd 1 _ rfl
      have j2 := q2.cell8 hd 2 _ rfl
      have j3 := q2.cell8 hd 3 _ rfl
      have j4 := q2.cell8 hd 4 _ rfl
      have j5 := q2.cell8 hd 5 _ rfl
      have j6 := q2.cell8 hd 6 _ rfl
      have j7 := q2.cell8 hd 7 _ rfl
      simp only [Nat.add_zero] at a0 j0
      have heq : ∀ w : World, (Op.equalIn 10000 39 (.agg #[.int .u8 op, .int .u8 c, .int .u64 sa, .int .u64 sb, .int .u64 sc, .int .u64 sd, .int .i64 x, .int .i64 y]) (.agg #[.int .u8 op, .int .u8 c, .int .u64 sa, .int .u64 sb, .int .u64 sc, .int .u64 sd, .int .i64 x, .int .i64 y])).run Tryz.prog w = .ok true w := fun w => (eq_inst ⟨op, c, ⟨sa, sb, sc, sd⟩, x, y⟩ ⟨op, c, ⟨sa, sb, sc, sd⟩, x, y⟩ w).trans (by rw [insB_self])
      clear hd q1 q2
      go_wp2_with fail
      go_region
      go_wp2_with fail
      go_roundw
      case rel => exact ⟨j + 1, by omega, by go_num, kp_trans HK.out (kp_drew _)⟩
      case measure => simp only [intOf]; omega
    · have dj : decide ((j : Int) < (N : Int)) = false := decide_eq_false (by omega)
      go_wp2_with fail
      go_ret
      exact ⟨rfl, kp_trans HP.out.2.2 HK.out⟩
end
end Go.Proofs.YtlgemficalcghaaGreat
/- ProgParts: the walk. -/
namespace Go.Proofs.YtlgemficalcghaaGreat
open Go.ChangeShapes Go.WideShapes Go.ChangeAt Go.RowKit
set_option linter.unusedVariables false
set_option linter.unusedSimpArgs false
section
variable {w w1 : World}
theorem below_grown {B : Nat} {w w1 w2 : World} {row : Option Nat} (h : Below B w w1) (hB : B ≤ w1.heap.size) (hg : w1.grownBy w2 row) (hr : ∀ k, row = some k → B ≤ k) : Below B w w2 :=
  h.trans ⟨hg.os, hg.tape, hg.output, hg.size, fun k hk => hg.block k (by omega) (fun e => by have := hr k e.symm; omega)⟩
theorem flatI_one (C : List Ins) : ∀ u ∈ flatI C, u.oneCell' = true := by
  intro u hu
  unfold flatI at hu
  obtain ⟨d, _, hd⟩ := List.mem_flatMap.1 hu
  simp only [Ins.cells, List.mem_cons, List.not_mem_nil, or_false] at hd
  rcases hd with rfl | rfl | rfl | rfl | rfl | rfl | rfl | rfl <;> rfl
/-- The cells of the first instructions. -/
theorem cd_flat {b o N cap : Nat} {C : List Ins} (h : Cd w (.slice (some ⟨b, o, none⟩) N cap) C) (k : Nat) : ∀ j u, (flatI (C.take k))[j]? = some u → w.cell? ((⟨b, o, none⟩ : Addr).add j) = some u := by
  intro j u hj
  have hl := (List.getElem?_eq_some_iff.1 hj).1
  rw [flatI_len] at hl
  have hi : j / 8 < (C.take k).length := by omega
  obtain ⟨d, hd⟩ : ∃ d, (C.take k)[j / 8]? = some d := ⟨_, List.getElem?_eq_getElem hi⟩
  have hq := flatI_get hd (j % 8) (by omega)
  rw [show j / 8 * 8 + j % 8 = j by omega, hj] at hq
  have hd' : C[j / 8]? = some d := by
    rw [List.getElem?_take] at hd
    split at hd
    · exact hd
    · cases hd
  have := h.cell8 hd' (j % 8) u hq.symm
  rw [show o + j / 8 * 8 + j % 8 = o + j by omega] at this
  rw [Addr.add_lit]
  exact this
theorem pat_box (w : World) (a b c d : Value) : ((w.alloc (.cells #[a, b, c, d] 25)).cell? ⟨w.heap.size, 0, none⟩ = some a ∧ (w.alloc (.cells #[a, b, c, d] 25)).cell? ⟨w.heap.size, 1, none⟩ = some b) ∧ ((w.alloc (.cells #[a, b, c, d] 25)).cell? ⟨w.heap.size, 2, none⟩ = some c ∧ (w.alloc (.cells #[a, b, c, d] 25)).cell? ⟨w.heap.size, 3, none⟩ = some d) ∧ Kp w (w.alloc (.cells #[a, b, c, d] 25)) :=
  ⟨⟨by rw [cell_at (alloc_new w _)]; rfl, by rw [cell_at (alloc_new w _)]; rfl⟩, ⟨by rw [cell_at (alloc_new w _)]; rfl, by rw [cell_at (alloc_new w _)]; rfl⟩, kp_alloc _ _⟩
theorem prog_box (w : World) (a b c : Value) : ((w.alloc (.cells #[a, b, c] 32)).cell? ⟨w.heap.size, 0, none⟩ = some a ∧ (w.alloc (.cells #[a, b, c] 32)).cell? ⟨w.heap.size, 1, none⟩ = some b ∧ (w.alloc (.cells #[a, b, c] 32)).cell? ⟨w.heap.size, 2, none⟩ = some c) ∧ Kp w (w.alloc (.cells #[a, b, c] 32)) :=
  ⟨⟨by rw [cell_at (alloc_new w _)]; rfl, by rw [cell_at (alloc_new w _)]; rfl, by rw [cell_at (alloc_new w _)]; rfl⟩, kp_alloc _ _⟩
set_option maxHeartbeats 4000000 in
set_option maxRecDepth 100000 in
theorem parts_law (s t : ByteArray) (g : Gm w) : Calls Tryz.prog 4 #[.string s, .string t] w fun e w' => e = .returned (.bool true) ∧ Kp w w' := by
  obtain ⟨n, hn⟩ : ∃ n, s.size = n := ⟨_, rfl⟩
  obtain ⟨m, hm⟩ : ∃ m, t.size = m := ⟨_, rfl⟩
  have HG : Hid (Gm w) := g
  clear g
  by_cases h1 : 60 < n
  · have d1 : decide ((60 : Int) < (n : Int)) = true := decide_eq_true (by omega)
    go_enter Tryz.func4, Tryz.ntmps4
    go_wp2_with fail
    refine Calls.mono (qknown_any HG.out) ?_
    rintro e w1 ⟨rfl, q⟩
    have HK : Hid (Kp w w1) := q
    clear q
    go_wp2_with fail
    go_ret
    exact ⟨rfl, HK.out⟩
  have d1 : decide ((60 : Int) < (n : Int)) = false := decide_eq_false (by omega)
  by_cases h2 : 60 < m
  · have d2 : decide ((60 : Int) < (m : Int)) = true := decide_eq_true (by omega)
    go_enter Tryz.func4, Tryz.ntmps4
    go_wp2_with fail
    refine Calls.mono (qknown_any HG.out) ?_
    rintro e w1 ⟨rfl, q⟩
    have HK : Hid (Kp w w1) := q
    clear q
    go_wp2_with fail
    go_ret
    exact ⟨rfl, HK.out⟩
  have d2 : decide ((60 : Int) < (m : Int)) = false := decide_eq_false (by omega)
  have HS : Hid (s.size ≤ 400 ∧ t.size ≤ 400) := ⟨by omega, by omega⟩
  cases hp : lowL s.data.toList with
  | false =>
    have HP : Hid (lowL s.data.toList = false) := hp
    clear hp
    go_enter Tryz.func4, Tryz.ntmps4
    go_wp2_with fail
    refine Calls.mono (qplain_any s _ HS.out.1) ?_
    rintro e x ⟨rfl, hw⟩
    rw [hw]
    clear hw x
    rw [HP.out]
    go_wp2_with fail
    refine Calls.mono (qknown_any HG.out) ?_
    rintro e w1 ⟨rfl, q⟩
    have HK : Hid (Kp w w1) := q
    clear q
    go_wp2_with fail
    go_ret
    exact ⟨rfl, HK.out⟩
  | true =>
  cases hq : lowL t.data.toList with
  | false =>
    have HP : Hid (lowL s.data.toList = true ∧ lowL t.data.toList = false) := ⟨hp, hq⟩
    clear hp hq
    go_enter Tryz.func4, Tryz.ntmps4
    go_wp2_with fail
    refine Calls.mono (qplain_any s _ HS.out.1) ?_
    rintro e x ⟨rfl, hw⟩
    rw [hw]
    clear hw x
    rw [HP.out.1]
    go_wp2_with fail
    refine Calls.mono (qplain_any t _ HS.out.2) ?_
    rintro e x ⟨rfl, hw⟩
    rw [hw]
    clear hw x
    rw [HP.out.2]
    go_wp2_with fail
    refine Calls.mono (qknown_any HG.out) ?_
    rintro e w1 ⟨rfl, q⟩
    have HK : Hid (Kp w w1) := q
    clear q
    go_wp2_with fail
    go_ret
    exact ⟨rfl, HK.out⟩
  | true =>
  have HP : Hid (lowL s.data.toList = true ∧ lowL t.data.toList = true) := ⟨hp, hq⟩
  have hlu : lowL (s.data.toList ++ t.data.toList) = true := by unfold lowL at hp hq ⊢; rw [List.all_append, hp, hq]; rfl
  have ls : s.data.toList.length = n := by rw [Array.length_toList]; exact hn
  have lt : t.data.toList.length = m := by rw [Array.length_toList]; exact hm
  obtain ⟨r1, a1, a2, a3, a4⟩ := parts_seen hp (by omega)
  obtain ⟨r2, b1, b2, b3, b4⟩ := parts_seen hq (by omega)
  obtain ⟨r3, c1, c2, c3, c4⟩ := parts_seen hlu (by rw [List.length_append]; omega)
  have es : str s.data.toList = .string s := rfl
  have et : str t.data.toList = .string t := rfl
  obtain ⟨u, hu⟩ : ∃ u : ByteArray, (⟨(s.data.toList ++ t.data.toList).toArray⟩ : ByteArray) = u := ⟨_, rfl⟩
  have hcat : ∀ W, (Op.stringOp .add s t).run Tryz.prog W = .ok (.string u) W := fun W => by rw [← hu]; exact cat_run (x := s.data.toList) (y := t.data.toList) rfl (by rw [List.length_append]; omega) W
  obtain ⟨L1, hL1⟩ : ∃ L, s.data.toList = L := ⟨_, rfl⟩
  obtain ⟨L2, hL2⟩ : ∃ L, t.data.toList = L := ⟨_, rfl⟩
  rw [hL1] at a1 a4 es c1 c4 ls hu
  rw [hL2] at b1 b4 et c1 c4 lt hu
  have HF : Hid (str L1 = .string s ∧ str L2 = .string t ∧ str (L1 ++ L2) = .string u) := ⟨es, et, by rw [← hu]⟩
  have H1 : Hid (resF L1 = some r1 ∧ okR r1 = true ∧ progF r1.t = some (codL L1, 0)) := ⟨a1, a2, a4⟩
  have H2 : Hid (resF L2 = some r2 ∧ okR r2 = true ∧ progF r2.t = some (codL L2, 0)) := ⟨b1, b2, b4⟩
  have H3 : Hid (resF (L1 ++ L2) = some r3 ∧ okR r3 = true ∧ progF r3.t = some (codL (L1 ++ L2), 0)) := ⟨c1, c2, c4⟩
  have HZ : Hid (L1.length = n ∧ L2.length = m ∧ r1.cs = 0 ∧ r2.cs = 0 ∧ r3.cs = 0) := ⟨ls, lt, a3, b3, c3⟩
  clear hp hq hlu ls lt a1 a2 a3 a4 b1 b2 b3 b4 c1 c2 c3 c4 es et hu hL1 hL2
  go_enter Tryz.func4, Tryz.ntmps4
  go_wp2_with fail
  refine Calls.mono (qplain_any s _ HS.out.1) ?_
  rintro e x ⟨rfl, hw⟩
  rw [hw]
  clear hw x
  rw [HP.out.1]
  go_wp2_with fail
  refine Calls.mono (qplain_any t _ HS.out.2) ?_
  rintro e x ⟨rfl, hw⟩
  rw [hw]
  clear hw x
  rw [HP.out.2]
  go_wp2_with fail
  refine Calls.mono (qknown_any HG.out) ?_
  rintro e w1 ⟨rfl, q⟩
  have HK : Hid (Kp w w1) := q
  clear q
  go_wp2_with fail
  have P1 := seen_parse H1.out.1 (HG.out.kp HK.out)
  rw [HF.out.1] at P1
  refine Calls.mono P1 ?_
  clear P1
  rintro e w2 ⟨va1, vc1, rfl, q1, q2⟩
  obtain ⟨⟨x10, x11⟩, ⟨x12, x13⟩, xk⟩ := pat_box w2 (.slice va1 r1.nds.length vc1) (.int .i64 r1.i) (.int .i64 r1.gs) (.int .u8 r1.cs)
  have K1 : Hid (Pt (w2.alloc (.cells #[.slice va1 r1.nds.length vc1, .int .i64 r1.i, .int .i64 r1.gs, .int .u8 r1.cs] 25)) (.slice va1 r1.nds.length vc1) (r1.nds.map Nd.q) ∧ Kp w (w2.alloc (.cells #[.slice va1 r1.nds.length vc1, .int .i64 r1.i, .int .i64 r1.gs, .int .u8 r1.cs] 25))) := ⟨q1.kp xk, kp_trans HK.out (kp_trans q2 xk)⟩
  clear q1 q2 xk
  go_wp2_with fail
  obtain ⟨pb1, hpb⟩ : ∃ pb, w2.heap.size = pb := ⟨_, rfl⟩
  rw [hpb] at x10 x11 x12 x13 ⊢
  clear hpb
  generalize (w2.alloc (.cells #[.slice va1 r1.nds.length vc1, .int .i64 r1.i, .int .i64 r1.gs, .int .u8 r1.cs] 25)) = W1 at *
  have P2 := seen_parse H2.out.1 (HG.out.kp K1.out.2)
  rw [HF.out.2.1] at P2
  refine Calls.mono P2 ?_
  clear P2
  rintro e w2 ⟨va2, vc2, rfl, q1, q2⟩
  obtain ⟨⟨x20, x21⟩, ⟨x22, x23⟩, xk⟩ := pat_box w2 (.slice va2 r2.nds.length vc2) (.int .i64 r2.i) (.int .i64 r2.gs) (.int .u8 r2.cs)
  replace x10 := kp_cell (kp_trans q2 xk) x10
  replace x11 := kp_cell (kp_trans q2 xk) x11
  replace x12 := kp_cell (kp_trans q2 xk) x12
  replace x13 := kp_cell (kp_trans q2 xk) x13
  have K2 : Hid (Pt (w2.alloc (.cells #[.slice va2 r2.nds.length vc2, .int .i64 r2.i, .int .i64 r2.gs, .int .u8 r2.cs] 25)) (.slice va2 r2.nds.length vc2) (r2.nds.map Nd.q) ∧ Kp w (w2.alloc (.cells #[.slice va2 r2.nds.length vc2, .int .i64 r2.i, .int .i64 r2.gs, .int .u8 r2.cs] 25)) ∧ Pt (w2.alloc (.cells #[.slice va2 r2.nds.length vc2, .int .i64 r2.i, .int .i64 r2.gs, .int .u8 r2.cs] 25)) (.slice va1 r1.nds.length vc1) (r1.nds.map Nd.q)) := ⟨q1.kp xk, kp_trans K1.out.2 (kp_trans q2 xk), K1.out.1.kp (kp_trans q2 xk)⟩
  clear q1 q2 xk
  go_wp2_with fail
  obtain ⟨pb2, hpb⟩ : ∃ pb, w2.heap.size = pb := ⟨_, rfl⟩
  rw [hpb] at x20 x21 x22 x23 ⊢
  clear hpb
  generalize (w2.alloc (.cells #[.slice va2 r2.nds.length vc2, .int .i64 r2.i, .int .i64 r2.gs, .int .u8 r2.cs] 25)) = W2 at *
  have P3 := seen_parse H3.out.1 (HG.out.kp K2.out.2.1)
  rw [HF.out.2.2] at P3
  refine Calls.mono P3 ?_
  clear P3
  rintro e w2 ⟨va3, vc3, rfl, q1, q2⟩
  obtain ⟨⟨x30, x31⟩, ⟨x32, x33⟩, xk⟩ := pat_box w2 (.slice va3 r3.nds.length vc3) (.int .i64 r3.i) (.int .i64 r3.gs) (.int .u8 r3.cs)
  replace x10 := kp_cell (kp_trans q2 xk) x10
  replace x11 := kp_cell (kp_trans q2 xk) x11
  replace x12 := kp_cell (kp_trans q2 xk) x12
  replace x13 := kp_cell (kp_trans q2 xk) x13
  replace x20 := kp_cell (kp_trans q2 xk) x20
  replace x21 := kp_cell (kp_trans q2 xk) x21
  replace x22 := kp_cell (kp_trans q2 xk) x22
  replace x23 := kp_cell (kp_trans q2 xk) x23
  have K3 : Hid (Pt (w2.alloc (.cells #[.slice va3 r3.nds.length vc3, .int .i64 r3.i, .int .i64 r3.gs, .int .u8 r3.cs] 25)) (.slice va3 r3.nds.length vc3) (r3.nds.map Nd.q) ∧ Kp w (w2.alloc (.cells #[.slice va3 r3.nds.length vc3, .int .i64 r3.i, .int .i64 r3.gs, .int .u8 r3.cs] 25)) ∧ Pt (w2.alloc (.cells #[.slice va3 r3.nds.length vc3, .int .i64 r3.i, .int .i64 r3.gs, .int .u8 r3.cs] 25)) (.slice va2 r2.nds.length vc2) (r2.nds.map Nd.q) ∧ Pt (w2.alloc (.cells #[.slice va3 r3.nds.length vc3, .int .i64 r3.i, .int .i64 r3.gs, .int .u8 r3.cs] 25)) (.slice va1 r1.nds.length vc1) (r1.nds.map Nd.q)) := ⟨q1.kp xk, kp_trans K2.out.2.1 (kp_trans q2 xk), K2.out.1.kp (kp_trans q2 xk), K2.out.2.2.kp (kp_trans q2 xk)⟩
  clear q1 q2 xk
  go_wp2_with fail
  obtain ⟨pb3, hpb⟩ : ∃ pb, w2.heap.size = pb := ⟨_, rfl⟩
  rw [hpb] at x30 x31 x32 x33 ⊢
  clear hpb
  generalize (w2.alloc (.cells #[.slice va3 r3.nds.length vc3, .int .i64 r3.i, .int .i64 r3.gs, .int .u8 r3.cs] 25)) = W3 at *
  obtain ⟨N1, hN1⟩ : ∃ N, (codL L1).length = N := ⟨_, rfl⟩
  obtain ⟨N2, hN2⟩ : ∃ N, (codL L2).length = N := ⟨_, rfl⟩
  obtain ⟨N3, hN3⟩ : ∃ N, (codL (L1 ++ L2)).length = N := ⟨_, rfl⟩
  have HN : Hid (((codL L1).length = N1 ∧ N1 = n + 1) ∧ ((codL L2).length = N2 ∧ N2 = m + 1) ∧ ((codL (L1 ++ L2)).length = N3 ∧ N3 = n + m + 1)) := by
    refine ⟨⟨hN1, ?_⟩, ⟨hN2, ?_⟩, ⟨hN3, ?_⟩⟩
    · rw [← hN1]; simp [codL]; exact HZ.out.1
    · rw [← hN2]; simp [codL]; exact HZ.out.2.1
    · rw [← hN3]; simp [codL]; rw [HZ.out.1, HZ.out.2.1]; omega
  clear hN1 hN2 hN3
  have P := seen_compile H1.out.1 H1.out.2.1 K3.out.2.2.2 false
  rw [H1.out.2.2, show foldsB r1.cs false = false by rw [HZ.out.2.2.1]; rfl] at P
  refine Calls.mono P ?_
  clear P
  rintro e w2 ⟨ca1, cp1, rfl, q1, q2⟩
  simp only [HN.out.1.1] at q1 ⊢
  obtain ⟨⟨y10, y11, y12⟩, xk⟩ := prog_box w2 (.slice ca1 N1 cp1) (.int .i64 0) (.bool false)
  replace x20 := kp_cell (kp_trans q2 xk) x20
  replace x21 := kp_cell (kp_trans q2 xk) x21
  replace x22 := kp_cell (kp_trans q2 xk) x22
  replace x23 := kp_cell (kp_trans q2 xk) x23
  replace x30 := kp_cell (kp_trans q2 xk) x30
  replace x31 := kp_cell (kp_trans q2 xk) x31
  replace x32 := kp_cell (kp_trans q2 xk) x32
  replace x33 := kp_cell (kp_trans q2 xk) x33
  have C1 : Hid (Cd (w2.alloc (.cells #[.slice ca1 N1 cp1, .int .i64 0, .bool false] 32)) (.slice ca1 N1 cp1) (codL L1) ∧ Kp W3 (w2.alloc (.cells #[.slice ca1 N1 cp1, .int .i64 0, .bool false] 32))) := ⟨q1.kp xk, kp_trans q2 xk⟩
  clear q1 q2 xk
  go_wp2_with fail
  obtain ⟨cb1, hpb⟩ : ∃ pb, w2.heap.size = pb := ⟨_, rfl⟩
  rw [hpb] at y10 y11 y12 ⊢
  clear hpb
  generalize (w2.alloc (.cells #[.slice ca1 N1 cp1, .int .i64 0, .bool false] 32)) = X1 at *
  have P := seen_compile H2.out.1 H2.out.2.1 (K3.out.2.2.1.kp C1.out.2) false
  rw [H2.out.2.2, show foldsB r2.cs false = false by rw [HZ.out.2.2.2.1]; rfl] at P
  refine Calls.mono P ?_
  clear P
  rintro e w2 ⟨ca2, cp2, rfl, q1, q2⟩
  simp only [HN.out.2.1.1] at q1 ⊢
  obtain ⟨⟨y20, y21, y22⟩, xk⟩ := prog_box w2 (.slice ca2 N2 cp2) (.int .i64 0) (.bool false)
  replace x30 := kp_cell (kp_trans q2 xk) x30
  replace x31 := kp_cell (kp_trans q2 xk) x31
  replace x32 := kp_cell (kp_trans q2 xk) x32
  replace x33 := kp_cell (kp_trans q2 xk) x33
  replace y10 := kp_cell (kp_trans q2 xk) y10
  replace y11 := kp_cell (kp_trans q2 xk) y11
  replace y12 := kp_cell (kp_trans q2 xk) y12
  have C2 : Hid (Cd (w2.alloc (.cells #[.slice ca2 N2 cp2, .int .i64 0, .bool false] 32)) (.slice ca2 N2 cp2) (codL L2) ∧ Kp W3 (w2.alloc (.cells #[.slice ca2 N2 cp2, .int .i64 0, .bool false] 32)) ∧ Cd (w2.alloc (.cells #[.slice ca2 N2 cp2, .int .i64 0, .bool false] 32)) (.slice ca1 N1 cp1) (codL L1)) := ⟨q1.kp xk, kp_trans C1.out.2 (kp_trans q2 xk), C1.out.1.kp (kp_trans q2 xk)⟩
  clear q1 q2 xk
  go_wp2_with fail
  obtain ⟨cb2, hpb⟩ : ∃ pb, w2.heap.size = pb := ⟨_, rfl⟩
  rw [hpb] at y20 y21 y22 ⊢
  clear hpb
  generalize (w2.alloc (.cells #[.slice ca2 N2 cp2, .int .i64 0, .bool false] 32)) = X2 at *
  have P := seen_compile H3.out.1 H3.out.2.1 (K3.out.1.kp C2.out.2.1) false
  rw [H3.out.2.2, show foldsB r3.cs false = false by rw [HZ.out.2.2.2.2]; rfl] at P
  refine Calls.mono P ?_
  clear P
  rintro e w2 ⟨ca3, cp3, rfl, q1, q2⟩
  simp only [HN.out.2.2.1] at q1 ⊢
  obtain ⟨⟨y30, y31, y32⟩, xk⟩ := prog_box w2 (.slice ca3 N3 cp3) (.int .i64 0) (.bool false)
  replace y10 := kp_cell (kp_trans q2 xk) y10
  replace y11 := kp_cell (kp_trans q2 xk) y11
  replace y12 := kp_cell (kp_trans q2 xk) y12
  replace y20 := kp_cell (kp_trans q2 xk) y20
  replace y21 := kp_cell (kp_trans q2 xk) y21
  replace y22 := kp_cell (kp_trans q2 xk) y22
  have C3 : Hid (Cd (w2.alloc (.cells #[.slice ca3 N3 cp3, .int .i64 0, .bool false] 32)) (.slice ca3 N3 cp3) (codL (L1 ++ L2)) ∧ Kp W3 (w2.alloc (.cells #[.slice ca3 N3 cp3, .int .i64 0, .bool false] 32)) ∧ Cd (w2.alloc (.cells #[.slice ca3 N3 cp3, .int .i64 0, .bool false] 32)) (.slice ca2 N2 cp2) (codL L2) ∧ Cd (w2.alloc (.cells #[.slice ca3 N3 cp3, .int .i64 0, .bool false] 32)) (.slice ca1 N1 cp1) (codL L1)) := ⟨q1.kp xk, kp_trans C2.out.2.1 (kp_trans q2 xk), C2.out.1.kp (kp_trans q2 xk), C2.out.2.2.kp (kp_trans q2 xk)⟩
  clear q1 q2 xk
  have hsum : (N1 : Int) + (N2 : Int) = (N3 : Int) + 1 := by have := HN.out.1.2; have := HN.out.2.1.2; have := HN.out.2.2.2; omega
  have hsub : (N1 : Int) - 1 = (n : Int) := by have := HN.out.1.2; omega
  have hlt : n < N1 := by have := HN.out.1.2; omega
  have hN2s : N2 ≤ 100 := by have := HN.out.2.1.2; omega
  have hN1s : N1 ≤ 100 := by have := HN.out.1.2; omega
  obtain ⟨z1, z2⟩ := C3.out.2.2.2.len.2
  obtain ⟨z3, z4⟩ := C3.out.2.2.1.len.2
  obtain ⟨z5, z6⟩ := C3.out.1.len.2
  unfold maxLen at z2 z4 z6
  obtain ⟨b1, o1, rfl, t1⟩ := C3.out.2.2.2.at_ (List.getElem?_eq_getElem (show 0 < (codL L1).length by rw [HN.out.1.1]; omega))
  obtain ⟨b2, o2, rfl, t2⟩ := C3.out.2.2.1.at_ (List.getElem?_eq_getElem (show 0 < (codL L2).length by rw [HN.out.2.1.1, HN.out.2.1.2]; omega))
  clear t1 t2
  obtain ⟨i9, hi9, z0, z7, z8⟩ := info_parts infoInst
  obtain ⟨X, hX⟩ : ∃ X, (w2.alloc (.cells #[.slice ca3 N3 cp3, .int .i64 0, .bool false] 32)) = X := ⟨_, rfl⟩
  obtain ⟨xb, hxb⟩ : ∃ xb, w2.heap.size = xb := ⟨_, rfl⟩
  rw [hX, hxb] at y30 y31 y32
  rw [hX] at y20 C3
  have D1 := cd_flat C3.out.2.2.2 n
  have D2 := cd_flat C3.out.2.2.1 N2
  have e1 : (codL L1).take n = L1.map insC := by unfold codL; rw [List.take_left' (by simp [HZ.out.1])]
  have e2 : (codL L2).take N2 = codL L2 := List.take_of_length_le (by rw [HN.out.2.1.1]; exact Nat.le_refl _)
  rw [e1] at D1
  rw [e2] at D2
  have HA : Hid (∀ v' w', w'.ownsRow X.heap.size 39 8 v' (0 + n) ([] ++ flatI (L1.map insC)) → X.grownBy w' (Value.slice none 0 0).ownBlock → ∃ a c, v' = .slice a n c ∧ w'.cell? ⟨cb2, 0, none⟩ = some (.slice (some ⟨b2, o2, none⟩) N2 cp2) ∧ Hid (w'.ownsRow X.heap.size 39 8 (.slice a n c) n (flatI (L1.map insC)) ∧ Kp X w')) := by
    intro v' w' q1 q2
    rw [Nat.zero_add, List.nil_append] at q1
    obtain ⟨a, c, rfl, _, _⟩ := owns_form q1
    have kx : Kp X w' := below_grown (Below.refl _ _) (Nat.le_refl _) q2 (fun k hk => by cases hk)
    exact ⟨a, c, rfl, kp_cell kx y20, q1, kx⟩
  have HB : Hid (∀ a c w3, w3.ownsRow X.heap.size 39 8 (.slice a n c) n (flatI (L1.map insC)) ∧ Kp X w3 → ∀ v' w', w'.ownsRow X.heap.size 39 8 v' (n + N2) (flatI (L1.map insC) ++ flatI (codL L2)) → w3.grownBy w' (Value.slice a n c).ownBlock → ∃ a c, v' = .slice a N3 c ∧ (w'.cell? ⟨xb, 0, none⟩ = some (.slice ca3 N3 cp3) ∧ w'.cell? ⟨xb, 1, none⟩ = some (.int .i64 0) ∧ w'.cell? ⟨xb, 2, none⟩ = some (.bool false)) ∧ Hid (Cd w' (.slice a N3 c) (codL (L1 ++ L2)) ∧ Cd w' (.slice ca3 N3 cp3) (codL (L1 ++ L2)) ∧ Kp w w')) := by
    rintro a c w3 ⟨q0, k0⟩ v' w' q1 q2
    have e3 : flatI (L1.map insC) ++ flatI (codL L2) = flatI (codL (L1 ++ L2)) := by simp [flatI, codL]
    have e4 : n + N2 = (codL (L1 ++ L2)).length := by rw [HN.out.2.2.1, HN.out.2.2.2, HN.out.2.1.2]; omega
    rw [e3, e4] at q1
    have q3 := row_cd q1
    rw [HN.out.2.2.1] at q1
    obtain ⟨a', c', rfl, _, _⟩ := owns_form q1
    have kx : Kp X w' := below_grown k0 k0.size q2 (fun k hk => (q0.lt k hk).1)
    exact ⟨a', c', rfl, ⟨kp_cell kx y30, kp_cell kx y31, kp_cell kx y32⟩, q3, C3.out.1.kp kx, kp_trans K3.out.2.1 (kp_trans C3.out.2.1 kx)⟩
  have HD : Hid ((∀ j u, (flatI (L1.map insC))[j]? = some u → X.cell? ((⟨b1, o1, none⟩ : Addr).add j) = some u) ∧ (∀ w3, Kp X w3 → ∀ j u, (flatI (codL L2))[j]? = some u → w3.cell? ((⟨b2, o2, none⟩ : Addr).add j) = some u) ∧ (flatI (L1.map insC)).length = n * 8 ∧ (flatI (codL L2)).length = N2 * 8 ∧ X.heap.size ≤ X.heap.size ∧ X.ownsRow X.heap.size 39 8 (.slice none 0 0) 0 []) :=
    ⟨D1, fun w3 k j u hj => kp_cell k (D2 j u hj), by rw [flatI_len, List.length_map, HZ.out.1], by rw [flatI_len, HN.out.2.1.1], Nat.le_refl _, World.ownsRow_nil _ _ _ _⟩
  have HO : Hid ((∀ u ∈ flatI (L1.map insC), u.oneCell' = true) ∧ (∀ u ∈ flatI (codL L2), u.oneCell' = true)) := ⟨flatI_one _, flatI_one _⟩
  clear D1 D2 e1 e2 y31 y32
  subst hX hxb
  go_wp2_with (first
    | (at_builtin; refine wpList_append_own _ rfl (.tmp 103) (.tmp 110) 30 rfl (w2.alloc (.cells #[.slice ca3 N3 cp3, .int .i64 0, .bool false] 32)).heap.size 39 i9 _ 8 56 Tryz.underlying30 hi9 z0 z7 z8 rfl (by decide) (.slice none 0 0) 0 [] rfl HD.out.2.2.2.2.2 ⟨b1, o1, none⟩ n cp1 (flatI (L1.map insC)) rfl HD.out.2.2.1 HD.out.1 HO.out.1 (by unfold maxLen; omega) (by omega) HD.out.2.2.2.2.1 ?_; intro v3 w3 ho hg _; obtain ⟨aa, ac, rfl, yy, Q1⟩ := HA.out v3 w3 ho hg; clear ho hg)
    | (at_builtin; refine wpList_append_own _ rfl (.tmp 112) (.tmp 114) 30 rfl (w2.alloc (.cells #[.slice ca3 N3 cp3, .int .i64 0, .bool false] 32)).heap.size 39 i9 _ 8 56 Tryz.underlying30 hi9 z0 z7 z8 rfl (by decide) (.slice aa n ac) n (flatI (L1.map insC)) rfl Q1.out.1 ⟨b2, o2, none⟩ N2 cp2 (flatI (codL L2)) rfl HD.out.2.2.2.1 (HD.out.2.1 _ Q1.out.2) HO.out.2 (by unfold maxLen; omega) (by omega) Q1.out.2.size ?_; intro v4 w4 ho hg _; obtain ⟨ba, bc, rfl, ⟨u0, u1, u2⟩, Q2⟩ := HB.out aa ac w3 Q1.out v4 w4 ho hg; clear ho hg))
  refine Calls.mono (same_eq Q2.out.1 Q2.out.2.1 (by have := HN.out.2.2.2; omega) false) ?_
  rintro e w5 ⟨rfl, q⟩
  have QK : Hid (Kp w w5) := kp_trans Q2.out.2.2 q
  clear q
  go_wp2_with fail
  go_ret
  exact ⟨rfl, QK.out⟩
end
end Go.Proofs.YtlgemficalcghaaGreat
