/-
  Parts of an inner node, put together again: no program is named but by the walks of its nodes.
-/
import Derived.Test.YtoobelcphcndoaaGreatInOf
namespace Go.Proofs.YtoobelcphcndoaaGreat
open Go.RowKit Go.Sort
set_option linter.unusedVariables false
set_option linter.unusedSimpArgs false
set_option maxRecDepth 20000

/-- How many kids a part has. -/
def lenP (n i : Nat) : Nat := cutAt n (countN n) (i + 1) - cutAt n (countN n) i
theorem lenP_eq (n i : Nat) : lenP n i = n / countN n + (if i < n % countN n then 1 else 0) := by
  unfold lenP
  rw [cutAt_succ]
  generalize cutAt n (countN n) i = x
  generalize n / countN n = y
  generalize (if i < n % countN n then 1 else 0) = z
  omega
theorem lenP_down (n i : Nat) : lenP n (i + 1) ≤ lenP n i ∧ lenP n i ≤ lenP n (i + 1) + 1 := by
  rw [lenP_eq, lenP_eq]
  split <;> split <;> omega
theorem lenP_first (n i : Nat) : lenP n 0 ≤ lenP n i + 1 := by
  rw [lenP_eq, lenP_eq]
  split <;> split <;> omega
theorem lenP_most (n : Nat) (hn : 0 < n) : lenP n 0 ≤ 6 := by
  by_cases h : n ≤ 6
  · have : countN n = 1 := by unfold countN; omega
    rw [lenP_eq, this]
    simp
    split <;> omega
  · have hs := part_size n (by omega) 0 (by unfold countN; omega)
    rw [lenP_eq]
    exact hs.2.2.2
theorem parts_at (d : Nd) (hg : goodN d.kids d.pivs = true) (t : Nat) (ht : t < (partsN d).length) : (partsN d)[t].kids.length = lenP d.kids.length t ∧ goodN (partsN d)[t].kids (partsN d)[t].pivs = true := by
  have hk : d.kids ≠ [] := ((goodN_iff _ _).1 hg).1
  have hl : 0 < d.kids.length := List.length_pos_iff.2 hk
  have hpl := partsN_len d hk
  by_cases hc : countN d.kids.length < 2
  · have h1 : countN d.kids.length = 1 := by unfold countN at *; omega
    have e : partsN d = [d] := by unfold partsN; rw [if_pos hc]
    have ht0 : t = 0 := by rw [hpl, h1] at ht; omega
    subst ht0
    have : (partsN d)[0] = d := by simp [e]
    rw [this]
    refine ⟨?_, hg⟩
    rw [lenP_eq, h1, Nat.div_one, Nat.mod_one]
    simp
  · have e : partsN d = (List.range (countN d.kids.length)).map (partN d (countN d.kids.length)) := by unfold partsN; rw [if_neg hc]
    have ht2 : t < countN d.kids.length := by rw [hpl] at ht; exact ht
    have : (partsN d)[t] = partN d (countN d.kids.length) t := by simp [e]
    rw [this]
    have hcn : countN d.kids.length ≤ d.kids.length := by unfold countN; omega
    refine ⟨?_, part_good d hg _ t (by omega) hcn ht2⟩
    have a1 := cutAt_le d.kids.length (countN d.kids.length) (by omega) (show t + 1 ≤ countN d.kids.length from ht2)
    show (partKids d.kids _ _).length = _
    unfold partKids lenP
    simp
    omega
theorem parts_ok (d : Nd) (hd : NdOk d) (t : Nat) (ht : t < (partsN d).length) : NdOk (partsN d)[t] := by
  have hk : d.kids ≠ [] := ((goodN_iff _ _).1 hd.1).1
  have hpa := parts_at d hd.1 t ht
  have hl : 0 < d.kids.length := List.length_pos_iff.2 hk
  have hpl := partsN_len d hk
  by_cases hc : countN d.kids.length < 2
  · have h1 : countN d.kids.length = 1 := by unfold countN at *; omega
    have e : partsN d = [d] := by unfold partsN; rw [if_pos hc]
    have ht0 : t = 0 := by rw [hpl, h1] at ht; omega
    subst ht0
    have : (partsN d)[0] = d := by simp [e]
    rw [this]
    exact hd
  · have e : partsN d = (List.range (countN d.kids.length)).map (partN d (countN d.kids.length)) := by unfold partsN; rw [if_neg hc]
    have this : (partsN d)[t] = partN d (countN d.kids.length) t := by simp [e]
    rw [this] at hpa ⊢
    refine ⟨hpa.2, takeM_good _ _ hd.2.1, takeM_rising _ _ hd.2.2.1, ?_, Nat.le_trans (takeM_len _ _) hd.2.2.2.2⟩
    rw [hpa.1]
    unfold lenP
    have a1 := cutAt_le d.kids.length (countN d.kids.length) (by omega) (show t + 1 ≤ countN d.kids.length by rw [hpl] at ht; exact ht)
    have := hd.2.2.2.1
    omega
theorem head_ok (d : Nd) (hd : NdOk d) (c i : Nat) (hc : 0 < c) (hn : c ≤ d.kids.length) (h0 : 0 < i) (hi : i ≤ c) : NdOk (headN d c i) := by
  refine ⟨head_good d hd.1 c i hc hn h0 hi, fun x hx => hd.2.1 x (List.mem_filter.1 hx).1, List.Pairwise.filter _ hd.2.2.1, ?_, Nat.le_trans (List.length_filter_le _ _) hd.2.2.2.2⟩
  show (d.kids.take _).length ≤ 1000
  have := hd.2.2.2.1
  rw [List.length_take]
  omega
theorem head_first (d : Nd) (hd : NdOk d) (h : 0 < (partsN d).length) : (partsN d)[0] = headN d (countN d.kids.length) 1 := by
  have hk : d.kids ≠ [] := ((goodN_iff _ _).1 hd.1).1
  have hl : 0 < d.kids.length := List.length_pos_iff.2 hk
  by_cases hc : countN d.kids.length < 2
  · have h1 : countN d.kids.length = 1 := by unfold countN at *; omega
    have e : partsN d = [d] := by unfold partsN; rw [if_pos hc]
    have : (partsN d)[0] = d := by simp [e]
    rw [this, h1, head_all d hd.1 1 (by omega)]
  · have e : partsN d = (List.range (countN d.kids.length)).map (partN d (countN d.kids.length)) := by unfold partsN; rw [if_neg hc]
    have this : (partsN d)[0] = partN d (countN d.kids.length) 0 := by simp [e]
    rw [this]
    exact head_one d hd.1 hd.2.1 _ (by omega) (by unfold countN; omega)
theorem head_next (d : Nd) (hd : NdOk d) (j : Nat) (h0 : 0 < j) (hj : j < countN d.kids.length) (hp : j < (partsN d).length) (hb : j - 1 < (betweenN d).length) : joinN (headN d (countN d.kids.length) j) (betweenN d)[j - 1] (partsN d)[j] = headN d (countN d.kids.length) (j + 1) ∧ goodN (joinN (headN d (countN d.kids.length) j) (betweenN d)[j - 1] (partsN d)[j]).kids (joinN (headN d (countN d.kids.length) j) (betweenN d)[j - 1] (partsN d)[j]).pivs = true := by
  have hc : ¬ countN d.kids.length < 2 := by omega
  have e : partsN d = (List.range (countN d.kids.length)).map (partN d (countN d.kids.length)) := by unfold partsN; rw [if_neg hc]
  have e1 : (partsN d)[j] = partN d (countN d.kids.length) j := by simp [e]
  have e2 : (betweenN d)[j - 1] = d.pivs.getD (cutAt d.kids.length (countN d.kids.length) j - 1) [] := by
    have hb2 : betweenN d = (List.range (countN d.kids.length - 1)).map (fun i => d.pivs.getD (cutAt d.kids.length (countN d.kids.length) (i + 1) - 1) []) := by unfold betweenN; rw [if_neg hc]
    simp only [hb2, List.getElem_map, List.getElem_range]
    rw [show j - 1 + 1 = j by omega]
  have hcn : countN d.kids.length ≤ d.kids.length := by
    have : 0 < d.kids.length := List.length_pos_iff.2 ((goodN_iff _ _).1 hd.1).1
    unfold countN
    omega
  have hs := head_step d hd.1 hd.2.1 hd.2.2.1 (countN d.kids.length) j (by omega) hcn h0 hj
  rw [e1, e2, hs]
  exact ⟨rfl, head_good d hd.1 _ (j + 1) (by omega) hcn (by omega) (by omega)⟩
end Go.Proofs.YtoobelcphcndoaaGreat
