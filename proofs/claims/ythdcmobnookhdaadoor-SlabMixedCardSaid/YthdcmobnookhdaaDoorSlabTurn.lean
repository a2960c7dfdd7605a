/-
  Blocks with a byte turned; sectors of two blocks, mixed. No function of the program is named here.
-/
import Derived.Test.YthdcmobnookhdaaDoorSlabMath
namespace Go.Proofs.YthdcmobnookhdaaDoor
set_option linter.unusedVariables false

theorem set_self {α : Type} (l : List α) (i : Nat) (h : i < l.length) : l.set i l[i] = l := by simp
theorem set_val {α : Type} {l : List α} {i : Nat} {a b : α} (h : i < l.length) (e : l.set i a = l.set i b) : a = b := by
  have h1 : (l.set i a)[i]? = some a := by simp [h]
  have h2 : (l.set i b)[i]? = some b := by simp [h]
  rw [e, h2] at h1
  exact (Option.some.inj h1).symm

theorem frm_inj {size : Nat} {s t : List UInt8} (hs : s.length + 6 ≤ size) (ht : t.length + 6 ≤ size) (hz : size < 65536) (h : frm size s = frm size t) : s = t := by
  rw [← unfS_frm hs (by omega), h, unfS_frm ht (by omega)]

theorem plain_turned {s : List UInt8} (hs : s.length + 6 ≤ 256) (i : Nat) (hi : i < (frm 256 s).length) (v : UInt8) (hv : v ≠ (frm 256 s)[i]) : unfE ((frm 256 s).set i v) ≠ 0 := by
  intro h
  obtain ⟨_, h2⟩ := unfE_zero h
  have hf : frm 256 s = frm (frm 256 s).length (txtF (frm 256 s)) := by rw [frm_length hs, txtF_frm (by omega)]
  have h3 := frm_turned hf h2 i v hi rfl
  have h4 : (frm 256 s).set i v = (frm 256 s).set i (frm 256 s)[i] := by rw [set_self]; exact h3
  exact hv (set_val hi h4)

theorem hd8_set (c : List UInt8) (at_ : Nat) (v : UInt8) (j : Nat) : hd8 (c.set at_ v) j = if at_ < 64 * j then hd8 c j else (hd8 c j).set (at_ - 64 * j) v := by
  unfold hd8
  rw [List.drop_set]
  split
  · rfl
  · rw [List.take_set]
theorem pc56_set (c : List UInt8) (at_ : Nat) (v : UInt8) (j : Nat) : pc56 (c.set at_ v) j = if at_ < 64 * j + 8 then pc56 c j else (pc56 c j).set (at_ - (64 * j + 8)) v := by
  unfold pc56
  rw [List.drop_set]
  split
  · rfl
  · rw [List.take_set]
theorem gat_set (c : List UInt8) (i x : Nat) (hx : x < 56) (v : UInt8) : ∀ j, 64 * j ≤ c.length → gat (c.set (64 * i + 8 + x) v) j = (gat c j).set (56 * i + x) v
  | 0, _ => by simp [gat]
  | j + 1, h => by
    have hg : (gat c j).length = 56 * j := gat_length (by omega)
    have hp : (pc56 c j).length = 56 := by rw [pc56, List.length_take, List.length_drop]; omega
    rw [gat, gat, gat_set c i x hx v j (by omega), pc56_set, List.set_append, hg]
    by_cases h1 : i < j
    · rw [if_pos (by omega), if_pos (by omega)]
    · rw [if_neg (by omega), if_neg (by omega), List.set_eq_of_length_le (by omega)]
      by_cases h2 : i = j
      · subst h2
        congr 2 <;> omega
      · rw [List.set_eq_of_length_le (by omega), List.set_eq_of_length_le (by omega)]

theorem stamped_turned {e q : Nat} {s : List UInt8} (hs : s.length ≤ 218) (hc : canS e q = true) (i : Nat) (hi : i < (stp e q s).length) (v : UInt8) (hv : v ≠ (stp e q s)[i]) : rdR ((stp e q s).set i v) ≠ 0 := by
  intro h
  have hl : (stp e q s).length = 256 := stp_length hs
  have hf : (frm 224 s).length = 224 := frm_length (by omega)
  have hsl : ∀ i, i < 4 → (sec e q (frm 224 s) i).length = 64 := fun i hi => sec_length (by rw [hf]; omega)
  have hh : ∀ j, j < 4 → hd8 (stp e q s) j = be 4 e ++ be 4 q := fun j hj => by rw [stp_four, hd8_four hsl j hj, sec_head]
  have hg : gat (stp e q s) 4 = frm 224 s := by
    rw [stp_four, gat_four hsl, sec_piece, sec_piece, sec_piece, sec_piece]
    exact pieces hf
  have h8 : (be 4 e ++ be 4 q).length = 8 := by simp [be_length]
  have hsm : same ((stp e q s).set i v) = true ∧ unfE (gat ((stp e q s).set i v) 4) = 0 := by
    unfold rdR at h
    split at h
    · rename_i hb
      rw [Bool.and_eq_true] at hb
      exact ⟨hb.1, h⟩
    · cases h
  obtain ⟨hsame, hunf⟩ := hsm
  generalize hcc : stp e q s = c at *
  by_cases hoff : i % 64 < 8
  · simp only [same, decide_eq_true_eq] at hsame
    have e0 : (c.set i v).take 8 = hd8 (c.set i v) 0 := by simp [hd8]
    rw [e0] at hsame
    have key : ∀ j k, j < 4 → k < 4 → j ≠ k → j = i / 64 → hd8 (c.set i v) j = hd8 (c.set i v) k → False := by
      intro j k hj hk hjk hji heq
      rw [hd8_set, hd8_set, if_neg (by omega), hh j hj, hh k hk] at heq
      have hk2 : (if i < 64 * k then be 4 e ++ be 4 q else (be 4 e ++ be 4 q).set (i - 64 * k) v) = be 4 e ++ be 4 q := by
        split
        · rfl
        · exact List.set_eq_of_length_le (by omega)
      rw [hk2] at heq
      have e1 : hd8 (c.set i c[i]) j = (be 4 e ++ be 4 q).set (i - 64 * j) c[i] := by rw [hd8_set, if_neg (by omega), hh j hj]
      rw [set_self, hh j hj] at e1
      have e2 : (be 4 e ++ be 4 q).set (i - 64 * j) v = (be 4 e ++ be 4 q).set (i - 64 * j) c[i] := heq.trans e1
      exact hv (set_val (by omega) e2)
    have hlt : i / 64 < 4 := by omega
    obtain ⟨h1, h2, h3⟩ := hsame
    rcases (show i / 64 = 0 ∨ i / 64 = 1 ∨ i / 64 = 2 ∨ i / 64 = 3 by omega) with h0 | h0 | h0 | h0
    · exact key 0 1 (by omega) (by omega) (by omega) h0.symm h1.symm
    · exact key 1 0 (by omega) (by omega) (by omega) h0.symm h1
    · exact key 2 0 (by omega) (by omega) (by omega) h0.symm h2
    · exact key 3 0 (by omega) (by omega) (by omega) h0.symm h3
  · obtain ⟨x, hx, hix⟩ : ∃ x, x < 56 ∧ i = 64 * (i / 64) + 8 + x := ⟨i % 64 - 8, by omega, by omega⟩
    have g1 := gat_set c (i / 64) x hx v 4 (by omega)
    have g2 := gat_set c (i / 64) x hx c[i] 4 (by omega)
    rw [← hix] at g1 g2
    rw [set_self, hg] at g2
    rw [hg] at g1
    have hidx : 56 * (i / 64) + x < (frm 224 s).length := by omega
    rw [g1] at hunf
    obtain ⟨_, h2⟩ := unfE_zero hunf
    have hff : frm 224 s = frm (frm 224 s).length (txtF (frm 224 s)) := by rw [hf, txtF_frm (by omega)]
    have h3 := frm_turned hff h2 _ v hidx rfl
    exact hv (set_val hidx (h3.trans g2))

/-- Sectors of two stamped blocks whose numbers aren't both the same. -/
theorem mixed {e q e2 q2 : Nat} {s t : List UInt8} (hs : s.length ≤ 218) (ht : t.length ≤ 218) (hq : q < 4294967296) (hq2 : q2 < 4294967296) (hne : q ≠ q2) (k : Nat → Bool) (i j : Nat) (hi : i < 4) (hj : j < 4) (hki : k i = false) (hkj : k j = true) :
    rdR (four (fun i => if k i then sct (stp e2 q2 t) i else sct (stp e q s) i)) = 5 := by
  have sl : ∀ (e q : Nat) (s : List UInt8), s.length ≤ 218 → ∀ i, i < 4 → sct (stp e q s) i = sec e q (frm 224 s) i := by
    intro e q s hs i hi
    have hf : (frm 224 s).length = 224 := frm_length (by omega)
    have hsl : ∀ i, i < 4 → (sec e q (frm 224 s) i).length = 64 := fun i hi => sec_length (by rw [hf]; omega)
    obtain ⟨r, hr⟩ := sct_four hsl i hi
    rw [sct, stp_four, hr, take_app _ _ 64 (hsl i hi)]
  have ll : ∀ (e q : Nat) (s : List UInt8), s.length ≤ 218 → ∀ i, i < 4 → (sec e q (frm 224 s) i).length = 64 := by
    intro e q s hs i hi
    exact sec_length (by rw [frm_length (by omega)]; omega)
  have hl : ∀ i, i < 4 → ((fun i => if k i then sct (stp e2 q2 t) i else sct (stp e q s) i) i).length = 64 := by
    intro i hi
    show (if k i then _ else _ : List UInt8).length = 64
    split
    · rw [sl e2 q2 t ht i hi, ll e2 q2 t ht i hi]
    · rw [sl e q s hs i hi, ll e q s hs i hi]
  have hh : ∀ i, i < 4 → hd8 (four (fun i => if k i then sct (stp e2 q2 t) i else sct (stp e q s) i)) i = if k i then be 4 e2 ++ be 4 q2 else be 4 e ++ be 4 q := by
    intro i hi
    rw [hd8_four hl i hi]
    show (if k i then _ else _ : List UInt8).take 8 = _
    split
    · rw [sl e2 q2 t ht i hi, sec_head]
    · rw [sl e q s hs i hi, sec_head]
  have hdiff : be 4 e2 ++ be 4 q2 ≠ be 4 e ++ be 4 q := by
    intro h
    have h2 := (List.append_inj h (by rw [be_length, be_length])).2
    exact hne (be_inj (k := 4) (by omega) (by omega) h2).symm
  generalize four (fun i => if k i then sct (stp e2 q2 t) i else sct (stp e q s) i) = b at *
  have hs : same b = false := by
    by_cases h : same b = true
    · exfalso
      simp only [same, decide_eq_true_eq] at h
      have h0 : hd8 b 0 = b.take 8 := by simp [hd8]
      have hall : ∀ i, i < 4 → hd8 b i = b.take 8 := by
        intro i hi
        rcases (show i = 0 ∨ i = 1 ∨ i = 2 ∨ i = 3 by omega) with rfl | rfl | rfl | rfl
        · exact h0
        · exact h.1
        · exact h.2.1
        · exact h.2.2
      have h1 := hh i hi
      have h2 := hh j hj
      rw [hki] at h1
      rw [hkj] at h2
      apply hdiff
      have h3 := (hall j hj).trans (hall i hi).symm
      rw [h1, h2] at h3
      simpa using h3
    · simpa using h
  rw [rdR, hs]
  rfl
theorem four_self (c : List UInt8) (h : c.length = 256) : four (sct c) = c := by
  have e3 : (c.drop 192).take 64 = c.drop 192 := List.take_of_length_le (by rw [List.length_drop]; omega)
  have e2 : c.drop 192 = (c.drop 128).drop 64 := by rw [List.drop_drop]
  have e1 : c.drop 128 = (c.drop 64).drop 64 := by rw [List.drop_drop]
  show (c.drop 0).take 64 ++ (c.drop 64).take 64 ++ (c.drop 128).take 64 ++ (c.drop 192).take 64 = c
  rw [e3, e2, List.append_assoc, List.append_assoc, List.take_append_drop, e1, List.take_append_drop, List.drop_zero, List.take_append_drop]
end Go.Proofs.YthdcmobnookhdaaDoor
