/-
  What TicketLate's pool is, as plain data. Nothing of the program is named here but its contracts' plain answers.
-/
import Derived.Test.YtmijbplhmjledaaTkL
namespace Go.Proofs.Ytmijbplhmjledaa
open Go.RowKit
set_option linter.unusedVariables false

theorem mod_at (z : Int) (m : Nat) (h1 : 1 ≤ m) (h2 : m ≤ 1000) : ∃ j : Nat, wrap64 ((IntKind.u64.wrap z).tmod (m : Int)) = (j : Int) ∧ j < m := by
  have h0 := wrap_u64_nonneg z
  have e : (IntKind.u64.wrap z).tmod (m : Int) = (IntKind.u64.wrap z) % (m : Int) := Int.tmod_eq_emod_of_nonneg h0
  have l0 := Int.emod_nonneg (IntKind.u64.wrap z) (b := (m : Int)) (by omega)
  have l1 := Int.emod_lt_of_pos (IntKind.u64.wrap z) (b := (m : Int)) (by omega)
  refine ⟨((IntKind.u64.wrap z) % (m : Int)).toNat, ?_, by omega⟩
  rw [e]
  unfold wrap64
  omega
theorem wrap_nat (m : Nat) (h : m ≤ 1000000) : IntKind.u64.wrap (m : Int) = (m : Int) := by simp [IntKind.wrap, IntKind.bits, IntKind.signed]; omega

theorem start_use {k h : Nat} (h1 : 1 ≤ h) (h2 : h ≤ k) : setE false (startL k 0) [(0, (h : Int))] = 0 ∧ setL false (startL k 0) [(0, (h : Int))] = startL k h := by
  obtain ⟨a1, a2, a3⟩ := set_one (b := false) (l := startL k 0) (x := (0, (h : Int))) (inE_iff.2 ⟨Int.le_refl _, by simp only; omega, by simp only; rw [startL_len (Nat.zero_le _)]; omega⟩) (fun j j1 j2 => by
    simp only at j1 j2
    rw [startL_at (Nat.zero_le _), decide_eq_true (by omega)]; decide)
  refine ⟨a1, ext_getD (by rw [a2, startL_len (Nat.zero_le _), startL_len h2]) (fun j hj => ?_)⟩
  rw [a2, startL_len (Nat.zero_le _)] at hj
  rw [a3, startL_at h2, startL_at (Nat.zero_le _)]
  simp only
  by_cases hh : h ≤ j
  · rw [if_neg (by omega), decide_eq_true (by omega), decide_eq_true (by omega)]
  · rw [if_pos (by omega), decide_eq_false (by omega)]
theorem late_use {k h : Nat} (h1 : 1 ≤ h) (h2 : h ≤ k) (d : List Bool) : useE ⟨startL k 0, d, 0, []⟩ [(0, (h : Int))] = 0 ∧ useT ⟨startL k 0, d, 0, []⟩ [(0, (h : Int))] = ⟨startL k h, d, 0, []⟩ := by
  obtain ⟨a1, a2⟩ := start_use h1 h2
  have e : useE ⟨startL k 0, d, 0, []⟩ [(0, (h : Int))] = 0 := by
    simp only [useE, a1, a2, if_true]
    rw [startL_free h2, if_neg (by simp [heldL]; omega)]
  exact ⟨e, by rw [useT, if_pos e, a2]⟩
theorem late_shadow {k h j : Nat} {d : List Bool} (h2 : h ≤ k) (hj : j < h) (hd : d.length = k) : usedE (kindsL (startL k h) d) [(j : Int)] = (if d.getD j false then 11 else 0) ∧ shadowT ⟨startL k h, d, 0, []⟩ [(j : Int)] = ⟨startL k h, d.set j true, 0, []⟩ := by
  have hk : kindAt (startL k h) d j = if d.getD j false then 2 else 1 := by
    unfold kindAt
    rw [startL_at h2, decide_eq_false (by omega)]; rfl
  have hu : usedE (kindsL (startL k h) d) [(j : Int)] = (if d.getD j false then 11 else 0) := by
    have hr : inR (kindsL (startL k h) d).length (j : Int) = true := inR_iff.2 ⟨by omega, by rw [kindsL_len, startL_len h2]; omega⟩
    have ho : okT (kindsL (startL k h) d) [(j : Int)] 1 = decide (kindAt (startL k h) d j = 1) := by
      rw [okT, okT]
      simp only [List.getD_cons_zero, Int.toNat_natCast, List.take_zero]
      rw [kindsL_at _ _ _ (by rw [startL_len h2]; omega)]
      simp
    rw [usedE]
    simp only [List.all_cons, List.all_nil, hr, Bool.and_true, if_true, List.length_singleton, ho, hk]
    cases d.getD j false <;> simp
  refine ⟨hu, ?_⟩
  rw [shadowT]
  simp only [hu]
  cases hb : d.getD j false
  · simp only [Bool.false_eq_true, if_false, if_true]
    rfl
  · rw [if_pos rfl, if_neg (by decide)]
    congr 1
    refine ext_getD (by rw [List.length_set]) (fun i hi => ?_)
    rw [getD_set _ _ _ _ _ (by omega)]
    by_cases e : i = j
    · rw [if_pos e, e, hb]
    · rw [if_neg e]
theorem lateT_count (d : List Bool) : ∀ j, j ≤ d.length → (lateT d j).length = (d.take j).count true
  | 0, _ => by simp [lateT]
  | j + 1, h => by
    rw [lateT, take_snoc' _ _ (show j < d.length by omega), List.count_append, ← lateT_count d j (by omega), ← getD_lt false (show j < d.length by omega)]
    cases d.getD j false <;> simp
theorem lateL_count (d : List Bool) : ((lateL d).length : Int) = freeL d := by
  rw [freeL_eq, lateL, lateT_count d _ (Nat.le_refl _), List.take_length]
theorem free_set_true {l : List Bool} {k : Nat} (hk : k < l.length) (h : l.getD k false = false) : freeL (l.set k true) = freeL l + 1 := by
  rw [freeL_eq, freeL_eq, List.count_set hk]
  rw [getD_lt _ hk] at h
  simp [h]
theorem free_zero {l : List Bool} (h : freeL l = 0) (k : Nat) : l.getD k false = false := by
  rw [freeL_eq] at h
  rcases Nat.lt_or_ge k l.length with hk | hk
  · cases hb : l.getD k false with
    | false => rfl
    | true =>
      rw [getD_lt _ hk] at hb
      have := List.count_pos_iff.2 (show true ∈ l by rw [← hb]; exact List.getElem_mem _)
      omega
  · exact getD_ge _ hk
/-- With nothing free, all that is late is free behind a turn. -/
theorem late_turn {t : Tk} (hw : Wf t) (h0 : freeL t.l = 0) : turnT t = ⟨t.d, List.replicate t.d.length false, t.r, t.hs⟩ := by
  obtain ⟨_, _, h3, _, h5⟩ := hw.turn
  have e : setL true t.l (ones (lateL t.d)) = t.d := by
    refine ext_getD (h5.trans hw.dl.symm) (fun k _ => ?_)
    rw [h3, free_zero h0, Bool.false_or]
  rw [turnT, e, hw.dl]
theorem late_again {l : List Bool} {r : Int} {hs : List Int} (n : Nat) (hw : Wf ⟨l, List.replicate n false, r, hs⟩) : (lateL (List.replicate n false)).length = 0 ∧ turnT ⟨l, List.replicate n false, r, hs⟩ = ⟨l, List.replicate n false, r, hs⟩ := by
  have hz : freeL (List.replicate n false) = 0 := by rw [freeL_eq, List.count_replicate]; simp
  have hc := lateL_count (List.replicate n false)
  rw [hz] at hc
  refine ⟨by omega, ?_⟩
  have hnil : lateL (List.replicate n false) = [] := List.eq_nil_of_length_eq_zero (by omega)
  have hn : n = l.length := by have := hw.dl; simpa using this
  rw [turnT]
  simp only [hnil]
  have e : setL true l (ones []) = l := by
    have := (give_ones (l := l) (zs := []) (fun z hz => by simp at hz) List.nodup_nil).2
    exact ext_getD this.1 (fun k _ => by rw [this.2]; simp)
  rw [e, ← hn]
/-- The one ticket. -/
theorem one_hold {l d : List Bool} {n : Int} (h0 : 0 ≤ n) (h1 : n ≤ freeL l) : holdE ⟨l, d, 0, []⟩ n = 0 ∧ holdI ⟨l, d, 0, []⟩ n = 1 ∧ holdT ⟨l, d, 0, []⟩ n = ⟨l, d, 0, [n]⟩ :=
  hold_ok (t := ⟨l, d, 0, []⟩) h0 (by unfold leftT; simp [heldL]; omega)
theorem one_left (l d : List Bool) (n : Int) (h : 0 ≤ n) : leftT ⟨l, d, 0, [n]⟩ = freeL l - n := by
  unfold leftT
  simp [heldL]
  omega
theorem one_change {l d : List Bool} (h1 : 1 ≤ freeL l) : changeE ⟨l, d, 0, [0]⟩ 1 1 = 0 ∧ changeT ⟨l, d, 0, [0]⟩ 1 1 = ⟨l, d, 0, [1]⟩ := by
  have e : changeE ⟨l, d, 0, [0]⟩ 1 1 = 0 := by
    rw [changeE]
    have : hasB [0] 1 = true := by decide
    simp only [this, if_true]
    rw [one_left _ _ _ (Int.le_refl _), if_neg (by decide), if_neg]
    simp [idx]
    omega
  exact ⟨e, by rw [changeT, if_pos e]; rfl⟩
theorem one_full {l d : List Bool} (h1 : freeL l = 0) : changeE ⟨l, d, 0, [0]⟩ 1 1 = 9 ∧ changeT ⟨l, d, 0, [0]⟩ 1 1 = ⟨l, d, 0, [0]⟩ := by
  have e : changeE ⟨l, d, 0, [0]⟩ 1 1 = 9 := by
    rw [changeE]
    have : hasB [0] 1 = true := by decide
    simp only [this, if_true]
    rw [one_left _ _ _ (Int.le_refl _), if_neg (by decide), if_pos]
    simp [idx]
    omega
  exact ⟨e, by rw [changeT, if_neg (by rw [e]; decide)]⟩
theorem one_draw {l d : List Bool} {n : Int} (hw : Wf ⟨l, d, 0, [n]⟩) (hn : 1 ≤ n) : ∃ k : Nat, k < l.length ∧ l.getD k false = true ∧ d.getD k false = false ∧ drawI ⟨l, d, 0, [n]⟩ 1 = k ∧ drawE ⟨l, d, 0, [n]⟩ 1 = 0 ∧ drawT ⟨l, d, 0, [n]⟩ 1 = ⟨l.set k false, d, 0, [n - 1]⟩ ∧ freeL (l.set k false) = freeL l - 1 := by
  obtain ⟨k, k1, k2, _, _, _, _, e1, e2, e3⟩ := draw_yes (t := ⟨l, d, 0, [n]⟩) hw (i := 0) (by simp) (by simpa using hn)
  exact ⟨k, k1, k2, hw.apart k k2, e2, e1, e3, free_set k1 k2⟩
end Go.Proofs.Ytmijbplhmjledaa
