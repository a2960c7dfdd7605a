/-
  What TicketKept's pool keeps, as plain data.
-/
import Derived.Test.YtmijbplhmjledaaTkLateM
namespace Go.Proofs.Ytmijbplhmjledaa
open Go.RowKit
set_option linter.unusedVariables false

/-- The first ticket has m, all the time. -/
def Kept (m r : Int) (k L : Nat) (t : Tk) : Prop := t.r = r ∧ t.l.length = k ∧ 1 ≤ t.hs.length ∧ t.hs.length ≤ L ∧ t.hs.getD 0 0 = m
theorem Kept.more {m r : Int} {k L : Nat} {t : Tk} (h : Kept m r k L t) : Kept m r k (L + 1) t := ⟨h.1, h.2.1, h.2.2.1, by have := h.2.2.2.1; omega, h.2.2.2.2⟩
theorem Kept.use {m r : Int} {k L : Nat} {t : Tk} (h : Kept m r k L t) (xs : List (Int × Int)) : Kept m r k L (useT t xs) := by
  unfold useT
  split
  · exact ⟨h.1, (setL_len _ _ _).trans h.2.1, h.2.2⟩
  · exact h
theorem Kept.hold {m r : Int} {k L : Nat} {t : Tk} (h : Kept m r k L t) (hm : 0 ≤ m) (n : Int) : Kept m r k (L + 1) (holdT t n) := by
  unfold holdT
  split
  · have hl := holdL_len t.hs n
    refine ⟨h.1, h.2.1, by have := h.2.2.1; simp only; omega, by have := h.2.2.2.1; simp only; omega, ?_⟩
    simp only
    rw [holdL_at, if_neg]
    · exact h.2.2.2.2
    · intro e
      have := firstG_at (hs := t.hs) (by have := h.2.2.1; omega)
      rw [← e, h.2.2.2.2] at this
      omega
  · exact h.more
theorem idx_ne {z : Int} (h1 : 1 ≤ z) (hz : z ≠ 1) : 0 ≠ idx z := by unfold idx; omega
theorem set_first {hs : List Int} {i : Nat} {n : Int} (h : 0 ≠ i) : (hs.set i n).getD 0 0 = hs.getD 0 0 := by
  simp only [List.getD_eq_getElem?_getD, List.getElem?_set]
  rw [if_neg (fun e => h e.symm)]
theorem Kept.change {m r : Int} {k L : Nat} {t : Tk} (h : Kept m r k L t) (z n : Int) (hz : z ≠ 1) : Kept m r k L (changeT t z n) := by
  unfold changeT
  split
  · rename_i he
    have hb : hasB t.hs z = true := by
      cases hb : hasB t.hs z with
      | true => rfl
      | false => rw [changeE, hb] at he; cases he
    obtain ⟨h1, h2, _⟩ := hasB_yes hb
    refine ⟨h.1, h.2.1, by simp only; rw [List.length_set]; exact h.2.2.1, by simp only; rw [List.length_set]; exact h.2.2.2.1, ?_⟩
    simp only
    rw [set_first (idx_ne (by omega) hz)]; exact h.2.2.2.2
  · exact h
theorem Kept.drop {m r : Int} {k L : Nat} {t : Tk} (h : Kept m r k L t) (z : Int) (hz : z ≠ 1) : Kept m r k L (dropT t z) := by
  unfold dropT
  split
  · rename_i hb
    obtain ⟨h1, h2, _⟩ := hasB_yes hb
    refine ⟨h.1, h.2.1, by simp only; rw [List.length_set]; exact h.2.2.1, by simp only; rw [List.length_set]; exact h.2.2.2.1, ?_⟩
    simp only
    rw [set_first (idx_ne (by omega) hz)]; exact h.2.2.2.2
  · exact h
theorem Kept.draw {m r : Int} {k L : Nat} {t : Tk} (h : Kept m r k L t) (z : Int) (hz : z ≠ 1) : Kept m r k L (drawT t z) := by
  unfold drawT
  split
  · rename_i he
    have hb : hasB t.hs z = true := by
      cases hb : hasB t.hs z with
      | true => rfl
      | false => rw [drawE, hb] at he; cases he
    obtain ⟨h1, h2, _⟩ := hasB_yes hb
    refine ⟨h.1, (takeL_len t.l 1).trans h.2.1, by simp only; rw [List.length_set]; exact h.2.2.1, by simp only; rw [List.length_set]; exact h.2.2.2.1, ?_⟩
    simp only
    rw [set_first (idx_ne (by omega) hz)]; exact h.2.2.2.2
  · exact h
theorem Kept.shadow {m r : Int} {k L : Nat} {t : Tk} (h : Kept m r k L t) (zs : List Int) : Kept m r k L (shadowT t zs) := by
  unfold shadowT
  split
  · exact h
  · exact h
theorem Kept.back {m r : Int} {k L : Nat} {t : Tk} (h : Kept m r k L t) (zs : List Int) : Kept m r k L (backT t zs) := by
  unfold backT
  split
  · exact ⟨h.1, (setL_len _ _ _).trans h.2.1, h.2.2⟩
  · exact h
theorem Kept.turn {m r : Int} {k L : Nat} {t : Tk} (h : Kept m r k L t) : Kept m r k L (turnT t) := ⟨h.1, (setL_len _ _ _).trans h.2.1, h.2.2⟩
theorem kept_start {k : Nat} {r m : Int} (d : List Bool) (h0 : 0 ≤ m) (hm : m ≤ (k : Int) - r) : holdE ⟨startL k 0, d, r, []⟩ m = 0 ∧ holdI ⟨startL k 0, d, r, []⟩ m = 1 ∧ holdT ⟨startL k 0, d, r, []⟩ m = ⟨startL k 0, d, r, [m]⟩ :=
  hold_ok (t := ⟨startL k 0, d, r, []⟩) h0 (by unfold leftT; simp only; rw [startL_free (Nat.zero_le _)]; simp [heldL]; omega)
theorem Wf.reserve {t : Tk} (h : Wf t) : t.r ≤ freeL t.l := by
  have h1 := heldL_nonneg t.hs
  have h3 := h.room
  unfold leftT at h3
  omega
/-- It can be drawn. -/
theorem kept_draw {t : Tk} {m : Int} (hw : Wf t) (h1 : 1 ≤ t.hs.length) (hm : t.hs.getD 0 0 = m) (h0 : 1 ≤ m) : ∃ k : Nat, k < t.l.length ∧ t.l.getD k false = true ∧ t.d.getD k false = false ∧ drawI t 1 = k ∧ drawE t 1 = 0 ∧ drawT t 1 = ⟨t.l.set k false, t.d, t.r, t.hs.set 0 (m - 1)⟩ ∧ kindAt (t.l.set k false) t.d k = 1 := by
  obtain ⟨k, k1, k2, _, _, _, _, e1, e2, e3⟩ := draw_yes hw (i := 0) (by omega) (by rw [hm]; exact h0)
  rw [hm] at e3
  refine ⟨k, k1, k2, hw.apart k k2, e2, e1, e3, kind_one.2 ⟨hw.apart k k2, ?_⟩⟩
  rw [getD_set _ _ _ _ _ k1, if_pos rfl]
theorem kept_done {t : Tk} (h1 : 1 ≤ t.hs.length) (hm : t.hs.getD 0 0 = 0) : drawE t 1 = 11 := by
  have hb : hasB t.hs 1 = true := (hasB_of (hs := t.hs) (z := 1) (i := 0) ⟨rfl, by omega, by rw [hm]; decide⟩).1
  rw [drawE, hb, if_pos rfl, if_pos (by exact hm)]
end Go.Proofs.Ytmijbplhmjledaa
