/-
  A pool of blocks and tickets, as plain data, and what holds of it. Nothing of the program is named here.
-/
import Derived.Test.YtmijbplhmjledaaTkFill
import Derived.Test.YtmijbplhmjledaaTkHeapM
namespace Go.Proofs.Ytmijbplhmjledaa
open Go.RowKit
set_option linter.unusedVariables false

/-- Which blocks are free, which are late, the reserve, what each ticket has (-1: it is gone). -/
structure Tk where
  l : List Bool
  d : List Bool
  r : Int
  hs : List Int
def heldL (hs : List Int) : Int := (hs.map (fun z => max z 0)).sum
def leftT (t : Tk) : Int := freeL t.l - heldL t.hs - t.r
theorem heldL_append (a b : List Int) : heldL (a ++ b) = heldL a + heldL b := by simp [heldL]
theorem heldL_nonneg : ∀ hs : List Int, 0 ≤ heldL hs
  | [] => by simp [heldL]
  | z :: hs => by have := heldL_nonneg hs; simp only [heldL, List.map_cons, List.sum_cons] at this ⊢; omega
theorem heldL_mem : ∀ {hs : List Int} {z : Int}, z ∈ hs → z ≤ heldL hs
  | y :: hs, z, h => by
    have h0 := heldL_nonneg hs
    simp only [heldL, List.map_cons, List.sum_cons] at h0 ⊢
    rcases List.mem_cons.1 h with rfl | h
    · omega
    · have := heldL_mem h
      simp only [heldL] at this
      omega
theorem heldL_set : ∀ (hs : List Int) (i : Nat) (n : Int), i < hs.length → heldL (hs.set i n) = heldL hs - max (hs.getD i 0) 0 + max n 0
  | y :: hs, 0, n, _ => by simp only [heldL, List.set_cons_zero, List.map_cons, List.sum_cons, List.getD_cons_zero]; omega
  | y :: hs, i + 1, n, h => by
    have := heldL_set hs i n (by simpa using h)
    simp only [heldL] at this
    simp only [heldL, List.set_cons_succ, List.map_cons, List.sum_cons, List.getD_cons_succ, this]
    omega
/-- A new ticket. -/
def holdL (hs : List Int) (n : Int) : List Int := if firstG hs < hs.length then hs.set (firstG hs) n else hs ++ [n]
theorem heldL_hold (hs : List Int) (n : Int) (hn : 0 ≤ n) : heldL (holdL hs n) = heldL hs + n := by
  unfold holdL
  split
  · rename_i h
    have := firstG_at h
    rw [heldL_set _ _ _ h]
    omega
  · rw [heldL_append]
    simp [heldL]
    omega
theorem holdL_len (hs : List Int) (n : Int) : hs.length ≤ (holdL hs n).length ∧ (holdL hs n).length ≤ hs.length + 1 ∧ firstG hs < (holdL hs n).length := by
  have := firstG_le hs
  unfold holdL
  split
  · rw [List.length_set]; omega
  · simp; omega
theorem getD_snoc (hs : List Int) (n : Int) (k : Nat) : (hs ++ [n]).getD k 0 = if k = hs.length then n else hs.getD k 0 := by
  rcases Nat.lt_trichotomy k hs.length with h | h | h
  · rw [if_neg (by omega), getD_lt _ (by simp; omega), getD_lt _ h, List.getElem_append_left h]
  · subst h; rw [if_pos rfl, getD_lt _ (by simp)]; simp
  · rw [if_neg (by omega), getD_ge _ (by simp; omega), getD_ge _ (by omega)]
theorem holdL_at (hs : List Int) (n : Int) (k : Nat) : (holdL hs n).getD k 0 = if k = firstG hs then n else hs.getD k 0 := by
  unfold holdL
  split
  · rename_i h; exact getD_set _ _ _ _ _ h
  · rename_i h
    have e : firstG hs = hs.length := by have := firstG_le hs; omega
    rw [e]; exact getD_snoc _ _ _
theorem holdL_mem {hs : List Int} {n z : Int} (h : z ∈ holdL hs n) : z = n ∨ z ∈ hs := by
  unfold holdL at h
  split at h
  · rcases List.mem_or_eq_of_mem_set h with h | h
    · exact .inr h
    · exact .inl h
  · rcases List.mem_append.1 h with h | h
    · exact .inr h
    · exact .inl (by simpa using h)
theorem holdL_set (hs : List Int) (n m : Int) : (holdL hs n).set (firstG hs) m = holdL hs m := by
  unfold holdL
  split
  · rw [List.set_set]
  · rename_i h
    have e : firstG hs = hs.length := by have := firstG_le hs; omega
    rw [e, List.set_append_right _ _ (Nat.le_refl _)]
    simp

/-- What holds of a pool. -/
structure Wf (t : Tk) : Prop where
  n1 : 1 ≤ t.l.length
  n2 : t.l.length ≤ 512
  dl : t.d.length = t.l.length
  apart : ∀ k, t.l.getD k false = true → t.d.getD k false = false
  hm : ∀ z ∈ t.hs, -1 ≤ z
  r0 : 0 ≤ t.r
  room : 0 ≤ leftT t
theorem Wf.held {t : Tk} (h : Wf t) : 0 ≤ heldL t.hs ∧ heldL t.hs ≤ 512 ∧ t.r ≤ 512 ∧ 0 ≤ freeL t.l ∧ freeL t.l ≤ 512 ∧ leftT t ≤ 512 := by
  have h1 := heldL_nonneg t.hs
  have h2 := free_bound t.l
  have h3 := h.room
  have h4 := h.n2
  have h5 := h.r0
  unfold leftT at h3 ⊢
  omega
theorem Wf.has {t : Tk} (h : Wf t) {i : Nat} (hi : i < t.hs.length) : -1 ≤ t.hs.getD i 0 ∧ t.hs.getD i 0 ≤ 512 := by
  have hm := getD_mem (l := t.hs) 0 hi
  have h1 := h.hm _ hm
  have h2 := heldL_mem hm
  have := h.held
  omega
theorem Wf.hold {t : Tk} (h : Wf t) {n : Int} (h0 : 0 ≤ n) (hn : n ≤ leftT t) : Wf ⟨t.l, t.d, t.r, holdL t.hs n⟩ := by
  refine ⟨h.n1, h.n2, h.dl, h.apart, fun z hz => ?_, h.r0, ?_⟩
  · rcases holdL_mem hz with rfl | hz
    · omega
    · exact h.hm z hz
  · unfold leftT at hn ⊢
    simp only
    rw [heldL_hold _ _ h0]
    omega
theorem Wf.set {t : Tk} (h : Wf t) {i : Nat} {n : Int} (hi : i < t.hs.length) (hh : 0 ≤ t.hs.getD i 0) (h0 : -1 ≤ n) (hn : n ≤ t.hs.getD i 0 + leftT t) : Wf ⟨t.l, t.d, t.r, t.hs.set i n⟩ := by
  refine ⟨h.n1, h.n2, h.dl, h.apart, fun z hz => ?_, h.r0, ?_⟩
  · rcases List.mem_or_eq_of_mem_set hz with hz | rfl
    · exact h.hm z hz
    · exact h0
  · have := h.room
    unfold leftT at hn this ⊢
    simp only
    rw [heldL_set _ _ _ hi]
    omega
theorem Wf.draw {t : Tk} (h : Wf t) {i k : Nat} (hi : i < t.hs.length) (hh : 1 ≤ t.hs.getD i 0) (hk : k < t.l.length) (hl : t.l.getD k false = true) : Wf ⟨t.l.set k false, t.d, t.r, t.hs.set i (t.hs.getD i 0 - 1)⟩ := by
  refine ⟨by simp only; rw [List.length_set]; exact h.n1, by simp only; rw [List.length_set]; exact h.n2, by simp only; rw [List.length_set]; exact h.dl, fun j hj => ?_, fun z hz => ?_, h.r0, ?_⟩
  · simp only at hj ⊢
    rw [getD_set _ _ _ _ _ hk] at hj
    split at hj
    · cases hj
    · exact h.apart j hj
  · rcases List.mem_or_eq_of_mem_set hz with hz | rfl
    · exact h.hm z hz
    · omega
  · have := h.room
    unfold leftT at this ⊢
    simp only
    rw [heldL_set _ _ _ hi, free_set hk hl]
    omega
/-- What a ticket has is free. -/
theorem Wf.free1 {t : Tk} (h : Wf t) {i : Nat} (hi : i < t.hs.length) : t.hs.getD i 0 ≤ freeL t.l := by
  have hm := heldL_mem (getD_mem (l := t.hs) 0 hi)
  have h3 := h.room
  have h5 := h.r0
  unfold leftT at h3
  omega
theorem Wf.use {t : Tk} (h : Wf t) (xs : List (Int × Int)) (hl : 0 ≤ freeL (setL false t.l xs) - heldL t.hs - t.r) : Wf ⟨setL false t.l xs, t.d, t.r, t.hs⟩ :=
  ⟨by simp only; rw [setL_len]; exact h.n1, by simp only; rw [setL_len]; exact h.n2, by simp only; rw [setL_len]; exact h.dl, fun k hk => h.apart k (take_sub k hk), h.hm, h.r0, hl⟩

/-- What a block is. -/
def kindAt (l d : List Bool) (k : Nat) : Int := if d.getD k false then 2 else if l.getD k false then 3 else 1
def kindsL (l d : List Bool) : List Int := (List.range l.length).map (kindAt l d)
theorem kindsL_len (l d : List Bool) : (kindsL l d).length = l.length := by simp [kindsL]
theorem kindsL_at (l d : List Bool) (k : Nat) (h : k < l.length) : (kindsL l d).getD k 0 = kindAt l d k := by
  rw [getD_lt _ (by rw [kindsL_len]; exact h)]; simp [kindsL]
theorem ext_getI {a b : List Int} (h : a.length = b.length) (hk : ∀ k, k < a.length → a.getD k 0 = b.getD k 0) : a = b := by
  apply List.ext_getElem h
  intro k h1 h2
  have := hk k h1
  rwa [getD_lt _ h1, getD_lt _ h2] at this
theorem kind_one {l d : List Bool} {k : Nat} : kindAt l d k = 1 ↔ d.getD k false = false ∧ l.getD k false = false := by
  unfold kindAt
  cases d.getD k false <;> cases l.getD k false <;> simp
theorem kinds_free {l d : List Bool} (ha : ∀ k, l.getD k false = true → d.getD k false = false) : ∀ j, j ≤ l.length → ((kindsL l d).take j).count 3 = (l.take j).count true
  | 0, _ => by simp
  | j + 1, h => by
    have hj : j < l.length := by omega
    rw [take_snoc' _ _ (show j < (kindsL l d).length by rw [kindsL_len]; exact hj), take_snoc' _ _ hj, List.count_append, List.count_append, kinds_free ha j (by omega), ← getD_lt 0, ← getD_lt false hj, kindsL_at _ _ _ hj]
    congr 1
    unfold kindAt
    cases hl : l.getD j false
    · cases hd : d.getD j false <;> simp
    · rw [ha j hl]; simp
theorem Wf.count {t : Tk} (h : Wf t) : ((kindsL t.l t.d).count 3 : Nat) = freeL t.l := by
  rw [freeL_eq]
  have := kinds_free h.apart t.l.length (Nat.le_refl _)
  rw [List.take_length] at this
  rw [← this, List.take_of_length_le (by rw [kindsL_len]; exact Nat.le_refl _)]

/-- A list of blocks, all of which are used and stand in it once: of the first j. -/
def inR (n : Nat) (z : Int) : Bool := decide (0 ≤ z) && decide (z < (n : Int))
theorem inR_iff {n : Nat} {z : Int} : inR n z = true ↔ 0 ≤ z ∧ z < (n : Int) := by simp [inR]
def okT (is zs : List Int) : Nat → Bool
  | 0 => true
  | j + 1 => okT is zs j && (decide (is.getD (zs.getD j 0).toNat 0 = 1) && !(zs.take j).contains (zs.getD j 0))
def usedE (is zs : List Int) : Int := if zs.all (inR is.length) then (if okT is zs zs.length then 0 else 11) else 3
theorem okT_back {is zs : List Int} : ∀ (j k : Nat), okT is zs (j + k) = true → okT is zs j = true
  | j, 0, h => h
  | j, k + 1, h => by
    rw [← Nat.add_assoc, okT, Bool.and_eq_true] at h
    exact okT_back j k h.1
theorem okT_stop {is zs : List Int} {j : Nat} (h : okT is zs (j + 1) = false) (hj : j < zs.length) : okT is zs zs.length = false := by
  cases hb : okT is zs zs.length with
  | false => rfl
  | true =>
    have := okT_back (j + 1) (zs.length - (j + 1)) (by rw [show j + 1 + (zs.length - (j + 1)) = zs.length by omega]; exact hb)
    rw [h] at this; cases this
theorem okT_spec {is zs : List Int} : ∀ j, j ≤ zs.length → okT is zs j = true → (∀ z ∈ zs.take j, is.getD z.toNat 0 = 1) ∧ (zs.take j).Nodup
  | 0, _, _ => ⟨fun z hz => by simp at hz, by simp⟩
  | j + 1, hj, h => by
    rw [okT, Bool.and_eq_true, Bool.and_eq_true] at h
    obtain ⟨h1, h2, h3⟩ := h
    obtain ⟨i1, i2⟩ := okT_spec j (by omega) h1
    have hl : j < zs.length := by omega
    rw [getD_lt _ hl] at h2 h3
    have h3' : zs[j] ∉ zs.take j := by simpa using h3
    rw [take_snoc' _ _ hl]
    refine ⟨fun z hz => ?_, ?_⟩
    · rcases List.mem_append.1 hz with hz | hz
      · exact i1 z hz
      · rw [List.mem_singleton] at hz; subst hz; exact of_decide_eq_true h2
    · rw [List.nodup_append]
      exact ⟨i2, by simp, fun a ha b hb e => by rw [List.mem_singleton] at hb; subst hb; rw [e] at ha; exact h3' ha⟩
theorem used_ok {is zs : List Int} (h : usedE is zs = 0) : (∀ z ∈ zs, 0 ≤ z ∧ z < (is.length : Int) ∧ is.getD z.toNat 0 = 1) ∧ zs.Nodup := by
  unfold usedE at h
  split at h
  · rename_i hall
    split at h
    · rename_i hok
      obtain ⟨h1, h2⟩ := okT_spec zs.length (Nat.le_refl _) hok
      rw [List.take_length] at h1 h2
      exact ⟨fun z hz => by have := inR_iff.1 (List.all_eq_true.1 hall z hz); exact ⟨this.1, this.2, h1 z hz⟩, h2⟩
    · cases h
  · cases h
/-- Of the first j blocks of the list b is written. -/
def markT {α : Type} (b : α) (d : List α) (zs : List Int) : Nat → List α
  | 0 => d
  | j + 1 => (markT b d zs j).set (zs.getD j 0).toNat b
theorem markT_len {α : Type} (b : α) (d : List α) (zs : List Int) : ∀ j, (markT b d zs j).length = d.length
  | 0 => rfl
  | j + 1 => by rw [markT, List.length_set, markT_len b d zs j]
theorem markT_at {α : Type} (b e : α) (d : List α) (zs : List Int) (h : ∀ z ∈ zs, 0 ≤ z ∧ z < (d.length : Int)) (k : Nat) : ∀ j, j ≤ zs.length → (markT b d zs j).getD k e = if (k : Int) ∈ zs.take j then b else d.getD k e
  | 0, _ => by simp [markT]
  | j + 1, hj => by
    have hl : j < zs.length := by omega
    have hz := h _ (List.getElem_mem hl)
    rw [markT, getD_lt _ hl, getD_set _ _ _ _ _ (by rw [markT_len]; omega), markT_at b e d zs h k j (by omega), take_snoc' _ _ hl]
    by_cases h1 : k = zs[j].toNat
    · rw [if_pos h1, if_pos (List.mem_append_right _ (by rw [List.mem_singleton]; omega))]
    · rw [if_neg h1]
      by_cases h2 : (k : Int) ∈ zs.take j
      · rw [if_pos h2, if_pos (List.mem_append_left _ h2)]
      · rw [if_neg h2, if_neg]
        intro h3
        rcases List.mem_append.1 h3 with h3 | h3
        · exact h2 h3
        · rw [List.mem_singleton] at h3; omega
def markL {α : Type} (b : α) (d : List α) (zs : List Int) : List α := markT b d zs zs.length
theorem markL_at {α : Type} (b e : α) (d : List α) (zs : List Int) (h : ∀ z ∈ zs, 0 ≤ z ∧ z < (d.length : Int)) (k : Nat) : (markL b d zs).getD k e = if (k : Int) ∈ zs then b else d.getD k e := by
  have := markT_at b e d zs h k zs.length (Nat.le_refl _)
  rw [List.take_length] at this
  exact this
theorem markL_len {α : Type} (b : α) (d : List α) (zs : List Int) : (markL b d zs).length = d.length := markT_len b d zs _

/-- Used blocks become late. -/
theorem Wf.shadow {t : Tk} (h : Wf t) {zs : List Int} (hu : usedE (kindsL t.l t.d) zs = 0) : Wf ⟨t.l, markL true t.d zs, t.r, t.hs⟩ ∧ kindsL t.l (markL true t.d zs) = markL 2 (kindsL t.l t.d) zs := by
  obtain ⟨h1, h2⟩ := used_ok hu
  rw [kindsL_len] at h1
  have hz : ∀ z ∈ zs, 0 ≤ z ∧ z < (t.d.length : Int) := fun z hz => by rw [h.dl]; have := h1 z hz; omega
  have hz2 : ∀ z ∈ zs, 0 ≤ z ∧ z < ((kindsL t.l t.d).length : Int) := fun z hz => by rw [kindsL_len]; have := h1 z hz; omega
  have hk1 : ∀ k : Nat, (k : Int) ∈ zs → k < t.l.length ∧ t.d.getD k false = false ∧ t.l.getD k false = false := fun k hk => by
    obtain ⟨_, a, b⟩ := h1 _ hk
    have hkl : k < t.l.length := by omega
    rw [Int.toNat_natCast, kindsL_at _ _ _ hkl] at b
    exact ⟨hkl, kind_one.1 b⟩
  refine ⟨⟨h.n1, h.n2, by simp only; rw [markL_len]; exact h.dl, fun k hk => ?_, h.hm, h.r0, h.room⟩, ?_⟩
  · simp only at hk ⊢
    rw [markL_at _ _ _ _ hz]
    by_cases hm : (k : Int) ∈ zs
    · rw [(hk1 k hm).2.2] at hk; cases hk
    · rw [if_neg hm]; exact h.apart k hk
  · refine ext_getI (by rw [kindsL_len, markL_len, kindsL_len]) (fun k hk => ?_)
    rw [kindsL_len] at hk
    rw [kindsL_at _ _ _ hk, markL_at _ _ _ _ hz2, kindsL_at _ _ _ hk]
    unfold kindAt
    rw [markL_at _ _ _ _ hz]
    by_cases hm : (k : Int) ∈ zs
    · rw [if_pos hm, if_pos hm]; rfl
    · rw [if_neg hm, if_neg hm]
/-- Used blocks become free. -/
theorem Wf.back {t : Tk} (h : Wf t) {zs : List Int} (hu : usedE (kindsL t.l t.d) zs = 0) : setE true t.l (ones zs) = 0 ∧ Wf ⟨setL true t.l (ones zs), t.d, t.r, t.hs⟩ ∧ kindsL (setL true t.l (ones zs)) t.d = markL 3 (kindsL t.l t.d) zs := by
  obtain ⟨h1, h2⟩ := used_ok hu
  rw [kindsL_len] at h1
  have hz2 : ∀ z ∈ zs, 0 ≤ z ∧ z < ((kindsL t.l t.d).length : Int) := fun z hz => by rw [kindsL_len]; have := h1 z hz; omega
  have hk1 : ∀ k : Nat, (k : Int) ∈ zs → k < t.l.length ∧ t.d.getD k false = false ∧ t.l.getD k false = false := fun k hk => by
    obtain ⟨_, a, b⟩ := h1 _ hk
    have hkl : k < t.l.length := by omega
    rw [Int.toNat_natCast, kindsL_at _ _ _ hkl] at b
    exact ⟨hkl, kind_one.1 b⟩
  obtain ⟨g1, g2, g3⟩ := give_ones (l := t.l) (zs := zs) (fun z hz => by
    obtain ⟨a, b, c⟩ := h1 z hz
    refine ⟨a, b, ?_⟩
    rw [kindsL_at _ _ _ (by omega)] at c
    exact (kind_one.1 c).2) h2
  refine ⟨g1, ⟨by simp only; rw [g2]; exact h.n1, by simp only; rw [g2]; exact h.n2, by simp only; rw [g2]; exact h.dl, fun k hk => ?_, h.hm, h.r0, ?_⟩, ?_⟩
  · simp only at hk ⊢
    rw [g3] at hk
    by_cases hm : (k : Int) ∈ zs
    · exact (hk1 k hm).2.1
    · rw [if_neg hm] at hk; exact h.apart k hk
  · have := h.room
    have hmono := free_mono (l := t.l) (m := setL true t.l (ones zs)) g2.symm (fun k hk => by rw [g3]; split; rfl; exact hk)
    unfold leftT at this ⊢
    simp only
    omega
  · refine ext_getI (by rw [kindsL_len, markL_len, kindsL_len, g2]) (fun k hk => ?_)
    rw [kindsL_len, g2] at hk
    rw [kindsL_at _ _ _ (by rw [g2]; exact hk), markL_at _ _ _ _ hz2, kindsL_at _ _ _ hk]
    unfold kindAt
    rw [g3]
    by_cases hm : (k : Int) ∈ zs
    · rw [if_pos hm, if_pos hm, (hk1 k hm).2.1]; rfl
    · rw [if_neg hm, if_neg hm]

/-- The late blocks of the first j. -/
def lateT (d : List Bool) : Nat → List Int
  | 0 => []
  | j + 1 => if d.getD j false then lateT d j ++ [(j : Int)] else lateT d j
def lateL (d : List Bool) : List Int := lateT d d.length
theorem lateT_spec (d : List Bool) : ∀ j, (∀ z, z ∈ lateT d j ↔ ∃ k : Nat, k < j ∧ d.getD k false = true ∧ z = (k : Int)) ∧ (lateT d j).Nodup ∧ (lateT d j).length ≤ j
  | 0 => ⟨fun z => by simp [lateT], by simp [lateT], Nat.le_refl _⟩
  | j + 1 => by
    obtain ⟨h1, h2, h3⟩ := lateT_spec d j
    rw [lateT]
    cases hb : d.getD j false
    · rw [if_neg (by decide)]
      refine ⟨fun z => (h1 z).trans ⟨?_, ?_⟩, h2, by omega⟩
      · rintro ⟨k, a, b, c⟩; exact ⟨k, by omega, b, c⟩
      · rintro ⟨k, a, b, c⟩
        have : k ≠ j := by rintro rfl; rw [hb] at b; cases b
        exact ⟨k, by omega, b, c⟩
    · rw [if_pos rfl]
      refine ⟨fun z => ?_, ?_, by simp; omega⟩
      · rw [List.mem_append, h1, List.mem_singleton]
        constructor
        · rintro (⟨k, a, b, c⟩ | rfl)
          · exact ⟨k, by omega, b, c⟩
          · exact ⟨j, by omega, hb, rfl⟩
        · rintro ⟨k, a, b, c⟩
          by_cases hkj : k = j
          · right; rw [c, hkj]
          · left; exact ⟨k, by omega, b, c⟩
      · rw [List.nodup_append]
        refine ⟨h2, by simp, fun a ha b hb e => ?_⟩
        rw [List.mem_singleton] at hb
        obtain ⟨k, c1, _, c3⟩ := (h1 a).1 ha
        omega
theorem lateL_mem (d : List Bool) (k : Nat) : (k : Int) ∈ lateL d ↔ d.getD k false = true := by
  rw [lateL, (lateT_spec d d.length).1]
  constructor
  · rintro ⟨j, _, h, e⟩
    have : j = k := by omega
    rw [← this]; exact h
  · intro h
    refine ⟨k, ?_, h, rfl⟩
    rcases Nat.lt_or_ge k d.length with h' | h'
    · exact h'
    · rw [getD_ge _ h'] at h; cases h
theorem lateL_range (d : List Bool) : ∀ z ∈ lateL d, 0 ≤ z ∧ z < (d.length : Int) := fun z hz => by
  obtain ⟨k, a, _, c⟩ := ((lateT_spec d d.length).1 z).1 hz
  omega
/-- Late ones become free. -/
theorem Wf.turn {t : Tk} (h : Wf t) : setE true t.l (ones (lateL t.d)) = 0 ∧ Wf ⟨setL true t.l (ones (lateL t.d)), List.replicate t.l.length false, t.r, t.hs⟩ ∧
    (∀ k, (setL true t.l (ones (lateL t.d))).getD k false = (t.l.getD k false || t.d.getD k false)) ∧
    (∀ k, k < t.l.length → (kindsL (setL true t.l (ones (lateL t.d))) (List.replicate t.l.length false)).getD k 0 = if kindAt t.l t.d k = 2 then 3 else kindAt t.l t.d k) ∧ (setL true t.l (ones (lateL t.d))).length = t.l.length := by
  obtain ⟨g1, g2, g3⟩ := give_ones (l := t.l) (zs := lateL t.d) (fun z hz => by
    obtain ⟨k, a, b, rfl⟩ := ((lateT_spec t.d t.d.length).1 z).1 hz
    rw [h.dl] at a
    refine ⟨by omega, by omega, ?_⟩
    rw [Int.toNat_natCast]
    cases hl : t.l.getD k false with
    | false => rfl
    | true => rw [h.apart k hl] at b; cases b) (lateT_spec t.d t.d.length).2.1
  have hr : ∀ k, (List.replicate t.l.length false).getD k false = false := fun k => by
    rcases Nat.lt_or_ge k t.l.length with h' | h'
    · rw [getD_lt _ (by simpa using h')]; simp
    · rw [getD_ge _ (by simpa using h')]
  have hg : ∀ k, (setL true t.l (ones (lateL t.d))).getD k false = (t.l.getD k false || t.d.getD k false) := fun k => by
    rw [g3]
    by_cases hm : (k : Int) ∈ lateL t.d
    · rw [if_pos hm, (lateL_mem _ _).1 hm, Bool.or_true]
    · rw [if_neg hm]
      cases hd : t.d.getD k false with
      | false => rw [Bool.or_false]
      | true => exact absurd ((lateL_mem _ _).2 hd) hm
  refine ⟨g1, ⟨by simp only; rw [g2]; exact h.n1, by simp only; rw [g2]; exact h.n2, by simp only; rw [g2, List.length_replicate], fun k _ => hr k, h.hm, h.r0, ?_⟩, hg, fun k hk => ?_, g2⟩
  · have := h.room
    have hmono := free_mono (l := t.l) (m := setL true t.l (ones (lateL t.d))) g2.symm (fun k hk => by rw [g3]; split; rfl; exact hk)
    unfold leftT at this ⊢
    simp only
    omega
  · rw [kindsL_at _ _ _ (by rw [g2]; exact hk)]
    unfold kindAt
    rw [hr, hg]
    cases hd : t.d.getD k false <;> cases hl : t.l.getD k false <;> simp
end Go.Proofs.Ytmijbplhmjledaa
