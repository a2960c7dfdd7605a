/-
  What the small functions of package dev do: Len, IsOn, Loose, Count, has, Come, Read.
-/
import Derived.Test.YthgcpeibjnflaaaDevA
namespace Go.Proofs.Ythgcpeibjnflaaa
open Go.RowKit
set_option linter.unusedVariables false

theorem cell_alloc {w : World} {a : Addr} {v : Value} (h : w.cell? a = some v) (o : Obj) : (w.alloc o).cell? a = some v :=
  (World.cell?_of_block (w := w) (Below.heap_alloc w o _ (World.block_lt_of_cell? w _ h))).trans h
/-- The eight cells of a device. -/
theorem dev_cells {w : World} {p : Nat} {v0 v1 v2 v3 v4 v5 v6 v7 : Value} (h : w.heap[p]? = some (.cells #[v0, v1, v2, v3, v4, v5, v6, v7] 67 (0, 0))) :
    w.cell? ⟨p, 0, none⟩ = some v0 ∧ w.cell? ⟨p, 1, none⟩ = some v1 ∧ w.cell? ⟨p, 2, none⟩ = some v2 ∧ w.cell? ⟨p, 3, none⟩ = some v3 ∧ w.cell? ⟨p, 4, none⟩ = some v4 ∧ w.cell? ⟨p, 5, none⟩ = some v5 ∧ w.cell? ⟨p, 6, none⟩ = some v6 ∧ w.cell? ⟨p, 7, none⟩ = some v7 := by
  exact ⟨cell_of_block h 0, cell_of_block h 1, cell_of_block h 2, cell_of_block h 3, cell_of_block h 4, cell_of_block h 5, cell_of_block h 6, cell_of_block h 7⟩

set_option maxHeartbeats 400000 in
theorem len_any (w : World) (R : Nat → Nat) (o p : Nat) (d : Dv) (h : IsDev w R o p d) : Calls Try.prog 25 #[.pointer (some ⟨p, 0, none⟩)] w fun e w' => e = .returned (.int .i64 d.safe.length) ∧ w = w' := by
  obtain ⟨bs, cs, bl, cl, lv, fp, h5, h1, h2, h3, h4, _⟩ := h
  obtain ⟨c0, c1, c2, c3, c4, c5, c6, c7⟩ := dev_cells h5
  clear h5
  go_enter Try.func25, Try.ntmps25
  go_wp2
  go_ret
  exact ⟨rfl, rfl⟩
set_option maxHeartbeats 400000 in
theorem len_nil (w : World) : Calls Try.prog 25 #[.pointer none] w fun e w' => e = .returned (.int .i64 0) ∧ w = w' := by
  go_enter Try.func25, Try.ntmps25
  go_wp2
  go_ret
  exact ⟨rfl, rfl⟩
set_option maxHeartbeats 400000 in
theorem isOn_any (w : World) (R : Nat → Nat) (o p : Nat) (d : Dv) (h : IsDev w R o p d) : Calls Try.prog 22 #[.pointer (some ⟨p, 0, none⟩)] w fun e w' => e = .returned (.bool d.on) ∧ w = w' := by
  obtain ⟨bs, cs, bl, cl, lv, fp, h5, h1, h2, h3, h4, _⟩ := h
  obtain ⟨c0, c1, c2, c3, c4, c5, c6, c7⟩ := dev_cells h5
  clear h5
  go_enter Try.func22, Try.ntmps22
  go_wp2
  go_ret
  exact ⟨rfl, rfl⟩
set_option maxHeartbeats 400000 in
theorem isOn_nil (w : World) : Calls Try.prog 22 #[.pointer none] w fun e w' => e = .returned (.bool false) ∧ w = w' := by
  go_enter Try.func22, Try.ntmps22
  go_wp2
  go_ret
  exact ⟨rfl, rfl⟩
set_option maxHeartbeats 400000 in
theorem loose_any (w : World) (R : Nat → Nat) (o p : Nat) (d : Dv) (h : IsDev w R o p d) : Calls Try.prog 23 #[.pointer (some ⟨p, 0, none⟩)] w fun e w' => e = .returned (.int .i64 d.loose.length) ∧ w = w' := by
  obtain ⟨bs, cs, bl, cl, lv, fp, h5, h1, h2, h3, h4, _, _, h8, _⟩ := h
  obtain ⟨a, c, rfl⟩ := owns_form h8
  obtain ⟨c0, c1, c2, c3, c4, c5, c6, c7⟩ := dev_cells h5
  clear h5 h8
  go_enter Try.func23, Try.ntmps23
  go_wp2
  go_ret
  exact ⟨rfl, rfl⟩
set_option maxHeartbeats 400000 in
theorem loose_nil (w : World) : Calls Try.prog 23 #[.pointer none] w fun e w' => e = .returned (.int .i64 0) ∧ w = w' := by
  go_enter Try.func23, Try.ntmps23
  go_wp2
  go_ret
  exact ⟨rfl, rfl⟩
set_option maxHeartbeats 400000 in
theorem has_any (w : World) (R : Nat → Nat) (o p : Nat) (d : Dv) (h : IsDev w R o p d) (z : Int) : Calls Try.prog 33 #[.pointer (some ⟨p, 0, none⟩), .int .i64 z] w fun e w' => e = .returned (.bool (decide (0 ≤ z) && decide (z < (d.safe.length : Int)))) ∧ w = w' := by
  obtain ⟨bs, cs, bl, cl, lv, fp, h5, h1, h2, h3, h4, _⟩ := h
  obtain ⟨c0, c1, c2, c3, c4, c5, c6, c7⟩ := dev_cells h5
  clear h5
  by_cases hz : 0 ≤ z
  · have hz1 : decide (0 ≤ z) = true := by simpa using hz
    go_enter Try.func33, Try.ntmps33
    go_wp2
    go_ret
    exact ⟨by simp [hz], rfl⟩
  · have hz1 : decide (0 ≤ z) = false := by simpa using hz
    go_enter Try.func33, Try.ntmps33
    go_wp2
    go_ret
    exact ⟨by simp, rfl⟩
set_option maxHeartbeats 400000 in
theorem count_any (w : World) (R : Nat → Nat) (o p : Nat) (d : Dv) (h : IsDev w R o p d) : Calls Try.prog 26 #[.pointer (some ⟨p, 0, none⟩)] w fun e w' => e = .returned (.agg #[.int .i64 d.reads, .int .i64 d.writes, .int .i64 d.flushes]) ∧ Step noF w w' := by
  obtain ⟨bs, cs, bl, cl, lv, fp, h5, h1, h2, h3, h4, _⟩ := h
  obtain ⟨c0, c1, c2, c3, c4, c5, c6, c7⟩ := dev_cells h5
  have k5 := fun o => cell_alloc c5 o
  have k6 := fun o => cell_alloc c6 o
  have k7 := fun o => cell_alloc c7 o
  clear h5
  go_enter Try.func26, Try.ntmps26
  go_wp2
  refine bodyPost_ret (results_cell_row rfl _ _ w.heap.size 51 _ (0, 0) _ rfl (block_alloc_new _ _) Try.underlying51 rfl (by kernel_rfl)) rfl ?_
  exact ⟨rfl, (Step.refl _ _).alloc _⟩
set_option maxHeartbeats 400000 in
theorem count_nil (w : World) : Calls Try.prog 26 #[.pointer none] w fun e w' => e = .returned (.agg #[.int .i64 0, .int .i64 0, .int .i64 0]) ∧ Step noF w w' := by
  go_enter Try.func26, Try.ntmps26
  go_wp2
  refine bodyPost_ret (results_cell_row rfl _ _ w.heap.size 51 _ (0, 0) _ rfl (block_alloc_new _ _) Try.underlying51 rfl (by kernel_rfl)) rfl ?_
  exact ⟨rfl, (Step.refl _ _).alloc _⟩

theorem Step.setHead {R : Nat → Nat} {o p : Nat} {a b : World} (h : Step (Rng R o) a b) (hp : R p = o + 1) (j : Nat) (v : Value) : Step (Rng R o) a (b.setCell ⟨p, j, none⟩ v) := h.setCell (p := ⟨p, j, none⟩) (.inl (by show o < R p ∧ R p ≤ o + 6; omega)) v
theorem Step.setOneF {p : Nat} {a b : World} (h : Step (oneF p) a b) (j : Nat) (v : Value) : Step (oneF p) a (b.setCell ⟨p, j, none⟩ v) := h.setCell (p := ⟨p, j, none⟩) (.inl rfl) v

/-- The power comes. -/
def comeD (d : Dv) : Dv := if d.on then d else { d with on := true, fuse := none }
set_option maxHeartbeats 400000 in
theorem come_any (w : World) (R : Nat → Nat) (o p : Nat) (d : Dv) (h : IsDev w R o p d) : Calls Try.prog 16 #[.pointer (some ⟨p, 0, none⟩)] w fun e w' => e = .returned (.tuple #[]) ∧ Step (Rng R o) w w' ∧ IsDev w' R o p (comeD d) := by
  cases hon : d.on
  · have H := hid h
    obtain ⟨bs, cs, bl, cl, lv, fp, h5, hP⟩ := h
    have hp := hid (lt_of_block h5)
    obtain ⟨c0, c1, c2, c3, c4, c5, c6, c7⟩ := dev_cells h5
    have f3 := frozen_of_block h5 3
    have f4 := frozen_of_block h5 4
    have h1 := hid hP.1
    have HP := hid hP
    have H5 := hid h5
    clear hP h5
    rw [hon] at c3
    go_enter Try.func16, Try.ntmps16
    go_wp2
    go_end0
    refine ⟨rfl, ((Step.refl _ _).setHead h1.out _ _).setHead h1.out _ _, bs, cs, bl, cl, lv, none, ?_, ?_⟩
    · have := block_setCell (block_setCell H5.out 3 (.bool true)) 4 (.pointer none)
      simpa [Head, comeD, hon] using this
    · have := (HP.out.head hp.out (((Step.refl _ _).setOneF 3 (.bool true)).setOneF 4 (.pointer none))).unfuse
      simpa [comeD, hon] using this
  · have H := hid h
    obtain ⟨bs, cs, bl, cl, lv, fp, h5, h1, _⟩ := h
    obtain ⟨c0, c1, c2, c3, c4, c5, c6, c7⟩ := dev_cells h5
    rw [hon] at c3
    clear h5
    go_enter Try.func16, Try.ntmps16
    go_wp2
    refine bodyPost_ret (results_none rfl _ _ _) rfl ?_
    exact ⟨rfl, Step.refl _ _, by simpa [comeD, hon] using H.out⟩
set_option maxHeartbeats 400000 in
theorem come_nil (w : World) : Calls Try.prog 16 #[.pointer none] w fun e w' => e = .returned (.tuple #[]) ∧ w = w' := by
  go_enter Try.func16, Try.ntmps16
  go_wp2
  refine bodyPost_ret (results_none rfl _ _ _) rfl ?_
  exact ⟨rfl, rfl⟩

/-- What is read: the block as it was last written, or nothing. -/
def inB (d : Dv) (z : Int) : Bool := decide (0 ≤ z) && decide (z < (d.safe.length : Int))
def readV (d : Dv) (z : Int) : List UInt8 := if inB d z && d.on then (flushL d.safe d.loose).getD z.toNat [] else []
def readE (d : Dv) (z : Int) : Int := if inB d z then (if d.on then 0 else 4) else 3
def readD (d : Dv) (z : Int) : Dv := if inB d z && d.on then { d with reads := d.reads + 1 } else d

set_option maxHeartbeats 400000 in
theorem read_nil (z : Int) (w : World) : Calls Try.prog 17 #[.pointer none, .int .i64 z] w fun e w' => e = .returned (.tuple #[.string (str []), .int .i64 2]) ∧ w = w' := by
  go_enter Try.func17, Try.ntmps17
  go_wp2
  go_ret2
  exact ⟨rfl, rfl⟩
set_option maxHeartbeats 400000 in
theorem read_any (w : World) (R : Nat → Nat) (o p : Nat) (d : Dv) (h : IsDev w R o p d) (hw : Wf d) (z : Int) : Calls Try.prog 17 #[.pointer (some ⟨p, 0, none⟩), .int .i64 z] w fun e w' => e = .returned (.tuple #[.string (str (readV d z)), .int .i64 (readE d z)]) ∧ Step (Rng R o) w w' ∧ IsDev w' R o p (readD d z) := by
  have H := hid h
  have hhas := has_any w R o p d h z
  obtain ⟨bs, cs, bl, cl, lv, fp, h5, hP⟩ := h
  have hp := hid (lt_of_block h5)
  obtain ⟨c0, c1, c2, c3, c4, c5, c6, c7⟩ := dev_cells h5
  cases hin : inB d z
  · unfold inB at hin
    rw [hin] at hhas
    clear h5 hP
    go_enter Try.func17, Try.ntmps17
    go_wp2_with (go_at_call 33; refine hhas.mono ?_; rintro e w' ⟨rfl, rfl⟩)
    go_ret2
    refine ⟨?_, Step.refl _ _, ?_⟩
    · simp only [readV, readE, inB, hin]; rfl
    · simp only [readD, inB, hin]; exact H.out
  · have hin' : inB d z = true := hin
    unfold inB at hin
    rw [hin] at hhas
    have hz : 0 ≤ z ∧ z < (d.safe.length : Int) := by simpa using hin
    cases hon : d.on
    · rw [hon] at c3
      clear h5 hP hin
      go_enter Try.func17, Try.ntmps17
      go_wp2_with (go_at_call 33; refine hhas.mono ?_; rintro e w' ⟨rfl, rfl⟩)
      go_ret2
      refine ⟨?_, Step.refl _ _, ?_⟩
      · simp only [readV, readE, hon, hin']; rfl
      · simp only [readD, hin', hon]; exact H.out
    · rw [hon] at c3
      obtain ⟨j, rfl⟩ := Int.eq_ofNat_of_zero_le hz.1
      have hj : j < d.safe.length := by omega
      have f5 := frozen_of_block h5 5
      have hlj : j < (flushL d.safe d.loose).length := by rw [flushL_length]; exact hj
      have hcj := hP.2.2.2.2.2.1.cell j (by rw [strs_length]; exact hlj)
      rw [strs_at] at hcj
      have hne : ¬ bl = p := fun e => by have := hP.1; have := hP.2.2.1; subst e; omega
      have hV : Hid (readV d j = (flushL d.safe d.loose)[j]) := by show _ = _; simp [readV, hin', hon, List.getD_eq_getElem?_getD, hlj]
      obtain ⟨X, hX⟩ : ∃ X, str (flushL d.safe d.loose)[j] = X := ⟨_, rfl⟩
      rw [hX] at hcj
      have HX := hid hX
      have hr := hw.cr
      have h1 := hid hP.1
      have HP := hid hP
      have H5 := hid h5
      have k1 : (w.setCell ⟨p, 5, none⟩ (.int .i64 (d.reads + 1))).cell? ⟨bl, j, none⟩ = some (.string X) := (World.cell?_of_block (w := w) (Below.heap_setCell _ _ _ _ hne)).trans hcj
      clear h5 hP hin hX hcj
      go_enter Try.func17, Try.ntmps17
      go_wp2_with (go_at_call 33; refine hhas.mono ?_; rintro e w' ⟨rfl, rfl⟩)
      go_ret2
      refine ⟨?_, (Step.refl _ _).setHead h1.out _ _, bs, cs, bl, cl, lv, fp, ?_, ?_⟩
      · rw [hV.out, HX.out]; simp [readE, hin', hon]
      · have := block_setCell H5.out 5 (.int .i64 ((d.reads + 1 : Nat) : Int))
        simpa [Head, readD, hin', hon] using this
      · have := (HP.out.head hp.out ((Step.refl _ _).setOneF 5 (.int .i64 ((d.reads + 1 : Nat) : Int))))
        simpa [readD, hin', hon] using this
end Go.Proofs.Ythgcpeibjnflaaa
