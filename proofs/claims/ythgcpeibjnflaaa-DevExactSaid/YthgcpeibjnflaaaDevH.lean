/-
  What a device does, 6: Fuse; At. And the law's own block.
-/
import Derived.Test.YthgcpeibjnflaaaDevG
namespace Go.Proofs.Ythgcpeibjnflaaa
open Go.RowKit
set_option linter.unusedVariables false

/-- There is that fuse. -/
def fuseD (d : Dv) (z : Int) (ks : List Bool) : Dv := { d with fuse := if 0 ≤ z then some (z.toNat, ks) else none }
set_option maxHeartbeats 400000 in
theorem fuse_nil (w : World) (v u : Value) : Calls Try.prog 15 #[.pointer none, v, u] w fun e w' => e = .returned (.tuple #[]) ∧ w = w' := by
  go_enter Try.func15, Try.ntmps15
  go_wp2
  refine bodyPost_ret (results_none rfl _ _ _) rfl ?_
  exact ⟨rfl, rfl⟩
set_option maxHeartbeats 1000000 in
theorem fuse_any (w : World) (R : Nat → Nat) (o p : Nat) (d : Dv) (h : IsDev w R o p d) (z : Int) (a : Option Addr) (c : Nat) (ks : List Bool) (hkl : ks.length ≤ 1000) (G : Nat → Prop) (hr : RowAt w G a (bools ks)) (hG : ¬ G p → False) :
    Calls Try.prog 15 #[.pointer (some ⟨p, 0, none⟩), .int .i64 z, .slice a ks.length c] w fun e w' => e = .returned (.tuple #[]) ∧ Step (Rng R o) w w' ∧ ∃ R', (∀ k, k < w.heap.size → R' k = R k) ∧ IsDev w' R' o p (fuseD d z ks) := by
  obtain ⟨bs, cs, bl, cl, lv, fp, h5, hP⟩ := h
  have hp := lt_of_block h5
  obtain ⟨c0, c1, c2, c3, c4, c5, c6, c7⟩ := dev_cells h5
  have f4 := frozen_of_block h5 4
  have r1 := hP.1
  have H5 := hid h5
  have HP := hid hP
  have hs0 := (Step.refl (oneF p) w).setOneF 4 (.pointer none)
  have hb0 := block_setCell h5 4 (.pointer none)
  clear h5 hP
  by_cases hz : 0 ≤ z
  · obtain ⟨n, rfl⟩ := Int.eq_ofNat_of_zero_le hz
    have hcl := cloneB_lib a c ks noF (w.setCell ⟨p, 4, none⟩ (.pointer none)) (rowAt_keep hr (fun k hk hF => ⟨hs0.block k hk (fun e => by unfold oneF at e; subst e; exact hG hF), fun x => x⟩)) hkl
    have hB0 := hid hb0
    have hf4 := frozen_of_block hb0 4
    have hc4 : (w.setCell ⟨p, 4, none⟩ (.pointer none)).cell? ⟨p, 4, none⟩ = some (.pointer none) := by
      have := cell_of_block hb0 4
      simpa using this
    clear hb0
    go_enter Try.func15, Try.ntmps15
    go_wp2_with (go_at_call 32; fail)
    refine hcl.mono ?_
    rintro e w1 ⟨a', c', rfl, hc', hr', s1⟩
    have hb1 := (s1.block p (lt_of_block hB0.out) (fun x => x)).trans hB0.out
    have hp1 := hid (lt_of_block hb1)
    have k4 := fun ob => cell_alloc (s1.after hc4) ob
    have j4 : ∀ ob, (w1.alloc ob).frozen? ⟨p, 4, none⟩ = false := fun ob => frozen_of_block (block_alloc_old hb1 ob) 4
    have HB1 := hid hb1
    clear hb1
    go_wp2_with fail
    go_end0
    have hw1 : w.heap.size ≤ w1.heap.size := by have := s1.size; simpa [World.setCell] using this
    have hS : Step (oneF p) w1 ((w1.alloc (.cells #[.int .i64 n, .slice a' ks.length c'] 74)).setCell ⟨p, 4, none⟩ (.pointer (some ⟨w1.heap.size, 0, none⟩))) := ((Step.refl (oneF p) w1).alloc _).setOneF 4 _
    have hS2 : Step (oneF p) w ((w1.alloc (.cells #[.int .i64 n, .slice a' ks.length c'] 74)).setCell ⟨p, 4, none⟩ (.pointer (some ⟨w1.heap.size, 0, none⟩))) := (hs0.then s1 (fun k hk => hk.elim)).trans hS
    have hpw : p < w1.heap.size := hp1.out
    refine ⟨rfl, hS2.mono (fun k hk => .inl (by unfold oneF at hk; subst hk; show o < R k ∧ R k ≤ o + 6; omega)), fun k => if k < w.heap.size then R k else if k = w1.heap.size then o + 5 else o + 6, fun k hk => if_pos hk, bs, cs, bl, cl, lv, some ⟨w1.heap.size, 0, none⟩, ?_, ?_⟩
    · have := block_setCell (block_alloc_old HB1.out (.cells #[.int .i64 n, .slice a' ks.length c'] 74)) 4 (.pointer (some ⟨w1.heap.size, 0, none⟩))
      simpa [Head, fuseD] using this
    · obtain ⟨e1, e2, e3, e4, e5, e6, e7, e8, e9⟩ := HP.out.unfuse.mono (R' := fun k => if k < w.heap.size then R k else if k = w1.heap.size then o + 5 else o + 6) hp hS2 (fun k a b e => by unfold oneF at e; subst e; omega) (fun k hk => if_pos hk)
      refine ⟨e1, e2, e3, e4, e5, e6, e7, ?_, e9⟩
      have hfd : (fuseD d n ks).fuse = some (n, ks) := by simp [fuseD]
      rw [hfd]
      refine ⟨w1.heap.size, a', c', rfl, ?_, ?_, hc', ?_⟩
      · show (if _ then _ else _) = _
        rw [if_neg (by omega), if_pos rfl]
      · rw [Below.heap_setCell _ _ _ _ (show ¬ w1.heap.size = p by omega)]
        exact block_alloc_new _ _
      · refine rowAt_keep hr' (fun k hk hF => ⟨hS.block k hk (fun e => by unfold oneF at e; subst e; exact hF (by simpa [World.setCell] using hp)), fun x => x ?_⟩)
        have hkw : ¬ k < w.heap.size := fun e => hF (by simpa [World.setCell] using e)
        show (if _ then _ else _) = _
        rw [if_neg hkw, if_neg (by omega)]
  · have hz2 : ¬ 0 ≤ z := hz
    have HFD : Hid ((fuseD d z ks).fuse = none) := by show (if _ then _ else _) = _; rw [if_neg hz]
    have HB0 := hid hb0
    clear hb0
    go_enter Try.func15, Try.ntmps15
    go_wp2
    go_end0
    refine ⟨rfl, hs0.mono (fun k hk => .inl (by unfold oneF at hk; subst hk; show o < R k ∧ R k ≤ o + 6; omega)), R, fun _ _ => rfl, bs, cs, bl, cl, lv, none, ?_, ?_⟩
    · simpa [Head, fuseD] using HB0.out
    · have := (HP.out.head hp hs0).unfuse
      rw [HFD.out]
      exact this

theorem info_int : (Try.prog.info? 3).map (fun i => (i.zero, i.size, i.bytes)) = some (some (.int .i64 0), 1, 8) := by kernel_rfl
theorem mk_ints (n : Nat) (h8 : n ≤ 1000) (u : World) : (Instr.makeSlice 46 (.int .i64 n) (.int .i64 n)).run Try.prog u =
      .ok (.slice (some ⟨u.heap.size, 0, none⟩) n n) (u.alloc (.cells (madeCells #[.int .i64 0] n) 3)) := by
  obtain ⟨i0, hi, hz0, hz1, hz2⟩ := info_three info_int
  have h := run_make (P := Try.prog) u 46 3 i0 (.int .i64 0) Try.underlying46 hi hz0 .i64 .i64 n n (by omega) (Int.le_refl _) (by rw [hz2]; omega) (by omega)
  simpa [hz1, Value.cells] using h
def atsOf (ws : List (Nat × List UInt8)) : List Value := ws.map fun x => Value.int .i64 x.1
set_option maxHeartbeats 400000 in
theorem at_nil (w : World) : Calls Try.prog 21 #[.pointer none] w fun e w' => e = .returned (.slice none 0 0) ∧ w = w' := by
  go_enter Try.func21, Try.ntmps21
  go_wp2
  go_ret
  exact ⟨rfl, rfl⟩
set_option maxHeartbeats 1000000 in
theorem at_any (w : World) (R : Nat → Nat) (o p : Nat) (d : Dv) (h : IsDev w R o p d) (hw : Wf d) :
    Calls Try.prog 21 #[.pointer (some ⟨p, 0, none⟩)] w fun e w' => ∃ g, e = .returned (.slice (some ⟨g, 0, none⟩) d.loose.length d.loose.length) ∧ w.heap.size ≤ g ∧ Step noF w w' ∧ RowIn w' g 3 (atsOf d.loose) := by
  obtain ⟨bs, cs, bl, cl, lv, fp, h5, hP⟩ := h
  obtain ⟨c0, c1, c2, c3, c4, c5, c6, c7⟩ := dev_cells h5
  obtain ⟨r1, r2, r3, r4, q1, q2, q3, q4, q5⟩ := hP
  obtain ⟨la, lc, rfl⟩ := owns_form q3
  have hll := hw.ll
  have hmk := mk_ints d.loose.length hll
  have k2 := fun ob => cell_alloc c2 ob
  have Q3 := hid q3
  clear h5 q1 q2 q4 q3
  go_enter Try.func21, Try.ntmps21
  go_wp2
  go_loopw [4, 5, 19] (fun _ _ i wr => ∃ j : Nat, j ≤ d.loose.length ∧ i = .int .i64 j ∧ Step noF w wr ∧ ∃ A : Array Value, wr.heap[w.heap.size]? = some (.cells A 3 (0, 0)) ∧ A.toList = atsOf (d.loose.take j) ++ List.replicate (d.loose.length - j) (.int .i64 0)) (fun _ _ i _ => d.loose.length - (intOf i).toNat)
  case atStart => exact ⟨0, Nat.zero_le _, rfl, (Step.refl _ _).alloc _, _, block_alloc_new _ _, by rw [toList_madeCells_one]; simp [atsOf]⟩
  case round =>
    obtain ⟨j, hj, rfl, hst, A, hblk, hA⟩ := hrel
    by_cases hjn : j < d.loose.length
    · have hji : (j : Int) < (d.loose.length : Int) := by omega
      obtain ⟨g, c', hv, x0, x1⟩ := loose_cells Q3.out j hjn
      injection hv with hv1 _ hv2
      subst hv1 hv2
      have y0 := hst.after x0
      have y1 := hst.after x1
      obtain ⟨at_, hat⟩ : ∃ at_, d.loose[j].1 = at_ := ⟨_, rfl⟩
      obtain ⟨X, hX⟩ : ∃ X, str d.loose[j].2 = X := ⟨_, rfl⟩
      rw [hat] at y0
      rw [hX] at y1
      have hsz : A.size = d.loose.length := by rw [← Array.length_toList, hA]; simp [atsOf]; omega
      obtain ⟨u, hc⟩ : ∃ u, wr.cell? ⟨w.heap.size, j, none⟩ = some u := ⟨_, (cell_of_block hblk j).trans (Array.getElem?_eq_getElem (by omega))⟩
      have kc := fun ob => cell_alloc hc ob
      have hf : ∀ ob, (wr.alloc ob).frozen? ⟨w.heap.size, j, none⟩ = false := fun ob => frozen_of_block (block_alloc_old hblk ob) j
      have HB := hid hblk
      have HA := hid hA
      have hwl : w.heap.size < wr.heap.size := lt_of_block hblk
      clear hblk hA x0 x1
      go_wp2
      go_roundw
      case rel =>
        refine ⟨j + 1, by omega, int_eq (by omega), (hst.setCell (p := ⟨w.heap.size, j, none⟩) (.inr (Nat.le_refl _)) _).alloc _, _, block_alloc_old (block_setCell HB.out _ _) _, ?_⟩
        rw [Array.toList_setIfInBounds, HA.out, take_snoc _ _ hjn]
        have hl : (atsOf (d.loose.take j)).length = j := by simp [atsOf]; omega
        have := set_next (atsOf (d.loose.take j)) (d.loose.length - (j + 1)) (.int .i64 0) (.int .i64 at_)
        rw [hl, show d.loose.length - (j + 1) + 1 = d.loose.length - j by omega] at this
        rw [this, show atsOf (d.loose.take j ++ [d.loose[j]]) = atsOf (d.loose.take j) ++ [.int .i64 at_] by rw [atsOf, List.map_append, List.map_cons, List.map_nil, hat]; rfl]
      case measure => simp [intOf]; omega
    · obtain rfl : j = d.loose.length := by omega
      go_wp2
      go_ret
      exact ⟨_, rfl, Nat.le_refl _, hst, A, [], hblk, by rw [hA, List.take_of_length_le (Nat.le_refl _)]; simp⟩

/-- A block of one byte. -/
def blk (b : UInt8) : List UInt8 := List.replicate 256 b
theorem blk_len (b : UInt8) : (blk b).length = 256 := List.length_replicate
theorem info_u8 : (Try.prog.info? 5).map (fun i => (i.zero, i.size, i.bytes)) = some (some (.int .u8 0), 1, 1) := by kernel_rfl
theorem mk_bytes (c : Nat) (h8 : c ≤ 1000000) (u : World) : (Instr.makeSlice 56 (.int .i64 c) (.int .i64 c)).run Try.prog u =
      .ok (.slice (some ⟨u.heap.size, 0, none⟩) c c) (u.alloc (.cells (madeCells #[.int .u8 0] c) 5)) := by
  obtain ⟨i0, hi, hz0, hz1, hz2⟩ := info_three info_u8
  have h := run_make (P := Try.prog) u 56 5 i0 (.int .u8 0) Try.underlying56 hi hz0 .i64 .i64 c c (by omega) (Int.le_refl _) (by rw [hz2]; omega) (by omega)
  simpa [hz1, Value.cells] using h
set_option maxHeartbeats 1000000 in
theorem block_any (b : UInt8) (w : World) : Calls Try.prog 19 #[.int .u8 b.toNat] w fun e w' => e = .returned (.string (str (blk b))) ∧ Step noF w w' := by
  obtain ⟨M, hM⟩ : ∃ M, madeCells #[.int .u8 0] 256 = M := ⟨_, rfl⟩
  have hmk : ∀ u : World, (Instr.makeSlice 56 (.int .i64 256) (.int .i64 256)).run Try.prog u = .ok (.slice (some ⟨u.heap.size, 0, none⟩) 256 256) (u.alloc (.cells M 5)) := fun u => by rw [← hM]; exact mk_bytes 256 (by omega) u
  have HM := hid hM
  clear hM
  obtain ⟨z, hz⟩ : ∃ z : Int, (b.toNat : Int) = z := ⟨_, rfl⟩
  rw [hz]
  go_enter Try.func19, Try.ntmps19
  go_wp2
  go_loopw [4] (fun i wr => ∃ j : Nat, j ≤ 256 ∧ i = .int .i64 j ∧ Step noF w wr ∧ ∃ A : Array Value, wr.heap[w.heap.size]? = some (.cells A 5 (0, 0)) ∧ A.toList = List.replicate j (.int .u8 z) ++ List.replicate (256 - j) (.int .u8 0)) (fun i _ => 256 - (intOf i).toNat)
  case atStart => exact ⟨0, Nat.zero_le _, rfl, (Step.refl _ _).alloc _, _, block_alloc_new _ _, by rw [← HM.out, toList_madeCells_one]; rfl⟩
  case round =>
    obtain ⟨j, hj, rfl, hst, A, hblk, hA⟩ := hrel
    by_cases hjn : j < 256
    · have hji : (j : Int) < 256 := by omega
      have hsz : A.size = 256 := by rw [← Array.length_toList, hA]; rw [List.length_append, List.length_replicate, List.length_replicate]; omega
      obtain ⟨u, hc⟩ : ∃ u, wr.cell? ⟨w.heap.size, j, none⟩ = some u := ⟨_, (cell_of_block hblk j).trans (Array.getElem?_eq_getElem (by omega))⟩
      have hf := frozen_of_block hblk j
      have HB := hid hblk
      have HA := hid hA
      clear hblk hA hsz
      go_wp2
      go_roundw
      case rel =>
        refine ⟨j + 1, by omega, int_eq (by omega), hst.setCell (p := ⟨w.heap.size, j, none⟩) (.inr (Nat.le_refl _)) _, _, block_setCell HB.out _ _, ?_⟩
        rw [Array.toList_setIfInBounds, HA.out]
        have := set_next (List.replicate j (Value.int .u8 z)) (256 - (j + 1)) (.int .u8 0) (.int .u8 z)
        rw [List.length_replicate, show 256 - (j + 1) + 1 = 256 - j by omega] at this
        rw [this, List.replicate_succ']
      case measure => simp [intOf]; omega
    · obtain rfl : j = 256 := by omega
      have hs := run_string_row (P := Try.prog) wr 56 9 5 5 (0, 0) Try.underlying56 Try.underlying5 Try.underlying9 w.heap.size 256 256 A (blk b) hblk (by rw [hA, ← hz, cellsOf, blk, List.map_replicate, Nat.sub_self]; exact List.append_nil _) (blk_len b).symm
      clear hblk hA
      go_wp2
      go_ret
      exact ⟨rfl, hst⟩
end Go.Proofs.Ythgcpeibjnflaaa
