/-
  A device is made: slices.Repeat, made, New, Of; Image.
-/
import Derived.Test.YthgcpeibjnflaaaDevB
import Derived.Test.YthgcpeibjnflaaaDevL
import Derived.Laws.CopyOwn
namespace Go.Proofs.Ythgcpeibjnflaaa
open Go.RowKit
set_option linter.unusedVariables false

theorem info_str : (Try.prog.info? 9).map (fun i => (i.zero, i.size, i.bytes)) = some (some (.string ⟨#[]⟩), 1, 16) := by kernel_rfl
theorem size_str : (Try.prog.info? 9).map (·.size) = some 1 := by kernel_rfl
theorem mk_strs (n : Nat) (h8 : n ≤ 1000) (u : World) : (Instr.makeSlice 62 (.int .i64 n) (.int .i64 n)).run Try.prog u =
      .ok (.slice (some ⟨u.heap.size, 0, none⟩) n n) (u.alloc (.cells (madeCells #[.string ⟨#[]⟩] n) 9)) := by
  obtain ⟨i0, hi, hz0, hz1, hz2⟩ := info_three info_str
  have h := run_make (P := Try.prog) u 62 9 i0 (.string ⟨#[]⟩) Try.underlying62 hi hz0 .i64 .i64 n n (by omega) (Int.le_refl _) (by rw [hz2]; omega) (by omega)
  simpa [hz1, Value.cells] using h

theorem set_seg (n m k : Nat) (X z : Value) (hk : m + k ≤ n) : (List.replicate m X ++ List.replicate (n - m) z).take m ++ List.replicate k X ++ (List.replicate m X ++ List.replicate (n - m) z).drop (m + k) = List.replicate (m + k) X ++ List.replicate (n - (m + k)) z := by
  rw [List.take_left' (by simp), List.drop_append, List.replicate_append_replicate]
  simp [show n - m - k = n - (m + k) by omega, show m - (m + k) = 0 by omega]

set_option maxHeartbeats 2000000 in
theorem rep_any (g : Nat) (X : ByteArray) (n : Nat) (hn : 1 ≤ n) (hn2 : n ≤ 512) (w : World) (hc : w.cell? ⟨g, 0, none⟩ = some (.string X)) :
    Calls Try.prog 35 #[.slice (some ⟨g, 0, none⟩) 1 1, .int .i64 n] w fun e w' => e = .returned (.slice (some ⟨w.heap.size, 0, none⟩) n n) ∧ Step noF w w' ∧ RowIn w' w.heap.size 9 (List.replicate n (.string X)) := by
  have hmk := mk_strs n (by omega)
  have hmul := fun (u : World) => (Any.bits_Mul Try.lays212 1 n (by omega) (by omega) u).mono (fun e w' h => (⟨h.1, h.2.symm⟩ : _ ∧ u = w'))
  simp only [Nat.one_mul, show n / 18446744073709551616 = 0 by omega, show n % 18446744073709551616 = n by omega] at hmul
  have hc2 := fun o => cell_alloc hc o
  have hw1 : IntKind.u64.wrap (n : Int) = (n : Int) := by simp [IntKind.wrap, IntKind.bits, IntKind.signed]; omega
  have hw2 : IntKind.i64.wrap (n : Int) = (n : Int) := by simp [IntKind.wrap, IntKind.bits, IntKind.signed]; omega
  have hcp := run_copy_row (P := Try.prog) (w.alloc (.cells (madeCells #[.string ⟨#[]⟩] n) 9)) 62 62 3 9 w.heap.size 0 n n ⟨g, 0, none⟩ 1 1 _ 9 [.string X] Try.underlying62 size_str (block_alloc_new _ _) (by show 1 = min 1 n; omega)
    (by intro j v hj; cases j with
        | zero => simp at hj; subst hj; exact hc2 _
        | succ j => simp at hj) (by rw [← Array.length_toList, toList_madeCells_one]; simp; omega) (by simp [Value.oneCell'])
  go_enter Try.func35, Try.ntmps35
  go_wp2_with (go_at_call 41; refine (hmul _).mono ?_; rintro e w' ⟨rfl, rfl⟩)
  go_loopw [8] (fun i wr => ∃ m : Nat, 1 ≤ m ∧ m ≤ n ∧ i = .int .i64 m ∧ Step noF w wr ∧ ∃ L : List Value, wr.heap[w.heap.size]? = some (.cells L.toArray 9 (0, 0)) ∧ L = List.replicate m (.string X) ++ List.replicate (n - m) (.string ⟨#[]⟩)) (fun i _ => n - (intOf i).toNat)
  case atStart =>
    refine ⟨1, by omega, hn, rfl, ?_, _, setRow_heap _ _ _ _ _ _ (block_alloc_new _ _), ?_⟩
    · exact Step.ofBelow (below_setRow ((Below.refl _ w).alloc (Nat.le_refl _) _) (Nat.le_refl _) _)
    · rw [toList_madeCells_one]
      obtain ⟨q, rfl⟩ : ∃ q, n = q + 1 := ⟨n - 1, by omega⟩
      simp [List.replicate_succ]
  case round =>
    obtain ⟨m, h1, h2, rfl, hst, L, hblk, hL⟩ := hrel
    by_cases hm : m < n
    · have hmi : (m : Int) < (n : Int) := by omega
      have HL := hid hL
      obtain ⟨k, hk⟩ : ∃ k, min m (n - m) = k := ⟨_, rfl⟩
      have hk1 : 1 ≤ k := by omega
      have hk2 : m + k ≤ n := by omega
      have hnm : ¬ n - m = 0 := by omega
      have hcl : Hid ((List.replicate k (Value.string X)).length = Nat.min m (n - m)) := by show _ = _; rw [List.length_replicate]; exact hk.symm
      have hnm2 : ¬ n = m := by omega
      have hps : Hid (∀ j v, (List.replicate k (Value.string X))[j]? = some v → wr.cell? (Addr.add ⟨w.heap.size, 0, none⟩ j) = some v) := by
        intro j v hj
        have hj1 : j < k := by have := (List.getElem?_eq_some_iff.1 hj).1; simpa using this
        rw [List.getElem?_replicate, if_pos hj1] at hj
        rw [Addr.add_lit, Nat.zero_add, cell_of_block hblk, hL]
        rw [← Array.getElem?_toList, List.getElem?_append_left (by simp; omega), List.getElem?_replicate, if_pos (by omega)]
        exact hj
      have hfit : Hid (m + (List.replicate k (Value.string X)).length ≤ L.length) := by show _ ≤ _; rw [hL]; simp; omega
      have h1c : Hid (∀ v ∈ List.replicate k (Value.string X), v.oneCell' = true) := by
        intro v hv
        rw [List.mem_replicate] at hv
        rw [hv.2]; rfl
      have HB : Hid (Below w.heap.size w wr) := hst.below (fun k hk => hk.elim)
      have hs1 : IntKind.i64.wrap ((m : Int) + k) = ((m + k : Nat) : Int) := by simp [IntKind.wrap, IntKind.bits, IntKind.signed]; omega
      have hs2 : wrap64 ((m : Int) + k) = ((m + k : Nat) : Int) := by unfold wrap64; omega
      have HK := hid hk
      clear hL hk
      go_wp2
      go_region_law (refine step_copy_splice rfl (.tmp 41) (.tmp 44) 62 62 rfl 9 Try.underlying62 size_str (some ⟨w.heap.size, m, none⟩) (some ⟨w.heap.size, 0, none⟩) (n - m) (n - m) m n (by simp [Act.eval, Act.put]) (by simp [Act.eval, Act.put]) w.heap.size m L 9 hblk (List.replicate k (.string X)) hcl.out (fun _ => ⟨rfl, _, rfl, hps.out⟩) hfit.out h1c.out w.heap.size w HB.out.drew (Nat.le_refl _) ?_; intro w4 hg4 hb4)
      go_wp2
      go_roundw
      case rel =>
        (repeat apply Exists.intro)
        refine ⟨⟨m + k, by omega, hk2, int_eq (by omega), Step.ofBelow hb4, _, hg4.out, ?_⟩, rfl⟩
        rw [HL.out, splice, List.length_replicate, ← List.append_assoc]
        exact set_seg n m k _ _ hk2
      case measure => simp [intOf, Act.put]; omega
    · obtain rfl : m = n := by omega
      go_wp2
      go_ret
      refine ⟨rfl, hst, _, [], hblk, ?_⟩
      rw [hL]
      simp

/-- A device that was just made. -/
def newD (xs : List (List UInt8)) : Dv := { safe := xs, loose := [], on := true, fuse := none, reads := 0, writes := 0, flushes := 0 }

set_option maxHeartbeats 1000000 in
theorem made_any (w : World) (R : Nat → Nat) (o g c : Nat) (xs : List (List UInt8)) (h : RowIn w g 9 (strs xs)) (h1 : 1 ≤ xs.length) (h2 : xs.length ≤ 512) (hg : R g = o + 2) (hc : xs.length ≤ c) :
    Calls Try.prog 28 #[.slice (some ⟨g, 0, none⟩) xs.length c] w fun e w' => ∃ p R', (∀ k, k < w.heap.size → R' k = R k) ∧ e = .returned (.pointer (some ⟨p, 0, none⟩)) ∧ Step noF w w' ∧ w.heap.size ≤ p ∧ IsDev w' R' o p (newD xs) := by
  have hcl := clone_lib g c xs w h h1 h2
  go_enter Try.func28, Try.ntmps28
  go_wp2_with (go_at_call 37; refine hcl.mono ?_; rintro e w1 ⟨g2, c2, rfl, hg2, hc2, hr2, s1⟩)
  go_ret
  have hlt : g2 < w1.heap.size := hr2.lt
  have hlg := h.lt
  have hs := s1.size
  refine ⟨w1.heap.size, fun k => if k < w.heap.size then R k else if k = w1.heap.size then o + 1 else o + 3, fun k hk => if_pos hk, rfl, s1.alloc _, s1.size, g, c, g2, c2, .slice none 0 0, none, block_alloc_new _ _, ?_⟩
  refine ⟨?_, ?_, ?_, fun k hk => by simp [Value.ownBlock] at hk, (h.step s1 (fun x => x)).step ((Step.refl noF w1).alloc _) (fun x => x), hr2.step ((Step.refl noF w1).alloc _) (fun x => x), ⟨rfl, .inl ⟨rfl, rfl⟩⟩, rfl, hc⟩
  · show (if _ then _ else _) = _
    rw [if_neg (by omega), if_pos rfl]
  · show (if _ then _ else _) = _
    rw [if_pos hlg]; exact hg
  · show (if _ then _ else _) = _
    rw [if_neg (by omega), if_neg (by omega)]

theorem strs_rep (n : Nat) (l : List UInt8) : List.replicate n (Value.string (str l)) = strs (List.replicate n l) := by simp [strs]

/-- A block of bytes 0. -/
def zeroB : List UInt8 := List.replicate 256 0
theorem zeroB_len : zeroB.length = 256 := List.length_replicate
set_option maxHeartbeats 1000000 in
theorem new_any (z : Int) (n : Nat) (hz : z = n) (h1 : 1 ≤ n) (h2 : n ≤ 512) (w : World) (R : Nat → Nat) (o : Nat) :
    Calls Try.prog 27 #[.int .i64 z] w fun e w' => ∃ p R', (∀ k, k < w.heap.size → R' k = R k) ∧ e = .returned (.pointer (some ⟨p, 0, none⟩)) ∧ Step noF w w' ∧ w.heap.size ≤ p ∧ IsDev w' R' o p (newD (List.replicate n zeroB)) := by
  subst hz
  obtain ⟨Z, hZ⟩ : ∃ Z, str zeroB = Z := ⟨_, rfl⟩
  have hrep : ∀ u, Calls Try.prog 36 #[.string ⟨#[0]⟩, .int .i64 256] u fun e w' => e = .returned (.string Z) ∧ Step noF u w' := fun u => by rw [← hZ]; exact repeat_lib u
  have k1 : ¬ (n : Int) < 1 := by omega
  have k2 : ¬ (512 : Int) < (n : Int) := by omega
  go_enter Try.func27, Try.ntmps27
  go_wp2_with fail
  refine (hrep _).mono ?_
  rintro e w1 ⟨rfl, s1⟩
  go_wp2_with fail
  refine (rep_any _ Z n h1 h2 _ (cell_of_block (block_alloc_new _ _) 0)).mono ?_
  rintro e w2 ⟨rfl, s2, hr⟩
  have hr' : RowIn w2 (w1.alloc (.cells #[.string Z] 9)).heap.size 9 (strs (List.replicate n zeroB)) := by rw [← strs_rep, hZ]; exact hr
  have hlr : (List.replicate n zeroB).length = n := List.length_replicate
  have s3 := (s1.alloc _).trans s2
  have hsz : w.heap.size ≤ (w1.alloc (.cells #[.string Z] 9)).heap.size := (s1.alloc _).size
  have hm := made_any w2 (fun k => if k < w.heap.size then R k else o + 2) o _ n _ hr' (by rw [hlr]; exact h1) (by rw [hlr]; exact h2) (by show (if _ then _ else _) = _; rw [if_neg (by omega)]) (by rw [hlr]; exact Nat.le_refl _)
  rw [hlr, show (w1.alloc (.cells #[.string Z] 9)).heap.size = w1.heap.size + 1 from by simp] at hm
  go_wp2_with fail
  refine hm.mono ?_
  rintro e w4 ⟨p, R', hR, rfl, s4, hp, hd⟩
  go_wp2_with fail
  go_ret
  exact ⟨p, R', fun k hk => (hR k (Nat.lt_of_lt_of_le hk s3.size)).trans (if_pos hk), rfl, s3.trans s4, Nat.le_trans s3.size hp, hd⟩
set_option maxHeartbeats 1000000 in
theorem new_none (z : Int) (h : z < 1 ∨ 512 < z) (w : World) : Calls Try.prog 27 #[.int .i64 z] w fun e w' => e = .returned (.pointer none) ∧ w = w' := by
  by_cases k1 : z < 1
  · go_enter Try.func27, Try.ntmps27
    go_wp2
    go_ret
    exact ⟨rfl, rfl⟩
  · have k2 : 512 < z := by omega
    go_enter Try.func27, Try.ntmps27
    go_wp2
    go_ret
    exact ⟨rfl, rfl⟩

/-- The whole blocks of bytes. -/
def blocksOf (l : List UInt8) (n : Nat) : List (List UInt8) := (List.range n).map fun i => (l.drop (256 * i)).take 256
theorem blocksOf_length (l : List UInt8) (n : Nat) : (blocksOf l n).length = n := by simp [blocksOf]
theorem blocksOf_succ (l : List UInt8) (n : Nat) : blocksOf l (n + 1) = blocksOf l n ++ [(l.drop (256 * n)).take 256] := by simp [blocksOf, List.range_succ]
theorem blocksOf_256 (l : List UInt8) (n : Nat) (h : 256 * n ≤ l.length) : ∀ x ∈ blocksOf l n, x.length = 256 := by
  intro x hx
  simp only [blocksOf, List.mem_map, List.mem_range] at hx
  obtain ⟨i, hi, rfl⟩ := hx
  rw [List.length_take, List.length_drop]
  omega
theorem blocksOf_flat (l : List UInt8) (n : Nat) (h : 256 * n ≤ l.length) : (blocksOf l n).flatten = l.take (256 * n) := by
  induction n with
  | zero => simp [blocksOf]
  | succ n ih =>
    rw [blocksOf_succ, List.flatten_append, ih (by omega), show 256 * (n + 1) = 256 * n + 256 by omega, List.take_add]
    simp

set_option maxHeartbeats 1000000 in
theorem image_any (w : World) (R : Nat → Nat) (o p : Nat) (d : Dv) (h : IsDev w R o p d) (hw : Wf d) : Calls Try.prog 24 #[.pointer (some ⟨p, 0, none⟩)] w fun e w' => e = .returned (.string (str d.safe.flatten)) ∧ Step noF w w' := by
  obtain ⟨bs, cs, bl, cl, lv, fp, h5, hP⟩ := h
  have hj := join_lib bs cs d.safe w hP.2.2.2.2.1 hw.n2 hw.s hP.2.2.2.2.2.2.2.2
  obtain ⟨c0, c1, c2, c3, c4, c5, c6, c7⟩ := dev_cells h5
  clear h5 hP
  go_enter Try.func24, Try.ntmps24
  go_wp2_with (go_at_call 34; refine hj.mono ?_; rintro e w1 ⟨rfl, s1⟩)
  go_ret
  exact ⟨rfl, s1⟩
set_option maxHeartbeats 1000000 in
theorem image_nil (w : World) : Calls Try.prog 24 #[.pointer none] w fun e w' => e = .returned (.string (str [])) ∧ w = w' := by
  go_enter Try.func24, Try.ntmps24
  go_wp2
  go_ret
  exact ⟨rfl, rfl⟩

theorem set_next (xs : List Value) (q : Nat) (z v : Value) : (xs ++ List.replicate (q + 1) z).set xs.length v = (xs ++ [v]) ++ List.replicate q z := by
  rw [List.set_append_right _ _ (Nat.le_refl _), List.replicate_succ]
  simp

set_option maxHeartbeats 2000000 in
theorem of_any (s : ByteArray) (n : Nat) (hn : s.size / 256 = n) (h1 : 1 ≤ n) (h2 : n ≤ 512) (w : World) (R : Nat → Nat) (o : Nat) :
    Calls Try.prog 8 #[.string s] w fun e w' => ∃ p R', (∀ k, k < w.heap.size → R' k = R k) ∧ e = .returned (.pointer (some ⟨p, 0, none⟩)) ∧ Step noF w w' ∧ w.heap.size ≤ p ∧ IsDev w' R' o p (newD (blocksOf s.data.toList n)) := by
  have hmk := mk_strs n (by omega)
  have hs1 : 256 * n ≤ s.size := by omega
  have hs2 : s.size < 256 * n + 256 := by omega
  have hq : IntKind.i64.wrap ((s.size : Int).tdiv 256) = (n : Int) := by
    have : (s.size : Int).tdiv 256 = (n : Int) := by rw [Int.tdiv_eq_ediv_of_nonneg (by omega)]; omega
    rw [this]; simp [IntKind.wrap, IntKind.bits, IntKind.signed]; omega
  have hq3 : (s.size : Int).tdiv 256 = (n : Int) := by rw [Int.tdiv_eq_ediv_of_nonneg (by omega)]; omega
  have hq2 : (s.size : Int) / 256 = (n : Int) := by omega
  have k1 : ¬ (n : Int) < 1 := by omega
  have k2 : ¬ (512 : Int) < (n : Int) := by omega
  have hS := hid (str_of s)
  clear hn
  go_enter Try.func8, Try.ntmps8
  go_wp2
  go_loopw [5, 19] (fun _ i wr => ∃ j : Nat, j ≤ n ∧ i = .int .i64 j ∧ Step noF w wr ∧ ∃ A : Array Value, wr.heap[w.heap.size]? = some (.cells A 9 (0, 0)) ∧ A.toList = strs (blocksOf s.data.toList j) ++ List.replicate (n - j) (.string ⟨#[]⟩)) (fun _ i _ => n - (intOf i).toNat)
  case atStart => exact ⟨0, Nat.zero_le _, rfl, (Step.refl _ _).alloc _, _, block_alloc_new _ _, by rw [toList_madeCells_one]; simp [blocksOf, strs]⟩
  case round =>
    obtain ⟨j, hj, rfl, hst, A, hblk, hA⟩ := hrel
    by_cases hjn : j < n
    · have hji : (j : Int) < (n : Int) := by omega
      have hsz : A.size = n := by rw [← Array.length_toList, hA]; simp [strs_length, blocksOf_length]; omega
      obtain ⟨u, hc⟩ : ∃ u, wr.cell? ⟨w.heap.size, j, none⟩ = some u := ⟨_, (cell_of_block hblk j).trans (Array.getElem?_eq_getElem (by omega))⟩
      have hf := frozen_of_block hblk j
      have b1 : ((j : Int) + 1) * 256 ≤ (s.size : Int) := by omega
      have b2 : 256 * j + 256 ≤ s.size := by omega
      have HB := hid hblk
      have HA := hid hA
      have hext : Hid (s.extract (j * 256) ((j + 1) * 256) = str ((s.data.toList.drop (256 * j)).take 256)) := by
        show _ = _
        conv => lhs; rw [hS.out]
        rw [str_extract, List.drop_take, show (j + 1) * 256 - j * 256 = 256 by omega, Nat.mul_comm]
      clear hblk hA hsz
      go_wp2
      go_roundw
      case rel =>
        refine ⟨j + 1, by omega, int_eq (by omega), hst.setCell (p := ⟨w.heap.size, j, none⟩) (.inr (Nat.le_refl _)) _, _, block_setCell HB.out _ _, ?_⟩
        rw [Array.toList_setIfInBounds, HA.out, hext.out]
        have hl : (strs (blocksOf s.data.toList j)).length = j := by rw [strs_length, blocksOf_length]
        have := set_next (strs (blocksOf s.data.toList j)) (n - (j + 1)) (.string ⟨#[]⟩) (.string (str ((s.data.toList.drop (256 * j)).take 256)))
        rw [hl, show n - (j + 1) + 1 = n - j by omega] at this
        rw [this, blocksOf_succ]
        simp [strs]
      case measure => simp [intOf]; omega
    · obtain rfl : j = n := by omega
      have hr : RowIn wr w.heap.size 9 (strs (blocksOf s.data.toList j)) := ⟨A, [], hblk, by rw [hA]; simp⟩
      have hl := blocksOf_length s.data.toList j
      have hm := made_any wr (fun k => if k < w.heap.size then R k else o + 2) o w.heap.size j _ hr (by rw [hl]; exact h1) (by rw [hl]; exact h2) (by show (if _ then _ else _) = _; rw [if_neg (by omega)]) (by rw [hl]; exact Nat.le_refl _)
      rw [hl] at hm
      clear hblk hA
      go_wp2_with fail
      refine hm.mono ?_
      rintro e w4 ⟨p, R', hR, rfl, s4, hp, hd⟩
      go_wp2_with fail
      go_ret
      exact ⟨p, R', fun k hk => (hR k (Nat.lt_of_lt_of_le hk hst.size)).trans (if_pos hk), rfl, hst.trans s4, Nat.le_trans hst.size hp, hd⟩
set_option maxHeartbeats 1000000 in
theorem of_none (s : ByteArray) (h : s.size / 256 < 1 ∨ 512 < s.size / 256) (w : World) (hs : s.size ≤ 9223372036854775807) : Calls Try.prog 8 #[.string s] w fun e w' => e = .returned (.pointer none) ∧ w = w' := by
  obtain ⟨n, hn⟩ : ∃ n, s.size / 256 = n := ⟨_, rfl⟩
  rw [hn] at h
  have hq3 : (s.size : Int).tdiv 256 = (n : Int) := by rw [Int.tdiv_eq_ediv_of_nonneg (by omega)]; omega
  have hq2 : (s.size : Int) / 256 = (n : Int) := by omega
  have hn2 : n ≤ 9223372036854775807 := by omega
  clear hn
  by_cases k1 : (n : Int) < 1
  · go_enter Try.func8, Try.ntmps8
    go_wp2
    go_ret
    exact ⟨rfl, rfl⟩
  · have k2 : (512 : Int) < (n : Int) := by omega
    go_enter Try.func8, Try.ntmps8
    go_wp2
    go_ret
    exact ⟨rfl, rfl⟩
end Go.Proofs.Ythgcpeibjnflaaa
