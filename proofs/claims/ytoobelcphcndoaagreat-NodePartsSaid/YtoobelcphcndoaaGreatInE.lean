/-
  What KidOf, pivotAhead and share of package inner do.
  What Of, Put and Flush of package inner do.
-/
import Derived.Test.YtoobelcphcndoaaGreatInC
import Derived.Test.YtoobelcphcndoaaGreatInD
import Derived.Test.YtoobelcphcndoaaGreatBfF
import Derived.Laws.Cover1
import Derived.Test.YtoobelcphcndoaaGreatInOf
import Derived.Deep.Cut
namespace Go.Proofs.YtoobelcphcndoaaGreat
open Go.RowKit Go.Sort
set_option linter.unusedVariables false
set_option linter.unusedSimpArgs false
set_option maxRecDepth 20000

theorem pivs_search (ps : List (List UInt8)) (hp : ps.Pairwise (fun a b => a < b)) (k : List UInt8) (i j : Nat) (hij : i ≤ j) (hj : j < ps.length) (h : (if hi : i < ps.length then decide (k < ps[i]) else true) = true) : (if hi : j < ps.length then decide (k < ps[j]) else true) = true := by
  have hi : i < ps.length := by omega
  simp only [hi, hj, dite_true, decide_eq_true_eq] at h ⊢
  exact upP_at hp hj hij k h
set_option maxHeartbeats 1000000 in
theorem pivotAhead_any (p : Nat) (d : Nd) (hl : d.pivs.length ≤ 1000000) (f : Nat) (t : Int) (h1 : 0 < f) (h2 : f ≤ d.pivs.length) (w : World) (h : InnerAt w p d) :
    Calls Tryz.prog 77 #[.pointer (some ⟨p, 0, none⟩), .agg #[.int .i64 f, .int .i64 t]] w fun e w' => e = .returned (.string (str (d.pivs.getD (f - 1) []))) ∧ Step noF w w' := by
  have st : Step noF w (w.alloc (.cells #[.int .i64 f, .int .i64 t] 127)) := (Step.refl noF w).alloc _
  obtain ⟨ka, pa, kc, pc, q, k0, k1, k2, hk, hp, hb⟩ := (h.step st).cell
  obtain ⟨b0, b1⟩ := two_new w (.int .i64 f) (.int .i64 t) 127
  have hj : f - 1 < d.pivs.length := by omega
  obtain ⟨g, off, rfl, c0⟩ := texts_get hp.2.2 (f - 1) hj
  have hg : d.pivs.getD (f - 1) [] = d.pivs[f - 1] := by simp [List.getD, List.getElem?_eq_getElem hj]
  rw [hg]
  obtain ⟨y, hy⟩ : ∃ y, d.pivs[f - 1] = y := ⟨_, rfl⟩
  rw [hy] at c0 ⊢
  obtain ⟨j, hjj⟩ : ∃ j, f - 1 = j := ⟨_, rfl⟩
  rw [hjj] at c0 hj
  have e1 : (f : Int) - 1 = (j : Int) := by omega
  have w1 : IntKind.i64.wrap (j : Int) = (j : Int) := by rw [IntKind.wrap_i64]; omega
  have hjz : (j : Int) < (d.pivs.length : Int) := by omega
  have hjn : ¬ (j : Int) < 0 := by omega
  have ST := hid st
  clear h hk hp hb k0 k2 hy st hg hjj
  go_enter Tryz.func77, Tryz.ntmps77
  go_wp2_with fail
  go_quiet (fail)
  go_wp2_with fail
  go_ret
  exact ⟨rfl, ST.out.drewN _⟩

/-- The spans of so many kids. -/
def spansN (n : Nat) : List (Int × Int) := (List.range (countN n)).map (fun i => ((cutAt n (countN n) i : Int), (cutAt n (countN n) (i + 1) : Int)))
theorem spansN_len (n : Nat) : (spansN n).length = countN n := by simp [spansN]
theorem spansN_take (n j : Nat) (hj : j < countN n) : (spansN n).take (j + 1) = (spansN n).take j ++ [((cutAt n (countN n) j : Int), (cutAt n (countN n) (j + 1) : Int))] := by
  have hl : j < (spansN n).length := by rw [spansN_len]; exact hj
  rw [List.take_succ_eq_append_getElem hl]
  simp [spansN]
/-- A row of spans that is being filled. -/
def SpFill (w : World) (g : Nat) (xs : List (Int × Int)) (n : Nat) : Prop := ∃ (A : Array Value) (rest : List Value), w.heap[g]? = some (.cells A 127 (0, 0)) ∧ A.toList = pairs xs ++ rest ∧ rest.length + xs.length * 2 = n * 2
theorem SpFill.old {w : World} {g : Nat} {xs : List (Int × Int)} {n : Nat} (h : SpFill w g xs n) (hj : xs.length < n) : ∃ x y, w.cell? ⟨g, xs.length * 2, none⟩ = some x ∧ w.cell? ⟨g, xs.length * 2 + 1, none⟩ = some y ∧ w.frozen? ⟨g, xs.length * 2, none⟩ = false ∧ w.frozen? ⟨g, xs.length * 2 + 1, none⟩ = false := by
  obtain ⟨A, rest, h1, h2, h3⟩ := h
  have hl := pairs_length xs
  have hs : A.size = n * 2 := by rw [← Array.length_toList, h2, List.length_append]; omega
  refine ⟨A[xs.length * 2]'(by omega), A[xs.length * 2 + 1]'(by omega), ?_, ?_, frozen_of_block h1 _, frozen_of_block h1 _⟩
  · rw [cell_of_block h1, Array.getElem?_eq_getElem]
  · rw [cell_of_block h1, Array.getElem?_eq_getElem]
theorem SpFill.put {w : World} {g : Nat} {xs : List (Int × Int)} {n : Nat} (h : SpFill w g xs n) (hj : xs.length < n) (x : Int × Int) (j : Nat) (hjj : j = xs.length) : SpFill ((w.setCell ⟨g, j * 2, none⟩ (.int .i64 x.1)).setCell ⟨g, j * 2 + 1, none⟩ (.int .i64 x.2)) g (xs ++ [x]) n := by
  subst hjj
  obtain ⟨A, rest, h1, h2, h3⟩ := h
  have hl := pairs_length xs
  obtain ⟨u, v, rest', rfl⟩ : ∃ x y rest', rest = x :: y :: rest' := by
    match rest, h3 with
    | [], h => simp at h; omega
    | [x], h => simp at h; omega
    | x :: y :: r, _ => exact ⟨x, y, r, rfl⟩
  refine ⟨_, rest', block_setCell (block_setCell h1 _ _) _ _, ?_, ?_⟩
  · rw [Array.toList_setIfInBounds, Array.toList_setIfInBounds, h2, List.set_append_right _ _ (by omega), hl, Nat.sub_self, List.set_append_right _ _ (by omega), hl]
    rw [show xs.length * 2 + 1 - xs.length * 2 = 1 by omega, pairs_append]
    simp [pairs]
  · simp at h3 ⊢
    omega
theorem spFill_spans {w : World} {g : Nat} {xs : List (Int × Int)} {n : Nat} (h : SpFill w g xs n) : SpansAt w (some ⟨g, 0, none⟩) xs := by
  obtain ⟨A, rest, h1, h2, _⟩ := h
  have hl := pairs_length xs
  refine .inr ⟨g, 0, rfl, lt_of_block h1, fun j hj => ?_⟩
  obtain ⟨q1, q2⟩ := pairs_at xs j hj
  rw [cell_of_block h1, cell_of_block h1, ← Array.getElem?_toList, ← Array.getElem?_toList, h2, Nat.zero_add, List.getElem?_append_left (by omega), List.getElem?_append_left (by omega), Nat.mul_comm j 2]
  exact ⟨q1, q2⟩
theorem info_spA0 : (Tryz.prog.info? 127).map (fun i => (i.zero, i.size, i.bytes)) = some (some (.agg #[.int .i64 0, .int .i64 0]), 2, 16) := by kernel_rfl
theorem info_spA : ∃ i, Tryz.prog.info? 127 = some i ∧ i.zero = some (.agg #[.int .i64 0, .int .i64 0]) ∧ i.size = 2 ∧ i.bytes = 16 := info_threeL info_spA0
set_option maxHeartbeats 4000000 in
theorem share_any (n : Nat) (h1 : 0 < n) (hn : n ≤ 1000) (w : World) :
    Calls Tryz.prog 73 #[.int .i64 n] w fun e w' => ∃ g, e = .returned (.slice (some ⟨g, 0, none⟩) (countN n) (countN n)) ∧ Hid (SpansAt w' (some ⟨g, 0, none⟩) (spansN n)) ∧ Hid (Step noF w w') := by
  obtain ⟨i0, hi, hz0, hz1, hz2⟩ := info_spA
  obtain ⟨c, hc⟩ : ∃ c, countN n = c := ⟨_, rfl⟩
  have hcp : 0 < c := by rw [← hc]; unfold countN; omega
  have hcn : c ≤ n := by rw [← hc]; unfold countN; omega
  have hcd : (n + 5) / 6 = c := hc
  have hlen := spansN_len n
  have HTK := hid (fun j => spansN_take n j)
  have HCS := hid (fun j => cutAt_succ n c j)
  have HCL := hid (fun j (h : j ≤ c) => cutAt_le n c hcp h)
  rw [hc] at hlen
  rw [hc] at HTK
  obtain ⟨s, hs⟩ : ∃ s, n / c = s := ⟨_, rfl⟩
  obtain ⟨m, hm⟩ : ∃ m, n % c = m := ⟨_, rfl⟩
  have hsn : s ≤ n := by rw [← hs]; exact Nat.div_le_self _ _
  have w1 : IntKind.i64.wrap ((n : Int) + 6) = (n : Int) + 6 := by rw [IntKind.wrap_i64]; omega
  have w2 : IntKind.i64.wrap ((n : Int) + 6 - 1) = (n : Int) + 6 - 1 := by rw [IntKind.wrap_i64]; omega
  have w3 : IntKind.i64.wrap ((n : Int) + 5) = (n : Int) + 5 := by rw [IntKind.wrap_i64]; omega
  have q1 : ((n : Int) + 6 - 1).tdiv 6 = (c : Int) := by rw [Int.tdiv_eq_ediv_of_nonneg (by omega)]; omega
  have q2 : ((n : Int) + 5).tdiv 6 = (c : Int) := by rw [Int.tdiv_eq_ediv_of_nonneg (by omega)]; omega
  have d1 : (n : Int).tdiv (c : Int) = (s : Int) := by rw [Int.tdiv_eq_ediv_of_nonneg (by omega), ← hs]; rfl
  have d2 : (n : Int).tmod (c : Int) = (m : Int) := by rw [Int.tmod_eq_emod_of_nonneg (by omega), ← hm]; rfl
  have c0 : ¬ (c : Int) = 0 := by omega
  have c1 : ((c : Int) == 0) = false := by rw [beq_eq_false_iff_ne]; exact c0
  have wc : IntKind.i64.wrap (c : Int) = (c : Int) := by rw [IntKind.wrap_i64]; omega
  have ws : IntKind.i64.wrap (s : Int) = (s : Int) := by rw [IntKind.wrap_i64]; omega
  have wm1 : IntKind.i64.wrap (m : Int) = (m : Int) := by
    have : m < c := by rw [← hm]; exact Nat.mod_lt _ hcp
    rw [IntKind.wrap_i64]; omega
  rw [hs, hm] at HCS
  have HLEN := hid hlen
  rw [hc]
  clear hc hcd hs hm hlen
  go_enter Tryz.func73, Tryz.ntmps73
  go_wp2_with fail
  go_quiet (fail)
  obtain ⟨wm, hmk, hown0, hgr0⟩ := run_makeSlice_full (P := Tryz.prog) (w.drewN nq) w.heap.size 123 127 i0 _ 2 Tryz.underlying123 hi hz0 hz1 .i64 .i64 c (by omega) (by rw [hz2]; omega) (le_max (by omega)) (Nat.le_refl _)
  have hmk2 : (Instr.makeSlice 123 (.int .i64 (c : Int)) (.int .i64 (c : Int))).run Tryz.prog (w.drewN nq) = .ok (.slice (some ⟨w.heap.size, 0, none⟩) c c) wm := hmk
  have hsm : Hid (Step noF w wm) := ((Step.refl noF w).drewN nq).grown hgr0 (fun k hk => by cases hk)
  have hfill : Hid (SpFill wm w.heap.size [] c) := by
    rcases hown0.2 with ⟨x, _⟩ | ⟨g, cc, cur, hv, _, hg, _, _, hcs, ht⟩
    · cases x
    · injection hv with e1 e2 e3
      injection e1 with e1
      injection e1 with e1
      have e1' : w.heap.size = g := e1
      subst e1'
      refine ⟨cur, cur.toList, hg, rfl, ?_⟩
      rw [Array.length_toList, hcs, ← e3]
      simp
  clear hmk hown0 hgr0
  go_wp2_with fail
  go_loopw [7, 24] (fun fr i wr => ∃ (j k : Nat), j ≤ c ∧ i = .int .i64 j ∧ fr = .int .i64 k ∧ Hid (k = cutAt n c j) ∧ Hid (Step noF w wr) ∧ Hid (SpFill wr w.heap.size ((spansN n).take j) c)) (fun _ i _ => c - (intOf i).toNat)
  case atStart => exact ⟨0, 0, Nat.zero_le _, rfl, rfl, (by show 0 = _; rw [cutAt_zero]), hsm.out, hfill.out⟩
  case round =>
    obtain ⟨j, k, hj, rfl, rfl, HK, HS, HF⟩ := hrel
    by_cases hjn : j < c
    · have hjz : (j : Int) < (c : Int) := by omega
      have hkn : k ≤ 1000 := by have := HK.out; have := HCL.out j (by omega); omega
      have hln : ((spansN n).take j).length = j := by rw [List.length_take, HLEN.out]; omega
      obtain ⟨o0, o1, y0, y1, z0, z1⟩ := HF.out.old (by rw [hln]; exact hjn)
      rw [hln] at y0 y1 z0 z1
      have wk : IntKind.i64.wrap ((k : Int) + (s : Int)) = (k : Int) + (s : Int) := by rw [IntKind.wrap_i64]; omega
      by_cases hjm : j < m
      · have hjmz : (j : Int) < (m : Int) := by omega
        have hjmd : decide ((j : Int) < (m : Int)) = true := decide_eq_true hjmz
        have HE : Hid (cutAt n c (j + 1) = k + s + 1) := by show _ = _; rw [HCS.out j, if_pos hjm, HK.out]
        have wk2 : IntKind.i64.wrap ((k : Int) + (s : Int) + 1) = (k : Int) + (s : Int) + 1 := by rw [IntKind.wrap_i64]; omega
        have HP := hid (HF.out.put (by rw [hln]; exact hjn) ((k : Int), (k : Int) + (s : Int) + 1) j hln.symm)
        clear hjm
        go_wp2_with fail
        go_roundw
        case rel =>
          refine ⟨j + 1, k + s + 1, by omega, int_eq (by omega), int_eq (by omega), HE.out.symm, ?_, ?_⟩
          · exact (HS.out.setCell (p := ⟨w.heap.size, j * 2, none⟩) (.inr (Nat.le_refl _)) _).setCell (p := ⟨w.heap.size, j * 2 + 1, none⟩) (.inr (Nat.le_refl _)) _
          · show SpFill _ _ _ _
            rw [HTK.out j hjn, HE.out, ← HK.out]
            exact HP.out
        case measure => simp [intOf]; omega
      · have hjmz : ¬ (j : Int) < (m : Int) := by omega
        have hjmd : decide ((j : Int) < (m : Int)) = false := decide_eq_false hjmz
        have HE : Hid (cutAt n c (j + 1) = k + s) := by show _ = _; rw [HCS.out j, if_neg hjm, HK.out, Nat.add_zero]
        have HP := hid (HF.out.put (by rw [hln]; exact hjn) ((k : Int), (k : Int) + (s : Int)) j hln.symm)
        clear hjm
        go_wp2_with fail
        go_roundw
        case rel =>
          refine ⟨j + 1, k + s, by omega, int_eq (by omega), int_eq (by omega), HE.out.symm, ?_, ?_⟩
          · exact (HS.out.setCell (p := ⟨w.heap.size, j * 2, none⟩) (.inr (Nat.le_refl _)) _).setCell (p := ⟨w.heap.size, j * 2 + 1, none⟩) (.inr (Nat.le_refl _)) _
          · show SpFill _ _ _ _
            rw [HTK.out j hjn, HE.out, ← HK.out]
            exact HP.out
        case measure => simp [intOf]; omega
    · obtain rfl : j = c := by omega
      go_wp2_with fail
      go_ret
      refine ⟨w.heap.size, rfl, ?_, HS⟩
      have := spFill_spans HF.out
      rw [List.take_of_length_le (by rw [HLEN.out]; exact Nat.le_refl _)] at this
      exact this
end Go.Proofs.YtoobelcphcndoaaGreat
namespace Go.Proofs.YtoobelcphcndoaaGreat
open Go.RowKit Go.Sort
set_option linter.unusedVariables false
set_option linter.unusedSimpArgs false
set_option maxRecDepth 20000

/-- What Put answers. -/
def PutPost (w : World) (d : Nd) (ms : List Mg) (e : Ending) : Prop := (ms.all Mg.is = false ∧ e = .returned (.tuple #[.pointer none, .int .i64 1])) ∨ (ms.all Mg.is = true ∧ ∃ p, e = .returned (.tuple #[.pointer (some ⟨p, 0, none⟩), .int .i64 0]) ∧ InnerAt w p ⟨d.kids, d.pivs, putsM ms d.ms⟩)
end Go.Proofs.YtoobelcphcndoaaGreat
