/-
  What Free, Largest, smallest do.
-/
import Derived.Test.YtmijbplhmjledaaSpC
namespace Go.Proofs.Ytmijbplhmjledaa
open Go.RowKit
set_option linter.unusedVariables false

theorem rowL_sizes (l : List Bool) (h : l.length ≤ 512) : ∀ x ∈ rowL l, 0 ≤ x.2 ∧ x.2 ≤ (512 : Nat) := fun x hx => by
  obtain ⟨a, b, c, _⟩ := (rowL_ok l).ok x hx
  omega

set_option maxHeartbeats 1000000 in
theorem free_any (w : World) (p : Nat) (l : List Bool) (h : IsSp w p l) :
    Calls Try.prog 40 #[.pointer (some ⟨p, 0, none⟩)] w fun e w' => e = .returned (.int .i64 (freeL l)) ∧ Step noF w w' := by
  have hrow := row_any w p l h
  have hl := h.2.1
  obtain ⟨xs, hxs⟩ : ∃ xs, rowL l = xs := ⟨_, rfl⟩
  have hle : xs.length ≤ 512 := by rw [← hxs]; have := (rowL_ok l).len; omega
  have hsz : ∀ x ∈ xs, 0 ≤ x.2 ∧ x.2 ≤ (512 : Nat) := by rw [← hxs]; exact rowL_sizes l hl
  have hsum := hid (sumT_bound xs 512 hsz)
  have HF : Hid (freeL l = sumT xs xs.length) := by show _ = _; rw [freeL, hxs]
  rw [hxs] at hrow
  clear h hxs hsz
  go_enter Try.func40, Try.ntmps40
  go_wp2_with fail
  refine hrow.mono ?_
  rintro e w1 ⟨a, c, rfl, hc, hx, s1⟩
  go_wp2_with fail
  go_loopw [3, 5, 9] (fun v _ i wr => ∃ (j : Nat) (S : Int), j ≤ xs.length ∧ i = .int .i64 j ∧ v = .int .i64 S ∧ Hid (S = sumT xs j) ∧ Step noF w1 wr) (fun _ _ i _ => xs.length - (intOf i).toNat)
  case atStart => exact ⟨0, 0, Nat.zero_le _, rfl, rfl, rfl, Step.refl _ _⟩
  case round =>
    obtain ⟨j, S, hj, rfl, rfl, hS, hst⟩ := hrel
    by_cases hjn : j < xs.length
    · have hji : (j : Int) < (xs.length : Int) := by omega
      obtain ⟨ab, off, rfl, y0, y1⟩ := (hx.step hst).at j hjn
      obtain ⟨b1, b2⟩ := hsum.out j hj
      obtain ⟨b3, b4⟩ := hsum.out (j + 1) hjn
      have hS2 : Hid (sumT xs (j + 1) = S + xs[j].2) := by show _ = _; rw [sumT, getD_lt _ hjn, hS.out]
      rw [hS2.out] at b3 b4
      obtain ⟨u, hu⟩ : ∃ u, xs[j].1 = u := ⟨_, rfl⟩
      obtain ⟨v, hv⟩ : ∃ v, xs[j].2 = v := ⟨_, rfl⟩
      rw [hu] at y0
      rw [hv] at y1 b3 b4 hS2
      have b5 : S + v ≤ 1000000 := by omega
      have b6 : 0 ≤ S + v := b3
      clear hu hv b1 b2 b3 b4
      have w5 : IntKind.i64.wrap (S + v) = S + v := by simp [IntKind.wrap, IntKind.bits, IntKind.signed]; omega
      have w6 : wrap64 (S + v) = S + v := by unfold wrap64; omega
      have B5 := hid b5
      have B6 := hid b6
      clear b5 b6
      go_wp2_with fail
      go_roundw
      case rel => exact ⟨j + 1, S + v, by omega, int_eq (by omega), rfl, hS2.out.symm, hst.alloc _⟩
      case measure => simp [intOf]; omega
    · obtain rfl : j = xs.length := by omega
      go_wp2_with fail
      go_ret
      exact ⟨ret_int (by rw [HF.out, hS.out]), s1.trans hst⟩
set_option maxHeartbeats 1000000 in
theorem free_nil (w : World) : Calls Try.prog 40 #[.pointer none] w fun e w' => e = .returned (.int .i64 0) ∧ Step noF w w' := by
  have hrow := row_nil w
  go_enter Try.func40, Try.ntmps40
  go_wp2_with fail
  refine hrow.mono ?_
  rintro e w1 ⟨rfl, s1⟩
  go_wp2_with fail
  go_loopw [3, 5, 9] (fun v _ i wr => v = .int .i64 0 ∧ i = .int .i64 0 ∧ w1 = wr) (fun _ _ i _ => 0)
  case atStart => exact ⟨rfl, rfl, rfl⟩
  case round =>
    obtain ⟨rfl, rfl, rfl⟩ := hrel
    go_wp2_with fail
    go_ret
    exact ⟨rfl, s1⟩

/-- The state of the search for the smallest place. -/
def BestAt (w : World) (q : Nat) (o : Option (Int × Int)) : Prop := w.heap[q]? = some (.cells #[.int .i64 (o.getD (0, 0)).1, .int .i64 (o.getD (0, 0)).2] 53 (0, 0))
theorem ext_cells {w : World} {p : Nat} {v0 v1 : Value} {t : TypeId} (h : w.heap[p]? = some (.cells #[v0, v1] t (0, 0))) :
    w.cell? ⟨p, 0, none⟩ = some v0 ∧ w.cell? ⟨p, 1, none⟩ = some v1 ∧ w.frozen? ⟨p, 0, none⟩ = false ∧ w.frozen? ⟨p, 1, none⟩ = false := ⟨cell_of_block h 0, cell_of_block h 1, frozen_of_block h 0, frozen_of_block h 1⟩

theorem ext_set2 {w : World} {p : Nat} {v0 v1 : Value} {t : TypeId} (h : w.heap[p]? = some (.cells #[v0, v1] t (0, 0))) (a b : Value) : ((w.setCell ⟨p, 0, none⟩ a).setCell ⟨p, 1, none⟩ b).heap[p]? = some (.cells #[a, b] t (0, 0)) := by
  have := block_setCell (block_setCell h 0 a) 1 b
  simpa using this
theorem Step.set2 {w w' : World} {p : Nat} (h : Step noF w w') (hp : w.heap.size ≤ p) (a b : Value) : Step noF w ((w'.setCell ⟨p, 0, none⟩ a).setCell ⟨p, 1, none⟩ b) :=
  (h.setCell (p := ⟨p, 0, none⟩) (.inr hp) a).setCell (p := ⟨p, 1, none⟩) (.inr hp) b
theorem keep_set2 {w : World} {p q : Nat} {o : Obj} (h : w.heap[q]? = some o) (hne : q ≠ p) (a b : Value) : ((w.setCell ⟨p, 0, none⟩ a).setCell ⟨p, 1, none⟩ b).heap[q]? = some o := by
  rw [Below.heap_setCell _ _ _ _ hne, Below.heap_setCell _ _ _ _ hne]; exact h

set_option maxHeartbeats 4000000 in
theorem smallest_any (w : World) (a : Option Addr) (c : Nat) (xs : List (Int × Int)) (hx : ExtAt w a xs) (hxl : xs.length ≤ 9223372036854775807) (z : Int) :
    Calls Try.prog 55 #[.slice a xs.length c, .int .i64 z] w fun e w' => e = .returned (.tuple #[.agg #[.int .i64 ((bestT xs z xs.length).getD (0, 0)).1, .int .i64 ((bestT xs z xs.length).getD (0, 0)).2], .bool (bestT xs z xs.length).isSome]) ∧ Step noF w w' := by
  have HX := hid hx
  clear hx
  go_enter Try.func55, Try.ntmps55
  go_wp2_with fail
  go_loopw [7, 9, 12] (fun v _ i wr => ∃ (j : Nat) (o : Option (Int × Int)), j ≤ xs.length ∧ i = .int .i64 j ∧ v = .bool o.isSome ∧ Hid (o = bestT xs z j) ∧ Step noF w wr ∧ BestAt wr w.heap.size none ∧ BestAt wr (w.heap.size + 1) o) (fun _ _ i _ => xs.length - (intOf i).toNat)
  case atStart =>
    refine ⟨0, none, Nat.zero_le _, rfl, rfl, rfl, ((Step.refl _ _).alloc _).alloc _, block_alloc_old (block_alloc_new _ _) _, ?_⟩
    have := block_alloc_new (w.alloc (.cells #[.int .i64 0, .int .i64 0] 53)) (.cells #[.int .i64 0, .int .i64 0] 53)
    simpa [BestAt] using this
  case round =>
    obtain ⟨j, o, hj, rfl, rfl, ho, hst, hq0, hq1⟩ := hrel
    by_cases hjn : j < xs.length
    · have hji : (j : Int) < (xs.length : Int) := by omega
      obtain ⟨ab, off, rfl, y0, y1⟩ := (HX.out.step hst).at j hjn
      have hT : Hid (bestT xs z (j + 1) = bestS z o (xs[j].1, xs[j].2)) := by show _ = _; rw [bestT, getD_lt _ hjn, ho.out]
      obtain ⟨u, hu⟩ : ∃ u, xs[j].1 = u := ⟨_, rfl⟩
      obtain ⟨v, hv⟩ : ∃ v, xs[j].2 = v := ⟨_, rfl⟩
      rw [hu] at y0 hT
      rw [hv] at y1 hT
      have hab := block_alloc_old hq1 (.cells #[.int .i64 u, .int .i64 v] 53)
      obtain ⟨q0, q1, f0, f1⟩ := ext_cells hab
      have HQ0 := hid hq0
      have HQ1 := hid hq1
      have hlt : w.heap.size + 1 < wr.heap.size := lt_of_block hq1
      have hne : ¬ wr.heap.size = w.heap.size + 1 := by omega
      clear hu hv hq0 hq1 hab hlt
      by_cases hz : z ≤ v
      · have d1 : decide (z ≤ v) = true := by simpa using hz
        cases o with
        | none =>
          have hB : Hid (bestT xs z (j + 1) = some (u, v)) := by show _ = _; rw [hT.out, bestS, if_pos (by exact hz)]
          go_wp2_with fail
          go_roundw
          case rel =>
            refine ⟨j + 1, some (u, v), by omega, int_eq (by omega), rfl, hB.out.symm, (hst.alloc _).set2 (by omega) _ _, ?_, ?_⟩
            · exact keep_set2 (block_alloc_old HQ0.out _) (by omega) _ _
            · exact ext_set2 (block_alloc_old HQ1.out _) _ _
          case measure => simp [intOf]; omega
        | some y =>
          obtain ⟨y1', y2'⟩ := y
          simp only [Option.getD_some] at q0 q1
          by_cases hlt : v < y2'
          · have d2 : decide (v < y2') = true := by simpa using hlt
            have hB : Hid (bestT xs z (j + 1) = some (u, v)) := by show _ = _; rw [hT.out, bestS, if_pos (by exact ⟨hz, hlt⟩)]
            go_wp2_with fail
            go_roundw
            case rel =>
              refine ⟨j + 1, some (u, v), by omega, int_eq (by omega), rfl, hB.out.symm, (hst.alloc _).set2 (by omega) _ _, ?_, ?_⟩
              · exact keep_set2 (block_alloc_old HQ0.out _) (by omega) _ _
              · exact ext_set2 (block_alloc_old HQ1.out _) _ _
            case measure => simp [intOf]; omega
          · have d2 : decide (v < y2') = false := by simpa using hlt
            have hB : Hid (bestT xs z (j + 1) = some (y1', y2')) := by show _ = _; rw [hT.out, bestS, if_neg (by exact fun h => hlt h.2)]
            go_wp2_with fail
            go_roundw
            case rel =>
              exact ⟨j + 1, some (y1', y2'), by omega, int_eq (by omega), rfl, hB.out.symm, hst.alloc _, block_alloc_old HQ0.out _, block_alloc_old HQ1.out _⟩
            case measure => simp [intOf]; omega
      · have d1 : decide (z ≤ v) = false := by simpa using hz
        have hB : Hid (bestT xs z (j + 1) = o) := by
          show _ = _
          rw [hT.out]
          cases o with
          | none => rw [bestS, if_neg (by exact hz)]
          | some y => rw [bestS, if_neg (by exact fun h => hz h.1)]
        go_wp2_with fail
        go_roundw
        case rel =>
          exact ⟨j + 1, o, by omega, int_eq (by omega), rfl, hB.out.symm, hst.alloc _, block_alloc_old HQ0.out _, block_alloc_old HQ1.out _⟩
        case measure => simp [intOf]; omega
    · obtain rfl : j = xs.length := by omega
      obtain ⟨q0, q1, f0, f1⟩ := ext_cells hq1
      obtain ⟨r0, r1, r2, r3⟩ := ext_cells hq0
      have HQ0 := hid hq0
      clear hq0 hq1
      go_wp2_with fail
      refine bodyPost_ret (results_cell_pair rfl _ _ w.heap.size 53 _ (0, 0) _ _ rfl (ext_set2 HQ0.out _ _) Try.underlying53 rfl (by kernel_rfl) rfl) rfl ?_
      exact ⟨by rw [← ho.out]; rfl, hst.set2 (Nat.le_refl _) _ _⟩
end Go.Proofs.Ytmijbplhmjledaa
