/-
  The document's own functions of layer 5 (grangerref05): Text, Best.
-/
import Derived.Test.YtmijbplhmjledaaSpRefTR
namespace Go.Proofs.Ytmijbplhmjledaa
open Go.RowKit
set_option linter.unusedVariables false

/-- The document's search: the index of the best place so far. -/
def BestI (xs : List (Int × Int)) (o : Option (Int × Int)) (z : Int) : Prop := (o = none ∧ z = -1) ∨ ∃ i : Nat, ∃ h : i < xs.length, o = some xs[i] ∧ z = (i : Int)
/-- What Best answers. -/
def bestX (o : Option (Int × Int)) (z : Int) : Int × Int := match o with | none => (0, 0) | some x => (x.1, z)

set_option maxHeartbeats 4000000 in
theorem refBest_any (w : World) (v : Value) (l : List Bool) (h : IsRow w v l) (z : Int) :
    Calls Try.prog 51 #[v, .int .i64 z] w fun e w' => e = .returned (.tuple #[.agg #[.int .i64 (bestX (bestL l z) z).1, .int .i64 (bestX (bestL l z) z).2], .bool (bestL l z).isSome]) ∧ Step noF w w' := by
  have hrow := refRow_any (w.alloc (.cells #[.int .i64 0, .int .i64 0] 53)) v l (h.step ((Step.refl _ _).alloc _))
  have hl := h.2.1
  obtain ⟨xs, hxs⟩ : ∃ xs, rowL l = xs := ⟨_, rfl⟩
  have hle : xs.length ≤ 512 := by rw [← hxs]; have := (rowL_ok l).len; omega
  have HF : Hid (bestL l z = bestT xs z xs.length) := by show _ = _; rw [bestL, hxs]
  rw [hxs] at hrow
  clear h hxs
  go_enter Try.func51, Try.ntmps51
  go_wp2_with fail
  refine hrow.mono ?_
  rintro e w1 ⟨a, c, rfl, hc, hx, s1⟩
  have hb0 : w1.heap[w.heap.size]? = some (.cells #[.int .i64 0, .int .i64 0] 53 (0, 0)) := (s1.block w.heap.size (by simp) (fun x => x)).trans (block_alloc_new _ _)
  have HB := hid hb0
  have HX := hid hx
  have S1 := ((Step.refl noF w).alloc (.cells #[.int .i64 0, .int .i64 0] 53)).trans s1
  clear hb0 hx s1
  go_wp2_with fail
  go_loopw [7, 8] (fun v i wr => ∃ (j : Nat) (o : Option (Int × Int)) (y : Int), j ≤ xs.length ∧ i = .int .i64 j ∧ v = .int .i64 y ∧ Hid (o = bestT xs z j) ∧ Hid (BestI xs o y) ∧ Step noF w1 wr) (fun _ i _ => xs.length - (intOf i).toNat)
  case atStart => exact ⟨0, none, -1, Nat.zero_le _, rfl, rfl, rfl, .inl ⟨rfl, rfl⟩, Step.refl _ _⟩
  case round =>
    obtain ⟨j, o, y, hj, rfl, rfl, ho, hI, hst⟩ := hrel
    by_cases hjn : j < xs.length
    · have hji : (j : Int) < (xs.length : Int) := by omega
      have hT : Hid (bestT xs z (j + 1) = bestS z o xs[j]) := by show _ = _; rw [bestT, getD_lt _ hjn, ho.out]
      have hxj := (HX.out.step hst).at j hjn
      have HN : Hid (BestI xs (some xs[j]) (j : Int)) := .inr ⟨j, hjn, rfl, rfl⟩
      have HXJ := hid (show xs[j] = xs[j] from rfl)
      obtain ⟨V, hV⟩ : ∃ V, V = xs[j] := ⟨_, rfl⟩
      rw [← hV] at hxj hT HN
      obtain ⟨ab, off, rfl, y0, y1⟩ := hxj
      obtain ⟨u, v⟩ := V
      simp only at y0 y1
      clear HXJ
      by_cases hz : z ≤ v
      · have d1 : decide (z ≤ v) = true := by simpa using hz
        rcases hI.out with ⟨rfl, rfl⟩ | ⟨i, hi, rfl, rfl⟩
        · have hB : Hid (bestT xs z (j + 1) = some (u, v)) := by show _ = _; rw [hT.out, bestS, if_pos (by exact hz)]
          go_wp2_with fail
          go_quiet (fail)
          go_wp2_with fail
          go_roundw
          case rel => exact ⟨j + 1, some (u, v), j, by omega, int_eq (by omega), rfl, hB.out.symm, HN.out, hst.drewN _⟩
          case measure => simp [intOf]; omega
        · have hii : (i : Int) < (xs.length : Int) := by omega
          have hxi := (HX.out.step hst).at i hi
          obtain ⟨V2, hV2⟩ : ∃ V2, V2 = xs[i] := ⟨_, rfl⟩
          have HI2 := hid (show BestI xs (some xs[i]) (i : Int) from .inr ⟨i, hi, rfl, rfl⟩)
          rw [← hV2] at hxi hT HI2
          obtain ⟨ab2, off2, e2, q0, q1⟩ := hxi
          injection e2 with e2
          injection e2 with e2 e3 _
          subst e2 e3
          obtain ⟨u2, v2⟩ := V2
          simp only at q0 q1
          have hdn : decide ((i : Int) < 0) = false := by simp
          by_cases hlt : v < v2
          · have d2 : decide (v < v2) = true := by simpa using hlt
            have hB : Hid (bestT xs z (j + 1) = some (u, v)) := by show _ = _; rw [hT.out, bestS, if_pos (by exact ⟨hz, hlt⟩)]
            clear hV hV2 ho hI
            go_wp2_with fail
            go_quiet (fail)
            go_wp2_with fail
            go_roundw
            case rel => exact ⟨j + 1, some (u, v), j, by omega, int_eq (by omega), rfl, hB.out.symm, HN.out, hst.drewN _⟩
            case measure => simp [intOf]; omega
          · have d2 : decide (v < v2) = false := by simpa using hlt
            have hB : Hid (bestT xs z (j + 1) = some (u2, v2)) := by show _ = _; rw [hT.out, bestS, if_neg (by exact fun h => hlt h.2)]
            clear hV hV2 ho hI
            go_wp2_with fail
            go_quiet (fail)
            go_wp2_with fail
            go_roundw
            case rel => exact ⟨j + 1, some (u2, v2), i, by omega, int_eq (by omega), rfl, hB.out.symm, HI2.out, hst.drewN _⟩
            case measure => simp [intOf]; omega
      · have d1 : decide (z ≤ v) = false := by simpa using hz
        have hB : Hid (bestT xs z (j + 1) = o) := by
          show _ = _
          rw [hT.out]
          cases o with
          | none => rw [bestS, if_neg (by exact hz)]
          | some y => rw [bestS, if_neg (by exact fun h => hz h.1)]
        go_wp2_with fail
        go_quiet (fail)
        go_wp2_with fail
        go_roundw
        case rel => exact ⟨j + 1, o, y, by omega, int_eq (by omega), rfl, hB.out.symm, hI.out, hst.drewN _⟩
        case measure => simp [intOf]; omega
    · obtain rfl : j = xs.length := by omega
      obtain ⟨q0, q1, f0, f1⟩ := ext_cells ((hst.block w.heap.size (lt_of_block HB.out) (fun x => x)).trans HB.out)
      have HB2 := hid ((hst.block w.heap.size (lt_of_block HB.out) (fun x => x)).trans HB.out)
      rcases hI.out with ⟨rfl, rfl⟩ | ⟨i, hi, rfl, rfl⟩
      · have HE : Hid (bestL l z = none) := by show _ = _; rw [HF.out, ← ho.out]
        clear ho hI
        go_wp2_with fail
        refine bodyPost_ret (results_cell_pair rfl _ _ w.heap.size 53 _ (0, 0) _ _ rfl (ext_set2 HB2.out _ _) Try.underlying53 rfl (by kernel_rfl) rfl) rfl ?_
        exact ⟨by rw [HE.out]; rfl, (S1.trans hst).set2 (Nat.le_refl _) _ _⟩
      · have hii : (i : Int) < (xs.length : Int) := by omega
        have hdn : decide ((i : Int) < 0) = false := by simp
        have HE : Hid (bestL l z = some xs[i]) := by show _ = _; rw [HF.out, ← ho.out]
        have hxi := (HX.out.step hst).at i hi
        obtain ⟨V2, hV2⟩ : ∃ V2, V2 = xs[i] := ⟨_, rfl⟩
        rw [← hV2] at hxi HE
        obtain ⟨ab2, off2, rfl, r0, r1⟩ := hxi
        obtain ⟨u2, v2⟩ := V2
        simp only at r0 r1
        clear ho hI hV2
        go_wp2_with fail
        refine bodyPost_ret (results_cell_pair rfl _ _ w.heap.size 53 _ (0, 0) _ _ rfl (ext_set2 HB2.out _ _) Try.underlying53 rfl (by kernel_rfl) rfl) rfl ?_
        exact ⟨by rw [HE.out]; rfl, (S1.trans hst).set2 (Nat.le_refl _) _ _⟩
end Go.Proofs.Ytmijbplhmjledaa
