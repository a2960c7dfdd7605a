/-
  What the document's pool tells: Count, Held, Has, Frees.
-/
import Derived.Test.YtmijbplhmjledaaTkRA
import Derived.Test.YtmijbplhmjledaaTkG
import Derived.Test.YtmijbplhmjledaaSpRefC
namespace Go.Proofs.Ytmijbplhmjledaa
open Go.RowKit
set_option linter.unusedVariables false
set_option linter.unusedSimpArgs false

theorem IsRf.len {w : World} {u : Nat} {G : Nat → Prop} {is sz : List Int} {r : Int} (h : IsRf w u G is sz r) : ∃ ia ic sa sc, w.heap[u]? = some (.cells #[.slice ia is.length ic, .slice sa sz.length sc, .int .i64 r] 35 (0, 0)) ∧ w.ownsRow 0 3 1 (.slice ia is.length ic) is.length (intsOf is) ∧ w.ownsRow 0 3 1 (.slice sa sz.length sc) sz.length (intsOf sz) ∧ G u ∧ (∀ k, (Value.slice ia is.length ic).ownBlock = some k → G k) ∧ (∀ k, (Value.slice sa sz.length sc).ownBlock = some k → G k) ∧ (∀ k, (Value.slice ia is.length ic).ownBlock = some k → (Value.slice sa sz.length sc).ownBlock ≠ some k) := by
  obtain ⟨h0, iv, sv, h1, h2, h3, h4, h5, h6, h7⟩ := h
  obtain ⟨ia, ic, rfl⟩ := owns_form h2
  obtain ⟨sa, sc, rfl⟩ := owns_form h3
  exact ⟨ia, ic, sa, sc, h1, h2, h3, h4, h5, h6, h7⟩
theorem count_snoc (is : List Int) (z : Int) (j : Nat) (h : j < is.length) : (is.take (j + 1)).count z = (is.take j).count z + if is.getD j 0 = z then 1 else 0 := by
  rw [take_snoc' _ _ h, List.count_append, getD_lt _ h]
  by_cases e : is[j] = z
  · rw [if_pos e, e]; simp
  · rw [if_neg e]; simp [e]

set_option maxHeartbeats 1000000 in
theorem rcount_any (w : World) (u : Nat) (G : Nat → Prop) (is sz : List Int) (r : Int) (h : IsRf w u G is sz r) (hl : is.length ≤ 1000) (z : Int) :
    Calls Try.prog 15 #[.pointer (some ⟨u, 0, none⟩), .int .i64 z] w fun e w' => e = .returned (.int .i64 (is.count z : Nat)) ∧ Step noF w w' := by
  obtain ⟨ia, ic, sa, sc, h1, h2, _⟩ := h.len
  obtain ⟨c0, _, _⟩ := cells3 h1
  have HO := hid h2
  have HC : Hid (is.count z = (is.take is.length).count z) := by show _ = _; rw [List.take_length]
  obtain ⟨N, hN⟩ : ∃ N, is.length = N := ⟨_, rfl⟩
  have HN := hid hN
  rw [hN] at c0 hl HC
  clear h h1 h2 hN
  go_enter Try.func15, Try.ntmps15
  go_wp2_with fail
  go_loopw [5, 6] (fun c i wr => ∃ (j C : Nat), j ≤ N ∧ C ≤ j ∧ i = .int .i64 j ∧ c = .int .i64 C ∧ Hid ((is.take j).count z = C) ∧ wr = w) (fun _ i _ => N - (intOf i).toNat)
  case atStart => exact ⟨0, 0, Nat.zero_le _, Nat.le_refl _, rfl, rfl, rfl, rfl⟩
  case round =>
    obtain ⟨j, C, hj, hCj, rfl, rfl, hC, rfl⟩ := hrel
    by_cases hjn : j < N
    · have hji : (j : Int) < (N : Int) := by omega
      obtain ⟨g, c', he, hcl, hc, _⟩ := owns_cell HO.out j (by rw [HN.out]; exact hjn)
      injection he with he1 he2 he3
      subst he1 he3
      have hcs := hid (count_snoc is z j (by rw [HN.out]; exact hjn))
      obtain ⟨y, hy⟩ : ∃ y, is.getD j 0 = y := ⟨_, rfl⟩
      rw [hy] at hc hcs
      clear hy
      by_cases e : y = z
      · subst e
        go_wp2_with fail
        go_roundw
        case rel => exact ⟨j + 1, C + 1, by omega, by omega, int_eq (by omega), int_eq (by omega), by show _ = _; rw [hcs.out, hC.out, if_pos rfl], (by first | trivial | rfl)⟩
        case measure => simp [intOf]; omega
      · go_wp2_with fail
        go_roundw
        case rel => exact ⟨j + 1, C, by omega, by omega, int_eq (by omega), rfl, by show _ = _; rw [hcs.out, hC.out, if_neg e, Nat.add_zero], (by first | trivial | rfl)⟩
        case measure => simp [intOf]; omega
    · obtain rfl : j = N := by omega
      go_wp2_with fail
      go_ret
      exact ⟨ret_int (by rw [HC.out, hC.out]), Step.refl _ _⟩

theorem held_take (sz : List Int) (j : Nat) (h : j < sz.length) : heldL (sz.take (j + 1)) = heldL (sz.take j) + max (sz.getD j 0) 0 := by
  rw [take_snoc' _ _ h, heldL_append, getD_lt _ h]; simp [heldL]
theorem held_le (sz : List Int) (j : Nat) : heldL (sz.take j) ≤ heldL sz := by
  conv => rhs; rw [← List.take_append_drop j sz, heldL_append]
  have := heldL_nonneg (sz.drop j)
  omega
set_option maxHeartbeats 1000000 in
theorem rheld_any (w : World) (u : Nat) (G : Nat → Prop) (is sz : List Int) (r : Int) (h : IsRf w u G is sz r) (hl : sz.length ≤ 1000000) (hb : heldL sz ≤ 1000) (H : Int) (hH : heldL sz = H) :
    Calls Try.prog 17 #[.pointer (some ⟨u, 0, none⟩)] w fun e w' => e = .returned (.int .i64 H) ∧ Step noF w w' := by
  obtain ⟨ia, ic, sa, sc, h1, _, h2, _⟩ := h.len
  obtain ⟨_, c0, _⟩ := cells3 h1
  have HO := hid h2
  have HB := hid hb
  have HC : Hid (H = heldL (sz.take sz.length)) := by show _ = _; rw [List.take_length, hH]
  obtain ⟨N, hN⟩ : ∃ N, sz.length = N := ⟨_, rfl⟩
  have HN := hid hN
  rw [hN] at c0 hl HC
  clear h h1 h2 hN hb hH
  go_enter Try.func17, Try.ntmps17
  go_wp2_with fail
  go_loopw [3, 4] (fun c i wr => ∃ (j : Nat) (C : Int), j ≤ N ∧ i = .int .i64 j ∧ c = .int .i64 C ∧ 0 ≤ C ∧ C ≤ 1000 ∧ Hid (heldL (sz.take j) = C) ∧ wr = w) (fun _ i _ => N - (intOf i).toNat)
  case atStart => exact ⟨0, 0, Nat.zero_le _, rfl, rfl, by omega, by omega, rfl, rfl⟩
  case round =>
    obtain ⟨j, C, hj, rfl, rfl, hC0, hC1, hC, rfl⟩ := hrel
    by_cases hjn : j < N
    · have hji : (j : Int) < (N : Int) := by omega
      obtain ⟨g, c', he, hcl, hc, _⟩ := owns_cell HO.out j (by rw [HN.out]; exact hjn)
      injection he with he1 he2 he3
      subst he1 he3
      have hcs := held_take sz j (by rw [HN.out]; exact hjn)
      have hle := held_le sz (j + 1)
      have h0 := heldL_nonneg (sz.take (j + 1))
      have hb' := HB.out
      obtain ⟨y, hy⟩ : ∃ y, sz.getD j 0 = y := ⟨_, rfl⟩
      rw [hy] at hc hcs
      obtain ⟨y', hy'⟩ : ∃ y', max y 0 = y' := ⟨_, rfl⟩
      rw [hy', hC.out] at hcs
      have hb1 : 0 ≤ C + y' ∧ C + y' ≤ 1000 := by omega
      have HCS := hid hcs
      have hm1 : (if y < 0 then (0 : Int) else y) = y' := by rw [← hy']; split <;> omega
      have HY := hid hy'
      clear hy hcs hle h0 hb'
      by_cases hy0 : y < 0
      · have e0 : y' = 0 := by omega
        subst e0
        go_wp2_with fail
        go_roundw
        case rel => exact ⟨j + 1, C, by omega, int_eq (by omega), (by first | rfl | (exact int_eq (by omega))), by omega, by omega, by show _ = _; rw [HCS.out]; omega, (by first | trivial | rfl)⟩
        case measure => simp [intOf]; omega
      · have e0 : y' = y := by omega
        subst e0
        go_wp2_with fail
        go_roundw
        case rel => exact ⟨j + 1, C + y', by omega, int_eq (by omega), (by first | rfl | (exact int_eq (by omega))), by omega, by omega, HCS.out, (by first | trivial | rfl)⟩
        case measure => simp [intOf]; omega
    · obtain rfl : j = N := by omega
      go_wp2_with fail
      go_ret
      exact ⟨ret_int (by rw [HC.out, hC.out]), Step.refl _ _⟩

set_option maxHeartbeats 1000000 in
theorem rhas_any (w : World) (u : Nat) (G : Nat → Prop) (is sz : List Int) (r : Int) (h : IsRf w u G is sz r) (hl : sz.length ≤ 1000000) (z : Int) (b : Bool) (hb : hasB sz z = b) :
    Calls Try.prog 13 #[.pointer (some ⟨u, 0, none⟩), .int .i64 z] w fun e w' => e = .returned (.bool b) ∧ Step noF w w' := by
  obtain ⟨ia, ic, sa, sc, h1, _, h2, _⟩ := h.len
  obtain ⟨_, c0, _⟩ := cells3 h1
  by_cases k1 : 1 ≤ z
  · by_cases k2 : z ≤ (sz.length : Int)
    · obtain ⟨i, hi⟩ := Int.eq_ofNat_of_zero_le (show 0 ≤ z - 1 by omega)
      obtain rfl : z = (i : Int) + 1 := by omega
      have hil : i < sz.length := by omega
      obtain ⟨g, c', he, hcl, hc, _⟩ := owns_cell h2 i hil
      injection he with he1 he2 he3
      subst he1 he3
      have hix : idx ((i : Int) + 1) = i := by unfold idx; omega
      have HB : Hid (b = decide (0 ≤ sz.getD i 0)) := by
        show _ = _
        rw [← hb, hasB, hix, decide_eq_true k1, decide_eq_true k2]; simp
      obtain ⟨y, hy⟩ : ∃ y, sz.getD i 0 = y := ⟨_, rfl⟩
      rw [hy] at hc HB
      have k3 : (i : Int) + 1 - 1 = (i : Int) := by omega
      have k4 : (i : Int) < (sz.length : Int) := by omega
      clear h h1 h2 hb hi hix hy
      go_enter Try.func13, Try.ntmps13
      go_wp2_with fail
      go_ret
      exact ⟨ret_bool HB.out.symm, Step.refl _ _⟩
    · have HB : Hid (b = false) := by show _ = _; rw [← hb, hasB, decide_eq_false k2]; simp
      clear h h1 h2 hb
      go_enter Try.func13, Try.ntmps13
      go_wp2_with fail
      go_ret
      exact ⟨ret_bool HB.out.symm, Step.refl _ _⟩
  · have HB : Hid (b = false) := by show _ = _; rw [← hb, hasB, decide_eq_false k1]; rfl
    clear h h1 h2 hb
    go_enter Try.func13, Try.ntmps13
    go_wp2_with fail
    go_ret
    exact ⟨ret_bool HB.out.symm, Step.refl _ _⟩

/-- Which blocks are free, of the first j. -/
def frT (is : List Int) : Nat → List Bool
  | 0 => List.replicate is.length false
  | j + 1 => (frT is j).set j (decide (is.getD j 0 = 3))
theorem frT_len (is : List Int) : ∀ j, (frT is j).length = is.length
  | 0 => List.length_replicate
  | j + 1 => by rw [frT, List.length_set, frT_len is j]
theorem frT_at (is : List Int) (k : Nat) : ∀ j, j ≤ is.length → (frT is j).getD k false = (decide (k < j) && decide (is.getD k 0 = 3))
  | 0, _ => by rw [frT, rep_at]; simp
  | j + 1, h => by
    rw [frT, getD_set _ _ _ _ _ (by rw [frT_len]; omega), frT_at is k j (by omega)]
    by_cases e : k = j
    · rw [if_pos e, e, decide_eq_true (show j < j + 1 by omega), Bool.true_and]
    · rw [if_neg e]
      by_cases h2 : k < j
      · rw [decide_eq_true h2, decide_eq_true (show k < j + 1 by omega)]
      · rw [decide_eq_false h2, decide_eq_false (show ¬ k < j + 1 by omega)]
theorem frT_all {t : Tk} (hw : Wf t) : frT (kindsL t.l t.d) (kindsL t.l t.d).length = t.l := by
  refine ext_getD (by rw [frT_len, kindsL_len]) (fun k hk => ?_)
  rw [frT_len, kindsL_len] at hk
  rw [frT_at _ _ _ (Nat.le_refl _), kindsL_at _ _ _ hk, kindsL_len, decide_eq_true hk, Bool.true_and]
  unfold kindAt
  cases hl : t.l.getD k false
  · cases t.d.getD k false <;> simp
  · rw [hw.apart k hl]; simp
set_option maxHeartbeats 1000000 in
theorem rfrees_any (w : World) (u : Nat) (G : Nat → Prop) (t : Tk) (hw : Wf t) (sz : List Int) (r : Int) (h : IsRf w u G (kindsL t.l t.d) sz r) :
    Calls Try.prog 50 #[.pointer (some ⟨u, 0, none⟩)] w fun e w' => ∃ g, e = .returned (.slice (some ⟨g, 0, none⟩) t.l.length t.l.length) ∧ Step noF w w' ∧ IsRow w' (.slice (some ⟨g, 0, none⟩) t.l.length t.l.length) t.l := by
  obtain ⟨ia, ic, sa, sc, h1, h2, _⟩ := h.len
  rw [kindsL_len] at h1 h2
  have HB := hid h1
  have HO := hid h2
  have HA := hid (frT_all hw)
  have hn1 := hw.n1
  have hn2 := hw.n2
  have hmk := mk_bools t.l.length (by omega) w
  have SM : Hid (Step noF w (w.alloc (.cells (madeCells #[.bool false] t.l.length) 4))) := (Step.refl _ _).alloc _
  have RM : Hid (RowIn (w.alloc (.cells (madeCells #[.bool false] t.l.length) 4)) w.heap.size 4 (bools (frT (kindsL t.l t.d) 0))) := by
    show RowIn _ _ _ _
    rw [frT, kindsL_len]; exact made_bools w t.l.length
  have HKL := hid (kindsL_len t.l t.d)
  obtain ⟨g, hg⟩ : ∃ g, w.heap.size = g := ⟨_, rfl⟩
  rw [hg] at hmk RM
  have HG : Hid (w.heap.size ≤ g) := Nat.le_of_eq hg
  have HW := hid (And.intro hw.n1 hw.n2)
  obtain ⟨N, hN⟩ : ∃ N, t.l.length = N := ⟨_, rfl⟩
  have HN := hid hN
  rw [hN] at hmk SM RM hn1 hn2 HKL HB
  obtain ⟨c0, _, _⟩ := cells3 h1
  rw [hN] at c0
  obtain ⟨is, his⟩ : ∃ is, kindsL t.l t.d = is := ⟨_, rfl⟩
  rw [his] at HA RM HKL HO
  clear h h1 h2 hg hw
  rw [hN]
  clear hN his
  go_enter Try.func50, Try.ntmps50
  go_wp2_with fail
  go_loopw [4] (fun i wr => ∃ j : Nat, j ≤ N ∧ i = .int .i64 j ∧ Step noF w wr ∧ RowIn wr g 4 (bools (frT is j))) (fun i _ => N - (intOf i).toNat)
  case atStart => exact ⟨0, Nat.zero_le _, rfl, SM.out, RM.out⟩
  case round =>
    obtain ⟨j, hj, rfl, hst, hrow⟩ := hrel
    by_cases hjn : j < N
    · have hji : (j : Int) < (N : Int) := by omega
      have ho := owns_step HO.out hst (fun _ _ x => x)
      rw [HN.out, ← HKL.out] at ho
      obtain ⟨gi, c', he, hcl, hc, _⟩ := owns_cell ho j (by rw [HKL.out]; exact hjn)
      injection he with he1 he2 he3
      subst he1 he3
      have hc0 := hst.after c0
      have hfl : (frT is j).length = N := by rw [frT_len, HKL.out]
      obtain ⟨v, hv⟩ : ∃ v, wr.cell? ⟨g, j, none⟩ = some v := ⟨_, hrow.cell j (by rw [bools_length, hfl]; exact hjn)⟩
      have hfz := hrow.f j
      obtain ⟨y, hy⟩ : ∃ y, is.getD j 0 = y := ⟨_, rfl⟩
      have HY := hid hy
      rw [hy] at hc
      have HRW := hid hrow
      have HFL := hid hfl
      have HST := hid hst
      clear ho hfl hrow hst hy c0
      go_wp2_with fail
      go_roundw
      case rel =>
        refine ⟨j + 1, by omega, int_eq (by omega), HST.out.setCell (p := ⟨g, j, none⟩) (.inr HG.out) _, ?_⟩
        have := HRW.out.set j (by rw [bools_length, HFL.out]; exact hjn) (.bool (decide (y = 3)))
        rw [bools_set] at this
        rw [frT, HY.out]
        exact this
      case measure => simp [intOf]; omega
    · obtain rfl : j = N := by omega
      go_wp2_with fail
      go_ret
      refine ⟨g, rfl, hst, by rw [HN.out]; exact hn1, by rw [HN.out]; exact hn2, g, j, by rw [HN.out], by rw [HN.out]; exact Nat.le_refl _, ?_⟩
      have e : frT is j = t.l := by rw [← HKL.out]; exact HA.out
      rw [← e]; exact hrow
end Go.Proofs.Ytmijbplhmjledaa
