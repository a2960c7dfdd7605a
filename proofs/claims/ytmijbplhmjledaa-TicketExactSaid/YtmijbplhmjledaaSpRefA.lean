/-
  The document's own functions of layer 5 (grangerref05): In, Row; 'same' of the statements.
-/
import Derived.Test.YtmijbplhmjledaaSpG
namespace Go.Proofs.Ytmijbplhmjledaa
open Go.RowKit
set_option linter.unusedVariables false

set_option maxHeartbeats 1000000 in
theorem in_any (w : World) (n : Nat) (hn : n ≤ 1000) (x : Int × Int) (hx : x.1 ≤ 9223372036854775807) : Calls Try.prog 59 #[.int .i64 n, .agg #[.int .i64 x.1, .int .i64 x.2]] w fun e w' => e = .returned (.bool (inE n x)) ∧ Step noF w w' := by
  obtain ⟨u, v⟩ := x
  simp only at hx
  by_cases k1 : 0 ≤ u
  · have d1 : decide (0 ≤ u) = true := by simpa using k1
    by_cases k0 : u < (n : Int)
    · have d0 : decide (u < (n : Int)) = true := by simpa using k0
      by_cases k2 : 1 ≤ v
      · have d2 : decide (1 ≤ v) = true := by simpa using k2
        have w1 : IntKind.i64.wrap ((n : Int) - u) = (n : Int) - u := by simp [IntKind.wrap, IntKind.bits, IntKind.signed]; omega
        have w2 : wrap64 ((n : Int) - u) = (n : Int) - u := by unfold wrap64; omega
        have hv : Hid (inE n (u, v) = decide (v ≤ (n : Int) - u)) := by show _ = _; simp [inE, k1, k2]
        go_enter Try.func59, Try.ntmps59
        go_wp2
        go_ret
        exact ⟨ret_bool hv.out.symm, (Step.refl _ _).alloc _⟩
      · have d2 : decide (1 ≤ v) = false := by simpa using k2
        have hv : Hid (inE n (u, v) = false) := by show _ = _; simp [inE, k2]
        go_enter Try.func59, Try.ntmps59
        go_wp2
        go_ret
        exact ⟨ret_bool hv.out.symm, (Step.refl _ _).alloc _⟩
    · have d0 : decide (u < (n : Int)) = false := by simpa using k0
      have hv : Hid (inE n (u, v) = false) := by
        show _ = _
        cases h : inE n (u, v)
        · rfl
        · obtain ⟨a, b, c⟩ := inE_iff.1 h
          simp only at a b c
          omega
      go_enter Try.func59, Try.ntmps59
      go_wp2
      go_ret
      exact ⟨ret_bool hv.out.symm, (Step.refl _ _).alloc _⟩
  · have d1 : decide (0 ≤ u) = false := by simpa using k1
    have hv : Hid (inE n (u, v) = false) := by show _ = _; simp [inE, k1]
    go_enter Try.func59, Try.ntmps59
    go_wp2
    go_ret
    exact ⟨ret_bool hv.out.symm, (Step.refl _ _).alloc _⟩

/-- A row of bools in a slice. -/
def IsRow (w : World) (v : Value) (l : List Bool) : Prop := 1 ≤ l.length ∧ l.length ≤ 512 ∧ ∃ g c, v = .slice (some ⟨g, 0, none⟩) l.length c ∧ l.length ≤ c ∧ RowIn w g 4 (bools l)
theorem IsRow.step {w w' : World} {v : Value} {l : List Bool} (h : IsRow w v l) (hs : Step noF w w') : IsRow w' v l := by
  obtain ⟨h1, h2, g, c, rfl, h3, h4⟩ := h
  exact ⟨h1, h2, g, c, rfl, h3, h4.step hs (fun x => x)⟩
theorem IsRow.beside {w w' : World} {v : Value} {l m : List Bool} {p : Nat} (h : IsRow w v l) (hp : IsSp w p m) (hs : Step (oneF p) w w') : IsRow w' v l := by
  obtain ⟨h1, h2, g, c, rfl, h3, h4⟩ := h
  exact ⟨h1, h2, g, c, rfl, h3, rowIn_sp h4 hp hs⟩

set_option maxHeartbeats 4000000 in
theorem refRow_any (w : World) (v : Value) (l : List Bool) (h : IsRow w v l) :
    Calls Try.prog 60 #[v] w fun e w' => ∃ a c, e = .returned (.slice a (rowL l).length c) ∧ (rowL l).length ≤ c ∧ ExtAt w' a (rowL l) ∧ Step noF w w' := by
  obtain ⟨hl1, hl, gl, cl, rfl, _, hrow⟩ := h
  have HR := hid hrow
  obtain ⟨i0, hi, hz0, hz1, hz2⟩ := info_three info_ext
  clear hrow
  go_enter Try.func60, Try.ntmps60
  go_wp2_with fail
  go_loopw [3, 4] (fun v i wr => ∃ j : Nat, j ≤ l.length ∧ i = .int .i64 j ∧ Step noF w wr ∧ wr.ownsRow 0 53 2 v (rowT l j).length (pairs (rowT l j)) ∧ (∀ k, v.ownBlock = some k → w.heap.size ≤ k)) (fun _ i _ => l.length - (intOf i).toNat)
  case atStart =>
    refine ⟨0, Nat.zero_le _, rfl, (Step.refl _ _).alloc _, World.ownsRow_made w #[] 0 (Nat.zero_le _) (Nat.zero_le _) rfl, fun k hk => ?_⟩
    simp [Value.ownBlock] at hk; omega
  case round =>
    obtain ⟨j, hj, rfl, hst, hown, hfr⟩ := hrel
    by_cases hjn : j < l.length
    · have hji : (j : Int) < (l.length : Int) := by omega
      have hok := rowT_ok l j (by omega)
      have hc := hst.after (HR.out.cell j (by rw [bools_length]; exact hjn))
      rw [bools_at, ← getD_lt false hjn] at hc
      cases hb : l.getD j false
      · have hT : Hid (rowT l (j + 1) = rowT l j) := by show _ = _; rw [rowT, hb, if_neg (by decide)]
        rw [hb] at hc
        clear hb
        go_wp2_with fail
        go_roundw
        case rel => exact ⟨j + 1, by omega, int_eq (by omega), hst, by rw [hT.out]; exact hown, hfr⟩
        case measure => simp [intOf]; omega
      · rw [hb] at hc
        cases hp : (decide (0 < j) && l.getD (j - 1) false)
        · have hT : Hid (rowT l (j + 1) = rowT l j ++ [((j : Int), 1)]) := by show _ = _; simp only [rowT, hb, hp, if_true]; rfl
          have hone : Hid (∀ u ∈ [Value.int .i64 j, Value.int .i64 1], u.oneCell' = true) := fun u hu => by
            simp at hu; rcases hu with rfl | rfl <;> rfl
          have hmx : Hid ((rowT l j).length + 1 ≤ maxLen) := le_max (by have := hok.len; omega)
          have hmb : Hid (((rowT l j).length + 1) * 16 ≤ 140737488355328) := by show _ ≤ _; have := hok.len; omega
          by_cases h0 : 0 < j
          · have hj0 : (0 : Int) < (j : Int) := by omega
            have hd0 : decide ((0 : Int) < (j : Int)) = true := by simpa using h0
            obtain ⟨i, rfl⟩ : ∃ i, j = i + 1 := ⟨j - 1, by omega⟩
            have hpi : l.getD i false = false := by simpa using hp
            have hc2 := hst.after (HR.out.cell i (by rw [bools_length]; omega))
            rw [bools_at, ← getD_lt false (by omega), hpi] at hc2
            have hii : (i : Int) < (l.length : Int) := by omega
            clear hb hp hpi
            go_wp2_with (at_builtin; refine wpList_append_fresh rfl (.tmp 36) (.tmp 39) 29 rfl 53 i0 _ 2 16 Try.underlying29 hi hz0 hz1 hz2 rfl (by decide) _ _ _ (by simp [Act.eval]; rfl) (by exact hown.alloc _) ⟨wr.heap.size, 0, none⟩ 1 1 [.int .i64 ((i + 1 : Nat) : Int), .int .i64 1] (by simp [Act.eval]) rfl (two_new _ _ _ _ _ rfl) hone.out hmx.out hmb.out ?_; intro v' w' ho' hg' hfr')
            go_roundw
            case rel =>
              refine ⟨i + 1 + 1, by omega, int_eq (by omega), ?_, ?_, ?_⟩
              · exact (hst.alloc _).grown hg' (fun k hk => .inr (hfr k hk))
              · rw [hT.out, pairs_append, List.length_append]
                exact ho'
              · intro k hk
                rcases hfr' with e | e
                · exact hfr k (by rw [← e]; exact hk)
                · exact Nat.le_trans (hst.alloc _).size (e k hk)
            case measure => simp [intOf]; omega
          · obtain rfl : j = 0 := by omega
            clear hb hp
            go_wp2_with (at_builtin; refine wpList_append_fresh rfl (.tmp 36) (.tmp 39) 29 rfl 53 i0 _ 2 16 Try.underlying29 hi hz0 hz1 hz2 rfl (by decide) _ _ _ (by simp [Act.eval]; rfl) (by exact hown.alloc _) ⟨wr.heap.size, 0, none⟩ 1 1 [.int .i64 ((0 : Nat) : Int), .int .i64 1] (by simp [Act.eval]) rfl (two_new _ _ _ _ _ rfl) hone.out hmx.out hmb.out ?_; intro v' w' ho' hg' hfr')
            go_roundw
            case rel =>
              refine ⟨0 + 1, by omega, int_eq (by omega), ?_, ?_, ?_⟩
              · exact (hst.alloc _).grown hg' (fun k hk => .inr (hfr k hk))
              · rw [hT.out, pairs_append, List.length_append]
                exact ho'
              · intro k hk
                rcases hfr' with e | e
                · exact hfr k (by rw [← e]; exact hk)
                · exact Nat.le_trans (hst.alloc _).size (e k hk)
            case measure => simp [intOf]; omega
        · have hT : Hid (rowT l (j + 1) = bump (rowT l j)) := by show _ = _; simp only [rowT, hb, hp, if_true]
          simp only [Bool.and_eq_true, decide_eq_true_eq] at hp
          obtain ⟨ys, y, hy1, hy2⟩ := hok.last hp.1 hp.2
          obtain ⟨M, hM⟩ : ∃ M, ys.length = M := ⟨_, rfl⟩
          have hL : (rowT l j).length = M + 1 := by rw [hy1]; simp [hM]
          obtain ⟨_, y2, y3, _⟩ := hok.ok y (by rw [hy1]; simp)
          have yb : 0 ≤ y.1 := (hok.ok y (by rw [hy1]; simp)).1
          rw [hL] at hown
          obtain ⟨ga, gc, hv⟩ := owns_form hown
          rcases id hown.2 with ⟨hn, h0⟩ | ⟨g, cap, cur, hv2, _, hg, hnc, _⟩
          · omega
          rw [hv2] at hv
          injection hv with e1 e2 e3
          subst e1 e3
          subst hv2
          have hMle : M + 1 ≤ 512 := by have := hok.len; omega
          have hcell := hown.cells (g := g) rfl (2 * M + 1) (.int .i64 y.2) (by
            have := (pairs_at (rowT l j) M (by omega)).2
            rw [this]
            simp only [hy1]
            rw [List.getElem_append_right (by omega)]
            simp [hM])
          rw [Addr.add_lit, Nat.zero_add, Nat.mul_comm] at hcell
          have hfz := frozen_of_block hg (M * 2 + 1)
          obtain ⟨Y, hY⟩ : ∃ Y, y.2 = Y := ⟨_, rfl⟩
          rw [hY] at hcell y2 y3
          have hY5 : Y ≤ 512 := by omega
          have HB : Hid (bump (rowT l j) = (rowT l j).set M (((rowT l j).getD M (0, 0)).1, Y + 1)) := by
            show _ = _
            rw [bump, hL, show M + 1 - 1 = M by omega]
            rw [show (rowT l j).getD M (0, 0) = y by rw [getD_lt _ (by omega)]; simp only [hy1]; rw [List.getElem_append_right (by omega)]; simp [hM]]
            rw [hY]
          have HO := hid hown
          have HL := hid hL
          have hj0 : (0 : Int) < (j : Int) := by omega
          have hd0 : decide ((0 : Int) < (j : Int)) = true := by simpa using hp.1
          obtain ⟨i, rfl⟩ : ∃ i, j = i + 1 := ⟨j - 1, by omega⟩
          have hpi : l.getD i false = true := by simpa using hp.2
          have hc2 := hst.after (HR.out.cell i (by rw [bools_length]; omega))
          rw [bools_at, ← getD_lt false (by omega), hpi] at hc2
          have hii : (i : Int) < (l.length : Int) := by omega
          clear hb hp hown hg hy1 hy2 hY yb hok hpi
          go_wp2_with fail
          go_roundw
          case rel =>
            refine ⟨i + 1 + 1, by omega, int_eq (by omega), ?_, ?_, hfr⟩
            · exact hst.setCell (p := ⟨g, M * 2 + 1, none⟩) (.inr (hfr g rfl)) _
            · rw [hT.out, bump_len, HL.out, HB.out, getD_lt _ (by have := HL.out; omega), ← pairs_set2 _ _ _ (by have := HL.out; omega), Nat.mul_comm]
              exact owns_put HO.out _ (by rw [pairs_length]; have := HL.out; omega) _
          case measure => simp [intOf]; omega
    · obtain rfl : j = l.length := by omega
      go_wp2_with fail
      go_ret
      obtain ⟨a, c, rfl, hc, hx⟩ := extAt_owns hown rfl
      exact ⟨a, c, rfl, hc, hx, hst⟩

end Go.Proofs.Ytmijbplhmjledaa
