/-
  What Give, TakeAt, Row, Free, Largest, smallest do.
-/
import Derived.Test.YtmijbplhmjledaaSpB
namespace Go.Proofs.Ytmijbplhmjledaa
open Go.RowKit
set_option linter.unusedVariables false

set_option maxHeartbeats 1000000 in
theorem give_at (w : World) (p g : Nat) (l : List Bool) (h : SpAt w p g l) (a : Option Addr) (c n : Nat) (xs : List (Int × Int)) (hn : xs.length = n) (hx : ExtAt w a xs) (hb : ∀ x ∈ xs, x.1 ≤ 9223372036854775807) (hxl : xs.length ≤ 9223372036854775807) :
    Calls Try.prog 32 #[.pointer (some ⟨p, 0, none⟩), .slice a n c] w fun e w' => e = .returned (.int .i64 (setE true l xs)) ∧ Step (oneF p) w w' ∧ SpFrom w g w' p (setL true l xs) := by
  subst hn
  have ht := turn_at w p g l h true a c xs hx hb hxl
  clear h hx hb hxl
  go_enter Try.func32, Try.ntmps32
  go_wp2_with fail
  refine ht.mono ?_
  rintro e w1 ⟨rfl, s1, h1⟩
  go_wp2_with fail
  go_ret
  exact ⟨rfl, s1, h1⟩
theorem give_any (w : World) (p : Nat) (l : List Bool) (h : IsSp w p l) (a : Option Addr) (c n : Nat) (xs : List (Int × Int)) (hn : xs.length = n) (hx : ExtAt w a xs) (hb : ∀ x ∈ xs, x.1 ≤ 9223372036854775807) (hxl : xs.length ≤ 9223372036854775807) :
    Calls Try.prog 32 #[.pointer (some ⟨p, 0, none⟩), .slice a n c] w fun e w' => e = .returned (.int .i64 (setE true l xs)) ∧ Step (oneF p) w w' ∧ IsSp w' p (setL true l xs) := by
  obtain ⟨g, hg⟩ := h.at
  refine (give_at w p g l hg a c n xs hn hx hb hxl).mono ?_
  rintro e w' ⟨rfl, s1, h1⟩
  exact ⟨rfl, s1, h1.sp⟩
set_option maxHeartbeats 1000000 in
theorem give_nil (w : World) (v : Value) : Calls Try.prog 32 #[.pointer none, v] w fun e w' => e = .returned (.int .i64 2) ∧ w = w' := by
  go_enter Try.func32, Try.ntmps32
  go_wp2
  go_ret
  exact ⟨rfl, rfl⟩
set_option maxHeartbeats 1000000 in
theorem takeAt_at (w : World) (p g : Nat) (l : List Bool) (h : SpAt w p g l) (a : Option Addr) (c n : Nat) (xs : List (Int × Int)) (hn : xs.length = n) (hx : ExtAt w a xs) (hb : ∀ x ∈ xs, x.1 ≤ 9223372036854775807) (hxl : xs.length ≤ 9223372036854775807) :
    Calls Try.prog 44 #[.pointer (some ⟨p, 0, none⟩), .slice a n c] w fun e w' => e = .returned (.int .i64 (setE false l xs)) ∧ Step (oneF p) w w' ∧ SpFrom w g w' p (setL false l xs) := by
  subst hn
  have ht := turn_at w p g l h false a c xs hx hb hxl
  clear h hx hb hxl
  go_enter Try.func44, Try.ntmps44
  go_wp2_with fail
  refine ht.mono ?_
  rintro e w1 ⟨rfl, s1, h1⟩
  go_wp2_with fail
  go_ret
  exact ⟨rfl, s1, h1⟩
theorem takeAt_any (w : World) (p : Nat) (l : List Bool) (h : IsSp w p l) (a : Option Addr) (c n : Nat) (xs : List (Int × Int)) (hn : xs.length = n) (hx : ExtAt w a xs) (hb : ∀ x ∈ xs, x.1 ≤ 9223372036854775807) (hxl : xs.length ≤ 9223372036854775807) :
    Calls Try.prog 44 #[.pointer (some ⟨p, 0, none⟩), .slice a n c] w fun e w' => e = .returned (.int .i64 (setE false l xs)) ∧ Step (oneF p) w w' ∧ IsSp w' p (setL false l xs) := by
  obtain ⟨g, hg⟩ := h.at
  refine (takeAt_at w p g l hg a c n xs hn hx hb hxl).mono ?_
  rintro e w' ⟨rfl, s1, h1⟩
  exact ⟨rfl, s1, h1.sp⟩
set_option maxHeartbeats 1000000 in
theorem takeAt_nil (w : World) (v : Value) : Calls Try.prog 44 #[.pointer none, v] w fun e w' => e = .returned (.int .i64 2) ∧ w = w' := by
  go_enter Try.func44, Try.ntmps44
  go_wp2
  go_ret
  exact ⟨rfl, rfl⟩

theorem has_call (w : World) (p : Nat) (l : List Bool) (h : IsSp w p l) (z : Int) (r : Bool) (hr : hasL l z = r) : Calls Try.prog 39 #[.pointer (some ⟨p, 0, none⟩), .int .i64 z] w fun e w' => e = .returned (.bool r) ∧ w = w' := by
  subst hr; exact has_any w p l h z

theorem info_ext : (Try.prog.info? 53).map (fun i => (i.zero, i.size, i.bytes)) = some (some (.agg #[.int .i64 0, .int .i64 0]), 2, 16) := by kernel_rfl
theorem two_new (w : World) (t : TypeId) (a b : Value) (g : Nat) (hg : g = w.heap.size) : ∀ j u, [a, b][j]? = some u → (w.alloc (.cells #[a, b] t)).cell? (Addr.add ⟨g, 0, none⟩ j) = some u := by
  intro j u hj
  subst hg
  rw [Addr.add_lit, Nat.zero_add, cell_of_block (block_alloc_new _ _)]
  rw [← hj, List.getElem?_toArray]

set_option maxHeartbeats 4000000 in
theorem row_any (w : World) (p : Nat) (l : List Bool) (h : IsSp w p l) :
    Calls Try.prog 52 #[.pointer (some ⟨p, 0, none⟩)] w fun e w' => ∃ a c, e = .returned (.slice a (rowL l).length c) ∧ (rowL l).length ≤ c ∧ ExtAt w' a (rowL l) ∧ Step noF w w' := by
  have hlen := len_any w p l h
  have hl := h.2.1
  have HS := hid h
  obtain ⟨i0, hi, hz0, hz1, hz2⟩ := info_three info_ext
  clear h
  go_enter Try.func52, Try.ntmps52
  go_wp2_with fail
  refine hlen.mono ?_
  rintro e w1 ⟨rfl, rfl⟩
  go_wp2_with fail
  go_loopw [3, 4, 7] (fun v _ i wr => ∃ j : Nat, j ≤ l.length ∧ i = .int .i64 j ∧ Step noF w wr ∧ wr.ownsRow 0 53 2 v (rowT l j).length (pairs (rowT l j)) ∧ (∀ k, v.ownBlock = some k → w.heap.size ≤ k)) (fun _ _ i _ => l.length - (intOf i).toNat)
  case atStart => exact ⟨0, Nat.zero_le _, rfl, Step.refl _ _, ⟨rfl, .inl ⟨rfl, rfl⟩⟩, fun k hk => by simp [Value.ownBlock] at hk⟩
  case round =>
    obtain ⟨j, hj, rfl, hst, hown, hfr⟩ := hrel
    by_cases hjn : j < l.length
    · have hji : (j : Int) < (l.length : Int) := by omega
      have hok := rowT_ok l j (by omega)
      have hr1 : hasL l (j : Int) = l.getD j false := hasL_nat l j
      cases hb : l.getD j false
      · have hT : Hid (rowT l (j + 1) = rowT l j) := by show _ = _; rw [rowT, hb, if_neg (by decide)]
        have hc := has_call wr p l (HS.out.step hst) (j : Int) false (hr1.trans hb)
        clear hb hr1
        go_wp2_with fail
        refine hc.mono ?_
        rintro e w2 ⟨rfl, rfl⟩
        go_wp2_with fail
        go_roundw
        case rel => exact ⟨j + 1, by omega, int_eq (by omega), hst, by rw [hT.out]; exact hown, hfr⟩
        case measure => simp [intOf]; omega
      · have hc := has_call wr p l (HS.out.step hst) (j : Int) true (hr1.trans hb)
        cases hp : (decide (0 < j) && l.getD (j - 1) false)
        · have hT : Hid (rowT l (j + 1) = rowT l j ++ [((j : Int), 1)]) := by show _ = _; simp only [rowT, hb, hp, if_true]; rfl
          have hr2 : hasL l ((j : Int) - 1) = false := by
            cases j with
            | zero => rfl
            | succ j => rw [show ((j + 1 : Nat) : Int) - 1 = (j : Int) by omega, hasL_nat]; simpa using hp
          have hc2 := has_call wr p l (HS.out.step hst) ((j : Int) - 1) false hr2
          have hone : Hid (∀ u ∈ [Value.int .i64 j, Value.int .i64 1], u.oneCell' = true) := fun u hu => by
            simp at hu; rcases hu with rfl | rfl <;> rfl
          have hmx : Hid ((rowT l j).length + 1 ≤ maxLen) := le_max (by have := hok.len; omega)
          have hmb : Hid (((rowT l j).length + 1) * 16 ≤ 140737488355328) := by show _ ≤ _; have := hok.len; omega
          clear hb hr1 hp hr2
          go_wp2_with fail
          refine hc.mono ?_
          rintro e w2 ⟨rfl, rfl⟩
          go_wp2_with fail
          refine hc2.mono ?_
          rintro e w2 ⟨rfl, rfl⟩
          go_wp2_with (at_builtin; refine wpList_append_fresh rfl (.tmp 10) (.tmp 13) 29 rfl 53 i0 _ 2 16 Try.underlying29 hi hz0 hz1 hz2 rfl (by decide) _ _ _ (by simp [Act.eval]; rfl) (by exact hown.alloc _) ⟨wr.heap.size, 0, none⟩ 1 1 [.int .i64 j, .int .i64 1] (by simp [Act.eval]) rfl (two_new _ _ _ _ _ rfl) hone.out hmx.out hmb.out ?_; intro v' w' ho' hg' hfr')
          go_roundw
          case rel =>
            refine ⟨j + 1, by omega, int_eq (by omega), ?_, ?_, ?_⟩
            · exact (hst.alloc _).grown hg' (fun k hk => .inr (hfr k hk))
            · rw [hT.out, pairs_append, List.length_append]
              exact ho'
            · intro k hk
              rcases hfr' with e | e
              · exact hfr k (by rw [← e]; exact hk)
              · exact Nat.le_trans (hst.alloc _).size (e k hk)
          case measure => simp [intOf]; omega
        · have hT : Hid (rowT l (j + 1) = bump (rowT l j)) := by show _ = _; simp only [rowT, hb, hp, if_true]
          simp only [Bool.and_eq_true, decide_eq_true_eq] at hp
          have hr2 : hasL l ((j : Int) - 1) = true := by
            rw [show (j : Int) - 1 = ((j - 1 : Nat) : Int) by omega, hasL_nat]; exact hp.2
          have hc2 := has_call wr p l (HS.out.step hst) ((j : Int) - 1) true hr2
          obtain ⟨ys, y, hy1, hy2⟩ := hok.last hp.1 hp.2
          obtain ⟨M, hM⟩ : ∃ M, ys.length = M := ⟨_, rfl⟩
          have hL : (rowT l j).length = M + 1 := by rw [hy1]; simp [hM]
          obtain ⟨_, y2, y3, _⟩ := hok.ok y (by rw [hy1]; simp)
          have yb : 0 ≤ y.1 := (hok.ok y (by rw [hy1]; simp)).1
          rw [hL] at hown
          obtain ⟨ga, gc, hv⟩ := owns_form hown
          rcases id hown.2 with ⟨hn, h0⟩ | ⟨g, cap, cur, hv2, _, hg, hnc, _⟩
          · omega
          rw [hv2] at hv
          injection hv with e1 e2 e3
          subst e1 e3
          subst hv2
          have hMle : M + 1 ≤ 512 := by have := hok.len; omega
          have hcell := hown.cells (g := g) rfl (2 * M + 1) (.int .i64 y.2) (by
            have := (pairs_at (rowT l j) M (by omega)).2
            rw [this]
            simp only [hy1]
            rw [List.getElem_append_right (by omega)]
            simp [hM])
          rw [Addr.add_lit, Nat.zero_add, Nat.mul_comm] at hcell
          have hfz := frozen_of_block hg (M * 2 + 1)
          obtain ⟨Y, hY⟩ : ∃ Y, y.2 = Y := ⟨_, rfl⟩
          rw [hY] at hcell y2 y3
          have hY5 : Y ≤ 512 := by omega
          have HB : Hid (bump (rowT l j) = (rowT l j).set M (((rowT l j).getD M (0, 0)).1, Y + 1)) := by
            show _ = _
            rw [bump, hL, show M + 1 - 1 = M by omega]
            rw [show (rowT l j).getD M (0, 0) = y by rw [getD_lt _ (by omega)]; simp only [hy1]; rw [List.getElem_append_right (by omega)]; simp [hM]]
            rw [hY]
          have HO := hid hown
          have HL := hid hL
          clear hb hr1 hp hr2 hown hg hy1 hy2 hY yb hok
          go_wp2_with fail
          refine hc.mono ?_
          rintro e w2 ⟨rfl, rfl⟩
          go_wp2_with fail
          refine hc2.mono ?_
          rintro e w2 ⟨rfl, rfl⟩
          go_wp2_with fail
          go_roundw
          case rel =>
            refine ⟨j + 1, by omega, int_eq (by omega), ?_, ?_, hfr⟩
            · exact hst.setCell (p := ⟨g, M * 2 + 1, none⟩) (.inr (hfr g rfl)) _
            · rw [hT.out, bump_len, HL.out, HB.out, getD_lt _ (by have := HL.out; omega), ← pairs_set2 _ _ _ (by have := HL.out; omega), Nat.mul_comm]
              exact owns_put HO.out _ (by rw [pairs_length]; have := HL.out; omega) _
          case measure => simp [intOf]; omega
    · obtain rfl : j = l.length := by omega
      go_wp2_with fail
      go_ret
      obtain ⟨a, c, rfl, hc, hx⟩ := extAt_owns hown rfl
      exact ⟨a, c, rfl, hc, hx, hst⟩
set_option maxHeartbeats 1000000 in
theorem row_nil (w : World) : Calls Try.prog 52 #[.pointer none] w fun e w' => e = .returned (.slice none 0 0) ∧ Step noF w w' := by
  have hlen := len_nil w
  go_enter Try.func52, Try.ntmps52
  go_wp2_with fail
  refine hlen.mono ?_
  rintro e w1 ⟨rfl, rfl⟩
  go_wp2_with fail
  go_loopw [3, 4, 7] (fun v _ i wr => v = .slice none 0 0 ∧ i = .int .i64 0 ∧ w = wr) (fun _ _ i _ => 0)
  case atStart => exact ⟨rfl, rfl, rfl⟩
  case round =>
    obtain ⟨rfl, rfl, rfl⟩ := hrel
    go_wp2_with fail
    go_ret
    exact ⟨rfl, Step.refl _ _⟩
end Go.Proofs.Ytmijbplhmjledaa
