/-
  Within; half and Parts.
-/
import Derived.Test.YtclaagihmpghnaaLfG
namespace Go.Proofs.Ytclaagihmpghnaa
open Go.RowKit Go.Sort
set_option linter.unusedVariables false
set_option linter.unusedSimpArgs false
set_option maxRecDepth 20000

theorem within_nil (r : Rg) (w : World) : Calls Try.prog 18 #[.pointer none, .agg #[.string (str r.lo), .string (str r.hi)]] w fun e w' => e = .returned (.pointer none) ∧ Step noF w w' := by
  go_enter Try.func18, Try.ntmps18
  go_wp2
  go_ret
  exact ⟨rfl, (Step.refl _ _).alloc _⟩
theorem within_take (r : Rg) (xs : List Rg) (j : Nat) (hj : j < xs.length) : withinL r (xs.take (j + 1)) = withinL r (xs.take j) ++ (if r.has xs[j].lo then [xs[j]] else []) := by
  unfold withinL
  rw [List.take_succ_eq_append_getElem hj, List.filter_append]
  congr 1
  by_cases h : r.has xs[j].lo = true
  · simp [h]
  · simp [h]
theorem within_len (r : Rg) (xs : List Rg) : (withinL r xs).length ≤ xs.length := List.length_filter_le _ _

set_option maxHeartbeats 2000000 in
theorem within_any (p : Nat) (xs : List Rg) (hl : xs.length ≤ 1000000) (r : Rg) (w : World) (h : LeafAt w p xs) :
    Calls Try.prog 18 #[.pointer (some ⟨p, 0, none⟩), .agg #[.string (str r.lo), .string (str r.hi)]] w fun e w' => ∃ q, e = .returned (.pointer (some ⟨q, 0, none⟩)) ∧ w.heap.size ≤ q ∧ LeafAt w' q (withinL r xs) ∧ Step noF w w' := by
  obtain ⟨a, c, h1, h2, h3, h4⟩ := h.cell
  obtain ⟨i0, hi, hz0, hz1, hz2⟩ := info_it
  have HR := hid h4
  have HP := hid h.lt
  have cH := fun k => has_any r k
  have er : r.val = .agg #[.string (str r.lo), .string (str r.hi)] := rfl
  rw [er] at cH
  have h1' : ∀ o, (w.alloc o).cell? ⟨p, 0, none⟩ = some (.slice a xs.length c) := fun o => cell_alloc h1 o
  clear h h2 h3 h4 er
  go_enter Try.func18, Try.ntmps18
  go_wp2_with fail
  go_loopw [15, 5] (fun i v wr => ∃ (j : Nat), j ≤ xs.length ∧ i = .int .i64 j ∧ Hid (wr.ownsRow (w.heap.size + 1) 46 2 v (withinL r (xs.take j)).length (rgs (withinL r (xs.take j)))) ∧ Hid (Step noF (w.alloc (.cells #[.string (str r.lo), .string (str r.hi)] 25)) wr)) (fun i _ _ => xs.length - (intOf i).toNat)
  case atStart => exact ⟨0, Nat.zero_le _, rfl, World.ownsRow_nil _ _ _ _, Step.refl _ _⟩
  case round =>
    obtain ⟨j, hj, rfl, HO, HS⟩ := hrel
    have b0 : wr.cell? ⟨w.heap.size, 0, none⟩ = some (.string (str r.lo)) := HS.out.after (two_new w _ _ _).1
    have b1 : wr.cell? ⟨w.heap.size, 1, none⟩ = some (.string (str r.hi)) := HS.out.after (two_new w _ _ _).2
    have b0' : ∀ o, (wr.alloc o).cell? ⟨w.heap.size, 0, none⟩ = some (.string (str r.lo)) := fun o => cell_alloc b0 o
    have b1' : ∀ o, (wr.alloc o).cell? ⟨w.heap.size, 1, none⟩ = some (.string (str r.hi)) := fun o => cell_alloc b1 o
    have ST : Hid (Step noF w wr) := ((Step.refl noF w).alloc _).trans HS.out
    by_cases hjl : j < xs.length
    · obtain ⟨g, off, rfl, c0, c1⟩ := (HR.out.step ST.out).at j hjl
      have HT := hid (within_take r xs j hjl)
      have HLn := hid (within_len r (xs.take j))
      obtain ⟨⟨x, y⟩, hm⟩ : ∃ m, xs[j] = m := ⟨_, rfl⟩
      rw [hm] at c0 c1 HT
      clear hm
      have cHx := cH x
      obtain ⟨D, hD⟩ : ∃ D, r.has x = D := ⟨_, rfl⟩
      have HT2 : Hid (withinL r (xs.take (j + 1)) = withinL r (xs.take j) ++ (if D then [⟨x, y⟩] else [])) := by
        show _ = _
        rw [HT.out, ← hD]
      rw [hD] at cHx
      clear hD HT
      cases D
      · have HT3 : Hid (withinL r (xs.take (j + 1)) = withinL r (xs.take j)) := by
          show _ = _
          rw [HT2.out]
          simp
        clear HT2
        go_wp2_with fail
        refine (cHx _).mono ?_
        rintro e w2 ⟨rfl, s2⟩
        have S2 : Hid (Step noF wr w2) := ((Step.refl noF wr).alloc _).trans s2
        clear s2
        go_wp2_with fail
        go_roundw
        case rel =>
          refine ⟨j + 1, by omega, int_eq (by omega), ?_, HS.out.trans S2.out⟩
          show World.ownsRow _ _ _ _ _ _ _
          rw [HT3.out]
          exact owns_step HO.out S2.out (fun _ _ h => h)
        case measure => simp [intOf]; omega
      · go_wp2_with fail
        refine (cHx _).mono ?_
        rintro e w2 ⟨rfl, s2⟩
        have S2 : Hid (Step noF wr w2) := ((Step.refl noF wr).alloc _).trans s2
        have f0 : w2.cell? ⟨wr.heap.size, 0, none⟩ = some (.string (str x)) := s2.after (two_new wr _ _ _).1
        have f1 : w2.cell? ⟨wr.heap.size, 1, none⟩ = some (.string (str y)) := s2.after (two_new wr _ _ _).2
        clear s2
        have HN : Hid (RgsAt (w2.alloc (.cells #[.string (str x), .string (str y)] 46)) (some ⟨w2.heap.size, 0, none⟩) [⟨x, y⟩]) := rgsAt_block (block_alloc_new w2 _) (rest := []) rfl
        have HO2 : Hid ((w2.alloc (.cells #[.string (str x), .string (str y)] 46)).ownsRow (w.heap.size + 1) 46 2 u5 (withinL r (xs.take j)).length (rgs (withinL r (xs.take j)))) := owns_step HO.out (S2.out.alloc _) (fun _ _ h => h)
        have HSZ : Hid (w.heap.size + 1 ≤ (w2.alloc (.cells #[.string (str x), .string (str y)] 46)).heap.size) := by have := (HS.out.trans (S2.out.alloc (.cells #[.string (str x), .string (str y)] 46))).size; rw [World.size_alloc] at this; exact this
        have HLL : Hid ((withinL r (xs.take j)).length + 1 ≤ 1000000000) := by
          have := HLn.out
          rw [List.length_take] at this
          show _ ≤ _
          omega
        go_wp2_with (at_builtin; refine wpList_append_it rfl _ _ rfl (w.heap.size + 1) _ (withinL r (xs.take j)) rfl HO2.out (some ⟨w2.heap.size, 0, none⟩) 1 [⟨x, y⟩] rfl HN.out (by intro h; cases h) HLL.out HSZ.out ?_)
        intro v' w3 o3 g3
        have O3 := hid o3
        have S3 : Hid (Step noF (w.alloc (.cells #[.string (str r.lo), .string (str r.hi)] 25)) w3) := (HS.out.trans (S2.out.alloc _)).grown g3 (fun k hk => .inr (by
          have h1 := (HO2.out.lt k hk).1
          rw [World.size_alloc]
          exact h1))
        clear o3 g3
        go_wp2_with fail
        go_roundw
        case rel =>
          refine ⟨j + 1, by omega, int_eq (by omega), ?_, S3.out⟩
          show World.ownsRow _ _ _ _ _ _ _
          rw [HT2.out, if_pos trivial, List.length_append]
          exact O3.out
        case measure => simp [intOf]; omega
    · obtain rfl : j = xs.length := by omega
      have HO2 : Hid (wr.ownsRow (w.heap.size + 1) 46 2 u5 (withinL r xs).length (rgs (withinL r xs))) := by
        have := HO.out
        rw [List.take_of_length_le (Nat.le_refl _)] at this
        exact this
      obtain ⟨va, vc, rfl⟩ := owns_form HO2.out
      go_wp2_with fail
      go_ret
      exact ⟨wr.heap.size, rfl, ST.out.size, leafAt_new HO2.out, ST.out.alloc _⟩

theorem half_eq (xs : List Rg) (n : Nat) (hn : n ≤ xs.length) (h1 : ∀ m, m < n → 2 * wtL (xs.take m) < wtL xs) (h2 : wtL xs ≤ 2 * wtL (xs.take n)) : halfN xs = n := by
  rcases Nat.lt_trichotomy (halfN xs) n with h | h | h
  · have := h1 _ h
    have := half_ge xs
    omega
  · exact h
  · have := half_lt xs n h
    omega
set_option maxHeartbeats 1000000 in
theorem half_any (p : Nat) (xs : List Rg) (hS : Small xs) (w : World) (h : LeafAt w p xs) : Calls Try.prog 56 #[.pointer (some ⟨p, 0, none⟩)] w fun e w' => e = .returned (.int .i64 (halfN xs)) ∧ Step noF w w' := by
  have cW := weight_anyL p xs hS w h
  have HL := hid h
  have hl := hS.1
  have HS := hid hS
  have hwt : wtL xs ≤ 2000002000000 := by
    have := wtL_small xs hS.2
    omega
  obtain ⟨W, hW⟩ : ∃ W, wtL xs = W := ⟨_, rfl⟩
  rw [hW] at cW hwt
  have HW := hid hW
  clear h hS hW
  go_enter Try.func56, Try.ntmps56
  go_wp2_with fail
  refine cW.mono ?_
  rintro e w2 ⟨rfl, s2⟩
  have S2 := hid s2
  clear s2
  go_wp2_with fail
  go_loopg [3, 4, 5, 6] xs.length (fun kx s3 s4 s5 s6 wr => ∃ (n x y : Nat), s3 = .int .i64 n ∧ s4 = .int .i64 x ∧ s5 = .int .i64 y ∧ n ≤ xs.length ∧ x + y ≤ 2000002000000 ∧ xs.length - n ≤ kx ∧ Hid (x + y = W ∧ x = wtL (xs.take n) ∧ ∀ m, m < n → 2 * wtL (xs.take m) < W) ∧ Hid (Step noF w wr))
  case atStart =>
    refine ⟨0, 0, W, rfl, rfl, rfl, by omega, by omega, by omega, ?_, S2⟩
    exact ⟨by omega, by simp [wtL], fun m hm => absurd hm (by omega)⟩
  case round =>
    obtain ⟨n, x, y, rfl, rfl, rfl, hn, hxy, hkx, HI, ST⟩ := hrel
    by_cases hlt : x < y
    · have hltz : (x : Int) < (y : Int) := by omega
      have hnl : n < xs.length := by
        rcases Nat.lt_or_ge n xs.length with h | h
        · exact h
        · obtain ⟨i1, i2, _⟩ := HI.out
          rw [List.take_of_length_le h, HW.out] at i2
          omega
      obtain ⟨a, c, k1, _, _, r1⟩ := (HL.out.step ST.out).cell
      obtain ⟨g, off, rfl, c0, c1⟩ := r1.at n hnl
      have hx := HS.out.2 xs[n] (List.getElem_mem hnl)
      have HT := hid (wtL_take xs n hnl)
      have HD : Hid (wtL (xs.take (n + 1)) ≤ W) := by
        show _ ≤ _
        rw [← HW.out]
        conv => rhs; rw [← List.take_append_drop (n + 1) xs, wtL_append]
        omega
      have cI := weightIt_any xs[n] (by omega)
      obtain ⟨⟨u, v⟩, hm⟩ : ∃ m, xs[n] = m := ⟨_, rfl⟩
      rw [hm] at c0 c1 HT cI
      obtain ⟨q, hq⟩ : ∃ q, itW ⟨u, v⟩ = q := ⟨_, rfl⟩
      rw [hq] at cI HT
      have hqy : q ≤ y := by
        obtain ⟨i1, i2, _⟩ := HI.out
        have a1 := HT.out
        have a2 := HD.out
        omega
      obtain ⟨y', hy'⟩ : ∃ y', y - q = y' := ⟨_, rfl⟩
      have ey : (y : Int) - (q : Int) = (y' : Int) := by omega
      have HY := hid hy'
      have ry : IntKind.i64.wrap (y' : Int) = (y' : Int) := by rw [IntKind.wrap_i64]; omega
      have hnz : (n : Int) < (xs.length : Int) := by omega
      clear hm hx hq r1 hy'
      go_wp2_with fail
      refine (cI _).mono ?_
      rintro e w3 ⟨rfl, s3⟩
      have S3 : Hid (Step noF w w3) := ST.out.trans s3
      clear s3
      go_wp2_with fail
      go_roundg (xs.length - (n + 1))
      case measure => omega
      case rel =>
        refine ⟨n + 1, x + q, y', by simp, by simp, rfl, by omega, by have := HY.out; omega, Nat.le_refl _, ?_, S3⟩
        obtain ⟨i1, i2, i3⟩ := HI.out
        refine ⟨by have := HY.out; omega, by rw [HT.out, i2], fun m hm => ?_⟩
        rcases Nat.lt_or_eq_of_le (Nat.le_of_lt_succ hm) with h | h
        · exact i3 m h
        · rw [h, ← i2]
          omega
    · have hltz : ¬ (x : Int) < (y : Int) := by omega
      go_wp2_with fail
      go_ret
      obtain ⟨i1, i2, i3⟩ := HI.out
      refine ⟨ret_int ?_, ST.out⟩
      rw [half_eq xs n hn (fun m hm => by rw [HW.out]; exact i3 m hm) (by rw [HW.out, ← i2]; omega)]
end Go.Proofs.Ytclaagihmpghnaa
