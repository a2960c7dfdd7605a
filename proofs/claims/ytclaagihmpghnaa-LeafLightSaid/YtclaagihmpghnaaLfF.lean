/-
  slices.BinarySearchFunc over items, and Find.
-/
import Derived.Test.YtclaagihmpghnaaLfE
namespace Go.Proofs.Ytclaagihmpghnaa
open Go.RowKit Go.Sort
set_option linter.unusedVariables false
set_option linter.unusedSimpArgs false

theorem belowN_eq (k : List UInt8) (xs : List Rg) (hR : Rising xs) (i : Nat) (hi : i ≤ xs.length) (h1 : ∀ t (h : t < xs.length), t < i → xs[t].lo < k) (h2 : ∀ t (h : t < xs.length), i ≤ t → ¬ xs[t].lo < k) : belowN k xs = i := by
  have hb := belowN_le k xs
  rcases Nat.lt_trichotomy (belowN k xs) i with h | h | h
  · exact absurd (h1 _ (by omega) h) (below_ge k xs hR _ (by omega) (Nat.le_refl _))
  · exact h
  · exact absurd (below_lt k xs i (by omega) h) (h2 i (by omega) (Nat.le_refl _))
theorem rising_at {xs : List Rg} (h : Rising xs) {i j : Nat} (hj : j < xs.length) (hij : i ≤ j) (k : List UInt8) (hk : xs[j].lo < k) : (xs[i]'(by omega)).lo < k := by
  rcases Nat.lt_or_eq_of_le hij with e | e
  · exact lt_trans' (List.pairwise_iff_getElem.1 h i j (by omega) hj e) hk
  · subst e; exact hk
theorem findL_there (k : List UInt8) (xs : List Rg) (hR : Rising xs) (i : Nat) (hi : i < xs.length) (hk : xs[i].lo = k) : findL k xs = some xs[i].hi := by
  rw [← hk]
  exact findL_mem xs hR xs[i] (List.getElem_mem hi)
theorem findL_not (k : List UInt8) (xs : List Rg) (hR : Rising xs) (h : ∀ (hi : belowN k xs < xs.length), xs[belowN k xs].lo ≠ k) : findL k xs = none := by
  refine findL_none k xs ?_
  rintro ⟨x, hx, e⟩
  obtain ⟨j, hj, rfl⟩ := List.getElem_of_mem hx
  have hb : belowN k xs = j := belowN_eq k xs hR j (by omega) (fun t ht htj => by rw [← e]; exact List.pairwise_iff_getElem.1 hR t j ht hj htj) (fun t ht htj hlt => by
    have := rising_at hR ht htj k hlt
    rw [e] at this
    exact lt_irrefl' this)
  have := h (by omega)
  apply this
  simp only [hb]
  exact e

/-- Where a key is, or would be; and whether it is there. -/
def BsPost (k : List UInt8) (xs : List Rg) (e : Ending) : Prop := ∃ i, i ≤ xs.length ∧ ((∃ h : i < xs.length, xs[i].lo = k ∧ e = .returned (.tuple #[.int .i64 i, .bool true])) ∨ (findL k xs = none ∧ e = .returned (.tuple #[.int .i64 i, .bool false])))

set_option maxHeartbeats 2000000 in
theorem bsearch_any (xs : List Rg) (hl : xs.length ≤ 1000000) (hR : Rising xs) (k : List UInt8) (a : Option Addr) (c : Nat) (w : World) (h : RgsAt w a xs) :
    Calls Try.prog 54 #[.slice a xs.length c, .agg #[.string (str k), .string (str [])], .func (.func 39) #[] #[]] w fun e w' => BsPost k xs e ∧ Step noF w w' := by
  have mixed : Try.prog.follows .mixedOrders = true := by kernel_rfl
  have HR := hid h
  have HO := hid hR
  have h0 := nil_str
  clear h hR
  go_enter Try.func54, Try.ntmps54
  go_wp2
  go_loopg [9, 10] xs.length (fun kx s9 s10 wr => ∃ (i j : Nat), s9 = .int .i64 i ∧ s10 = .int .i64 j ∧ i ≤ j ∧ j ≤ xs.length ∧ j - i ≤ kx ∧ Hid (Step noF (w.alloc (.cells #[.string (str k), .string (str [])] 46)) wr) ∧ Hid ((∀ t (h : t < xs.length), t < i → xs[t].lo < k) ∧ (∀ t (h : t < xs.length), j ≤ t → ¬ xs[t].lo < k)))
  case atStart => exact ⟨0, xs.length, rfl, rfl, Nat.zero_le _, Nat.le_refl _, by omega, Step.refl _ _, ⟨fun t _ h => absurd h (by omega), fun t h h2 => absurd h (by omega)⟩⟩
  case round =>
    obtain ⟨i, j, rfl, rfl, hij, hjn, hkx, ST, HI⟩ := hrel
    have hb0 : wr.cell? ⟨w.heap.size, 0, none⟩ = some (.string (str k)) := ST.out.after (by rw [cell_of_block (block_alloc_new w _)]; rfl)
    have hb1 : wr.cell? ⟨w.heap.size, 1, none⟩ = some (.string (str [])) := ST.out.after (by rw [cell_of_block (block_alloc_new w _)]; rfl)
    have t0 : ∀ n os, (grow (wr.drewN n) os).cell? ⟨w.heap.size, 0, none⟩ = some (.string (str k)) := fun n os => cell_grown (World.block_lt_of_cell? wr _ hb0) hb0 n os
    have t1 : ∀ n os, (grow (wr.drewN n) os).cell? ⟨w.heap.size, 1, none⟩ = some (.string (str [])) := fun n os => cell_grown (World.block_lt_of_cell? wr _ hb1) hb1 n os
    by_cases hlt : i < j
    · have hltz : (i : Int) < (j : Int) := by omega
      obtain ⟨m, hm⟩ : ∃ m, (i + j) / 2 = m := ⟨_, rfl⟩
      have em : ((i : Int) + (j : Int)) / 2 = (m : Int) := by omega
      have him : i ≤ m := by omega
      have hmj : m < j := by omega
      have hmn : m < xs.length := by omega
      have hmz : (m : Int) < (xs.length : Int) := by omega
      clear hm
      obtain ⟨g, off, rfl, c0, c1⟩ := (HR.out.step (((Step.refl noF w).alloc _).trans ST.out)).at m hmn
      obtain ⟨k0, k1⟩ := grown_two c0 c1
      have hcg := fun n os => cmpIt_any xs[m] ⟨k, []⟩ (grow (wr.drewN n) os)
      have HN := hid (cmpL_neg xs[m].lo k)
      change ∀ n os, Calls _ _ _ _ fun e w' => e = .returned (.int .i64 (cmpL xs[m].lo k)) ∧ _ at hcg
      obtain ⟨r, hr⟩ : ∃ r, cmpL xs[m].lo k = r := ⟨_, rfl⟩
      obtain ⟨⟨x0, x1⟩, hx⟩ : ∃ q, xs[m] = q := ⟨_, rfl⟩
      have HX := hid hx
      rw [hr] at hcg HN
      rw [hx] at hcg k0 k1
      clear hr hx c0 c1 hb0 hb1
      rcases Decidable.em (r < 0) with hlv | hlv
      case inl =>
        have hlv2 : decide (r < 0) = true := decide_eq_true hlv
        go_wp2_with fail
        go_quiet_grown (first | (go_at_call 39; refine Calls.grown_of (hcg _ _)) | (go_at_fn 39; refine Calls.grown_of (hcg _ _)) | (refine Calls.grown_of (hcg _ _)))
        go_wp2
        go_roundg (j - (m + 1))
        case measure => omega
        case rel =>
          refine ⟨m + 1, j, by simp, rfl, by omega, by omega, Nat.le_refl _, ST.out.trans (step_grow _ _ _), ⟨fun t ht htm => ?_, HI.out.2⟩⟩
          exact rising_at HO.out hmn (by omega) k (HN.out.1 hlv)
      case inr =>
        have hlv2 : decide (r < 0) = false := decide_eq_false hlv
        have HNL := hid hlv
        go_wp2_with fail
        go_quiet_grown (first | (go_at_call 39; refine Calls.grown_of (hcg _ _)) | (go_at_fn 39; refine Calls.grown_of (hcg _ _)) | (refine Calls.grown_of (hcg _ _)))
        go_wp2
        go_roundg (m - i)
        case measure => omega
        case rel =>
          refine ⟨i, m, rfl, rfl, by omega, by omega, Nat.le_refl _, ST.out.trans (step_grow _ _ _), ⟨HI.out.1, fun t ht htm hlt => ?_⟩⟩
          have := rising_at HO.out ht htm k hlt
          exact absurd (HN.out.2 this) (by have := HNL.out; omega)
    · obtain rfl : i = j := by omega
      have hltz : ¬ (i : Int) < (i : Int) := by omega
      have HB : Hid (belowN k xs = i) := belowN_eq k xs HO.out i hjn HI.out.1 HI.out.2
      by_cases hin : i < xs.length
      · have hmz : (i : Int) < (xs.length : Int) := by omega
        obtain ⟨g, off, rfl, c0, c1⟩ := (HR.out.step (((Step.refl noF w).alloc _).trans ST.out)).at i hin
        obtain ⟨k0, k1⟩ := grown_two c0 c1
        have hcg := fun n os => cmpIt_any xs[i] ⟨k, []⟩ (grow (wr.drewN n) os)
        have HN := hid (cmpL_zero xs[i].lo k)
        change ∀ n os, Calls _ _ _ _ fun e w' => e = .returned (.int .i64 (cmpL xs[i].lo k)) ∧ _ at hcg
        obtain ⟨r, hr⟩ : ∃ r, cmpL xs[i].lo k = r := ⟨_, rfl⟩
        obtain ⟨⟨x0, x1⟩, hx⟩ : ∃ q, xs[i] = q := ⟨_, rfl⟩
        rw [hr] at hcg HN
        rw [hx] at hcg k0 k1
        clear hr hx c0 c1 hb0 hb1
        by_cases h00 : r = 0
        · have HZ := hid (HN.out.1 h00)
          subst h00
          go_wp2_with fail
          go_quiet_grown (first | (go_at_call 39; refine Calls.grown_of (hcg _ _)) | (go_at_fn 39; refine Calls.grown_of (hcg _ _)) | (refine Calls.grown_of (hcg _ _)))
          go_wp2
          go_ret2
          exact ⟨⟨i, hjn, .inl ⟨hin, HZ.out, rfl⟩⟩, (((Step.refl noF w).alloc _).trans ST.out).trans (step_grow _ _ _)⟩
        · have h01 : (r == 0) = false := by rw [beq_eq_false_iff_ne]; exact h00
          have HZ : Hid (findL k xs = none) := findL_not k xs HO.out (fun hh e => h00 (HN.out.2 (by simpa [HB.out] using e)))
          go_wp2_with fail
          go_quiet_grown (first | (go_at_call 39; refine Calls.grown_of (hcg _ _)) | (go_at_fn 39; refine Calls.grown_of (hcg _ _)) | (refine Calls.grown_of (hcg _ _)))
          go_wp2
          go_ret2
          exact ⟨⟨i, hjn, .inr ⟨HZ.out, rfl⟩⟩, (((Step.refl noF w).alloc _).trans ST.out).trans (step_grow _ _ _)⟩
      · have hmz : ¬ (i : Int) < (xs.length : Int) := by omega
        have hmz2 : decide ((i : Int) < (xs.length : Int)) = false := decide_eq_false hmz
        have HZ : Hid (findL k xs = none) := findL_not k xs HO.out (fun hh e => absurd hh (by rw [HB.out]; exact hin))
        clear hb0 hb1
        go_wp2_with fail
        go_big_region_o
        all_goals go_wp2
        go_ret2
        exact ⟨⟨i, hjn, .inr ⟨HZ.out, rfl⟩⟩, (((Step.refl noF w).alloc _).trans ST.out).drew⟩

/-- What Find answers. -/
def findV (k : List UInt8) (xs : List Rg) : Value := .tuple #[.string (str ((findL k xs).getD [])), .bool (findL k xs).isSome]
theorem find_nil (k : List UInt8) (w : World) : Calls Try.prog 22 #[.pointer none, .string (str k)] w fun e w' => e = .returned (.tuple #[.string (str []), .bool false]) ∧ w = w' := by
  go_enter Try.func22, Try.ntmps22
  go_wp2
  go_ret2
  exact ⟨rfl, rfl⟩
set_option maxHeartbeats 1000000 in
theorem find_any (p : Nat) (xs : List Rg) (hl : xs.length ≤ 1000000) (hR : Rising xs) (k : List UInt8) (w : World) (h : LeafAt w p xs) :
    Calls Try.prog 22 #[.pointer (some ⟨p, 0, none⟩), .string (str k)] w fun e w' => e = .returned (findV k xs) ∧ Step noF w w' := by
  obtain ⟨a, c, h1, h2, h3, h4⟩ := h.cell
  have hc := bsearch_any xs hl hR k a c w h4
  have H4 := hid h4
  have HO := hid hR
  clear h h2 h3 h4 hR
  go_enter Try.func22, Try.ntmps22
  go_wp2_with fail
  refine hc.mono ?_
  rintro e w2 ⟨⟨i, hi, hp⟩, s2⟩
  have S2 := hid s2
  have h1' := s2.after h1
  clear s2
  rcases hp with ⟨hin, hk, rfl⟩ | ⟨hn, rfl⟩
  · obtain ⟨g, off, rfl, c0, c1⟩ := (H4.out.step S2.out).at i hin
    have HV : Hid (findV k xs = .tuple #[.string (str xs[i].hi), .bool true]) := by show _ = _; unfold findV; rw [findL_there k xs HO.out i hin hk]; rfl
    have hiz : (i : Int) < (xs.length : Int) := by omega
    obtain ⟨y, hy⟩ : ∃ y, xs[i].hi = y := ⟨_, rfl⟩
    rw [hy] at c1 HV
    clear hk c0 hy hc
    go_wp2_with fail
    go_ret2
    exact ⟨by rw [HV.out]; rfl, S2.out⟩
  · have HV : Hid (findV k xs = .tuple #[.string (str []), .bool false]) := by show _ = _; unfold findV; rw [hn]; rfl
    clear hn hc
    go_wp2_with fail
    go_ret2
    exact ⟨by rw [HV.out]; rfl, S2.out⟩
end Go.Proofs.Ytclaagihmpghnaa
