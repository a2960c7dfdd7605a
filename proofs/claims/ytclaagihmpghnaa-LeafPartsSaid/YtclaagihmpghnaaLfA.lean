/-
  What the small functions of package leaf (and of key, at items) do.
-/
import Derived.Test.YtclaagihmpghnaaLfRow
import Derived.Test.YtclaagihmpghnaaLeafM
import Derived.Test.YtclaagihmpghnaaMsgA
import Derived.Laws.Cover1
namespace Go.Proofs.Ytclaagihmpghnaa
open Go.RowKit Go.Sort
set_option linter.unusedVariables false
set_option linter.unusedSimpArgs false

theorem cmpIt_any (x y : Rg) (w : World) : Calls Try.prog 39 #[.agg #[.string (str x.lo), .string (str x.hi)], .agg #[.string (str y.lo), .string (str y.hi)]] w fun e w' => e = .returned (.int .i64 (cmpL x.lo y.lo)) ∧ ∃ q os, w' = grow (w.drewN q) os := by
  go_enter Try.func39, Try.ntmps39
  go_wp2_with (go_at_call 71; refine (cmp_any _ _ _).mono ?_; rintro e w' ⟨rfl, rfl⟩)
  go_ret
  exact ⟨rfl, 0, _, by rw [alloc_eq_grow, alloc_eq_grow, grow_grow]; rfl⟩
theorem cmpMs_any (x y : Mg) (w : World) : Calls Try.prog 48 #[.agg #[.int .i64 x.kind, .string (str x.key), .string (str x.val)], .agg #[.int .i64 y.kind, .string (str y.key), .string (str y.val)]] w fun e w' => e = .returned (.int .i64 (cmpL x.key y.key)) ∧ ∃ q os, w' = grow (w.drewN q) os := by
  go_enter Try.func48, Try.ntmps48
  go_wp2_with (go_at_call 71; refine (cmp_any _ _ _).mono ?_; rintro e w' ⟨rfl, rfl⟩)
  go_ret
  exact ⟨rfl, 0, _, by rw [alloc_eq_grow, alloc_eq_grow, grow_grow]; rfl⟩
theorem weightIt_any (x : Rg) (hx : x.lo.length ≤ 1000000000 ∧ x.hi.length ≤ 1000000000) (w : World) : Calls Try.prog 42 #[.agg #[.string (str x.lo), .string (str x.hi)]] w fun e w' => e = .returned (.int .i64 (itW x)) ∧ Step noF w w' := by
  have hz := str_size
  obtain ⟨h1, h2⟩ := hx
  go_enter Try.func42, Try.ntmps42
  go_wp2
  go_ret
  exact ⟨ret_int (by unfold itW; omega), (Step.refl _ w).alloc _⟩
theorem itemIsNot_any (x : Rg) (w : World) : Calls Try.prog 36 #[.agg #[.string (str x.lo), .string (str x.hi)]] w fun e w' => e = .returned (.bool !itOk x) ∧ Step noF w w' := by
  cases h1 : isK x.lo
  · go_enter Try.func36, Try.ntmps36
    go_wp2_with (go_at_call 63; refine (is_any _ _).mono ?_; rintro e w' ⟨rfl, rfl⟩)
    go_ret
    exact ⟨ret_bool (by simp [itOk, h1]), (Step.refl _ w).alloc _⟩
  · go_enter Try.func36, Try.ntmps36
    go_wp2_with (first | (go_at_call 63; refine (is_any _ _).mono ?_; rintro e w' ⟨rfl, rfl⟩) | (go_at_call 68; refine (isVal_any _ _).mono ?_; rintro e w' ⟨rfl, rfl⟩))
    go_ret
    exact ⟨ret_bool (by simp [itOk, h1]), (Step.refl _ w).alloc _⟩
theorem msgIsNot_any (m : Mg) (hm : m.val.length ≤ maxLen) (w : World) : Calls Try.prog 45 #[.agg #[.int .i64 m.kind, .string (str m.key), .string (str m.val)]] w fun e w' => e = .returned (.bool !m.is) ∧ Step noF w w' := by
  have cN := mis_any m hm
  have e0 : m.value = .agg #[.int .i64 m.kind, .string (str m.key), .string (str m.val)] := rfl
  rw [e0] at cN
  clear e0
  obtain ⟨A, hA⟩ : ∃ A, m.is = A := ⟨_, rfl⟩
  rw [hA] at cN ⊢
  clear hA
  go_enter Try.func45, Try.ntmps45
  go_wp2_with (go_at_call 73; refine (cN _).mono ?_; rintro e w2 ⟨rfl, s2⟩)
  go_ret
  exact ⟨ret_bool rfl, ((Step.refl _ w).alloc _).trans s2⟩
theorem item_any (k v : List UInt8) (w : World) : Calls Try.prog 32 #[.string (str k), .string (str v)] w fun e w' => e = .returned (.agg #[.string (str k), .string (str v)]) ∧ Step noF w w' := by
  go_enter Try.func32, Try.ntmps32
  go_wp2
  refine bodyPost_ret (v := .agg #[.string (str k), .string (str v)]) (by simp [results, Try.results32, go_sem, *]) rfl ?_
  refine ⟨rfl, ?_⟩
  exact (Step.refl _ w).alloc _
end Go.Proofs.Ytclaagihmpghnaa
