/-
  slices.SortFunc over items and slices.SortStableFunc over messages: what the rows hold behind them.
-/
import Derived.Test.YtclaagihmpghnaaLfB
import Derived.Test.YtclaagihmpghnaaLfStable
namespace Go.Proofs.Ytclaagihmpghnaa
open Go.Shelf Go.RowKit Go.Lib Go.Sort
set_option linter.unusedVariables false
set_option linter.unusedSimpArgs false

theorem cmpL_neg (a b : List UInt8) : cmpL a b < 0 ↔ a < b := by
  unfold cmpL
  by_cases h : a < b
  · simp [h]
  · by_cases h2 : b < a <;> simp [h, h2]
theorem cmpL_zero (a b : List UInt8) : cmpL a b = 0 ↔ a = b := by
  unfold cmpL
  by_cases h : a < b
  · simp [h]
    intro e
    subst e
    exact lt_irrefl' h
  · by_cases h2 : b < a
    · simp [h, h2]
      intro e
      subst e
      exact lt_irrefl' h2
    · simp [h, h2]
      exact Classical.byContradiction fun e => h2 (lt_or' h e)
theorem swo_key {α : Type} (key : α → List UInt8) : SWO (ltOf fun x y : α => cmpL (key x) (key y)) where
  irrefl x := by unfold ltOf; rw [decide_eq_false_iff_not, cmpL_neg]; exact lt_irrefl'
  trans x y z h1 h2 := by
    unfold ltOf at *
    rw [decide_eq_true_eq, cmpL_neg] at *
    exact lt_trans' h1 h2
  ntrans x y z h1 h2 := by
    unfold ltOf at *
    rw [decide_eq_false_iff_not, cmpL_neg] at *
    grind
theorem enterIt : ∀ args w, (callFunc 39 args).run Try.prog w = .ok (.enter 39 args) w := enters_of Try.func39 (by kernel_rfl) rfl
theorem enterMs : ∀ args w, (callFunc 48 args).run Try.prog w = .ok (.enter 48 args) w := enters_of Try.func48 (by kernel_rfl) rfl

theorem sortItI_any [Inhabited Rg] (xs : List Rg) (hl : xs.length ≤ 1000000) (v : Value) (base : Nat) (w : World) (hown : w.ownsRow base 46 2 v xs.length (rgs xs)) :
    Calls Try.prog 38 #[v, .func (.func 39) #[] #[]] w fun e w' => e = .returned (.tuple #[]) ∧ ∃ ys : List Rg, ys.Perm xs ∧ Up Rg.lo ys ∧ w'.ownsRow base 46 2 v xs.length (rgs ys) ∧ Step (fun k => v.ownBlock = some k) w w' := by
  rcases hown.2 with ⟨rfl, h0⟩ | ⟨g, cap, cur, rfl, hb, hg, hnc, hcm, hcs, ht⟩
  · have hx : xs = [] := List.eq_nil_of_length_eq_zero h0
    subst hx
    have h := AnyF.slices_SortFunc_none (P := Try.prog) (ρ := Try.sortIt_ren) Try.sortIt none 0 (.func (.func 39) #[] #[]) w
    refine Calls.mono (show Calls Try.prog 38 _ _ _ from h) ?_
    rintro e w' ⟨rfl, rfl⟩
    exact ⟨rfl, [], List.Perm.refl _, up_nil, hown, Step.refl _ _⟩
  · have hH := holdsK_block encI 2 (fun _ => rfl) (by omega) hg (by rw [ht, rgs_enc])
    have hC : CmpLays Try.prog 39 #[] encI 2 (fun x y : Rg => cmpL x.lo y.lo) g 0 xs.toArray.size w := fun _ _ _ _ x y => cmpIt_any x y _
    have h := AnyQ.slices_SortFunc (P := Try.prog) (ρ := Try.sortIt_ren) Try.sortIt 2 (by exact Try.isAgg46) (by exact Try.sizeOf46) encI (fun _ => rfl) (fun x v hv => by simp [encI] at hv; rcases hv with rfl | rfl <;> rfl) (fun x y : Rg => cmpL x.lo y.lo) (swo_key Rg.lo) 39 #[] g 0 cap xs.toArray w enterIt hC hH (lt_of_block hg) (by simp; omega)
    refine Calls.mono (show Calls Try.prog 38 _ _ _ from h) ?_
    rintro e w' ⟨rfl, d', n, os, hp, hs, rfl⟩
    have hsz : d'.size = xs.length := by rw [hp.1]; rfl
    have S : SWK encI 2 w g 0 d' (sortWorldK encI 2 w g 0 n d' os) := ⟨n, os, rfl⟩
    obtain ⟨cur', c1, c2, c3⟩ := swk_block encI 2 (fun _ => rfl) (by omega) hg (by rw [hsz, hcs]; exact Nat.mul_le_mul_right _ hnc) S
    have hperm : d'.toList.Perm xs := by
      have := hp.2.2
      rw [show xs.toArray.size = d'.size by rw [hsz]; rfl, Array.extract_size] at this
      rw [show d'.size = xs.toArray.size by rw [hsz]; rfl, Array.extract_size] at this
      exact this
    have hup : Up Rg.lo d'.toList := by
      have := up_of_sorted Rg.lo (ltOf fun x y : Rg => cmpL x.lo y.lo) (fun x y => by unfold ltOf; rw [decide_eq_decide]; exact cmpL_neg _ _) d' 0 d'.size (by omega) (Nat.le_refl _) (by rw [hsz]; exact hs)
      rw [List.drop_zero, List.take_of_length_le (by simp)] at this
      exact this
    refine ⟨rfl, d'.toList, hperm, hup, owns_of_block hb c1 hnc hcm (by rw [c2, hcs]) (by rw [← hsz, c3, rgs_enc]) (by rw [rgs_length, hperm.length_eq]), (swk_step encI 2 S).mono (fun i hi => .inl (by unfold oneF at hi; rw [hi]; rfl))⟩
/-- slices.SortFunc over items. -/
theorem sortIt_any (xs : List Rg) (hl : xs.length ≤ 1000000) (v : Value) (base : Nat) (w : World) (hown : w.ownsRow base 46 2 v xs.length (rgs xs)) :
    Calls Try.prog 38 #[v, .func (.func 39) #[] #[]] w fun e w' => e = .returned (.tuple #[]) ∧ ∃ ys : List Rg, ys.Perm xs ∧ Up Rg.lo ys ∧ w'.ownsRow base 46 2 v xs.length (rgs ys) ∧ Step (fun k => v.ownBlock = some k) w w' := by
  have : Inhabited Rg := ⟨⟨[], []⟩⟩
  exact sortItI_any xs hl v base w hown

set_option maxHeartbeats 1000000 in
theorem stable_none (fv : Value) (w : World) : Calls Try.prog 74 #[.slice none 0 0, .int .i64 0, fv] w fun e w' => e = .returned (.tuple #[]) ∧ w = w' := by
  have h := AnyF.insertionSortCmpFunc_none (P := Try.prog) (ρ := Try.insMg_ren) Try.insMg none 0 fv w
  have hc : Calls Try.prog 95 #[.slice none 0 0, .int .i64 0, .int .i64 0, fv] w fun e w' => e = .returned (.tuple #[]) ∧ w' = w := h
  clear h
  go_enter Try.func74, Try.ntmps74
  go_wp2
  refine wp_loop_rounds 1 ?_
  rw [rounds_succ]
  go_wp2_with (go_at_call 95; refine hc.mono ?_; rintro e w' ⟨rfl, rfl⟩)
  refine wp_loop_rounds 1 ?_
  rw [rounds_succ]
  go_wp2
  go_end0
  exact ⟨rfl, rfl⟩
theorem sortMsI_any [Inhabited Mg] (ms : List Mg) (hl : ms.length ≤ 1000000) (v : Value) (base : Nat) (w : World) (hown : w.ownsRow base 58 3 v ms.length (msgs ms)) :
    Calls Try.prog 74 #[v, .int .i64 ms.length, .func (.func 48) #[] #[]] w fun e w' => e = .returned (.tuple #[]) ∧ ∃ ys : List Mg, Alike Mg.key ys ms ∧ Up Mg.key ys ∧ ys.length = ms.length ∧ w'.ownsRow base 58 3 v ms.length (msgs ys) ∧ Step (fun k => v.ownBlock = some k) w w' := by
  rcases hown.2 with ⟨rfl, h0⟩ | ⟨g, cap, cur, rfl, hb, hg, hnc, hcm, hcs, ht⟩
  · have hx : ms = [] := List.eq_nil_of_length_eq_zero h0
    subst hx
    refine (stable_none (.func (.func 48) #[] #[]) w).mono ?_
    rintro e w' ⟨rfl, rfl⟩
    exact ⟨rfl, [], Alike.refl _, up_nil, rfl, hown, Step.refl _ _⟩
  · have hH := holdsK_block encM 3 (fun _ => rfl) (by omega) hg (by rw [ht]; rfl)
    have C : SortCtx Mg.key 3 encM (fun x y : Mg => cmpL x.key y.key) 48 #[] g 0 ms.toArray w :=
      ⟨by exact Try.sizeOf58, ⟨fun _ => rfl, fun x v hv => by simp [encM] at hv; rcases hv with rfl | rfl | rfl <;> rfl, hH, lt_of_block hg⟩, fun _ _ _ _ x y => cmpMs_any x y _, enterMs, fun x y => cmpL_neg _ _, by simp; omega⟩
    refine (stable_any C (swo_key Mg.key) cap).mono ?_
    rintro e w' ⟨rfl, d', hsz, S, hup, hal⟩
    have hsz' : d'.size = ms.length := by rw [hsz]; rfl
    obtain ⟨cur', c1, c2, c3⟩ := swk_block encM 3 (fun _ => rfl) (by omega) hg (by rw [hsz', hcs]; exact Nat.mul_le_mul_right _ hnc) S
    refine ⟨rfl, d'.toList, hal, hup, by simpa using hsz', owns_of_block hb c1 hnc hcm (by rw [c2, hcs]) (by rw [← hsz', c3]; rfl) (by rw [msgs_length]; simp [hsz']), (swk_step encM 3 S).mono (fun i hi => .inl (by unfold oneF at hi; rw [hi]; rfl))⟩
set_option maxHeartbeats 1000000 in
/-- slices.SortStableFunc over messages. -/
theorem sortMs_any (ms : List Mg) (hl : ms.length ≤ 1000000) (v : Value) (base : Nat) (w : World) (hown : w.ownsRow base 58 3 v ms.length (msgs ms)) :
    Calls Try.prog 47 #[v, .func (.func 48) #[] #[]] w fun e w' => e = .returned (.tuple #[]) ∧ ∃ ys : List Mg, Alike Mg.key ys ms ∧ Up Mg.key ys ∧ ys.length = ms.length ∧ w'.ownsRow base 58 3 v ms.length (msgs ys) ∧ Step (fun k => v.ownBlock = some k) w w' := by
  have : Inhabited Mg := ⟨⟨0, [], []⟩⟩
  have hc := sortMsI_any ms hl v base w hown
  obtain ⟨a, c, rfl⟩ := owns_form hown
  clear hown
  go_enter Try.func47, Try.ntmps47
  go_wp2_with (go_at_call 74; refine hc.mono ?_; rintro e w' ⟨rfl, hh⟩)
  have HH := hid hh
  clear hh
  go_end0
  exact ⟨rfl, HH.out⟩
end Go.Proofs.Ytclaagihmpghnaa
