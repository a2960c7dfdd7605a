/-
  A region that draws its order, of each of whose slots a predicate is said that stays true as the world goes on; its last two operations are stores, one behind the other, that wait for all others. Nothing of the program is named here.
-/
import Derived.Test.YtgmgoaencaldmaaPred
import Derived.Test.YtgmgoaencaldmaaPart
namespace Go.Proofs.Ytgmgoaencaldmaa
open Go.RowKit
set_option linter.unusedVariables false
section
variable {P : Program} {ops : Array Oper} {Q : Exit → Act → World → Prop}

theorem wp_region_pred2 {id : Nat} {a0 : Act} {w0 : World} (Sp : Nat → World → Value → Prop) (mono : ∀ i w w' v, Step noF w w' → Sp i w v → Sp i w' v) (Df : Nat → Nat → Value → Value → Prop) (sym : ∀ i j u v, Df i j u v → Df j i v u) (dl : List (Option Nat)) (n : Nat) (hn : ops.size = n + 2) (hm : P.follows .mixedOrders = true) (hb : backB ops = true) (hu : usedB ops n = true) (hl1 : n ∈ deps ops (n + 1))
    (hdl : ops.toList.map (·.dst) = dl) (hnd : dl.Pairwise (fun x y => x = none ∨ x ≠ y)) (hlt : ∀ d, some d ∈ dl → d < a0.tmps.size) (hlast : dl[n]? = some none) (hlast2 : dl[n + 1]? = some none)
    (hstep : ∀ (i : Nat), i < n → ∀ (a : Act) (w : World), Step noF w0 w → (∀ k, some k ∉ dl → a.tmps.getD k undef = a0.tmps.getD k undef) → (∀ j ∈ deps ops i, ∀ d, dl[j]? = some (some d) → Sp j w (a.tmps.getD d undef)) →
      wpOp P ops Q i (fun a' w' => ∃ d v, dl[i]? = some (some d) ∧ a' = a.put (some d) v ∧ Step noF w w' ∧ Sp i w' v ∧ ∀ j, j ≠ i → ∀ u, Sp j w u → Df j i u v) a w)
    (hdst : ∀ j, j < n → ∃ d, dl[j]? = some (some d))
    (hstore : ∀ (a : Act) (w : World), Step noF w0 w → a.defers = a0.defers → a.tmps.size = a0.tmps.size → (∀ k, some k ∉ dl → a.tmps.getD k undef = a0.tmps.getD k undef) → (∀ j, j < n → ∀ d, dl[j]? = some (some d) → Sp j w (a.tmps.getD d undef)) → (∀ j k, j < n → k < n → j ≠ k → ∀ d e, dl[j]? = some (some d) → dl[k]? = some (some e) → Df j k (a.tmps.getD d undef) (a.tmps.getD e undef)) →
      wpOp P ops Q n (fun a' w' => wpOp P ops Q (n + 1) (fun a'' w'' => Q .normal a'' w'') a' w') a w) :
    (Code.region id ops true).wp P Q a0 w0 := by
  have hlen : dl.length = n + 2 := by rw [← hdl]; simpa using hn
  have hclo : ∀ (listed : Array Bool) (i : Nat), (∀ j ∈ deps ops i, listed.getD j false = true) → (∀ q, q < n + 2 → listed.getD q false = true → ∀ j ∈ deps ops q, listed.getD j false = true) → (∀ q, q < n + 2 → (listed.setIfInBounds i true).getD q false = true → ∀ j ∈ deps ops q, (listed.setIfInBounds i true).getD j false = true) := by
    intro listed i hdep h2 q hq1 hl j hj
    by_cases hqi : q = i
    · subst hqi
      exact getD_set_of (hdep j hj)
    · rw [getD_set_ne false (Ne.symm hqi)] at hl
      exact getD_set_of (h2 q hq1 hl j hj)
  refine wp_region_inv (fun listed a w => (listed.getD (n + 1) false = true → Q .normal a w) ∧ (∀ i, i < n + 2 → listed.getD i false = true → ∀ j ∈ deps ops i, listed.getD j false = true) ∧ (listed.getD (n + 1) false = false → listed.getD n false = true → wpOp P ops Q (n + 1) (fun a'' w'' => Q .normal a'' w'') a w) ∧ (listed.getD n false = false → a.defers = a0.defers ∧ a.tmps.size = a0.tmps.size ∧ (∀ k, some k ∉ dl → a.tmps.getD k undef = a0.tmps.getD k undef) ∧ Step noF w0 w ∧ ∀ j d, j < n → listed.getD j false = true → dl[j]? = some (some d) → Sp j w (a.tmps.getD d undef)) ∧ (listed.getD n false = false → ∀ j k d e, j < n → k < n → j ≠ k → listed.getD j false = true → listed.getD k false = true → dl[j]? = some (some d) → dl[k]? = some (some e) → Df j k (a.tmps.getD d undef) (a.tmps.getD e undef))) hm hb
    ?_ ?_ (fun listed a w hall h => h.1 (hall (n + 1) (by omega)))
  · have h0 : ∀ j, (Array.replicate ops.size false).getD j false = false := fun j => by
      rw [Array.getD_eq_getD_getElem?, Array.getElem?_replicate]
      split <;> rfl
    refine ⟨fun h => ?_, fun i _ h => ?_, fun _ h => ?_, fun _ => ⟨rfl, rfl, fun _ _ => rfl, (Step.refl noF w0).drew, fun j d _ h => ?_⟩, fun _ j k d e _ _ _ h => ?_⟩
    · rw [h0] at h; cases h
    · rw [h0] at h; cases h
    · rw [h0] at h; cases h
    · rw [h0] at h; cases h
    · rw [h0] at h; cases h
  · rintro listed a w i hs hi hil hdep ⟨h1, h2, h3, h4, h5⟩
    have hi2 : listed.getD i false = false := by
      rw [Array.getD_eq_getD_getElem?, Array.getElem?_eq_getElem (by omega)] at hi ⊢
      simpa using hi
    -- all of the first n are listed as soon as the first store is, or may be
    have allOf : (∀ j ∈ deps ops n, listed.getD j false = true) → ∀ m, m ≤ n → ∀ k, n - m ≤ k → k < n → listed.getD k false = true := by
      intro hd m
      induction m with
      | zero => intro _ k h4 h5; omega
      | succ m ih =>
        intro hm k h4 h5
        by_cases hk : n - m ≤ k
        · exact ih (by omega) k hk h5
        · have hu' := (List.all_eq_true.1 hu) k (by simp; exact h5)
          obtain ⟨q, hq, hc⟩ := List.any_eq_true.1 hu'
          have hq1 : q < n + 1 := by simpa using hq
          have hmem : k ∈ deps ops q := by simpa using hc
          have hkq : k < q := by
            have hb' := (List.all_eq_true.1 hb) q (by simp; omega)
            have := (List.all_eq_true.1 hb') k hmem
            simpa using this
          by_cases hqn : q = n
          · subst hqn; exact hd k hmem
          · exact h2 q (by omega) (ih (by omega) q (by omega) (by omega)) k hmem
    by_cases hin1 : i = n + 1
    · subst hin1
      have hln := hdep n hl1
      refine wpOp_mono (fun a' w' hq => ⟨fun _ => hq, hclo listed _ hdep h2, fun h => ?_, fun h => ?_, fun h => ?_⟩) (h3 hi2 hln)
      · exfalso
        rw [Array.getD_eq_getD_getElem?, Array.getElem?_setIfInBounds] at h
        simp [hs, hn] at h
      · exfalso
        rw [getD_set_of hln] at h
        cases h
      · exfalso
        rw [getD_set_of hln] at h
        cases h
    · have hln1 : listed.getD (n + 1) false = false := by
        cases h : listed.getD (n + 1) false with
        | false => rfl
        | true =>
          exfalso
          have hln := h2 (n + 1) (by omega) h n hl1
          by_cases hin : i = n
          · subst hin; rw [hi2] at hln; cases hln
          · have := allOf (h2 n (by omega) hln) n (Nat.le_refl _) i (by omega) (by omega)
            rw [hi2] at this; cases this
      by_cases hin : i = n
      · subst hin
        obtain ⟨s1, s2, s3, s4, s5⟩ := h4 hi2
        have ha := allOf hdep i (Nat.le_refl _)
        have hg := hstore a w s4 s1 s2 s3 (fun j hj d hd => s5 j d hj (ha j (by omega) hj) hd) (fun j k hj hk hne d e e1 e2 => h5 hi2 j k d e hj hk hne (ha j (by omega) hj) (ha k (by omega) hk) e1 e2)
        refine wpOp_mono (fun a' w' hq => ⟨fun h => ?_, hclo listed _ hdep h2, fun _ _ => hq, fun h => ?_, fun h => ?_⟩) hg
        · exfalso
          rw [getD_set_ne false (by omega), hln1] at h
          cases h
        · exfalso
          rw [Array.getD_eq_getD_getElem?, Array.getElem?_setIfInBounds] at h
          simp [hs, hn] at h
        · exfalso
          rw [Array.getD_eq_getD_getElem?, Array.getElem?_setIfInBounds] at h
          simp [hs, hn] at h
      · have hin2 : i < n := by omega
        have hln : listed.getD n false = false := by
          cases h : listed.getD n false with
          | false => rfl
          | true =>
            exfalso
            have := allOf (h2 n (by omega) h) n (Nat.le_refl _) i (by omega) hin2
            rw [hi2] at this; cases this
        obtain ⟨s1, s2, s3, s4, s5⟩ := h4 hln
        refine wpOp_mono ?_ (hstep i hin2 a w s4 s3 (fun j hj d hd => by
          have hjl := hdep j hj
          have hjn : j < n := by
            rcases Nat.lt_or_ge j n with h | h
            · exact h
            · have hjlt := (List.getElem?_eq_some_iff.1 hd).1
              have : j = n ∨ j = n + 1 := by omega
              rcases this with e | e
              · subst e; rw [hd] at hlast; cases hlast
              · subst e; rw [hd] at hlast2; cases hlast2
          exact s5 j d hjn hjl hd))
        rintro a' w' ⟨d, v, ho, rfl, hs', hv, hdf⟩
        have hold : ∀ j d', j ≠ i → dl[j]? = some (some d') → (a.put (some d) v).tmps.getD d' undef = a.tmps.getD d' undef := by
          intro j d' hji hd'
          rw [put_getD_ne]
          intro e
          injection e with e
          subst e
          obtain ⟨hi1, f1⟩ := List.getElem?_eq_some_iff.1 ho
          obtain ⟨hj1, f2⟩ := List.getElem?_eq_some_iff.1 hd'
          rw [List.pairwise_iff_getElem] at hnd
          rcases Nat.lt_or_gt_of_ne hji with h | h
          · rcases hnd j i hj1 hi1 h with x | x
            · rw [f2] at x; cases x
            · exact x (f2.trans f1.symm)
          · rcases hnd i j hi1 hj1 h with x | x
            · rw [f1] at x; cases x
            · exact x (f1.trans f2.symm)
        have hnew : ∀ d', dl[i]? = some (some d') → (a.put (some d) v).tmps.getD d' undef = v := by
          intro d' hd'
          rw [ho] at hd'
          injection hd' with hd'
          injection hd' with hd'
          subst hd'
          exact put_getD_self _ _ _ (by rw [s2]; exact hlt _ (List.mem_of_getElem? ho))
        refine ⟨fun h => ?_, hclo listed _ hdep h2, fun _ h => ?_, fun _ => ⟨s1, by simpa [Act.put] using s2, fun k hk => ?_, s4.trans hs', fun j d' hj hl hd' => ?_⟩, fun _ j k d1 d2 hj hk hne l1 l2 e1 e2 => ?_⟩
        · rw [getD_set_ne false (by omega), hln1] at h; cases h
        · rw [getD_set_ne false (by omega), hln] at h; cases h
        · rw [put_getD_ne]
          · exact s3 k hk
          · intro e; injection e with e; subst e; exact hk (List.mem_of_getElem? ho)
        · by_cases hji : j = i
          · subst hji
            rw [hnew _ hd']
            exact hv
          · rw [getD_set_ne false (Ne.symm hji)] at hl
            rw [hold j d' hji hd']
            exact mono _ _ _ _ hs' (s5 j d' hj hl hd')
        · by_cases hji : j = i
          · subst hji
            rw [getD_set_ne false hne] at l2
            rw [hnew _ e1, hold k d2 (Ne.symm hne) e2]
            exact sym _ _ _ _ (hdf k (Ne.symm hne) _ (s5 k d2 hk l2 e2))
          · rw [getD_set_ne false (Ne.symm hji)] at l1
            by_cases hki : k = i
            · subst hki
              rw [hnew _ e2, hold j d1 hji e1]
              exact hdf j hji _ (s5 j d1 hj l1 e1)
            · rw [getD_set_ne false (Ne.symm hki)] at l2
              rw [hold j d1 hji e1, hold k d2 hki e2]
              exact h5 hln j k d1 d2 hj hk hne l1 l2 e1 e2
end
end Go.Proofs.Ytgmgoaencaldmaa
namespace Go.Proofs.Ytgmgoaencaldmaa
open Go.RowKit
set_option linter.unusedVariables false
theorem act_vals {a a0 : Act} (ds : List Nat) (hnd : (ds.map some).Pairwise (fun x y => x = none ∨ x ≠ y)) (hlt : ∀ d ∈ ds, d < a0.tmps.size) (h1 : a.defers = a0.defers) (h2 : a.tmps.size = a0.tmps.size) (h3 : ∀ k, k ∉ ds → a.tmps.getD k undef = a0.tmps.getD k undef) : a = putAll a0 (ds.map some) (ds.map fun d => a.tmps.getD d undef) := by
  obtain ⟨z1, z2⟩ := putAll_size (ds.map some) (ds.map fun d => a.tmps.getD d undef) a0
  refine act_ext (h2.trans z1.symm) (h1.trans z2.symm) (fun k => ?_)
  by_cases hk : k ∈ ds
  · obtain ⟨j, hj, hjk⟩ := List.getElem_of_mem hk
    rw [putAll_at (ds.map some) _ a0 j k (a.tmps.getD k undef) hnd (by simp [List.getElem?_eq_getElem hj, hjk]) (by simp [List.getElem?_eq_getElem hj, hjk]) (hlt k hk)]
  · rw [h3 k hk, putAll_ne k (ds.map some) _ a0 (by simpa using hk)]
end Go.Proofs.Ytgmgoaencaldmaa
namespace Go.Proofs.Ytgmgoaencaldmaa
open Go.RowKit
set_option linter.unusedVariables false
section
variable {P : Program} {ops : Array Oper} {Q : Exit → Act → World → Prop}
/-- .. with no store at its end. -/
theorem wp_region_preds {id : Nat} {a0 : Act} {w0 : World} (Sp : Nat → World → Value → Prop) (mono : ∀ i w w' v, Step noF w w' → Sp i w v → Sp i w' v) (dl : List (Option Nat)) (hm : P.follows .mixedOrders = true) (hb : backB ops = true)
    (hdl : ops.toList.map (·.dst) = dl) (hnd : dl.Pairwise (fun x y => x = none ∨ x ≠ y)) (hlt : ∀ d, some d ∈ dl → d < a0.tmps.size)
    (hstep : ∀ (i : Nat), i < ops.size → ∀ (a : Act) (w : World), Step noF w0 w → (∀ k, some k ∉ dl → a.tmps.getD k undef = a0.tmps.getD k undef) → (∀ j ∈ deps ops i, ∀ d, dl[j]? = some (some d) → Sp j w (a.tmps.getD d undef)) →
      wpOp P ops Q i (fun a' w' => ∃ d v, dl[i]? = some (some d) ∧ a' = a.put (some d) v ∧ Step noF w w' ∧ Sp i w' v) a w)
    (hend : ∀ (a : Act) (w : World), Step noF w0 w → a.defers = a0.defers → a.tmps.size = a0.tmps.size → (∀ k, some k ∉ dl → a.tmps.getD k undef = a0.tmps.getD k undef) → (∀ j, j < ops.size → ∀ d, dl[j]? = some (some d) → Sp j w (a.tmps.getD d undef)) → Q .normal a w) :
    (Code.region id ops true).wp P Q a0 w0 := by
  have hlen : dl.length = ops.size := by rw [← hdl]; simp
  refine wp_region_inv (fun listed a w => a.defers = a0.defers ∧ a.tmps.size = a0.tmps.size ∧ (∀ k, some k ∉ dl → a.tmps.getD k undef = a0.tmps.getD k undef) ∧ Step noF w0 w ∧ ∀ j d, listed.getD j false = true → dl[j]? = some (some d) → Sp j w (a.tmps.getD d undef)) hm hb ?_ ?_ (fun listed a w hall ⟨s1, s2, s3, s4, s5⟩ => hend a w s4 s1 s2 s3 (fun j hj d hd => s5 j d (hall j hj) hd))
  · refine ⟨rfl, rfl, fun _ _ => rfl, (Step.refl noF w0).drew, fun j d h => ?_⟩
    rw [Array.getD_eq_getD_getElem?, Array.getElem?_replicate] at h
    split at h <;> cases h
  · rintro listed a w i hs hi hil hdep ⟨s1, s2, s3, s4, s5⟩
    refine wpOp_mono ?_ (hstep i hil a w s4 s3 (fun j hj d hd => s5 j d (hdep j hj) hd))
    rintro a' w' ⟨d, v, ho, rfl, hs', hv⟩
    refine ⟨s1, by simpa [Act.put] using s2, fun k hk => ?_, s4.trans hs', fun j d' hl hd' => ?_⟩
    · rw [put_getD_ne]
      · exact s3 k hk
      · intro e; injection e with e; subst e; exact hk (List.mem_of_getElem? ho)
    · by_cases hji : j = i
      · subst hji
        rw [ho] at hd'
        injection hd' with hd'
        injection hd' with hd'
        subst hd'
        rw [put_getD_self _ _ _ (by rw [s2]; exact hlt _ (List.mem_of_getElem? ho))]
        exact hv
      · rw [getD_set_ne false (Ne.symm hji)] at hl
        rw [put_getD_ne]
        · exact mono _ _ _ _ hs' (s5 j d' hl hd')
        · intro e
          injection e with e
          subst e
          obtain ⟨hi1, f1⟩ := List.getElem?_eq_some_iff.1 ho
          obtain ⟨hj1, f2⟩ := List.getElem?_eq_some_iff.1 hd'
          rw [List.pairwise_iff_getElem] at hnd
          rcases Nat.lt_or_gt_of_ne hji with h | h
          · rcases hnd j i hj1 hi1 h with x | x
            · rw [f2] at x; cases x
            · exact x (f2.trans f1.symm)
          · rcases hnd i j hi1 hj1 h with x | x
            · rw [f1] at x; cases x
            · exact x (f1.trans f2.symm)
end
end Go.Proofs.Ytgmgoaencaldmaa
