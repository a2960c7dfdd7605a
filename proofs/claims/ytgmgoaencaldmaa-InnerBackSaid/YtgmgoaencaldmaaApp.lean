/-
  A region that draws its order, with a state of one's own ('St') beside the slots whose values are known ahead; its last operation (a store) waits for all others. Nothing of the program is named here.
-/
import Derived.Test.YtgmgoaencaldmaaVals
namespace Go.Proofs.Ytgmgoaencaldmaa
open Go.RowKit
set_option linter.unusedVariables false
section
variable {P : Program} {ops : Array Oper} {Q : Exit → Act → World → Prop}
theorem wp_region_st {id : Nat} {a0 : Act} {w0 : World} (St : Array Bool → Act → World → Prop) (vals : List (Option Value)) (dl : List (Option Nat)) (n : Nat) (hn : ops.size = n + 1) (hm : P.follows .mixedOrders = true) (hb : backB ops = true) (hu : usedB ops n = true)
    (hdl : ops.toList.map (·.dst) = dl) (hnd : dl.Pairwise (fun x y => x = none ∨ x ≠ y)) (hlt : ∀ d, some d ∈ dl → d < a0.tmps.size) (hlast : dl[n]? = some none)
    (h00 : St (Array.replicate ops.size false) a0 w0.drew)
    (hstep : ∀ (i : Nat), i < n → ∀ (listed : Array Bool) (a : Act) (w : World), listed.size = n + 1 → (∀ i, i < n + 1 → listed.getD i false = true → ∀ j ∈ deps ops i, listed.getD j false = true) → listed.getD i true = false → (∀ j ∈ deps ops i, listed.getD j false = true) → St listed a w → a.tmps.size = a0.tmps.size → (∀ k, some k ∉ dl → a.tmps.getD k undef = a0.tmps.getD k undef) → (∀ j ∈ deps ops i, ∀ d v, dl[j]? = some (some d) → vals[j]? = some (some v) → a.tmps.getD d undef = v) →
      wpOp P ops Q i (fun a' w' => ∃ d v, dl[i]? = some (some d) ∧ (∀ u, vals[i]? = some (some u) → v = u) ∧ a' = a.put (some d) v ∧ St (listed.setIfInBounds i true) a' w') a w)
    (hstore : ∀ (listed : Array Bool) (a : Act) (w : World), (∀ j, j < n → listed.getD j false = true) → St listed a w → a.defers = a0.defers → a.tmps.size = a0.tmps.size → (∀ k, some k ∉ dl → a.tmps.getD k undef = a0.tmps.getD k undef) → (∀ j, j < n → ∀ d v, dl[j]? = some (some d) → vals[j]? = some (some v) → a.tmps.getD d undef = v) → wpOp P ops Q n (fun a' w' => Q .normal a' w') a w) :
    (Code.region id ops true).wp P Q a0 w0 := by
  have hlen : dl.length = n + 1 := by rw [← hdl]; simpa using hn
  refine wp_region_inv (fun listed a w => (listed.getD n false = true → Q .normal a w) ∧ (∀ i, i < n + 1 → listed.getD i false = true → ∀ j ∈ deps ops i, listed.getD j false = true) ∧ (listed.getD n false = false → St listed a w ∧ a.defers = a0.defers ∧ a.tmps.size = a0.tmps.size ∧ (∀ k, some k ∉ dl → a.tmps.getD k undef = a0.tmps.getD k undef) ∧ ∀ j, j < n → listed.getD j false = true → ∀ d v, dl[j]? = some (some d) → vals[j]? = some (some v) → a.tmps.getD d undef = v)) hm hb
    ?_ ?_ (fun listed a w hall h => h.1 (hall n (by omega)))
  · have h0 : ∀ j, (Array.replicate ops.size false).getD j false = false := fun j => by
      rw [Array.getD_eq_getD_getElem?, Array.getElem?_replicate]
      split <;> rfl
    refine ⟨fun h => ?_, fun i _ h => ?_, fun _ => ⟨h00, rfl, rfl, fun _ _ => rfl, fun j _ h => ?_⟩⟩
    · rw [h0] at h; cases h
    · rw [h0] at h; cases h
    · rw [h0] at h; cases h
  · rintro listed a w i hs hi hil hdep ⟨h1, h2, h3⟩
    -- all of the first n are listed as soon as the last one is, or may be
    have allOf : (∀ j ∈ deps ops n, listed.getD j false = true) → ∀ m, m ≤ n → ∀ k, n - m ≤ k → k < n → listed.getD k false = true := by
      intro hd m
      induction m with
      | zero => intro _ k h4 h5; omega
      | succ m ih =>
        intro hm k h4 h5
        by_cases hk : n - m ≤ k
        · exact ih (by omega) k hk h5
        · have hu' := (List.all_eq_true.1 hu) k (by simp; exact h5)
          obtain ⟨q, hq, hc⟩ := List.any_eq_true.1 hu'
          have hq1 : q < n + 1 := by simpa using hq
          have hmem : k ∈ deps ops q := by simpa using hc
          have hkq : k < q := by
            have hb' := (List.all_eq_true.1 hb) q (by simp; omega)
            have := (List.all_eq_true.1 hb') k hmem
            simpa using this
          by_cases hqn : q = n
          · subst hqn; exact hd k hmem
          · exact h2 q hq1 (ih (by omega) q (by omega) (by omega)) k hmem
    cases hln : listed.getD n false with
    | true =>
      exfalso
      have ha := allOf (h2 n (by omega) hln) n (Nat.le_refl _)
      by_cases hin : i = n
      · subst hin
        rw [Array.getD_eq_getD_getElem?, Array.getElem?_eq_getElem (by omega)] at hi hln
        simp at hi hln
        rw [hi] at hln; cases hln
      · have h4 := ha i (by omega) (by omega)
        rw [Array.getD_eq_getD_getElem?, Array.getElem?_eq_getElem (by omega)] at hi h4
        simp at hi h4
        rw [hi] at h4; cases h4
    | false =>
      obtain ⟨s1, s2, s3, s4, s5⟩ := h3 hln
      by_cases hin : i = n
      · subst hin
        have ha := allOf hdep i (Nat.le_refl _)
        have hall : ∀ j, j < i → ∀ d v, dl[j]? = some (some d) → vals[j]? = some (some v) → a.tmps.getD d undef = v := fun j hj => s5 j hj (ha j (by omega) hj)
        have hg := hstore listed a w (fun j hj => ha j (by omega) hj) s1 s2 s3 s4 hall
        refine wpOp_mono (fun a' w' hq => ⟨fun _ => hq, fun q hq1 hl j hj => ?_, fun h => ?_⟩) hg
        · by_cases hqi : q = i
          · subst hqi
            exact getD_set_of (hdep j hj)
          · rw [getD_set_ne false (Ne.symm hqi)] at hl
            exact getD_set_of (h2 q hq1 hl j hj)
        · exfalso
          rw [Array.getD_eq_getD_getElem?, Array.getElem?_setIfInBounds] at h
          simp [hs, hn] at h
      · refine wpOp_mono ?_ (hstep i (by omega) listed a w (by omega) h2 hi hdep s1 s3 s4 (fun j hj d v e1 e2 => by
          have hjl := hdep j hj
          have hjn : j < n := by
            rcases Nat.lt_or_ge j n with h | h
            · exact h
            · have hjlt := (List.getElem?_eq_some_iff.1 e1).1
              obtain rfl : j = n := by omega
              rw [e1] at hlast; cases hlast
          exact s5 j hjn hjl d v e1 e2))
        rintro a' w' ⟨d, v, ho, hv, rfl, hr⟩
        refine ⟨fun h => ?_, fun q hq1 hl j hj => ?_, fun _ => ⟨hr, s2, ?_, fun k hk => ?_, fun j hj hl d' v' e1 e2 => ?_⟩⟩
        · rw [getD_set_ne false hin, hln] at h; cases h
        · by_cases hqi : q = i
          · subst hqi
            exact getD_set_of (hdep j hj)
          · rw [getD_set_ne false (Ne.symm hqi)] at hl
            exact getD_set_of (h2 q hq1 hl j hj)
        · simpa [Act.put] using s3
        · rw [put_getD_ne]
          · exact s4 k hk
          · intro e; injection e with e; subst e; exact hk (List.mem_of_getElem? ho)
        · by_cases hji : j = i
          · subst hji
            rw [ho] at e1
            injection e1 with e1
            injection e1 with e1
            subst e1
            have e3 := hv v' e2
            subst e3
            exact put_getD_self _ _ _ (by rw [s3]; exact hlt d (List.mem_of_getElem? ho))
          · rw [getD_set_ne false (Ne.symm hji)] at hl
            rw [put_getD_ne]
            · exact s5 j hj hl d' v' e1 e2
            · intro e
              injection e with e
              subst e
              obtain ⟨hi1, f1⟩ := List.getElem?_eq_some_iff.1 ho
              obtain ⟨hj1, f2⟩ := List.getElem?_eq_some_iff.1 e1
              rw [List.pairwise_iff_getElem] at hnd
              rcases Nat.lt_or_gt_of_ne hji with h | h
              · rcases hnd j i hj1 hi1 h with x | x
                · rw [f2] at x; cases x
                · exact x (f2.trans f1.symm)
              · rcases hnd i j hi1 hj1 h with x | x
                · rw [f1] at x; cases x
                · exact x (f1.trans f2.symm)

/-- An operation whose outcome is not known ahead. -/
theorem op_runs_some {i : Nat} {d : Option Nat} {op : Op} {a : Act} {w : World} {K : Act → World → Prop} (h : opIs ops i d op none) (hr : ∀ o : Oper, o.op = op → ∃ v w', (execOp a.eval o).run P w = .ok (.value v) w' ∧ K (a.put d v) w') : wpOp P ops Q i K a w := by
  unfold opIs at h
  obtain ⟨o, ho, he⟩ := Option.map_eq_some_iff.1 h
  simp only [Prod.mk.injEq] at he
  obtain ⟨rfl, rfl, hg⟩ := he
  refine wpOp_step ho fun K' hK' => ?_
  have hwt : Region.wanted o (yielded ops a.tmps) = true := by
    unfold Region.wanted
    rw [hg]
  rw [if_pos hwt]
  obtain ⟨v, w', h1, h2⟩ := hr o rfl
  unfold Oper.wp
  rw [h1]
  exact hK' _ _ h2
theorem listed_set {l : Array Bool} {i : Nat} (h : i < l.size) : (l.setIfInBounds i true).getD i false = true := by
  rw [Array.getD_eq_getD_getElem?, Array.getElem?_setIfInBounds_self_of_lt h]; rfl
theorem listed_not {l : Array Bool} {i : Nat} (h : i < l.size) (hn : l.getD i true = false) : l.getD i false = false := by
  rw [Array.getD_eq_getD_getElem?, Array.getElem?_eq_getElem h] at hn ⊢
  simpa using hn
end
end Go.Proofs.Ytgmgoaencaldmaa
