/-
  A region that draws its order, of each of whose slots a predicate is said that stays true as the world goes on (so a slot may hold the address of a block that the region makes); its last operation (a store) waits for all others. Nothing of the program is named here.
-/
import Derived.Test.YtgmgoaencaldmaaApp
namespace Go.Proofs.Ytgmgoaencaldmaa
open Go.RowKit
set_option linter.unusedVariables false
section
variable {P : Program} {ops : Array Oper} {Q : Exit → Act → World → Prop}

theorem act_all {a a0 : Act} {dl : List (Option Nat)} {n : Nat} (hlen : dl.length = n + 1) (hnd : dl.Pairwise (fun x y => x = none ∨ x ≠ y)) (hlt : ∀ d, some d ∈ dl → d < a0.tmps.size) (hlast : dl[n]? = some none) (vals : List Value) (hvl : vals.length = n)
    (s2 : a.defers = a0.defers) (s3 : a.tmps.size = a0.tmps.size) (s4 : ∀ k, some k ∉ dl → a.tmps.getD k undef = a0.tmps.getD k undef) (hall : ∀ j, j < n → ∀ d v, dl[j]? = some (some d) → vals[j]? = some v → a.tmps.getD d undef = v) : a = putAll a0 dl vals := by
  obtain ⟨z1, z2⟩ := putAll_size dl vals a0
  refine act_ext (s3.trans z1.symm) (s2.trans z2.symm) (fun k => ?_)
  by_cases hk : some k ∈ dl
  · obtain ⟨j, hj, hjk⟩ := List.getElem_of_mem hk
    have hjn : j < n := by
      rcases Nat.lt_or_ge j n with h | h
      · exact h
      · obtain rfl : j = n := by omega
        rw [List.getElem?_eq_getElem hj, hjk] at hlast
        cases hlast
    have e1 : dl[j]? = some (some k) := by rw [List.getElem?_eq_getElem hj, hjk]
    have e2 : vals[j]? = some vals[j] := List.getElem?_eq_getElem (by omega)
    rw [hall j hjn k _ e1 e2, putAll_at dl vals a0 j k _ hnd e1 e2 (hlt k hk)]
  · rw [s4 k hk, putAll_ne k dl vals a0 hk]

theorem wp_region_pred {id : Nat} {a0 : Act} {w0 : World} (Sp : Nat → World → Value → Prop) (mono : ∀ i w w' v, Step noF w w' → Sp i w v → Sp i w' v) (dl : List (Option Nat)) (n : Nat) (hn : ops.size = n + 1) (hm : P.follows .mixedOrders = true) (hb : backB ops = true) (hu : usedB ops n = true)
    (hdl : ops.toList.map (·.dst) = dl) (hnd : dl.Pairwise (fun x y => x = none ∨ x ≠ y)) (hlt : ∀ d, some d ∈ dl → d < a0.tmps.size) (hlast : dl[n]? = some none)
    (hstep : ∀ (i : Nat), i < n → ∀ (a : Act) (w : World), Step noF w0 w → (∀ k, some k ∉ dl → a.tmps.getD k undef = a0.tmps.getD k undef) → (∀ j ∈ deps ops i, ∀ d, dl[j]? = some (some d) → Sp j w (a.tmps.getD d undef)) →
      wpOp P ops Q i (fun a' w' => ∃ d v, dl[i]? = some (some d) ∧ a' = a.put (some d) v ∧ Step noF w w' ∧ Sp i w' v) a w)
    (hdst : ∀ j, j < n → ∃ d, dl[j]? = some (some d))
    (hstore : ∀ (w : World) (vals : List Value), Step noF w0 w → vals.length = n → (∀ j, j < n → Sp j w (vals.getD j undef)) → wpOp P ops Q n (fun a' w' => Q .normal a' w') (putAll a0 dl vals) w) :
    (Code.region id ops true).wp P Q a0 w0 := by
  have hlen : dl.length = n + 1 := by rw [← hdl]; simpa using hn
  refine wp_region_st (fun listed a w => a.tmps.size = a0.tmps.size ∧ Step noF w0 w ∧ ∀ j d, listed.getD j false = true → dl[j]? = some (some d) → Sp j w (a.tmps.getD d undef)) [] dl n hn hm hb hu hdl hnd hlt hlast ?_ ?_ ?_
  · refine ⟨rfl, (Step.refl noF w0).drew, fun j d h => ?_⟩
    rw [Array.getD_eq_getD_getElem?, Array.getElem?_replicate] at h
    split at h <;> cases h
  · intro i hi listed a w hls hcl hnl hdl' hst hs2 hfr hat
    obtain ⟨hsz, hs, hsp⟩ := hst
    refine wpOp_mono ?_ (hstep i hi a w hs hfr (fun j hj d hd => hsp j d (hdl' j hj) hd))
    rintro a' w' ⟨d, v, ho, rfl, hs', hv⟩
    refine ⟨d, v, ho, fun u hu => by simp at hu, rfl, by simpa [Act.put] using hsz, hs.trans hs', fun j d' hl hd' => ?_⟩
    by_cases hji : j = i
    · subst hji
      rw [ho] at hd'
      injection hd' with hd'
      injection hd' with hd'
      subst hd'
      rw [put_getD_self _ _ _ (by rw [hsz]; exact hlt _ (List.mem_of_getElem? ho))]
      exact hv
    · rw [getD_set_ne false (Ne.symm hji)] at hl
      rw [put_getD_ne]
      · exact mono _ _ _ _ hs' (hsp j d' hl hd')
      · intro e
        injection e with e
        subst e
        obtain ⟨hi1, f1⟩ := List.getElem?_eq_some_iff.1 ho
        obtain ⟨hj1, f2⟩ := List.getElem?_eq_some_iff.1 hd'
        rw [List.pairwise_iff_getElem] at hnd
        rcases Nat.lt_or_gt_of_ne hji with h | h
        · rcases hnd j i hj1 hi1 h with x | x
          · rw [f2] at x; cases x
          · exact x (f2.trans f1.symm)
        · rcases hnd i j hi1 hj1 h with x | x
          · rw [f1] at x; cases x
          · exact x (f1.trans f2.symm)
  · intro listed a w hall hst hdf hs2 hfr _
    obtain ⟨hsz, hs, hsp⟩ := hst
    have e : a = putAll a0 dl ((List.range n).map fun j => a.tmps.getD ((dl.getD j none).getD 0) undef) := by
      refine act_all hlen hnd hlt hlast _ (by simp) hdf hs2 hfr (fun j hj d v e1 e2 => ?_)
      rw [List.getElem?_map, List.getElem?_range hj] at e2
      simp only [Option.map_some, Option.some.injEq] at e2
      rw [← e2]
      simp [List.getD, e1]
    generalize hv : ((List.range n).map fun j => a.tmps.getD ((dl.getD j none).getD 0) undef) = vals at e
    have hg := hstore w vals hs (by rw [← hv]; simp) (fun j hj => ?_)
    · rw [e]; exact hg
    · obtain ⟨d, hd⟩ := hdst j hj
      have := hsp j d (hall j hj) hd
      rw [← hv]
      simpa [List.getD, List.getElem?_range hj, hd] using this
/-- A slot of them. -/
theorem pred_runs {Sp : Nat → World → Value → Prop} {dl : List (Option Nat)} {i d : Nat} {op : Op} {a : Act} {w w' : World} {v : Value} (h : opIs ops i (some d) op none) (hd : dl[i]? = some (some d)) (hr : Runs P a op w v w') (hs : Step noF w w') (hv : Sp i w' v) :
    wpOp P ops Q i (fun a' w' => ∃ d v, dl[i]? = some (some d) ∧ a' = a.put (some d) v ∧ Step noF w w' ∧ Sp i w' v) a w :=
  op_runs h (wants_none a) hr ⟨d, v, hd, rfl, hs, hv⟩
theorem pred_calls {Sp : Nat → World → Value → Prop} {dl : List (Option Nat)} {i d : Nat} {f : FuncId} {xs : Array Operand} {ats : Array TypeId} {a : Act} {w : World} {args : Array Value} {fn : Func} {v : Value} (h : opIs ops i (some d) (.call { callee := .value (.func f), args := xs, argTypes := ats }) none) (hd : dl[i]? = some (some d))
    (hf : P.funcs[f]? = some fn) (hn : (fn.name == "runtime.NumGoroutine") = false) (hb : fn.body.isNone = false) (ha : xs.map a.eval = args)
    (hc : Calls P f args w fun e w' => e = .returned v ∧ Step noF w w' ∧ Sp i w' v) :
    wpOp P ops Q i (fun a' w' => ∃ d v, dl[i]? = some (some d) ∧ a' = a.put (some d) v ∧ Step noF w w' ∧ Sp i w' v) a w :=
  op_calls h (wants_none a) hf hn hb ha (Calls.mono hc fun e w' ⟨he, hs, hv⟩ => ⟨v, he, d, v, hd, rfl, hs, hv⟩)
end
end Go.Proofs.Ytgmgoaencaldmaa
