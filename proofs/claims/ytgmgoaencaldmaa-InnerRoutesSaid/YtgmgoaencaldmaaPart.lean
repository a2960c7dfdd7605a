/-
  A region that draws its order, all of whose slots' values are known ahead, guards and calls among them. Nothing of the program is named here.
  A region that draws its order: slots of which something is said ('SP'), guards, calls, operations that are passed by. Nothing of the program is named here.
-/
import Derived.Test.YtgmgoaencaldmaaVals
import Derived.Test.YtgmgoaencaldmaaRowIn
namespace Go.Proofs.Ytgmgoaencaldmaa
open Go.RowKit
set_option linter.unusedVariables false
section
variable {P : Program} {ops : Array Oper} {Q : Exit → Act → World → Prop}

theorem wp_region_slots2 {id : Nat} {a0 : Act} {w0 : World} (F : Nat → Prop) (sp : List (SP F)) (dl : List (Option Nat)) (hm : P.follows .mixedOrders = true) (hb : backB ops = true)
    (hdl : ops.toList.map (·.dst) = dl) (hnd : dl.Pairwise (fun x y => x = none ∨ x ≠ y)) (hlt : ∀ d, some d ∈ dl → d < a0.tmps.size)
    (hstep : ∀ (i : Nat), i < ops.size → ∀ (a : Act) (w : World), Step F w0 w → (∀ k, some k ∉ dl → a.tmps.getD k undef = a0.tmps.getD k undef) → (∀ j ∈ deps ops i, At sp dl a w j) →
      wpOp P ops Q i (fun a' w' => ∃ o v, dl[i]? = some o ∧ a' = a.put o v ∧ Step F w w' ∧ ∀ p, sp[i]? = some p → p.1 w' (o.elim undef fun _ => v)) a w)
    (hend : ∀ (a : Act) (w : World), Step F w0 w → a.defers = a0.defers → a.tmps.size = a0.tmps.size → (∀ k, some k ∉ dl → a.tmps.getD k undef = a0.tmps.getD k undef) → (∀ j, j < ops.size → At sp dl a w j) → Q .normal a w) :
    (Code.region id ops true).wp P Q a0 w0 := by
  have hlen : dl.length = ops.size := by rw [← hdl]; simp
  refine wp_region_inv (fun listed a w => Step F w0 w ∧ a.defers = a0.defers ∧ a.tmps.size = a0.tmps.size ∧ (∀ k, some k ∉ dl → a.tmps.getD k undef = a0.tmps.getD k undef) ∧ ∀ j, listed.getD j false = true → At sp dl a w j) hm hb
    ⟨(Step.refl F w0).drew, rfl, rfl, fun _ _ => rfl, fun j hj => ?_⟩ ?_ (fun listed a w hall ⟨h1, h2, h3, h4, h5⟩ => hend a w h1 h2 h3 h4 (fun j hj => h5 j (hall j hj)))
  · exfalso
    rw [Array.getD_eq_getD_getElem?, Array.getElem?_replicate] at hj
    split at hj <;> simp at hj
  · rintro listed a w i hs hi hil hdep ⟨h1, h2, h3, h4, h5⟩
    refine wpOp_mono ?_ (hstep i hil a w h1 h4 (fun j hj => h5 j (hdep j hj)))
    rintro a' w' ⟨o, v, ho, rfl, hr, hp⟩
    refine ⟨h1.trans hr, ?_, ?_, fun k hk => ?_, fun j hj => ?_⟩
    · cases o <;> exact h2
    · cases o with
      | none => exact h3
      | some d => simpa [Act.put] using h3
    · rw [put_getD_ne]
      · exact h4 k hk
      · intro e
        subst e
        exact hk (List.mem_of_getElem? ho)
    · intro p oj hp' hoj
      by_cases hji : j = i
      · subst hji
        obtain rfl : o = oj := Option.some.inj (ho.symm.trans hoj)
        have hv := hp p hp'
        cases o with
        | none => exact hv
        | some d =>
          show p.1 w' ((a.put (some d) v).tmps.getD d undef)
          rw [put_getD_self _ _ _ (by rw [h3]; exact hlt d (List.mem_of_getElem? ho))]
          exact hv
      · have hj2 : listed.getD j false = true := by
          rw [getD_set_ne false (Ne.symm hji)] at hj
          exact hj
        have hold := h5 j hj2 p oj hp' hoj
        have hm2 := p.2 w w' _ hr hold
        cases oj with
        | none => exact hm2
        | some d =>
          show p.1 w' ((a.put o v).tmps.getD d undef)
          rw [put_getD_ne]
          · exact hm2
          · intro e
            subst e
            obtain ⟨hi1, e1⟩ := List.getElem?_eq_some_iff.1 ho
            obtain ⟨hj1, e2⟩ := List.getElem?_eq_some_iff.1 hoj
            rw [List.pairwise_iff_getElem] at hnd
            rcases Nat.lt_or_gt_of_ne hji with h | h
            · rcases hnd j i hj1 hi1 h with x | x
              · rw [e2] at x; cases x
              · exact x (e2.trans e1.symm)
            · rcases hnd i j hi1 hj1 h with x | x
              · rw [e1] at x; cases x
              · exact x (e1.trans e2.symm)

/-- A region that draws, all of whose slots' values are known ahead. -/
theorem wp_region_full {id : Nat} {a0 : Act} {w0 : World} (F : Nat → Prop) (vals : List Value) (dl : List (Option Nat)) (hm : P.follows .mixedOrders = true) (hb : backB ops = true)
    (hdl : ops.toList.map (·.dst) = dl) (hnd : dl.Pairwise (fun x y => x = none ∨ x ≠ y)) (hlt : ∀ d, some d ∈ dl → d < a0.tmps.size) (hvl : vals.length = dl.length)
    (hstep : ∀ (i : Nat), i < ops.size → ∀ (a : Act) (w : World), Step F w0 w → (∀ k, some k ∉ dl → a.tmps.getD k undef = a0.tmps.getD k undef) → (∀ j ∈ deps ops i, ∀ d v, dl[j]? = some (some d) → vals[j]? = some v → a.tmps.getD d undef = v) →
      wpOp P ops Q i (fun a' w' => ∃ d v, dl[i]? = some (some d) ∧ vals[i]? = some v ∧ a' = a.put (some d) v ∧ Step F w w') a w)
    (hend : ∀ (w : World), Step F w0 w → Q .normal (putAll a0 dl vals) w) : (Code.region id ops true).wp P Q a0 w0 := by
  have hlen : dl.length = ops.size := by rw [← hdl]; simp
  refine wp_region_slots2 F (vals.map is) dl hm hb hdl hnd hlt ?_ ?_
  · intro i hi a w hs hfr hat
    refine wpOp_mono ?_ (hstep i hi a w hs hfr (fun j hj d v h1 h2 => hat j hj (is v) (some d) (by rw [List.getElem?_map, h2]; rfl) h1))
    rintro a' w' ⟨d, v, h1, h2, rfl, h3⟩
    refine ⟨some d, v, h1, rfl, h3, fun p hp => ?_⟩
    rw [List.getElem?_map, h2] at hp
    injection hp with hp
    subst hp
    rfl
  · intro a w hs hd hsz hfr hat
    have hae : a = putAll a0 dl vals := by
      obtain ⟨z1, z2⟩ := putAll_size dl vals a0
      refine act_ext (hsz.trans z1.symm) (hd.trans z2.symm) (fun k => ?_)
      by_cases hk : some k ∈ dl
      · obtain ⟨j, hj, hjk⟩ := List.getElem_of_mem hk
        have e1 : dl[j]? = some (some k) := by rw [List.getElem?_eq_getElem hj, hjk]
        have e2 : vals[j]? = some vals[j] := List.getElem?_eq_getElem (by omega)
        have := hat j (by omega) (is vals[j]) (some k) (by rw [List.getElem?_map, e2]; rfl) e1
        rw [show a.tmps.getD k undef = vals[j] from this, putAll_at dl vals a0 j k _ hnd e1 e2 (hlt k hk)]
      · rw [hfr k hk, putAll_ne k dl vals a0 hk]
    rw [hae]
    exact hend w hs
theorem val_runs_g {F : Nat → Prop} {vals : List Value} {dl : List (Option Nat)} {i d : Nat} {op : Op} {g : Option (Nat × Bool)} {a : Act} {w : World} {v : Value} (h : opIs ops i (some d) op g) (hd : dl[i]? = some (some d)) (hv : vals[i]? = some v) (hg : Wants ops a g) (hr : Runs P a op w v w) :
    wpOp P ops Q i (fun a' w' => ∃ d v, dl[i]? = some (some d) ∧ vals[i]? = some v ∧ a' = a.put (some d) v ∧ Step F w w') a w :=
  op_runs h hg hr ⟨d, v, hd, hv, rfl, Step.refl _ _⟩
theorem val_calls_g {F : Nat → Prop} {vals : List Value} {dl : List (Option Nat)} {i d : Nat} {f : FuncId} {xs : Array Operand} {ats : Array TypeId} {g : Option (Nat × Bool)} {a : Act} {w : World} {args : Array Value} {fn : Func} {v : Value} (h : opIs ops i (some d) (.call { callee := .value (.func f), args := xs, argTypes := ats }) g) (hd : dl[i]? = some (some d)) (hv : vals[i]? = some v) (hg : Wants ops a g)
    (hf : P.funcs[f]? = some fn) (hn : (fn.name == "runtime.NumGoroutine") = false) (hb : fn.body.isNone = false) (ha : xs.map a.eval = args)
    (hc : Calls P f args w fun e w' => e = .returned v ∧ Step F w w') :
    wpOp P ops Q i (fun a' w' => ∃ d v, dl[i]? = some (some d) ∧ vals[i]? = some v ∧ a' = a.put (some d) v ∧ Step F w w') a w :=
  op_calls h hg hf hn hb ha (Calls.mono hc fun e w' ⟨he, hs⟩ => ⟨v, he, d, v, hd, hv, rfl, hs⟩)
end
end Go.Proofs.Ytgmgoaencaldmaa
namespace Go.Proofs.Ytgmgoaencaldmaa
open Go.RowKit
set_option linter.unusedVariables false
section
variable {P : Program} {ops : Array Oper} {Q : Exit → Act → World → Prop}

theorem op_skip {i j dj : Nat} {d : Option Nat} {op : Op} {b c : Bool} {a : Act} {w : World} {K : Act → World → Prop} (h : opIs ops i d op (some (j, b))) (hd : (ops[j]?).bind (·.dst) = some dj) (hv : a.tmps.getD dj undef = .bool c) (hc : c ≠ b) (hK : K (a.put d undef) w) : wpOp P ops Q i K a w := by
  unfold opIs at h
  obtain ⟨o, ho, he⟩ := Option.map_eq_some_iff.1 h
  simp only [Prod.mk.injEq] at he
  obtain ⟨rfl, rfl, hg⟩ := he
  refine wpOp_step ho fun K' hK' => ?_
  have hy : yielded ops a.tmps j = some c := wants_some hd hv j c rfl
  have hwt : ¬ Region.wanted o (yielded ops a.tmps) = true := by
    unfold Region.wanted
    rw [hg]
    simp [hy, hc]
  rw [if_neg hwt]
  exact hK' _ _ hK
theorem slot_skip {F : Nat → Prop} {sp : List (SP F)} {dl : List (Option Nat)} {i d j dj : Nat} {op : Op} {b c : Bool} {a : Act} {w : World} (p : SP F) (h : opIs ops i (some d) op (some (j, b))) (hdl : dl[i]? = some (some d)) (hsp : sp[i]? = some p) (hd : (ops[j]?).bind (·.dst) = some dj) (hv : a.tmps.getD dj undef = .bool c) (hc : c ≠ b) (hp : p.1 w undef) :
    wpOp P ops Q i (fun a' w' => ∃ o v, dl[i]? = some o ∧ a' = a.put o v ∧ Step F w w' ∧ ∀ p, sp[i]? = some p → p.1 w' (o.elim undef fun _ => v)) a w :=
  op_skip h hd hv hc ⟨some d, undef, hdl, rfl, Step.refl _ _, fun p' hp' => by rw [hsp] at hp'; injection hp' with e; subst e; exact hp⟩
end
/-- A slice of pairs. -/
def isExt (xs : List (Int × Int)) : SP noF := ⟨fun w v => ∃ a c, v = .slice a xs.length c ∧ ExtAt w a xs, fun _ _ _ hs ⟨a, c, h1, h2⟩ => ⟨a, c, h1, h2.step hs⟩⟩
end Go.Proofs.Ytgmgoaencaldmaa
