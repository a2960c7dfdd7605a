/-
  A region that draws its order, whose operations come to values known ahead, and whose last one (a store) waits for all others. Nothing of the program is named here.
-/
import Derived.Test.YtgmgoaencaldmaaDraw
namespace Go.Proofs.Ytgmgoaencaldmaa
open Go.RowKit
set_option linter.unusedVariables false

/-- All slots put. -/
def putAll (a : Act) : List (Option Nat) → List Value → Act
  | o :: ds, v :: vs => putAll (a.put o v) ds vs
  | _, _ => a

theorem putAll_size (ds : List (Option Nat)) : ∀ (vs : List Value) (a : Act), (putAll a ds vs).tmps.size = a.tmps.size ∧ (putAll a ds vs).defers = a.defers := by
  induction ds with
  | nil => intro vs a; exact ⟨rfl, rfl⟩
  | cons o ds ih =>
    intro vs a
    cases vs with
    | nil => exact ⟨rfl, rfl⟩
    | cons v vs =>
      obtain ⟨h1, h2⟩ := ih vs (a.put o v)
      refine ⟨h1.trans ?_, h2.trans ?_⟩ <;> cases o <;> simp [Act.put]
theorem putAll_ne (k : Nat) (ds : List (Option Nat)) : ∀ (vs : List Value) (a : Act), some k ∉ ds → (putAll a ds vs).tmps.getD k undef = a.tmps.getD k undef := by
  induction ds with
  | nil => intro vs a _; rfl
  | cons o ds ih =>
    intro vs a h
    simp only [List.mem_cons, not_or] at h
    cases vs with
    | nil => rfl
    | cons v vs => exact (ih vs _ h.2).trans (put_getD_ne _ _ _ _ (fun e => h.1 e.symm))
theorem putAll_at (ds : List (Option Nat)) : ∀ (vs : List Value) (a : Act) (j d : Nat) (v : Value), ds.Pairwise (fun x y => x = none ∨ x ≠ y) → ds[j]? = some (some d) → vs[j]? = some v → d < a.tmps.size → (putAll a ds vs).tmps.getD d undef = v := by
  induction ds with
  | nil => intro vs a j d v _ h; simp at h
  | cons o ds ih =>
    intro vs a j d v hp h hv hd
    cases vs with
    | nil => simp at hv
    | cons v0 vs =>
      have hsz : (a.put o v0).tmps.size = a.tmps.size := by cases o <;> simp [Act.put]
      rw [List.pairwise_cons] at hp
      cases j with
      | zero =>
        simp at h hv
        subst h hv
        show (putAll (a.put (some d) v0) ds vs).tmps.getD d undef = v0
        rw [putAll_ne d ds vs _ (fun hm => by rcases hp.1 _ hm with x | x; cases x; exact x rfl), put_getD_self _ _ _ hd]
      | succ j => exact ih vs _ j d v hp.2 (by simpa using h) (by simpa using hv) (by rw [hsz]; exact hd)
theorem act_ext {a b : Act} (h1 : a.tmps.size = b.tmps.size) (h2 : a.defers = b.defers) (h3 : ∀ k, a.tmps.getD k undef = b.tmps.getD k undef) : a = b := by
  obtain ⟨t, d⟩ := a
  obtain ⟨t', d'⟩ := b
  simp only at h1 h2
  subst h2
  have : t = t' := by
    apply Array.ext h1
    intro k hk hk'
    have := h3 k
    simpa [Array.getD_eq_getD_getElem?, Array.getElem?_eq_getElem hk, Array.getElem?_eq_getElem hk'] using this
  rw [this]

theorem getD_set_of {l : Array Bool} {i j : Nat} (h : l.getD j false = true) : (l.setIfInBounds i true).getD j false = true := by
  by_cases hij : i = j
  · subst hij
    have hl : i < l.size := by
      rcases Nat.lt_or_ge i l.size with h' | h'
      · exact h'
      · rw [Array.getD_eq_getD_getElem?, Array.getElem?_eq_none h'] at h; simp at h
    rw [Array.getD_eq_getD_getElem?, Array.getElem?_setIfInBounds_self_of_lt hl]; rfl
  · rw [getD_set_ne false hij]; exact h
/-- Each of the first n operations is waited for by another one. -/
def usedB (ops : Array Oper) (n : Nat) : Bool := (List.range n).all fun i => (List.range (n + 1)).any fun k => (deps ops k).contains i

section
variable {P : Program} {ops : Array Oper} {Q : Exit → Act → World → Prop}

theorem wp_region_vals {id : Nat} {a0 : Act} {w0 : World} (F : Nat → Prop) (vals : List Value) (dl : List (Option Nat)) (n : Nat) (hn : ops.size = n + 1) (hm : P.follows .mixedOrders = true) (hb : backB ops = true) (hu : usedB ops n = true)
    (hdl : ops.toList.map (·.dst) = dl) (hnd : dl.Pairwise (fun x y => x = none ∨ x ≠ y)) (hlt : ∀ d, some d ∈ dl → d < a0.tmps.size) (hvl : vals.length = n) (hlast : dl[n]? = some none)
    (hstep : ∀ (i : Nat), i < n → ∀ (a : Act) (w : World), Step F w0 w → (∀ k, some k ∉ dl → a.tmps.getD k undef = a0.tmps.getD k undef) → (∀ j ∈ deps ops i, ∀ d v, dl[j]? = some (some d) → vals[j]? = some v → a.tmps.getD d undef = v) →
      wpOp P ops Q i (fun a' w' => ∃ d v, dl[i]? = some (some d) ∧ vals[i]? = some v ∧ a' = a.put (some d) v ∧ Step F w w') a w)
    (hstore : ∀ (w : World), Step F w0 w → wpOp P ops Q n (fun a' w' => Q .normal a' w') (putAll a0 dl vals) w) :
    (Code.region id ops true).wp P Q a0 w0 := by
  have hlen : dl.length = n + 1 := by rw [← hdl]; simpa using hn
  refine wp_region_inv (fun listed a w => (listed.getD n false = true → Q .normal a w) ∧ (∀ i, i < n + 1 → listed.getD i false = true → ∀ j ∈ deps ops i, listed.getD j false = true) ∧ (listed.getD n false = false → Step F w0 w ∧ a.defers = a0.defers ∧ a.tmps.size = a0.tmps.size ∧ (∀ k, some k ∉ dl → a.tmps.getD k undef = a0.tmps.getD k undef) ∧ ∀ j, j < n → listed.getD j false = true → ∀ d v, dl[j]? = some (some d) → vals[j]? = some v → a.tmps.getD d undef = v)) hm hb
    ?_ ?_ (fun listed a w hall h => h.1 (hall n (by omega)))
  · have h0 : ∀ j, (Array.replicate ops.size false).getD j false = false := fun j => by
      rw [Array.getD_eq_getD_getElem?, Array.getElem?_replicate]
      split <;> rfl
    refine ⟨fun h => ?_, fun i _ h => ?_, fun _ => ⟨(Step.refl F w0).drew, rfl, rfl, fun _ _ => rfl, fun j _ h => ?_⟩⟩
    · rw [h0] at h; cases h
    · rw [h0] at h; cases h
    · rw [h0] at h; cases h
  · rintro listed a w i hs hi hil hdep ⟨h1, h2, h3⟩
    -- all of the first n are listed as soon as the last one is, or may be
    have allOf : (∀ j ∈ deps ops n, listed.getD j false = true) → ∀ m, m ≤ n → ∀ k, n - m ≤ k → k < n → listed.getD k false = true := by
      intro hd m
      induction m with
      | zero => intro _ k h4 h5; omega
      | succ m ih =>
        intro hm k h4 h5
        by_cases hk : n - m ≤ k
        · exact ih (by omega) k hk h5
        · have hu' := (List.all_eq_true.1 hu) k (by simp; exact h5)
          obtain ⟨q, hq, hc⟩ := List.any_eq_true.1 hu'
          have hq1 : q < n + 1 := by simpa using hq
          have hmem : k ∈ deps ops q := by simpa using hc
          have hkq : k < q := by
            have hb' := (List.all_eq_true.1 hb) q (by simp; omega)
            have := (List.all_eq_true.1 hb') k hmem
            simpa using this
          by_cases hqn : q = n
          · subst hqn; exact hd k hmem
          · exact h2 q hq1 (ih (by omega) q (by omega) (by omega)) k hmem
    cases hln : listed.getD n false with
    | true =>
      exfalso
      have ha := allOf (h2 n (by omega) hln) n (Nat.le_refl _)
      by_cases hin : i = n
      · subst hin
        rw [Array.getD_eq_getD_getElem?, Array.getElem?_eq_getElem (by omega)] at hi hln
        simp at hi hln
        rw [hi] at hln; cases hln
      · have h4 := ha i (by omega) (by omega)
        rw [Array.getD_eq_getD_getElem?, Array.getElem?_eq_getElem (by omega)] at hi h4
        simp at hi h4
        rw [hi] at h4; cases h4
    | false =>
      obtain ⟨s1, s2, s3, s4, s5⟩ := h3 hln
      by_cases hin : i = n
      · subst hin
        have ha := allOf hdep i (Nat.le_refl _)
        have hall : ∀ j, j < i → ∀ d v, dl[j]? = some (some d) → vals[j]? = some v → a.tmps.getD d undef = v := fun j hj => s5 j hj (ha j (by omega) hj)
        have hae : a = putAll a0 dl vals := by
          obtain ⟨z1, z2⟩ := putAll_size dl vals a0
          refine act_ext (s3.trans z1.symm) (s2.trans z2.symm) (fun k => ?_)
          by_cases hk : some k ∈ dl
          · obtain ⟨j, hj, hjk⟩ := List.getElem_of_mem hk
            have hjn : j < i := by
              rcases Nat.lt_or_ge j i with h | h
              · exact h
              · obtain rfl : j = i := by omega
                rw [List.getElem?_eq_getElem hj, hjk] at hlast
                cases hlast
            have e1 : dl[j]? = some (some k) := by rw [List.getElem?_eq_getElem hj, hjk]
            have e2 : vals[j]? = some vals[j] := List.getElem?_eq_getElem (by omega)
            rw [hall j hjn k _ e1 e2, putAll_at dl vals a0 j k _ hnd e1 e2 (hlt k hk)]
          · rw [s4 k hk, putAll_ne k dl vals a0 hk]
        have hg := hstore w s1
        rw [hae]
        refine wpOp_mono (fun a' w' hq => ⟨fun _ => hq, fun q hq1 hl j hj => ?_, fun h => ?_⟩) hg
        · by_cases hqi : q = i
          · subst hqi
            exact getD_set_of (hdep j hj)
          · rw [getD_set_ne false (Ne.symm hqi)] at hl
            exact getD_set_of (h2 q hq1 hl j hj)
        · exfalso
          rw [Array.getD_eq_getD_getElem?, Array.getElem?_setIfInBounds] at h
          simp [hs, hn] at h
      · refine wpOp_mono ?_ (hstep i (by omega) a w s1 s4 (fun j hj d v e1 e2 => by
          have hjl := hdep j hj
          have hjn : j < n := by
            rcases Nat.lt_or_ge j n with h | h
            · exact h
            · have hjlt := (List.getElem?_eq_some_iff.1 e1).1
              obtain rfl : j = n := by omega
              rw [e1] at hlast; cases hlast
          exact s5 j hjn hjl d v e1 e2))
        rintro a' w' ⟨d, v, ho, hv, rfl, hr⟩
        refine ⟨fun h => ?_, fun q hq1 hl j hj => ?_, fun _ => ⟨s1.trans hr, s2, ?_, fun k hk => ?_, fun j hj hl d' v' e1 e2 => ?_⟩⟩
        · rw [getD_set_ne false hin, hln] at h; cases h
        · by_cases hqi : q = i
          · subst hqi
            exact getD_set_of (hdep j hj)
          · rw [getD_set_ne false (Ne.symm hqi)] at hl
            exact getD_set_of (h2 q hq1 hl j hj)
        · simpa [Act.put] using s3
        · rw [put_getD_ne]
          · exact s4 k hk
          · intro e; injection e with e; subst e; exact hk (List.mem_of_getElem? ho)
        · by_cases hji : j = i
          · subst hji
            rw [ho] at e1
            injection e1 with e1
            injection e1 with e1
            subst e1
            rw [hv] at e2
            injection e2 with e2
            subst e2
            exact put_getD_self _ _ _ (by rw [s3]; exact hlt d (List.mem_of_getElem? ho))
          · rw [getD_set_ne false (Ne.symm hji)] at hl
            rw [put_getD_ne]
            · exact s5 j hj hl d' v' e1 e2
            · intro e
              injection e with e
              subst e
              obtain ⟨hi1, f1⟩ := List.getElem?_eq_some_iff.1 ho
              obtain ⟨hj1, f2⟩ := List.getElem?_eq_some_iff.1 e1
              rw [List.pairwise_iff_getElem] at hnd
              rcases Nat.lt_or_gt_of_ne hji with h | h
              · rcases hnd j i hj1 hi1 h with x | x
                · rw [f2] at x; cases x
                · exact x (f2.trans f1.symm)
              · rcases hnd i j hi1 hj1 h with x | x
                · rw [f1] at x; cases x
                · exact x (f1.trans f2.symm)

/-- One slot of them. -/
theorem val_runs {F : Nat → Prop} {vals : List Value} {dl : List (Option Nat)} {i d : Nat} {op : Op} {a : Act} {w : World} {v : Value} (h : opIs ops i (some d) op none) (hd : dl[i]? = some (some d)) (hv : vals[i]? = some v) (hr : Runs P a op w v w) :
    wpOp P ops Q i (fun a' w' => ∃ d v, dl[i]? = some (some d) ∧ vals[i]? = some v ∧ a' = a.put (some d) v ∧ Step F w w') a w :=
  op_runs h (wants_none a) hr ⟨d, v, hd, hv, rfl, Step.refl _ _⟩
theorem val_calls {F : Nat → Prop} {vals : List Value} {dl : List (Option Nat)} {i d : Nat} {f : FuncId} {xs : Array Operand} {ats : Array TypeId} {a : Act} {w : World} {args : Array Value} {fn : Func} {v : Value} (h : opIs ops i (some d) (.call { callee := .value (.func f), args := xs, argTypes := ats }) none) (hd : dl[i]? = some (some d)) (hv : vals[i]? = some v)
    (hf : P.funcs[f]? = some fn) (hn : (fn.name == "runtime.NumGoroutine") = false) (hb : fn.body.isNone = false) (ha : xs.map a.eval = args)
    (hc : Calls P f args w fun e w' => e = .returned v ∧ Step F w w') :
    wpOp P ops Q i (fun a' w' => ∃ d v, dl[i]? = some (some d) ∧ vals[i]? = some v ∧ a' = a.put (some d) v ∧ Step F w w') a w :=
  op_calls h (wants_none a) hf hn hb ha (Calls.mono hc fun e w' ⟨he, hs⟩ => ⟨v, he, d, v, hd, hv, rfl, hs⟩)
/-- An operation that yields no value. -/
def Skips (P : Program) (a : Act) (op : Op) (w w' : World) : Prop := ∀ o : Oper, o.op = op → (execOp a.eval o).run P w = .ok .skip w'
theorem op_skips {i : Nat} {op : Op} {a : Act} {w w' : World} {K : Act → World → Prop} (h : opIs ops i none op none) (hr : Skips P a op w w') (hK : K a w') : wpOp P ops Q i K a w := by
  unfold opIs at h
  obtain ⟨o, ho, he⟩ := Option.map_eq_some_iff.1 h
  simp only [Prod.mk.injEq] at he
  obtain ⟨hdst, rfl, hg⟩ := he
  refine wpOp_step ho fun K' hK' => ?_
  have hwt : Region.wanted o (yielded ops a.tmps) = true := by
    unfold Region.wanted
    rw [hg]
  rw [if_pos hwt]
  unfold Oper.wp
  rw [hr o rfl]
  have e : a.put o.dst undef = a := by rw [hdst]; rfl
  exact hK' _ _ (by rw [e]; exact hK)
end
end Go.Proofs.Ytgmgoaencaldmaa
