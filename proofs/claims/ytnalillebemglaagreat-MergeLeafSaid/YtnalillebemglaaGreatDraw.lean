/-
  A region that draws its order of evaluation, walked operation by operation, in whatever order: each operation's outcome is said of its slot alone ('sp'), in whatever world; the worlds between are bound by one relation R. So n operations are n steps, however many orders there are. Nothing of the program is named here.
  A region that draws its order, whose operations come to values known ahead, and whose last one (a store) waits for all others. Nothing of the program is named here.
  A region that draws its order, of each of whose slots a predicate is said that stays true as the world goes on (so a slot may hold the address of a block that the region makes); its last operation (a store) waits for all others. Nothing of the program is named here.
  A region that draws its order, all of whose slots' values are known ahead, guards and calls among them. Nothing of the program is named here.
  A region that draws its order: slots of which something is said ('SP'), guards, calls, operations that are passed by. Nothing of the program is named here.
  A region that draws its order, of each of whose slots a predicate is said that stays true as the world goes on; its last two operations are stores, one behind the other, that wait for all others. Nothing of the program is named here.
  Pieces of code, and frames of 220 slots as a function of the slot. Nothing of the program is named here.
  A call of a Go function as one step of a region that draws: for 'go_region_law'. Nothing of the program is named here.
-/
import Derived.RegionTactic
import Derived.WalkKit
import Derived.Test.YtnalillebemglaaGreatFrame
import Derived.Test.YtnalillebemglaaGreatRowIn
import Derived.Deep.RegionLaw
namespace Go.Proofs.YtnalillebemglaaGreat
open Go.RowKit
set_option linter.unusedVariables false

/-- The operations of a region of that number. -/
def regionOps (k : Nat) : Code → Option (Array Oper)
  | .region id ops _ => if id == k then some ops else none
  | .seq a b => (regionOps k a).or (regionOps k b)
  | .cond _ a b => (regionOps k a).or (regionOps k b)
  | .block _ c => regionOps k c
  | .loop c => regionOps k c
  | .scope c => regionOps k c
  | .rangeFunc _ _ a c => (regionOps k a).or (regionOps k c)
  | _ => none

/-- What operation i waits for. -/
def deps (ops : Array Oper) (i : Nat) : List Nat := ((ops[i]?).map fun o => (o.after.toList.filter (Region.binds .any)).map (·.on)).getD []
/-- Each one waits for earlier ones alone. -/
def backB (ops : Array Oper) : Bool := (List.range ops.size).all fun i => (deps ops i).all fun j => decide (j < i)

theorem mem_deps {ops : Array Oper} {i j : Nat} {o : Oper} (ho : ops[i]? = some o) : j ∈ deps ops i ↔ ∃ e ∈ o.after, Region.binds .any e = true ∧ e.on = j := by
  simp only [deps, ho, Option.map_some, Option.getD_some, List.mem_map, List.mem_filter, Array.mem_toList_iff]
  constructor
  · rintro ⟨e, ⟨h1, h2⟩, h3⟩; exact ⟨e, h1, h2, h3⟩
  · rintro ⟨e, h1, h2, h3⟩; exact ⟨e, ⟨h1, h2⟩, h3⟩

section
variable {P : Program} {ops : Array Oper} {Q : Exit → Act → World → Prop}

/-- how many are left -/
def left (l : Array Bool) : Nat := (l.toList.filter (fun b => !b)).length

theorem left_set {l : Array Bool} {i : Nat} (h : l.getD i true = false) : left (l.setIfInBounds i true) + 1 = left l := by
  have hi : i < l.size := by
    rcases Nat.lt_or_ge i l.size with h' | h'
    · exact h'
    · rw [Array.getD_eq_getD_getElem?, Array.getElem?_eq_none h'] at h; simp at h
  have hv : l.toList[i]? = some false := by
    rw [Array.getElem?_toList]
    rw [Array.getD_eq_getD_getElem?, Array.getElem?_eq_getElem hi] at h
    rw [Array.getElem?_eq_getElem hi]
    simpa using h
  unfold left
  rw [Array.toList_setIfInBounds]
  generalize l.toList = xs at hv
  clear h hi
  induction xs generalizing i with
  | nil => simp at hv
  | cons x xs ih =>
    cases i with
    | zero =>
      simp at hv
      subst hv
      simp
    | succ i =>
      rw [List.getElem?_cons_succ] at hv
      have := ih hv
      rw [List.set_cons_succ]
      cases x
      · simp only [List.filter_cons, Bool.not_false, if_true, List.length_cons] at this ⊢; omega
      · simpa using this

theorem all_of_ready_nil (hb : backB ops = true) {listed : Array Bool} (hs : listed.size = ops.size) (hr : Region.ready .any ops listed = []) : ∀ k, k < ops.size → listed.getD k true = true := by
  intro k
  induction k using Nat.strongRecOn with
  | ind k ih =>
    intro hk
    cases h : listed.getD k true with
    | true => rfl
    | false =>
      exfalso
      have hm : k ∈ Region.ready .any ops listed := by
        refine mem_ready.2 ⟨h, ops[k], Array.getElem?_eq_getElem hk, fun e he hbi => ?_⟩
        have hd : e.on ∈ deps ops k := (mem_deps (Array.getElem?_eq_getElem hk)).2 ⟨e, he, hbi, rfl⟩
        have hlt : e.on < k := by
          have h1 := List.all_eq_true.1 hb k (List.mem_range.2 hk)
          simpa using List.all_eq_true.1 h1 _ hd
        have h2 := ih e.on hlt (by omega)
        rw [Array.getD_eq_getD_getElem?] at h2 ⊢
        rw [Array.getElem?_eq_getElem (show e.on < listed.size by omega)] at h2 ⊢
        simpa using h2
      rw [hr] at hm
      cases hm

/-- An invariant over what has come up: in whatever order. -/
theorem wp_region_inv {id : Nat} {a0 : Act} {w0 : World} (Inv : Array Bool → Act → World → Prop) (hm : P.follows .mixedOrders = true) (hb : backB ops = true)
    (h0 : Inv (Array.replicate ops.size false) a0 w0.drew)
    (hstep : ∀ (listed : Array Bool) (a : Act) (w : World) (i : Nat), listed.size = ops.size → listed.getD i true = false → i < ops.size → (∀ j ∈ deps ops i, listed.getD j false = true) → Inv listed a w →
      wpOp P ops Q i (fun a' w' => Inv (listed.setIfInBounds i true) a' w') a w)
    (hend : ∀ (listed : Array Bool) (a : Act) (w : World), (∀ k, k < ops.size → listed.getD k false = true) → Inv listed a w → Q .normal a w) : (Code.region id ops true).wp P Q a0 w0 := by
  have main : ∀ (fuel : Nat) (listed : Array Bool) (a : Act) (w : World), listed.size = ops.size → left listed = fuel → Inv listed a w → wpAny P .any ops Q fuel listed a w := by
    intro fuel
    induction fuel with
    | zero =>
      intro listed a w hs hl hI
      have hall : ∀ k, k < ops.size → listed.getD k true = true := fun k hk => by
        cases h : listed.getD k true with
        | true => rfl
        | false => have := left_set h; omega
      have hall2 : ∀ k, k < ops.size → listed.getD k false = true := fun k hk => by
        have h := hall k hk
        rw [Array.getD_eq_getD_getElem?, Array.getElem?_eq_getElem (by omega)] at h ⊢
        simpa using h
      refine ⟨?_, hend listed a w hall2 hI⟩
      apply List.eq_nil_iff_forall_not_mem.2
      intro i hi
      obtain ⟨h1, o, ho, _⟩ := mem_ready.1 hi
      rw [hall i (Array.getElem?_eq_some_iff.1 ho).1] at h1
      cases h1
    | succ fuel ih =>
      intro listed a w hs hl hI
      refine ⟨fun hr => ?_, fun i hi => ?_⟩
      · have hall := all_of_ready_nil hb hs hr
        exact hend listed a w (fun k hk => by
          have h := hall k hk
          rw [Array.getD_eq_getD_getElem?, Array.getElem?_eq_getElem (by omega)] at h ⊢
          simpa using h) hI
      · obtain ⟨h1, o, ho, h2⟩ := mem_ready.1 hi
        have hil := (Array.getElem?_eq_some_iff.1 ho).1
        refine wpOp_mono (fun a' w' h => ih _ a' w' (by rw [Array.size_setIfInBounds]; exact hs) (by have := left_set h1; omega) h)
          (hstep listed a w i hs h1 hil (fun j hj => ?_) hI)
        obtain ⟨e, he, hbi, rfl⟩ := (mem_deps ho).1 hj
        exact h2 e he hbi
  refine wp_region_any hm (main _ _ _ _ (by simp) ?_ h0)
  unfold left
  rw [Array.toList_replicate, List.filter_replicate]
  simp

/-- What stands in the slot of operation j. -/
def slotOf (a : Act) : Option Nat → Value
  | some d => a.tmps.getD d undef
  | none => undef
/-- What is said of a slot's value in a world: it stays, whatever happens outside F. -/
abbrev SP (F : Nat → Prop) := { p : World → Value → Prop // ∀ w w' v, Step F w w' → p w v → p w' v }
def is {F : Nat → Prop} (u : Value) : SP F := ⟨fun _ v => v = u, fun _ _ _ _ h => h⟩
def any {F : Nat → Prop} : SP F := ⟨fun _ _ => True, fun _ _ _ _ h => h⟩
theorem RowAt.stepF {w w' : World} {F : Nat → Prop} {a : Option Addr} {cs : List Value} (h : RowAt w F a cs) (hs : Step F w w') : RowAt w' F a cs := by
  rcases h with h | ⟨b, off, h1, h2, h3⟩
  · exact .inl h
  · by_cases h0 : cs = []
    · exact .inl h0
    · have hl : 0 < cs.length := List.length_pos_iff.2 h0
      have hb : b < w.heap.size := World.block_lt_of_cell? w _ (h3 0 hl)
      exact .inr ⟨b, off, h1, h2, fun j hj => (hs.cell (p := ⟨b, off + j, none⟩) h2 hb).trans (h3 j hj)⟩
/-- A slice of n elements over the cells cs, outside F. -/
def isRow {F : Nat → Prop} (n : Nat) (cs : List Value) : SP F := ⟨fun w v => ∃ a, v = .slice a n n ∧ RowAt w F a cs, fun _ _ _ hs ⟨a, h1, h2⟩ => ⟨a, h1, h2.stepF hs⟩⟩

def At {F : Nat → Prop} (sp : List (SP F)) (dl : List (Option Nat)) (a : Act) (w : World) (j : Nat) : Prop := ∀ p o, sp[j]? = some p → dl[j]? = some o → p.1 w (slotOf a o)
theorem dep {ops : Array Oper} {F : Nat → Prop} {sp : List (SP F)} {dl : List (Option Nat)} {a : Act} {w : World} {i : Nat} (h : ∀ j ∈ deps ops i, At sp dl a w j) (j : Nat) (hj : (deps ops i).contains j = true) (p : SP F) (d : Nat) (hp : sp[j]? = some p) (hd : dl[j]? = some (some d)) : p.1 w (a.tmps.getD d undef) :=
  h j (by simpa using hj) p (some d) hp hd

theorem put_getD_ne (a : Act) (o : Option Nat) (v : Value) (k : Nat) (h : o ≠ some k) : (a.put o v).tmps.getD k undef = a.tmps.getD k undef := by
  cases o with
  | none => rfl
  | some d =>
    have : d ≠ k := fun e => h (by rw [e])
    simp only [Act.put, Array.getD_eq_getD_getElem?]
    rw [Array.getElem?_setIfInBounds_ne this]
theorem put_getD_self (a : Act) (d : Nat) (v : Value) (h : d < a.tmps.size) : (a.put (some d) v).tmps.getD d undef = v := by
  simp only [Act.put, Array.getD_eq_getD_getElem?]
  rw [Array.getElem?_setIfInBounds_self_of_lt h]
  rfl

theorem wp_region_slots {id : Nat} {a0 : Act} {w0 : World} (F : Nat → Prop) (sp : List (SP F)) (dl : List (Option Nat)) (hm : P.follows .mixedOrders = true) (hb : backB ops = true)
    (hdl : ops.toList.map (·.dst) = dl) (hnd : dl.Pairwise (fun x y => x = none ∨ x ≠ y)) (hlt : ∀ d, some d ∈ dl → d < a0.tmps.size)
    (hstep : ∀ (i : Nat), i < ops.size → ∀ (a : Act) (w : World), Step F w0 w → (∀ k, some k ∉ dl → a.tmps.getD k undef = a0.tmps.getD k undef) → (∀ j ∈ deps ops i, At sp dl a w j) →
      wpOp P ops Q i (fun a' w' => ∃ o v, dl[i]? = some o ∧ a' = a.put o v ∧ Step F w w' ∧ ∀ p, sp[i]? = some p → p.1 w' (o.elim undef fun _ => v)) a w)
    (hend : ∀ (a : Act) (w : World), Step F w0 w → a.defers = a0.defers → (∀ k, some k ∉ dl → a.tmps.getD k undef = a0.tmps.getD k undef) → (∀ j, j < ops.size → At sp dl a w j) → Q .normal a w) :
    (Code.region id ops true).wp P Q a0 w0 := by
  have hlen : dl.length = ops.size := by rw [← hdl]; simp
  refine wp_region_inv (fun listed a w => Step F w0 w ∧ a.defers = a0.defers ∧ a.tmps.size = a0.tmps.size ∧ (∀ k, some k ∉ dl → a.tmps.getD k undef = a0.tmps.getD k undef) ∧ ∀ j, listed.getD j false = true → At sp dl a w j) hm hb
    ⟨(Step.refl F w0).drew, rfl, rfl, fun _ _ => rfl, fun j hj => ?_⟩ ?_ (fun listed a w hall ⟨h1, h2, _, h4, h5⟩ => hend a w h1 h2 h4 (fun j hj => h5 j (hall j hj)))
  · exfalso
    rw [Array.getD_eq_getD_getElem?, Array.getElem?_replicate] at hj
    split at hj <;> simp at hj
  · rintro listed a w i hs hi hil hdep ⟨h1, h2, h3, h4, h5⟩
    refine wpOp_mono ?_ (hstep i hil a w h1 h4 (fun j hj => h5 j (hdep j hj)))
    rintro a' w' ⟨o, v, ho, rfl, hr, hp⟩
    refine ⟨h1.trans hr, ?_, ?_, fun k hk => ?_, fun j hj => ?_⟩
    · cases o <;> exact h2
    · cases o with
      | none => exact h3
      | some d => simpa [Act.put] using h3
    · rw [put_getD_ne]
      · exact h4 k hk
      · intro e
        subst e
        exact hk (List.mem_of_getElem? ho)
    · intro p oj hp' hoj
      by_cases hji : j = i
      · subst hji
        obtain rfl : o = oj := Option.some.inj (ho.symm.trans hoj)
        have hv := hp p hp'
        cases o with
        | none => exact hv
        | some d =>
          show p.1 w' ((a.put (some d) v).tmps.getD d undef)
          rw [put_getD_self _ _ _ (by rw [h3]; exact hlt d (List.mem_of_getElem? ho))]
          exact hv
      · have hj2 : listed.getD j false = true := by
          rw [getD_set_ne false (Ne.symm hji)] at hj
          exact hj
        have hold := h5 j hj2 p oj hp' hoj
        have hm2 := p.2 w w' _ hr hold
        cases oj with
        | none => exact hm2
        | some d =>
          show p.1 w' ((a.put o v).tmps.getD d undef)
          rw [put_getD_ne]
          · exact hm2
          · intro e
            subst e
            obtain ⟨hi1, e1⟩ := List.getElem?_eq_some_iff.1 ho
            obtain ⟨hj1, e2⟩ := List.getElem?_eq_some_iff.1 hoj
            rw [List.pairwise_iff_getElem] at hnd
            rcases Nat.lt_or_gt_of_ne hji with h | h
            · rcases hnd j i hj1 hi1 h with x | x
              · rw [e2] at x; cases x
              · exact x (e2.trans e1.symm)
            · rcases hnd i j hi1 hj1 h with x | x
              · rw [e1] at x; cases x
              · exact x (e1.trans e2.symm)

/-! one operation -/
def opIs (ops : Array Oper) (i : Nat) (d : Option Nat) (op : Op) (g : Option (Nat × Bool)) : Prop := (ops[i]?).map (fun o => (o.dst, o.op, o.guard)) = some (d, op, g)
theorem opIs_of {i : Nat} {d : Option Nat} {op : Op} {g : Option (Nat × Bool)} (h : (ops[i]?).map (fun o => (o.dst, o.op, o.guard)) = some (d, op, g)) : opIs ops i d op g := h
/-- Its guard lets it by. -/
def Wants (ops : Array Oper) (a : Act) (g : Option (Nat × Bool)) : Prop := ∀ j b, g = some (j, b) → yielded ops a.tmps j = some b
theorem wants_none (a : Act) : Wants ops a none := fun _ _ h => by cases h
theorem wants_some {a : Act} {j d : Nat} {b : Bool} (hd : (ops[j]?).bind (·.dst) = some d) (h : a.tmps.getD d undef = .bool b) : Wants ops a (some (j, b)) := by
  intro j' b' e
  simp only [Option.some.injEq, Prod.mk.injEq] at e
  obtain ⟨rfl, rfl⟩ := e
  unfold yielded
  rw [hd, Option.bind_some]
  rw [Array.getD_eq_getD_getElem?] at h
  cases hx : a.tmps[d]? with
  | none => rw [hx] at h; simp [undef] at h
  | some v => rw [hx] at h; simp at h; subst h; rfl

/-- Whatever else the operation bears, it comes to that value. -/
def Runs (P : Program) (a : Act) (op : Op) (w : World) (v : Value) (w' : World) : Prop := ∀ o : Oper, o.op = op → (execOp a.eval o).run P w = .ok (.value v) w'

theorem op_runs {i : Nat} {d : Option Nat} {op : Op} {g : Option (Nat × Bool)} {a : Act} {w w' : World} {v : Value} {K : Act → World → Prop} (h : opIs ops i d op g) (hw : Wants ops a g) (hr : Runs P a op w v w') (hK : K (a.put d v) w') : wpOp P ops Q i K a w := by
  unfold opIs at h
  obtain ⟨o, ho, he⟩ := Option.map_eq_some_iff.1 h
  simp only [Prod.mk.injEq] at he
  obtain ⟨rfl, rfl, rfl⟩ := he
  refine wpOp_step ho fun K' hK' => ?_
  have hwt : Region.wanted o (yielded ops a.tmps) = true := by
    unfold Region.wanted
    cases hg : o.guard with
    | none => rfl
    | some x => obtain ⟨j, b⟩ := x; simp [hw j b hg]
  rw [if_pos hwt]
  unfold Oper.wp
  rw [hr o rfl]
  exact hK' _ _ hK
theorem op_calls {i : Nat} {d : Option Nat} {f : FuncId} {xs : Array Operand} {ats : Array TypeId} {g : Option (Nat × Bool)} {a : Act} {w : World} {args : Array Value} {K : Act → World → Prop} {fn : Func} (h : opIs ops i d (.call { callee := .value (.func f), args := xs, argTypes := ats }) g) (hw : Wants ops a g)
    (hf : P.funcs[f]? = some fn) (hn : (fn.name == "runtime.NumGoroutine") = false) (hb : fn.body.isNone = false) (ha : xs.map a.eval = args)
    (hc : Calls P f args w fun e w' => ∃ v, e = .returned v ∧ K (a.put d v) w') : wpOp P ops Q i K a w := by
  unfold opIs at h
  obtain ⟨o, ho, he⟩ := Option.map_eq_some_iff.1 h
  simp only [Prod.mk.injEq] at he
  obtain ⟨rfl, hop, rfl⟩ := he
  refine wpOp_step ho fun K' hK' => ?_
  have hwt : Region.wanted o (yielded ops a.tmps) = true := by
    unfold Region.wanted
    cases hg : o.guard with
    | none => rfl
    | some x => obtain ⟨j, b⟩ := x; simp [hw j b hg]
  rw [if_pos hwt]
  unfold Oper.wp
  have hx : (execOp a.eval o).run P w = .ok (.enter f args) w := by
    have e1 : execOp a.eval o = callFunc f (#[] ++ xs.map a.eval ++ #[]) := by
      obtain ⟨dst, op, ty, pos, after, guard⟩ := o
      simp only at hop
      subst hop
      rfl
    rw [e1, ha]
    have hn' : fn.name ≠ "runtime.NumGoroutine" := by simpa using hn
    have hb' : ¬ fn.body = none := fun h => by rw [h] at hb; cases hb
    simp [callFunc, go_sem, hf, hn', hb']
  rw [hx]
  refine Calls.mono hc ?_
  rintro e w' ⟨v, rfl, hv⟩
  exact hK' _ _ hv

theorem slot_runs {F : Nat → Prop} {sp : List (SP F)} {dl : List (Option Nat)} {i d : Nat} {op : Op} {g : Option (Nat × Bool)} {a : Act} {w w' : World} {v : Value} (p : SP F) (h : opIs ops i (some d) op g) (hdl : dl[i]? = some (some d)) (hsp : sp[i]? = some p) (hw : Wants ops a g) (hr : Runs P a op w v w') (hR : Step F w w') (hp : p.1 w' v) :
    wpOp P ops Q i (fun a' w' => ∃ o v, dl[i]? = some o ∧ a' = a.put o v ∧ Step F w w' ∧ ∀ p, sp[i]? = some p → p.1 w' (o.elim undef fun _ => v)) a w :=
  op_runs h hw hr ⟨some d, v, hdl, rfl, hR, fun p' hp' => by rw [hsp] at hp'; injection hp' with e; subst e; exact hp⟩
theorem slot_calls {F : Nat → Prop} {sp : List (SP F)} {dl : List (Option Nat)} {i d : Nat} {f : FuncId} {xs : Array Operand} {ats : Array TypeId} {g : Option (Nat × Bool)} {a : Act} {w : World} {args : Array Value} {fn : Func} (p : SP F) (h : opIs ops i (some d) (.call { callee := .value (.func f), args := xs, argTypes := ats }) g) (hdl : dl[i]? = some (some d)) (hsp : sp[i]? = some p) (hw : Wants ops a g)
    (hf : P.funcs[f]? = some fn) (hn : (fn.name == "runtime.NumGoroutine") = false) (hb : fn.body.isNone = false) (ha : xs.map a.eval = args)
    (hc : Calls P f args w fun e w' => ∃ v, e = .returned v ∧ Step F w w' ∧ p.1 w' v) :
    wpOp P ops Q i (fun a' w' => ∃ o v, dl[i]? = some o ∧ a' = a.put o v ∧ Step F w w' ∧ ∀ p, sp[i]? = some p → p.1 w' (o.elim undef fun _ => v)) a w :=
  op_calls h hw hf hn hb ha (Calls.mono hc fun e w' ⟨v, he, hs, hp⟩ => ⟨v, he, some d, v, hdl, rfl, hs, fun p' hp' => by rw [hsp] at hp'; injection hp' with e; subst e; exact hp⟩)

theorem runs_move {a : Act} {w : World} {x : Operand} {v : Value} (h : a.eval x = v) : Runs P a (.move x) w v w := by
  intro o ho
  subst h
  simp [execOp, ho]
theorem runs_assign {a : Act} {w : World} {x : Operand} {v : Value} (h : a.eval x = v) : Runs P a (.assign x) w v w := by
  intro o ho
  subst h
  simp [execOp, ho]
theorem runs_pick {a : Act} {w : World} {c x y : Operand} {b : Bool} {v : Value} (hc : a.eval c = .bool b) (h : (if b then a.eval x else a.eval y) = v) : Runs P a (.pick c x y) w v w := by
  intro o ho
  subst h
  cases b <;> simp [execOp, ho, hc, asBool]
theorem runs_eql_int {a : Act} {w : World} {t u : TypeId} {x y : Operand} {k : IntKind} {m n : Int} (hx : a.eval x = .int k m) (hy : a.eval y = .int k n) : Runs P a (.binOp .eql t x y u) w (.bool (m == n)) w := by
  intro o ho
  simp only [execOp, ho, hx, hy]
  simp [go_sem]
theorem runs_slice_string {a : Act} {w : World} {t : TypeId} {x : Operand} {lo hi : Option Operand} {s r : ByteArray} (ht : P.underlying t = some .string) (hx : a.eval x = .string s)
    (h : (Instr.slice t (.string s) (lo.map a.eval) (hi.map a.eval) none).run P w = .ok (.string r) w) : Runs P a (.slice t x lo hi none) w (.string r) w := by
  intro o ho
  simp [execOp, ho, hx, run_sliceAt_string, ht, h]
end
end Go.Proofs.YtnalillebemglaaGreat
namespace Go.Proofs.YtnalillebemglaaGreat
open Go.RowKit
set_option linter.unusedVariables false

/-- All slots put. -/
def putAll (a : Act) : List (Option Nat) → List Value → Act
  | o :: ds, v :: vs => putAll (a.put o v) ds vs
  | _, _ => a

theorem putAll_size (ds : List (Option Nat)) : ∀ (vs : List Value) (a : Act), (putAll a ds vs).tmps.size = a.tmps.size ∧ (putAll a ds vs).defers = a.defers := by
  induction ds with
  | nil => intro vs a; exact ⟨rfl, rfl⟩
  | cons o ds ih =>
    intro vs a
    cases vs with
    | nil => exact ⟨rfl, rfl⟩
    | cons v vs =>
      obtain ⟨h1, h2⟩ := ih vs (a.put o v)
      refine ⟨h1.trans ?_, h2.trans ?_⟩ <;> cases o <;> simp [Act.put]
theorem putAll_ne (k : Nat) (ds : List (Option Nat)) : ∀ (vs : List Value) (a : Act), some k ∉ ds → (putAll a ds vs).tmps.getD k undef = a.tmps.getD k undef := by
  induction ds with
  | nil => intro vs a _; rfl
  | cons o ds ih =>
    intro vs a h
    simp only [List.mem_cons, not_or] at h
    cases vs with
    | nil => rfl
    | cons v vs => exact (ih vs _ h.2).trans (put_getD_ne _ _ _ _ (fun e => h.1 e.symm))
theorem putAll_at (ds : List (Option Nat)) : ∀ (vs : List Value) (a : Act) (j d : Nat) (v : Value), ds.Pairwise (fun x y => x = none ∨ x ≠ y) → ds[j]? = some (some d) → vs[j]? = some v → d < a.tmps.size → (putAll a ds vs).tmps.getD d undef = v := by
  induction ds with
  | nil => intro vs a j d v _ h; simp at h
  | cons o ds ih =>
    intro vs a j d v hp h hv hd
    cases vs with
    | nil => simp at hv
    | cons v0 vs =>
      have hsz : (a.put o v0).tmps.size = a.tmps.size := by cases o <;> simp [Act.put]
      rw [List.pairwise_cons] at hp
      cases j with
      | zero =>
        simp at h hv
        subst h hv
        show (putAll (a.put (some d) v0) ds vs).tmps.getD d undef = v0
        rw [putAll_ne d ds vs _ (fun hm => by rcases hp.1 _ hm with x | x; cases x; exact x rfl), put_getD_self _ _ _ hd]
      | succ j => exact ih vs _ j d v hp.2 (by simpa using h) (by simpa using hv) (by rw [hsz]; exact hd)
theorem act_ext {a b : Act} (h1 : a.tmps.size = b.tmps.size) (h2 : a.defers = b.defers) (h3 : ∀ k, a.tmps.getD k undef = b.tmps.getD k undef) : a = b := by
  obtain ⟨t, d⟩ := a
  obtain ⟨t', d'⟩ := b
  simp only at h1 h2
  subst h2
  have : t = t' := by
    apply Array.ext h1
    intro k hk hk'
    have := h3 k
    simpa [Array.getD_eq_getD_getElem?, Array.getElem?_eq_getElem hk, Array.getElem?_eq_getElem hk'] using this
  rw [this]

theorem getD_set_of {l : Array Bool} {i j : Nat} (h : l.getD j false = true) : (l.setIfInBounds i true).getD j false = true := by
  by_cases hij : i = j
  · subst hij
    have hl : i < l.size := by
      rcases Nat.lt_or_ge i l.size with h' | h'
      · exact h'
      · rw [Array.getD_eq_getD_getElem?, Array.getElem?_eq_none h'] at h; simp at h
    rw [Array.getD_eq_getD_getElem?, Array.getElem?_setIfInBounds_self_of_lt hl]; rfl
  · rw [getD_set_ne false hij]; exact h
/-- Each of the first n operations is waited for by another one. -/
def usedB (ops : Array Oper) (n : Nat) : Bool := (List.range n).all fun i => (List.range (n + 1)).any fun k => (deps ops k).contains i

section
variable {P : Program} {ops : Array Oper} {Q : Exit → Act → World → Prop}

theorem wp_region_vals {id : Nat} {a0 : Act} {w0 : World} (F : Nat → Prop) (vals : List Value) (dl : List (Option Nat)) (n : Nat) (hn : ops.size = n + 1) (hm : P.follows .mixedOrders = true) (hb : backB ops = true) (hu : usedB ops n = true)
    (hdl : ops.toList.map (·.dst) = dl) (hnd : dl.Pairwise (fun x y => x = none ∨ x ≠ y)) (hlt : ∀ d, some d ∈ dl → d < a0.tmps.size) (hvl : vals.length = n) (hlast : dl[n]? = some none)
    (hstep : ∀ (i : Nat), i < n → ∀ (a : Act) (w : World), Step F w0 w → (∀ k, some k ∉ dl → a.tmps.getD k undef = a0.tmps.getD k undef) → (∀ j ∈ deps ops i, ∀ d v, dl[j]? = some (some d) → vals[j]? = some v → a.tmps.getD d undef = v) →
      wpOp P ops Q i (fun a' w' => ∃ d v, dl[i]? = some (some d) ∧ vals[i]? = some v ∧ a' = a.put (some d) v ∧ Step F w w') a w)
    (hstore : ∀ (w : World), Step F w0 w → wpOp P ops Q n (fun a' w' => Q .normal a' w') (putAll a0 dl vals) w) :
    (Code.region id ops true).wp P Q a0 w0 := by
  have hlen : dl.length = n + 1 := by rw [← hdl]; simpa using hn
  refine wp_region_inv (fun listed a w => (listed.getD n false = true → Q .normal a w) ∧ (∀ i, i < n + 1 → listed.getD i false = true → ∀ j ∈ deps ops i, listed.getD j false = true) ∧ (listed.getD n false = false → Step F w0 w ∧ a.defers = a0.defers ∧ a.tmps.size = a0.tmps.size ∧ (∀ k, some k ∉ dl → a.tmps.getD k undef = a0.tmps.getD k undef) ∧ ∀ j, j < n → listed.getD j false = true → ∀ d v, dl[j]? = some (some d) → vals[j]? = some v → a.tmps.getD d undef = v)) hm hb
    ?_ ?_ (fun listed a w hall h => h.1 (hall n (by omega)))
  · have h0 : ∀ j, (Array.replicate ops.size false).getD j false = false := fun j => by
      rw [Array.getD_eq_getD_getElem?, Array.getElem?_replicate]
      split <;> rfl
    refine ⟨fun h => ?_, fun i _ h => ?_, fun _ => ⟨(Step.refl F w0).drew, rfl, rfl, fun _ _ => rfl, fun j _ h => ?_⟩⟩
    · rw [h0] at h; cases h
    · rw [h0] at h; cases h
    · rw [h0] at h; cases h
  · rintro listed a w i hs hi hil hdep ⟨h1, h2, h3⟩
    -- all of the first n are listed as soon as the last one is, or may be
    have allOf : (∀ j ∈ deps ops n, listed.getD j false = true) → ∀ m, m ≤ n → ∀ k, n - m ≤ k → k < n → listed.getD k false = true := by
      intro hd m
      induction m with
      | zero => intro _ k h4 h5; omega
      | succ m ih =>
        intro hm k h4 h5
        by_cases hk : n - m ≤ k
        · exact ih (by omega) k hk h5
        · have hu' := (List.all_eq_true.1 hu) k (by simp; exact h5)
          obtain ⟨q, hq, hc⟩ := List.any_eq_true.1 hu'
          have hq1 : q < n + 1 := by simpa using hq
          have hmem : k ∈ deps ops q := by simpa using hc
          have hkq : k < q := by
            have hb' := (List.all_eq_true.1 hb) q (by simp; omega)
            have := (List.all_eq_true.1 hb') k hmem
            simpa using this
          by_cases hqn : q = n
          · subst hqn; exact hd k hmem
          · exact h2 q hq1 (ih (by omega) q (by omega) (by omega)) k hmem
    cases hln : listed.getD n false with
    | true =>
      exfalso
      have ha := allOf (h2 n (by omega) hln) n (Nat.le_refl _)
      by_cases hin : i = n
      · subst hin
        rw [Array.getD_eq_getD_getElem?, Array.getElem?_eq_getElem (by omega)] at hi hln
        simp at hi hln
        rw [hi] at hln; cases hln
      · have h4 := ha i (by omega) (by omega)
        rw [Array.getD_eq_getD_getElem?, Array.getElem?_eq_getElem (by omega)] at hi h4
        simp at hi h4
        rw [hi] at h4; cases h4
    | false =>
      obtain ⟨s1, s2, s3, s4, s5⟩ := h3 hln
      by_cases hin : i = n
      · subst hin
        have ha := allOf hdep i (Nat.le_refl _)
        have hall : ∀ j, j < i → ∀ d v, dl[j]? = some (some d) → vals[j]? = some v → a.tmps.getD d undef = v := fun j hj => s5 j hj (ha j (by omega) hj)
        have hae : a = putAll a0 dl vals := by
          obtain ⟨z1, z2⟩ := putAll_size dl vals a0
          refine act_ext (s3.trans z1.symm) (s2.trans z2.symm) (fun k => ?_)
          by_cases hk : some k ∈ dl
          · obtain ⟨j, hj, hjk⟩ := List.getElem_of_mem hk
            have hjn : j < i := by
              rcases Nat.lt_or_ge j i with h | h
              · exact h
              · obtain rfl : j = i := by omega
                rw [List.getElem?_eq_getElem hj, hjk] at hlast
                cases hlast
            have e1 : dl[j]? = some (some k) := by rw [List.getElem?_eq_getElem hj, hjk]
            have e2 : vals[j]? = some vals[j] := List.getElem?_eq_getElem (by omega)
            rw [hall j hjn k _ e1 e2, putAll_at dl vals a0 j k _ hnd e1 e2 (hlt k hk)]
          · rw [s4 k hk, putAll_ne k dl vals a0 hk]
        have hg := hstore w s1
        rw [hae]
        refine wpOp_mono (fun a' w' hq => ⟨fun _ => hq, fun q hq1 hl j hj => ?_, fun h => ?_⟩) hg
        · by_cases hqi : q = i
          · subst hqi
            exact getD_set_of (hdep j hj)
          · rw [getD_set_ne false (Ne.symm hqi)] at hl
            exact getD_set_of (h2 q hq1 hl j hj)
        · exfalso
          rw [Array.getD_eq_getD_getElem?, Array.getElem?_setIfInBounds] at h
          simp [hs, hn] at h
      · refine wpOp_mono ?_ (hstep i (by omega) a w s1 s4 (fun j hj d v e1 e2 => by
          have hjl := hdep j hj
          have hjn : j < n := by
            rcases Nat.lt_or_ge j n with h | h
            · exact h
            · have hjlt := (List.getElem?_eq_some_iff.1 e1).1
              obtain rfl : j = n := by omega
              rw [e1] at hlast; cases hlast
          exact s5 j hjn hjl d v e1 e2))
        rintro a' w' ⟨d, v, ho, hv, rfl, hr⟩
        refine ⟨fun h => ?_, fun q hq1 hl j hj => ?_, fun _ => ⟨s1.trans hr, s2, ?_, fun k hk => ?_, fun j hj hl d' v' e1 e2 => ?_⟩⟩
        · rw [getD_set_ne false hin, hln] at h; cases h
        · by_cases hqi : q = i
          · subst hqi
            exact getD_set_of (hdep j hj)
          · rw [getD_set_ne false (Ne.symm hqi)] at hl
            exact getD_set_of (h2 q hq1 hl j hj)
        · simpa [Act.put] using s3
        · rw [put_getD_ne]
          · exact s4 k hk
          · intro e; injection e with e; subst e; exact hk (List.mem_of_getElem? ho)
        · by_cases hji : j = i
          · subst hji
            rw [ho] at e1
            injection e1 with e1
            injection e1 with e1
            subst e1
            rw [hv] at e2
            injection e2 with e2
            subst e2
            exact put_getD_self _ _ _ (by rw [s3]; exact hlt d (List.mem_of_getElem? ho))
          · rw [getD_set_ne false (Ne.symm hji)] at hl
            rw [put_getD_ne]
            · exact s5 j hj hl d' v' e1 e2
            · intro e
              injection e with e
              subst e
              obtain ⟨hi1, f1⟩ := List.getElem?_eq_some_iff.1 ho
              obtain ⟨hj1, f2⟩ := List.getElem?_eq_some_iff.1 e1
              rw [List.pairwise_iff_getElem] at hnd
              rcases Nat.lt_or_gt_of_ne hji with h | h
              · rcases hnd j i hj1 hi1 h with x | x
                · rw [f2] at x; cases x
                · exact x (f2.trans f1.symm)
              · rcases hnd i j hi1 hj1 h with x | x
                · rw [f1] at x; cases x
                · exact x (f1.trans f2.symm)

/-- One slot of them. -/
theorem val_runs {F : Nat → Prop} {vals : List Value} {dl : List (Option Nat)} {i d : Nat} {op : Op} {a : Act} {w : World} {v : Value} (h : opIs ops i (some d) op none) (hd : dl[i]? = some (some d)) (hv : vals[i]? = some v) (hr : Runs P a op w v w) :
    wpOp P ops Q i (fun a' w' => ∃ d v, dl[i]? = some (some d) ∧ vals[i]? = some v ∧ a' = a.put (some d) v ∧ Step F w w') a w :=
  op_runs h (wants_none a) hr ⟨d, v, hd, hv, rfl, Step.refl _ _⟩
theorem val_calls {F : Nat → Prop} {vals : List Value} {dl : List (Option Nat)} {i d : Nat} {f : FuncId} {xs : Array Operand} {ats : Array TypeId} {a : Act} {w : World} {args : Array Value} {fn : Func} {v : Value} (h : opIs ops i (some d) (.call { callee := .value (.func f), args := xs, argTypes := ats }) none) (hd : dl[i]? = some (some d)) (hv : vals[i]? = some v)
    (hf : P.funcs[f]? = some fn) (hn : (fn.name == "runtime.NumGoroutine") = false) (hb : fn.body.isNone = false) (ha : xs.map a.eval = args)
    (hc : Calls P f args w fun e w' => e = .returned v ∧ Step F w w') :
    wpOp P ops Q i (fun a' w' => ∃ d v, dl[i]? = some (some d) ∧ vals[i]? = some v ∧ a' = a.put (some d) v ∧ Step F w w') a w :=
  op_calls h (wants_none a) hf hn hb ha (Calls.mono hc fun e w' ⟨he, hs⟩ => ⟨v, he, d, v, hd, hv, rfl, hs⟩)
/-- An operation that yields no value. -/
def Skips (P : Program) (a : Act) (op : Op) (w w' : World) : Prop := ∀ o : Oper, o.op = op → (execOp a.eval o).run P w = .ok .skip w'
theorem op_skips {i : Nat} {op : Op} {a : Act} {w w' : World} {K : Act → World → Prop} (h : opIs ops i none op none) (hr : Skips P a op w w') (hK : K a w') : wpOp P ops Q i K a w := by
  unfold opIs at h
  obtain ⟨o, ho, he⟩ := Option.map_eq_some_iff.1 h
  simp only [Prod.mk.injEq] at he
  obtain ⟨hdst, rfl, hg⟩ := he
  refine wpOp_step ho fun K' hK' => ?_
  have hwt : Region.wanted o (yielded ops a.tmps) = true := by
    unfold Region.wanted
    rw [hg]
  rw [if_pos hwt]
  unfold Oper.wp
  rw [hr o rfl]
  have e : a.put o.dst undef = a := by rw [hdst]; rfl
  exact hK' _ _ (by rw [e]; exact hK)
end
end Go.Proofs.YtnalillebemglaaGreat
namespace Go.Proofs.YtnalillebemglaaGreat
open Go.RowKit
set_option linter.unusedVariables false
section
variable {P : Program} {ops : Array Oper} {Q : Exit → Act → World → Prop}
theorem wp_region_st {id : Nat} {a0 : Act} {w0 : World} (St : Array Bool → Act → World → Prop) (vals : List (Option Value)) (dl : List (Option Nat)) (n : Nat) (hn : ops.size = n + 1) (hm : P.follows .mixedOrders = true) (hb : backB ops = true) (hu : usedB ops n = true)
    (hdl : ops.toList.map (·.dst) = dl) (hnd : dl.Pairwise (fun x y => x = none ∨ x ≠ y)) (hlt : ∀ d, some d ∈ dl → d < a0.tmps.size) (hlast : dl[n]? = some none)
    (h00 : St (Array.replicate ops.size false) a0 w0.drew)
    (hstep : ∀ (i : Nat), i < n → ∀ (listed : Array Bool) (a : Act) (w : World), listed.size = n + 1 → (∀ i, i < n + 1 → listed.getD i false = true → ∀ j ∈ deps ops i, listed.getD j false = true) → listed.getD i true = false → (∀ j ∈ deps ops i, listed.getD j false = true) → St listed a w → a.tmps.size = a0.tmps.size → (∀ k, some k ∉ dl → a.tmps.getD k undef = a0.tmps.getD k undef) → (∀ j ∈ deps ops i, ∀ d v, dl[j]? = some (some d) → vals[j]? = some (some v) → a.tmps.getD d undef = v) →
      wpOp P ops Q i (fun a' w' => ∃ d v, dl[i]? = some (some d) ∧ (∀ u, vals[i]? = some (some u) → v = u) ∧ a' = a.put (some d) v ∧ St (listed.setIfInBounds i true) a' w') a w)
    (hstore : ∀ (listed : Array Bool) (a : Act) (w : World), (∀ j, j < n → listed.getD j false = true) → St listed a w → a.defers = a0.defers → a.tmps.size = a0.tmps.size → (∀ k, some k ∉ dl → a.tmps.getD k undef = a0.tmps.getD k undef) → (∀ j, j < n → ∀ d v, dl[j]? = some (some d) → vals[j]? = some (some v) → a.tmps.getD d undef = v) → wpOp P ops Q n (fun a' w' => Q .normal a' w') a w) :
    (Code.region id ops true).wp P Q a0 w0 := by
  have hlen : dl.length = n + 1 := by rw [← hdl]; simpa using hn
  refine wp_region_inv (fun listed a w => (listed.getD n false = true → Q .normal a w) ∧ (∀ i, i < n + 1 → listed.getD i false = true → ∀ j ∈ deps ops i, listed.getD j false = true) ∧ (listed.getD n false = false → St listed a w ∧ a.defers = a0.defers ∧ a.tmps.size = a0.tmps.size ∧ (∀ k, some k ∉ dl → a.tmps.getD k undef = a0.tmps.getD k undef) ∧ ∀ j, j < n → listed.getD j false = true → ∀ d v, dl[j]? = some (some d) → vals[j]? = some (some v) → a.tmps.getD d undef = v)) hm hb
    ?_ ?_ (fun listed a w hall h => h.1 (hall n (by omega)))
  · have h0 : ∀ j, (Array.replicate ops.size false).getD j false = false := fun j => by
      rw [Array.getD_eq_getD_getElem?, Array.getElem?_replicate]
      split <;> rfl
    refine ⟨fun h => ?_, fun i _ h => ?_, fun _ => ⟨h00, rfl, rfl, fun _ _ => rfl, fun j _ h => ?_⟩⟩
    · rw [h0] at h; cases h
    · rw [h0] at h; cases h
    · rw [h0] at h; cases h
  · rintro listed a w i hs hi hil hdep ⟨h1, h2, h3⟩
    -- all of the first n are listed as soon as the last one is, or may be
    have allOf : (∀ j ∈ deps ops n, listed.getD j false = true) → ∀ m, m ≤ n → ∀ k, n - m ≤ k → k < n → listed.getD k false = true := by
      intro hd m
      induction m with
      | zero => intro _ k h4 h5; omega
      | succ m ih =>
        intro hm k h4 h5
        by_cases hk : n - m ≤ k
        · exact ih (by omega) k hk h5
        · have hu' := (List.all_eq_true.1 hu) k (by simp; exact h5)
          obtain ⟨q, hq, hc⟩ := List.any_eq_true.1 hu'
          have hq1 : q < n + 1 := by simpa using hq
          have hmem : k ∈ deps ops q := by simpa using hc
          have hkq : k < q := by
            have hb' := (List.all_eq_true.1 hb) q (by simp; omega)
            have := (List.all_eq_true.1 hb') k hmem
            simpa using this
          by_cases hqn : q = n
          · subst hqn; exact hd k hmem
          · exact h2 q hq1 (ih (by omega) q (by omega) (by omega)) k hmem
    cases hln : listed.getD n false with
    | true =>
      exfalso
      have ha := allOf (h2 n (by omega) hln) n (Nat.le_refl _)
      by_cases hin : i = n
      · subst hin
        rw [Array.getD_eq_getD_getElem?, Array.getElem?_eq_getElem (by omega)] at hi hln
        simp at hi hln
        rw [hi] at hln; cases hln
      · have h4 := ha i (by omega) (by omega)
        rw [Array.getD_eq_getD_getElem?, Array.getElem?_eq_getElem (by omega)] at hi h4
        simp at hi h4
        rw [hi] at h4; cases h4
    | false =>
      obtain ⟨s1, s2, s3, s4, s5⟩ := h3 hln
      by_cases hin : i = n
      · subst hin
        have ha := allOf hdep i (Nat.le_refl _)
        have hall : ∀ j, j < i → ∀ d v, dl[j]? = some (some d) → vals[j]? = some (some v) → a.tmps.getD d undef = v := fun j hj => s5 j hj (ha j (by omega) hj)
        have hg := hstore listed a w (fun j hj => ha j (by omega) hj) s1 s2 s3 s4 hall
        refine wpOp_mono (fun a' w' hq => ⟨fun _ => hq, fun q hq1 hl j hj => ?_, fun h => ?_⟩) hg
        · by_cases hqi : q = i
          · subst hqi
            exact getD_set_of (hdep j hj)
          · rw [getD_set_ne false (Ne.symm hqi)] at hl
            exact getD_set_of (h2 q hq1 hl j hj)
        · exfalso
          rw [Array.getD_eq_getD_getElem?, Array.getElem?_setIfInBounds] at h
          simp [hs, hn] at h
      · refine wpOp_mono ?_ (hstep i (by omega) listed a w (by omega) h2 hi hdep s1 s3 s4 (fun j hj d v e1 e2 => by
          have hjl := hdep j hj
          have hjn : j < n := by
            rcases Nat.lt_or_ge j n with h | h
            · exact h
            · have hjlt := (List.getElem?_eq_some_iff.1 e1).1
              obtain rfl : j = n := by omega
              rw [e1] at hlast; cases hlast
          exact s5 j hjn hjl d v e1 e2))
        rintro a' w' ⟨d, v, ho, hv, rfl, hr⟩
        refine ⟨fun h => ?_, fun q hq1 hl j hj => ?_, fun _ => ⟨hr, s2, ?_, fun k hk => ?_, fun j hj hl d' v' e1 e2 => ?_⟩⟩
        · rw [getD_set_ne false hin, hln] at h; cases h
        · by_cases hqi : q = i
          · subst hqi
            exact getD_set_of (hdep j hj)
          · rw [getD_set_ne false (Ne.symm hqi)] at hl
            exact getD_set_of (h2 q hq1 hl j hj)
        · simpa [Act.put] using s3
        · rw [put_getD_ne]
          · exact s4 k hk
          · intro e; injection e with e; subst e; exact hk (List.mem_of_getElem? ho)
        · by_cases hji : j = i
          · subst hji
            rw [ho] at e1
            injection e1 with e1
            injection e1 with e1
            subst e1
            have e3 := hv v' e2
            subst e3
            exact put_getD_self _ _ _ (by rw [s3]; exact hlt d (List.mem_of_getElem? ho))
          · rw [getD_set_ne false (Ne.symm hji)] at hl
            rw [put_getD_ne]
            · exact s5 j hj hl d' v' e1 e2
            · intro e
              injection e with e
              subst e
              obtain ⟨hi1, f1⟩ := List.getElem?_eq_some_iff.1 ho
              obtain ⟨hj1, f2⟩ := List.getElem?_eq_some_iff.1 e1
              rw [List.pairwise_iff_getElem] at hnd
              rcases Nat.lt_or_gt_of_ne hji with h | h
              · rcases hnd j i hj1 hi1 h with x | x
                · rw [f2] at x; cases x
                · exact x (f2.trans f1.symm)
              · rcases hnd i j hi1 hj1 h with x | x
                · rw [f1] at x; cases x
                · exact x (f1.trans f2.symm)

/-- An operation whose outcome is not known ahead. -/
theorem op_runs_some {i : Nat} {d : Option Nat} {op : Op} {a : Act} {w : World} {K : Act → World → Prop} (h : opIs ops i d op none) (hr : ∀ o : Oper, o.op = op → ∃ v w', (execOp a.eval o).run P w = .ok (.value v) w' ∧ K (a.put d v) w') : wpOp P ops Q i K a w := by
  unfold opIs at h
  obtain ⟨o, ho, he⟩ := Option.map_eq_some_iff.1 h
  simp only [Prod.mk.injEq] at he
  obtain ⟨rfl, rfl, hg⟩ := he
  refine wpOp_step ho fun K' hK' => ?_
  have hwt : Region.wanted o (yielded ops a.tmps) = true := by
    unfold Region.wanted
    rw [hg]
  rw [if_pos hwt]
  obtain ⟨v, w', h1, h2⟩ := hr o rfl
  unfold Oper.wp
  rw [h1]
  exact hK' _ _ h2
theorem listed_set {l : Array Bool} {i : Nat} (h : i < l.size) : (l.setIfInBounds i true).getD i false = true := by
  rw [Array.getD_eq_getD_getElem?, Array.getElem?_setIfInBounds_self_of_lt h]; rfl
theorem listed_not {l : Array Bool} {i : Nat} (h : i < l.size) (hn : l.getD i true = false) : l.getD i false = false := by
  rw [Array.getD_eq_getD_getElem?, Array.getElem?_eq_getElem h] at hn ⊢
  simpa using hn
end
end Go.Proofs.YtnalillebemglaaGreat
namespace Go.Proofs.YtnalillebemglaaGreat
open Go.RowKit
set_option linter.unusedVariables false
section
variable {P : Program} {ops : Array Oper} {Q : Exit → Act → World → Prop}

theorem act_all {a a0 : Act} {dl : List (Option Nat)} {n : Nat} (hlen : dl.length = n + 1) (hnd : dl.Pairwise (fun x y => x = none ∨ x ≠ y)) (hlt : ∀ d, some d ∈ dl → d < a0.tmps.size) (hlast : dl[n]? = some none) (vals : List Value) (hvl : vals.length = n)
    (s2 : a.defers = a0.defers) (s3 : a.tmps.size = a0.tmps.size) (s4 : ∀ k, some k ∉ dl → a.tmps.getD k undef = a0.tmps.getD k undef) (hall : ∀ j, j < n → ∀ d v, dl[j]? = some (some d) → vals[j]? = some v → a.tmps.getD d undef = v) : a = putAll a0 dl vals := by
  obtain ⟨z1, z2⟩ := putAll_size dl vals a0
  refine act_ext (s3.trans z1.symm) (s2.trans z2.symm) (fun k => ?_)
  by_cases hk : some k ∈ dl
  · obtain ⟨j, hj, hjk⟩ := List.getElem_of_mem hk
    have hjn : j < n := by
      rcases Nat.lt_or_ge j n with h | h
      · exact h
      · obtain rfl : j = n := by omega
        rw [List.getElem?_eq_getElem hj, hjk] at hlast
        cases hlast
    have e1 : dl[j]? = some (some k) := by rw [List.getElem?_eq_getElem hj, hjk]
    have e2 : vals[j]? = some vals[j] := List.getElem?_eq_getElem (by omega)
    rw [hall j hjn k _ e1 e2, putAll_at dl vals a0 j k _ hnd e1 e2 (hlt k hk)]
  · rw [s4 k hk, putAll_ne k dl vals a0 hk]

theorem wp_region_pred {id : Nat} {a0 : Act} {w0 : World} (Sp : Nat → World → Value → Prop) (mono : ∀ i w w' v, Step noF w w' → Sp i w v → Sp i w' v) (dl : List (Option Nat)) (n : Nat) (hn : ops.size = n + 1) (hm : P.follows .mixedOrders = true) (hb : backB ops = true) (hu : usedB ops n = true)
    (hdl : ops.toList.map (·.dst) = dl) (hnd : dl.Pairwise (fun x y => x = none ∨ x ≠ y)) (hlt : ∀ d, some d ∈ dl → d < a0.tmps.size) (hlast : dl[n]? = some none)
    (hstep : ∀ (i : Nat), i < n → ∀ (a : Act) (w : World), Step noF w0 w → (∀ k, some k ∉ dl → a.tmps.getD k undef = a0.tmps.getD k undef) → (∀ j ∈ deps ops i, ∀ d, dl[j]? = some (some d) → Sp j w (a.tmps.getD d undef)) →
      wpOp P ops Q i (fun a' w' => ∃ d v, dl[i]? = some (some d) ∧ a' = a.put (some d) v ∧ Step noF w w' ∧ Sp i w' v) a w)
    (hdst : ∀ j, j < n → ∃ d, dl[j]? = some (some d))
    (hstore : ∀ (w : World) (vals : List Value), Step noF w0 w → vals.length = n → (∀ j, j < n → Sp j w (vals.getD j undef)) → wpOp P ops Q n (fun a' w' => Q .normal a' w') (putAll a0 dl vals) w) :
    (Code.region id ops true).wp P Q a0 w0 := by
  have hlen : dl.length = n + 1 := by rw [← hdl]; simpa using hn
  refine wp_region_st (fun listed a w => a.tmps.size = a0.tmps.size ∧ Step noF w0 w ∧ ∀ j d, listed.getD j false = true → dl[j]? = some (some d) → Sp j w (a.tmps.getD d undef)) [] dl n hn hm hb hu hdl hnd hlt hlast ?_ ?_ ?_
  · refine ⟨rfl, (Step.refl noF w0).drew, fun j d h => ?_⟩
    rw [Array.getD_eq_getD_getElem?, Array.getElem?_replicate] at h
    split at h <;> cases h
  · intro i hi listed a w hls hcl hnl hdl' hst hs2 hfr hat
    obtain ⟨hsz, hs, hsp⟩ := hst
    refine wpOp_mono ?_ (hstep i hi a w hs hfr (fun j hj d hd => hsp j d (hdl' j hj) hd))
    rintro a' w' ⟨d, v, ho, rfl, hs', hv⟩
    refine ⟨d, v, ho, fun u hu => by simp at hu, rfl, by simpa [Act.put] using hsz, hs.trans hs', fun j d' hl hd' => ?_⟩
    by_cases hji : j = i
    · subst hji
      rw [ho] at hd'
      injection hd' with hd'
      injection hd' with hd'
      subst hd'
      rw [put_getD_self _ _ _ (by rw [hsz]; exact hlt _ (List.mem_of_getElem? ho))]
      exact hv
    · rw [getD_set_ne false (Ne.symm hji)] at hl
      rw [put_getD_ne]
      · exact mono _ _ _ _ hs' (hsp j d' hl hd')
      · intro e
        injection e with e
        subst e
        obtain ⟨hi1, f1⟩ := List.getElem?_eq_some_iff.1 ho
        obtain ⟨hj1, f2⟩ := List.getElem?_eq_some_iff.1 hd'
        rw [List.pairwise_iff_getElem] at hnd
        rcases Nat.lt_or_gt_of_ne hji with h | h
        · rcases hnd j i hj1 hi1 h with x | x
          · rw [f2] at x; cases x
          · exact x (f2.trans f1.symm)
        · rcases hnd i j hi1 hj1 h with x | x
          · rw [f1] at x; cases x
          · exact x (f1.trans f2.symm)
  · intro listed a w hall hst hdf hs2 hfr _
    obtain ⟨hsz, hs, hsp⟩ := hst
    have e : a = putAll a0 dl ((List.range n).map fun j => a.tmps.getD ((dl.getD j none).getD 0) undef) := by
      refine act_all hlen hnd hlt hlast _ (by simp) hdf hs2 hfr (fun j hj d v e1 e2 => ?_)
      rw [List.getElem?_map, List.getElem?_range hj] at e2
      simp only [Option.map_some, Option.some.injEq] at e2
      rw [← e2]
      simp [List.getD, e1]
    generalize hv : ((List.range n).map fun j => a.tmps.getD ((dl.getD j none).getD 0) undef) = vals at e
    have hg := hstore w vals hs (by rw [← hv]; simp) (fun j hj => ?_)
    · rw [e]; exact hg
    · obtain ⟨d, hd⟩ := hdst j hj
      have := hsp j d (hall j hj) hd
      rw [← hv]
      simpa [List.getD, List.getElem?_range hj, hd] using this
/-- A slot of them. -/
theorem pred_runs {Sp : Nat → World → Value → Prop} {dl : List (Option Nat)} {i d : Nat} {op : Op} {a : Act} {w w' : World} {v : Value} (h : opIs ops i (some d) op none) (hd : dl[i]? = some (some d)) (hr : Runs P a op w v w') (hs : Step noF w w') (hv : Sp i w' v) :
    wpOp P ops Q i (fun a' w' => ∃ d v, dl[i]? = some (some d) ∧ a' = a.put (some d) v ∧ Step noF w w' ∧ Sp i w' v) a w :=
  op_runs h (wants_none a) hr ⟨d, v, hd, rfl, hs, hv⟩
theorem pred_calls {Sp : Nat → World → Value → Prop} {dl : List (Option Nat)} {i d : Nat} {f : FuncId} {xs : Array Operand} {ats : Array TypeId} {a : Act} {w : World} {args : Array Value} {fn : Func} {v : Value} (h : opIs ops i (some d) (.call { callee := .value (.func f), args := xs, argTypes := ats }) none) (hd : dl[i]? = some (some d))
    (hf : P.funcs[f]? = some fn) (hn : (fn.name == "runtime.NumGoroutine") = false) (hb : fn.body.isNone = false) (ha : xs.map a.eval = args)
    (hc : Calls P f args w fun e w' => e = .returned v ∧ Step noF w w' ∧ Sp i w' v) :
    wpOp P ops Q i (fun a' w' => ∃ d v, dl[i]? = some (some d) ∧ a' = a.put (some d) v ∧ Step noF w w' ∧ Sp i w' v) a w :=
  op_calls h (wants_none a) hf hn hb ha (Calls.mono hc fun e w' ⟨he, hs, hv⟩ => ⟨v, he, d, v, hd, rfl, hs, hv⟩)
end
end Go.Proofs.YtnalillebemglaaGreat
namespace Go.Proofs.YtnalillebemglaaGreat
open Go.RowKit
set_option linter.unusedVariables false
section
variable {P : Program} {ops : Array Oper} {Q : Exit → Act → World → Prop}

theorem wp_region_slots2 {id : Nat} {a0 : Act} {w0 : World} (F : Nat → Prop) (sp : List (SP F)) (dl : List (Option Nat)) (hm : P.follows .mixedOrders = true) (hb : backB ops = true)
    (hdl : ops.toList.map (·.dst) = dl) (hnd : dl.Pairwise (fun x y => x = none ∨ x ≠ y)) (hlt : ∀ d, some d ∈ dl → d < a0.tmps.size)
    (hstep : ∀ (i : Nat), i < ops.size → ∀ (a : Act) (w : World), Step F w0 w → (∀ k, some k ∉ dl → a.tmps.getD k undef = a0.tmps.getD k undef) → (∀ j ∈ deps ops i, At sp dl a w j) →
      wpOp P ops Q i (fun a' w' => ∃ o v, dl[i]? = some o ∧ a' = a.put o v ∧ Step F w w' ∧ ∀ p, sp[i]? = some p → p.1 w' (o.elim undef fun _ => v)) a w)
    (hend : ∀ (a : Act) (w : World), Step F w0 w → a.defers = a0.defers → a.tmps.size = a0.tmps.size → (∀ k, some k ∉ dl → a.tmps.getD k undef = a0.tmps.getD k undef) → (∀ j, j < ops.size → At sp dl a w j) → Q .normal a w) :
    (Code.region id ops true).wp P Q a0 w0 := by
  have hlen : dl.length = ops.size := by rw [← hdl]; simp
  refine wp_region_inv (fun listed a w => Step F w0 w ∧ a.defers = a0.defers ∧ a.tmps.size = a0.tmps.size ∧ (∀ k, some k ∉ dl → a.tmps.getD k undef = a0.tmps.getD k undef) ∧ ∀ j, listed.getD j false = true → At sp dl a w j) hm hb
    ⟨(Step.refl F w0).drew, rfl, rfl, fun _ _ => rfl, fun j hj => ?_⟩ ?_ (fun listed a w hall ⟨h1, h2, h3, h4, h5⟩ => hend a w h1 h2 h3 h4 (fun j hj => h5 j (hall j hj)))
  · exfalso
    rw [Array.getD_eq_getD_getElem?, Array.getElem?_replicate] at hj
    split at hj <;> simp at hj
  · rintro listed a w i hs hi hil hdep ⟨h1, h2, h3, h4, h5⟩
    refine wpOp_mono ?_ (hstep i hil a w h1 h4 (fun j hj => h5 j (hdep j hj)))
    rintro a' w' ⟨o, v, ho, rfl, hr, hp⟩
    refine ⟨h1.trans hr, ?_, ?_, fun k hk => ?_, fun j hj => ?_⟩
    · cases o <;> exact h2
    · cases o with
      | none => exact h3
      | some d => simpa [Act.put] using h3
    · rw [put_getD_ne]
      · exact h4 k hk
      · intro e
        subst e
        exact hk (List.mem_of_getElem? ho)
    · intro p oj hp' hoj
      by_cases hji : j = i
      · subst hji
        obtain rfl : o = oj := Option.some.inj (ho.symm.trans hoj)
        have hv := hp p hp'
        cases o with
        | none => exact hv
        | some d =>
          show p.1 w' ((a.put (some d) v).tmps.getD d undef)
          rw [put_getD_self _ _ _ (by rw [h3]; exact hlt d (List.mem_of_getElem? ho))]
          exact hv
      · have hj2 : listed.getD j false = true := by
          rw [getD_set_ne false (Ne.symm hji)] at hj
          exact hj
        have hold := h5 j hj2 p oj hp' hoj
        have hm2 := p.2 w w' _ hr hold
        cases oj with
        | none => exact hm2
        | some d =>
          show p.1 w' ((a.put o v).tmps.getD d undef)
          rw [put_getD_ne]
          · exact hm2
          · intro e
            subst e
            obtain ⟨hi1, e1⟩ := List.getElem?_eq_some_iff.1 ho
            obtain ⟨hj1, e2⟩ := List.getElem?_eq_some_iff.1 hoj
            rw [List.pairwise_iff_getElem] at hnd
            rcases Nat.lt_or_gt_of_ne hji with h | h
            · rcases hnd j i hj1 hi1 h with x | x
              · rw [e2] at x; cases x
              · exact x (e2.trans e1.symm)
            · rcases hnd i j hi1 hj1 h with x | x
              · rw [e1] at x; cases x
              · exact x (e1.trans e2.symm)

/-- A region that draws, all of whose slots' values are known ahead. -/
theorem wp_region_full {id : Nat} {a0 : Act} {w0 : World} (F : Nat → Prop) (vals : List Value) (dl : List (Option Nat)) (hm : P.follows .mixedOrders = true) (hb : backB ops = true)
    (hdl : ops.toList.map (·.dst) = dl) (hnd : dl.Pairwise (fun x y => x = none ∨ x ≠ y)) (hlt : ∀ d, some d ∈ dl → d < a0.tmps.size) (hvl : vals.length = dl.length)
    (hstep : ∀ (i : Nat), i < ops.size → ∀ (a : Act) (w : World), Step F w0 w → (∀ k, some k ∉ dl → a.tmps.getD k undef = a0.tmps.getD k undef) → (∀ j ∈ deps ops i, ∀ d v, dl[j]? = some (some d) → vals[j]? = some v → a.tmps.getD d undef = v) →
      wpOp P ops Q i (fun a' w' => ∃ d v, dl[i]? = some (some d) ∧ vals[i]? = some v ∧ a' = a.put (some d) v ∧ Step F w w') a w)
    (hend : ∀ (w : World), Step F w0 w → Q .normal (putAll a0 dl vals) w) : (Code.region id ops true).wp P Q a0 w0 := by
  have hlen : dl.length = ops.size := by rw [← hdl]; simp
  refine wp_region_slots2 F (vals.map is) dl hm hb hdl hnd hlt ?_ ?_
  · intro i hi a w hs hfr hat
    refine wpOp_mono ?_ (hstep i hi a w hs hfr (fun j hj d v h1 h2 => hat j hj (is v) (some d) (by rw [List.getElem?_map, h2]; rfl) h1))
    rintro a' w' ⟨d, v, h1, h2, rfl, h3⟩
    refine ⟨some d, v, h1, rfl, h3, fun p hp => ?_⟩
    rw [List.getElem?_map, h2] at hp
    injection hp with hp
    subst hp
    rfl
  · intro a w hs hd hsz hfr hat
    have hae : a = putAll a0 dl vals := by
      obtain ⟨z1, z2⟩ := putAll_size dl vals a0
      refine act_ext (hsz.trans z1.symm) (hd.trans z2.symm) (fun k => ?_)
      by_cases hk : some k ∈ dl
      · obtain ⟨j, hj, hjk⟩ := List.getElem_of_mem hk
        have e1 : dl[j]? = some (some k) := by rw [List.getElem?_eq_getElem hj, hjk]
        have e2 : vals[j]? = some vals[j] := List.getElem?_eq_getElem (by omega)
        have := hat j (by omega) (is vals[j]) (some k) (by rw [List.getElem?_map, e2]; rfl) e1
        rw [show a.tmps.getD k undef = vals[j] from this, putAll_at dl vals a0 j k _ hnd e1 e2 (hlt k hk)]
      · rw [hfr k hk, putAll_ne k dl vals a0 hk]
    rw [hae]
    exact hend w hs
theorem val_runs_g {F : Nat → Prop} {vals : List Value} {dl : List (Option Nat)} {i d : Nat} {op : Op} {g : Option (Nat × Bool)} {a : Act} {w : World} {v : Value} (h : opIs ops i (some d) op g) (hd : dl[i]? = some (some d)) (hv : vals[i]? = some v) (hg : Wants ops a g) (hr : Runs P a op w v w) :
    wpOp P ops Q i (fun a' w' => ∃ d v, dl[i]? = some (some d) ∧ vals[i]? = some v ∧ a' = a.put (some d) v ∧ Step F w w') a w :=
  op_runs h hg hr ⟨d, v, hd, hv, rfl, Step.refl _ _⟩
theorem val_calls_g {F : Nat → Prop} {vals : List Value} {dl : List (Option Nat)} {i d : Nat} {f : FuncId} {xs : Array Operand} {ats : Array TypeId} {g : Option (Nat × Bool)} {a : Act} {w : World} {args : Array Value} {fn : Func} {v : Value} (h : opIs ops i (some d) (.call { callee := .value (.func f), args := xs, argTypes := ats }) g) (hd : dl[i]? = some (some d)) (hv : vals[i]? = some v) (hg : Wants ops a g)
    (hf : P.funcs[f]? = some fn) (hn : (fn.name == "runtime.NumGoroutine") = false) (hb : fn.body.isNone = false) (ha : xs.map a.eval = args)
    (hc : Calls P f args w fun e w' => e = .returned v ∧ Step F w w') :
    wpOp P ops Q i (fun a' w' => ∃ d v, dl[i]? = some (some d) ∧ vals[i]? = some v ∧ a' = a.put (some d) v ∧ Step F w w') a w :=
  op_calls h hg hf hn hb ha (Calls.mono hc fun e w' ⟨he, hs⟩ => ⟨v, he, d, v, hd, hv, rfl, hs⟩)
end
end Go.Proofs.YtnalillebemglaaGreat
namespace Go.Proofs.YtnalillebemglaaGreat
open Go.RowKit
set_option linter.unusedVariables false
section
variable {P : Program} {ops : Array Oper} {Q : Exit → Act → World → Prop}

theorem op_skip {i j dj : Nat} {d : Option Nat} {op : Op} {b c : Bool} {a : Act} {w : World} {K : Act → World → Prop} (h : opIs ops i d op (some (j, b))) (hd : (ops[j]?).bind (·.dst) = some dj) (hv : a.tmps.getD dj undef = .bool c) (hc : c ≠ b) (hK : K (a.put d undef) w) : wpOp P ops Q i K a w := by
  unfold opIs at h
  obtain ⟨o, ho, he⟩ := Option.map_eq_some_iff.1 h
  simp only [Prod.mk.injEq] at he
  obtain ⟨rfl, rfl, hg⟩ := he
  refine wpOp_step ho fun K' hK' => ?_
  have hy : yielded ops a.tmps j = some c := wants_some hd hv j c rfl
  have hwt : ¬ Region.wanted o (yielded ops a.tmps) = true := by
    unfold Region.wanted
    rw [hg]
    simp [hy, hc]
  rw [if_neg hwt]
  exact hK' _ _ hK
theorem slot_skip {F : Nat → Prop} {sp : List (SP F)} {dl : List (Option Nat)} {i d j dj : Nat} {op : Op} {b c : Bool} {a : Act} {w : World} (p : SP F) (h : opIs ops i (some d) op (some (j, b))) (hdl : dl[i]? = some (some d)) (hsp : sp[i]? = some p) (hd : (ops[j]?).bind (·.dst) = some dj) (hv : a.tmps.getD dj undef = .bool c) (hc : c ≠ b) (hp : p.1 w undef) :
    wpOp P ops Q i (fun a' w' => ∃ o v, dl[i]? = some o ∧ a' = a.put o v ∧ Step F w w' ∧ ∀ p, sp[i]? = some p → p.1 w' (o.elim undef fun _ => v)) a w :=
  op_skip h hd hv hc ⟨some d, undef, hdl, rfl, Step.refl _ _, fun p' hp' => by rw [hsp] at hp'; injection hp' with e; subst e; exact hp⟩
end
/-- A slice of pairs. -/
def isExt (xs : List (Int × Int)) : SP noF := ⟨fun w v => ∃ a c, v = .slice a xs.length c ∧ ExtAt w a xs, fun _ _ _ hs ⟨a, c, h1, h2⟩ => ⟨a, c, h1, h2.step hs⟩⟩
end Go.Proofs.YtnalillebemglaaGreat
namespace Go.Proofs.YtnalillebemglaaGreat
open Go.RowKit
set_option linter.unusedVariables false
section
variable {P : Program} {ops : Array Oper} {Q : Exit → Act → World → Prop}

theorem wp_region_pred2 {id : Nat} {a0 : Act} {w0 : World} (Sp : Nat → World → Value → Prop) (mono : ∀ i w w' v, Step noF w w' → Sp i w v → Sp i w' v) (Df : Nat → Nat → Value → Value → Prop) (sym : ∀ i j u v, Df i j u v → Df j i v u) (dl : List (Option Nat)) (n : Nat) (hn : ops.size = n + 2) (hm : P.follows .mixedOrders = true) (hb : backB ops = true) (hu : usedB ops n = true) (hl1 : n ∈ deps ops (n + 1))
    (hdl : ops.toList.map (·.dst) = dl) (hnd : dl.Pairwise (fun x y => x = none ∨ x ≠ y)) (hlt : ∀ d, some d ∈ dl → d < a0.tmps.size) (hlast : dl[n]? = some none) (hlast2 : dl[n + 1]? = some none)
    (hstep : ∀ (i : Nat), i < n → ∀ (a : Act) (w : World), Step noF w0 w → (∀ k, some k ∉ dl → a.tmps.getD k undef = a0.tmps.getD k undef) → (∀ j ∈ deps ops i, ∀ d, dl[j]? = some (some d) → Sp j w (a.tmps.getD d undef)) →
      wpOp P ops Q i (fun a' w' => ∃ d v, dl[i]? = some (some d) ∧ a' = a.put (some d) v ∧ Step noF w w' ∧ Sp i w' v ∧ ∀ j, j ≠ i → ∀ u, Sp j w u → Df j i u v) a w)
    (hdst : ∀ j, j < n → ∃ d, dl[j]? = some (some d))
    (hstore : ∀ (a : Act) (w : World), Step noF w0 w → a.defers = a0.defers → a.tmps.size = a0.tmps.size → (∀ k, some k ∉ dl → a.tmps.getD k undef = a0.tmps.getD k undef) → (∀ j, j < n → ∀ d, dl[j]? = some (some d) → Sp j w (a.tmps.getD d undef)) → (∀ j k, j < n → k < n → j ≠ k → ∀ d e, dl[j]? = some (some d) → dl[k]? = some (some e) → Df j k (a.tmps.getD d undef) (a.tmps.getD e undef)) →
      wpOp P ops Q n (fun a' w' => wpOp P ops Q (n + 1) (fun a'' w'' => Q .normal a'' w'') a' w') a w) :
    (Code.region id ops true).wp P Q a0 w0 := by
  have hlen : dl.length = n + 2 := by rw [← hdl]; simpa using hn
  have hclo : ∀ (listed : Array Bool) (i : Nat), (∀ j ∈ deps ops i, listed.getD j false = true) → (∀ q, q < n + 2 → listed.getD q false = true → ∀ j ∈ deps ops q, listed.getD j false = true) → (∀ q, q < n + 2 → (listed.setIfInBounds i true).getD q false = true → ∀ j ∈ deps ops q, (listed.setIfInBounds i true).getD j false = true) := by
    intro listed i hdep h2 q hq1 hl j hj
    by_cases hqi : q = i
    · subst hqi
      exact getD_set_of (hdep j hj)
    · rw [getD_set_ne false (Ne.symm hqi)] at hl
      exact getD_set_of (h2 q hq1 hl j hj)
  refine wp_region_inv (fun listed a w => (listed.getD (n + 1) false = true → Q .normal a w) ∧ (∀ i, i < n + 2 → listed.getD i false = true → ∀ j ∈ deps ops i, listed.getD j false = true) ∧ (listed.getD (n + 1) false = false → listed.getD n false = true → wpOp P ops Q (n + 1) (fun a'' w'' => Q .normal a'' w'') a w) ∧ (listed.getD n false = false → a.defers = a0.defers ∧ a.tmps.size = a0.tmps.size ∧ (∀ k, some k ∉ dl → a.tmps.getD k undef = a0.tmps.getD k undef) ∧ Step noF w0 w ∧ ∀ j d, j < n → listed.getD j false = true → dl[j]? = some (some d) → Sp j w (a.tmps.getD d undef)) ∧ (listed.getD n false = false → ∀ j k d e, j < n → k < n → j ≠ k → listed.getD j false = true → listed.getD k false = true → dl[j]? = some (some d) → dl[k]? = some (some e) → Df j k (a.tmps.getD d undef) (a.tmps.getD e undef))) hm hb
    ?_ ?_ (fun listed a w hall h => h.1 (hall (n + 1) (by omega)))
  · have h0 : ∀ j, (Array.replicate ops.size false).getD j false = false := fun j => by
      rw [Array.getD_eq_getD_getElem?, Array.getElem?_replicate]
      split <;> rfl
    refine ⟨fun h => ?_, fun i _ h => ?_, fun _ h => ?_, fun _ => ⟨rfl, rfl, fun _ _ => rfl, (Step.refl noF w0).drew, fun j d _ h => ?_⟩, fun _ j k d e _ _ _ h => ?_⟩
    · rw [h0] at h; cases h
    · rw [h0] at h; cases h
    · rw [h0] at h; cases h
    · rw [h0] at h; cases h
    · rw [h0] at h; cases h
  · rintro listed a w i hs hi hil hdep ⟨h1, h2, h3, h4, h5⟩
    have hi2 : listed.getD i false = false := by
      rw [Array.getD_eq_getD_getElem?, Array.getElem?_eq_getElem (by omega)] at hi ⊢
      simpa using hi
    -- all of the first n are listed as soon as the first store is, or may be
    have allOf : (∀ j ∈ deps ops n, listed.getD j false = true) → ∀ m, m ≤ n → ∀ k, n - m ≤ k → k < n → listed.getD k false = true := by
      intro hd m
      induction m with
      | zero => intro _ k h4 h5; omega
      | succ m ih =>
        intro hm k h4 h5
        by_cases hk : n - m ≤ k
        · exact ih (by omega) k hk h5
        · have hu' := (List.all_eq_true.1 hu) k (by simp; exact h5)
          obtain ⟨q, hq, hc⟩ := List.any_eq_true.1 hu'
          have hq1 : q < n + 1 := by simpa using hq
          have hmem : k ∈ deps ops q := by simpa using hc
          have hkq : k < q := by
            have hb' := (List.all_eq_true.1 hb) q (by simp; omega)
            have := (List.all_eq_true.1 hb') k hmem
            simpa using this
          by_cases hqn : q = n
          · subst hqn; exact hd k hmem
          · exact h2 q (by omega) (ih (by omega) q (by omega) (by omega)) k hmem
    by_cases hin1 : i = n + 1
    · subst hin1
      have hln := hdep n hl1
      refine wpOp_mono (fun a' w' hq => ⟨fun _ => hq, hclo listed _ hdep h2, fun h => ?_, fun h => ?_, fun h => ?_⟩) (h3 hi2 hln)
      · exfalso
        rw [Array.getD_eq_getD_getElem?, Array.getElem?_setIfInBounds] at h
        simp [hs, hn] at h
      · exfalso
        rw [getD_set_of hln] at h
        cases h
      · exfalso
        rw [getD_set_of hln] at h
        cases h
    · have hln1 : listed.getD (n + 1) false = false := by
        cases h : listed.getD (n + 1) false with
        | false => rfl
        | true =>
          exfalso
          have hln := h2 (n + 1) (by omega) h n hl1
          by_cases hin : i = n
          · subst hin; rw [hi2] at hln; cases hln
          · have := allOf (h2 n (by omega) hln) n (Nat.le_refl _) i (by omega) (by omega)
            rw [hi2] at this; cases this
      by_cases hin : i = n
      · subst hin
        obtain ⟨s1, s2, s3, s4, s5⟩ := h4 hi2
        have ha := allOf hdep i (Nat.le_refl _)
        have hg := hstore a w s4 s1 s2 s3 (fun j hj d hd => s5 j d hj (ha j (by omega) hj) hd) (fun j k hj hk hne d e e1 e2 => h5 hi2 j k d e hj hk hne (ha j (by omega) hj) (ha k (by omega) hk) e1 e2)
        refine wpOp_mono (fun a' w' hq => ⟨fun h => ?_, hclo listed _ hdep h2, fun _ _ => hq, fun h => ?_, fun h => ?_⟩) hg
        · exfalso
          rw [getD_set_ne false (by omega), hln1] at h
          cases h
        · exfalso
          rw [Array.getD_eq_getD_getElem?, Array.getElem?_setIfInBounds] at h
          simp [hs, hn] at h
        · exfalso
          rw [Array.getD_eq_getD_getElem?, Array.getElem?_setIfInBounds] at h
          simp [hs, hn] at h
      · have hin2 : i < n := by omega
        have hln : listed.getD n false = false := by
          cases h : listed.getD n false with
          | false => rfl
          | true =>
            exfalso
            have := allOf (h2 n (by omega) h) n (Nat.le_refl _) i (by omega) hin2
            rw [hi2] at this; cases this
        obtain ⟨s1, s2, s3, s4, s5⟩ := h4 hln
        refine wpOp_mono ?_ (hstep i hin2 a w s4 s3 (fun j hj d hd => by
          have hjl := hdep j hj
          have hjn : j < n := by
            rcases Nat.lt_or_ge j n with h | h
            · exact h
            · have hjlt := (List.getElem?_eq_some_iff.1 hd).1
              have : j = n ∨ j = n + 1 := by omega
              rcases this with e | e
              · subst e; rw [hd] at hlast; cases hlast
              · subst e; rw [hd] at hlast2; cases hlast2
          exact s5 j d hjn hjl hd))
        rintro a' w' ⟨d, v, ho, rfl, hs', hv, hdf⟩
        have hold : ∀ j d', j ≠ i → dl[j]? = some (some d') → (a.put (some d) v).tmps.getD d' undef = a.tmps.getD d' undef := by
          intro j d' hji hd'
          rw [put_getD_ne]
          intro e
          injection e with e
          subst e
          obtain ⟨hi1, f1⟩ := List.getElem?_eq_some_iff.1 ho
          obtain ⟨hj1, f2⟩ := List.getElem?_eq_some_iff.1 hd'
          rw [List.pairwise_iff_getElem] at hnd
          rcases Nat.lt_or_gt_of_ne hji with h | h
          · rcases hnd j i hj1 hi1 h with x | x
            · rw [f2] at x; cases x
            · exact x (f2.trans f1.symm)
          · rcases hnd i j hi1 hj1 h with x | x
            · rw [f1] at x; cases x
            · exact x (f1.trans f2.symm)
        have hnew : ∀ d', dl[i]? = some (some d') → (a.put (some d) v).tmps.getD d' undef = v := by
          intro d' hd'
          rw [ho] at hd'
          injection hd' with hd'
          injection hd' with hd'
          subst hd'
          exact put_getD_self _ _ _ (by rw [s2]; exact hlt _ (List.mem_of_getElem? ho))
        refine ⟨fun h => ?_, hclo listed _ hdep h2, fun _ h => ?_, fun _ => ⟨s1, by simpa [Act.put] using s2, fun k hk => ?_, s4.trans hs', fun j d' hj hl hd' => ?_⟩, fun _ j k d1 d2 hj hk hne l1 l2 e1 e2 => ?_⟩
        · rw [getD_set_ne false (by omega), hln1] at h; cases h
        · rw [getD_set_ne false (by omega), hln] at h; cases h
        · rw [put_getD_ne]
          · exact s3 k hk
          · intro e; injection e with e; subst e; exact hk (List.mem_of_getElem? ho)
        · by_cases hji : j = i
          · subst hji
            rw [hnew _ hd']
            exact hv
          · rw [getD_set_ne false (Ne.symm hji)] at hl
            rw [hold j d' hji hd']
            exact mono _ _ _ _ hs' (s5 j d' hj hl hd')
        · by_cases hji : j = i
          · subst hji
            rw [getD_set_ne false hne] at l2
            rw [hnew _ e1, hold k d2 (Ne.symm hne) e2]
            exact sym _ _ _ _ (hdf k (Ne.symm hne) _ (s5 k d2 hk l2 e2))
          · rw [getD_set_ne false (Ne.symm hji)] at l1
            by_cases hki : k = i
            · subst hki
              rw [hnew _ e2, hold j d1 hji e1]
              exact hdf j hji _ (s5 j d1 hj l1 e1)
            · rw [getD_set_ne false (Ne.symm hki)] at l2
              rw [hold j d1 hji e1, hold k d2 hki e2]
              exact h5 hln j k d1 d2 hj hk hne l1 l2 e1 e2
end
end Go.Proofs.YtnalillebemglaaGreat
namespace Go.Proofs.YtnalillebemglaaGreat
open Go.RowKit
set_option linter.unusedVariables false
theorem act_vals {a a0 : Act} (ds : List Nat) (hnd : (ds.map some).Pairwise (fun x y => x = none ∨ x ≠ y)) (hlt : ∀ d ∈ ds, d < a0.tmps.size) (h1 : a.defers = a0.defers) (h2 : a.tmps.size = a0.tmps.size) (h3 : ∀ k, k ∉ ds → a.tmps.getD k undef = a0.tmps.getD k undef) : a = putAll a0 (ds.map some) (ds.map fun d => a.tmps.getD d undef) := by
  obtain ⟨z1, z2⟩ := putAll_size (ds.map some) (ds.map fun d => a.tmps.getD d undef) a0
  refine act_ext (h2.trans z1.symm) (h1.trans z2.symm) (fun k => ?_)
  by_cases hk : k ∈ ds
  · obtain ⟨j, hj, hjk⟩ := List.getElem_of_mem hk
    rw [putAll_at (ds.map some) _ a0 j k (a.tmps.getD k undef) hnd (by simp [List.getElem?_eq_getElem hj, hjk]) (by simp [List.getElem?_eq_getElem hj, hjk]) (hlt k hk)]
  · rw [h3 k hk, putAll_ne k (ds.map some) _ a0 (by simpa using hk)]
end Go.Proofs.YtnalillebemglaaGreat
namespace Go.Proofs.YtnalillebemglaaGreat
open Go.RowKit
set_option linter.unusedVariables false
section
variable {P : Program} {ops : Array Oper} {Q : Exit → Act → World → Prop}
/-- .. with no store at its end. -/
theorem wp_region_preds {id : Nat} {a0 : Act} {w0 : World} (Sp : Nat → World → Value → Prop) (mono : ∀ i w w' v, Step noF w w' → Sp i w v → Sp i w' v) (dl : List (Option Nat)) (hm : P.follows .mixedOrders = true) (hb : backB ops = true)
    (hdl : ops.toList.map (·.dst) = dl) (hnd : dl.Pairwise (fun x y => x = none ∨ x ≠ y)) (hlt : ∀ d, some d ∈ dl → d < a0.tmps.size)
    (hstep : ∀ (i : Nat), i < ops.size → ∀ (a : Act) (w : World), Step noF w0 w → (∀ k, some k ∉ dl → a.tmps.getD k undef = a0.tmps.getD k undef) → (∀ j ∈ deps ops i, ∀ d, dl[j]? = some (some d) → Sp j w (a.tmps.getD d undef)) →
      wpOp P ops Q i (fun a' w' => ∃ d v, dl[i]? = some (some d) ∧ a' = a.put (some d) v ∧ Step noF w w' ∧ Sp i w' v) a w)
    (hend : ∀ (a : Act) (w : World), Step noF w0 w → a.defers = a0.defers → a.tmps.size = a0.tmps.size → (∀ k, some k ∉ dl → a.tmps.getD k undef = a0.tmps.getD k undef) → (∀ j, j < ops.size → ∀ d, dl[j]? = some (some d) → Sp j w (a.tmps.getD d undef)) → Q .normal a w) :
    (Code.region id ops true).wp P Q a0 w0 := by
  have hlen : dl.length = ops.size := by rw [← hdl]; simp
  refine wp_region_inv (fun listed a w => a.defers = a0.defers ∧ a.tmps.size = a0.tmps.size ∧ (∀ k, some k ∉ dl → a.tmps.getD k undef = a0.tmps.getD k undef) ∧ Step noF w0 w ∧ ∀ j d, listed.getD j false = true → dl[j]? = some (some d) → Sp j w (a.tmps.getD d undef)) hm hb ?_ ?_ (fun listed a w hall ⟨s1, s2, s3, s4, s5⟩ => hend a w s4 s1 s2 s3 (fun j hj d hd => s5 j d (hall j hj) hd))
  · refine ⟨rfl, rfl, fun _ _ => rfl, (Step.refl noF w0).drew, fun j d h => ?_⟩
    rw [Array.getD_eq_getD_getElem?, Array.getElem?_replicate] at h
    split at h <;> cases h
  · rintro listed a w i hs hi hil hdep ⟨s1, s2, s3, s4, s5⟩
    refine wpOp_mono ?_ (hstep i hil a w s4 s3 (fun j hj d hd => s5 j d (hdep j hj) hd))
    rintro a' w' ⟨d, v, ho, rfl, hs', hv⟩
    refine ⟨s1, by simpa [Act.put] using s2, fun k hk => ?_, s4.trans hs', fun j d' hl hd' => ?_⟩
    · rw [put_getD_ne]
      · exact s3 k hk
      · intro e; injection e with e; subst e; exact hk (List.mem_of_getElem? ho)
    · by_cases hji : j = i
      · subst hji
        rw [ho] at hd'
        injection hd' with hd'
        injection hd' with hd'
        subst hd'
        rw [put_getD_self _ _ _ (by rw [s2]; exact hlt _ (List.mem_of_getElem? ho))]
        exact hv
      · rw [getD_set_ne false (Ne.symm hji)] at hl
        rw [put_getD_ne]
        · exact mono _ _ _ _ hs' (s5 j d' hl hd')
        · intro e
          injection e with e
          subst e
          obtain ⟨hi1, f1⟩ := List.getElem?_eq_some_iff.1 ho
          obtain ⟨hj1, f2⟩ := List.getElem?_eq_some_iff.1 hd'
          rw [List.pairwise_iff_getElem] at hnd
          rcases Nat.lt_or_gt_of_ne hji with h | h
          · rcases hnd j i hj1 hi1 h with x | x
            · rw [f2] at x; cases x
            · exact x (f2.trans f1.symm)
          · rcases hnd i j hi1 hj1 h with x | x
            · rw [f1] at x; cases x
            · exact x (f1.trans f2.symm)
end
theorem lc {x : Nat} {xs : List Nat} (h : xs.contains x = true) : x ∈ xs := List.contains_iff_mem.1 h
end Go.Proofs.YtnalillebemglaaGreat
namespace Go.Proofs.YtnalillebemglaaGreat
open Go.RowKit
set_option linter.unusedVariables false

/-- A piece of code. -/
def navS : List Nat → Code → Code
  | [], c => c
  | 0 :: r, .seq a _ => navS r a
  | _ :: r, .seq _ b => navS r b
  | 0 :: r, .cond _ a _ => navS r a
  | _ :: r, .cond _ _ b => navS r b
  | _ :: r, .block _ b => navS r b
  | _ :: r, .loop b => navS r b
  | _, _ => .skip
set_option maxRecDepth 100000 in
/-- A frame of 220 slots. -/
def frS (f : Nat → Value) : Array Value := #[f 0, f 1, f 2, f 3, f 4, f 5, f 6, f 7, f 8, f 9, f 10, f 11, f 12, f 13, f 14, f 15, f 16, f 17, f 18, f 19, f 20, f 21, f 22, f 23, f 24, f 25, f 26, f 27, f 28, f 29, f 30, f 31, f 32, f 33, f 34, f 35, f 36, f 37, f 38, f 39, f 40, f 41, f 42, f 43, f 44, f 45, f 46, f 47, f 48, f 49, f 50, f 51, f 52, f 53, f 54, f 55, f 56, f 57, f 58, f 59, f 60, f 61, f 62, f 63, f 64, f 65, f 66, f 67, f 68, f 69, f 70, f 71, f 72, f 73, f 74, f 75, f 76, f 77, f 78, f 79, f 80, f 81, f 82, f 83, f 84, f 85, f 86, f 87, f 88, f 89, f 90, f 91, f 92, f 93, f 94, f 95, f 96, f 97, f 98, f 99, f 100, f 101, f 102, f 103, f 104, f 105, f 106, f 107, f 108, f 109, f 110, f 111, f 112, f 113, f 114, f 115, f 116, f 117, f 118, f 119, f 120, f 121, f 122, f 123, f 124, f 125, f 126, f 127, f 128, f 129, f 130, f 131, f 132, f 133, f 134, f 135, f 136, f 137, f 138, f 139, f 140, f 141, f 142, f 143, f 144, f 145, f 146, f 147, f 148, f 149, f 150, f 151, f 152, f 153, f 154, f 155, f 156, f 157, f 158, f 159, f 160, f 161, f 162, f 163, f 164, f 165, f 166, f 167, f 168, f 169, f 170, f 171, f 172, f 173, f 174, f 175, f 176, f 177, f 178, f 179, f 180, f 181, f 182, f 183, f 184, f 185, f 186, f 187, f 188, f 189, f 190, f 191, f 192, f 193, f 194, f 195, f 196, f 197, f 198, f 199, f 200, f 201, f 202, f 203, f 204, f 205, f 206, f 207, f 208, f 209, f 210, f 211, f 212, f 213, f 214, f 215, f 216, f 217, f 218, f 219]
set_option maxRecDepth 100000 in
theorem frS_range (f : Nat → Value) : (List.range 220).map f = (frS f).toList := by rfl
theorem frS_of (t : Array Value) (h : t.size = 220) : t = frS (fun k => t.getD k undef) := by
  apply Array.toList_inj.1
  rw [← frS_range]
  apply List.ext_getElem
  · simp [h]
  · intro i h1 h2
    simp at h1
    simp [Array.getD_eq_getD_getElem?, h1]

/-- A frame in which some slots are known. -/
def KnS (l : List (Nat × Value)) (a : Act) : Prop := a.defers = [] ∧ a.tmps.size = 220 ∧ ∀ x ∈ l, a.tmps.getD x.1 undef = x.2
theorem KnS.open {l : List (Nat × Value)} {a : Act} (h : KnS l a) : ∃ f, a = ⟨frS f, []⟩ ∧ ∀ x ∈ l, f x.1 = x.2 := by
  obtain ⟨h1, h2, h3⟩ := h
  refine ⟨fun k => a.tmps.getD k undef, ?_, fun x hx => h3 x hx⟩
  obtain ⟨t, df⟩ := a
  simp only at h1 h2
  rw [h1, ← frS_of t h2]
theorem KnS.mono {l l2 : List (Nat × Value)} {a : Act} (h : KnS l a) (hl : ∀ x ∈ l2, x ∈ l) : KnS l2 a := ⟨h.1, h.2.1, fun x hx => h.2.2 x (hl x hx)⟩
theorem KnS.put {l : List (Nat × Value)} {a : Act} (h : KnS l a) (ds : List (Option Nat)) (vs : List Value) (hd : ∀ x ∈ l, some x.1 ∉ ds) : KnS l (putAll a ds vs) := by
  obtain ⟨z1, z2⟩ := putAll_size ds vs a
  exact ⟨z2.trans h.1, z1.trans h.2.1, fun x hx => (putAll_ne x.1 ds vs a (hd x hx)).trans (h.2.2 x hx)⟩
end Go.Proofs.YtnalillebemglaaGreat
namespace Go.Proofs.YtnalillebemglaaGreat
open Go.RowKit
set_option linter.unusedVariables false

/-- A call of a Go function, as one step of a region that draws. -/
theorem step_calls {P : Program} {ops : Array Oper} {o : Oper} {a : Act} {w : World} {K : Act → World → Prop} {Q : Exit → Act → World → Prop} {E : Prop}
    (hg : o.guard = none) {f : FuncId} {xs : Array Operand} {ats : Array TypeId} (hop : o.op = Op.call { callee := Callee.value (Operand.func f), args := xs, argTypes := ats }) {fn : Func} (hf : P.funcs[f]? = some fn) (hn : (fn.name == "runtime.NumGoroutine") = false) (hb : fn.body.isNone = false) {args : Array Value} (ha : xs.map a.eval = args)
    (hc : Calls P f args w fun e w' => ∃ v, e = .returned v ∧ K (a.put o.dst v) w') : if Region.wanted o (yielded ops a.tmps) = true then Oper.wp P o a w K Q else E := by
  have hw : Region.wanted o (yielded ops a.tmps) = true := by simp [Region.wanted, hg]
  rw [if_pos hw]
  unfold Oper.wp
  have hx : (execOp a.eval o).run P w = .ok (.enter f args) w := by
    have e1 : execOp a.eval o = callFunc f (#[] ++ xs.map a.eval ++ #[]) := by
      obtain ⟨dst, op, ty, pos, after, guard⟩ := o
      simp only at hop
      subst hop
      rfl
    rw [e1, ha]
    have hn' : fn.name ≠ "runtime.NumGoroutine" := by simpa using hn
    have hb' : ¬ fn.body = none := fun h => by rw [h] at hb; cases hb
    simp [callFunc, go_sem, hf, hn', hb']
  rw [hx]
  refine Calls.mono hc ?_
  rintro e w' ⟨v, rfl, hv⟩
  exact hv
end Go.Proofs.YtnalillebemglaaGreat
