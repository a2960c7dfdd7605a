/-
  A region that draws its order of evaluation, walked operation by operation, in whatever order: each operation's outcome is said of its slot alone ('sp'), in whatever world; the worlds between are bound by one relation R. So n operations are n steps, however many orders there are. Nothing of the program is named here.
-/
import Derived.RegionTactic
import Derived.WalkKit
import Derived.Test.YtgmgoaencaldmaaFrame
namespace Go.Proofs.Ytgmgoaencaldmaa
open Go.RowKit
set_option linter.unusedVariables false

/-- The operations of a region of that number. -/
def regionOps (k : Nat) : Code → Option (Array Oper)
  | .region id ops _ => if id == k then some ops else none
  | .seq a b => (regionOps k a).or (regionOps k b)
  | .cond _ a b => (regionOps k a).or (regionOps k b)
  | .block _ c => regionOps k c
  | .loop c => regionOps k c
  | .scope c => regionOps k c
  | .rangeFunc _ _ a c => (regionOps k a).or (regionOps k c)
  | _ => none

/-- What operation i waits for. -/
def deps (ops : Array Oper) (i : Nat) : List Nat := ((ops[i]?).map fun o => (o.after.toList.filter (Region.binds .any)).map (·.on)).getD []
/-- Each one waits for earlier ones alone. -/
def backB (ops : Array Oper) : Bool := (List.range ops.size).all fun i => (deps ops i).all fun j => decide (j < i)

theorem mem_deps {ops : Array Oper} {i j : Nat} {o : Oper} (ho : ops[i]? = some o) : j ∈ deps ops i ↔ ∃ e ∈ o.after, Region.binds .any e = true ∧ e.on = j := by
  simp only [deps, ho, Option.map_some, Option.getD_some, List.mem_map, List.mem_filter, Array.mem_toList_iff]
  constructor
  · rintro ⟨e, ⟨h1, h2⟩, h3⟩; exact ⟨e, h1, h2, h3⟩
  · rintro ⟨e, h1, h2, h3⟩; exact ⟨e, ⟨h1, h2⟩, h3⟩

section
variable {P : Program} {ops : Array Oper} {Q : Exit → Act → World → Prop}

/-- how many are left -/
def left (l : Array Bool) : Nat := (l.toList.filter (fun b => !b)).length

theorem left_set {l : Array Bool} {i : Nat} (h : l.getD i true = false) : left (l.setIfInBounds i true) + 1 = left l := by
  have hi : i < l.size := by
    rcases Nat.lt_or_ge i l.size with h' | h'
    · exact h'
    · rw [Array.getD_eq_getD_getElem?, Array.getElem?_eq_none h'] at h; simp at h
  have hv : l.toList[i]? = some false := by
    rw [Array.getElem?_toList]
    rw [Array.getD_eq_getD_getElem?, Array.getElem?_eq_getElem hi] at h
    rw [Array.getElem?_eq_getElem hi]
    simpa using h
  unfold left
  rw [Array.toList_setIfInBounds]
  generalize l.toList = xs at hv
  clear h hi
  induction xs generalizing i with
  | nil => simp at hv
  | cons x xs ih =>
    cases i with
    | zero =>
      simp at hv
      subst hv
      simp
    | succ i =>
      rw [List.getElem?_cons_succ] at hv
      have := ih hv
      rw [List.set_cons_succ]
      cases x
      · simp only [List.filter_cons, Bool.not_false, if_true, List.length_cons] at this ⊢; omega
      · simpa using this

theorem all_of_ready_nil (hb : backB ops = true) {listed : Array Bool} (hs : listed.size = ops.size) (hr : Region.ready .any ops listed = []) : ∀ k, k < ops.size → listed.getD k true = true := by
  intro k
  induction k using Nat.strongRecOn with
  | ind k ih =>
    intro hk
    cases h : listed.getD k true with
    | true => rfl
    | false =>
      exfalso
      have hm : k ∈ Region.ready .any ops listed := by
        refine mem_ready.2 ⟨h, ops[k], Array.getElem?_eq_getElem hk, fun e he hbi => ?_⟩
        have hd : e.on ∈ deps ops k := (mem_deps (Array.getElem?_eq_getElem hk)).2 ⟨e, he, hbi, rfl⟩
        have hlt : e.on < k := by
          have h1 := List.all_eq_true.1 hb k (List.mem_range.2 hk)
          simpa using List.all_eq_true.1 h1 _ hd
        have h2 := ih e.on hlt (by omega)
        rw [Array.getD_eq_getD_getElem?] at h2 ⊢
        rw [Array.getElem?_eq_getElem (show e.on < listed.size by omega)] at h2 ⊢
        simpa using h2
      rw [hr] at hm
      cases hm

/-- An invariant over what has come up: in whatever order. -/
theorem wp_region_inv {id : Nat} {a0 : Act} {w0 : World} (Inv : Array Bool → Act → World → Prop) (hm : P.follows .mixedOrders = true) (hb : backB ops = true)
    (h0 : Inv (Array.replicate ops.size false) a0 w0.drew)
    (hstep : ∀ (listed : Array Bool) (a : Act) (w : World) (i : Nat), listed.size = ops.size → listed.getD i true = false → i < ops.size → (∀ j ∈ deps ops i, listed.getD j false = true) → Inv listed a w →
      wpOp P ops Q i (fun a' w' => Inv (listed.setIfInBounds i true) a' w') a w)
    (hend : ∀ (listed : Array Bool) (a : Act) (w : World), (∀ k, k < ops.size → listed.getD k false = true) → Inv listed a w → Q .normal a w) : (Code.region id ops true).wp P Q a0 w0 := by
  have main : ∀ (fuel : Nat) (listed : Array Bool) (a : Act) (w : World), listed.size = ops.size → left listed = fuel → Inv listed a w → wpAny P .any ops Q fuel listed a w := by
    intro fuel
    induction fuel with
    | zero =>
      intro listed a w hs hl hI
      have hall : ∀ k, k < ops.size → listed.getD k true = true := fun k hk => by
        cases h : listed.getD k true with
        | true => rfl
        | false => have := left_set h; omega
      have hall2 : ∀ k, k < ops.size → listed.getD k false = true := fun k hk => by
        have h := hall k hk
        rw [Array.getD_eq_getD_getElem?, Array.getElem?_eq_getElem (by omega)] at h ⊢
        simpa using h
      refine ⟨?_, hend listed a w hall2 hI⟩
      apply List.eq_nil_iff_forall_not_mem.2
      intro i hi
      obtain ⟨h1, o, ho, _⟩ := mem_ready.1 hi
      rw [hall i (Array.getElem?_eq_some_iff.1 ho).1] at h1
      cases h1
    | succ fuel ih =>
      intro listed a w hs hl hI
      refine ⟨fun hr => ?_, fun i hi => ?_⟩
      · have hall := all_of_ready_nil hb hs hr
        exact hend listed a w (fun k hk => by
          have h := hall k hk
          rw [Array.getD_eq_getD_getElem?, Array.getElem?_eq_getElem (by omega)] at h ⊢
          simpa using h) hI
      · obtain ⟨h1, o, ho, h2⟩ := mem_ready.1 hi
        have hil := (Array.getElem?_eq_some_iff.1 ho).1
        refine wpOp_mono (fun a' w' h => ih _ a' w' (by rw [Array.size_setIfInBounds]; exact hs) (by have := left_set h1; omega) h)
          (hstep listed a w i hs h1 hil (fun j hj => ?_) hI)
        obtain ⟨e, he, hbi, rfl⟩ := (mem_deps ho).1 hj
        exact h2 e he hbi
  refine wp_region_any hm (main _ _ _ _ (by simp) ?_ h0)
  unfold left
  rw [Array.toList_replicate, List.filter_replicate]
  simp

/-- What stands in the slot of operation j. -/
def slotOf (a : Act) : Option Nat → Value
  | some d => a.tmps.getD d undef
  | none => undef
/-- What is said of a slot's value in a world: it stays, whatever happens outside F. -/
abbrev SP (F : Nat → Prop) := { p : World → Value → Prop // ∀ w w' v, Step F w w' → p w v → p w' v }
def is {F : Nat → Prop} (u : Value) : SP F := ⟨fun _ v => v = u, fun _ _ _ _ h => h⟩
def any {F : Nat → Prop} : SP F := ⟨fun _ _ => True, fun _ _ _ _ h => h⟩
theorem RowAt.stepF {w w' : World} {F : Nat → Prop} {a : Option Addr} {cs : List Value} (h : RowAt w F a cs) (hs : Step F w w') : RowAt w' F a cs := by
  rcases h with h | ⟨b, off, h1, h2, h3⟩
  · exact .inl h
  · by_cases h0 : cs = []
    · exact .inl h0
    · have hl : 0 < cs.length := List.length_pos_iff.2 h0
      have hb : b < w.heap.size := World.block_lt_of_cell? w _ (h3 0 hl)
      exact .inr ⟨b, off, h1, h2, fun j hj => (hs.cell (p := ⟨b, off + j, none⟩) h2 hb).trans (h3 j hj)⟩
/-- A slice of n elements over the cells cs, outside F. -/
def isRow {F : Nat → Prop} (n : Nat) (cs : List Value) : SP F := ⟨fun w v => ∃ a, v = .slice a n n ∧ RowAt w F a cs, fun _ _ _ hs ⟨a, h1, h2⟩ => ⟨a, h1, h2.stepF hs⟩⟩

def At {F : Nat → Prop} (sp : List (SP F)) (dl : List (Option Nat)) (a : Act) (w : World) (j : Nat) : Prop := ∀ p o, sp[j]? = some p → dl[j]? = some o → p.1 w (slotOf a o)
theorem dep {ops : Array Oper} {F : Nat → Prop} {sp : List (SP F)} {dl : List (Option Nat)} {a : Act} {w : World} {i : Nat} (h : ∀ j ∈ deps ops i, At sp dl a w j) (j : Nat) (hj : (deps ops i).contains j = true) (p : SP F) (d : Nat) (hp : sp[j]? = some p) (hd : dl[j]? = some (some d)) : p.1 w (a.tmps.getD d undef) :=
  h j (by simpa using hj) p (some d) hp hd

theorem put_getD_ne (a : Act) (o : Option Nat) (v : Value) (k : Nat) (h : o ≠ some k) : (a.put o v).tmps.getD k undef = a.tmps.getD k undef := by
  cases o with
  | none => rfl
  | some d =>
    have : d ≠ k := fun e => h (by rw [e])
    simp only [Act.put, Array.getD_eq_getD_getElem?]
    rw [Array.getElem?_setIfInBounds_ne this]
theorem put_getD_self (a : Act) (d : Nat) (v : Value) (h : d < a.tmps.size) : (a.put (some d) v).tmps.getD d undef = v := by
  simp only [Act.put, Array.getD_eq_getD_getElem?]
  rw [Array.getElem?_setIfInBounds_self_of_lt h]
  rfl

theorem wp_region_slots {id : Nat} {a0 : Act} {w0 : World} (F : Nat → Prop) (sp : List (SP F)) (dl : List (Option Nat)) (hm : P.follows .mixedOrders = true) (hb : backB ops = true)
    (hdl : ops.toList.map (·.dst) = dl) (hnd : dl.Pairwise (fun x y => x = none ∨ x ≠ y)) (hlt : ∀ d, some d ∈ dl → d < a0.tmps.size)
    (hstep : ∀ (i : Nat), i < ops.size → ∀ (a : Act) (w : World), Step F w0 w → (∀ k, some k ∉ dl → a.tmps.getD k undef = a0.tmps.getD k undef) → (∀ j ∈ deps ops i, At sp dl a w j) →
      wpOp P ops Q i (fun a' w' => ∃ o v, dl[i]? = some o ∧ a' = a.put o v ∧ Step F w w' ∧ ∀ p, sp[i]? = some p → p.1 w' (o.elim undef fun _ => v)) a w)
    (hend : ∀ (a : Act) (w : World), Step F w0 w → a.defers = a0.defers → (∀ k, some k ∉ dl → a.tmps.getD k undef = a0.tmps.getD k undef) → (∀ j, j < ops.size → At sp dl a w j) → Q .normal a w) :
    (Code.region id ops true).wp P Q a0 w0 := by
  have hlen : dl.length = ops.size := by rw [← hdl]; simp
  refine wp_region_inv (fun listed a w => Step F w0 w ∧ a.defers = a0.defers ∧ a.tmps.size = a0.tmps.size ∧ (∀ k, some k ∉ dl → a.tmps.getD k undef = a0.tmps.getD k undef) ∧ ∀ j, listed.getD j false = true → At sp dl a w j) hm hb
    ⟨(Step.refl F w0).drew, rfl, rfl, fun _ _ => rfl, fun j hj => ?_⟩ ?_ (fun listed a w hall ⟨h1, h2, _, h4, h5⟩ => hend a w h1 h2 h4 (fun j hj => h5 j (hall j hj)))
  · exfalso
    rw [Array.getD_eq_getD_getElem?, Array.getElem?_replicate] at hj
    split at hj <;> simp at hj
  · rintro listed a w i hs hi hil hdep ⟨h1, h2, h3, h4, h5⟩
    refine wpOp_mono ?_ (hstep i hil a w h1 h4 (fun j hj => h5 j (hdep j hj)))
    rintro a' w' ⟨o, v, ho, rfl, hr, hp⟩
    refine ⟨h1.trans hr, ?_, ?_, fun k hk => ?_, fun j hj => ?_⟩
    · cases o <;> exact h2
    · cases o with
      | none => exact h3
      | some d => simpa [Act.put] using h3
    · rw [put_getD_ne]
      · exact h4 k hk
      · intro e
        subst e
        exact hk (List.mem_of_getElem? ho)
    · intro p oj hp' hoj
      by_cases hji : j = i
      · subst hji
        obtain rfl : o = oj := Option.some.inj (ho.symm.trans hoj)
        have hv := hp p hp'
        cases o with
        | none => exact hv
        | some d =>
          show p.1 w' ((a.put (some d) v).tmps.getD d undef)
          rw [put_getD_self _ _ _ (by rw [h3]; exact hlt d (List.mem_of_getElem? ho))]
          exact hv
      · have hj2 : listed.getD j false = true := by
          rw [getD_set_ne false (Ne.symm hji)] at hj
          exact hj
        have hold := h5 j hj2 p oj hp' hoj
        have hm2 := p.2 w w' _ hr hold
        cases oj with
        | none => exact hm2
        | some d =>
          show p.1 w' ((a.put o v).tmps.getD d undef)
          rw [put_getD_ne]
          · exact hm2
          · intro e
            subst e
            obtain ⟨hi1, e1⟩ := List.getElem?_eq_some_iff.1 ho
            obtain ⟨hj1, e2⟩ := List.getElem?_eq_some_iff.1 hoj
            rw [List.pairwise_iff_getElem] at hnd
            rcases Nat.lt_or_gt_of_ne hji with h | h
            · rcases hnd j i hj1 hi1 h with x | x
              · rw [e2] at x; cases x
              · exact x (e2.trans e1.symm)
            · rcases hnd i j hi1 hj1 h with x | x
              · rw [e1] at x; cases x
              · exact x (e1.trans e2.symm)

/-! one operation -/
def opIs (ops : Array Oper) (i : Nat) (d : Option Nat) (op : Op) (g : Option (Nat × Bool)) : Prop := (ops[i]?).map (fun o => (o.dst, o.op, o.guard)) = some (d, op, g)
theorem opIs_of {i : Nat} {d : Option Nat} {op : Op} {g : Option (Nat × Bool)} (h : (ops[i]?).map (fun o => (o.dst, o.op, o.guard)) = some (d, op, g)) : opIs ops i d op g := h
/-- Its guard lets it by. -/
def Wants (ops : Array Oper) (a : Act) (g : Option (Nat × Bool)) : Prop := ∀ j b, g = some (j, b) → yielded ops a.tmps j = some b
theorem wants_none (a : Act) : Wants ops a none := fun _ _ h => by cases h
theorem wants_some {a : Act} {j d : Nat} {b : Bool} (hd : (ops[j]?).bind (·.dst) = some d) (h : a.tmps.getD d undef = .bool b) : Wants ops a (some (j, b)) := by
  intro j' b' e
  simp only [Option.some.injEq, Prod.mk.injEq] at e
  obtain ⟨rfl, rfl⟩ := e
  unfold yielded
  rw [hd, Option.bind_some]
  rw [Array.getD_eq_getD_getElem?] at h
  cases hx : a.tmps[d]? with
  | none => rw [hx] at h; simp [undef] at h
  | some v => rw [hx] at h; simp at h; subst h; rfl

/-- Whatever else the operation bears, it comes to that value. -/
def Runs (P : Program) (a : Act) (op : Op) (w : World) (v : Value) (w' : World) : Prop := ∀ o : Oper, o.op = op → (execOp a.eval o).run P w = .ok (.value v) w'

theorem op_runs {i : Nat} {d : Option Nat} {op : Op} {g : Option (Nat × Bool)} {a : Act} {w w' : World} {v : Value} {K : Act → World → Prop} (h : opIs ops i d op g) (hw : Wants ops a g) (hr : Runs P a op w v w') (hK : K (a.put d v) w') : wpOp P ops Q i K a w := by
  unfold opIs at h
  obtain ⟨o, ho, he⟩ := Option.map_eq_some_iff.1 h
  simp only [Prod.mk.injEq] at he
  obtain ⟨rfl, rfl, rfl⟩ := he
  refine wpOp_step ho fun K' hK' => ?_
  have hwt : Region.wanted o (yielded ops a.tmps) = true := by
    unfold Region.wanted
    cases hg : o.guard with
    | none => rfl
    | some x => obtain ⟨j, b⟩ := x; simp [hw j b hg]
  rw [if_pos hwt]
  unfold Oper.wp
  rw [hr o rfl]
  exact hK' _ _ hK
theorem op_calls {i : Nat} {d : Option Nat} {f : FuncId} {xs : Array Operand} {ats : Array TypeId} {g : Option (Nat × Bool)} {a : Act} {w : World} {args : Array Value} {K : Act → World → Prop} {fn : Func} (h : opIs ops i d (.call { callee := .value (.func f), args := xs, argTypes := ats }) g) (hw : Wants ops a g)
    (hf : P.funcs[f]? = some fn) (hn : (fn.name == "runtime.NumGoroutine") = false) (hb : fn.body.isNone = false) (ha : xs.map a.eval = args)
    (hc : Calls P f args w fun e w' => ∃ v, e = .returned v ∧ K (a.put d v) w') : wpOp P ops Q i K a w := by
  unfold opIs at h
  obtain ⟨o, ho, he⟩ := Option.map_eq_some_iff.1 h
  simp only [Prod.mk.injEq] at he
  obtain ⟨rfl, hop, rfl⟩ := he
  refine wpOp_step ho fun K' hK' => ?_
  have hwt : Region.wanted o (yielded ops a.tmps) = true := by
    unfold Region.wanted
    cases hg : o.guard with
    | none => rfl
    | some x => obtain ⟨j, b⟩ := x; simp [hw j b hg]
  rw [if_pos hwt]
  unfold Oper.wp
  have hx : (execOp a.eval o).run P w = .ok (.enter f args) w := by
    have e1 : execOp a.eval o = callFunc f (#[] ++ xs.map a.eval ++ #[]) := by
      obtain ⟨dst, op, ty, pos, after, guard⟩ := o
      simp only at hop
      subst hop
      rfl
    rw [e1, ha]
    have hn' : fn.name ≠ "runtime.NumGoroutine" := by simpa using hn
    have hb' : ¬ fn.body = none := fun h => by rw [h] at hb; cases hb
    simp [callFunc, go_sem, hf, hn', hb']
  rw [hx]
  refine Calls.mono hc ?_
  rintro e w' ⟨v, rfl, hv⟩
  exact hK' _ _ hv

theorem slot_runs {F : Nat → Prop} {sp : List (SP F)} {dl : List (Option Nat)} {i d : Nat} {op : Op} {g : Option (Nat × Bool)} {a : Act} {w w' : World} {v : Value} (p : SP F) (h : opIs ops i (some d) op g) (hdl : dl[i]? = some (some d)) (hsp : sp[i]? = some p) (hw : Wants ops a g) (hr : Runs P a op w v w') (hR : Step F w w') (hp : p.1 w' v) :
    wpOp P ops Q i (fun a' w' => ∃ o v, dl[i]? = some o ∧ a' = a.put o v ∧ Step F w w' ∧ ∀ p, sp[i]? = some p → p.1 w' (o.elim undef fun _ => v)) a w :=
  op_runs h hw hr ⟨some d, v, hdl, rfl, hR, fun p' hp' => by rw [hsp] at hp'; injection hp' with e; subst e; exact hp⟩
theorem slot_calls {F : Nat → Prop} {sp : List (SP F)} {dl : List (Option Nat)} {i d : Nat} {f : FuncId} {xs : Array Operand} {ats : Array TypeId} {g : Option (Nat × Bool)} {a : Act} {w : World} {args : Array Value} {fn : Func} (p : SP F) (h : opIs ops i (some d) (.call { callee := .value (.func f), args := xs, argTypes := ats }) g) (hdl : dl[i]? = some (some d)) (hsp : sp[i]? = some p) (hw : Wants ops a g)
    (hf : P.funcs[f]? = some fn) (hn : (fn.name == "runtime.NumGoroutine") = false) (hb : fn.body.isNone = false) (ha : xs.map a.eval = args)
    (hc : Calls P f args w fun e w' => ∃ v, e = .returned v ∧ Step F w w' ∧ p.1 w' v) :
    wpOp P ops Q i (fun a' w' => ∃ o v, dl[i]? = some o ∧ a' = a.put o v ∧ Step F w w' ∧ ∀ p, sp[i]? = some p → p.1 w' (o.elim undef fun _ => v)) a w :=
  op_calls h hw hf hn hb ha (Calls.mono hc fun e w' ⟨v, he, hs, hp⟩ => ⟨v, he, some d, v, hdl, rfl, hs, fun p' hp' => by rw [hsp] at hp'; injection hp' with e; subst e; exact hp⟩)

theorem runs_move {a : Act} {w : World} {x : Operand} {v : Value} (h : a.eval x = v) : Runs P a (.move x) w v w := by
  intro o ho
  subst h
  simp [execOp, ho]
theorem runs_assign {a : Act} {w : World} {x : Operand} {v : Value} (h : a.eval x = v) : Runs P a (.assign x) w v w := by
  intro o ho
  subst h
  simp [execOp, ho]
theorem runs_pick {a : Act} {w : World} {c x y : Operand} {b : Bool} {v : Value} (hc : a.eval c = .bool b) (h : (if b then a.eval x else a.eval y) = v) : Runs P a (.pick c x y) w v w := by
  intro o ho
  subst h
  cases b <;> simp [execOp, ho, hc, asBool]
theorem runs_eql_int {a : Act} {w : World} {t u : TypeId} {x y : Operand} {k : IntKind} {m n : Int} (hx : a.eval x = .int k m) (hy : a.eval y = .int k n) : Runs P a (.binOp .eql t x y u) w (.bool (m == n)) w := by
  intro o ho
  simp only [execOp, ho, hx, hy]
  simp [go_sem]
theorem runs_slice_string {a : Act} {w : World} {t : TypeId} {x : Operand} {lo hi : Option Operand} {s r : ByteArray} (ht : P.underlying t = some .string) (hx : a.eval x = .string s)
    (h : (Instr.slice t (.string s) (lo.map a.eval) (hi.map a.eval) none).run P w = .ok (.string r) w) : Runs P a (.slice t x lo hi none) w (.string r) w := by
  intro o ho
  simp [execOp, ho, hx, run_sliceAt_string, ht, h]
end
end Go.Proofs.Ytgmgoaencaldmaa
