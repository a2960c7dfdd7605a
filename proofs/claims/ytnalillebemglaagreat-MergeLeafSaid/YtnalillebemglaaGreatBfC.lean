/-
  The library's sort, Grow, Concat and Equal over messages, for package buff; Same.
  A buffer that is still made: a message put at its end; each of a list.
  With and Of: the buffer into which messages are put.
-/
import Derived.Test.YtnalillebemglaaGreatBfA
import Derived.Test.YtnalillebemglaaGreatLfStable
import Derived.Lib.AppendZeros
import Derived.Laws.AppendOwnNone
import Derived.Test.YtnalillebemglaaGreatMsgA
import Derived.Test.YtnalillebemglaaGreatDraw
import Derived.Deep.RegionLaw
namespace Go.Proofs.YtnalillebemglaaGreat
open Go.Shelf Go.RowKit Go.Lib Go.Sort
set_option linter.unusedVariables false
set_option linter.unusedSimpArgs false
set_option maxRecDepth 20000

theorem swoM {α : Type} (key : α → List UInt8) : SWO (ltOf fun x y : α => cmpL (key x) (key y)) where
  irrefl x := by unfold ltOf; rw [decide_eq_false_iff_not, cmpB_neg]; exact lt_irrefl'
  trans x y z h1 h2 := by
    unfold ltOf at *
    rw [decide_eq_true_eq, cmpB_neg] at *
    exact lt_trans' h1 h2
  ntrans x y z h1 h2 := by
    unfold ltOf at *
    rw [decide_eq_false_iff_not, cmpB_neg] at *
    grind
set_option maxHeartbeats 1000000 in
theorem stableB_none (fv : Value) (w : World) : Calls Tryz.prog 75 #[.slice none 0 0, .int .i64 0, fv] w fun e w' => e = .returned (.tuple #[]) ∧ w = w' := by
  have h := AnyF.insertionSortCmpFunc_none (P := Tryz.prog) (ρ := Tryz.insMg_ren) Tryz.insMg none 0 fv w
  have hc : Calls Tryz.prog 99 #[.slice none 0 0, .int .i64 0, .int .i64 0, fv] w fun e w' => e = .returned (.tuple #[]) ∧ w' = w := h
  clear h
  go_enter Tryz.func75, Tryz.ntmps75
  go_wp2
  refine wp_loop_rounds 1 ?_
  rw [rounds_succ]
  go_wp2_with (go_at_call 99; refine hc.mono ?_; rintro e w' ⟨rfl, rfl⟩)
  refine wp_loop_rounds 1 ?_
  rw [rounds_succ]
  go_wp2
  go_end0
  exact ⟨rfl, rfl⟩
end Go.Proofs.YtnalillebemglaaGreat
namespace Go.Proofs.YtnalillebemglaaGreat
open Go.RowKit Go.Sort
set_option linter.unusedVariables false
set_option linter.unusedSimpArgs false
set_option maxRecDepth 20000

/-- append of a row of items, nil or not, onto a row of one's own. -/
theorem wpList_append_mB {w : World} {ops : Array Oper} {rest : List Oper} {o : Oper} {a : Act} {Q : Exit → Act → World → Prop} (hgd : o.guard = none) (s x : Operand)
    (ho : o.op = .call { callee := .builtin .append, args := #[s, x], argTypes := #[29, 29] })
    (base : Nat) (v : Value) (xs : List Mg) (hs : a.eval s = v) (hown : w.ownsRow base 37 3 v xs.length (msgs xs))
    (ad : Option Addr) (c : Nat) (ys : List Mg) (hx : a.eval x = .slice ad ys.length c) (hr : MsgsAt w noF ad ys) (hc : ad = none → c = 0)
    (hl : xs.length + ys.length ≤ 1000000000) (hbase : base ≤ w.heap.size)
    (h : ∀ v' w', w'.ownsRow base 37 3 v' (xs ++ ys).length (msgs (xs ++ ys)) → w.grownBy w' v.ownBlock → wpList Tryz.prog ops Q rest (a.put o.dst v') w') : wpList Tryz.prog ops Q (o :: rest) a w := by
  obtain ⟨i0, hi, hz0, hz1, hz2⟩ := info_ms
  cases ad with
  | none =>
    obtain rfl : ys = [] := by
      rcases hr with h | ⟨b, off, h, _⟩
      · exact h
      · cases h
    obtain rfl := hc rfl
    refine wpList_append_own_none hgd s x _ ho base 37 i0 3 Tryz.underlying29 hi v _ _ hs hown hx ?_
    have := h v w (by rw [List.append_nil]; exact hown) ⟨rfl, rfl, rfl, Nat.le_refl _, fun _ _ _ => rfl⟩
    exact this
  | some ad =>
    have hn : ∀ j u, (msgs ys)[j]? = some u → w.cell? (Addr.add ad j) = some u := fun j u hj => by
      rcases hr with rfl | ⟨b, off, h1, h2⟩
      · simp [msgs] at hj
      · obtain rfl : ad = ⟨b, off, none⟩ := Option.some.inj h1
        exact msgsAt_cells h2.2.2 j u hj
    refine wpList_append_own w hgd s x _ ho base 37 i0 _ 3 40 Tryz.underlying29 hi hz0 hz1 hz2 rfl (by decide) v _ _ hs hown ad ys.length c (msgs ys) hx (msgs_length ys) hn (msgs_one ys) (le_max (by omega)) (by omega) hbase ?_
    intro v' w' h1 h2 h3
    refine h v' w' ?_ h2
    rw [List.length_append, show msgs (xs ++ ys) = msgs xs ++ msgs ys by simp [msgs]]
    exact h1

theorem grownB_step {w w' : World} {base : Nat} {e : TypeId} {size : Nat} {v : Value} {n : Nat} {xs : List Value} {w0 : World} (hs : Step noF w0 w) (hown : w.ownsRow base e size v n xs) (hb : w0.heap.size ≤ base) (hg : w.grownBy w' v.ownBlock) : Step noF w0 w' :=
  hs.grown hg (fun k hk => .inr (Nat.le_trans hb (hown.lt k hk).1))

/-- Whether two rows of messages are the same. -/
def sameM (xs ys : List Mg) : Bool := decide (xs.map (fun x => (x.kind, x.key, x.val)) = ys.map (fun x => (x.kind, x.key, x.val)))
theorem Mg.extB {a b : Mg} (h1 : a.kind = b.kind) (h2 : a.key = b.key) (h3 : a.val = b.val) : a = b := by
  cases a; cases b; simp_all
theorem sameM_iff (xs ys : List Mg) : sameM xs ys = true ↔ xs = ys := by
  unfold sameM
  rw [decide_eq_true_eq]
  constructor
  · intro h
    refine List.map_inj_right (fun a b hab => ?_) |>.1 h
    injection hab with h1 h2
    injection h2 with h2 h3
    exact Mg.extB h1 h2 h3
  · intro h
    rw [h]
theorem sameM_not {xs ys : List Mg} (h : xs ≠ ys) : sameM xs ys = false := by
  cases e : sameM xs ys
  · rfl
  · exact absurd ((sameM_iff _ _).1 e) h
end Go.Proofs.YtnalillebemglaaGreat
namespace Go.Proofs.YtnalillebemglaaGreat
open Go.RowKit Go.Sort
set_option linter.unusedVariables false
set_option linter.unusedSimpArgs false
set_option maxRecDepth 20000

/-- append of a row of messages onto a row of one's own, as one step of a region that draws. -/
theorem step_append_mB {ops : Array Oper} {o : Oper} {a : Act} {w : World} {K : Act → World → Prop} {Q : Exit → Act → World → Prop} {E : Prop}
    (hg : o.guard = none) (s x : Operand) (hop : o.op = Op.call { callee := Callee.builtin Builtin.append, args := #[s, x], argTypes := #[29, 29] })
    (base : Nat) (v : Value) (xs : List Mg) (hs : a.eval s = v) (hown : w.ownsRow base 37 3 v xs.length (msgs xs)) (ad : Addr) (c : Nat) (ys : List Mg) (hx : a.eval x = .slice (some ad) ys.length c) (hr : MsgsAt w noF (some ad) ys) (hl : xs.length + ys.length ≤ 1000000000) (hbase : base ≤ w.heap.size)
    (hK : ∀ v' w', w'.ownsRow base 37 3 v' (xs ++ ys).length (msgs (xs ++ ys)) → w.grownBy w' v.ownBlock → Fresh w v v' → K (a.put o.dst v') w') :
    if Region.wanted o (yielded ops a.tmps) = true then Oper.wp Tryz.prog o a w K Q else E := by
  obtain ⟨i0, hi, hz0, hz1, hz2⟩ := info_ms
  have hn : ∀ j u, (msgs ys)[j]? = some u → w.cell? (Addr.add ad j) = some u := fun j u hj => by
    rcases hr with rfl | ⟨b, off, h1, h2⟩
    · simp [msgs] at hj
    · obtain rfl : ad = ⟨b, off, none⟩ := Option.some.inj h1
      exact msgsAt_cells h2.2.2 j u hj
  refine step_append_own hg s x 29 hop 37 i0 _ 3 40 Tryz.underlying29 hi hz0 hz1 hz2 rfl (by decide) v _ _ hs (owns_base hown (Nat.zero_le _)) ad ys.length c (msgs ys) hx (msgs_length ys) hn (msgs_one ys) (le_max (by omega)) (by omega) ?_
  intro v' w' h2 h3 h4
  refine hK v' w' ?_ h3 h4
  have h5 : w'.ownsRow 0 37 3 v' (xs ++ ys).length (msgs (xs ++ ys)) := by
    rw [List.length_append, show msgs (xs ++ ys) = msgs xs ++ msgs ys by simp [msgs]]
    exact h2
  refine ⟨h5.1, ?_⟩
  rcases h5.2 with h | ⟨g, cap, cur, hv, _, hh, rest⟩
  · exact .inl h
  · refine .inr ⟨g, cap, cur, hv, ?_, hh, rest⟩
    rcases h4 with e | e
    · exact (hown.lt g (by rw [← e, hv]; rfl)).1
    · exact Nat.le_trans hbase (e g (by rw [hv]; rfl))

theorem msgs_set (D : List Mg) (j : Nat) (hj : j < D.length) (m : Mg) : (((msgs D).set (j * 3) (.int .i64 m.kind)).set (j * 3 + 1) (.string (str m.key))).set (j * 3 + 2) (.string (str m.val)) = msgs (D.set j m) := by
  induction D generalizing j with
  | nil => simp at hj
  | cons x xs ih =>
    cases j with
    | zero => simp [msgs, encM]
    | succ j =>
      have := ih j (by simpa using hj)
      simp only [msgs, encM, List.flatMap_cons, List.set_cons_succ, List.cons_append, List.nil_append] at this ⊢
      rw [show (j + 1) * 3 = j * 3 + 1 + 1 + 1 by omega]
      simpa using this
theorem owns_put3 {w : World} {base : Nat} {e : TypeId} {n g c : Nat} {D : List Mg} (h : w.ownsRow base e 3 (.slice (some ⟨g, 0, none⟩) n c) n (msgs D)) (j : Nat) (hj : j < D.length) (m : Mg) :
    (((w.setCell ⟨g, j * 3, none⟩ (.int .i64 m.kind)).setCell ⟨g, j * 3 + 1, none⟩ (.string (str m.key))).setCell ⟨g, j * 3 + 2, none⟩ (.string (str m.val))).ownsRow base e 3 (.slice (some ⟨g, 0, none⟩) n c) n (msgs (D.set j m)) := by
  have hl := msgs_length D
  have := owns_put (owns_put (owns_put h (j * 3) (by omega) (.int .i64 m.kind)) (j * 3 + 1) (by simp; omega) (.string (str m.key))) (j * 3 + 2) (by simp; omega) (.string (str m.val))
  rw [msgs_set D j hj m] at this
  exact this

theorem one_cell {w : World} {b : Nat} {x : Value} {t : TypeId} (h : w.heap[b]? = some (.cells #[x] t (0, 0))) : w.cell? ⟨b, 0, none⟩ = some x ∧ w.frozen? ⟨b, 0, none⟩ = false := ⟨by rw [cell_of_block h]; rfl, frozen_of_block h 0⟩
theorem msB_new (w : World) (k : Int) (x y : List UInt8) : MsgsAt (w.alloc (.cells #[.int .i64 k, .string (str x), .string (str y)] 37)) noF (some ⟨w.heap.size, 0, none⟩) [⟨k, x, y⟩] := by
  have hb := block_alloc_new w (.cells #[.int .i64 k, .string (str x), .string (str y)] 37)
  refine .inr ⟨w.heap.size, 0, rfl, fun h => h, lt_of_block hb, fun j hj => ?_⟩
  obtain rfl : j = 0 := by simp at hj; omega
  exact ⟨by rw [cell_of_block hb]; rfl, by rw [cell_of_block hb]; rfl, by rw [cell_of_block hb]; rfl⟩
theorem endM_len (D : List Mg) (m : Mg) : (endM D m).length ≤ D.length + 1 := by
  unfold endM
  split
  · simp
  · split <;> simp

end Go.Proofs.YtnalillebemglaaGreat
namespace Go.Proofs.YtnalillebemglaaGreat
open Go.RowKit Go.Sort
set_option linter.unusedVariables false
set_option linter.unusedSimpArgs false
set_option maxRecDepth 20000

theorem two_slices (w : World) (x y : Value) (t : TypeId) : (w.alloc (.cells #[x, y] t)).cell? ⟨w.heap.size, 0, none⟩ = some x ∧ (w.alloc (.cells #[x, y] t)).cell? ⟨w.heap.size, 1, none⟩ = some y := by
  constructor <;> rw [cell_of_block (block_alloc_new w _)] <;> rfl
theorem msgs_below {w : World} {base n : Nat} {a : Option Addr} {c : Nat} {ys : List Mg} (h : w.ownsRow 0 37 3 (.slice a n c) n (msgs ys)) (hn : ys.length = n) (hb : base = w.heap.size) : MsgsAt w (fun k => base ≤ k) a ys := by
  subst hn
  obtain ⟨a1, c1, e1, _, m1⟩ := msgsAt_owns h rfl
  injection e1 with e1 _ _
  subst e1
  rcases m1 with h | ⟨g, off, rfl, _, hg, hcells⟩
  · exact .inl h
  · exact .inr ⟨g, off, rfl, by simp; omega, hg, hcells⟩
end Go.Proofs.YtnalillebemglaaGreat
namespace Go.Proofs.YtnalillebemglaaGreat
open Go.RowKit Go.Sort
set_option linter.unusedVariables false
set_option linter.unusedSimpArgs false
set_option maxRecDepth 20000

/-- A row of messages of one's own. -/
def OwnB (w : World) (base : Nat) (v : Value) (xs : List Mg) : Prop := w.ownsRow base 37 3 v xs.length (msgs xs)
theorem OwnB.step {w w' : World} {base : Nat} {v : Value} {xs : List Mg} (h : OwnB w base v xs) (hs : Step noF w w') : OwnB w' base v xs := owns_step h hs (fun _ _ x => x)
theorem OwnB.empty (w : World) : OwnB (w.alloc (.cells #[] 37)) w.heap.size (.slice (some ⟨w.heap.size, 0, none⟩) 0 0) [] :=
  ⟨rfl, .inr ⟨w.heap.size, 0, #[], rfl, Nat.le_refl _, block_alloc_new w _, Nat.le_refl _, Nat.zero_le _, rfl, rfl⟩⟩
theorem OwnB.weak {w : World} {base b2 : Nat} {v : Value} {xs : List Mg} (h : OwnB w base v xs) (hb : b2 ≤ base) : OwnB w b2 v xs := owns_base h hb
theorem OwnB.after {w0 w w' : World} {base : Nat} {v : Value} {xs : List Mg} (hs : Step noF w0 w) (h : OwnB w base v xs) (hb : w0.heap.size ≤ base) (hg : w.grownBy w' v.ownBlock) : Step noF w0 w' :=
  hs.grown hg (fun k hk => .inr (Nat.le_trans hb (h.lt k hk).1))
/-- A slice of messages. -/
def MsV (w : World) (v : Value) (xs : List Mg) : Prop := ∃ a c, v = .slice a xs.length c ∧ (a = none → c = 0) ∧ MsgsAt w noF a xs
theorem MsV.step {w w' : World} {v : Value} {xs : List Mg} (h : MsV w v xs) (hs : Step noF w w') : MsV w' v xs := by
  obtain ⟨a, c, h1, h2, h3⟩ := h
  exact ⟨a, c, h1, h2, h3.stepB hs⟩
theorem OwnB.msv {w : World} {base : Nat} {v : Value} {xs : List Mg} (h : OwnB w base v xs) : MsV w v xs := by
  obtain ⟨a, c, h1, _, h2, h3⟩ := owns_msgs h
  exact ⟨a, c, h1, h2.1, h3⟩
end Go.Proofs.YtnalillebemglaaGreat
