/-
  What slices.MinFunc does with the ends of two ranges, and Meet, of the program and of the reference.
  The region that draws in Meet (its region 1), operation by operation.
  What Meet does, of the program and of the reference.
-/
import Derived.Test.YtoobelcphcndoaaGreatKeyM
import Derived.Test.YtoobelcphcndoaaGreatDraw
import Derived.Test.YtoobelcphcndoaaGreatRowIn
namespace Go.Proofs.YtoobelcphcndoaaGreat
open Go.RowKit
set_option linter.unusedVariables false
set_option linter.unusedSimpArgs false

set_option maxHeartbeats 1000000 in
theorem minFunc_any (a b : List UInt8) (g cap : Nat) (w : World) (h : RowIn w g 9 [.string (str a), .string (str b)]) :
    Calls Tryz.prog 189 #[.slice (some ⟨g, 0, none⟩) 2 cap, .func (.func 190) #[] #[]] w fun e w' => e = .returned (.string (str (minH a b))) ∧ Step noF w w' := by
  have c0 : w.cell? ⟨g, 0, none⟩ = some (.string (str a)) := h.cell 0 (by simp)
  have c1 : w.cell? ⟨g, 1, none⟩ = some (.string (str b)) := h.cell 1 (by simp)
  have hm := hid (cmpH_min a b)
  clear h
  go_enter Tryz.func189, Tryz.ntmps189
  go_wp2_with fail
  go_loopw [5, 6] (fun v i wr => w = wr ∧ ((i = .int .i64 1 ∧ v = .string (str a)) ∨ (i = .int .i64 2 ∧ v = .string (str (minH a b))))) (fun _ i _ => 2 - (intOf i).toNat)
  case atStart => exact ⟨rfl, .inl ⟨rfl, rfl⟩⟩
  case round =>
    obtain ⟨rfl, (⟨rfl, rfl⟩ | ⟨rfl, rfl⟩)⟩ := hrel
    · by_cases hc : cmpH b a < 0
      · go_wp2_with fail
        refine (compareHi_any _ _ _).mono ?_
        rintro e w' ⟨rfl, rfl⟩
        go_wp2_with fail
        go_roundw
        case rel => exact ⟨by first | trivial | rfl, .inr ⟨rfl, by rw [← hm.out, if_pos hc]⟩⟩
        case measure => simp [intOf]
      · go_wp2_with fail
        refine (compareHi_any _ _ _).mono ?_
        rintro e w' ⟨rfl, rfl⟩
        go_wp2_with fail
        go_roundw
        case rel => exact ⟨by first | trivial | rfl, .inr ⟨rfl, by rw [← hm.out, if_neg (by omega)]⟩⟩
        case measure => simp [intOf]
    · go_wp2_with fail
      go_ret
      exact ⟨rfl, Step.refl _ _⟩
end Go.Proofs.YtoobelcphcndoaaGreat
namespace Go.Proofs.YtoobelcphcndoaaGreat
open Go.RowKit
set_option linter.unusedVariables false
set_option linter.unusedSimpArgs false

theorem run_max_str {P : Program} (w : World) (ts : Array TypeId) (t : TypeId) (x y : List UInt8) : (Builtin.max_ ts t #[.string (str x), .string (str y)]).run P w = .ok (.string (str (maxL x y))) w := by
  by_cases h : x < y <;> simp [Builtin.max_, Builtin.max2, Op.stringOp, asBool, maxL, less_iff, str_toList, h]

def meetDl : List (Option Nat) := [some 6, some 7, some 8, some 9, some 10, some 11, some 12, some 13, some 14, some 15, some 16, some 17, some 5, none]
theorem meet_dl : ((Tryz.f175.body.bind (regionOps 1)).getD #[]).toList.map (·.dst) = meetDl := by kernel_rfl
theorem meet_back : backB ((Tryz.f175.body.bind (regionOps 1)).getD #[]) = true := by kernel_rfl
theorem meet_used : usedB ((Tryz.f175.body.bind (regionOps 1)).getD #[]) 13 = true := by kernel_rfl
theorem meet_size : ((Tryz.f175.body.bind (regionOps 1)).getD #[]).size = 13 + 1 := by kernel_rfl
theorem meet_nd : meetDl.Pairwise (fun x y => x = none ∨ x ≠ y) := by decide
theorem meet_lt (d : Nat) (h : some d ∈ meetDl) : d < 24 := by
  have hh : meetDl.all (fun o => o.all (fun d => decide (d < 24))) = true := by decide
  simpa using List.all_eq_true.1 hh _ h
theorem meetOp0 : opIs ((Tryz.f175.body.bind (regionOps 1)).getD #[]) 0 (some 6) (Op.fieldAddr 166 (Operand.tmp 2) 0) none := opIs_of (by kernel_rfl)
theorem meetOp1 : opIs ((Tryz.f175.body.bind (regionOps 1)).getD #[]) 1 (some 7) (Op.load 9 (Operand.tmp 6)) none := opIs_of (by kernel_rfl)
theorem meetOp2 : opIs ((Tryz.f175.body.bind (regionOps 1)).getD #[]) 2 (some 8) (Op.fieldAddr 166 (Operand.tmp 3) 0) none := opIs_of (by kernel_rfl)
theorem meetOp3 : opIs ((Tryz.f175.body.bind (regionOps 1)).getD #[]) 3 (some 9) (Op.load 9 (Operand.tmp 8)) none := opIs_of (by kernel_rfl)
theorem meetOp4 : opIs ((Tryz.f175.body.bind (regionOps 1)).getD #[]) 4 (some 10) (Op.call { callee := Callee.builtin Builtin.max, args := #[Operand.tmp 7, Operand.tmp 9], argTypes := #[9, 9] }) none := opIs_of (by kernel_rfl)
theorem meetOp5 : opIs ((Tryz.f175.body.bind (regionOps 1)).getD #[]) 5 (some 11) (Op.fieldAddr 166 (Operand.tmp 2) 1) none := opIs_of (by kernel_rfl)
theorem meetOp6 : opIs ((Tryz.f175.body.bind (regionOps 1)).getD #[]) 6 (some 12) (Op.load 9 (Operand.tmp 11)) none := opIs_of (by kernel_rfl)
theorem meetOp7 : opIs ((Tryz.f175.body.bind (regionOps 1)).getD #[]) 7 (some 13) (Op.fieldAddr 166 (Operand.tmp 3) 1) none := opIs_of (by kernel_rfl)
theorem meetOp8 : opIs ((Tryz.f175.body.bind (regionOps 1)).getD #[]) 8 (some 14) (Op.load 9 (Operand.tmp 13)) none := opIs_of (by kernel_rfl)
theorem meetOp9 : opIs ((Tryz.f175.body.bind (regionOps 1)).getD #[]) 9 (some 15) (Op.buildSlice 24 2 #[(0, Operand.tmp 12), (1, Operand.tmp 14)]) none := opIs_of (by kernel_rfl)
theorem meetOp10 : opIs ((Tryz.f175.body.bind (regionOps 1)).getD #[]) 10 (some 16) (Op.call { callee := Callee.value (Operand.func 189), args := #[Operand.tmp 15, Operand.func 190], argTypes := #[24, 162] }) none := opIs_of (by kernel_rfl)
theorem meetOp11 : opIs ((Tryz.f175.body.bind (regionOps 1)).getD #[]) 11 (some 17) (Op.build 166 #[(0, Operand.tmp 10), (1, Operand.tmp 16)]) none := opIs_of (by kernel_rfl)
theorem meetOp12 : opIs ((Tryz.f175.body.bind (regionOps 1)).getD #[]) 12 (some 5) (Op.alloc 166) none := opIs_of (by kernel_rfl)
theorem meetOp13 : opIs ((Tryz.f175.body.bind (regionOps 1)).getD #[]) 13 (none) (Op.store 166 (Operand.tmp 5) (Operand.tmp 17)) none := opIs_of (by kernel_rfl)

/-- What is said of each slot. -/
def meetSp (r o : Rg) (b2 b3 n0 : Nat) (i : Nat) (w : World) (v : Value) : Prop := match i with
  | 0 => v = .pointer (some ⟨b2, 0, none⟩)
  | 1 => v = .string (str r.lo)
  | 2 => v = .pointer (some ⟨b3, 0, none⟩)
  | 3 => v = .string (str o.lo)
  | 4 => v = .string (str (maxL r.lo o.lo))
  | 5 => v = .pointer (some ⟨b2, 1, none⟩)
  | 6 => v = .string (str r.hi)
  | 7 => v = .pointer (some ⟨b3, 1, none⟩)
  | 8 => v = .string (str o.hi)
  | 9 => ∃ g, v = .slice (some ⟨g, 0, none⟩) 2 2 ∧ RowIn w g 9 [.string (str r.hi), .string (str o.hi)]
  | 10 => v = .string (str (minH r.hi o.hi))
  | 11 => v = .agg #[.string (str (maxL r.lo o.lo)), .string (str (minH r.hi o.hi))]
  | 12 => ∃ g, v = .pointer (some ⟨g, 0, none⟩) ∧ n0 ≤ g ∧ ∃ x y, w.heap[g]? = some (.cells #[x, y] 166 (0, 0))
  | _ => True
theorem meetSp_mono (r o : Rg) (b2 b3 n0 : Nat) (i : Nat) (w w' : World) (v : Value) (hs : Step noF w w') (h : meetSp r o b2 b3 n0 i w v) : meetSp r o b2 b3 n0 i w' v := by
  unfold meetSp at *
  split at h
  all_goals first
    | exact h
    | (obtain ⟨g, e, hr⟩ := h; exact ⟨g, e, hr.step hs (fun x => x)⟩)
    | (obtain ⟨g, e, hg, x, y, hb⟩ := h; exact ⟨g, e, hg, x, y, (hs.block g (lt_of_block hb) (fun x => x)).trans hb⟩)

set_option maxHeartbeats 4000000 in
set_option maxRecDepth 100000 in
theorem meet_go (r o : Rg) (b2 b3 : Nat) (w0 : World) (c0 : w0.cell? ⟨b2, 0, none⟩ = some (.string (str r.lo))) (c1 : w0.cell? ⟨b2, 1, none⟩ = some (.string (str r.hi))) (d0 : w0.cell? ⟨b3, 0, none⟩ = some (.string (str o.lo))) (d1 : w0.cell? ⟨b3, 1, none⟩ = some (.string (str o.hi)))
    {Q : Exit → Act → World → Prop} (a0 : Act) (hsz : a0.tmps.size = 24) (h2 : a0.tmps.getD 2 undef = .pointer (some ⟨b2, 0, none⟩)) (h3 : a0.tmps.getD 3 undef = .pointer (some ⟨b3, 0, none⟩))
    (hend : ∀ (w : World) (v15 : Value) (g : Nat), Step noF w0 w → w0.heap.size ≤ g → w.heap[g]? = some (.cells #[.string (str (maxL r.lo o.lo)), .string (str (minH r.hi o.hi))] 166 (0, 0)) →
      Q .normal (putAll a0 meetDl [.pointer (some ⟨b2, 0, none⟩), .string (str r.lo), .pointer (some ⟨b3, 0, none⟩), .string (str o.lo), .string (str (maxL r.lo o.lo)), .pointer (some ⟨b2, 1, none⟩), .string (str r.hi), .pointer (some ⟨b3, 1, none⟩), .string (str o.hi), v15, .string (str (minH r.hi o.hi)), .agg #[.string (str (maxL r.lo o.lo)), .string (str (minH r.hi o.hi))], .pointer (some ⟨g, 0, none⟩)]) w) :
    (Code.region 1 ((Tryz.f175.body.bind (regionOps 1)).getD #[]) true).wp Tryz.prog Q a0 w0 := by
  refine wp_region_pred (meetSp r o b2 b3 w0.heap.size) (meetSp_mono r o b2 b3 w0.heap.size) meetDl 13 meet_size (by kernel_rfl) meet_back meet_used meet_dl meet_nd (fun d h => by rw [hsz]; exact meet_lt d h) rfl ?_ ?_ ?_
  · intro i hi a w hs hfr hat
    have n2 := (hfr 2 (by decide)).trans h2
    have n3 := (hfr 3 (by decide)).trans h3
    have e0 := hs.after c0
    have e1 := hs.after c1
    have f0 := hs.after d0
    have f1 := hs.after d1
    match i, hi with
    | 0, _ =>
      refine pred_runs (d := 6) meetOp0 rfl (v := .pointer (some ⟨b2, 0, none⟩)) (w' := w) ?_ (Step.refl _ _) rfl
      intro oo hoo
      simp only [execOp, hoo, Act.eval, n2]
      go_simp
    | 1, _ =>
      have n6 : a.tmps.getD 6 undef = _ := hat 0 (List.contains_iff_mem.1 (by kernel_rfl)) 6 rfl
      refine pred_runs (d := 7) meetOp1 rfl (v := .string (str r.lo)) (w' := w) ?_ (Step.refl _ _) rfl
      intro oo hoo
      simp only [execOp, hoo, Act.eval, n6]
      go_simp
    | 2, _ =>
      refine pred_runs (d := 8) meetOp2 rfl (v := .pointer (some ⟨b3, 0, none⟩)) (w' := w) ?_ (Step.refl _ _) rfl
      intro oo hoo
      simp only [execOp, hoo, Act.eval, n3]
      go_simp
    | 3, _ =>
      have n8 : a.tmps.getD 8 undef = _ := hat 2 (List.contains_iff_mem.1 (by kernel_rfl)) 8 rfl
      refine pred_runs (d := 9) meetOp3 rfl (v := .string (str o.lo)) (w' := w) ?_ (Step.refl _ _) rfl
      intro oo hoo
      simp only [execOp, hoo, Act.eval, n8]
      go_simp
    | 4, _ =>
      have n7 : a.tmps.getD 7 undef = _ := hat 1 (List.contains_iff_mem.1 (by kernel_rfl)) 7 rfl
      have n9 : a.tmps.getD 9 undef = _ := hat 3 (List.contains_iff_mem.1 (by kernel_rfl)) 9 rfl
      refine pred_runs (d := 10) meetOp4 rfl (v := .string (str (maxL r.lo o.lo))) (w' := w) ?_ (Step.refl _ _) rfl
      intro oo hoo
      simp [execOp, hoo, resolve, invoke, builtin, Act.eval, n7, n9, run_max_str, Result.andThen]
    | 5, _ =>
      refine pred_runs (d := 11) meetOp5 rfl (v := .pointer (some ⟨b2, 1, none⟩)) (w' := w) ?_ (Step.refl _ _) rfl
      intro oo hoo
      simp only [execOp, hoo, Act.eval, n2]
      go_simp
    | 6, _ =>
      have n11 : a.tmps.getD 11 undef = _ := hat 5 (List.contains_iff_mem.1 (by kernel_rfl)) 11 rfl
      refine pred_runs (d := 12) meetOp6 rfl (v := .string (str r.hi)) (w' := w) ?_ (Step.refl _ _) rfl
      intro oo hoo
      simp only [execOp, hoo, Act.eval, n11]
      go_simp
    | 7, _ =>
      refine pred_runs (d := 13) meetOp7 rfl (v := .pointer (some ⟨b3, 1, none⟩)) (w' := w) ?_ (Step.refl _ _) rfl
      intro oo hoo
      simp only [execOp, hoo, Act.eval, n3]
      go_simp
    | 8, _ =>
      have n13 : a.tmps.getD 13 undef = _ := hat 7 (List.contains_iff_mem.1 (by kernel_rfl)) 13 rfl
      refine pred_runs (d := 14) meetOp8 rfl (v := .string (str o.hi)) (w' := w) ?_ (Step.refl _ _) rfl
      intro oo hoo
      simp only [execOp, hoo, Act.eval, n13]
      go_simp
    | 9, _ =>
      have n12 : a.tmps.getD 12 undef = _ := hat 6 (List.contains_iff_mem.1 (by kernel_rfl)) 12 rfl
      have n14 : a.tmps.getD 14 undef = _ := hat 8 (List.contains_iff_mem.1 (by kernel_rfl)) 14 rfl
      refine pred_runs (d := 15) meetOp9 rfl (v := .slice (some ⟨w.heap.size, 0, none⟩) 2 2) (w' := w.alloc (.cells #[.string (str r.hi), .string (str o.hi)] 9)) ?_ ((Step.refl _ _).alloc _) ⟨w.heap.size, rfl, #[.string (str r.hi), .string (str o.hi)], [], block_alloc_new w _, rfl⟩
      intro oo hoo
      simp only [execOp, hoo, Act.eval, List.map_toArray, List.map_cons, List.map_nil, n12, n14]
      kernel_rfl
    | 10, _ =>
      obtain ⟨g, n15, hrow⟩ := hat 9 (List.contains_iff_mem.1 (by kernel_rfl)) 15 rfl
      refine pred_calls (d := 16) meetOp10 rfl Tryz.func189 (by kernel_rfl) (by kernel_rfl) (args := #[.slice (some ⟨g, 0, none⟩) 2 2, .func (.func 190) #[] #[]]) ?_ (v := .string (str (minH r.hi o.hi))) ?_
      · simp [Act.eval, n15]
      · exact (minFunc_any r.hi o.hi g 2 w hrow).mono fun e w' ⟨he, hs'⟩ => ⟨he, hs', rfl⟩
    | 11, _ =>
      have n10 : a.tmps.getD 10 undef = _ := hat 4 (List.contains_iff_mem.1 (by kernel_rfl)) 10 rfl
      have n16 : a.tmps.getD 16 undef = _ := hat 10 (List.contains_iff_mem.1 (by kernel_rfl)) 16 rfl
      refine pred_runs (d := 17) meetOp11 rfl (v := .agg #[.string (str (maxL r.lo o.lo)), .string (str (minH r.hi o.hi))]) (w' := w) ?_ (Step.refl _ _) rfl
      intro oo hoo
      simp only [execOp, hoo, Act.eval, List.map_toArray, List.map_cons, List.map_nil, n10, n16]
      kernel_rfl
    | 12, _ =>
      refine pred_runs (d := 5) meetOp12 rfl (v := .pointer (some ⟨w.heap.size, 0, none⟩)) (w' := w.alloc (.cells #[.string ⟨#[]⟩, .string ⟨#[]⟩] 166)) ?_ ((Step.refl _ _).alloc _) ⟨w.heap.size, rfl, hs.size, _, _, block_alloc_new w _⟩
      intro oo hoo
      simp only [execOp, hoo, Act.eval]
      kernel_rfl
  · intro j hj
    match j, hj with
    | 0, _ => exact ⟨_, rfl⟩
    | 1, _ => exact ⟨_, rfl⟩
    | 2, _ => exact ⟨_, rfl⟩
    | 3, _ => exact ⟨_, rfl⟩
    | 4, _ => exact ⟨_, rfl⟩
    | 5, _ => exact ⟨_, rfl⟩
    | 6, _ => exact ⟨_, rfl⟩
    | 7, _ => exact ⟨_, rfl⟩
    | 8, _ => exact ⟨_, rfl⟩
    | 9, _ => exact ⟨_, rfl⟩
    | 10, _ => exact ⟨_, rfl⟩
    | 11, _ => exact ⟨_, rfl⟩
    | 12, _ => exact ⟨_, rfl⟩
  · intro w vals hs hl hv
    match vals, hl with
    | [v0, v1, v2, v3, v4, v5, v6, v7, v8, v9, v10, v11, v12], _ =>
      obtain rfl : v0 = _ := hv 0 (by decide)
      obtain rfl : v1 = _ := hv 1 (by decide)
      obtain rfl : v2 = _ := hv 2 (by decide)
      obtain rfl : v3 = _ := hv 3 (by decide)
      obtain rfl : v4 = _ := hv 4 (by decide)
      obtain rfl : v5 = _ := hv 5 (by decide)
      obtain rfl : v6 = _ := hv 6 (by decide)
      obtain rfl : v7 = _ := hv 7 (by decide)
      obtain rfl : v8 = _ := hv 8 (by decide)
      obtain rfl : v10 = _ := hv 10 (by decide)
      obtain rfl : v11 = _ := hv 11 (by decide)
      obtain ⟨g, rfl, hg, x, y, hb⟩ : ∃ g, v12 = .pointer (some ⟨g, 0, none⟩) ∧ w0.heap.size ≤ g ∧ ∃ x y, w.heap[g]? = some (.cells #[x, y] 166 (0, 0)) := hv 12 (by decide)
      have k0 : w.cell? ⟨g, 0, none⟩ = some x := by simpa using cell_of_block hb 0
      have k1 : w.cell? ⟨g, 1, none⟩ = some y := by simpa using cell_of_block hb 1
      have z0 := frozen_of_block hb 0
      have z1 := frozen_of_block hb 1
      have hb2 := block_setCell (block_setCell hb 0 (.string (str (maxL r.lo o.lo)))) 1 (.string (str (minH r.hi o.hi)))
      have hr : Skips Tryz.prog (putAll a0 meetDl [.pointer (some ⟨b2, 0, none⟩), .string (str r.lo), .pointer (some ⟨b3, 0, none⟩), .string (str o.lo), .string (str (maxL r.lo o.lo)), .pointer (some ⟨b2, 1, none⟩), .string (str r.hi), .pointer (some ⟨b3, 1, none⟩), .string (str o.hi), v9, .string (str (minH r.hi o.hi)), .agg #[.string (str (maxL r.lo o.lo)), .string (str (minH r.hi o.hi))], .pointer (some ⟨g, 0, none⟩)])
          (Op.store 166 (Operand.tmp 5) (Operand.tmp 17)) w ((w.setCell ⟨g, 0, none⟩ (.string (str (maxL r.lo o.lo)))).setCell ⟨g, 1, none⟩ (.string (str (minH r.hi o.hi)))) := by
        intro oo hoo
        have p5 := putAll_at meetDl [.pointer (some ⟨b2, 0, none⟩), .string (str r.lo), .pointer (some ⟨b3, 0, none⟩), .string (str o.lo), .string (str (maxL r.lo o.lo)), .pointer (some ⟨b2, 1, none⟩), .string (str r.hi), .pointer (some ⟨b3, 1, none⟩), .string (str o.hi), v9, .string (str (minH r.hi o.hi)), .agg #[.string (str (maxL r.lo o.lo)), .string (str (minH r.hi o.hi))], .pointer (some ⟨g, 0, none⟩)] a0 12 5 _ meet_nd rfl rfl (by rw [hsz]; decide)
        have p17 := putAll_at meetDl [.pointer (some ⟨b2, 0, none⟩), .string (str r.lo), .pointer (some ⟨b3, 0, none⟩), .string (str o.lo), .string (str (maxL r.lo o.lo)), .pointer (some ⟨b2, 1, none⟩), .string (str r.hi), .pointer (some ⟨b3, 1, none⟩), .string (str o.hi), v9, .string (str (minH r.hi o.hi)), .agg #[.string (str (maxL r.lo o.lo)), .string (str (minH r.hi o.hi))], .pointer (some ⟨g, 0, none⟩)] a0 11 17 _ meet_nd rfl rfl (by rw [hsz]; decide)
        simp only [execOp, hoo, Act.eval, p5, p17]
        go_simp
      refine op_skips meetOp13 hr (hend _ v9 g ?_ hg (by simpa using hb2))
      exact (hs.setCell (p := ⟨g, 0, none⟩) (.inr hg) _).setCell (p := ⟨g, 1, none⟩) (.inr hg) _
end Go.Proofs.YtoobelcphcndoaaGreat
namespace Go.Proofs.YtoobelcphcndoaaGreat
open Go.RowKit
set_option linter.unusedVariables false
set_option linter.unusedSimpArgs false

/-- A pair of texts in a block of its own. -/
def PairAt (w : World) (g : Nat) (t : TypeId) (x y : List UInt8) : Prop := w.heap[g]? = some (.cells #[.string (str x), .string (str y)] t (0, 0))
theorem PairAt.c0 {w : World} {g : Nat} {t : TypeId} {x y : List UInt8} (h : PairAt w g t x y) : w.cell? ⟨g, 0, none⟩ = some (.string (str x)) := by simpa using cell_of_block h 0
theorem PairAt.c1 {w : World} {g : Nat} {t : TypeId} {x y : List UInt8} (h : PairAt w g t x y) : w.cell? ⟨g, 1, none⟩ = some (.string (str y)) := by simpa using cell_of_block h 1
theorem PairAt.f {w : World} {g : Nat} {t : TypeId} {x y : List UInt8} (h : PairAt w g t x y) (j : Nat) : w.frozen? ⟨g, j, none⟩ = false := frozen_of_block h j
theorem PairAt.step {w w' : World} {g : Nat} {t : TypeId} {x y : List UInt8} (h : PairAt w g t x y) (hs : Step noF w w') : PairAt w' g t x y := (hs.block g (lt_of_block h) (fun x => x)).trans h
theorem PairAt.set0 {w : World} {g : Nat} {t : TypeId} {x y : List UInt8} (h : PairAt w g t x y) (z : List UInt8) : PairAt (w.setCell ⟨g, 0, none⟩ (.string (str z))) g t z y := by simpa [PairAt] using block_setCell h 0 (.string (str z))
theorem PairAt.set1 {w : World} {g : Nat} {t : TypeId} {x y : List UInt8} (h : PairAt w g t x y) (z : List UInt8) : PairAt (w.setCell ⟨g, 1, none⟩ (.string (str z))) g t x z := by simpa [PairAt] using block_setCell h 1 (.string (str z))
theorem pair_new (w : World) (t : TypeId) (x y : List UInt8) : PairAt (w.alloc (.cells #[.string (str x), .string (str y)] t)) w.heap.size t x y := block_alloc_new w _
theorem PairAt.alloc {w : World} {g : Nat} {t : TypeId} {x y : List UInt8} (h : PairAt w g t x y) (o : Obj) : PairAt (w.alloc o) g t x y := block_alloc_old h o

set_option maxHeartbeats 2000000 in
set_option maxRecDepth 100000 in
theorem meet_any (r o : Rg) (w : World) : Calls Tryz.prog 175 #[r.val, o.val] w fun e w' => e = .returned (r.meet o).val ∧ Step noF w w' := by
  have e0 : r.val = .agg #[.string (str r.lo), .string (str r.hi)] := rfl
  have e1 : o.val = .agg #[.string (str o.lo), .string (str o.hi)] := rfl
  have h0 := nil_str
  rw [e0, e1]
  clear e0 e1
  obtain ⟨W3, hW3⟩ : ∃ W3, (((w.alloc (.cells #[.string (str r.lo), .string (str r.hi)] 166)).alloc (.cells #[.string (str o.lo), .string (str o.hi)] 166)).alloc (.cells #[.string (str []), .string (str [])] 166)) = W3 := ⟨_, rfl⟩
  have S3 : Hid (Step noF w W3) := by rw [← hW3]; exact (((Step.refl noF w).alloc _).alloc _).alloc _
  have P1 : Hid (PairAt W3 w.heap.size 166 r.lo r.hi) := by rw [← hW3]; exact ((pair_new w 166 r.lo r.hi).alloc _).alloc _
  have P2 : Hid (PairAt W3 (w.heap.size + 1) 166 o.lo o.hi) := by
    have := (pair_new (w.alloc (.cells #[.string (str r.lo), .string (str r.hi)] 166)) 166 o.lo o.hi).alloc (.cells #[.string (str []), .string (str [])] 166)
    rw [← hW3]
    rw [World.size_alloc] at this
    exact this
  have P3 : Hid (PairAt W3 (w.heap.size + 1 + 1) 166 [] []) := by
    have := pair_new ((w.alloc (.cells #[.string (str r.lo), .string (str r.hi)] 166)).alloc (.cells #[.string (str o.lo), .string (str o.hi)] 166)) 166 [] []
    rw [← hW3]
    rw [World.size_alloc, World.size_alloc] at this
    exact this
  have HW := hid hW3
  clear hW3
  go_enter Tryz.func175, Tryz.ntmps175
  go_wp2_with fail
  change Code.wp _ (Code.region 1 ((Tryz.f175.body.bind (regionOps 1)).getD #[]) true) _ _ _
  rw [HW.out]
  refine meet_go r o w.heap.size (w.heap.size + 1) W3 P1.out.c0 P1.out.c1 P2.out.c0 P2.out.c1 _ rfl rfl rfl ?_
  intro w1 v15 g s1 hg hb
  have HG : Hid (PairAt w1 g 166 (maxL r.lo o.lo) (minH r.hi o.hi)) := hb
  have P4 : Hid (PairAt w1 (w.heap.size + 1 + 1) 166 [] []) := P3.out.step s1
  have S4 : Hid (Step noF w w1) := S3.out.trans s1
  have hne : Hid (g ≠ w.heap.size + 1 + 1) := by
    have h := lt_of_block P3.out
    show g ≠ _
    omega
  have T := turned_any ⟨maxL r.lo o.lo, minH r.hi o.hi⟩
  have g0 := HG.out.c0
  have g1 := HG.out.c1
  have HS := hid s1
  have HGE := hid hg
  clear hb hg s1
  simp only [putAll, meetDl]
  obtain ⟨lo, hlo⟩ : ∃ lo, maxL r.lo o.lo = lo := ⟨_, rfl⟩
  obtain ⟨hi, hhi⟩ : ∃ hi, minH r.hi o.hi = hi := ⟨_, rfl⟩
  rw [hlo] at g0 T HG ⊢
  rw [hhi] at g1 T HG ⊢
  have HLO := hid hlo
  have HHI := hid hhi
  clear hlo hhi
  go_wp2_with fail
  refine (T _).mono ?_
  rintro e w2 ⟨rfl, s2⟩
  have HG2 := hid (HG.out.step s2)
  have P5 := hid (P4.out.step s2)
  have S5 : Hid (Step noF w w2) := S4.out.trans s2
  clear g0 g1
  have g0 := HG2.out.c0
  have g1 := HG2.out.c1
  have f1 := HG2.out.f 1
  have HGE2 : Hid (w.heap.size ≤ g) := by
    have := S3.out.size
    have := HGE.out
    show _ ≤ _
    omega
  cases ht : (Rg.mk lo hi).turned
  · have HE : Hid (r.meet o = ⟨lo, hi⟩) := by
      show _ = _
      unfold Rg.meet
      rw [HLO.out, HHI.out, ht]
      rfl
    have q0 := P5.out.c0
    have q1 := P5.out.c1
    have qf0 := P5.out.f 0
    have qf1 := P5.out.f 1
    have P7 := hid ((P5.out.set0 lo).set1 hi)
    have x0 := P7.out.c0
    have x1 := P7.out.c1
    go_wp2_with fail
    refine bodyPost_ret (v := .agg #[.string (str lo), .string (str hi)]) (by simp [results, Tryz.results175, go_sem, *]) rfl ?_
    refine ⟨by rw [HE.out]; rfl, ?_⟩
    refine (S5.out.setCell (p := ⟨w.heap.size + 1 + 1, 0, none⟩) (.inr (by show _ ≤ w.heap.size + 1 + 1; omega)) _).setCell (p := ⟨w.heap.size + 1 + 1, 1, none⟩) (.inr (by show _ ≤ w.heap.size + 1 + 1; omega)) _
  · have HE : Hid (r.meet o = ⟨lo, lo⟩) := by
      show _ = _
      unfold Rg.meet
      rw [HLO.out, HHI.out, ht]
      rfl
    have HG3 : Hid (PairAt (w2.setCell ⟨g, 1, none⟩ (.string (str lo))) g 166 lo lo) := HG2.out.set1 lo
    have P6 : Hid (PairAt (w2.setCell ⟨g, 1, none⟩ (.string (str lo))) (w.heap.size + 1 + 1) 166 [] []) := by
      show _ = _
      rw [Below.heap_setCell _ _ _ _ (fun h => hne.out h.symm)]
      exact P5.out
    have k0 := HG3.out.c0
    have k1 := HG3.out.c1
    have q0 := P6.out.c0
    have q1 := P6.out.c1
    have qf0 := P6.out.f 0
    have qf1 := P6.out.f 1
    have P7 := hid ((P6.out.set0 lo).set1 lo)
    have x0 := P7.out.c0
    have x1 := P7.out.c1
    go_wp2_with fail
    refine bodyPost_ret (v := .agg #[.string (str lo), .string (str lo)]) (by simp [results, Tryz.results175, go_sem, *]) rfl ?_
    refine ⟨by rw [HE.out]; rfl, ?_⟩
    refine ((S5.out.setCell (p := ⟨g, 1, none⟩) (.inr HGE2.out) _).setCell (p := ⟨w.heap.size + 1 + 1, 0, none⟩) (.inr (by show _ ≤ w.heap.size + 1 + 1; omega)) _).setCell (p := ⟨w.heap.size + 1 + 1, 1, none⟩) (.inr (by show _ ≤ w.heap.size + 1 + 1; omega)) _
end Go.Proofs.YtoobelcphcndoaaGreat
