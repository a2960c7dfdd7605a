/-
  The append in DevExact's last arm (its region 35), operation by operation.
-/
import Derived.Test.YthgcpeibjnflaaaApp
import Derived.Test.YthgcpeibjnflaaaDevArmsD
namespace Go.Proofs.Ythgcpeibjnflaaa
open Go.RowKit
set_option linter.unusedVariables false
set_option linter.unusedSimpArgs false

def appDl : List (Option Nat) := [some 99, some 100, some 101, some 102, some 103, some 104, some 105, some 106, some 107, some 108, some 109, some 110, some 111, none]
theorem app_dl : ((Try.f3.body.bind (regionOps 35)).getD #[]).toList.map (·.dst) = appDl := by kernel_rfl
theorem app_back : backB ((Try.f3.body.bind (regionOps 35)).getD #[]) = true := by kernel_rfl
theorem app_used : usedB ((Try.f3.body.bind (regionOps 35)).getD #[]) 13 = true := by kernel_rfl
theorem app_size : ((Try.f3.body.bind (regionOps 35)).getD #[]).size = 13 + 1 := by kernel_rfl
theorem app_nd : appDl.Pairwise (fun x y => x = none ∨ x ≠ y) := by decide
theorem app_lt (d : Nat) (h : some d ∈ appDl) : d < 313 := by
  have hh : appDl.all (fun o => o.all (fun d => decide (d < 313))) = true := by decide
  simpa using List.all_eq_true.1 hh _ h
theorem appOp0 : opIs ((Try.f3.body.bind (regionOps 35)).getD #[]) 0 (some 99) (Op.move (Operand.tmp 7)) none := opIs_of (by kernel_rfl)
theorem appOp1 : opIs ((Try.f3.body.bind (regionOps 35)).getD #[]) 1 (some 100) (Op.move (Operand.tmp 7)) none := opIs_of (by kernel_rfl)
theorem appOp2 : opIs ((Try.f3.body.bind (regionOps 35)).getD #[]) 2 (some 101) (Op.nilCheck (Operand.tmp 100)) none := opIs_of (by kernel_rfl)
theorem appOp3 : opIs ((Try.f3.body.bind (regionOps 35)).getD #[]) 3 (some 102) (Op.fieldAddr 38 (Operand.tmp 101) 1) none := opIs_of (by kernel_rfl)
theorem appOp4 : opIs ((Try.f3.body.bind (regionOps 35)).getD #[]) 4 (some 103) (Op.load 36 (Operand.tmp 102)) none := opIs_of (by kernel_rfl)
theorem appOp5 : opIs ((Try.f3.body.bind (regionOps 35)).getD #[]) 5 (some 104) (Op.fieldAddr 30 (Operand.tmp 9) 1) none := opIs_of (by kernel_rfl)
theorem appOp6 : opIs ((Try.f3.body.bind (regionOps 35)).getD #[]) 6 (some 105) (Op.load 3 (Operand.tmp 104)) none := opIs_of (by kernel_rfl)
theorem appOp7 : opIs ((Try.f3.body.bind (regionOps 35)).getD #[]) 7 (some 106) (Op.move (Operand.tmp 14)) none := opIs_of (by kernel_rfl)
theorem appOp8 : opIs ((Try.f3.body.bind (regionOps 35)).getD #[]) 8 (some 107) (Op.build 45 #[(0, Operand.tmp 105), (1, Operand.tmp 106)]) none := opIs_of (by kernel_rfl)
theorem appOp9 : opIs ((Try.f3.body.bind (regionOps 35)).getD #[]) 9 (some 108) (Op.buildSlice 36 1 #[(0, Operand.tmp 107)]) none := opIs_of (by kernel_rfl)
theorem appOp10 : opIs ((Try.f3.body.bind (regionOps 35)).getD #[]) 10 (some 109) (Op.call { callee := Callee.builtin Builtin.append, args := #[Operand.tmp 103, Operand.tmp 108], argTypes := #[36, 36] }) none := opIs_of (by kernel_rfl)
theorem appOp11 : opIs ((Try.f3.body.bind (regionOps 35)).getD #[]) 11 (some 110) (Op.nilCheck (Operand.tmp 99)) none := opIs_of (by kernel_rfl)
theorem appOp12 : opIs ((Try.f3.body.bind (regionOps 35)).getD #[]) 12 (some 111) (Op.fieldAddr 38 (Operand.tmp 110) 1) none := opIs_of (by kernel_rfl)
theorem appOp13 : opIs ((Try.f3.body.bind (regionOps 35)).getD #[]) 13 (none) (Op.store 36 (Operand.tmp 111) (Operand.tmp 109)) none := opIs_of (by kernel_rfl)
def appVals (q xb m lc z g : Nat) (la : Option Addr) (X : ByteArray) : List (Option Value) := [some (.pointer (some ⟨q, 0, none⟩)), some (.pointer (some ⟨q, 0, none⟩)), some (.pointer (some ⟨q, 0, none⟩)), some (.pointer (some ⟨q, 1, none⟩)), some (.slice la m lc), some (.pointer (some ⟨xb, 1, none⟩)), some (.int .i64 z), some (.string X), some (.agg #[.int .i64 z, .string X]), some (.slice (some ⟨g, 0, none⟩) 1 1), none, some (.pointer (some ⟨q, 0, none⟩)), some (.pointer (some ⟨q, 1, none⟩)), none]

/-- What stands behind the append. -/
def AfterApp (w3 wa : World) (lv : Value) (m : Nat) (cs news : List Value) (w : World) (v : Value) : Prop := w.ownsRow 0 45 2 v (m + 1) (cs ++ news) ∧ wa.grownBy w lv.ownBlock ∧ Fresh wa lv v
/-- The worlds between. -/
def AppSt (w3 : World) (lv : Value) (m : Nat) (cs news : List Value) (ob : Obj) (listed : Array Bool) (a : Act) (w : World) : Prop :=
  (listed.getD 10 false = false → listed.getD 9 false = false → w = w3.drew) ∧ (listed.getD 10 false = false → listed.getD 9 false = true → w = w3.drew.alloc ob) ∧ (listed.getD 10 false = true → AfterApp w3 (w3.drew.alloc ob) lv m cs news w (a.tmps.getD 109 undef))
theorem AppSt.pure {w3 : World} {lv : Value} {m : Nat} {cs news : List Value} {ob : Obj} {listed : Array Bool} {a : Act} {w : World} (h : AppSt w3 lv m cs news ob listed a w) (i d : Nat) (v : Value) (h9 : i ≠ 9) (h10 : i ≠ 10) (hd : d ≠ 109) : AppSt w3 lv m cs news ob (listed.setIfInBounds i true) (a.put (some d) v) w := by
  obtain ⟨x1, x2, x3⟩ := h
  unfold AppSt
  rw [getD_set_ne false h10, getD_set_ne false h9, put_getD_ne a (some d) v 109 (fun e => hd (by injection e))]
  exact ⟨x1, x2, x3⟩

set_option maxHeartbeats 4000000 in
set_option maxRecDepth 100000 in
theorem app_go (q xb m lc z : Nat) (la : Option Addr) (X : ByteArray) (w3 : World) (v0 v2 v3 v4 v5 v6 v7 : Value) (u1 : w3.heap[q]? = some (.cells #[v0, .slice la m lc, v2, v3, v4, v5, v6, v7] 38 (0, 0))) (hne : some q ≠ (Value.slice la m lc).ownBlock) (cs : List Value) (u4 : w3.ownsRow 0 45 2 (.slice la m lc) m cs) (hm3 : m ≤ 1000)
    (m1 : w3.cell? ⟨xb, 1, none⟩ = some (.int .i64 z)) {Q : Exit → Act → World → Prop} (a0 : Act) (hsz : a0.tmps.size = 313) (h7 : a0.tmps.getD 7 undef = .pointer (some ⟨q, 0, none⟩)) (h9 : a0.tmps.getD 9 undef = .pointer (some ⟨xb, 0, none⟩)) (h14 : a0.tmps.getD 14 undef = .string X)
    (hend : ∀ a w v, AfterApp w3 (w3.drew.alloc (.cells #[.int .i64 z, .string X] 45)) (.slice la m lc) m cs [.int .i64 z, .string X] w v → a.defers = a0.defers → a.tmps.size = 313 → (∀ k, some k ∉ appDl → a.tmps.getD k undef = a0.tmps.getD k undef) → Q .normal a (w.setCell ⟨q, 1, none⟩ v)) :
    (Code.region 35 ((Try.f3.body.bind (regionOps 35)).getD #[]) true).wp Try.prog Q a0 w3 := by
  obtain ⟨ob, hob⟩ : ∃ ob : Obj, ob = .cells #[.int .i64 z, .string X] 45 := ⟨_, rfl⟩
  rw [← hob] at hend
  have c1 : w3.cell? ⟨q, 1, none⟩ = some (.slice la m lc) := cell_of_block u1 1
  obtain ⟨i0, hi, hz0, hzz, hz2⟩ := info_three info_rwrite
  have wc1 : ∀ w, (w = w3.drew ∨ w = w3.drew.alloc ob) → w.cell? ⟨q, 1, none⟩ = some (.slice la m lc) := by
    rintro w (rfl | rfl)
    · exact c1
    · exact cell_alloc (w := w3.drew) c1 _
  refine wp_region_st (AppSt w3 (.slice la m lc) m cs [.int .i64 z, .string X] ob) (appVals q xb m lc z w3.heap.size la X) appDl 13 app_size (by kernel_rfl) app_back app_used app_dl app_nd (fun d h => by rw [hsz]; exact app_lt d h) rfl ?_ ?_ ?_
  · have h0 : ∀ j, (Array.replicate ((Try.f3.body.bind (regionOps 35)).getD #[]).size false).getD j false = false := fun j => by
      rw [Array.getD_eq_getD_getElem?, Array.getElem?_replicate]
      split <;> rfl
    unfold AppSt
    rw [h0, h0]
    exact ⟨fun _ _ => rfl, fun _ h => (by cases h), fun h => (by cases h)⟩
  · intro i hi13 listed a w hls hcl hnl hdl hst hs2 hfr hat
    have n7 := (hfr 7 (by decide)).trans h7
    have n9 := (hfr 9 (by decide)).trans h9
    have n14 := (hfr 14 (by decide)).trans h14
    have early : ∀ k, (deps ((Try.f3.body.bind (regionOps 35)).getD #[]) 10).contains k = true → listed.getD k true = false → listed.getD 10 false = false := by
      intro k hk hk2
      cases h : listed.getD 10 false with
      | false => rfl
      | true =>
        exfalso
        have h2 := hcl 10 (by omega) h k (List.contains_iff_mem.1 hk)
        rcases Nat.lt_or_ge k listed.size with hlt | hlt
        · rw [listed_not hlt hk2] at h2; cases h2
        · rw [Array.getD_eq_getD_getElem?, Array.getElem?_eq_none hlt] at h2; cases h2
    have wof : listed.getD 10 false = false → w = w3.drew ∨ w = w3.drew.alloc ob := by
      intro h
      cases h9' : listed.getD 9 false with
      | false => exact .inl (hst.1 h h9')
      | true => exact .inr (hst.2.1 h h9')
    match i, hi13 with
    | 0, _ =>
      refine op_runs appOp0 (wants_none a) (v := .pointer (some ⟨q, 0, none⟩)) (w' := w) ?_ ⟨99, _, rfl, fun u hu => by injection hu with hu; injection hu, rfl, hst.pure 0 99 _ (by decide) (by decide) (by decide)⟩
      intro oo hoo
      simp only [execOp, hoo, Act.eval, Option.map_some, Option.map_none, n7]
      go_simp
    | 1, _ =>
      refine op_runs appOp1 (wants_none a) (v := .pointer (some ⟨q, 0, none⟩)) (w' := w) ?_ ⟨100, _, rfl, fun u hu => by injection hu with hu; injection hu, rfl, hst.pure 1 100 _ (by decide) (by decide) (by decide)⟩
      intro oo hoo
      simp only [execOp, hoo, Act.eval, Option.map_some, Option.map_none, n7]
      go_simp
    | 2, _ =>
      have n100 : a.tmps.getD 100 undef = .pointer (some ⟨q, 0, none⟩) := hat 1 (List.contains_iff_mem.1 (by kernel_rfl)) 100 _ rfl rfl
      refine op_runs appOp2 (wants_none a) (v := .pointer (some ⟨q, 0, none⟩)) (w' := w) ?_ ⟨101, _, rfl, fun u hu => by injection hu with hu; injection hu, rfl, hst.pure 2 101 _ (by decide) (by decide) (by decide)⟩
      intro oo hoo
      simp only [execOp, hoo, Act.eval, Option.map_some, Option.map_none, n100]
      go_simp
    | 3, _ =>
      have n101 : a.tmps.getD 101 undef = .pointer (some ⟨q, 0, none⟩) := hat 2 (List.contains_iff_mem.1 (by kernel_rfl)) 101 _ rfl rfl
      refine op_runs appOp3 (wants_none a) (v := .pointer (some ⟨q, 1, none⟩)) (w' := w) ?_ ⟨102, _, rfl, fun u hu => by injection hu with hu; injection hu, rfl, hst.pure 3 102 _ (by decide) (by decide) (by decide)⟩
      intro oo hoo
      simp only [execOp, hoo, Act.eval, Option.map_some, Option.map_none, n101]
      go_simp
    | 4, _ =>
      have n102 : a.tmps.getD 102 undef = .pointer (some ⟨q, 1, none⟩) := hat 3 (List.contains_iff_mem.1 (by kernel_rfl)) 102 _ rfl rfl
      have hc := wc1 w (wof (early 4 (by kernel_rfl) hnl))
      refine op_runs appOp4 (wants_none a) (v := .slice la m lc) (w' := w) ?_ ⟨103, _, rfl, fun u hu => by injection hu with hu; injection hu, rfl, hst.pure 4 103 _ (by decide) (by decide) (by decide)⟩
      intro oo hoo
      simp only [execOp, hoo, Act.eval, Option.map_some, Option.map_none, n102]
      go_simp
    | 5, _ =>
      refine op_runs appOp5 (wants_none a) (v := .pointer (some ⟨xb, 1, none⟩)) (w' := w) ?_ ⟨104, _, rfl, fun u hu => by injection hu with hu; injection hu, rfl, hst.pure 5 104 _ (by decide) (by decide) (by decide)⟩
      intro oo hoo
      simp only [execOp, hoo, Act.eval, Option.map_some, Option.map_none, n9]
      go_simp
    | 6, _ =>
      have n104 : a.tmps.getD 104 undef = .pointer (some ⟨xb, 1, none⟩) := hat 5 (List.contains_iff_mem.1 (by kernel_rfl)) 104 _ rfl rfl
      have hnot : listed.getD 10 false = false := by
        cases h : listed.getD 10 false with
        | false => rfl
        | true =>
          exfalso
          have h2 := hcl 8 (by omega) (hcl 9 (by omega) (hcl 10 (by omega) h 9 (List.contains_iff_mem.1 (by kernel_rfl))) 8 (List.contains_iff_mem.1 (by kernel_rfl))) 6 (List.contains_iff_mem.1 (by kernel_rfl))
          rw [listed_not (by omega) hnl] at h2; cases h2
      have hm : w.cell? ⟨xb, 1, none⟩ = some (.int .i64 z) := by
        rcases wof hnot with rfl | rfl
        · exact m1
        · exact cell_alloc (w := w3.drew) m1 _
      refine op_runs appOp6 (wants_none a) (v := .int .i64 z) (w' := w) ?_ ⟨105, _, rfl, fun u hu => by injection hu with hu; injection hu, rfl, hst.pure 6 105 _ (by decide) (by decide) (by decide)⟩
      intro oo hoo
      simp only [execOp, hoo, Act.eval, Option.map_some, Option.map_none, n104]
      go_simp
    | 7, _ =>
      refine op_runs appOp7 (wants_none a) (v := .string X) (w' := w) ?_ ⟨106, _, rfl, fun u hu => by injection hu with hu; injection hu, rfl, hst.pure 7 106 _ (by decide) (by decide) (by decide)⟩
      intro oo hoo
      simp only [execOp, hoo, Act.eval, Option.map_some, Option.map_none, n14]
      go_simp
    | 8, _ =>
      have n105 : a.tmps.getD 105 undef = .int .i64 z := hat 6 (List.contains_iff_mem.1 (by kernel_rfl)) 105 _ rfl rfl
      have n106 : a.tmps.getD 106 undef = .string X := hat 7 (List.contains_iff_mem.1 (by kernel_rfl)) 106 _ rfl rfl
      refine op_runs appOp8 (wants_none a) (v := .agg #[.int .i64 z, .string X]) (w' := w) ?_ ⟨107, _, rfl, fun u hu => by injection hu with hu; injection hu, rfl, hst.pure 8 107 _ (by decide) (by decide) (by decide)⟩
      intro oo hoo
      simp only [execOp, hoo, Act.eval, Option.map_some, Option.map_none, n105, n106]
      simp only [List.map_toArray, List.map_cons, List.map_nil, n105, n106]
      kernel_rfl
    | 9, _ =>
      have n107 : a.tmps.getD 107 undef = .agg #[.int .i64 z, .string X] := hat 8 (List.contains_iff_mem.1 (by kernel_rfl)) 107 _ rfl rfl
      have hnot := early 9 (by kernel_rfl) hnl
      obtain rfl := hst.1 hnot (listed_not (by omega) hnl)
      refine op_runs appOp9 (wants_none a) (v := .slice (some ⟨w3.heap.size, 0, none⟩) 1 1) (w' := w3.drew.alloc ob) ?_ ⟨108, _, rfl, fun u hu => by injection hu with hu; injection hu, rfl, ?_⟩
      · intro oo hoo
        rw [hob]
        simp only [execOp, hoo, Act.eval, Option.map_some, Option.map_none, n107]
        simp only [List.map_toArray, List.map_cons, List.map_nil, n107]
        kernel_rfl
      · unfold AppSt
        rw [getD_set_ne false (by decide : (9 : Nat) ≠ 10), listed_set (by omega)]
        exact ⟨fun _ h => (by cases h), fun _ _ => rfl, fun h => (by rw [hnot] at h; cases h)⟩
    | 10, _ =>
      have n103 : a.tmps.getD 103 undef = .slice la m lc := hat 4 (List.contains_iff_mem.1 (by kernel_rfl)) 103 _ rfl rfl
      have n108 : a.tmps.getD 108 undef = .slice (some ⟨w3.heap.size, 0, none⟩) 1 1 := hat 9 (List.contains_iff_mem.1 (by kernel_rfl)) 108 _ rfl rfl
      obtain rfl := hst.2.1 (listed_not (by omega) hnl) (hdl 9 (List.contains_iff_mem.1 (by kernel_rfl)))
      refine op_runs_some appOp10 (fun oo hoo => ?_)
      obtain ⟨v', w', hrun, r1, r2, r3⟩ := run_append_fresh (P := Try.prog) (w3.drew.alloc ob) 36 oo.type 45 i0 _ 2 24 Try.underlying36 hi hz0 hzz hz2 rfl (by decide) (.slice la m lc) m cs (by exact u4.alloc _) ⟨w3.heap.size, 0, none⟩ 1 1 [.int .i64 z, .string X] rfl (by rw [hob]; exact two_cells _ _ _ _ _ rfl) (by intro u hu; simp at hu; rcases hu with rfl | rfl <;> rfl) (by unfold maxLen; omega) (by omega)
      refine ⟨v', w', ?_, 109, v', rfl, fun u hu => (by injection hu with hu; cases hu), rfl, ?_⟩
      · simp [execOp, hoo, resolve, invoke, builtin, Act.eval, n103, n108, hrun, Result.andThen]
      · unfold AppSt
        rw [listed_set (by omega), put_getD_self a 109 v' (by rw [hs2, hsz]; decide)]
        exact ⟨fun h => (by cases h), fun h => (by cases h), fun _ => ⟨r1, r2, r3⟩⟩
    | 11, _ =>
      have n99 : a.tmps.getD 99 undef = .pointer (some ⟨q, 0, none⟩) := hat 0 (List.contains_iff_mem.1 (by kernel_rfl)) 99 _ rfl rfl
      refine op_runs appOp11 (wants_none a) (v := .pointer (some ⟨q, 0, none⟩)) (w' := w) ?_ ⟨110, _, rfl, fun u hu => by injection hu with hu; injection hu, rfl, hst.pure 11 110 _ (by decide) (by decide) (by decide)⟩
      intro oo hoo
      simp only [execOp, hoo, Act.eval, Option.map_some, Option.map_none, n99]
      go_simp
    | 12, _ =>
      have n110 : a.tmps.getD 110 undef = .pointer (some ⟨q, 0, none⟩) := hat 11 (List.contains_iff_mem.1 (by kernel_rfl)) 110 _ rfl rfl
      refine op_runs appOp12 (wants_none a) (v := .pointer (some ⟨q, 1, none⟩)) (w' := w) ?_ ⟨111, _, rfl, fun u hu => by injection hu with hu; injection hu, rfl, hst.pure 12 111 _ (by decide) (by decide) (by decide)⟩
      intro oo hoo
      simp only [execOp, hoo, Act.eval, Option.map_some, Option.map_none, n110]
      go_simp
  · intro listed a w hall hst hdf hs2 hfr hat
    have n111 : a.tmps.getD 111 undef = .pointer (some ⟨q, 1, none⟩) := hat 12 (by omega) 111 _ rfl rfl
    have hA := hst.2.2 (hall 10 (by omega))
    obtain ⟨v, hv⟩ : ∃ v, a.tmps.getD 109 undef = v := ⟨_, rfl⟩
    rw [hv] at hA
    have hb' := grown_block hA.2.1 (show (w3.drew.alloc ob).heap[q]? = _ from block_alloc_old (w := w3.drew) u1 ob) hne
    have c1' : w.cell? ⟨q, 1, none⟩ = some (.slice la m lc) := cell_of_block hb' 1
    have f1' := frozen_of_block hb' 1
    obtain ⟨ao, cc, rfl⟩ := owns_form hA.1
    have hr : Skips Try.prog a (Op.store 36 (Operand.tmp 111) (Operand.tmp 109)) w (w.setCell ⟨q, 1, none⟩ (.slice ao (m + 1) cc)) := by
      intro oo hoo
      simp only [execOp, hoo, Act.eval, n111, hv]
      go_simp
    exact op_skips appOp13 hr (hend a w _ hA hdf (hs2.trans hsz) hfr)
end Go.Proofs.Ythgcpeibjnflaaa
