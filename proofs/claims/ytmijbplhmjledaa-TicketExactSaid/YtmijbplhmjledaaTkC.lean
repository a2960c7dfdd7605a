/-
  What container/heap does with the numbers: Push, Pop.
-/
import Derived.Test.YtmijbplhmjledaaTkB
namespace Go.Proofs.Ytmijbplhmjledaa
open Go.RowKit
set_option linter.unusedVariables false
set_option linter.unusedSimpArgs false

theorem info_int : (Try.prog.info? 3).map (fun i => (i.zero, i.size, i.bytes)) = some (some (.int .i64 0), 1, 8) := by kernel_rfl
theorem assert_int (x : Int) (u : World) : (Instr.typeAssert (.iface 3 (.int .i64 x)) 20 3 false).run Try.prog u = .ok (.int .i64 x) u := by kernel_rfl
/-- The block p, and the row v. -/
def pvF (p : Nat) (v : Value) : Nat → Prop := fun k => k = p ∨ v.ownBlock = some k

set_option maxHeartbeats 2000000 in
theorem npush_any (w : World) (p : Nat) (A : Array Value) (T : TypeId) (hb : w.heap[p]? = some (.cells A T (0, 0))) (nv : Value) (ns : List Int) (hA : A[5]? = some nv) (ho : w.ownsRow 0 3 1 nv ns.length (intsOf ns)) (hne : nv.ownBlock ≠ some p) (hl : ns.length ≤ 1000000) (x : Int) :
    Calls Try.prog 82 #[.pointer (some ⟨p, 5, none⟩), .iface 3 (.int .i64 x)] w fun e w' => e = .returned (.tuple #[]) ∧ ∃ nv', w'.heap[p]? = some (.cells (A.setIfInBounds 5 nv') T (0, 0)) ∧ w'.ownsRow 0 3 1 nv' (ns.length + 1) (intsOf (ns ++ [x])) ∧ Step (pvF p nv) w w' ∧ Fresh w nv nv' := by
  obtain ⟨i0, hi, hz0, hz1, hz2⟩ := info_three info_int
  have c5 : w.cell? ⟨p, 5, none⟩ = some nv := by rw [cell_of_block hb]; exact hA
  obtain ⟨na, nc, rfl⟩ := owns_form ho
  have hx1 : Hid (∀ u ∈ [Value.int .i64 x], u.oneCell' = true) := fun u hu => by simp at hu; rw [hu]; rfl
  have hl1 : Hid (ns.length + 1 ≤ maxLen) := le_max (by omega)
  have hl2 : Hid ((ns.length + 1) * 8 ≤ 140737488355328) := by show _ ≤ _; omega
  have HB := hid hb
  have HA := hid hA
  have HO := hid ho
  have HNE := hid hne
  have c5n := fun o => cell_alloc c5 o
  have hta := assert_int x
  clear hb hA ho hne
  go_enter Try.func82, Try.ntmps82
  go_wp2
  go_region_law (refine step_append_own rfl (.tmp 7) (.tmp 10) 57 rfl 3 i0 (.int .i64 0) 1 8 Try.underlying57 hi hz0 hz1 hz2 rfl (by decide) (.slice na ns.length nc) _ _ (by simp [Act.eval]) (by exact HO.out.alloc _) ⟨w.heap.size, 0, none⟩ 1 1 [Value.int .i64 x] (by simp [Act.eval]) rfl (cell_one_new _ _ _) hx1.out hl1.out hl2.out ?_; intro v' w' ho' hg' hfr; have hb' := grown_block hg' (block_alloc_old HB.out _) (fun e => HNE.out e.symm); have hc' : w'.cell? ⟨p, 5, none⟩ = some (.slice na ns.length nc) := (by rw [cell_of_block hb']; exact HA.out); have hf' := frozen_of_block hb' 5; have HB' := hid hb'; clear hb'; obtain ⟨ao, cc, rfl⟩ := owns_form ho')
  all_goals go_wp2
  all_goals go_end0
  all_goals
    have hS : Step (pvF p (.slice na ns.length nc)) w (w.drew.alloc (.cells #[.int .i64 x] 3)) := (Step.refl _ w).drew.alloc _
    have hS2 : Step (pvF p (.slice na ns.length nc)) w w' := hS.grown hg' (fun k hk => .inl (.inr hk))
    have hFr : Fresh w (.slice na ns.length nc) (.slice ao (ns.length + 1) cc) := hfr.imp id (fun e k hk => Nat.le_trans hS.size (e k hk))
    have hvp : (Value.slice ao (ns.length + 1) cc).ownBlock ≠ some p := by
      rcases hFr with e | e
      · rw [e]; exact HNE.out
      · intro h; have := e p h; have := lt_of_block HB.out; omega
    refine ⟨rfl, _, block_setCell HB'.out 5 _, ?_, ?_, ?_⟩
    · rw [intsOf_append]
      exact owns_setCell ho' ⟨p, 5, none⟩ hvp _
    · exact hS2.setCell (p := ⟨p, 5, none⟩) (.inl (.inl rfl)) _
    · exact hFr

set_option maxHeartbeats 2000000 in
theorem npop_any (w : World) (p : Nat) (A : Array Value) (T : TypeId) (hb : w.heap[p]? = some (.cells A T (0, 0))) (g c m : Nat) (x : Int) (hA : A[5]? = some (.slice (some ⟨g, 0, none⟩) (m + 1) c)) (hmc : m + 1 ≤ c) (hm : m ≤ 1000000) (hx : w.cell? ⟨g, m, none⟩ = some (.int .i64 x)) :
    Calls Try.prog 81 #[.pointer (some ⟨p, 5, none⟩)] w fun e w' => e = .returned (.iface 3 (.int .i64 x)) ∧ w' = w.setCell ⟨p, 5, none⟩ (.slice (some ⟨g, 0, none⟩) m c) := by
  have c5 : w.cell? ⟨p, 5, none⟩ = some (.slice (some ⟨g, 0, none⟩) (m + 1) c) := by rw [cell_of_block hb]; exact hA
  have f5 := frozen_of_block hb 5
  clear hb hA
  go_enter Try.func81, Try.ntmps81
  go_wp2
  go_ret
  exact ⟨rfl, rfl⟩

set_option maxHeartbeats 2000000 in
/-- heap.Push. -/
theorem hpush_any (w : World) (p : Nat) (A : Array Value) (T : TypeId) (hb : w.heap[p]? = some (.cells A T (0, 0))) (nv : Value) (ns : List Int) (hA : A[5]? = some nv) (ho : w.ownsRow 0 3 1 nv ns.length (intsOf ns)) (hne : nv.ownBlock ≠ some p) (hl : ns.length ≤ 900000) (hh : IsHp ns) (x : Int) :
    Calls Try.prog 45 #[.iface 69 (.pointer (some ⟨p, 5, none⟩)), .iface 3 (.int .i64 x)] w fun e w' => e = .returned (.tuple #[]) ∧ ∃ nv' ms, w'.heap[p]? = some (.cells (A.setIfInBounds 5 nv') T (0, 0)) ∧ w'.ownsRow 0 3 1 nv' ms.length (intsOf ms) ∧ Step (pvF p nv) w w' ∧ Fresh w nv nv' ∧ ms.Perm (ns ++ [x]) ∧ IsHp ms := by
  have hp := npush_any w p A T hb nv ns hA ho hne (by omega) x
  have hmp := meth_ptr mrow_push 209 w p
  have hpl := lt_of_block hb
  have HH := hid hh
  have HNE := hid hne
  have HAS : Hid (5 < A.size) := (Array.getElem?_eq_some_iff.1 hA).1
  clear hb hA ho hne hh
  go_enter Try.func45, Try.ntmps45
  go_wp2_with fail
  refine hp.mono ?_
  rintro e w1 ⟨rfl, nv', hb1, ho1, s1, hf1⟩
  have hn2 : nv'.ownBlock ≠ some p := by
    rcases hf1 with e | e
    · rw [e]; exact HNE.out
    · intro h; have := e p h; omega
  obtain ⟨g, c, rfl, hnc, hr1, hob⟩ := rowIn_owns ho1 (by omega)
  have hlen : (ns ++ [x]).length = ns.length + 1 := by simp
  have hnum : NumAt w1 p g c (ns ++ [x]) := by
    refine ⟨?_, ?_, hr1, ?_⟩
    · rw [cell_of_block hb1, hlen, Array.getElem?_setIfInBounds, if_pos rfl, if_pos HAS.out]
    · rw [hlen]; exact ho1
    · rintro rfl; exact hn2 hob
  have hml := meth_val mrow_len 209 w1 p _ hnum.1
  have cu := up_any w1 p g c (ns ++ [x]) hnum ns.length (by rw [hlen]; omega) (by rw [hlen]; omega) (up_start HH.out x)
  have cn := nlen_any w1 (some ⟨g, 0, none⟩) (ns ++ [x]).length c
  have hi1 : (((ns ++ [x]).length : Nat) : Int) - 1 = (ns.length : Int) := by rw [hlen]; omega
  have HL := hid hlen
  have HOB := hid hob
  have HB1 := hid hb1
  have HNUM := hid hnum
  have hlb : (ns ++ [x]).length ≤ 1000000 := by rw [hlen]; omega
  obtain ⟨M, hM⟩ : ∃ M, (ns ++ [x]).length = M := ⟨_, rfl⟩
  rw [hM] at hml cn hi1 hlb
  clear hlen hM hb1 hnum hob hr1 ho1 hn2
  go_wp2_with fail
  refine cn.mono ?_
  rintro e w2 ⟨rfl, rfl⟩
  go_wp2_with fail
  refine cu.mono ?_
  rintro e w2 ⟨rfl, s2, ms, hn2, hpm, hhp⟩
  go_wp2_with fail
  go_end0
  have hml2 : ms.length = ns.length + 1 := hpm.length_eq.trans HL.out
  refine ⟨rfl, .slice (some ⟨g, 0, none⟩) (ns.length + 1) c, ms, ?_, ?_, ?_, hf1, hpm, hhp⟩
  · exact (s2.block p (lt_of_block HB1.out) HNUM.out.2.2.2).trans HB1.out
  · have := hn2.2.1
    rw [hml2] at this ⊢
    exact this
  · refine s1.then s2 (fun k hk => ?_)
    unfold oneF at hk
    subst hk
    rcases hf1 with e | e
    · left; right; rw [← e]; exact HOB.out
    · right; exact e _ HOB.out

set_option maxHeartbeats 2000000 in
/-- heap.Pop. -/
theorem hpop_any (w : World) (p : Nat) (A : Array Value) (T : TypeId) (hb : w.heap[p]? = some (.cells A T (0, 0))) (g c : Nat) (ns : List Int) (m : Nat) (hl : ns.length = m + 1) (hm : m ≤ 900000) (hA : A[5]? = some (.slice (some ⟨g, 0, none⟩) (m + 1) c)) (ho : w.ownsRow 0 3 1 (.slice (some ⟨g, 0, none⟩) (m + 1) c) (m + 1) (intsOf ns)) (hne : p ≠ g) (hh : IsHp ns) :
    Calls Try.prog 54 #[.iface 69 (.pointer (some ⟨p, 5, none⟩))] w fun e w' => ∃ x, e = .returned (.iface 3 (.int .i64 x)) ∧ ∃ ms, w'.heap[p]? = some (.cells (A.setIfInBounds 5 (.slice (some ⟨g, 0, none⟩) m c)) T (0, 0)) ∧ w'.ownsRow 0 3 1 (.slice (some ⟨g, 0, none⟩) m c) m (intsOf ms) ∧ Step (pvF p (.slice (some ⟨g, 0, none⟩) (m + 1) c)) w w' ∧ ns.Perm (x :: ms) ∧ IsHp ms ∧ ∀ z ∈ ns, x ≤ z := by
  have hnum : NumAt w p g c ns := by
    refine ⟨?_, by rw [hl]; exact ho, owns_rowIn ho, hne⟩
    rw [cell_of_block hb, hl]; exact hA
  have hml := meth_val mrow_len 209 w p _ hnum.1
  have cn := nlen_any w (some ⟨g, 0, none⟩) (m + 1) c
  have hms := meth_val mrow_swap 209 w p _ hnum.1
  have cs := nswap_any w p g c ns hnum 0 m (by omega) (by omega)
  rw [hl] at hml hms cs
  have hcap : Hid (m + 1 ≤ c) := by
    rcases ho.2 with ⟨hv, _⟩ | ⟨g', cap, cur, hv, _, _, hnc, _⟩
    · injection hv with hv; cases hv
    · injection hv with _ _ h3; subst h3; exact hnc
  have HNUM := hid hnum
  have HB := hid hb
  have HA := hid hA
  have HL := hid hl
  have HH := hid hh
  clear hb hA ho hnum hl hh
  go_enter Try.func54, Try.ntmps54
  go_wp2_with fail
  refine cn.mono ?_
  rintro e w1 ⟨rfl, rfl⟩
  go_wp2_with fail
  refine cs.mono ?_
  rintro e w1 ⟨rfl, s1, h1⟩
  have cd := down_any w1 p g c (swapL ns 0 m) h1 m (by rw [swapL_len, HL.out]; omega) (by rw [swapL_len, HL.out]; omega) (down_start HL.out HH.out)
  go_wp2_with fail
  refine cd.mono ?_
  rintro e w2 ⟨b, rfl, s2, ms, h2, hpm, hhp, htl⟩
  have hmpop := meth_ptr mrow_pop 209 w2 p
  have hlm : ms.length = m + 1 := by rw [hpm.length_eq, swapL_len, HL.out]
  have hb2 : w2.heap[p]? = some (.cells A T (0, 0)) := ((s1.trans s2).block p (lt_of_block HB.out) HNUM.out.2.2.2).trans HB.out
  have hx : ms.getD m 0 = ns.getD 0 0 := by
    rw [htl m (Nat.le_refl _), swapL_at (by rw [HL.out]; omega) (by rw [HL.out]; omega), if_pos rfl]
  have hcm := h2.2.2.1.int m (by omega)
  rw [hx] at hcm
  have cp := npop_any w2 p A T hb2 g c m (ns.getD 0 0) HA.out hcap.out (by omega) hcm
  have HLM := hid hlm
  have HB2 := hid hb2
  have HX := hid hx
  clear hlm hb2 hx hcm
  go_wp2_with fail
  refine cp.mono ?_
  rintro e w3 ⟨rfl, rfl⟩
  go_wp2_with fail
  go_ret
  have hsplit : ms = ms.take m ++ [ns.getD 0 0] := by
    conv => lhs; rw [← List.take_append_drop m ms]
    congr 1
    rw [List.drop_eq_getElem_cons (by rw [HLM.out]; omega), List.drop_eq_nil_of_le (by rw [HLM.out]; omega), ← getD_lt 0, HX.out]
  have hperm : ns.Perm (ns.getD 0 0 :: ms.take m) := by
    have h3 : ms.Perm ns := hpm.trans (swapL_perm (by rw [HL.out]; omega) (by rw [HL.out]; omega))
    rw [hsplit] at h3
    exact h3.symm.trans (List.perm_append_comm (l₁ := ms.take m) (l₂ := [ns.getD 0 0]))
  have htk : (ms.take m).length = m := by rw [List.length_take, HLM.out]; omega
  refine ⟨ns.getD 0 0, rfl, ms.take m, block_setCell HB2.out 5 _, ?_, ?_, hperm, ?_, ?_⟩
  · have h4 := h2.2.1
    refine owns_setCell ?_ ⟨p, 5, none⟩ ?_ _
    · refine ⟨by rw [intsOf_length, htk, Nat.mul_one], ?_⟩
      rcases h4.2 with ⟨hv, _⟩ | ⟨g', cap, cur, hv, hg, hh, hnc, hcm, hcs, ht⟩
      · injection hv with hv; cases hv
      · injection hv with e1 _ e3
        injection e1 with e1
        injection e1 with e1 _ _
        subst e1 e3
        refine .inr ⟨g, c, cur, rfl, hg, hh, by have := hcap.out; omega, hcm, hcs, ?_⟩
        rw [HLM.out] at ht
        have := congrArg (List.take m) ht
        rw [List.take_take, show min m ((m + 1) * 1) = m * 1 by omega] at this
        rw [this]
        simp [intsOf, List.map_take]
    · intro e; injection e with e; exact HNUM.out.2.2.2 e.symm
  · refine (((Step.refl _ w).then (s1.trans s2) (fun k hk => ?_)).setCell (p := ⟨p, 5, none⟩) (.inl (.inl rfl)) _)
    unfold oneF at hk
    subst hk
    exact .inl (.inr rfl)
  · intro k k0 hk
    rw [htk] at hk
    have := hhp k k0 hk
    have hg : ∀ q, q < m → (ms.take m).getD q 0 = ms.getD q 0 := fun q hq => by
      rw [getD_lt _ (by rw [htk]; exact hq), getD_lt _ (by rw [HLM.out]; omega), List.getElem_take]
    rw [hg _ (by omega), hg _ hk]
    exact this
  · intro z hz
    obtain ⟨k, hk, rfl⟩ := List.getElem_of_mem hz
    have := hp_min HH.out k hk
    rw [getD_lt (l := ns) (k := k) 0 hk] at this
    exact this
end Go.Proofs.Ytmijbplhmjledaa
