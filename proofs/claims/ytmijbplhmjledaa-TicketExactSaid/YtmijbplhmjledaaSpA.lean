/-
  A space in memory; what its small functions do: New, Len, Has, textSize, bit, canBe, slices.Clone.
-/
import Derived.Test.YtmijbplhmjledaaRows
import Derived.Test.YtmijbplhmjledaaRowIn
import Derived.Test.YtmijbplhmjledaaSpText
import Derived.Deep.QuietTactic
import Derived.BigQuiet
namespace Go.Proofs.Ytmijbplhmjledaa
open Go.RowKit
set_option linter.unusedVariables false

/-- The space of the free blocks l, at block p. -/
def IsSp (w : World) (p : Nat) (l : List Bool) : Prop :=
  1 ≤ l.length ∧ l.length ≤ 512 ∧ ∃ g c, w.heap[p]? = some (.cells #[.slice (some ⟨g, 0, none⟩) l.length c] 73 (0, 0)) ∧ l.length ≤ c ∧ RowIn w g 4 (bools l)
theorem IsSp.lt {w : World} {p : Nat} {l : List Bool} (h : IsSp w p l) : p < w.heap.size := by
  obtain ⟨_, _, g, c, h, _⟩ := h; exact lt_of_block h
theorem ne_bool_space : (4 : TypeId) ≠ 73 := by decide
theorem IsSp.keep {w w' : World} {p : Nat} {l : List Bool} {F : Nat → Prop} (h : IsSp w p l) (hs : Step F w w') (hp : ¬ F p) (hF : ∀ g, F g → g < w.heap.size → ∀ xs, ¬ RowIn w g 4 xs) : IsSp w' p l := by
  obtain ⟨h1, h2, g, c, h3, h4, h5⟩ := h
  exact ⟨h1, h2, g, c, (hs.block p (lt_of_block h3) hp).trans h3, h4, h5.step hs (fun hg => hF g hg h5.lt _ h5)⟩
theorem IsSp.step {w w' : World} {p : Nat} {l : List Bool} (h : IsSp w p l) (hs : Step noF w w') : IsSp w' p l := h.keep hs (fun x => x) (fun _ x => x.elim)
/-- Another space has turned. -/
theorem IsSp.other {w w' : World} {p q : Nat} {l m : List Bool} (h : IsSp w p l) (hq : IsSp w q m) (hs : Step (oneF q) w w') (hne : p ≠ q) : IsSp w' p l := by
  refine h.keep hs hne (fun g hg _ xs hr => ?_)
  obtain ⟨_, _, g', c, h3, _⟩ := hq
  unfold oneF at hg
  subst hg
  exact hr.ne h3 ne_bool_space rfl
/-- A row of bools beside a space that has turned. -/
theorem rowIn_sp {w w' : World} {q g : Nat} {m : List Bool} {xs : List Value} (h : RowIn w g 4 xs) (hq : IsSp w q m) (hs : Step (oneF q) w w') : RowIn w' g 4 xs := by
  obtain ⟨_, _, g', c, h3, _⟩ := hq
  exact h.step hs (h.ne h3 ne_bool_space)
/-- The same, with the block of its bools named. -/
def SpAt (w : World) (p g : Nat) (l : List Bool) : Prop :=
  1 ≤ l.length ∧ l.length ≤ 512 ∧ ∃ c, w.heap[p]? = some (.cells #[.slice (some ⟨g, 0, none⟩) l.length c] 73 (0, 0)) ∧ l.length ≤ c ∧ RowIn w g 4 (bools l)
theorem SpAt.sp {w : World} {p g : Nat} {l : List Bool} (h : SpAt w p g l) : IsSp w p l := by
  obtain ⟨h1, h2, c, h3, h4, h5⟩ := h; exact ⟨h1, h2, g, c, h3, h4, h5⟩
theorem IsSp.at {w : World} {p : Nat} {l : List Bool} (h : IsSp w p l) : ∃ g, SpAt w p g l := by
  obtain ⟨h1, h2, g, c, h3, h4, h5⟩ := h; exact ⟨g, h1, h2, c, h3, h4, h5⟩
theorem SpAt.keep {w w' : World} {p g : Nat} {l : List Bool} {F : Nat → Prop} (h : SpAt w p g l) (hs : Step F w w') (hp : ¬ F p) (hg : ¬ F g) : SpAt w' p g l := by
  obtain ⟨h1, h2, c, h3, h4, h5⟩ := h
  exact ⟨h1, h2, c, (hs.block p (lt_of_block h3) hp).trans h3, h4, h5.step hs hg⟩
theorem SpAt.step {w w' : World} {p g : Nat} {l : List Bool} (h : SpAt w p g l) (hs : Step noF w w') : SpAt w' p g l := h.keep hs (fun x => x) (fun x => x)
theorem SpAt.lt {w : World} {p g : Nat} {l : List Bool} (h : SpAt w p g l) : g < w.heap.size := by obtain ⟨_, _, c, _, _, h5⟩ := h; exact h5.lt
/-- It has the block that it had, or a new one. -/
def SpFrom (w : World) (g : Nat) (w' : World) (p : Nat) (l : List Bool) : Prop := ∃ g', (g' = g ∨ w.heap.size ≤ g') ∧ SpAt w' p g' l
theorem SpFrom.sp {w w' : World} {g p : Nat} {l : List Bool} (h : SpFrom w g w' p l) : IsSp w' p l := by obtain ⟨_, _, h⟩ := h; exact h.sp
theorem SpFrom.of {w u w' : World} {g p : Nat} {l : List Bool} (h : SpFrom u g w' p l) (hs : w.heap.size ≤ u.heap.size) : SpFrom w g w' p l := by
  obtain ⟨g', e, h⟩ := h
  exact ⟨g', e.imp id (fun x => Nat.le_trans hs x), h⟩
theorem SpFrom.step {w w' w2 : World} {g p : Nat} {l : List Bool} (h : SpFrom w g w' p l) (hs : Step noF w' w2) : SpFrom w g w2 p l := by
  obtain ⟨g', e, h⟩ := h
  exact ⟨g', e, h.step hs⟩
theorem SpAt.self {w w' : World} {p g : Nat} {l : List Bool} (h : SpAt w' p g l) : SpFrom w g w' p l := ⟨g, .inl rfl, h⟩
theorem sp_cell {w : World} {p : Nat} {v0 : Value} {t : TypeId} (h : w.heap[p]? = some (.cells #[v0] t (0, 0))) : w.cell? ⟨p, 0, none⟩ = some v0 := cell_of_block h 0

theorem info_three {i : Option TypeInfo} {z : Option Value} {a b : Nat} (h : i.map (fun i => (i.zero, i.size, i.bytes)) = some (z, a, b)) : ∃ j, i = some j ∧ j.zero = z ∧ j.size = a ∧ j.bytes = b := by
  obtain ⟨j, rfl, h⟩ := Option.map_eq_some_iff.1 h
  simp at h
  exact ⟨j, rfl, h.1, h.2.1, h.2.2⟩
theorem info_bool : (Try.prog.info? 4).map (fun i => (i.zero, i.size, i.bytes)) = some (some (.bool false), 1, 1) := by kernel_rfl
theorem mk_bools (n : Nat) (h8 : n ≤ 1000) (u : World) : (Instr.makeSlice 51 (.int .i64 n) (.int .i64 n)).run Try.prog u =
      .ok (.slice (some ⟨u.heap.size, 0, none⟩) n n) (u.alloc (.cells (madeCells #[.bool false] n) 4)) := by
  obtain ⟨i0, hi, hz0, hz1, hz2⟩ := info_three info_bool
  have h := run_make (P := Try.prog) u 51 4 i0 (.bool false) Try.underlying51 hi hz0 .i64 .i64 n n (by omega) (Int.le_refl _) (by rw [hz2]; omega) (by omega)
  simpa [hz1, Value.cells] using h
theorem made_bools (u : World) (n : Nat) : RowIn (u.alloc (.cells (madeCells #[.bool false] n) 4)) u.heap.size 4 (bools (List.replicate n false)) :=
  ⟨_, [], block_alloc_new _ _, by rw [toList_madeCells_one]; simp [bools]⟩

set_option maxHeartbeats 400000 in
theorem new_raw (z : Int) (n : Nat) (hz : z = n) (h1 : 1 ≤ n) (h2 : n ≤ 512) (w : World) :
    Calls Try.prog 31 #[.int .i64 z] w fun e w' => ∃ p, e = .returned (.pointer (some ⟨p, 0, none⟩)) ∧ w.heap.size ≤ p ∧ Step noF w w' ∧ ∃ g, w.heap.size ≤ g ∧ RowIn w' g 4 (bools (List.replicate n false)) ∧ ∃ c, n ≤ c ∧ w'.heap[p]? = some (.cells #[.slice (some ⟨g, 0, none⟩) n c] 73 (0, 0)) := by
  subst hz
  have hmk := mk_bools n (by omega)
  have k1 : ¬ (n : Int) < 1 := by omega
  have k2 : ¬ (512 : Int) < (n : Int) := by omega
  go_enter Try.func31, Try.ntmps31
  go_wp2
  go_ret
  have hr := made_bools w n
  refine ⟨w.heap.size + 1, rfl, Nat.le_succ _, ((Step.refl _ _).alloc _).alloc _, w.heap.size, Nat.le_refl _, hr.step ((Step.refl noF _).alloc _) (fun x => x), n, Nat.le_refl _, ?_⟩
  have := block_alloc_new (w.alloc (.cells (madeCells #[.bool false] n) 4)) (.cells #[.slice (some ⟨w.heap.size, 0, none⟩) n n] 73 (0, 0))
  simpa using this
theorem new_any (z : Int) (n : Nat) (hz : z = n) (h1 : 1 ≤ n) (h2 : n ≤ 512) (w : World) :
    Calls Try.prog 31 #[.int .i64 z] w fun e w' => ∃ p, e = .returned (.pointer (some ⟨p, 0, none⟩)) ∧ w.heap.size ≤ p ∧ Step noF w w' ∧ IsSp w' p (List.replicate n false) := by
  refine (new_raw z n hz h1 h2 w).mono ?_
  rintro e w' ⟨p, rfl, hp, hs, g, hg, h5, c, h4, h3⟩
  exact ⟨p, rfl, hp, hs, by rw [List.length_replicate]; exact h1, by rw [List.length_replicate]; exact h2, g, c, by rw [List.length_replicate]; exact h3, by rw [List.length_replicate]; exact h4, h5⟩
set_option maxHeartbeats 400000 in
theorem new_none (z : Int) (h : z < 1 ∨ 512 < z) (w : World) : Calls Try.prog 31 #[.int .i64 z] w fun e w' => e = .returned (.pointer none) ∧ w = w' := by
  by_cases k1 : z < 1
  · go_enter Try.func31, Try.ntmps31
    go_wp2
    go_ret
    exact ⟨rfl, rfl⟩
  · have k2 : 512 < z := by omega
    go_enter Try.func31, Try.ntmps31
    go_wp2
    go_ret
    exact ⟨rfl, rfl⟩

set_option maxHeartbeats 400000 in
theorem len_any (w : World) (p : Nat) (l : List Bool) (h : IsSp w p l) : Calls Try.prog 61 #[.pointer (some ⟨p, 0, none⟩)] w fun e w' => e = .returned (.int .i64 l.length) ∧ w = w' := by
  obtain ⟨_, _, g, c, h3, _⟩ := h
  have c0 := sp_cell h3
  clear h3
  go_enter Try.func61, Try.ntmps61
  go_wp2
  go_ret
  exact ⟨rfl, rfl⟩
set_option maxHeartbeats 400000 in
theorem len_nil (w : World) : Calls Try.prog 61 #[.pointer none] w fun e w' => e = .returned (.int .i64 0) ∧ w = w' := by
  go_enter Try.func61, Try.ntmps61
  go_wp2
  go_ret
  exact ⟨rfl, rfl⟩
set_option maxHeartbeats 400000 in
theorem has_nil (z : Int) (w : World) : Calls Try.prog 39 #[.pointer none, .int .i64 z] w fun e w' => e = .returned (.bool false) ∧ w = w' := by
  go_enter Try.func39, Try.ntmps39
  go_wp2
  go_ret
  exact ⟨rfl, rfl⟩
set_option maxHeartbeats 400000 in
theorem has_any (w : World) (p : Nat) (l : List Bool) (h : IsSp w p l) (z : Int) : Calls Try.prog 39 #[.pointer (some ⟨p, 0, none⟩), .int .i64 z] w fun e w' => e = .returned (.bool (hasL l z)) ∧ w = w' := by
  obtain ⟨_, _, g, c, h3, _, h5⟩ := h
  have c0 := sp_cell h3
  clear h3
  by_cases k1 : 0 ≤ z
  · have d1 : decide (0 ≤ z) = true := by simpa using k1
    by_cases k2 : z < (l.length : Int)
    · obtain ⟨j, rfl⟩ := Int.eq_ofNat_of_zero_le k1
      have hj : j < l.length := by omega
      have hc := h5.cell j (by rw [bools_length]; exact hj)
      rw [bools_at] at hc
      have hv : Hid (hasL l (j : Int) = l[j]) := by show _ = _; rw [hasL_nat, getD_lt _ hj]
      obtain ⟨b, hb⟩ : ∃ b, l[j] = b := ⟨_, rfl⟩
      rw [hb] at hc hv
      clear h5 hb
      go_enter Try.func39, Try.ntmps39
      go_wp2
      go_ret
      exact ⟨ret_bool hv.out.symm, rfl⟩
    · have d2 : decide (z < (l.length : Int)) = false := by simpa using k2
      have hv : Hid (hasL l z = false) := by show _ = _; rw [hasL, d2]; simp
      clear h5
      go_enter Try.func39, Try.ntmps39
      go_wp2
      go_ret
      exact ⟨ret_bool hv.out.symm, rfl⟩
  · have d1 : decide (0 ≤ z) = false := by simpa using k1
    have hv : Hid (hasL l z = false) := by show _ = _; rw [hasL, d1]; simp
    clear h5
    go_enter Try.func39, Try.ntmps39
    go_wp2
    go_ret
    exact ⟨ret_bool hv.out.symm, rfl⟩

theorem results_cell_pair {P : Program} {fn : Func} {p u : Tmp} {ty : TypeId} (h : fn.results = #[.cell p ty, .tmp u]) (tmps : Array Value) (w : World) (g : Nat) (t : TypeId) (cs : Array Value) (fr : Nat × Nat) (d : TypeDesc) (v : Value)
    (hp : tmps.getD p undef = .pointer (some ⟨g, 0, none⟩)) (hg : w.heap[g]? = some (.cells cs t fr))
    (hu : P.underlying ty = some d) (hd : (match d with | .struct _ | .array _ _ => true | _ => false) = true) (hi : (P.info? ty).map (·.size) = some cs.size) (hv : tmps.getD u undef = v) :
    (results fn tmps).run P w = .ok (.tuple #[.agg cs, v]) w := by
  have hp' : tmps[p]?.getD undef = .pointer (some ⟨g, 0, none⟩) := by simpa using hp
  have hv' : tmps[u]?.getD undef = v := by simpa using hv
  simp [results, h, hp', hv', asAddr, run_loadVar_row w g t ty cs fr d hg hu hd hi]
set_option maxHeartbeats 400000 in
theorem canBe_any (w : World) (p : Nat) (l : List Bool) (h : IsSp w p l) (x : Int × Int) (hx : x.1 ≤ 9223372036854775807) : Calls Try.prog 57 #[.pointer (some ⟨p, 0, none⟩), .agg #[.int .i64 x.1, .int .i64 x.2]] w fun e w' => e = .returned (.bool (inE l.length x)) ∧ Step noF w w' := by
  obtain ⟨u, v⟩ := x
  obtain ⟨_, h2, g, c, h3, _, h5⟩ := h
  have c0 := fun o => cell_alloc (sp_cell h3) o
  clear h3 h5
  obtain ⟨N, hN⟩ : ∃ N, l.length = N := ⟨_, rfl⟩
  rw [hN] at c0 h2 ⊢
  simp only at hx
  by_cases k1 : 0 ≤ u
  · have d1 : decide (0 ≤ u) = true := by simpa using k1
    by_cases k2 : 1 ≤ v
    · have d2 : decide (1 ≤ v) = true := by simpa using k2
      have w1 : IntKind.i64.wrap ((N : Int) - u) = (N : Int) - u := by simp [IntKind.wrap, IntKind.bits, IntKind.signed]; omega
      have w2 : wrap64 ((N : Int) - u) = (N : Int) - u := by unfold wrap64; omega
      have hv : Hid (inE N (u, v) = decide (v ≤ (N : Int) - u)) := by show _ = _; simp [inE, k1, k2]
      go_enter Try.func57, Try.ntmps57
      go_wp2_with fail
      go_quiet (fail)
      go_wp2
      go_ret
      exact ⟨ret_bool hv.out.symm, ((Step.refl _ _).alloc _).drewN _⟩
    · have d2 : decide (1 ≤ v) = false := by simpa using k2
      have hv : Hid (inE N (u, v) = false) := by show _ = _; simp [inE, k2]
      go_enter Try.func57, Try.ntmps57
      go_wp2_with fail
      go_quiet (fail)
      go_wp2
      go_ret
      exact ⟨ret_bool hv.out.symm, ((Step.refl _ _).alloc _).drewN _⟩
  · have d1 : decide (0 ≤ u) = false := by simpa using k1
    have hv : Hid (inE N (u, v) = false) := by show _ = _; simp [inE, k1]
    go_enter Try.func57, Try.ntmps57
    go_wp2_with fail
    go_quiet (fail)
    go_wp2
    go_ret
    exact ⟨ret_bool hv.out.symm, ((Step.refl _ _).alloc _).drewN _⟩

set_option maxHeartbeats 400000 in
/-- slices.Clone of a row of bools that isn't empty. -/
theorem clone_any (w : World) (g c : Nat) (l : List Bool) (h : RowIn w g 4 (bools l)) (h1 : 1 ≤ l.length) (h2 : l.length ≤ 512) :
    Calls Try.prog 58 #[.slice (some ⟨g, 0, none⟩) l.length c] w fun e w' => ∃ g' c', e = .returned (.slice (some ⟨g', 0, none⟩) l.length c') ∧ w.heap.size ≤ g' ∧ l.length ≤ c' ∧ RowIn w' g' 4 (bools l) ∧ Step noF w w' := by
  obtain ⟨i0, hi, hz0, hz1, hz2⟩ := info_three info_bool
  have hq : ∀ (w : World), (binOp .eql 51 (.slice (some ⟨g, 0, none⟩) l.length c) (.slice none 0 0)).run Try.prog w = .ok (.bool false) w := fun w => Lib.run_eql_slice_nil w _ _ (some ⟨g, 0, none⟩) l.length c 0 0 Try.underlying51
  have hn : ∀ o, ∀ j u, (bools l)[j]? = some u → (w.alloc o).cell? (Addr.add ⟨g, 0, none⟩ j) = some u := fun o j u hj => by
    obtain ⟨hj1, rfl⟩ := List.getElem?_eq_some_iff.1 hj
    rw [Addr.add_lit, Nat.zero_add]
    exact cell_alloc (h.cell j hj1) o
  have h1c : ∀ u ∈ bools l, u.oneCell' = true := fun u hu => by
    simp [bools] at hu
    rcases hu with ⟨_, rfl⟩ | ⟨_, rfl⟩ <;> rfl
  go_enter Try.func58, Try.ntmps58
  go_wp2_with (at_builtin; refine wpList_append_own _ rfl _ _ 51 rfl w.heap.size 4 i0 (.bool false) 1 1 Try.underlying51 hi hz0 hz1 hz2 rfl (by decide) _ _ _ rfl (World.ownsRow_made w #[] 0 (Nat.le_refl _) (Nat.zero_le _) rfl) ⟨g, 0, none⟩ l.length c (bools l) rfl (by simp [bools]) (hn _) h1c (le_max (by omega)) (by omega) (by simp) ?_)
  intro v' w1 hown hgrow hnil
  go_wp2
  go_ret
  obtain ⟨g', c', rfl, hc', hr, hg⟩ := rowIn_owns (owns_base hown (Nat.zero_le _)) h1
  exact ⟨g', c', rfl, (hown.lt g' hg).1, hc', hr, Step.ofBelow (((Below.refl _ w).alloc (Nat.le_refl _) _).grown hgrow (by simp) (by intro k hk; simp [Value.ownBlock] at hk; omega))⟩
end Go.Proofs.Ytmijbplhmjledaa
