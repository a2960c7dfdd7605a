/-
  Runs in fresh rows: one or two of them, and more put behind one.
-/
import Derived.Test.YtnalillebemglaaGreatMgA
namespace Go.Proofs.YtnalillebemglaaGreat
open Go.RowKit Go.Sort
set_option linter.unusedVariables false
set_option linter.unusedSimpArgs false
set_option maxRecDepth 20000

/-- A run as a cell holds it. -/
def RunOk (w : World) (a : Option Addr) (n c : Nat) (r : List Mg) : Prop := n = r.length ∧ (a = none → c = 0) ∧ r.length ≤ c ∧ MsgsAt w noF a r
theorem RunOk.step {w w' : World} {a : Option Addr} {n c : Nat} {r : List Mg} (h : RunOk w a n c r) (hs : Step noF w w') : RunOk w' a n c r := ⟨h.1, h.2.1, h.2.2.1, h.2.2.2.step hs (fun _ x => x)⟩
theorem runs1_new (w : World) (t : TypeId) (a1 : Option Addr) (n1 c1 : Nat) (r1 : List Mg) (h1 : RunOk w a1 n1 c1 r1) :
    RunsAt (w.alloc (.cells #[.slice a1 n1 c1] t)) (some ⟨w.heap.size, 0, none⟩) [r1] := by
  have st := (Step.refl noF w).alloc (.cells #[.slice a1 n1 c1] t)
  have hb := block_alloc_new w (.cells #[.slice a1 n1 c1] t)
  obtain ⟨rfl, k1, l1, h1⟩ := h1.step st
  refine .inr ⟨w.heap.size, 0, rfl, lt_of_block hb, fun j hj => ?_⟩
  obtain rfl : j = 0 := by simp at hj; omega
  exact ⟨a1, c1, by rw [cell_of_block hb]; rfl, k1, l1, h1⟩
theorem runs2_new (w : World) (t : TypeId) (a1 : Option Addr) (n1 c1 : Nat) (r1 : List Mg) (a2 : Option Addr) (n2 c2 : Nat) (r2 : List Mg) (h1 : RunOk w a1 n1 c1 r1) (h2 : RunOk w a2 n2 c2 r2) :
    RunsAt (w.alloc (.cells #[.slice a1 n1 c1, .slice a2 n2 c2] t)) (some ⟨w.heap.size, 0, none⟩) [r1, r2] := by
  have st := (Step.refl noF w).alloc (.cells #[.slice a1 n1 c1, .slice a2 n2 c2] t)
  have hb := block_alloc_new w (.cells #[.slice a1 n1 c1, .slice a2 n2 c2] t)
  obtain ⟨rfl, k1, l1, h1⟩ := h1.step st
  obtain ⟨rfl, k2, l2, h2⟩ := h2.step st
  refine .inr ⟨w.heap.size, 0, rfl, lt_of_block hb, fun j hj => ?_⟩
  have : j = 0 ∨ j = 1 := by simp at hj; omega
  rcases this with rfl | rfl
  · exact ⟨a1, c1, by rw [cell_of_block hb]; rfl, k1, l1, h1⟩
  · exact ⟨a2, c2, by rw [cell_of_block hb]; rfl, k2, l2, h2⟩
theorem ms2_newG (w : World) (a b : Mg) : MsgsAt (w.alloc (.cells #[.int .i64 a.kind, .string (str a.key), .string (str a.val), .int .i64 b.kind, .string (str b.key), .string (str b.val)] 37)) noF (some ⟨w.heap.size, 0, none⟩) [a, b] := by
  refine .inr ⟨w.heap.size, 0, rfl, fun h => h, by rw [World.size_alloc]; omega, fun j hj => ?_⟩
  simp at hj
  rw [cell_of_block (block_alloc_new w _), cell_of_block (block_alloc_new w _), cell_of_block (block_alloc_new w _)]
  match j, hj with
  | 0, _ => exact ⟨rfl, rfl, rfl⟩
  | 1, _ => exact ⟨rfl, rfl, rfl⟩
theorem its2_newG (w : World) (x y : Rg) : RgsAt (w.alloc (.cells #[.string (str x.lo), .string (str x.hi), .string (str y.lo), .string (str y.hi)] 42)) (some ⟨w.heap.size, 0, none⟩) [x, y] := rgsAt_block (block_alloc_new w _) (rest := []) rfl

/-- The values that the cells of runs hold. -/
def ValsOf (w : World) (vs : List Value) (rs : List (List Mg)) : Prop := vs.length = rs.length ∧ ∀ (j : Nat) (r : List Mg), rs[j]? = some r → ∃ aj n cj, vs[j]? = some (.slice aj n cj) ∧ RunOk w aj n cj r
theorem ValsOf.step {w w' : World} {vs : List Value} {rs : List (List Mg)} (h : ValsOf w vs rs) (hs : Step noF w w') : ValsOf w' vs rs := ⟨h.1, fun j r hj => by
  obtain ⟨aj, n, cj, h1, h2⟩ := h.2 j r hj
  exact ⟨aj, n, cj, h1, h2.step hs⟩⟩
theorem ValsOf.one {w : World} {vs : List Value} {rs : List (List Mg)} (h : ValsOf w vs rs) : ∀ u ∈ vs, u.oneCell' = true := by
  intro u hu
  obtain ⟨j, hj⟩ := List.getElem?_of_mem hu
  have hl : j < rs.length := by rw [← h.1]; exact (List.getElem?_eq_some_iff.1 hj).1
  obtain ⟨aj, n, cj, h1, _⟩ := h.2 j _ (List.getElem?_eq_getElem hl)
  rw [h1] at hj
  obtain rfl := Option.some.inj hj
  rfl
theorem ValsOf.append {w : World} {vs us : List Value} {rs qs : List (List Mg)} (h : ValsOf w vs rs) (k : ValsOf w us qs) : ValsOf w (vs ++ us) (rs ++ qs) := by
  refine ⟨by rw [List.length_append, List.length_append, h.1, k.1], fun j r hj => ?_⟩
  by_cases hl : j < rs.length
  · rw [List.getElem?_append_left hl] at hj
    rw [List.getElem?_append_left (by rw [h.1]; exact hl)]
    exact h.2 j r hj
  · rw [List.getElem?_append_right (by omega)] at hj
    rw [List.getElem?_append_right (by rw [h.1]; omega), h.1]
    exact k.2 _ r hj
theorem valsOf_one {w : World} {a : Option Addr} {n c : Nat} {r : List Mg} (h : RunOk w a n c r) : ValsOf w [.slice a n c] [r] := ⟨rfl, fun j q hj => by
  match j, hj with
  | 0, hj =>
    obtain rfl := Option.some.inj hj
    exact ⟨a, n, c, rfl, h⟩
  | k + 1, hj => simp at hj⟩
theorem RunsAt.vals {w : World} {a : Option Addr} {rs : List (List Mg)} (h : RunsAt w a rs) : ∃ vs, ValsOf w vs rs ∧ ∀ ad, a = some ad → ∀ (j : Nat) u, vs[j]? = some u → w.cell? (Addr.add ad j) = some u := by
  rcases h with rfl | ⟨b, off, rfl, hb, h⟩
  · exact ⟨[], ⟨rfl, fun j r hj => by simp at hj⟩, fun _ _ j u hj => by simp at hj⟩
  · refine ⟨(List.range rs.length).map (fun j => (w.cell? ⟨b, off + j, none⟩).getD undef), ⟨by simp, fun j r hj => ?_⟩, fun ad e j u hu => ?_⟩
    · obtain ⟨hl, rfl⟩ := List.getElem?_eq_some_iff.1 hj
      obtain ⟨aj, cj, h1, h2, h3, h4⟩ := h j hl
      refine ⟨aj, rs[j].length, cj, ?_, rfl, h2, h3, h4⟩
      rw [List.getElem?_map, List.getElem?_range hl]
      show some ((w.cell? ⟨b, off + j, none⟩).getD undef) = _
      rw [h1]
      rfl
    · obtain rfl := Option.some.inj e
      obtain ⟨hl, hu⟩ := List.getElem?_eq_some_iff.1 hu
      have hl2 : j < rs.length := by simpa using hl
      obtain ⟨aj, cj, h1, _⟩ := h j hl2
      rw [List.getElem_map, List.getElem_range] at hu
      rw [h1] at hu
      rw [Addr.add_lit, h1]
      exact congrArg some hu
theorem owns_rowR {w : World} {base n : Nat} {e : TypeId} {v : Value} {vs : List Value} {rs : List (List Mg)} (h : w.ownsRow base e 1 v n vs) (hv : ValsOf w vs rs) : ∃ a m c, v = .slice a m c ∧ Hid (rs.length = m) ∧ RunsAt w a rs := by
  obtain ⟨hl, hc⟩ := h
  have e0 : n = rs.length := by rw [← hv.1, hl, Nat.mul_one]
  subst e0
  rcases hc with ⟨rfl, e0⟩ | ⟨g, cap, cur, rfl, _, hg, hn, _, _, hx⟩
  · exact ⟨none, 0, 0, rfl, e0, .inl (List.length_eq_zero_iff.1 e0)⟩
  · refine ⟨_, _, _, rfl, rfl, .inr ⟨g, 0, rfl, lt_of_block hg, fun j hj => ?_⟩⟩
    obtain ⟨aj, m, cj, h1, rfl, h2, h3, h4⟩ := hv.2 j _ (List.getElem?_eq_getElem hj)
    refine ⟨aj, cj, ?_, h2, h3, h4⟩
    rw [cell_of_block hg, Nat.zero_add, ← Array.getElem?_toList]
    rw [← hx, List.getElem?_take] at h1
    split at h1
    · exact h1
    · cases h1
theorem infoRun0G : (Tryz.prog.info? 29).map (fun i => (i.zero, i.size, i.bytes)) = some (some (.slice none 0 0), 1, 24) := by kernel_rfl
theorem info_runG : ∃ i, Tryz.prog.info? 29 = some i ∧ i.zero = some (.slice none 0 0) ∧ i.size = 1 ∧ i.bytes = 24 := info_threeL infoRun0G
/-- append of runs, nil or not, onto a row of one's own. -/
theorem wpList_append_R {w : World} {ops : Array Oper} {rest : List Oper} {o : Oper} {a : Act} {Q : Exit → Act → World → Prop} (hgd : o.guard = none) (s x : Operand)
    (ho : o.op = .call { callee := .builtin .append, args := #[s, x], argTypes := #[22, 22] })
    (base : Nat) (v : Value) (vs : List Value) (hs : a.eval s = v) (hown : w.ownsRow base 29 1 v vs.length vs)
    (ad : Option Addr) (c : Nat) (qs : List (List Mg)) (us : List Value) (m : Nat) (hm : m = qs.length) (hx : a.eval x = .slice ad m c) (hu : ValsOf w us qs) (hcell : ∀ d, ad = some d → ∀ (j : Nat) u, us[j]? = some u → w.cell? (Addr.add d j) = some u) (hc : ad = none → c = 0) (hcq : qs.length ≤ c)
    (hl : vs.length + qs.length ≤ 1000000000) (hbase : base ≤ w.heap.size)
    (h : ∀ v' w', w'.ownsRow base 29 1 v' (vs ++ us).length (vs ++ us) → w.grownBy w' v.ownBlock → wpList Tryz.prog ops Q rest (a.put o.dst v') w') : wpList Tryz.prog ops Q (o :: rest) a w := by
  subst hm
  obtain ⟨i0, hi, hz0, hz1, hz2⟩ := info_runG
  cases ad with
  | none =>
    obtain rfl := hc rfl
    obtain rfl : qs = [] := List.length_eq_zero_iff.1 (by omega)
    obtain rfl : us = [] := List.length_eq_zero_iff.1 (by rw [hu.1]; rfl)
    refine wpList_append_own_none hgd s x _ ho base 29 i0 1 Tryz.underlying22 hi v _ _ hs hown hx ?_
    have := h v w (by rw [List.append_nil]; exact hown) ⟨rfl, rfl, rfl, Nat.le_refl _, fun _ _ _ => rfl⟩
    exact this
  | some ad =>
    refine wpList_append_own w hgd s x _ ho base 29 i0 _ 1 24 Tryz.underlying22 hi hz0 hz1 hz2 rfl (by decide) v _ _ hs hown ad qs.length c us hx (by rw [hu.1, Nat.mul_one]) (hcell ad rfl) hu.one (le_max (by omega)) (by omega) hbase ?_
    intro v' w' h1 h2 h3
    refine h v' w' ?_ h2
    rw [List.length_append, hu.1]
    exact h1
theorem owns_one (w : World) (v : Value) (t : TypeId) : (w.alloc (.cells #[v] t)).ownsRow w.heap.size t 1 (.slice (some ⟨w.heap.size, 0, none⟩) 1 1) 1 [v] :=
  ⟨rfl, .inr ⟨w.heap.size, 1, #[v], rfl, Nat.le_refl _, block_alloc_new w _, Nat.le_refl _, by unfold maxLen; omega, rfl, rfl⟩⟩
end Go.Proofs.YtnalillebemglaaGreat
