/-
  The runs of a merger in memory: a heap; its methods, and what container/heap does with it.
-/
import Derived.Test.YtnalillebemglaaGreatMgA
import Derived.BigRegion
import Derived.RegionTactic
import Derived.BigQuiet
import Derived.Deep.QuietTactic
import Derived.Deep.RegionLaw
import Derived.Test.YtnalillebemglaaGreatKeyG
namespace Go.Proofs.YtnalillebemglaaGreat
open Go.RowKit Go.Sort
set_option linter.unusedVariables false
set_option linter.unusedSimpArgs false
set_option maxRecDepth 20000

def encE (e : Ent) : List Value := [.int .i64 e.pl, .slice (some ⟨e.g, e.o, none⟩) e.ms.length e.c]
def ents (es : List Ent) : List Value := es.flatMap encE
theorem ents_length (es : List Ent) : (ents es).length = es.length * 2 := by
  induction es with
  | nil => rfl
  | cons x xs ih => simp [ents, encE] at ih ⊢; omega
theorem ents_append (a : List Ent) (e : Ent) : ents (a ++ [e]) = ents a ++ encE e := by simp [ents]
theorem ents_at (es : List Ent) (j : Nat) (hj : j < es.length) : (ents es)[j * 2]? = some (.int .i64 (atE es j).pl) ∧ (ents es)[j * 2 + 1]? = some (.slice (some ⟨(atE es j).g, (atE es j).o, none⟩) (atE es j).ms.length (atE es j).c) := by
  induction es generalizing j with
  | nil => simp at hj
  | cons x xs ih =>
    cases j with
    | zero => exact ⟨rfl, rfl⟩
    | succ j =>
      have := ih j (by simpa using hj)
      have e : ∀ q, (ents (x :: xs))[q + 2]? = (ents xs)[q]? := fun q => rfl
      rw [show (j + 1) * 2 = j * 2 + 2 by omega, show j * 2 + 2 + 1 = j * 2 + 1 + 2 by omega, e, e]
      exact this
theorem ents_put (es : List Ent) (j : Nat) (hj : j < es.length) (z : Ent) : ((ents es).set (j * 2) (.int .i64 z.pl)).set (j * 2 + 1) (.slice (some ⟨z.g, z.o, none⟩) z.ms.length z.c) = ents (es.set j z) := by
  induction es generalizing j with
  | nil => simp at hj
  | cons x xs ih =>
    cases j with
    | zero => rfl
    | succ j =>
      have := ih j (by simpa using hj)
      simp only [ents, List.flatMap_cons, List.set_cons_succ] at this ⊢
      rw [show (j + 1) * 2 = j * 2 + 1 + 1 by omega]
      simpa [encE] using this
theorem owns_rowQ {w : World} {base : Nat} {e : TypeId} {g n c size : Nat} {xs : List Value} (h : w.ownsRow base e size (.slice (some ⟨g, 0, none⟩) n c) n xs) : RowIn w g e xs ∧ base ≤ g ∧ n ≤ c := by
  rcases h.2 with ⟨hv, _⟩ | ⟨g', cap, cur, hv, hb, hh, hnc, _, _, ht⟩
  · injection hv with hv; cases hv
  · injection hv with h1 _ h3
    injection h1 with h1
    injection h1 with h1 _ _
    subst h1 h3
    refine ⟨⟨cur, cur.toList.drop xs.length, hh, ?_⟩, hb, hnc⟩
    have hl := h.1
    conv => lhs; rw [← List.take_append_drop xs.length cur.toList]
    rw [hl] at *
    rw [← ht]
theorem RowIn.ent {w : World} {g : Nat} {e : TypeId} {es : List Ent} (h : RowIn w g e (ents es)) (j : Nat) (hj : j < es.length) : w.cell? ⟨g, j * 2, none⟩ = some (.int .i64 (atE es j).pl) ∧ w.cell? ⟨g, j * 2 + 1, none⟩ = some (.slice (some ⟨(atE es j).g, (atE es j).o, none⟩) (atE es j).ms.length (atE es j).c) := by
  have hl := ents_length es
  have h1 := h.cell (j * 2) (by omega)
  have h2 := h.cell (j * 2 + 1) (by omega)
  obtain ⟨a1, a2⟩ := ents_at es j hj
  rw [List.getElem?_eq_getElem (by omega)] at a1 a2
  rw [h1, h2]
  exact ⟨a1, a2⟩
/-- A run of the heap in memory: its messages lie outside of F. -/
def EnAt (w : World) (F : Nat → Prop) (e : Ent) : Prop := e.ms.length ≤ 1000000 ∧ e.ms.length ≤ e.c ∧ MsgsAt w F (some ⟨e.g, e.o, none⟩) e.ms
theorem EnAt.step {w w' : World} {F G : Nat → Prop} {e : Ent} (h : EnAt w F e) (hs : Step G w w') (hG : ∀ k, G k → F k) : EnAt w' F e := ⟨h.1, h.2.1, h.2.2.step hs hG⟩
theorem EnAt.cons {w : World} {F : Nat → Prop} {e : Ent} (h : EnAt w F e) (h1 : e.ms ≠ []) : ∃ m t, e.ms = m :: t ∧ e.low = m.key ∧ w.cell? ⟨e.g, e.o, none⟩ = some (.int .i64 m.kind) ∧ w.cell? ⟨e.g, e.o + 1, none⟩ = some (.string (str m.key)) ∧ w.cell? ⟨e.g, e.o + 2, none⟩ = some (.string (str m.val)) ∧ e.g < w.heap.size ∧ ¬ F e.g := by
  obtain ⟨_, _, h3⟩ := h
  cases hm : e.ms with
  | nil => exact absurd hm h1
  | cons m t =>
    rw [hm] at h3
    rcases h3 with h3 | ⟨b, off, hab, hF, hb, hc⟩
    · cases h3
    · injection hab with hab
      injection hab with e1 e2
      subst e1 e2
      have := hc 0 (by simp)
      simp only [Nat.zero_mul, Nat.add_zero, List.getElem_cons_zero] at this
      exact ⟨m, t, rfl, by unfold Ent.low; rw [hm]; rfl, this.1, this.2.1, this.2.2, hb, hF⟩
/-- The blocks of a merger: its own, and its heap's. -/
def pgF (p g : Nat) : Nat → Prop := fun k => k = p ∨ k = g
/-- The merger lies in block p, its runs in block g. -/
def QpAt (w : World) (p g c : Nat) (lv : Value) (es : List Ent) : Prop := w.heap[p]? = some (.cells #[.slice (some ⟨g, 0, none⟩) es.length c, lv] 66 (0, 0)) ∧ w.ownsRow 0 102 2 (.slice (some ⟨g, 0, none⟩) es.length c) es.length (ents es) ∧ p ≠ g ∧ ∀ e ∈ es, EnAt w (pgF p g) e
theorem QpAt.step {w w' : World} {p g c : Nat} {lv : Value} {es : List Ent} (h : QpAt w p g c lv es) (hs : Step noF w w') : QpAt w' p g c lv es := ⟨(hs.block p (lt_of_block h.1) (fun x => x)).trans h.1, owns_step h.2.1 hs (fun _ _ x => x), h.2.2.1, fun e he => (h.2.2.2 e he).step hs (fun _ x => x.elim)⟩
theorem QpAt.cell {w : World} {p g c : Nat} {lv : Value} {es : List Ent} (h : QpAt w p g c lv es) : w.cell? ⟨p, 0, none⟩ = some (.slice (some ⟨g, 0, none⟩) es.length c) := by rw [cell_of_block h.1]; rfl
theorem QpAt.left {w : World} {p g c : Nat} {lv : Value} {es : List Ent} (h : QpAt w p g c lv es) : w.cell? ⟨p, 1, none⟩ = some lv := by rw [cell_of_block h.1]; rfl
theorem QpAt.row {w : World} {p g c : Nat} {lv : Value} {es : List Ent} (h : QpAt w p g c lv es) : RowIn w g 102 (ents es) ∧ es.length ≤ c := ⟨(owns_rowQ h.2.1).1, (owns_rowQ h.2.1).2.2⟩
theorem QpAt.en {w : World} {p g c : Nat} {lv : Value} {es : List Ent} (h : QpAt w p g c lv es) (j : Nat) (hj : j < es.length) : EnAt w (pgF p g) (atE es j) := h.2.2.2 _ (atE_mem hj)

theorem low_raw (p g o n c : Nat) (k : List UInt8) (hn : 0 < n) (w : World) (h : w.cell? ⟨g, o + 1, none⟩ = some (.string (str k))) :
    Calls Tryz.prog 62 #[.agg #[.int .i64 p, .slice (some ⟨g, o, none⟩) n c]] w fun e w' => e = .returned (.string (str k)) ∧ ∃ q os, w' = grow (w.drewN q) os := by
  have h2 := fun ob => cell_alloc h ob
  have hz : (0 : Int) < (n : Int) := by omega
  have ⟨b0, b1⟩ := two_new w (.int .i64 p) (.slice (some ⟨g, o, none⟩) n c) 102
  go_enter Tryz.func62, Tryz.ntmps62
  go_wp2
  go_ret
  exact ⟨rfl, 0, _, by rw [alloc_eq_grow]; rfl⟩

set_option maxHeartbeats 2000000 in
theorem qless_raw (w : World) (g len c : Nat) (i j : Nat) (hi : i < len) (hj : j < len) (p1 g1 o1 n1 c1 p2 g2 o2 n2 c2 : Nat) (k1 k2 : List UInt8) (hn1 : 0 < n1) (hn2 : 0 < n2)
    (ci : w.cell? ⟨g, i * 2, none⟩ = some (.int .i64 p1)) (di : w.cell? ⟨g, i * 2 + 1, none⟩ = some (.slice (some ⟨g1, o1, none⟩) n1 c1)) (cj : w.cell? ⟨g, j * 2, none⟩ = some (.int .i64 p2)) (dj : w.cell? ⟨g, j * 2 + 1, none⟩ = some (.slice (some ⟨g2, o2, none⟩) n2 c2))
    (h1 : w.cell? ⟨g1, o1 + 1, none⟩ = some (.string (str k1))) (h2 : w.cell? ⟨g2, o2 + 1, none⟩ = some (.string (str k2))) :
    Calls Tryz.prog 139 #[.slice (some ⟨g, 0, none⟩) len c, .int .i64 i, .int .i64 j] w fun e w' => e = .returned (.bool (if k1 = k2 then decide (p1 < p2) else decide (k1 < k2))) ∧ Step noF w w' := by
  have mixed : Tryz.prog.follows .mixedOrders = true := by kernel_rfl
  have hSm := same_str
  have hLe := less_str
  have hiz : (i : Int) < (len : Int) := by omega
  have hjz : (j : Int) < (len : Int) := by omega
  have hci := fun n os => cell_grown (World.block_lt_of_cell? w _ ci) ci n os
  have hdi := fun n os => cell_grown (World.block_lt_of_cell? w _ di) di n os
  have hcj := fun n os => cell_grown (World.block_lt_of_cell? w _ cj) cj n os
  have hdj := fun n os => cell_grown (World.block_lt_of_cell? w _ dj) dj n os
  have hci2 := fun n os n2 os2 => cell_grown (World.block_lt_of_cell? _ _ (hci n os)) (hci n os) n2 os2
  have hcj2 := fun n os n2 os2 => cell_grown (World.block_lt_of_cell? _ _ (hcj n os)) (hcj n os) n2 os2
  have hl1 := fun n os => low_raw p1 g1 o1 n1 c1 k1 hn1 (grow (w.drewN n) os) (cell_grown (World.block_lt_of_cell? w _ h1) h1 n os)
  have hl2 := fun n os => low_raw p2 g2 o2 n2 c2 k2 hn2 (grow (w.drewN n) os) (cell_grown (World.block_lt_of_cell? w _ h2) h2 n os)
  clear ci di cj dj h1 h2
  by_cases hk : k1 = k2
  · rw [if_pos hk]
    subst hk
    go_enter Tryz.func139, Tryz.ntmps139
    go_wp2_with fail
    go_quiet_grown (first | (refine Calls.grown_of (hl1 _ _)) | (refine Calls.grown_of (hl2 _ _)))
    go_wp2_with fail
    go_quiet_grown (fail)
    go_wp2_with fail
    go_ret
    exact ⟨ret_bool (by first | rfl | (rw [decide_eq_decide]; omega)), (step_grow _ _ _).trans (step_grow _ _ _)⟩
  · rw [if_neg hk]
    go_enter Tryz.func139, Tryz.ntmps139
    go_wp2_with fail
    go_quiet_grown (first | (refine Calls.grown_of (hl1 _ _)) | (refine Calls.grown_of (hl2 _ _)))
    go_wp2_with fail
    go_ret
    exact ⟨rfl, step_grow _ _ _⟩
set_option maxHeartbeats 400000 in
theorem qlen_any (w : World) (v : Option Addr) (n c : Nat) : Calls Tryz.prog 138 #[.slice v n c] w fun e w' => e = .returned (.int .i64 n) ∧ w = w' := by
  go_enter Tryz.func138, Tryz.ntmps138
  go_wp2
  go_ret
  exact ⟨rfl, rfl⟩

theorem qrow_len : (Tryz.prog.info? 100).bind (fun i => (i.methods.find? (fun m => m.name == "Len")).map (fun m => (m.path, m.func))) = some (#[], some (138, false)) := by kernel_rfl
theorem qrow_less : (Tryz.prog.info? 100).bind (fun i => (i.methods.find? (fun m => m.name == "Less")).map (fun m => (m.path, m.func))) = some (#[], some (139, false)) := by kernel_rfl
theorem qrow_swap : (Tryz.prog.info? 100).bind (fun i => (i.methods.find? (fun m => m.name == "Swap")).map (fun m => (m.path, m.func))) = some (#[], some (140, false)) := by kernel_rfl
theorem qrow_push : (Tryz.prog.info? 100).bind (fun i => (i.methods.find? (fun m => m.name == "Push")).map (fun m => (m.path, m.func))) = some (#[], some (142, true)) := by kernel_rfl
theorem qrow_pop : (Tryz.prog.info? 100).bind (fun i => (i.methods.find? (fun m => m.name == "Pop")).map (fun m => (m.path, m.func))) = some (#[], some (141, true)) := by kernel_rfl
theorem wrapQ_ok {P : Program} (T : TypeId) (a : Addr) (s u : String) (w : World) : (Builtin.ssaWrapNilChk_ #[T] T #[.pointer (some a), strVal s, strVal u]).run P w = .ok (.pointer (some a)) w := rfl
theorem qmeth_val {name : String} {f : FuncId} (hrow : (Tryz.prog.info? 100).bind (fun i => (i.methods.find? (fun m => m.name == name)).map (fun m => (m.path, m.func))) = some (#[], some (f, false))) (fuel : Nat) (w : World) (p : Nat) (v : Value) (h : w.cell? ⟨p, 0, none⟩ = some v) :
    (method (fuel + 1) 100 (.pointer (some ⟨p, 0, none⟩)) name).run Tryz.prog w = .ok (f, v) w := by
  obtain ⟨i, hi, h2⟩ := Option.bind_eq_some_iff.1 hrow
  obtain ⟨m, hm, h3⟩ := Option.map_eq_some_iff.1 h2
  injection h3 with h4 h5
  have hu := Tryz.underlying100
  have hu2 := Tryz.underlying64
  unfold method
  simp [typeInfo, hi, hm, h4, h5, follow, receiverAt, hu, hu2, Place.get, wrapQ_ok, asAddr, loadVar, h]
theorem qmeth_ptr {name : String} {f : FuncId} (hrow : (Tryz.prog.info? 100).bind (fun i => (i.methods.find? (fun m => m.name == name)).map (fun m => (m.path, m.func))) = some (#[], some (f, true))) (fuel : Nat) (w : World) (p : Nat) :
    (method (fuel + 1) 100 (.pointer (some ⟨p, 0, none⟩)) name).run Tryz.prog w = .ok (f, .pointer (some ⟨p, 0, none⟩)) w := by
  obtain ⟨i, hi, h2⟩ := Option.bind_eq_some_iff.1 hrow
  obtain ⟨m, hm, h3⟩ := Option.map_eq_some_iff.1 h2
  injection h3 with h4 h5
  have hu := Tryz.underlying100
  unfold method
  simp [typeInfo, hi, hm, h4, h5, follow, receiverAt, hu, Place.get]


theorem qless_any (w : World) (p g c : Nat) (lv : Value) (es : List Ent) (h : QpAt w p g c lv es) (i j : Nat) (hi : i < es.length) (hj : j < es.length) (hni : (atE es i).ms ≠ []) (hnj : (atE es j).ms ≠ []) :
    Calls Tryz.prog 139 #[.slice (some ⟨g, 0, none⟩) es.length c, .int .i64 i, .int .i64 j] w fun e w' => e = .returned (.bool (decide (ltE (atE es i) (atE es j)))) ∧ Step noF w w' := by
  obtain ⟨ci, di⟩ := h.row.1.ent i hi
  obtain ⟨cj, dj⟩ := h.row.1.ent j hj
  obtain ⟨m1, t1, e1, l1, _, k1, _⟩ := (h.en i hi).cons hni
  obtain ⟨m2, t2, e2, l2, _, k2, _⟩ := (h.en j hj).cons hnj
  rw [ltE_eq, l1, l2]
  exact qless_raw w g es.length c i j hi hj _ _ _ _ _ _ _ _ _ _ m1.key m2.key (by rw [e1]; simp) (by rw [e2]; simp) ci di cj dj k1 k2

/-- What Swap leaves of a world. -/
def swapQW (W : World) (g i j : Nat) (x y : Ent) : World := (((W.setCell ⟨g, i * 2, none⟩ (.int .i64 y.pl)).setCell ⟨g, i * 2 + 1, none⟩ (.slice (some ⟨y.g, y.o, none⟩) y.ms.length y.c)).setCell ⟨g, j * 2, none⟩ (.int .i64 x.pl)).setCell ⟨g, j * 2 + 1, none⟩ (.slice (some ⟨x.g, x.o, none⟩) x.ms.length x.c)
set_option maxHeartbeats 4000000 in
theorem qswap_raw (W : World) (g c size : Nat) (p1 g1 o1 n1 c1 p2 g2 o2 n2 c2 : Nat) (i j : Nat) (hi : i < size) (hj : j < size)
    (ci : W.cell? ⟨g, i * 2, none⟩ = some (.int .i64 p1)) (di : W.cell? ⟨g, i * 2 + 1, none⟩ = some (.slice (some ⟨g1, o1, none⟩) n1 c1)) (cj : W.cell? ⟨g, j * 2, none⟩ = some (.int .i64 p2)) (dj : W.cell? ⟨g, j * 2 + 1, none⟩ = some (.slice (some ⟨g2, o2, none⟩) n2 c2)) (hf : ∀ q, W.frozen? ⟨g, q, none⟩ = false) :
    Calls Tryz.prog 140 #[.slice (some ⟨g, 0, none⟩) size c, .int .i64 i, .int .i64 j] W fun e w' => e = .returned (.tuple #[]) ∧ w' = ((((W.setCell ⟨g, i * 2, none⟩ (.int .i64 p2)).setCell ⟨g, i * 2 + 1, none⟩ (.slice (some ⟨g2, o2, none⟩) n2 c2)).setCell ⟨g, j * 2, none⟩ (.int .i64 p1)).setCell ⟨g, j * 2 + 1, none⟩ (.slice (some ⟨g1, o1, none⟩) n1 c1)).drew := by
  have fi := hf (i * 2)
  have fi1 := hf (i * 2 + 1)
  have fj := hf (j * 2)
  have fj1 := hf (j * 2 + 1)
  have hiz : (i : Int) < (size : Int) := by omega
  have hjz : (j : Int) < (size : Int) := by omega
  obtain ⟨u1, hu1⟩ := cell?_setCell_some (w := W) (p := ⟨g, i * 2, none⟩) (x := .int .i64 p2) (q := ⟨g, i * 2 + 1, none⟩) di
  obtain ⟨v1, hv1⟩ := cell?_setCell_some (w := W) (p := ⟨g, i * 2, none⟩) (x := .int .i64 p2) (q := ⟨g, j * 2, none⟩) cj
  obtain ⟨v2, hv2⟩ := cell?_setCell_some (w := W.setCell ⟨g, i * 2, none⟩ (.int .i64 p2)) (p := ⟨g, i * 2 + 1, none⟩) (x := .slice (some ⟨g2, o2, none⟩) n2 c2) (q := ⟨g, j * 2, none⟩) hv1
  obtain ⟨t1, ht1⟩ := cell?_setCell_some (w := W) (p := ⟨g, i * 2, none⟩) (x := .int .i64 p2) (q := ⟨g, j * 2 + 1, none⟩) dj
  obtain ⟨t2, ht2⟩ := cell?_setCell_some (w := W.setCell ⟨g, i * 2, none⟩ (.int .i64 p2)) (p := ⟨g, i * 2 + 1, none⟩) (x := .slice (some ⟨g2, o2, none⟩) n2 c2) (q := ⟨g, j * 2 + 1, none⟩) ht1
  obtain ⟨t3, ht3⟩ := cell?_setCell_some (w := (W.setCell ⟨g, i * 2, none⟩ (.int .i64 p2)).setCell ⟨g, i * 2 + 1, none⟩ (.slice (some ⟨g2, o2, none⟩) n2 c2)) (p := ⟨g, j * 2, none⟩) (x := .int .i64 p1) (q := ⟨g, j * 2 + 1, none⟩) ht2
  clear hf
  go_enter Tryz.func140, Tryz.ntmps140
  go_wp2
  go_region
  all_goals (try go_wp2)
  all_goals go_end0
  all_goals exact ⟨rfl, rfl⟩
theorem owns_swapQ {w : World} {base : Nat} {e : TypeId} {n g c : Nat} {es : List Ent} (h : w.ownsRow base e 2 (.slice (some ⟨g, 0, none⟩) n c) n (ents es)) (i j : Nat) (hi : i < es.length) (hj : j < es.length) (y x : Ent) :
    (swapQW w g i j x y).ownsRow base e 2 (.slice (some ⟨g, 0, none⟩) n c) n (ents ((es.set i y).set j x)) := by
  have hl := ents_length es
  have h1 := owns_put (owns_put h (i * 2) (by omega) (.int .i64 y.pl)) (i * 2 + 1) (by simp; omega) (.slice (some ⟨y.g, y.o, none⟩) y.ms.length y.c)
  rw [ents_put es i hi y] at h1
  have hl2 := ents_length (es.set i y)
  rw [List.length_set] at hl2
  have h2 := owns_put (owns_put h1 (j * 2) (by omega) (.int .i64 x.pl)) (j * 2 + 1) (by simp; omega) (.slice (some ⟨x.g, x.o, none⟩) x.ms.length x.c)
  rw [ents_put (es.set i y) j (by rw [List.length_set]; exact hj) x] at h2
  exact h2
theorem qswap_any (w : World) (p g c : Nat) (lv : Value) (es : List Ent) (h : QpAt w p g c lv es) (i j : Nat) (hi : i < es.length) (hj : j < es.length) :
    Calls Tryz.prog 140 #[.slice (some ⟨g, 0, none⟩) es.length c, .int .i64 i, .int .i64 j] w fun e w' => e = .returned (.tuple #[]) ∧ Step (pgF p g) w w' ∧ QpAt w' p g c lv (swapE es i j) := by
  have h0 := h
  obtain ⟨h1, h2, h4, h5⟩ := h
  obtain ⟨hr, hbg, hnc⟩ := owns_rowQ h2
  obtain ⟨ci, di⟩ := hr.ent i hi
  obtain ⟨cj, dj⟩ := hr.ent j hj
  refine (qswap_raw w g c es.length _ _ _ _ _ _ _ _ _ _ i j hi hj ci di cj dj (fun q => hr.f q)).mono ?_
  rintro e w' ⟨rfl, hw⟩
  have hw' : w' = (swapQW w g i j (atE es i) (atE es j)).drew := hw
  clear hw
  subst hw'
  have hs : ∀ F : Nat → Prop, F g → Step F w ((swapQW w g i j (atE es i) (atE es j)).drew) := fun F hF => (((((Step.refl F w).setCell (p := ⟨g, i * 2, none⟩) (.inl hF) _).setCell (p := ⟨g, i * 2 + 1, none⟩) (.inl hF) _).setCell (p := ⟨g, j * 2, none⟩) (.inl hF) _).setCell (p := ⟨g, j * 2 + 1, none⟩) (.inl hF) _).drew
  refine ⟨rfl, hs _ (.inr rfl), ?_, ?_, h4, fun e he => ?_⟩
  · rw [swapE_len]
    exact ((hs (oneF g) rfl).block p (lt_of_block h1) h4).trans h1
  · rw [swapE_len]
    exact owns_swapQ h2 i j hi hj (atE es j) (atE es i)
  · exact (h5 e ((swapE_perm hi hj).mem_iff.1 he)).step (hs _ (.inr rfl)) (fun _ x => x)

set_option maxHeartbeats 2000000 in
/-- up. -/
theorem qup_any (w : World) (p g c : Nat) (lv : Value) (es : List Ent) (h : QpAt w p g c lv es) (j : Nat) (hj : j < es.length) (hl : es.length ≤ 1000000) (hu : upE es j) (hne : ∀ e ∈ es, e.ms ≠ []) :
    Calls Tryz.prog 81 #[.iface 100 (.pointer (some ⟨p, 0, none⟩)), .int .i64 j] w fun e w' => e = .returned (.tuple #[]) ∧ Step (pgF p g) w w' ∧ ∃ ms, QpAt w' p g c lv ms ∧ ms.Perm es ∧ hpN ms ms.length := by
  have HN := hid h
  have HU := hid hu
  have HE := hid hne
  clear h hu hne
  go_enter Tryz.func81, Tryz.ntmps81
  go_wp2_with fail
  go_loopw [1, 4] (fun jv _ wr => ∃ (k : Nat) (ms : List Ent), jv = .int .i64 k ∧ k < es.length ∧ Hid (Step (pgF p g) w wr) ∧ Hid (QpAt wr p g c lv ms) ∧ Hid (ms.Perm es) ∧ Hid (upE ms k)) (fun jv _ _ => (intOf jv).toNat)
  case atStart => exact ⟨j, es, rfl, hj, Step.refl _ _, HN.out, List.Perm.refl _, HU.out⟩
  case round =>
    obtain ⟨k, ms, rfl, hk, hst, hn, hperm, hup⟩ := hrel
    have HL := hid (show ms.length = es.length from hperm.out.length_eq)
    by_cases k0 : k = 0
    · subst k0
      go_wp2_with fail
      go_end0
      exact ⟨rfl, hst.out, ms, hn.out, hperm.out, up_stop hup.out (.inl rfl)⟩
    · obtain ⟨i, hi⟩ : ∃ i, (k - 1) / 2 = i := ⟨_, rfl⟩
      have hik : i < k := by omega
      have hkl : k < ms.length := by rw [HL.out]; exact hk
      have hq : ((k : Int) - 1).tdiv 2 = (i : Int) := by rw [Int.tdiv_eq_ediv_of_nonneg (by omega)]; omega
      have hne : ¬ (i : Int) = (k : Int) := by omega
      have hkb : k ≤ 1000000 := by omega
      have hml := fun fu => qmeth_val qrow_less fu wr p _ hn.out.cell
      have cl := qless_any wr p g c lv ms hn.out k i (by omega) (by omega) (HE.out _ (hperm.out.mem_iff.1 (atE_mem (by omega)))) (HE.out _ (hperm.out.mem_iff.1 (atE_mem (by omega))))
      have HI := hid hi
      clear hi
      cases hb : decide (ltE (atE ms k) (atE ms i))
      · rw [hb] at cl
        have HB := hid hb
        clear hb
        go_wp2_with fail
        refine cl.mono ?_
        rintro e w1 ⟨rfl, s1⟩
        have S1 := hid s1
        clear s1
        go_wp2_with fail
        go_end0
        refine ⟨rfl, hst.out.then S1.out (fun _ x => x.elim), ms, hn.out.step S1.out, hperm.out, up_stop hup.out (.inr ?_)⟩
        rw [HI.out]; exact of_decide_eq_false HB.out
      · rw [hb] at cl
        have HB := hid hb
        clear hb
        go_wp2_with fail
        refine cl.mono ?_
        rintro e w1 ⟨rfl, s1⟩
        have hms := fun fu => qmeth_val qrow_swap fu w1 p _ (hn.out.step s1).cell
        have cs := qswap_any w1 p g c lv ms (hn.out.step s1) i k (by omega) (by omega)
        have S1 := hid s1
        clear s1
        go_wp2_with fail
        refine cs.mono ?_
        rintro e w2 ⟨rfl, s2, h2⟩
        have S2 := hid s2
        have H2 := hid h2
        clear s2 h2
        go_wp2_with fail
        go_roundw
        case rel =>
          refine ⟨i, swapE ms i k, rfl, by omega, (hst.out.then S1.out (fun _ x => x.elim)).trans S2.out, H2.out, ?_, ?_⟩
          · exact (swapE_perm (by omega) (by omega)).trans hperm.out
          · have := up_step hup.out hkl (by omega) (by rw [HI.out]; exact of_decide_eq_true HB.out)
            rw [HI.out] at this
            exact this
        case measure => simp [intOf]; omega
theorem swapE_ne {es : List Ent} {n i j : Nat} (h : ∀ q, q < n → (atE es q).ms ≠ []) (hn : n ≤ es.length) (hi : i < n) (hj : j < n) (q : Nat) (hq : q < n) : (atE (swapE es i j) q).ms ≠ [] := by
  rw [swapE_at (by omega) (by omega)]
  split
  · exact h i hi
  · split
    · exact h j hj
    · exact h q hq
set_option maxHeartbeats 4000000 in
/-- down: what lies behind n stays. -/
theorem qdown_any (w : World) (p g c : Nat) (lv : Value) (es : List Ent) (h : QpAt w p g c lv es) (n : Nat) (hdn : dnE es 0 n) (hne : ∀ q, q < n → (atE es q).ms ≠ []) (hn : n ≤ es.length) (hl : es.length ≤ 1000000) :
    Calls Tryz.prog 83 #[.iface 100 (.pointer (some ⟨p, 0, none⟩)), .int .i64 0, .int .i64 n] w fun e w' => ∃ b, e = .returned (.bool b) ∧ Step (pgF p g) w w' ∧ ∃ ms, QpAt w' p g c lv ms ∧ ms.Perm es ∧ (∀ q, n ≤ q → atE ms q = atE es q) ∧ hpN ms n := by
  have HN := hid h
  have HD := hid hdn
  have HE0 := hid hne
  have HNL := hid hn
  have hnl : n ≤ 1000000 := by omega
  have HL0 := hid hl
  clear h hn hl hdn hne
  go_enter Tryz.func83, Tryz.ntmps83
  go_wp2_with fail
  go_loopw [7, 8, 9, 10] (fun iv _ _ _ wr => ∃ (k : Nat) (ms : List Ent), iv = .int .i64 k ∧ k ≤ n ∧ Hid (Step (pgF p g) w wr) ∧ Hid (QpAt wr p g c lv ms) ∧ Hid (ms.Perm es) ∧ Hid (∀ q, n ≤ q → atE ms q = atE es q) ∧ Hid (dnE ms k n) ∧ Hid (∀ q, q < n → (atE ms q).ms ≠ [])) (fun iv _ _ _ _ => n - (intOf iv).toNat)
  case atStart => exact ⟨0, es, rfl, Nat.zero_le _, Step.refl _ _, HN.out, List.Perm.refl _, fun _ _ => rfl, HD.out, HE0.out⟩
  case round =>
    obtain ⟨k, ms, rfl, hk, hst, hn, hperm, htl, hdd, HE⟩ := hrel
    have HL := hid (show ms.length = es.length from hperm.out.length_eq)
    by_cases h1 : 2 * k + 1 < n
    · have g1 : ¬ ((n : Int) ≤ 2 * (k : Int) + 1) := by omega
      have g2 : ¬ (2 * (k : Int) + 1 < 0) := by omega
      have hkb : k ≤ 1000000 := by omega
      have HLK := hid (show 2 * k + 1 < ms.length ∧ k < ms.length by have := HL.out; have := HNL.out; omega)
      have hml := fun fu => qmeth_val qrow_less fu wr p _ hn.out.cell
      have H1 := hid h1
      by_cases h2 : 2 * k + 2 < n
      · have g3 : 2 * (k : Int) + 1 + 1 < (n : Int) := by omega
        have cl := qless_any wr p g c lv ms hn.out (2 * k + 2) (2 * k + 1) (by have := HL.out; have := HNL.out; omega) HLK.out.1 (HE.out _ (by omega)) (HE.out _ (by omega))
        have e1 : ((2 * k + 2 : Nat) : Int) = 2 * (k : Int) + 1 + 1 := by omega
        have e2 : ((2 * k + 1 : Nat) : Int) = 2 * (k : Int) + 1 := by omega
        rw [e1, e2] at cl
        have H2 := hid h2
        clear e1 e2 h1 h2
        cases hb : decide (ltE (atE ms (2 * k + 2)) (atE ms (2 * k + 1)))
        · rw [hb] at cl
          have HB := hid hb
          clear hb
          go_wp2_with fail
          refine cl.mono ?_
          rintro e w1 ⟨rfl, s1⟩
          have S1 := hid s1
          clear s1
          have hm2 := fun fu => qmeth_val qrow_less fu w1 p _ (hn.out.step S1.out).cell
          have cl2 := qless_any w1 p g c lv ms (hn.out.step S1.out) (2 * k + 1) k (by have := HL.out; have := HNL.out; have := H1.out; have := H2.out; omega) HLK.out.2 (HE.out _ (by have := H1.out; omega)) (HE.out _ (by have := H1.out; omega))
          have e2 : (((2 * k + 1) : Nat) : Int) = 2 * (k : Int) + 1 := by omega
          rw [e2] at cl2
          clear e2
          cases hc : decide (ltE (atE ms (2 * k + 1)) (atE ms k))
          · rw [hc] at cl2
            have HC := hid hc
            clear hc
            go_wp2_with fail
            refine cl2.mono ?_
            rintro e w2 ⟨rfl, s2⟩
            have S2 := hid (S1.out.trans s2)
            clear s2
            go_wp2_with fail
            go_ret
            exact ⟨_, rfl, hst.out.then S2.out (fun _ x => x.elim), ms, hn.out.step S2.out, hperm.out, htl.out, dn_stop hdd.out (fun q hq hq2 => by rcases hq2 with rfl | rfl; exact (of_decide_eq_false HC.out); exact leE_trans (show leE (atE ms k) (atE ms (2 * k + 1)) from (of_decide_eq_false HC.out)) (of_decide_eq_false HB.out))⟩
          · rw [hc] at cl2
            have HC := hid hc
            clear hc
            go_wp2_with fail
            refine cl2.mono ?_
            rintro e w2 ⟨rfl, s2⟩
            have S2 := hid (S1.out.trans s2)
            clear s2
            have hms := fun fu => qmeth_val qrow_swap fu w2 p _ (hn.out.step S2.out).cell
            have cs := qswap_any w2 p g c lv ms (hn.out.step S2.out) k (2 * k + 1) HLK.out.2 (by have := HL.out; have := HNL.out; have := H1.out; have := H2.out; omega)
            have e2 : (((2 * k + 1) : Nat) : Int) = 2 * (k : Int) + 1 := by omega
            rw [e2] at cs
            clear e2
            go_wp2_with fail
            refine cs.mono ?_
            rintro e w3 ⟨rfl, s3, h3⟩
            have S3 := hid s3
            have H3 := hid h3
            clear s3 h3
            go_wp2_with fail
            go_roundw
            case rel =>
              refine ⟨(2 * k + 1), swapE ms k (2 * k + 1), int_eq (by omega), by have := H1.out; have := H2.out; omega, (hst.out.then S2.out (fun _ x => x.elim)).trans S3.out, H3.out, ?_, ?_, ?_, ?_⟩
              · exact (swapE_perm HLK.out.2 (by have := HL.out; have := HNL.out; have := H1.out; have := H2.out; omega)).trans hperm.out
              · intro q hq
                rw [swapE_at HLK.out.2 (by have := HL.out; have := HNL.out; have := H1.out; have := H2.out; omega), if_neg (by have := H1.out; have := H2.out; omega), if_neg (by have := H1.out; have := H2.out; omega)]
                exact htl.out q hq
              · refine dn_step hdd.out (by have := HL.out; have := HNL.out; omega) (by have := H1.out; have := H2.out; omega) (by omega) (of_decide_eq_true HC.out) (fun q hq hq2 => ?_)
                rcases hq2 with rfl | rfl
                · exact leE_refl _
                · exact (of_decide_eq_false HB.out)
              · exact fun q hq => swapE_ne HE.out (by have := HL.out; have := HNL.out; omega) (by have := H1.out; omega) (by have := H1.out; have := H2.out; omega) q hq
            case measure => simp [intOf]; have := H1.out; have := H2.out; omega
        · rw [hb] at cl
          have HB := hid hb
          clear hb
          go_wp2_with fail
          refine cl.mono ?_
          rintro e w1 ⟨rfl, s1⟩
          have S1 := hid s1
          clear s1
          have hm2 := fun fu => qmeth_val qrow_less fu w1 p _ (hn.out.step S1.out).cell
          have cl2 := qless_any w1 p g c lv ms (hn.out.step S1.out) (2 * k + 2) k (by have := HL.out; have := HNL.out; have := H1.out; have := H2.out; omega) HLK.out.2 (HE.out _ (by have := H2.out; omega)) (HE.out _ (by have := H1.out; omega))
          have e2 : (((2 * k + 2) : Nat) : Int) = 2 * (k : Int) + 1 + 1 := by omega
          rw [e2] at cl2
          clear e2
          cases hc : decide (ltE (atE ms (2 * k + 2)) (atE ms k))
          · rw [hc] at cl2
            have HC := hid hc
            clear hc
            go_wp2_with fail
            refine cl2.mono ?_
            rintro e w2 ⟨rfl, s2⟩
            have S2 := hid (S1.out.trans s2)
            clear s2
            go_wp2_with fail
            go_ret
            exact ⟨_, rfl, hst.out.then S2.out (fun _ x => x.elim), ms, hn.out.step S2.out, hperm.out, htl.out, dn_stop hdd.out (fun q hq hq2 => by rcases hq2 with rfl | rfl; exact leE_trans (show leE (atE ms k) (atE ms (2 * k + 2)) from (of_decide_eq_false HC.out)) (ltE_le (of_decide_eq_true HB.out)); exact (of_decide_eq_false HC.out))⟩
          · rw [hc] at cl2
            have HC := hid hc
            clear hc
            go_wp2_with fail
            refine cl2.mono ?_
            rintro e w2 ⟨rfl, s2⟩
            have S2 := hid (S1.out.trans s2)
            clear s2
            have hms := fun fu => qmeth_val qrow_swap fu w2 p _ (hn.out.step S2.out).cell
            have cs := qswap_any w2 p g c lv ms (hn.out.step S2.out) k (2 * k + 2) HLK.out.2 (by have := HL.out; have := HNL.out; have := H1.out; have := H2.out; omega)
            have e2 : (((2 * k + 2) : Nat) : Int) = 2 * (k : Int) + 1 + 1 := by omega
            rw [e2] at cs
            clear e2
            go_wp2_with fail
            refine cs.mono ?_
            rintro e w3 ⟨rfl, s3, h3⟩
            have S3 := hid s3
            have H3 := hid h3
            clear s3 h3
            go_wp2_with fail
            go_roundw
            case rel =>
              refine ⟨(2 * k + 2), swapE ms k (2 * k + 2), int_eq (by omega), by have := H1.out; have := H2.out; omega, (hst.out.then S2.out (fun _ x => x.elim)).trans S3.out, H3.out, ?_, ?_, ?_, ?_⟩
              · exact (swapE_perm HLK.out.2 (by have := HL.out; have := HNL.out; have := H1.out; have := H2.out; omega)).trans hperm.out
              · intro q hq
                rw [swapE_at HLK.out.2 (by have := HL.out; have := HNL.out; have := H1.out; have := H2.out; omega), if_neg (by have := H1.out; have := H2.out; omega), if_neg (by have := H1.out; have := H2.out; omega)]
                exact htl.out q hq
              · refine dn_step hdd.out (by have := HL.out; have := HNL.out; omega) (by have := H1.out; have := H2.out; omega) (by omega) (of_decide_eq_true HC.out) (fun q hq hq2 => ?_)
                rcases hq2 with rfl | rfl
                · exact ltE_le (of_decide_eq_true HB.out)
                · exact leE_refl _
              · exact fun q hq => swapE_ne HE.out (by have := HL.out; have := HNL.out; omega) (by have := H1.out; omega) (by have := H1.out; have := H2.out; omega) q hq
            case measure => simp [intOf]; have := H1.out; have := H2.out; omega
      · have g3 : ¬ (2 * (k : Int) + 1 + 1 < (n : Int)) := by omega
        have s1 : Step noF wr wr := Step.refl _ _
        have S1 := hid s1
        have H2N := hid h2
        clear h1 h2 s1
        have hm2 := fun fu => qmeth_val qrow_less fu wr p _ (hn.out.step S1.out).cell
        have cl2 := qless_any wr p g c lv ms (hn.out.step S1.out) (2 * k + 1) k (by have := HL.out; have := HNL.out; have := H1.out; omega) HLK.out.2 (HE.out _ (by have := H1.out; omega)) (HE.out _ (by have := H1.out; omega))
        have e2 : (((2 * k + 1) : Nat) : Int) = 2 * (k : Int) + 1 := by omega
        rw [e2] at cl2
        clear e2
        cases hc : decide (ltE (atE ms (2 * k + 1)) (atE ms k))
        · rw [hc] at cl2
          have HC := hid hc
          clear hc
          go_wp2_with fail
          refine cl2.mono ?_
          rintro e w2 ⟨rfl, s2⟩
          have S2 := hid (S1.out.trans s2)
          clear s2
          go_wp2_with fail
          go_ret
          exact ⟨_, rfl, hst.out.then S2.out (fun _ x => x.elim), ms, hn.out.step S2.out, hperm.out, htl.out, dn_stop hdd.out (fun q hq hq2 => by rcases hq2 with rfl | rfl; exact (of_decide_eq_false HC.out); exact absurd hq H2N.out)⟩
        · rw [hc] at cl2
          have HC := hid hc
          clear hc
          go_wp2_with fail
          refine cl2.mono ?_
          rintro e w2 ⟨rfl, s2⟩
          have S2 := hid (S1.out.trans s2)
          clear s2
          have hms := fun fu => qmeth_val qrow_swap fu w2 p _ (hn.out.step S2.out).cell
          have cs := qswap_any w2 p g c lv ms (hn.out.step S2.out) k (2 * k + 1) HLK.out.2 (by have := HL.out; have := HNL.out; have := H1.out; omega)
          have e2 : (((2 * k + 1) : Nat) : Int) = 2 * (k : Int) + 1 := by omega
          rw [e2] at cs
          clear e2
          go_wp2_with fail
          refine cs.mono ?_
          rintro e w3 ⟨rfl, s3, h3⟩
          have S3 := hid s3
          have H3 := hid h3
          clear s3 h3
          go_wp2_with fail
          go_roundw
          case rel =>
            refine ⟨(2 * k + 1), swapE ms k (2 * k + 1), int_eq (by omega), by have := H1.out; omega, (hst.out.then S2.out (fun _ x => x.elim)).trans S3.out, H3.out, ?_, ?_, ?_, ?_⟩
            · exact (swapE_perm HLK.out.2 (by have := HL.out; have := HNL.out; have := H1.out; omega)).trans hperm.out
            · intro q hq
              rw [swapE_at HLK.out.2 (by have := HL.out; have := HNL.out; have := H1.out; omega), if_neg (by have := H1.out; omega), if_neg (by have := H1.out; omega)]
              exact htl.out q hq
            · refine dn_step hdd.out (by have := HL.out; have := HNL.out; omega) (by have := H1.out; omega) (by omega) (of_decide_eq_true HC.out) (fun q hq hq2 => ?_)
              rcases hq2 with rfl | rfl
              · exact leE_refl _
              · exact absurd hq H2N.out
            · exact fun q hq => swapE_ne HE.out (by have := HL.out; have := HNL.out; omega) (by have := H1.out; omega) (by have := H1.out; omega) q hq
          case measure => simp [intOf]; have := H1.out; omega
    · have g1 : (n : Int) ≤ 2 * (k : Int) + 1 := by omega
      have hkb : k ≤ 1000000 := by omega
      go_wp2_with fail
      go_ret
      exact ⟨_, rfl, hst.out, ms, hn.out, hperm.out, htl.out, dn_stop hdd.out (fun q hq hq2 => by omega)⟩
end Go.Proofs.YtnalillebemglaaGreat
