/-
  slices.SortFunc over items and slices.SortStableFunc over messages: what the rows hold behind them.
-/
import Derived.Test.YtnalillebemglaaGreatLfRow
import Derived.Test.YtnalillebemglaaGreatLfStable
namespace Go.Proofs.YtnalillebemglaaGreat
open Go.Shelf Go.RowKit Go.Lib Go.Sort
set_option linter.unusedVariables false
set_option linter.unusedSimpArgs false

theorem cmpL_neg (a b : List UInt8) : cmpL a b < 0 ↔ a < b := by
  unfold cmpL
  by_cases h : a < b
  · simp [h]
  · by_cases h2 : b < a <;> simp [h, h2]
theorem cmpL_zero (a b : List UInt8) : cmpL a b = 0 ↔ a = b := by
  unfold cmpL
  by_cases h : a < b
  · simp [h]
    intro e
    subst e
    exact lt_irrefl' h
  · by_cases h2 : b < a
    · simp [h, h2]
      intro e
      subst e
      exact lt_irrefl' h2
    · simp [h, h2]
      exact Classical.byContradiction fun e => h2 (lt_or' h e)
theorem swo_key {α : Type} (key : α → List UInt8) : SWO (ltOf fun x y : α => cmpL (key x) (key y)) where
  irrefl x := by unfold ltOf; rw [decide_eq_false_iff_not, cmpL_neg]; exact lt_irrefl'
  trans x y z h1 h2 := by
    unfold ltOf at *
    rw [decide_eq_true_eq, cmpL_neg] at *
    exact lt_trans' h1 h2
  ntrans x y z h1 h2 := by
    unfold ltOf at *
    rw [decide_eq_false_iff_not, cmpL_neg] at *
    grind
theorem enterIt : ∀ args w, (callFunc 36 args).run Tryz.prog w = .ok (.enter 36 args) w := enters_of Tryz.func36 (by kernel_rfl) rfl
theorem enterMs : ∀ args w, (callFunc 48 args).run Tryz.prog w = .ok (.enter 48 args) w := enters_of Tryz.func48 (by kernel_rfl) rfl

theorem sortItI_any [Inhabited Rg] (xs : List Rg) (hl : xs.length ≤ 1000000) (v : Value) (base : Nat) (w : World) (hown : w.ownsRow base 42 2 v xs.length (rgs xs)) :
    Calls Tryz.prog 42 #[v, .func (.func 36) #[] #[]] w fun e w' => e = .returned (.tuple #[]) ∧ ∃ ys : List Rg, ys.Perm xs ∧ Up Rg.lo ys ∧ w'.ownsRow base 42 2 v xs.length (rgs ys) ∧ Step (fun k => v.ownBlock = some k) w w' := by
  rcases hown.2 with ⟨rfl, h0⟩ | ⟨g, cap, cur, rfl, hb, hg, hnc, hcm, hcs, ht⟩
  · have hx : xs = [] := List.eq_nil_of_length_eq_zero h0
    subst hx
    have h := AnyF.slices_SortFunc_none (P := Tryz.prog) (ρ := Tryz.sortIt_ren) Tryz.sortIt none 0 (.func (.func 36) #[] #[]) w
    refine Calls.mono (show Calls Tryz.prog 42 _ _ _ from h) ?_
    rintro e w' ⟨rfl, rfl⟩
    exact ⟨rfl, [], List.Perm.refl _, up_nil, hown, Step.refl _ _⟩
  · have hH := holdsK_block encI 2 (fun _ => rfl) (by omega) hg (by rw [ht, rgs_enc])
    have hC : CmpLays Tryz.prog 36 #[] encI 2 (fun x y : Rg => cmpL x.lo y.lo) g 0 xs.toArray.size w := fun _ _ _ _ x y => cmpIt_any x y _
    have h := AnyQ.slices_SortFunc (P := Tryz.prog) (ρ := Tryz.sortIt_ren) Tryz.sortIt 2 (by exact Tryz.isAgg42) (by exact Tryz.sizeOf42) encI (fun _ => rfl) (fun x v hv => by simp [encI] at hv; rcases hv with rfl | rfl <;> rfl) (fun x y : Rg => cmpL x.lo y.lo) (swo_key Rg.lo) 36 #[] g 0 cap xs.toArray w enterIt hC hH (lt_of_block hg) (by simp; omega)
    refine Calls.mono (show Calls Tryz.prog 42 _ _ _ from h) ?_
    rintro e w' ⟨rfl, d', n, os, hp, hs, rfl⟩
    have hsz : d'.size = xs.length := by rw [hp.1]; rfl
    have S : SWK encI 2 w g 0 d' (sortWorldK encI 2 w g 0 n d' os) := ⟨n, os, rfl⟩
    obtain ⟨cur', c1, c2, c3⟩ := swk_block encI 2 (fun _ => rfl) (by omega) hg (by rw [hsz, hcs]; exact Nat.mul_le_mul_right _ hnc) S
    have hperm : d'.toList.Perm xs := by
      have := hp.2.2
      rw [show xs.toArray.size = d'.size by rw [hsz]; rfl, Array.extract_size] at this
      rw [show d'.size = xs.toArray.size by rw [hsz]; rfl, Array.extract_size] at this
      exact this
    have hup : Up Rg.lo d'.toList := by
      have := up_of_sorted Rg.lo (ltOf fun x y : Rg => cmpL x.lo y.lo) (fun x y => by unfold ltOf; rw [decide_eq_decide]; exact cmpL_neg _ _) d' 0 d'.size (by omega) (Nat.le_refl _) (by rw [hsz]; exact hs)
      rw [List.drop_zero, List.take_of_length_le (by simp)] at this
      exact this
    refine ⟨rfl, d'.toList, hperm, hup, owns_of_block hb c1 hnc hcm (by rw [c2, hcs]) (by rw [← hsz, c3, rgs_enc]) (by rw [rgs_length, hperm.length_eq]), (swk_step encI 2 S).mono (fun i hi => .inl (by unfold oneF at hi; rw [hi]; rfl))⟩
/-- slices.SortFunc over items. -/
theorem sortIt_any (xs : List Rg) (hl : xs.length ≤ 1000000) (v : Value) (base : Nat) (w : World) (hown : w.ownsRow base 42 2 v xs.length (rgs xs)) :
    Calls Tryz.prog 42 #[v, .func (.func 36) #[] #[]] w fun e w' => e = .returned (.tuple #[]) ∧ ∃ ys : List Rg, ys.Perm xs ∧ Up Rg.lo ys ∧ w'.ownsRow base 42 2 v xs.length (rgs ys) ∧ Step (fun k => v.ownBlock = some k) w w' := by
  have : Inhabited Rg := ⟨⟨[], []⟩⟩
  exact sortItI_any xs hl v base w hown

set_option maxHeartbeats 1000000 in
theorem stable_none (fv : Value) (w : World) : Calls Tryz.prog 75 #[.slice none 0 0, .int .i64 0, fv] w fun e w' => e = .returned (.tuple #[]) ∧ w = w' := by
  have h := AnyF.insertionSortCmpFunc_none (P := Tryz.prog) (ρ := Tryz.insMg_ren) Tryz.insMg none 0 fv w
  have hc : Calls Tryz.prog 99 #[.slice none 0 0, .int .i64 0, .int .i64 0, fv] w fun e w' => e = .returned (.tuple #[]) ∧ w' = w := h
  clear h
  go_enter Tryz.func75, Tryz.ntmps75
  go_wp2
  refine wp_loop_rounds 1 ?_
  rw [rounds_succ]
  go_wp2_with (go_at_call 99; refine hc.mono ?_; rintro e w' ⟨rfl, rfl⟩)
  refine wp_loop_rounds 1 ?_
  rw [rounds_succ]
  go_wp2
  go_end0
  exact ⟨rfl, rfl⟩
theorem sortMsI_any [Inhabited Mg] (ms : List Mg) (hl : ms.length ≤ 1000000) (v : Value) (base : Nat) (w : World) (hown : w.ownsRow base 37 3 v ms.length (msgs ms)) :
    Calls Tryz.prog 75 #[v, .int .i64 ms.length, .func (.func 48) #[] #[]] w fun e w' => e = .returned (.tuple #[]) ∧ ∃ ys : List Mg, Alike Mg.key ys ms ∧ Up Mg.key ys ∧ ys.length = ms.length ∧ w'.ownsRow base 37 3 v ms.length (msgs ys) ∧ Step (fun k => v.ownBlock = some k) w w' := by
  rcases hown.2 with ⟨rfl, h0⟩ | ⟨g, cap, cur, rfl, hb, hg, hnc, hcm, hcs, ht⟩
  · have hx : ms = [] := List.eq_nil_of_length_eq_zero h0
    subst hx
    refine (stable_none (.func (.func 48) #[] #[]) w).mono ?_
    rintro e w' ⟨rfl, rfl⟩
    exact ⟨rfl, [], Alike.refl _, up_nil, rfl, hown, Step.refl _ _⟩
  · have hH := holdsK_block encM 3 (fun _ => rfl) (by omega) hg (by rw [ht]; rfl)
    have C : SortCtx Mg.key 3 encM (fun x y : Mg => cmpL x.key y.key) 48 #[] g 0 ms.toArray w :=
      ⟨by exact Tryz.sizeOf37, ⟨fun _ => rfl, fun x v hv => by simp [encM] at hv; rcases hv with rfl | rfl | rfl <;> rfl, hH, lt_of_block hg⟩, fun _ _ _ _ x y => cmpMs_any x y _, enterMs, fun x y => cmpL_neg _ _, by simp; omega⟩
    refine (stable_any C (swo_key Mg.key) cap).mono ?_
    rintro e w' ⟨rfl, d', hsz, S, hup, hal⟩
    have hsz' : d'.size = ms.length := by rw [hsz]; rfl
    obtain ⟨cur', c1, c2, c3⟩ := swk_block encM 3 (fun _ => rfl) (by omega) hg (by rw [hsz', hcs]; exact Nat.mul_le_mul_right _ hnc) S
    refine ⟨rfl, d'.toList, hal, hup, by simpa using hsz', owns_of_block hb c1 hnc hcm (by rw [c2, hcs]) (by rw [← hsz', c3]; rfl) (by rw [msgs_length]; simp [hsz']), (swk_step encM 3 S).mono (fun i hi => .inl (by unfold oneF at hi; rw [hi]; rfl))⟩
set_option maxHeartbeats 1000000 in
/-- slices.SortStableFunc over messages. -/
theorem sortMs_any (ms : List Mg) (hl : ms.length ≤ 1000000) (v : Value) (base : Nat) (w : World) (hown : w.ownsRow base 37 3 v ms.length (msgs ms)) :
    Calls Tryz.prog 47 #[v, .func (.func 48) #[] #[]] w fun e w' => e = .returned (.tuple #[]) ∧ ∃ ys : List Mg, Alike Mg.key ys ms ∧ Up Mg.key ys ∧ ys.length = ms.length ∧ w'.ownsRow base 37 3 v ms.length (msgs ys) ∧ Step (fun k => v.ownBlock = some k) w w' := by
  have : Inhabited Mg := ⟨⟨0, [], []⟩⟩
  have hc := sortMsI_any ms hl v base w hown
  obtain ⟨a, c, rfl⟩ := owns_form hown
  clear hown
  go_enter Tryz.func47, Tryz.ntmps47
  go_wp2_with (go_at_call 75; refine hc.mono ?_; rintro e w' ⟨rfl, hh⟩)
  have HH := hid hh
  clear hh
  go_end0
  exact ⟨rfl, HH.out⟩
end Go.Proofs.YtnalillebemglaaGreat
namespace Go.Proofs.YtnalillebemglaaGreat
open Go.RowKit Go.Sort
set_option linter.unusedVariables false
set_option linter.unusedSimpArgs false

/-- A leaf. -/
def LeafAt (w : World) (p : Nat) (xs : List Rg) : Prop := ∃ a c, w.heap[p]? = some (.cells #[.slice a xs.length c] 86 (0, 0)) ∧ xs.length ≤ c ∧ NilOk w a c ∧ RgsAt w a xs
theorem LeafAt.step {w w' : World} {p : Nat} {xs : List Rg} (h : LeafAt w p xs) (hs : Step noF w w') : LeafAt w' p xs := by
  obtain ⟨a, c, h1, h2, h3, h4⟩ := h
  exact ⟨a, c, (hs.block p (lt_of_block h1) (fun x => x)).trans h1, h2, h3.step hs, h4.step hs⟩
theorem LeafAt.lt {w : World} {p : Nat} {xs : List Rg} (h : LeafAt w p xs) : p < w.heap.size := by
  obtain ⟨a, c, h1, _⟩ := h
  exact lt_of_block h1
theorem LeafAt.cell {w : World} {p : Nat} {xs : List Rg} (h : LeafAt w p xs) : ∃ a c, w.cell? ⟨p, 0, none⟩ = some (.slice a xs.length c) ∧ xs.length ≤ c ∧ NilOk w a c ∧ RgsAt w a xs := by
  obtain ⟨a, c, h1, h2⟩ := h
  exact ⟨a, c, by rw [cell_of_block h1]; rfl, h2⟩
theorem lenL_any (p : Nat) (xs : List Rg) (w : World) (h : LeafAt w p xs) : Calls Tryz.prog 137 #[.pointer (some ⟨p, 0, none⟩)] w fun e w' => e = .returned (.int .i64 xs.length) ∧ w = w' := by
  obtain ⟨a, c, h1, h2⟩ := h.cell
  clear h
  go_enter Tryz.func137, Tryz.ntmps137
  go_wp2
  go_ret
  exact ⟨rfl, rfl⟩
theorem lenL_nil (w : World) : Calls Tryz.prog 137 #[.pointer none] w fun e w' => e = .returned (.int .i64 0) ∧ w = w' := by
  go_enter Tryz.func137, Tryz.ntmps137
  go_wp2
  go_ret
  exact ⟨rfl, rfl⟩
theorem items_nil (w : World) : Calls Tryz.prog 20 #[.pointer none] w fun e w' => e = .returned (.slice none 0 0) ∧ w = w' := by
  go_enter Tryz.func20, Tryz.ntmps20
  go_wp2
  go_ret
  exact ⟨rfl, rfl⟩
/-- The least key. -/
def lowL : List Rg → List UInt8
  | [] => []
  | x :: _ => x.lo
theorem items_any (p : Nat) (xs : List Rg) (hl : xs.length ≤ 1000000) (w : World) (h : LeafAt w p xs) : Calls Tryz.prog 20 #[.pointer (some ⟨p, 0, none⟩)] w fun e w' => ∃ v, e = .returned v ∧ w'.ownsRow w.heap.size 42 2 v xs.length (rgs xs) ∧ Step noF w w' := by
  obtain ⟨a, c, h1, h2, h3, h4⟩ := h.cell
  have hc := cloneIt_any xs hl a c w h4 h3.1
  clear h h2 h3 h4
  go_enter Tryz.func20, Tryz.ntmps20
  go_wp2_with (go_at_call 41; refine hc.mono ?_; rintro e w' ⟨v, rfl, ho, hs⟩)
  go_ret
  exact ⟨v, rfl, ho, hs⟩

theorem wtL_take (xs : List Rg) (j : Nat) (hj : j < xs.length) : wtL (xs.take (j + 1)) = wtL (xs.take j) + itW xs[j] := by
  rw [List.take_succ_eq_append_getElem hj, wtL_append, wtL_cons]
  simp [wtL]
/-- Items of no great length. -/
def Small (xs : List Rg) : Prop := xs.length ≤ 1000000 ∧ ∀ x ∈ xs, x.lo.length ≤ 1000000 ∧ x.hi.length ≤ 1000000
theorem wtL_small (xs : List Rg) (h : ∀ x ∈ xs, x.lo.length ≤ 1000000 ∧ x.hi.length ≤ 1000000) : wtL xs ≤ xs.length * 2000002 := by
  induction xs with
  | nil => simp [wtL]
  | cons x xs ih =>
    rw [wtL_cons, List.length_cons]
    have := ih (fun y hy => h y (by simp [hy]))
    have := h x (by simp)
    unfold itW
    omega
end Go.Proofs.YtnalillebemglaaGreat
namespace Go.Proofs.YtnalillebemglaaGreat
open Go.RowKit Go.Sort
set_option linter.unusedVariables false
set_option linter.unusedSimpArgs false

/-- Cells of a row, in every world behind. -/
theorem grown_two {w : World} {g off j : Nat} {x y : Value} (h1 : w.cell? ⟨g, off + j * 2, none⟩ = some x) (h2 : w.cell? ⟨g, off + j * 2 + 1, none⟩ = some y) : (∀ n os, (grow (w.drewN n) os).cell? ⟨g, off + j * 2, none⟩ = some x) ∧ (∀ n os, (grow (w.drewN n) os).cell? ⟨g, off + j * 2 + 1, none⟩ = some y) :=
  ⟨fun n os => cell_grown (World.block_lt_of_cell? w _ h1) h1 n os, fun n os => cell_grown (World.block_lt_of_cell? w _ h2) h2 n os⟩

/-- Whether two neighbours have one key. -/
def TwinPost (xs : List Rg) (e : Ending) : Prop := (e = .returned (.bool true) ∧ ∃ i, ∃ h : i + 1 < xs.length, xs[i].lo = xs[i + 1].lo) ∨ (e = .returned (.bool false) ∧ ∀ i (h : i + 1 < xs.length), xs[i].lo ≠ xs[i + 1].lo)
set_option maxHeartbeats 1000000 in
theorem hasTwins_any (xs : List Rg) (hl : xs.length ≤ 1000000) (a : Option Addr) (c : Nat) (w : World) (h : RgsAt w a xs) :
    Calls Tryz.prog 43 #[.slice a xs.length c] w fun e w' => TwinPost xs e ∧ Step noF w w' := by
  have mixed : Tryz.prog.follows .mixedOrders = true := by kernel_rfl
  have HR := hid h
  clear h
  go_enter Tryz.func43, Tryz.ntmps43
  go_wp2_with fail
  go_loopg [3] xs.length (fun kx s3 wr => ∃ (j : Nat), s3 = .int .i64 j ∧ 1 ≤ j ∧ xs.length - j ≤ kx ∧ Hid (∀ i (h : i + 1 < xs.length), i + 1 < j → xs[i].lo ≠ xs[i + 1].lo) ∧ Hid (Step noF w wr))
  case atStart => exact ⟨1, rfl, by omega, by omega, fun i h h2 => absurd h2 (by omega), Step.refl _ _⟩
  case round =>
    obtain ⟨j, rfl, hj, hkx, HI, ST⟩ := hrel
    by_cases hjl : j < xs.length
    · obtain ⟨q, rfl⟩ : ∃ q, j = q + 1 := ⟨j - 1, by omega⟩
      obtain ⟨g, off, rfl, c0, c1⟩ := (HR.out.step ST.out).at (q + 1) hjl
      obtain ⟨g', off', e', d0, d1⟩ := (HR.out.step ST.out).at q (by omega)
      obtain ⟨rfl, rfl⟩ : g = g' ∧ off = off' := by
        injection e' with e'
        injection e' with e1 e2
        exact ⟨e1, e2⟩
      obtain ⟨k0, k1⟩ := grown_two c0 c1
      obtain ⟨m0, m1⟩ := grown_two d0 d1
      have hcg := fun n os => cmpIt_any xs[q] xs[q + 1] (grow (wr.drewN n) os)
      have HZ := hid (cmpL_zero xs[q].lo xs[q + 1].lo)
      obtain ⟨r, hr⟩ : ∃ r, cmpL xs[q].lo xs[q + 1].lo = r := ⟨_, rfl⟩
      obtain ⟨⟨x0, x1⟩, hx⟩ : ∃ m, xs[q] = m := ⟨_, rfl⟩
      obtain ⟨⟨y0, y1⟩, hy⟩ : ∃ m, xs[q + 1] = m := ⟨_, rfl⟩
      have hne : Hid (r ≠ 0 → xs[q].lo ≠ xs[q + 1].lo) := fun h e => h (by rw [← hr]; exact HZ.out.2 e)
      have heq : Hid (r = 0 → xs[q].lo = xs[q + 1].lo) := fun h => HZ.out.1 (by rw [hr]; exact h)
      rw [hr] at hcg
      rw [hx] at hcg m0 m1
      rw [hy] at hcg k0 k1
      clear HZ hr hx hy c0 c1 d0 d1 e'
      have ez : (q : Int) + 1 - 1 = (q : Int) := by omega
      have b0 : (q : Int) < (xs.length : Int) := by omega
      have b1 : (q : Int) + 1 < (xs.length : Int) := by omega
      have p1 : (0 : Int) ≤ (q : Int) + 1 := by omega
      have e1 : ((q : Int) + 1).toNat = q + 1 := by omega
      have rq : IntKind.i64.wrap (q : Int) = (q : Int) := by rw [IntKind.wrap_i64]; omega
      by_cases h0 : r = 0
      · subst h0
        go_wp2_with fail
        go_quiet_grown (first | (go_at_call 36; refine Calls.grown_of (hcg _ _)) | (refine Calls.grown_of (hcg _ _)))
        go_wp2
        go_ret
        exact ⟨.inl ⟨rfl, q, hjl, by first | exact heq.out rfl | exact heq.out trivial | exact heq.out⟩, ST.out.trans (step_grow _ _ _)⟩
      · have h1 : (r == 0) = false := by rw [beq_eq_false_iff_ne]; exact h0
        go_wp2_with fail
        go_quiet_grown (first | (go_at_call 36; refine Calls.grown_of (hcg _ _)) | (refine Calls.grown_of (hcg _ _)))
        go_wp2
        go_roundg (xs.length - (q + 2))
        case measure => omega
        case rel =>
          refine ⟨q + 2, by simp; omega, by omega, Nat.le_refl _, fun i h hi => ?_, ST.out.trans (step_grow _ _ _)⟩
          by_cases e : i = q
          · subst e
            exact hne.out h0
          · exact HI.out i h (by omega)
    · have hjz : ¬ (j : Int) < (xs.length : Int) := by omega
      go_wp2_with fail
      go_ret
      exact ⟨.inr ⟨rfl, fun i h => HI.out i h (by omega)⟩, ST.out⟩

theorem rising_of_up (xs : List Rg) (hu : Up Rg.lo xs) (hn : ∀ i (h : i + 1 < xs.length), xs[i].lo ≠ xs[i + 1].lo) : Rising xs := by
  unfold Rising
  rw [List.pairwise_iff_getElem]
  have hs : ∀ i (h : i + 1 < xs.length), xs[i].lo < xs[i + 1].lo := fun i h => by
    have := up_at hu (i := i) (j := i + 1) h (by omega)
    exact lt_or' this (fun e => hn i h e.symm)
  intro i j hi hj hij
  have := up_at hu (i := i + 1) (j := j) hj (by omega)
  have := hs i (by omega)
  grind
theorem rising_no_twins (xs : List Rg) (h : (keysL xs).Nodup) (i : Nat) (hi : i + 1 < xs.length) : xs[i].lo ≠ xs[i + 1].lo := by
  unfold keysL at h
  have := (List.pairwise_iff_getElem.1 h) i (i + 1) (by simp; omega) (by simp; omega) (by omega)
  simpa using this
theorem keys_perm {xs ys : List Rg} (h : ys.Perm xs) : (keysL ys).Nodup ↔ (keysL xs).Nodup := (h.map Rg.lo).nodup_iff
theorem leafAt_new {w : World} {v : Value} {xs : List Rg} {base : Nat} (h : w.ownsRow base 42 2 v xs.length (rgs xs)) : LeafAt (w.alloc (.cells #[v] 86)) w.heap.size xs := by
  obtain ⟨a, c, rfl, h1, h2, h3⟩ := owns_rgs h
  exact ⟨a, c, block_alloc_new w _, h1, h2.step ((Step.refl noF _).alloc _), h3.step ((Step.refl _ _).alloc _)⟩

set_option maxHeartbeats 1000000 in
theorem leafOf_any (xs : List Rg) (hl : xs.length ≤ 1000000) (a : Option Addr) (c : Nat) (w : World) (h : RgsAt w a xs) (hc : a = none → c = 0) :
    Calls Tryz.prog 19 #[.slice a xs.length c] w fun e w' => Step noF w w' ∧ ((ofE xs ≠ 0 ∧ e = .returned (.tuple #[.pointer none, .int .i64 (ofE xs)])) ∨ (ofE xs = 0 ∧ ∃ p, e = .returned (.tuple #[.pointer (some ⟨p, 0, none⟩), .int .i64 0]) ∧ w.heap.size ≤ p ∧ LeafAt w' p (sortL xs))) := by
  have c1 := containsIt_any xs hl a c w h
  have HR := hid h
  have HC := hid hc
  clear h hc
  cases hok : xs.all itOk
  · rw [hok] at c1
    have e1 : ofE xs = 1 := by unfold ofE; rw [hok]; rfl
    rw [e1]
    clear hok e1
    go_enter Tryz.func19, Tryz.ntmps19
    go_wp2_with fail
    refine c1.mono ?_
    rintro e w2 ⟨rfl, s2⟩
    have S2 := hid s2
    clear s2
    go_wp2_with fail
    go_ret2
    exact ⟨S2.out, .inl ⟨by decide, rfl⟩⟩
  · rw [hok] at c1
    have HE : Hid (ofE xs = if (keysL xs).Nodup then 0 else 11) := by show _ = _; unfold ofE; rw [hok]; rfl
    clear hok
    go_enter Tryz.func19, Tryz.ntmps19
    go_wp2_with fail
    refine c1.mono ?_
    rintro e w2 ⟨rfl, s2⟩
    have S2 := hid s2
    clear s2
    go_wp2_with fail
    refine (cloneIt_any xs hl a c w2 (HR.out.step S2.out) HC.out).mono ?_
    rintro e w3 ⟨v, rfl, o3, s3⟩
    have O3 := hid o3
    have S3 := hid s3
    clear o3 s3
    obtain ⟨va, vc, rfl⟩ := owns_form O3.out
    go_wp2_with fail
    refine (sortIt_any xs hl _ _ w3 O3.out).mono ?_
    rintro e w4 ⟨rfl, ys, hp, hu, o4, s4⟩
    have O4 := hid o4
    have HP := hid hp
    have HU := hid hu
    have S4 : Hid (Step noF w w4) := S2.out.trans (S3.out.then s4 (fun i hi => .inr ((O3.out.lt i hi).1)))
    clear o4 s4 hp hu
    have hyl : Hid (ys.length = xs.length) := HP.out.length_eq
    obtain ⟨ya, yc, hyv, hyc, hyn, hyr⟩ := owns_rgs (show w4.ownsRow _ 42 2 (.slice va xs.length vc) ys.length (rgs ys) by rw [hyl.out]; exact O4.out)
    have c5 := hasTwins_any ys (by rw [hyl.out]; exact hl) ya yc w4 hyr
    rw [← hyv] at c5
    clear hyv hyc hyn hyr
    go_wp2_with fail
    refine c5.mono ?_
    rintro e w5 ⟨hb, s5⟩
    have S5 := hid (S4.out.trans s5)
    have S45 := hid s5
    clear s5
    rcases hb with ⟨rfl, hb⟩ | ⟨rfl, hb⟩
    case inr =>
      have HB2 := hid hb
      clear hb
      go_wp2_with fail
      go_ret2
      have hR : Rising ys := rising_of_up ys HU.out HB2.out
      have hN : (keysL xs).Nodup := (keys_perm HP.out).1 (rising_nodup ys hR)
      refine ⟨S5.out.alloc _, .inr ⟨by rw [HE.out, if_pos hN], w5.heap.size, rfl, S5.out.size, ?_⟩⟩
      have hys : ys = sortL xs := rising_unique ys (sortL xs) hR (sortL_rising xs hN) (fun x => by rw [sortL_mem, HP.out.mem_iff])
      rw [← hys]
      refine leafAt_new (base := w2.heap.size) ?_
      have := owns_step O4.out S45.out (fun _ _ h => h)
      rw [hyl.out]
      exact this
    case inl =>
      have HB1 := hid hb
      clear hb
      go_wp2_with fail
      go_ret2
      have hN : ¬ (keysL xs).Nodup := fun hn => by
        obtain ⟨i, h1, h2⟩ := HB1.out
        exact rising_no_twins ys ((keys_perm HP.out).2 hn) i h1 h2
      have e11 : ofE xs = 11 := by rw [HE.out, if_neg hN]
      rw [e11]
      exact ⟨S5.out, .inl ⟨by decide, rfl⟩⟩
end Go.Proofs.YtnalillebemglaaGreat
namespace Go.Proofs.YtnalillebemglaaGreat
open Go.RowKit Go.Sort
set_option linter.unusedVariables false
set_option linter.unusedSimpArgs false

theorem belowN_eq (k : List UInt8) (xs : List Rg) (hR : Rising xs) (i : Nat) (hi : i ≤ xs.length) (h1 : ∀ t (h : t < xs.length), t < i → xs[t].lo < k) (h2 : ∀ t (h : t < xs.length), i ≤ t → ¬ xs[t].lo < k) : belowN k xs = i := by
  have hb := belowN_le k xs
  rcases Nat.lt_trichotomy (belowN k xs) i with h | h | h
  · exact absurd (h1 _ (by omega) h) (below_ge k xs hR _ (by omega) (Nat.le_refl _))
  · exact h
  · exact absurd (below_lt k xs i (by omega) h) (h2 i (by omega) (Nat.le_refl _))
theorem rising_at {xs : List Rg} (h : Rising xs) {i j : Nat} (hj : j < xs.length) (hij : i ≤ j) (k : List UInt8) (hk : xs[j].lo < k) : (xs[i]'(by omega)).lo < k := by
  rcases Nat.lt_or_eq_of_le hij with e | e
  · exact lt_trans' (List.pairwise_iff_getElem.1 h i j (by omega) hj e) hk
  · subst e; exact hk
theorem findL_there (k : List UInt8) (xs : List Rg) (hR : Rising xs) (i : Nat) (hi : i < xs.length) (hk : xs[i].lo = k) : findL k xs = some xs[i].hi := by
  rw [← hk]
  exact findL_mem xs hR xs[i] (List.getElem_mem hi)
theorem findL_not (k : List UInt8) (xs : List Rg) (hR : Rising xs) (h : ∀ (hi : belowN k xs < xs.length), xs[belowN k xs].lo ≠ k) : findL k xs = none := by
  refine findL_none k xs ?_
  rintro ⟨x, hx, e⟩
  obtain ⟨j, hj, rfl⟩ := List.getElem_of_mem hx
  have hb : belowN k xs = j := belowN_eq k xs hR j (by omega) (fun t ht htj => by rw [← e]; exact List.pairwise_iff_getElem.1 hR t j ht hj htj) (fun t ht htj hlt => by
    have := rising_at hR ht htj k hlt
    rw [e] at this
    exact lt_irrefl' this)
  have := h (by omega)
  apply this
  simp only [hb]
  exact e

/-- Where a key is, or would be; and whether it is there. -/
def BsPost (k : List UInt8) (xs : List Rg) (e : Ending) : Prop := ∃ i, i ≤ xs.length ∧ ((∃ h : i < xs.length, xs[i].lo = k ∧ e = .returned (.tuple #[.int .i64 i, .bool true])) ∨ (findL k xs = none ∧ e = .returned (.tuple #[.int .i64 i, .bool false])))

/-- What Find answers. -/
def findV (k : List UInt8) (xs : List Rg) : Value := .tuple #[.string (str ((findL k xs).getD [])), .bool (findL k xs).isSome]
end Go.Proofs.YtnalillebemglaaGreat
