/-
  Rows of messages handed in as rows; what merge's small functions do: which messages can't be, which rows don't rise.
-/
import Derived.Test.YtnalillebemglaaGreatMgHp
import Derived.Test.YtnalillebemglaaGreatLfRow
import Derived.Test.YtnalillebemglaaGreatBfA
namespace Go.Proofs.YtnalillebemglaaGreat
open Go.RowKit Go.Sort
set_option linter.unusedVariables false
set_option linter.unusedSimpArgs false
set_option maxRecDepth 20000

/-- A row of rows of messages. -/
def RunsAt (w : World) (a : Option Addr) (rs : List (List Mg)) : Prop :=
  rs = [] ∨ ∃ b off, a = some ⟨b, off, none⟩ ∧ b < w.heap.size ∧ ∀ j (h : j < rs.length), ∃ aj cj, w.cell? ⟨b, off + j, none⟩ = some (.slice aj rs[j].length cj) ∧ (aj = none → cj = 0) ∧ rs[j].length ≤ cj ∧ MsgsAt w noF aj rs[j]
theorem RunsAt.step {w w' : World} {a : Option Addr} {rs : List (List Mg)} (h : RunsAt w a rs) (hs : Step noF w w') : RunsAt w' a rs := by
  rcases h with h | ⟨b, off, e, hb, h⟩
  · exact .inl h
  · refine .inr ⟨b, off, e, Nat.lt_of_lt_of_le hb hs.size, fun j hj => ?_⟩
    obtain ⟨aj, cj, h1, h2, h3, h4⟩ := h j hj
    exact ⟨aj, cj, (hs.cell (fun x => x) hb).trans h1, h2, h3, h4.step hs (fun _ x => x)⟩
theorem RunsAt.at {w : World} {a : Option Addr} {rs : List (List Mg)} (h : RunsAt w a rs) (j : Nat) (hj : j < rs.length) : ∃ b off, a = some ⟨b, off, none⟩ ∧ ∃ aj cj, w.cell? ⟨b, off + j, none⟩ = some (.slice aj rs[j].length cj) ∧ (aj = none → cj = 0) ∧ rs[j].length ≤ cj ∧ MsgsAt w noF aj rs[j] := by
  rcases h with rfl | ⟨b, off, e, hb, h⟩
  · simp at hj
  · exact ⟨b, off, e, h j hj⟩
theorem RunsAt.sub {w : World} {b off : Nat} {rs : List (List Mg)} (h : RunsAt w (some ⟨b, off, none⟩) rs) (f t : Nat) (ht : t ≤ rs.length) : RunsAt w (some ⟨b, off + f, none⟩) ((rs.take t).drop f) := by
  rcases h with rfl | ⟨b', off', e, hb, h⟩
  · left; simp
  · injection e with e
    injection e with e1 e2
    subst e1
    subst e2
    refine .inr ⟨b, off + f, rfl, hb, fun j hj => ?_⟩
    simp at hj
    have := h (f + j) (by omega)
    simp only [List.getElem_drop, List.getElem_take]
    rw [show off + (f + j) = off + f + j by omega] at this
    exact this
theorem adj_pairwise {α : Type} (f : α → List UInt8) (l : List α) (h : ∀ i (h : i + 1 < l.length), f l[i] < f l[i + 1]) : l.Pairwise (fun a b => f a < f b) := by
  rw [List.pairwise_iff_getElem]
  intro i j hi hj hij
  obtain ⟨d, rfl⟩ : ∃ d, j = i + 1 + d := ⟨j - i - 1, by omega⟩
  clear hij
  induction d with
  | zero => exact h i (by omega)
  | succ d ih => exact lt_trans' (ih (by omega)) (h (i + 1 + d) (by omega))
theorem upR_of {r : List Mg} (h : ∀ i (h : i + 1 < r.length), r[i].key < r[i + 1].key) : upR r = true := (upR_iff r).2 (adj_pairwise Mg.key r h)
theorem upR_not {r : List Mg} (i : Nat) (hi : i + 1 < r.length) (h : ¬ r[i].key < r[i + 1].key) : upR r = false := by
  rw [← Bool.not_eq_true, upR_iff]
  intro h2
  exact h ((List.pairwise_iff_getElem.1 h2) i (i + 1) (by omega) hi (by omega))
theorem grown_twoG {w : World} {g off j : Nat} {x y : Value} (h1 : w.cell? ⟨g, off + j * 2, none⟩ = some x) (h2 : w.cell? ⟨g, off + j * 2 + 1, none⟩ = some y) : (∀ n os, (grow (w.drewN n) os).cell? ⟨g, off + j * 2, none⟩ = some x) ∧ (∀ n os, (grow (w.drewN n) os).cell? ⟨g, off + j * 2 + 1, none⟩ = some y) :=
  ⟨fun n os => cell_grown (World.block_lt_of_cell? w _ h1) h1 n os, fun n os => cell_grown (World.block_lt_of_cell? w _ h2) h2 n os⟩

/-- Whether the keys of items rise. -/
def upI (xs : List Rg) : Bool := decide (xs.Pairwise (fun a b => a.lo < b.lo))
theorem upI_iff (r : List Rg) : upI r = true ↔ Rising r := by unfold upI; rw [decide_eq_true_eq]; exact Iff.rfl
theorem upI_of {r : List Rg} (h : ∀ i (h : i + 1 < r.length), r[i].lo < r[i + 1].lo) : upI r = true := (upI_iff r).2 (adj_pairwise Rg.lo r h)
theorem upI_not {r : List Rg} (i : Nat) (hi : i + 1 < r.length) (h : ¬ r[i].lo < r[i + 1].lo) : upI r = false := by
  rw [← Bool.not_eq_true, upI_iff]
  intro h2
  exact h ((List.pairwise_iff_getElem.1 h2) i (i + 1) (by omega) hi (by omega))

theorem cmpG_any (x y : Mg) (w : World) : Calls Tryz.prog 57 #[.agg #[.int .i64 x.kind, .string (str x.key), .string (str x.val)], .agg #[.int .i64 y.kind, .string (str y.key), .string (str y.val)]] w fun e w' => e = .returned (.int .i64 (cmpL x.key y.key)) ∧ ∃ q os, w' = grow (w.drewN q) os := by
  go_enter Tryz.func57, Tryz.ntmps57
  go_wp2_with (go_at_call 65; refine (cmp_any _ _ _).mono ?_; rintro e w' ⟨rfl, rfl⟩)
  go_ret
  exact ⟨rfl, 0, _, by rw [alloc_eq_grow, alloc_eq_grow, grow_grow]; rfl⟩
theorem isNotG_any (m : Mg) (hm : m.val.length ≤ maxLen) (w : World) : Calls Tryz.prog 55 #[.agg #[.int .i64 m.kind, .string (str m.key), .string (str m.val)]] w fun e w' => e = .returned (.bool !m.is) ∧ Step noF w w' := by
  have cN := mis_any m hm
  have e0 : m.value = .agg #[.int .i64 m.kind, .string (str m.key), .string (str m.val)] := rfl
  rw [e0] at cN
  clear e0
  obtain ⟨A, hA⟩ : ∃ A, m.is = A := ⟨_, rfl⟩
  rw [hA] at cN ⊢
  clear hA
  go_enter Tryz.func55, Tryz.ntmps55
  go_wp2_with (go_at_call 74; refine (cN _).mono ?_; rintro e w2 ⟨rfl, s2⟩)
  go_ret
  exact ⟨ret_bool rfl, ((Step.refl _ w).alloc _).trans s2⟩
set_option maxHeartbeats 1000000 in
theorem indexG_any (ms : List Mg) (hms : ∀ m ∈ ms, m.val.length ≤ maxLen) (hl : ms.length ≤ 1000000) (a : Option Addr) (cap : Nat) (w : World) (hr : MsgsAt w noF a ms) :
    Calls Tryz.prog 73 #[.slice a ms.length cap, .func (.func 55) #[] #[]] w fun e w' => (∃ r : Int, e = .returned (.int .i64 r) ∧ decide (0 ≤ r) = !(ms.all Mg.is)) ∧ Step noF w w' := by
  have HR := hid hr
  have HM := hid hms
  clear hr hms
  go_enter Tryz.func73, Tryz.ntmps73
  go_wp2_with fail
  go_loopw [8] (fun i wr => ∃ (j : Nat), j ≤ ms.length ∧ i = .int .i64 j ∧ (ms.take j).all Mg.is = true ∧ Step noF w wr) (fun i _ => ms.length - (intOf i).toNat)
  case atStart => exact ⟨0, Nat.zero_le _, rfl, rfl, Step.refl _ _⟩
  case round =>
    obtain ⟨j, hj, rfl, hall, st⟩ := hrel
    have ST := hid st
    have HA := hid hall
    clear st hall
    by_cases hjl : j < ms.length
    · have hR2 : MsgsAt wr noF a ms := HR.out.step ST.out (fun _ h => h)
      obtain ⟨g, off, rfl, c0, c1, c2⟩ := hR2.at j hjl
      have HI := hid (HM.out ms[j] (List.getElem_mem hjl))
      have HT := hid (all_takeM ms j hjl)
      have HN : Hid (ms[j].is = false → ms.all Mg.is = false) := fun h => by
        rw [List.all_eq_false]
        exact ⟨ms[j], List.getElem_mem hjl, by rw [h]; simp⟩
      obtain ⟨⟨k, x, y⟩, hm⟩ : ∃ m, ms[j] = m := ⟨_, rfl⟩
      rw [hm] at c0 c1 c2 HI HT HN
      clear hm hR2
      have cN := isNotG_any ⟨k, x, y⟩ HI.out
      cases hi : (Mg.mk k x y).is
      · rw [hi] at cN HN
        clear hi
        go_wp2_with fail
        refine (cN _).mono ?_
        rintro e w2 ⟨rfl, s2⟩
        have S2 := hid (ST.out.trans s2)
        clear s2
        go_wp2_with fail
        go_ret
        refine ⟨⟨_, rfl, ?_⟩, S2.out⟩
        have hn := HN.out
        first | rw [hn trivial] | rw [hn rfl] | rw [hn]
        simp
      · rw [hi] at cN HT
        clear hi
        go_wp2_with fail
        refine (cN _).mono ?_
        rintro e w2 ⟨rfl, s2⟩
        have S2 := hid (ST.out.trans s2)
        clear s2
        go_wp2_with fail
        go_roundw
        case rel => exact ⟨j + 1, by omega, int_eq (by omega), by rw [HT.out, HA.out]; rfl, S2.out⟩
        case measure => simp [intOf]; omega
    · obtain rfl : j = ms.length := by omega
      go_wp2_with fail
      go_ret
      refine ⟨⟨_, rfl, ?_⟩, ST.out⟩
      have := HA.out
      rw [List.take_of_length_le (Nat.le_refl _)] at this
      rw [this]
      rfl
theorem containsG_any (ms : List Mg) (hms : ∀ m ∈ ms, m.val.length ≤ maxLen) (hl : ms.length ≤ 1000000) (a : Option Addr) (cap : Nat) (w : World) (hr : MsgsAt w noF a ms) :
    Calls Tryz.prog 44 #[.slice a ms.length cap, .func (.func 55) #[] #[]] w fun e w' => e = .returned (.bool !(ms.all Mg.is)) ∧ Step noF w w' := by
  have c := indexG_any ms hms hl a cap w hr
  obtain ⟨A, hA⟩ : ∃ A, ms.all Mg.is = A := ⟨_, rfl⟩
  rw [hA] at c ⊢
  go_enter Tryz.func44, Tryz.ntmps44
  go_wp2_with fail
  refine c.mono ?_
  rintro e w2 ⟨⟨r, rfl, hr2⟩, s2⟩
  have HR2 := hid hr2
  clear hr2
  go_wp2_with fail
  go_ret
  exact ⟨ret_bool (by rw [← HR2.out]), s2⟩

theorem hasWrong_any (ms : List Mg) (hms : ∀ m ∈ ms, m.val.length ≤ maxLen) (hl : ms.length ≤ 1000000) (a : Option Addr) (cap : Nat) (w : World) (hr : MsgsAt w noF a ms) :
    Calls Tryz.prog 27 #[.slice a ms.length cap] w fun e w' => e = .returned (.bool !(ms.all Mg.is)) ∧ Step noF w w' := by
  have c := containsG_any ms hms hl a cap w hr
  go_enter Tryz.func27, Tryz.ntmps27
  go_wp2_with fail
  refine c.mono ?_
  rintro e w2 ⟨rfl, s2⟩
  go_wp2_with fail
  go_ret
  exact ⟨rfl, s2⟩
set_option maxHeartbeats 2000000 in
theorem risesM_any (xs : List Mg) (hl : xs.length ≤ 1000000) (a : Option Addr) (c : Nat) (w : World) (h : MsgsAt w noF a xs) :
    Calls Tryz.prog 56 #[.slice a xs.length c, .func (.func 57) #[] #[]] w fun e w' => e = .returned (.bool (upR xs)) ∧ Step noF w w' := by
  have mixed : Tryz.prog.follows .mixedOrders = true := by kernel_rfl
  have HR := hid h
  clear h
  go_enter Tryz.func56, Tryz.ntmps56
  go_wp2_with fail
  go_loopg [5] xs.length (fun kx s3 wr => ∃ (j : Nat), s3 = .int .i64 j ∧ 1 ≤ j ∧ xs.length - j ≤ kx ∧ Hid (∀ i (h : i + 1 < xs.length), i + 1 < j → xs[i].key < xs[i + 1].key) ∧ Hid (Step noF w wr))
  case atStart => exact ⟨1, rfl, by omega, by omega, fun i h h2 => absurd h2 (by omega), Step.refl _ _⟩
  case round =>
    obtain ⟨j, rfl, hj, hkx, HI, ST⟩ := hrel
    by_cases hjl : j < xs.length
    · obtain ⟨q, rfl⟩ : ∃ q, j = q + 1 := ⟨j - 1, by omega⟩
      obtain ⟨g, off, rfl, c0, c1, c2⟩ := (HR.out.step ST.out (fun _ h => h)).at (q + 1) hjl
      obtain ⟨g', off', e', d0, d1, d2⟩ := (HR.out.step ST.out (fun _ h => h)).at q (by omega)
      obtain ⟨rfl, rfl⟩ : g = g' ∧ off = off' := by
        injection e' with e'
        injection e' with e1 e2
        exact ⟨e1, e2⟩
      obtain ⟨k0, k1, k2⟩ := grown_tri c0 c1 c2
      obtain ⟨m0, m1, m2⟩ := grown_tri d0 d1 d2
      have hcg := fun n os => cmpG_any xs[q] xs[q + 1] (grow (wr.drewN n) os)
      have HZ := hid (cmpB_neg xs[q].key xs[q + 1].key)
      obtain ⟨r, hr⟩ : ∃ r, cmpL xs[q].key xs[q + 1].key = r := ⟨_, rfl⟩
      obtain ⟨⟨x0, x1, x2⟩, hx⟩ : ∃ m, xs[q] = m := ⟨_, rfl⟩
      obtain ⟨⟨y0, y1, y2⟩, hy⟩ : ∃ m, xs[q + 1] = m := ⟨_, rfl⟩
      have hlt : Hid (r < 0 → xs[q].key < xs[q + 1].key) := fun h => HZ.out.1 (by rw [hr]; exact h)
      have hnl : Hid (¬ r < 0 → ¬ xs[q].key < xs[q + 1].key) := fun h e => h (by rw [← hr]; exact HZ.out.2 e)
      rw [hr] at hcg
      rw [hx] at hcg m0 m1 m2
      rw [hy] at hcg k0 k1 k2
      clear HZ hr hx hy c0 c1 c2 d0 d1 d2 e'
      have ez : (q : Int) + 1 - 1 = (q : Int) := by omega
      have b0 : (q : Int) < (xs.length : Int) := by omega
      have b1 : (q : Int) + 1 < (xs.length : Int) := by omega
      have p1 : (0 : Int) ≤ (q : Int) + 1 := by omega
      have e1 : ((q : Int) + 1).toNat = q + 1 := by omega
      have rq : IntKind.i64.wrap (q : Int) = (q : Int) := by rw [IntKind.wrap_i64]; omega
      by_cases h0 : r < 0
      · have h1 : ¬ (0 : Int) ≤ r := by omega
        have H0 := hid h0
        clear h0
        go_wp2_with fail
        go_quiet_grown (first | (go_at_call 57; refine Calls.grown_of (hcg _ _)) | (refine Calls.grown_of (hcg _ _)))
        go_wp2
        go_roundg (xs.length - (q + 2))
        case measure => omega
        case rel =>
          refine ⟨q + 2, by simp; omega, by omega, Nat.le_refl _, fun i h hi => ?_, ST.out.trans (step_grow _ _ _)⟩
          by_cases e : i = q
          · subst e
            exact hlt.out H0.out
          · exact HI.out i h (by omega)
      · have h1 : (0 : Int) ≤ r := by omega
        have H0 := hid h0
        clear h0
        go_wp2_with fail
        go_quiet_grown (first | (go_at_call 57; refine Calls.grown_of (hcg _ _)) | (refine Calls.grown_of (hcg _ _)))
        go_wp2
        go_ret
        exact ⟨ret_bool (upR_not q hjl (hnl.out H0.out)).symm, ST.out.trans (step_grow _ _ _)⟩
    · have hjz : ¬ (j : Int) < (xs.length : Int) := by omega
      go_wp2_with fail
      go_ret
      exact ⟨ret_bool (upR_of (fun i h => HI.out i h (by omega))).symm, ST.out⟩
set_option maxHeartbeats 2000000 in
theorem risesI_any (xs : List Rg) (hl : xs.length ≤ 1000000) (a : Option Addr) (c : Nat) (w : World) (h : RgsAt w a xs) :
    Calls Tryz.prog 35 #[.slice a xs.length c, .func (.func 36) #[] #[]] w fun e w' => e = .returned (.bool (upI xs)) ∧ Step noF w w' := by
  have mixed : Tryz.prog.follows .mixedOrders = true := by kernel_rfl
  have HR := hid h
  clear h
  go_enter Tryz.func35, Tryz.ntmps35
  go_wp2_with fail
  go_loopg [5] xs.length (fun kx s3 wr => ∃ (j : Nat), s3 = .int .i64 j ∧ 1 ≤ j ∧ xs.length - j ≤ kx ∧ Hid (∀ i (h : i + 1 < xs.length), i + 1 < j → xs[i].lo < xs[i + 1].lo) ∧ Hid (Step noF w wr))
  case atStart => exact ⟨1, rfl, by omega, by omega, fun i h h2 => absurd h2 (by omega), Step.refl _ _⟩
  case round =>
    obtain ⟨j, rfl, hj, hkx, HI, ST⟩ := hrel
    by_cases hjl : j < xs.length
    · obtain ⟨q, rfl⟩ : ∃ q, j = q + 1 := ⟨j - 1, by omega⟩
      obtain ⟨g, off, rfl, c0, c1⟩ := (HR.out.step ST.out).at (q + 1) hjl
      obtain ⟨g', off', e', d0, d1⟩ := (HR.out.step ST.out).at q (by omega)
      obtain ⟨rfl, rfl⟩ : g = g' ∧ off = off' := by
        injection e' with e'
        injection e' with e1 e2
        exact ⟨e1, e2⟩
      obtain ⟨k0, k1⟩ := grown_twoG c0 c1
      obtain ⟨m0, m1⟩ := grown_twoG d0 d1
      have hcg := fun n os => cmpIt_any xs[q] xs[q + 1] (grow (wr.drewN n) os)
      have HZ := hid (cmpB_neg xs[q].lo xs[q + 1].lo)
      obtain ⟨r, hr⟩ : ∃ r, cmpL xs[q].lo xs[q + 1].lo = r := ⟨_, rfl⟩
      obtain ⟨⟨x0, x1⟩, hx⟩ : ∃ m, xs[q] = m := ⟨_, rfl⟩
      obtain ⟨⟨y0, y1⟩, hy⟩ : ∃ m, xs[q + 1] = m := ⟨_, rfl⟩
      have hlt : Hid (r < 0 → xs[q].lo < xs[q + 1].lo) := fun h => HZ.out.1 (by rw [hr]; exact h)
      have hnl : Hid (¬ r < 0 → ¬ xs[q].lo < xs[q + 1].lo) := fun h e => h (by rw [← hr]; exact HZ.out.2 e)
      rw [hr] at hcg
      rw [hx] at hcg m0 m1
      rw [hy] at hcg k0 k1
      clear HZ hr hx hy c0 c1 d0 d1 e'
      have ez : (q : Int) + 1 - 1 = (q : Int) := by omega
      have b0 : (q : Int) < (xs.length : Int) := by omega
      have b1 : (q : Int) + 1 < (xs.length : Int) := by omega
      have p1 : (0 : Int) ≤ (q : Int) + 1 := by omega
      have e1 : ((q : Int) + 1).toNat = q + 1 := by omega
      have rq : IntKind.i64.wrap (q : Int) = (q : Int) := by rw [IntKind.wrap_i64]; omega
      by_cases h0 : r < 0
      · have h1 : ¬ (0 : Int) ≤ r := by omega
        have H0 := hid h0
        clear h0
        go_wp2_with fail
        go_quiet_grown (first | (go_at_call 36; refine Calls.grown_of (hcg _ _)) | (refine Calls.grown_of (hcg _ _)))
        go_wp2
        go_roundg (xs.length - (q + 2))
        case measure => omega
        case rel =>
          refine ⟨q + 2, by simp; omega, by omega, Nat.le_refl _, fun i h hi => ?_, ST.out.trans (step_grow _ _ _)⟩
          by_cases e : i = q
          · subst e
            exact hlt.out H0.out
          · exact HI.out i h (by omega)
      · have h1 : (0 : Int) ≤ r := by omega
        have H0 := hid h0
        clear h0
        go_wp2_with fail
        go_quiet_grown (first | (go_at_call 36; refine Calls.grown_of (hcg _ _)) | (refine Calls.grown_of (hcg _ _)))
        go_wp2
        go_ret
        exact ⟨ret_bool (upI_not q hjl (hnl.out H0.out)).symm, ST.out.trans (step_grow _ _ _)⟩
    · have hjz : ¬ (j : Int) < (xs.length : Int) := by omega
      go_wp2_with fail
      go_ret
      exact ⟨ret_bool (upI_of (fun i h => HI.out i h (by omega))).symm, ST.out⟩
theorem isTurned_any (ms : List Mg) (hl : ms.length ≤ 1000000) (a : Option Addr) (cap : Nat) (w : World) (hr : MsgsAt w noF a ms) :
    Calls Tryz.prog 28 #[.slice a ms.length cap] w fun e w' => e = .returned (.bool !(upR ms)) ∧ Step noF w w' := by
  have c := risesM_any ms hl a cap w hr
  go_enter Tryz.func28, Tryz.ntmps28
  go_wp2_with fail
  refine c.mono ?_
  rintro e w2 ⟨rfl, s2⟩
  go_wp2_with fail
  go_ret
  exact ⟨rfl, s2⟩
/-- A row of rows that a merger may be handed. -/
def FewR (rs : List (List Mg)) : Prop := rs.length ≤ 1000 ∧ ∀ r ∈ rs, r.length ≤ 100000 ∧ ∀ m ∈ r, m.val.length ≤ maxLen
theorem all_takeR (p : List Mg → Bool) (rs : List (List Mg)) (j : Nat) (hj : j < rs.length) : (rs.take (j + 1)).all p = ((rs.take j).all p && p rs[j]) := by
  rw [← List.take_append_getElem hj, List.all_append]
  simp
def isR (r : List Mg) : Bool := r.all Mg.is
set_option maxHeartbeats 1000000 in
theorem indexWr_any (rs : List (List Mg)) (hF : FewR rs) (a : Option Addr) (cap : Nat) (w : World) (hr : RunsAt w a rs) :
    Calls Tryz.prog 54 #[.slice a rs.length cap, .func (.func 27) #[] #[]] w fun e w' => (∃ r : Int, e = .returned (.int .i64 r) ∧ decide (0 ≤ r) = !(rs.all isR)) ∧ Step noF w w' := by
  have HR := hid hr
  have HF := hid hF
  have hlen := hF.1
  clear hr hF
  go_enter Tryz.func54, Tryz.ntmps54
  go_wp2_with fail
  go_loopw [8] (fun i wr => ∃ (j : Nat), j ≤ rs.length ∧ i = .int .i64 j ∧ (rs.take j).all isR = true ∧ Step noF w wr) (fun i _ => rs.length - (intOf i).toNat)
  case atStart => exact ⟨0, Nat.zero_le _, rfl, rfl, Step.refl _ _⟩
  case round =>
    obtain ⟨j, hj, rfl, hall, st⟩ := hrel
    have ST := hid st
    have HA := hid hall
    clear st hall
    by_cases hjl : j < rs.length
    · obtain ⟨g, off, rfl, aj, cj, c0, -, -, hm⟩ := (HR.out.step ST.out).at j hjl
      obtain ⟨f1, f2⟩ := HF.out.2 rs[j] (List.getElem_mem hjl)
      have HT := hid (all_takeR isR rs j hjl)
      have HN : Hid (isR rs[j] = false → rs.all isR = false) := fun h => by
        rw [List.all_eq_false]
        exact ⟨rs[j], List.getElem_mem hjl, by rw [h]; simp⟩
      have cN := hasWrong_any rs[j] f2 (by omega) aj cj wr hm
      obtain ⟨R, hR⟩ : ∃ m, rs[j] = m := ⟨_, rfl⟩
      rw [hR] at c0 HT HN cN
      change Calls _ _ _ _ fun e w' => e = .returned (.bool !(isR R)) ∧ _ at cN
      obtain ⟨L, hL⟩ : ∃ L, R.length = L := ⟨_, rfl⟩
      rw [hL] at c0 cN
      clear hm hR f1 f2
      cases hi : isR R
      · first | rw [hi] at cN | simp only [hi] at cN
        try simp only [hi] at HN
        have HI := hid hi
        clear hi
        go_wp2_with fail
        refine cN.mono ?_
        rintro e w2 ⟨rfl, s2⟩
        have S2 := hid (ST.out.trans s2)
        clear s2
        go_wp2_with fail
        go_ret
        refine ⟨⟨_, rfl, ?_⟩, S2.out⟩
        have hn := HN.out
        first | rw [hn trivial] | rw [hn rfl] | rw [hn HI.out] | rw [hn]
        simp
      · rw [hi] at cN
        have HI := hid hi
        clear hi
        go_wp2_with fail
        refine cN.mono ?_
        rintro e w2 ⟨rfl, s2⟩
        have S2 := hid (ST.out.trans s2)
        clear s2
        go_wp2_with fail
        go_roundw
        case rel => exact ⟨j + 1, by omega, int_eq (by omega), by rw [HT.out, HA.out, Bool.true_and]; exact HI.out, S2.out⟩
        case measure => simp [intOf]; omega
    · obtain rfl : j = rs.length := by omega
      go_wp2_with fail
      go_ret
      refine ⟨⟨_, rfl, ?_⟩, ST.out⟩
      have := HA.out
      rw [List.take_of_length_le (Nat.le_refl _)] at this
      rw [this]
      rfl
theorem containsWr_any (rs : List (List Mg)) (hF : FewR rs) (a : Option Addr) (cap : Nat) (w : World) (hr : RunsAt w a rs) :
    Calls Tryz.prog 26 #[.slice a rs.length cap, .func (.func 27) #[] #[]] w fun e w' => e = .returned (.bool !(rs.all isR)) ∧ Step noF w w' := by
  have c := indexWr_any rs hF a cap w hr
  obtain ⟨A, hA⟩ : ∃ A, rs.all isR = A := ⟨_, rfl⟩
  rw [hA] at c ⊢
  go_enter Tryz.func26, Tryz.ntmps26
  go_wp2_with fail
  refine c.mono ?_
  rintro e w2 ⟨⟨r, rfl, hr2⟩, s2⟩
  have HR2 := hid hr2
  clear hr2
  go_wp2_with fail
  go_ret
  exact ⟨ret_bool (by rw [← HR2.out]), s2⟩
set_option maxHeartbeats 1000000 in
theorem indexTu_any (rs : List (List Mg)) (hF : FewR rs) (a : Option Addr) (cap : Nat) (w : World) (hr : RunsAt w a rs) :
    Calls Tryz.prog 54 #[.slice a rs.length cap, .func (.func 28) #[] #[]] w fun e w' => (∃ r : Int, e = .returned (.int .i64 r) ∧ decide (0 ≤ r) = !(rs.all upR)) ∧ Step noF w w' := by
  have HR := hid hr
  have HF := hid hF
  have hlen := hF.1
  clear hr hF
  go_enter Tryz.func54, Tryz.ntmps54
  go_wp2_with fail
  go_loopw [8] (fun i wr => ∃ (j : Nat), j ≤ rs.length ∧ i = .int .i64 j ∧ (rs.take j).all upR = true ∧ Step noF w wr) (fun i _ => rs.length - (intOf i).toNat)
  case atStart => exact ⟨0, Nat.zero_le _, rfl, rfl, Step.refl _ _⟩
  case round =>
    obtain ⟨j, hj, rfl, hall, st⟩ := hrel
    have ST := hid st
    have HA := hid hall
    clear st hall
    by_cases hjl : j < rs.length
    · obtain ⟨g, off, rfl, aj, cj, c0, -, -, hm⟩ := (HR.out.step ST.out).at j hjl
      obtain ⟨f1, f2⟩ := HF.out.2 rs[j] (List.getElem_mem hjl)
      have HT := hid (all_takeR upR rs j hjl)
      have HN : Hid (upR rs[j] = false → rs.all upR = false) := fun h => by
        rw [List.all_eq_false]
        exact ⟨rs[j], List.getElem_mem hjl, by rw [h]; simp⟩
      have cN := isTurned_any rs[j] (by omega) aj cj wr hm
      obtain ⟨R, hR⟩ : ∃ m, rs[j] = m := ⟨_, rfl⟩
      rw [hR] at c0 HT HN cN
      obtain ⟨L, hL⟩ : ∃ L, R.length = L := ⟨_, rfl⟩
      rw [hL] at c0 cN
      clear hm hR f1 f2
      cases hi : upR R
      · first | rw [hi] at cN | simp only [hi] at cN
        try simp only [hi] at HN
        have HI := hid hi
        clear hi
        go_wp2_with fail
        refine cN.mono ?_
        rintro e w2 ⟨rfl, s2⟩
        have S2 := hid (ST.out.trans s2)
        clear s2
        go_wp2_with fail
        go_ret
        refine ⟨⟨_, rfl, ?_⟩, S2.out⟩
        have hn := HN.out
        first | rw [hn trivial] | rw [hn rfl] | rw [hn HI.out] | rw [hn]
        simp
      · rw [hi] at cN
        have HI := hid hi
        clear hi
        go_wp2_with fail
        refine cN.mono ?_
        rintro e w2 ⟨rfl, s2⟩
        have S2 := hid (ST.out.trans s2)
        clear s2
        go_wp2_with fail
        go_roundw
        case rel => exact ⟨j + 1, by omega, int_eq (by omega), by rw [HT.out, HA.out, Bool.true_and]; exact HI.out, S2.out⟩
        case measure => simp [intOf]; omega
    · obtain rfl : j = rs.length := by omega
      go_wp2_with fail
      go_ret
      refine ⟨⟨_, rfl, ?_⟩, ST.out⟩
      have := HA.out
      rw [List.take_of_length_le (Nat.le_refl _)] at this
      rw [this]
      rfl
theorem containsTu_any (rs : List (List Mg)) (hF : FewR rs) (a : Option Addr) (cap : Nat) (w : World) (hr : RunsAt w a rs) :
    Calls Tryz.prog 26 #[.slice a rs.length cap, .func (.func 28) #[] #[]] w fun e w' => e = .returned (.bool !(rs.all upR)) ∧ Step noF w w' := by
  have c := indexTu_any rs hF a cap w hr
  obtain ⟨A, hA⟩ : ∃ A, rs.all upR = A := ⟨_, rfl⟩
  rw [hA] at c ⊢
  go_enter Tryz.func26, Tryz.ntmps26
  go_wp2_with fail
  refine c.mono ?_
  rintro e w2 ⟨⟨r, rfl, hr2⟩, s2⟩
  have HR2 := hid hr2
  clear hr2
  go_wp2_with fail
  go_ret
  exact ⟨ret_bool (by rw [← HR2.out]), s2⟩
end Go.Proofs.YtnalillebemglaaGreat
