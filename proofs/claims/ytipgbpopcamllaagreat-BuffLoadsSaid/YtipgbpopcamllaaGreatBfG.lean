/-
  The parts that have messages, in memory: a heap; its methods, and what container/heap does with it.
  The parts that have messages: down, Push, Pop, and the first one.
  The parts that have messages: heap.Push, heap.Pop, and the first one.
-/
import Derived.Test.YtipgbpopcamllaaGreatBuffM
import Derived.Test.YtipgbpopcamllaaGreatLfRow
import Derived.BigRegion
import Derived.RegionTactic
import Derived.BigQuiet
import Derived.Deep.QuietTactic
import Derived.Deep.RegionLaw
import Derived.Test.YtipgbpopcamllaaGreatKeyG
namespace Go.Proofs.YtipgbpopcamllaaGreat
open Go.RowKit
set_option linter.unusedVariables false
set_option linter.unusedSimpArgs false
set_option maxRecDepth 20000

theorem owns_rowIn2 {w : World} {base : Nat} {e : TypeId} {g n c size : Nat} {xs : List Value} (h : w.ownsRow base e size (.slice (some ⟨g, 0, none⟩) n c) n xs) : RowIn w g e xs ∧ base ≤ g ∧ n ≤ c := by
  rcases h.2 with ⟨hv, _⟩ | ⟨g', cap, cur, hv, hb, hh, hnc, _, _, ht⟩
  · injection hv with hv; cases hv
  · injection hv with h1 _ h3
    injection h1 with h1
    injection h1 with h1 _ _
    subst h1 h3
    refine ⟨⟨cur, cur.toList.drop xs.length, hh, ?_⟩, hb, hnc⟩
    have hl := h.1
    conv => lhs; rw [← List.take_append_drop xs.length cur.toList]
    rw [hl] at *
    rw [← ht]
theorem RowIn.pair {w : World} {g : Nat} {e : TypeId} {ps : List (Int × Int)} (h : RowIn w g e (pairs ps)) (j : Nat) (hj : j < ps.length) : w.cell? ⟨g, j * 2, none⟩ = some (.int .i64 (ps.getD j (0, 0)).1) ∧ w.cell? ⟨g, j * 2 + 1, none⟩ = some (.int .i64 (ps.getD j (0, 0)).2) := by
  have hl := pairs_length ps
  have h1 := h.cell (j * 2) (by omega)
  have h2 := h.cell (j * 2 + 1) (by omega)
  obtain ⟨a1, a2⟩ := pairs_at ps j hj
  rw [Nat.mul_comm, List.getElem?_eq_getElem (by omega)] at a1
  rw [Nat.mul_comm, List.getElem?_eq_getElem (by omega)] at a2
  rw [h1, h2, getD_lt _ hj]
  exact ⟨a1, a2⟩
theorem pairs_put (ps : List (Int × Int)) (j : Nat) (hj : j < ps.length) (z : Int × Int) : ((pairs ps).set (j * 2) (.int .i64 z.1)).set (j * 2 + 1) (.int .i64 z.2) = pairs (ps.set j z) := by
  induction ps generalizing j with
  | nil => simp at hj
  | cons x xs ih =>
    cases j with
    | zero => simp [pairs]
    | succ j =>
      have := ih j (by simpa using hj)
      simp only [pairs, List.flatMap_cons, List.set_cons_succ] at this ⊢
      rw [show (j + 1) * 2 = j * 2 + 1 + 1 by omega]
      simpa using this

/-- The heap's slice lies in block p, its parts in block g; the parts lie behind base. -/
def PartsAt (w : World) (base p g c : Nat) (ps : List (Int × Int)) : Prop := w.heap[p]? = some (.cells #[.slice (some ⟨g, 0, none⟩) ps.length c] 75 (0, 0)) ∧ w.ownsRow base 79 2 (.slice (some ⟨g, 0, none⟩) ps.length c) ps.length (pairs ps) ∧ p ≠ g
theorem PartsAt.step {w w' : World} {base p g c : Nat} {ps : List (Int × Int)} (h : PartsAt w base p g c ps) (hs : Step noF w w') : PartsAt w' base p g c ps := ⟨(hs.block p (lt_of_block h.1) (fun x => x)).trans h.1, owns_step h.2.1 hs (fun _ _ x => x), h.2.2⟩
theorem PartsAt.cell {w : World} {base p g c : Nat} {ps : List (Int × Int)} (h : PartsAt w base p g c ps) : w.cell? ⟨p, 0, none⟩ = some (.slice (some ⟨g, 0, none⟩) ps.length c) := by rw [cell_of_block h.1]; rfl
theorem PartsAt.row {w : World} {base p g c : Nat} {ps : List (Int × Int)} (h : PartsAt w base p g c ps) : RowIn w g 79 (pairs ps) ∧ base ≤ g ∧ ps.length ≤ c := owns_rowIn2 h.2.1

set_option maxHeartbeats 400000 in
theorem pless_any (w : World) (g c : Nat) (ps : List (Int × Int)) (h : RowIn w g 79 (pairs ps)) (hf : FewP ps) (i j : Nat) (hi : i < ps.length) (hj : j < ps.length) :
    Calls Tryz.prog 155 #[.slice (some ⟨g, 0, none⟩) ps.length c, .int .i64 i, .int .i64 j] w fun e w' => e = .returned (.bool (decide (rk ps i < rk ps j))) ∧ Step noF w w' := by
  obtain ⟨ci, di⟩ := h.pair i hi
  obtain ⟨cj, dj⟩ := h.pair j hj
  have hr := rank_lt (hf.at i hi) (hf.at j hj)
  unfold rk
  obtain ⟨N, hN⟩ : ∃ N, ps.length = N := ⟨_, rfl⟩
  rw [hN] at hi hj ⊢
  have hiz : (i : Int) < (N : Int) := by omega
  have hjz : (j : Int) < (N : Int) := by omega
  clear h hN hf
  obtain ⟨⟨x, y⟩, hx⟩ : ∃ x, ps.getD i (0, 0) = x := ⟨_, rfl⟩
  obtain ⟨⟨x', y'⟩, hy⟩ : ∃ x, ps.getD j (0, 0) = x := ⟨_, rfl⟩
  rw [hx] at ci di hr ⊢
  rw [hy] at cj dj hr ⊢
  rw [hr]
  simp only at ci di cj dj ⊢
  clear hx hy hr
  by_cases he : y = y'
  · subst he
    rw [if_pos rfl]
    go_enter Tryz.func155, Tryz.ntmps155
    go_wp2_with fail
    go_quiet (fail)
    go_wp2_with fail
    go_quiet (fail)
    go_wp2_with fail
    go_ret
    exact ⟨rfl, ((Step.refl _ _).drewN _).drewN _⟩
  · rw [if_neg he]
    have hb : (y == y') = false := by rw [beq_eq_false_iff_ne]; exact he
    go_enter Tryz.func155, Tryz.ntmps155
    go_wp2_with fail
    go_quiet (fail)
    go_wp2_with fail
    go_quiet (fail)
    go_wp2_with fail
    go_ret
    exact ⟨rfl, ((Step.refl _ _).drewN _).drewN _⟩

set_option maxHeartbeats 400000 in
theorem plen_any (w : World) (v : Option Addr) (n c : Nat) : Calls Tryz.prog 75 #[.slice v n c] w fun e w' => e = .returned (.int .i64 n) ∧ w = w' := by
  go_enter Tryz.func75, Tryz.ntmps75
  go_wp2
  go_ret
  exact ⟨rfl, rfl⟩

theorem prow_len : (Tryz.prog.info? 77).bind (fun i => (i.methods.find? (fun m => m.name == "Len")).map (fun m => (m.path, m.func))) = some (#[], some (75, false)) := by kernel_rfl
theorem prow_less : (Tryz.prog.info? 77).bind (fun i => (i.methods.find? (fun m => m.name == "Less")).map (fun m => (m.path, m.func))) = some (#[], some (155, false)) := by kernel_rfl
theorem prow_swap : (Tryz.prog.info? 77).bind (fun i => (i.methods.find? (fun m => m.name == "Swap")).map (fun m => (m.path, m.func))) = some (#[], some (156, false)) := by kernel_rfl
theorem prow_push : (Tryz.prog.info? 77).bind (fun i => (i.methods.find? (fun m => m.name == "Push")).map (fun m => (m.path, m.func))) = some (#[], some (158, true)) := by kernel_rfl
theorem prow_pop : (Tryz.prog.info? 77).bind (fun i => (i.methods.find? (fun m => m.name == "Pop")).map (fun m => (m.path, m.func))) = some (#[], some (157, true)) := by kernel_rfl
theorem wrapP_ok {P : Program} (T : TypeId) (a : Addr) (s u : String) (w : World) : (Builtin.ssaWrapNilChk_ #[T] T #[.pointer (some a), strVal s, strVal u]).run P w = .ok (.pointer (some a)) w := rfl
theorem pmeth_val {name : String} {f : FuncId} (hrow : (Tryz.prog.info? 77).bind (fun i => (i.methods.find? (fun m => m.name == name)).map (fun m => (m.path, m.func))) = some (#[], some (f, false))) (fuel : Nat) (w : World) (p : Nat) (v : Value) (h : w.cell? ⟨p, 0, none⟩ = some v) :
    (method (fuel + 1) 77 (.pointer (some ⟨p, 0, none⟩)) name).run Tryz.prog w = .ok (f, v) w := by
  obtain ⟨i, hi, h2⟩ := Option.bind_eq_some_iff.1 hrow
  obtain ⟨m, hm, h3⟩ := Option.map_eq_some_iff.1 h2
  injection h3 with h4 h5
  have hu := Tryz.underlying77
  have hu2 := Tryz.underlying75
  unfold method
  simp [typeInfo, hi, hm, h4, h5, follow, receiverAt, hu, hu2, Place.get, wrapP_ok, asAddr, loadVar, h]
theorem pmeth_ptr {name : String} {f : FuncId} (hrow : (Tryz.prog.info? 77).bind (fun i => (i.methods.find? (fun m => m.name == name)).map (fun m => (m.path, m.func))) = some (#[], some (f, true))) (fuel : Nat) (w : World) (p : Nat) :
    (method (fuel + 1) 77 (.pointer (some ⟨p, 0, none⟩)) name).run Tryz.prog w = .ok (f, .pointer (some ⟨p, 0, none⟩)) w := by
  obtain ⟨i, hi, h2⟩ := Option.bind_eq_some_iff.1 hrow
  obtain ⟨m, hm, h3⟩ := Option.map_eq_some_iff.1 h2
  injection h3 with h4 h5
  have hu := Tryz.underlying77
  unfold method
  simp [typeInfo, hi, hm, h4, h5, follow, receiverAt, hu, Place.get]

/-- What Swap leaves of a world. -/
def swapW (W : World) (g i j : Nat) (x y : Int × Int) : World := (((W.setCell ⟨g, i * 2, none⟩ (.int .i64 y.1)).setCell ⟨g, i * 2 + 1, none⟩ (.int .i64 y.2)).setCell ⟨g, j * 2, none⟩ (.int .i64 x.1)).setCell ⟨g, j * 2 + 1, none⟩ (.int .i64 x.2)
set_option maxHeartbeats 4000000 in
theorem pswap_raw (W : World) (g c size : Nat) (x y : Int × Int) (i j : Nat) (hi : i < size) (hj : j < size)
    (ci : W.cell? ⟨g, i * 2, none⟩ = some (.int .i64 x.1)) (di : W.cell? ⟨g, i * 2 + 1, none⟩ = some (.int .i64 x.2)) (cj : W.cell? ⟨g, j * 2, none⟩ = some (.int .i64 y.1)) (dj : W.cell? ⟨g, j * 2 + 1, none⟩ = some (.int .i64 y.2)) (hf : ∀ q, W.frozen? ⟨g, q, none⟩ = false) :
    Calls Tryz.prog 156 #[.slice (some ⟨g, 0, none⟩) size c, .int .i64 i, .int .i64 j] W fun e w' => e = .returned (.tuple #[]) ∧ w' = (swapW W g i j x y).drew := by
  have fi := hf (i * 2)
  have fi1 := hf (i * 2 + 1)
  have fj := hf (j * 2)
  have fj1 := hf (j * 2 + 1)
  have hiz : (i : Int) < (size : Int) := by omega
  have hjz : (j : Int) < (size : Int) := by omega
  obtain ⟨u1, hu1⟩ := cell?_setCell_some (w := W) (p := ⟨g, i * 2, none⟩) (x := .int .i64 y.1) (q := ⟨g, i * 2 + 1, none⟩) di
  obtain ⟨v1, hv1⟩ := cell?_setCell_some (w := W) (p := ⟨g, i * 2, none⟩) (x := .int .i64 y.1) (q := ⟨g, j * 2, none⟩) cj
  obtain ⟨v2, hv2⟩ := cell?_setCell_some (w := W.setCell ⟨g, i * 2, none⟩ (.int .i64 y.1)) (p := ⟨g, i * 2 + 1, none⟩) (x := .int .i64 y.2) (q := ⟨g, j * 2, none⟩) hv1
  obtain ⟨t1, ht1⟩ := cell?_setCell_some (w := W) (p := ⟨g, i * 2, none⟩) (x := .int .i64 y.1) (q := ⟨g, j * 2 + 1, none⟩) dj
  obtain ⟨t2, ht2⟩ := cell?_setCell_some (w := W.setCell ⟨g, i * 2, none⟩ (.int .i64 y.1)) (p := ⟨g, i * 2 + 1, none⟩) (x := .int .i64 y.2) (q := ⟨g, j * 2 + 1, none⟩) ht1
  obtain ⟨t3, ht3⟩ := cell?_setCell_some (w := (W.setCell ⟨g, i * 2, none⟩ (.int .i64 y.1)).setCell ⟨g, i * 2 + 1, none⟩ (.int .i64 y.2)) (p := ⟨g, j * 2, none⟩) (x := .int .i64 x.1) (q := ⟨g, j * 2 + 1, none⟩) ht2
  clear hf
  go_enter Tryz.func156, Tryz.ntmps156
  go_wp2
  go_region
  all_goals (try go_wp2)
  all_goals go_end0
  all_goals exact ⟨rfl, rfl⟩
theorem owns_swapP {w : World} {base : Nat} {e : TypeId} {n g c : Nat} {ps : List (Int × Int)} (h : w.ownsRow base e 2 (.slice (some ⟨g, 0, none⟩) n c) n (pairs ps)) (i j : Nat) (hi : i < ps.length) (hj : j < ps.length) (y x : Int × Int) :
    (swapW w g i j x y).ownsRow base e 2 (.slice (some ⟨g, 0, none⟩) n c) n (pairs ((ps.set i y).set j x)) := by
  have hl := pairs_length ps
  have h1 := owns_put (owns_put h (i * 2) (by omega) (.int .i64 y.1)) (i * 2 + 1) (by simp; omega) (.int .i64 y.2)
  rw [pairs_put ps i hi y] at h1
  have hl2 := pairs_length (ps.set i y)
  rw [List.length_set] at hl2
  have h2 := owns_put (owns_put h1 (j * 2) (by omega) (.int .i64 x.1)) (j * 2 + 1) (by simp; omega) (.int .i64 x.2)
  rw [pairs_put (ps.set i y) j (by rw [List.length_set]; exact hj) x] at h2
  exact h2
theorem pswap_any (w : World) (base p g c : Nat) (ps : List (Int × Int)) (h : PartsAt w base p g c ps) (i j : Nat) (hi : i < ps.length) (hj : j < ps.length) :
    Calls Tryz.prog 156 #[.slice (some ⟨g, 0, none⟩) ps.length c, .int .i64 i, .int .i64 j] w fun e w' => e = .returned (.tuple #[]) ∧ Step (fun k => k = p ∨ base ≤ k) w w' ∧ PartsAt w' base p g c (swapP ps i j) := by
  obtain ⟨h1, h2, h4⟩ := h
  obtain ⟨hr, hbg, hnc⟩ := owns_rowIn2 h2
  obtain ⟨ci, di⟩ := hr.pair i hi
  obtain ⟨cj, dj⟩ := hr.pair j hj
  refine (pswap_raw w g c ps.length (ps.getD i (0, 0)) (ps.getD j (0, 0)) i j hi hj ci di cj dj (fun q => hr.f q)).mono ?_
  rintro e w' ⟨rfl, rfl⟩
  have hs : ∀ F : Nat → Prop, F g → Step F w ((swapW w g i j (ps.getD i (0, 0)) (ps.getD j (0, 0))).drew) := fun F hF => (((((Step.refl F w).setCell (p := ⟨g, i * 2, none⟩) (.inl hF) _).setCell (p := ⟨g, i * 2 + 1, none⟩) (.inl hF) _).setCell (p := ⟨g, j * 2, none⟩) (.inl hF) _).setCell (p := ⟨g, j * 2 + 1, none⟩) (.inl hF) _).drew
  refine ⟨rfl, hs _ (.inr hbg), ?_, ?_, h4⟩
  · rw [swapP_len]
    exact ((hs (oneF g) rfl).block p (lt_of_block h1) h4).trans h1
  · rw [swapP_len]
    exact owns_swapP h2 i j hi hj (ps.getD j (0, 0)) (ps.getD i (0, 0))

set_option maxHeartbeats 2000000 in
/-- up. -/
theorem pup_any (w : World) (base p g c : Nat) (ps : List (Int × Int)) (h : PartsAt w base p g c ps) (hf : FewP ps) (j : Nat) (hj : j < ps.length) (hl : ps.length ≤ 1000000) (hu : PpUp ps j) :
    Calls Tryz.prog 74 #[.iface 77 (.pointer (some ⟨p, 0, none⟩)), .int .i64 j] w fun e w' => e = .returned (.tuple #[]) ∧ Step (fun k => k = p ∨ base ≤ k) w w' ∧ ∃ ms, PartsAt w' base p g c ms ∧ ms.Perm ps ∧ PpHp ms := by
  have HN := hid h
  have HU := hid hu
  have HF := hid hf
  clear h hu hf
  go_enter Tryz.func74, Tryz.ntmps74
  go_wp2_with fail
  go_loopw [1, 4] (fun jv _ wr => ∃ (k : Nat) (ms : List (Int × Int)), jv = .int .i64 k ∧ k < ps.length ∧ Hid (Step (fun k => k = p ∨ base ≤ k) w wr) ∧ Hid (PartsAt wr base p g c ms) ∧ Hid (ms.Perm ps) ∧ Hid (PpUp ms k)) (fun jv _ _ => (intOf jv).toNat)
  case atStart => exact ⟨j, ps, rfl, hj, Step.refl _ _, HN.out, List.Perm.refl _, HU.out⟩
  case round =>
    obtain ⟨k, ms, rfl, hk, hst, hn, hperm, hup⟩ := hrel
    have HL := hid (show ms.length = ps.length from hperm.out.length_eq)
    have HFM := hid (HF.out.perm hperm.out)
    by_cases k0 : k = 0
    · subst k0
      go_wp2_with fail
      go_end0
      exact ⟨rfl, hst.out, ms, hn.out, hperm.out, pp_stop hup.out (.inl rfl)⟩
    · obtain ⟨i, hi⟩ : ∃ i, (k - 1) / 2 = i := ⟨_, rfl⟩
      have hik : i < k := by omega
      have hkl : k < ms.length := by rw [HL.out]; exact hk
      have hq : ((k : Int) - 1).tdiv 2 = (i : Int) := by rw [Int.tdiv_eq_ediv_of_nonneg (by omega)]; omega
      have hne : ¬ (i : Int) = (k : Int) := by omega
      have hkb : k ≤ 1000000 := by omega
      have hml := fun fu => pmeth_val prow_less fu wr p _ hn.out.cell
      have cl := pless_any wr g c ms hn.out.row.1 HFM.out k i (by omega) (by omega)
      have HI := hid hi
      clear hi
      cases hb : decide (rk ms k < rk ms i)
      · rw [hb] at cl
        have HB := hid hb
        clear hb
        go_wp2_with fail
        refine cl.mono ?_
        rintro e w1 ⟨rfl, s1⟩
        have S1 := hid s1
        clear s1
        go_wp2_with fail
        go_end0
        refine ⟨rfl, hst.out.then S1.out (fun _ x => x.elim), ms, hn.out.step S1.out, hperm.out, pp_stop hup.out (.inr ?_)⟩
        rw [HI.out]; exact of_decide_eq_false HB.out
      · rw [hb] at cl
        have HB := hid hb
        clear hb
        go_wp2_with fail
        refine cl.mono ?_
        rintro e w1 ⟨rfl, s1⟩
        have hms := fun fu => pmeth_val prow_swap fu w1 p _ (hn.out.step s1).cell
        have cs := pswap_any w1 base p g c ms (hn.out.step s1) i k (by omega) (by omega)
        have S1 := hid s1
        clear s1
        go_wp2_with fail
        refine cs.mono ?_
        rintro e w2 ⟨rfl, s2, h2⟩
        have S2 := hid s2
        have H2 := hid h2
        clear s2 h2
        go_wp2_with fail
        go_roundw
        case rel =>
          refine ⟨i, swapP ms i k, rfl, by omega, (hst.out.then S1.out (fun _ x => x.elim)).trans S2.out, H2.out, ?_, ?_⟩
          · exact (swapP_perm (by omega) (by omega)).trans hperm.out
          · have := pp_step hup.out hkl (by omega) (by rw [HI.out]; exact of_decide_eq_true HB.out)
            rw [HI.out] at this
            exact this
        case measure => simp [intOf]; omega
end Go.Proofs.YtipgbpopcamllaaGreat
namespace Go.Proofs.YtipgbpopcamllaaGreat
open Go.RowKit
set_option linter.unusedVariables false
set_option linter.unusedSimpArgs false
set_option maxRecDepth 20000

set_option maxHeartbeats 4000000 in
/-- down: what lies behind n stays. -/
theorem pdown_any (w : World) (base p g c : Nat) (ps : List (Int × Int)) (h : PartsAt w base p g c ps) (hf : FewP ps) (n : Nat) (hn : n ≤ ps.length) (hl : ps.length ≤ 1000000) :
    Calls Tryz.prog 99 #[.iface 77 (.pointer (some ⟨p, 0, none⟩)), .int .i64 0, .int .i64 n] w fun e w' => ∃ b, e = .returned (.bool b) ∧ Step (fun k => k = p ∨ base ≤ k) w w' ∧ ∃ ms, PartsAt w' base p g c ms ∧ ms.Perm ps ∧ ∀ q, n ≤ q → ms.getD q (0, 0) = ps.getD q (0, 0) := by
  have HN := hid h
  have HF := hid hf
  have HNL := hid hn
  have hnl : n ≤ 1000000 := by omega
  have HL0 := hid hl
  clear h hn hl hf
  go_enter Tryz.func99, Tryz.ntmps99
  go_wp2_with fail
  go_loopw [7, 8, 9, 10] (fun iv _ _ _ wr => ∃ (k : Nat) (ms : List (Int × Int)), iv = .int .i64 k ∧ k ≤ n ∧ Hid (Step (fun k => k = p ∨ base ≤ k) w wr) ∧ Hid (PartsAt wr base p g c ms) ∧ Hid (ms.Perm ps) ∧ Hid (∀ q, n ≤ q → ms.getD q (0, 0) = ps.getD q (0, 0))) (fun iv _ _ _ _ => n - (intOf iv).toNat)
  case atStart => exact ⟨0, ps, rfl, Nat.zero_le _, Step.refl _ _, HN.out, List.Perm.refl _, fun _ _ => rfl⟩
  case round =>
    obtain ⟨k, ms, rfl, hk, hst, hn, hperm, htl⟩ := hrel
    have HL := hid (show ms.length = ps.length from hperm.out.length_eq)
    have HFM := hid (HF.out.perm hperm.out)
    by_cases h1 : 2 * k + 1 < n
    · have g1 : ¬ ((n : Int) ≤ 2 * (k : Int) + 1) := by omega
      have g2 : ¬ (2 * (k : Int) + 1 < 0) := by omega
      have hkb : k ≤ 1000000 := by omega
      have HLK := hid (show 2 * k + 1 < ms.length ∧ k < ms.length by have := HL.out; have := HNL.out; omega)
      have hml := fun fu => pmeth_val prow_less fu wr p _ hn.out.cell
      have H1 := hid h1
      by_cases h2 : 2 * k + 2 < n
      · have g3 : 2 * (k : Int) + 1 + 1 < (n : Int) := by omega
        have cl := pless_any wr g c ms hn.out.row.1 HFM.out (2 * k + 2) (2 * k + 1) (by have := HL.out; have := HNL.out; omega) HLK.out.1
        have e1 : ((2 * k + 2 : Nat) : Int) = 2 * (k : Int) + 1 + 1 := by omega
        have e2 : ((2 * k + 1 : Nat) : Int) = 2 * (k : Int) + 1 := by omega
        rw [e1, e2] at cl
        have H2 := hid h2
        clear e1 e2 h1 h2
        cases hb : decide (rk ms (2 * k + 2) < rk ms (2 * k + 1))
        · rw [hb] at cl
          clear hb
          go_wp2_with fail
          refine cl.mono ?_
          rintro e w1 ⟨rfl, s1⟩
          have S1 := hid s1
          clear s1
          have hm2 := fun fu => pmeth_val prow_less fu w1 p _ (hn.out.step S1.out).cell
          have cl2 := pless_any w1 g c ms (hn.out.step S1.out).row.1 HFM.out (2 * k + 1) k (by have := HL.out; have := HNL.out; have := H1.out; have := H2.out; omega) HLK.out.2
          have e2 : (((2 * k + 1) : Nat) : Int) = 2 * (k : Int) + 1 := by omega
          rw [e2] at cl2
          clear e2
          cases hc : decide (rk ms (2 * k + 1) < rk ms k)
          · rw [hc] at cl2
            clear hc
            go_wp2_with fail
            refine cl2.mono ?_
            rintro e w2 ⟨rfl, s2⟩
            have S2 := hid (S1.out.trans s2)
            clear s2
            go_wp2_with fail
            go_ret
            exact ⟨_, rfl, hst.out.then S2.out (fun _ x => x.elim), ms, hn.out.step S2.out, hperm.out, htl.out⟩
          · rw [hc] at cl2
            clear hc
            go_wp2_with fail
            refine cl2.mono ?_
            rintro e w2 ⟨rfl, s2⟩
            have S2 := hid (S1.out.trans s2)
            clear s2
            have hms := fun fu => pmeth_val prow_swap fu w2 p _ (hn.out.step S2.out).cell
            have cs := pswap_any w2 base p g c ms (hn.out.step S2.out) k (2 * k + 1) HLK.out.2 (by have := HL.out; have := HNL.out; have := H1.out; have := H2.out; omega)
            have e2 : (((2 * k + 1) : Nat) : Int) = 2 * (k : Int) + 1 := by omega
            rw [e2] at cs
            clear e2
            go_wp2_with fail
            refine cs.mono ?_
            rintro e w3 ⟨rfl, s3, h3⟩
            have S3 := hid s3
            have H3 := hid h3
            clear s3 h3
            go_wp2_with fail
            go_roundw
            case rel =>
              refine ⟨(2 * k + 1), swapP ms k (2 * k + 1), int_eq (by omega), by have := H1.out; have := H2.out; omega, (hst.out.then S2.out (fun _ x => x.elim)).trans S3.out, H3.out, ?_, ?_⟩
              · exact (swapP_perm HLK.out.2 (by have := HL.out; have := HNL.out; have := H1.out; have := H2.out; omega)).trans hperm.out
              · intro q hq
                rw [swapP_at HLK.out.2 (by have := HL.out; have := HNL.out; have := H1.out; have := H2.out; omega), if_neg (by have := H1.out; have := H2.out; omega), if_neg (by have := H1.out; have := H2.out; omega)]
                exact htl.out q hq
            case measure => simp [intOf]; have := H1.out; have := H2.out; omega
        · rw [hb] at cl
          clear hb
          go_wp2_with fail
          refine cl.mono ?_
          rintro e w1 ⟨rfl, s1⟩
          have S1 := hid s1
          clear s1
          have hm2 := fun fu => pmeth_val prow_less fu w1 p _ (hn.out.step S1.out).cell
          have cl2 := pless_any w1 g c ms (hn.out.step S1.out).row.1 HFM.out (2 * k + 2) k (by have := HL.out; have := HNL.out; have := H1.out; have := H2.out; omega) HLK.out.2
          have e2 : (((2 * k + 2) : Nat) : Int) = 2 * (k : Int) + 1 + 1 := by omega
          rw [e2] at cl2
          clear e2
          cases hc : decide (rk ms (2 * k + 2) < rk ms k)
          · rw [hc] at cl2
            clear hc
            go_wp2_with fail
            refine cl2.mono ?_
            rintro e w2 ⟨rfl, s2⟩
            have S2 := hid (S1.out.trans s2)
            clear s2
            go_wp2_with fail
            go_ret
            exact ⟨_, rfl, hst.out.then S2.out (fun _ x => x.elim), ms, hn.out.step S2.out, hperm.out, htl.out⟩
          · rw [hc] at cl2
            clear hc
            go_wp2_with fail
            refine cl2.mono ?_
            rintro e w2 ⟨rfl, s2⟩
            have S2 := hid (S1.out.trans s2)
            clear s2
            have hms := fun fu => pmeth_val prow_swap fu w2 p _ (hn.out.step S2.out).cell
            have cs := pswap_any w2 base p g c ms (hn.out.step S2.out) k (2 * k + 2) HLK.out.2 (by have := HL.out; have := HNL.out; have := H1.out; have := H2.out; omega)
            have e2 : (((2 * k + 2) : Nat) : Int) = 2 * (k : Int) + 1 + 1 := by omega
            rw [e2] at cs
            clear e2
            go_wp2_with fail
            refine cs.mono ?_
            rintro e w3 ⟨rfl, s3, h3⟩
            have S3 := hid s3
            have H3 := hid h3
            clear s3 h3
            go_wp2_with fail
            go_roundw
            case rel =>
              refine ⟨(2 * k + 2), swapP ms k (2 * k + 2), int_eq (by omega), by have := H1.out; have := H2.out; omega, (hst.out.then S2.out (fun _ x => x.elim)).trans S3.out, H3.out, ?_, ?_⟩
              · exact (swapP_perm HLK.out.2 (by have := HL.out; have := HNL.out; have := H1.out; have := H2.out; omega)).trans hperm.out
              · intro q hq
                rw [swapP_at HLK.out.2 (by have := HL.out; have := HNL.out; have := H1.out; have := H2.out; omega), if_neg (by have := H1.out; have := H2.out; omega), if_neg (by have := H1.out; have := H2.out; omega)]
                exact htl.out q hq
            case measure => simp [intOf]; have := H1.out; have := H2.out; omega
      · have g3 : ¬ (2 * (k : Int) + 1 + 1 < (n : Int)) := by omega
        have s1 : Step noF wr wr := Step.refl _ _
        have S1 := hid s1
        clear h1 h2 s1
        have hm2 := fun fu => pmeth_val prow_less fu wr p _ (hn.out.step S1.out).cell
        have cl2 := pless_any wr g c ms (hn.out.step S1.out).row.1 HFM.out (2 * k + 1) k (by have := HL.out; have := HNL.out; have := H1.out; omega) HLK.out.2
        have e2 : (((2 * k + 1) : Nat) : Int) = 2 * (k : Int) + 1 := by omega
        rw [e2] at cl2
        clear e2
        cases hc : decide (rk ms (2 * k + 1) < rk ms k)
        · rw [hc] at cl2
          clear hc
          go_wp2_with fail
          refine cl2.mono ?_
          rintro e w2 ⟨rfl, s2⟩
          have S2 := hid (S1.out.trans s2)
          clear s2
          go_wp2_with fail
          go_ret
          exact ⟨_, rfl, hst.out.then S2.out (fun _ x => x.elim), ms, hn.out.step S2.out, hperm.out, htl.out⟩
        · rw [hc] at cl2
          clear hc
          go_wp2_with fail
          refine cl2.mono ?_
          rintro e w2 ⟨rfl, s2⟩
          have S2 := hid (S1.out.trans s2)
          clear s2
          have hms := fun fu => pmeth_val prow_swap fu w2 p _ (hn.out.step S2.out).cell
          have cs := pswap_any w2 base p g c ms (hn.out.step S2.out) k (2 * k + 1) HLK.out.2 (by have := HL.out; have := HNL.out; have := H1.out; omega)
          have e2 : (((2 * k + 1) : Nat) : Int) = 2 * (k : Int) + 1 := by omega
          rw [e2] at cs
          clear e2
          go_wp2_with fail
          refine cs.mono ?_
          rintro e w3 ⟨rfl, s3, h3⟩
          have S3 := hid s3
          have H3 := hid h3
          clear s3 h3
          go_wp2_with fail
          go_roundw
          case rel =>
            refine ⟨(2 * k + 1), swapP ms k (2 * k + 1), int_eq (by omega), by have := H1.out; omega, (hst.out.then S2.out (fun _ x => x.elim)).trans S3.out, H3.out, ?_, ?_⟩
            · exact (swapP_perm HLK.out.2 (by have := HL.out; have := HNL.out; have := H1.out; omega)).trans hperm.out
            · intro q hq
              rw [swapP_at HLK.out.2 (by have := HL.out; have := HNL.out; have := H1.out; omega), if_neg (by have := H1.out; omega), if_neg (by have := H1.out; omega)]
              exact htl.out q hq
          case measure => simp [intOf]; have := H1.out; omega
    · have g1 : (n : Int) ≤ 2 * (k : Int) + 1 := by omega
      have hkb : k ≤ 1000000 := by omega
      go_wp2_with fail
      go_ret
      exact ⟨_, rfl, hst.out, ms, hn.out, hperm.out, htl.out⟩
end Go.Proofs.YtipgbpopcamllaaGreat
namespace Go.Proofs.YtipgbpopcamllaaGreat
open Go.RowKit
set_option linter.unusedVariables false
set_option linter.unusedSimpArgs false
set_option maxRecDepth 20000

theorem info_pt : (Tryz.prog.info? 79).map (fun i => (i.zero, i.size, i.bytes)) = some (some (.agg #[.int .i64 0, .int .i64 0]), 2, 16) := by kernel_rfl
theorem assert_pt (x y : Int) (u : World) : (Instr.typeAssert (.iface 79 (.agg #[.int .i64 x, .int .i64 y])) 20 79 false).run Tryz.prog u = .ok (.agg #[.int .i64 x, .int .i64 y]) u := by kernel_rfl
theorem field_pt (x y : Int) (u : World) : (Instr.field 79 (.agg #[.int .i64 x, .int .i64 y]) 0).run Tryz.prog u = .ok (.int .i64 x) u := by kernel_rfl
/-- A heap whose slice, nil or not, lies in block p. -/
def HeapAt (w : World) (base p : Nat) (ps : List (Int × Int)) : Prop := ∃ v, w.heap[p]? = some (.cells #[v] 75 (0, 0)) ∧ w.ownsRow base 79 2 v ps.length (pairs ps) ∧ base ≤ w.heap.size ∧ v.ownBlock ≠ some p
theorem HeapAt.step {w w' : World} {base p : Nat} {ps : List (Int × Int)} (h : HeapAt w base p ps) (hs : Step noF w w') : HeapAt w' base p ps := by
  obtain ⟨v, h1, h2, h3, h4⟩ := h
  exact ⟨v, (hs.block p (lt_of_block h1) (fun x => x)).trans h1, owns_step h2 hs (fun _ _ x => x), Nat.le_trans h3 hs.size, h4⟩
theorem PartsAt.heap {w : World} {base p g c : Nat} {ps : List (Int × Int)} (h : PartsAt w base p g c ps) : HeapAt w base p ps := ⟨_, h.1, h.2.1, Nat.le_trans h.row.2.1 (Nat.le_of_lt h.row.1.lt), fun e => h.2.2 (by injection e with e; exact e.symm)⟩
theorem HeapAt.parts {w : World} {base p : Nat} {ps : List (Int × Int)} (h : HeapAt w base p ps) (h0 : 0 < ps.length) : ∃ g c, PartsAt w base p g c ps := by
  obtain ⟨v, h1, h2, h3, h4⟩ := h
  rcases h2.2 with ⟨_, e⟩ | ⟨g, cap, cur, rfl, _⟩
  · omega
  · exact ⟨g, cap, h1, h2, fun e => h4 (by rw [e]; rfl)⟩

set_option maxHeartbeats 2000000 in
theorem ppush_any (w : World) (base p : Nat) (ps : List (Int × Int)) (h : HeapAt w base p ps) (hl : ps.length ≤ 1000000) (x y : Int) :
    Calls Tryz.prog 158 #[.pointer (some ⟨p, 0, none⟩), .iface 79 (.agg #[.int .i64 x, .int .i64 y])] w fun e w' => e = .returned (.tuple #[]) ∧ HeapAt w' base p (ps ++ [(x, y)]) ∧ Step (fun k => k = p ∨ base ≤ k) w w' := by
  obtain ⟨i0, hi, hz0, hz1, hz2⟩ := info_of info_pt
  obtain ⟨v, hb, ho, hbp, hne⟩ := h
  have c5 : w.cell? ⟨p, 0, none⟩ = some v := by rw [cell_of_block hb]; rfl
  obtain ⟨na, nc, rfl⟩ := owns_form ho
  have hx1 : Hid (∀ u ∈ [Value.int .i64 x, .int .i64 y], u.oneCell' = true) := fun u hu => by simp at hu; rcases hu with rfl | rfl <;> rfl
  have hl1 : Hid (ps.length + 1 ≤ maxLen) := le_max (by omega)
  have hl2 : Hid ((ps.length + 1) * 16 ≤ 140737488355328) := by show _ ≤ _; omega
  have HB := hid hb
  have HO := hid (owns_base ho (Nat.zero_le _))
  have HOB := hid ho
  have HNE := hid hne
  have HBP := hid hbp
  have c5n := fun o => cell_alloc c5 o
  have hta := assert_pt x y
  have f5 := frozen_of_block hb 0
  clear hb ho hne hbp
  go_enter Tryz.func158, Tryz.ntmps158
  go_wp2
  go_region_law (refine step_append_own rfl (.tmp 7) (.tmp 10) 75 rfl 79 i0 _ 2 16 Tryz.underlying75 hi hz0 hz1 hz2 rfl (by decide) (.slice na ps.length nc) _ _ (by simp [Act.eval]) (by exact HO.out.alloc _) ⟨w.heap.size, 0, none⟩ 1 1 [Value.int .i64 x, .int .i64 y] (by simp [Act.eval]) rfl (pair_row _ _ _ _ _ rfl) hx1.out hl1.out hl2.out ?_; intro v' w' ho' hg' hfr; have hb' := grown_block hg' (block_alloc_old HB.out _) (fun e => HNE.out e.symm); have hc' : w'.cell? ⟨p, 0, none⟩ = some (.slice na ps.length nc) := (by rw [cell_of_block hb']; rfl); have hf' := frozen_of_block hb' 0; have HB' := hid hb'; clear hb'; obtain ⟨ao, cc, rfl⟩ := owns_form ho')
  all_goals go_wp2
  all_goals go_end0
  all_goals
    have hS : Step (fun k => k = p ∨ base ≤ k) w (w.drew.alloc (.cells #[.int .i64 x, .int .i64 y] 79)) := (Step.refl _ w).drew.alloc _
    have hS2 : Step (fun k => k = p ∨ base ≤ k) w w' := hS.grown hg' (fun k hk => .inl (.inr (HOB.out.lt k hk).1))
    have hFr : Fresh w (.slice na ps.length nc) (.slice ao (ps.length + 1) cc) := hfr.imp id (fun e k hk => Nat.le_trans hS.size (e k hk))
    have hvp : (Value.slice ao (ps.length + 1) cc).ownBlock ≠ some p := by
      rcases hFr with e | e
      · rw [e]; exact HNE.out
      · intro h; have := e p h; have := lt_of_block HB.out; omega
    have hlen : (ps ++ [(x, y)]).length = ps.length + 1 := by simp
    refine ⟨rfl, ⟨_, block_setCell HB'.out 0 _, ?_, Nat.le_trans HBP.out (by have := hS2.size; rw [World.size_setCell]; exact this), hvp⟩, hS2.setCell (p := ⟨p, 0, none⟩) (.inl (.inl rfl)) _⟩
    rw [hlen, pairs_append]
    refine owns_setCell ?_ ⟨p, 0, none⟩ hvp _
    refine ⟨ho'.1, ?_⟩
    rcases ho'.2 with h | ⟨g, cap, cur, hv, _, hh, rest⟩
    · exact .inl h
    · refine .inr ⟨g, cap, cur, hv, ?_, hh, rest⟩
      rcases hFr with e | e
      · exact (HOB.out.lt g (by rw [← e, hv]; rfl)).1
      · have h1 := e g (by rw [hv]; rfl)
        exact Nat.le_trans HBP.out h1

set_option maxHeartbeats 2000000 in
/-- heap.Push. -/
theorem hppush_any (w : World) (base p : Nat) (ps : List (Int × Int)) (h : HeapAt w base p ps) (hl : ps.length ≤ 900000) (hf : FewP ps) (hh : PpHp ps) (x y : Int) (hx : 0 ≤ x ∧ x < 4294967296) :
    Calls Tryz.prog 36 #[.iface 77 (.pointer (some ⟨p, 0, none⟩)), .iface 79 (.agg #[.int .i64 x, .int .i64 y])] w fun e w' => e = .returned (.tuple #[]) ∧ Step (fun k => k = p ∨ base ≤ k) w w' ∧ ∃ ms, HeapAt w' base p ms ∧ ms.Perm (ps ++ [(x, y)]) ∧ PpHp ms := by
  have hp := ppush_any w base p ps h (by omega) x y
  have hmp := fun fu => pmeth_ptr prow_push fu w p
  have HH := hid hh
  have HF : Hid (FewP (ps ++ [(x, y)])) := fun z hz => by
    rcases List.mem_append.1 hz with hz | hz
    · exact hf z hz
    · simp at hz; subst hz; exact hx
  have hlen : (ps ++ [(x, y)]).length = ps.length + 1 := by simp
  clear h hh hf
  go_enter Tryz.func36, Tryz.ntmps36
  go_wp2_with fail
  refine hp.mono ?_
  rintro e w1 ⟨rfl, h1, s1⟩
  obtain ⟨g, c, hnum⟩ := h1.parts (by omega)
  have hml := fun fu => pmeth_val prow_len fu w1 p _ hnum.cell
  have cu := pup_any w1 base p g c (ps ++ [(x, y)]) hnum HF.out ps.length (by omega) (by omega) (pp_start HH.out (x, y))
  have cn := plen_any w1 (some ⟨g, 0, none⟩) (ps ++ [(x, y)]).length c
  have hi1 : (((ps ++ [(x, y)]).length : Nat) : Int) - 1 = (ps.length : Int) := by omega
  have S1 := hid s1
  have hlb : (ps ++ [(x, y)]).length ≤ 1000000 := by omega
  obtain ⟨M, hM⟩ : ∃ M, (ps ++ [(x, y)]).length = M := ⟨_, rfl⟩
  rw [hM] at hml cn hi1 hlb
  clear hlen hM h1 hnum s1 hmp
  go_wp2_with fail
  refine cn.mono ?_
  rintro e w2 ⟨rfl, rfl⟩
  go_wp2_with fail
  refine cu.mono ?_
  rintro e w2 ⟨rfl, s2, ms, hn2, hpm, hhp⟩
  have HR := hid (And.intro s2 (And.intro hn2 (And.intro hpm hhp)))
  clear s2 hn2 hpm hhp
  go_wp2_with fail
  go_end0
  exact ⟨rfl, S1.out.trans HR.out.1, ms, HR.out.2.1.heap, HR.out.2.2.1, HR.out.2.2.2⟩

set_option maxHeartbeats 2000000 in
theorem ppop_any (w : World) (base p g c : Nat) (ps : List (Int × Int)) (m : Nat) (h : PartsAt w base p g c ps) (hl : ps.length = m + 1) (hm : m ≤ 1000000) (hhp : p < w.heap.size) :
    Calls Tryz.prog 157 #[.pointer (some ⟨p, 0, none⟩)] w fun e w' => e = .returned (.iface 79 (.agg #[.int .i64 (ps.getD m (0, 0)).1, .int .i64 (ps.getD m (0, 0)).2])) ∧ Step (fun k => k = p ∨ base ≤ k) w w' := by
  have c5 := h.cell
  have f5 := frozen_of_block h.1 0
  obtain ⟨ci, di⟩ := h.row.1.pair m (by omega)
  have hc := h.row.2.2
  obtain ⟨⟨x, y⟩, hx⟩ : ∃ z, ps.getD m (0, 0) = z := ⟨_, rfl⟩
  rw [hx] at ci di ⊢
  rw [hl] at c5 hc
  simp only at ci di ⊢
  have ea : ∀ o, (w.alloc o).cell? ⟨p, 0, none⟩ = some (.slice (some ⟨g, 0, none⟩) (m + 1) c) := fun o => cell_alloc c5 o
  have eb : ∀ o, (w.alloc o).frozen? ⟨p, 0, none⟩ = false := fun o => (((Step.refl noF w).alloc o).frozen (p := ⟨p, 0, none⟩) (fun x => x) hhp).trans f5
  clear h hx hl
  go_enter Tryz.func157, Tryz.ntmps157
  go_wp2
  go_ret
  exact ⟨rfl, ((Step.refl _ w).setCell (p := ⟨p, 0, none⟩) (.inl (.inl rfl)) _).alloc _⟩

set_option maxHeartbeats 2000000 in
/-- heap.Pop: the head is told. -/
theorem hppop_any (w : World) (base p g c : Nat) (ps : List (Int × Int)) (m : Nat) (h : PartsAt w base p g c ps) (hl : ps.length = m + 1) (hm : m ≤ 900000) (hf : FewP ps) :
    Calls Tryz.prog 76 #[.iface 77 (.pointer (some ⟨p, 0, none⟩))] w fun e w' => e = .returned (.iface 79 (.agg #[.int .i64 (ps.getD 0 (0, 0)).1, .int .i64 (ps.getD 0 (0, 0)).2])) ∧ Step (fun k => k = p ∨ base ≤ k) w w' := by
  have hml := fun fu => pmeth_val prow_len fu w p _ h.cell
  have cn := plen_any w (some ⟨g, 0, none⟩) ps.length c
  have hms := fun fu => pmeth_val prow_swap fu w p _ h.cell
  have cs := pswap_any w base p g c ps h 0 m (by omega) (by omega)
  have HF := hid hf
  have hpl := lt_of_block h.1
  rw [hl] at hml cn hms cs
  have HL := hid hl
  obtain ⟨⟨x, y⟩, hxy⟩ : ∃ z, ps.getD 0 (0, 0) = z := ⟨_, rfl⟩
  rw [hxy]
  have HXY := hid hxy
  simp only
  clear h hl hf hxy
  go_enter Tryz.func76, Tryz.ntmps76
  go_wp2_with fail
  refine cn.mono ?_
  rintro e w1 ⟨rfl, rfl⟩
  go_wp2_with fail
  refine cs.mono ?_
  rintro e w1 ⟨rfl, s1, h1⟩
  have S1 := hid s1
  have H1 := hid h1
  have hsl : (swapP ps 0 m).length = m + 1 := by rw [swapP_len]; exact HL.out
  have HFS : Hid (FewP (swapP ps 0 m)) := HF.out.perm (swapP_perm (by rw [HL.out]; omega) (by rw [HL.out]; omega))
  have cd := pdown_any w1 base p g c (swapP ps 0 m) h1 HFS.out m (by omega) (by omega)
  clear s1 h1 hsl
  go_wp2_with fail
  refine cd.mono ?_
  rintro e w2 ⟨b, rfl, s2, ms, h2, hpm, htl⟩
  have hmpop := fun fu => pmeth_ptr prow_pop fu w2 p
  have hlm : ms.length = m + 1 := by rw [hpm.length_eq, swapP_len, HL.out]
  have hx : ms.getD m (0, 0) = ps.getD 0 (0, 0) := by
    rw [htl m (Nat.le_refl _), swapP_at (by rw [HL.out]; omega) (by rw [HL.out]; omega), if_pos rfl]
  have cp := ppop_any w2 base p g c ms m h2 hlm (by omega) (lt_of_block h2.1)
  rw [hx, HXY.out] at cp
  simp only at cp
  have S2 := hid (S1.out.trans s2)
  clear s2 hpm htl hlm hx h2 cd
  go_wp2_with fail
  refine cp.mono ?_
  rintro e w3 ⟨rfl, s3⟩
  have S3 := hid s3
  clear s3
  go_wp2_with fail
  go_ret
  exact ⟨rfl, S2.out.trans S3.out⟩

set_option maxHeartbeats 1000000 in
/-- first: none, or the head's place. -/
theorem first_any (w : World) (base p : Nat) (ps : List (Int × Int)) (h : HeapAt w base p ps) (hl : ps.length ≤ 900000) (hf : FewP ps) :
    Calls Tryz.prog 37 #[.pointer (some ⟨p, 0, none⟩)] w fun e w' => e = .returned (.int .i64 (if ps = [] then -1 else (ps.getD 0 (0, 0)).1)) ∧ Step (fun k => k = p ∨ base ≤ k) w w' := by
  by_cases h0 : ps = []
  · rw [if_pos h0]
    subst h0
    obtain ⟨v, hb, ho, _, _⟩ := h
    obtain ⟨a, c, rfl⟩ := owns_form ho
    have c5 : w.cell? ⟨p, 0, none⟩ = some (.slice a ([] : List (Int × Int)).length c) := by rw [cell_of_block hb]; rfl
    rw [List.length_nil] at c5
    have cn := plen_any w a 0 c
    clear hb ho
    go_enter Tryz.func37, Tryz.ntmps37
    go_wp2_with fail
    refine cn.mono ?_
    rintro e w1 ⟨rfl, rfl⟩
    go_wp2_with fail
    go_ret
    exact ⟨rfl, Step.refl _ _⟩
  · rw [if_neg h0]
    have hp : 0 < ps.length := List.length_pos_iff.2 h0
    obtain ⟨g, c, hn⟩ := h.parts hp
    obtain ⟨m, hm⟩ : ∃ m, ps.length = m + 1 := ⟨ps.length - 1, by omega⟩
    have c5 := hn.cell
    have cn := plen_any w (some ⟨g, 0, none⟩) ps.length c
    have cp := hppop_any w base p g c ps m hn hm (by omega) hf
    have hta := fun (x y : Int) (u : World) => assert_pt x y u
    have hfl := fun (x y : Int) (u : World) => field_pt x y u
    have hz : ((ps.length : Int) == 0) = false := by rw [beq_eq_false_iff_ne]; omega
    obtain ⟨⟨x, y⟩, hxy⟩ : ∃ z, ps.getD 0 (0, 0) = z := ⟨_, rfl⟩
    rw [hxy] at cp ⊢
    simp only at cp ⊢
    clear hxy hm h hn h0 hp
    go_enter Tryz.func37, Tryz.ntmps37
    go_wp2_with fail
    refine cn.mono ?_
    rintro e w1 ⟨rfl, rfl⟩
    go_wp2_with fail
    refine cp.mono ?_
    rintro e w2 ⟨rfl, s2⟩
    have S2 := hid s2
    clear s2
    go_wp2_with fail
    go_ret
    exact ⟨rfl, S2.out⟩
end Go.Proofs.YtipgbpopcamllaaGreat
