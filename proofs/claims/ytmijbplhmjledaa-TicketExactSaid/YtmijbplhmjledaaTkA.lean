/-
  The numbers of tickets that are gone, in memory: a heap; its methods.
-/
import Derived.Test.YtmijbplhmjledaaTkHeapM
import Derived.Test.YtmijbplhmjledaaSpA
import Derived.BigRegion
import Derived.RegionTactic
namespace Go.Proofs.Ytmijbplhmjledaa
open Go.RowKit
set_option linter.unusedVariables false
set_option linter.unusedSimpArgs false

theorem intsOf_length (l : List Int) : (intsOf l).length = l.length := by simp [intsOf]
theorem intsOf_at (l : List Int) (j : Nat) (h : j < (intsOf l).length) : (intsOf l)[j] = .int .i64 (l[j]'(by simpa [intsOf] using h)) := by simp [intsOf]
theorem intsOf_set (l : List Int) (j : Nat) (b : Int) : (intsOf l).set j (.int .i64 b) = intsOf (l.set j b) := by simp [intsOf, List.map_set]
theorem intsOf_append (a b : List Int) : intsOf (a ++ b) = intsOf a ++ intsOf b := by simp [intsOf]
theorem RowIn.int {w : World} {g : Nat} {e : TypeId} {ns : List Int} (h : RowIn w g e (intsOf ns)) (j : Nat) (hj : j < ns.length) : w.cell? ⟨g, j, none⟩ = some (.int .i64 (ns.getD j 0)) := by
  have := h.cell j (by rw [intsOf_length]; exact hj)
  rw [intsOf_at] at this
  rw [getD_lt _ hj]; exact this

/-- The heap's slice lies in the field of the pool at p, its numbers in block g. -/
def NumAt (w : World) (p g c : Nat) (ns : List Int) : Prop := w.cell? ⟨p, 5, none⟩ = some (.slice (some ⟨g, 0, none⟩) ns.length c) ∧ w.ownsRow 0 3 1 (.slice (some ⟨g, 0, none⟩) ns.length c) ns.length (intsOf ns) ∧ RowIn w g 3 (intsOf ns) ∧ p ≠ g
theorem owns_rowIn {w : World} {e : TypeId} {g n c : Nat} {xs : List Value} (h : w.ownsRow 0 e 1 (.slice (some ⟨g, 0, none⟩) n c) n xs) : RowIn w g e xs := by
  rcases h.2 with ⟨hv, _⟩ | ⟨g', cap, cur, hv, _, hh, hnc, _, _, ht⟩
  · injection hv with hv; cases hv
  · injection hv with h1 _ h3
    injection h1 with h1
    injection h1 with h1 _ _
    subst h1 h3
    refine ⟨cur, cur.toList.drop xs.length, hh, ?_⟩
    have hl := h.1
    rw [Nat.mul_one] at hl
    conv => lhs; rw [← List.take_append_drop xs.length cur.toList]
    rw [hl] at *
    rw [← ht]
    simp
theorem owns_step {w w' : World} {F : Nat → Prop} {base : Nat} {e : TypeId} {size : Nat} {v : Value} {n : Nat} {xs : List Value} (h : w.ownsRow base e size v n xs) (hs : Step F w w') (hF : ∀ k, v.ownBlock = some k → ¬ F k) : w'.ownsRow base e size v n xs :=
  owns_keep h (fun k hk => hs.block k (h.lt k hk).2 (hF k hk))
theorem NumAt.step {w w' : World} {p g c : Nat} {ns : List Int} (h : NumAt w p g c ns) (hs : Step noF w w') : NumAt w' p g c ns := ⟨hs.after h.1, owns_step h.2.1 hs (fun _ _ x => x), h.2.2.1.step hs (fun x => x), h.2.2.2⟩
theorem NumAt.lt {w : World} {p g c : Nat} {ns : List Int} (h : NumAt w p g c ns) : g < w.heap.size := h.2.2.1.lt

set_option maxHeartbeats 400000 in
theorem nless_any (w : World) (g c : Nat) (ns : List Int) (h : RowIn w g 3 (intsOf ns)) (i j : Nat) (hi : i < ns.length) (hj : j < ns.length) :
    Calls Try.prog 79 #[.slice (some ⟨g, 0, none⟩) ns.length c, .int .i64 i, .int .i64 j] w fun e w' => e = .returned (.bool (decide (ns.getD i 0 < ns.getD j 0))) ∧ Step noF w w' := by
  have ci := h.int i hi
  have cj := h.int j hj
  obtain ⟨N, hN⟩ : ∃ N, ns.length = N := ⟨_, rfl⟩
  rw [hN] at hi hj ⊢
  clear h hN
  obtain ⟨x, hx⟩ : ∃ x, ns.getD i 0 = x := ⟨_, rfl⟩
  obtain ⟨y, hy⟩ : ∃ x, ns.getD j 0 = x := ⟨_, rfl⟩
  rw [hx] at ci ⊢
  rw [hy] at cj ⊢
  clear hx hy
  go_enter Try.func79, Try.ntmps79
  go_wp2
  go_quiet (fail)
  go_wp2
  go_ret
  exact ⟨rfl, (Step.refl _ _).drewN _⟩

set_option maxHeartbeats 2000000 in
theorem nswap_raw (W : World) (blk c size : Nat) (x y : Int) (i j : Nat) (hi : i < size) (hj : j < size)
    (ci : W.cell? ⟨blk, i, none⟩ = some (.int .i64 x)) (cj : W.cell? ⟨blk, j, none⟩ = some (.int .i64 y)) (fi : W.frozen? ⟨blk, i, none⟩ = false) (fj : W.frozen? ⟨blk, j, none⟩ = false) :
    Calls Try.prog 80 #[.slice (some ⟨blk, 0, none⟩) size c, .int .i64 i, .int .i64 j] W fun e w' => e = .returned (.tuple #[]) ∧ w' = ((W.setCell ⟨blk, i, none⟩ (.int .i64 y)).setCell ⟨blk, j, none⟩ (.int .i64 x)).drew := by
  obtain ⟨v', hy'⟩ := cell?_setCell_some (w := W) (p := ⟨blk, i, none⟩) (x := .int .i64 y) (q := ⟨blk, j, none⟩) cj
  go_enter Try.func80, Try.ntmps80
  go_wp2
  go_region
  all_goals (try go_wp2)
  all_goals go_end0
  all_goals exact ⟨rfl, rfl⟩
theorem nswap_any (w : World) (p g c : Nat) (ns : List Int) (h : NumAt w p g c ns) (i j : Nat) (hi : i < ns.length) (hj : j < ns.length) :
    Calls Try.prog 80 #[.slice (some ⟨g, 0, none⟩) ns.length c, .int .i64 i, .int .i64 j] w fun e w' => e = .returned (.tuple #[]) ∧ Step (oneF g) w w' ∧ NumAt w' p g c (swapL ns i j) := by
  obtain ⟨h1, h2, h3, h4⟩ := h
  refine (nswap_raw w g c ns.length _ _ i j hi hj (h3.int i hi) (h3.int j hj) (h3.f i) (h3.f j)).mono ?_
  rintro e w' ⟨rfl, rfl⟩
  have hs : Step (oneF g) w (((w.setCell ⟨g, i, none⟩ (.int .i64 (ns.getD j 0))).setCell ⟨g, j, none⟩ (.int .i64 (ns.getD i 0))).drew) := (((Step.refl (oneF g) w).setCell (p := ⟨g, i, none⟩) (.inl rfl) _).setCell (p := ⟨g, j, none⟩) (.inl rfl) _).drew
  refine ⟨rfl, hs, ?_, ?_, ?_, h4⟩
  · rw [swapL_len]
    exact (hs.cell (p := ⟨p, 5, none⟩) h4 (World.block_lt_of_cell? _ _ h1)).trans h1
  · have := owns_put (owns_put h2 i (by rw [intsOf_length]; exact hi) (.int .i64 (ns.getD j 0))) j (by rw [List.length_set, intsOf_length]; exact hj) (.int .i64 (ns.getD i 0))
    rw [intsOf_set, intsOf_set] at this
    rw [swapL_len]
    exact this
  · have := (h3.set i (by rw [intsOf_length]; exact hi) (.int .i64 (ns.getD j 0))).set j (by rw [List.length_set, intsOf_length]; exact hj) (.int .i64 (ns.getD i 0))
    rw [intsOf_set, intsOf_set] at this
    exact this


theorem mrow_len : (Try.prog.info? 69).bind (fun i => (i.methods.find? (fun m => m.name == "Len")).map (fun m => (m.path, m.func))) = some (#[], some (53, false)) := by kernel_rfl
theorem mrow_less : (Try.prog.info? 69).bind (fun i => (i.methods.find? (fun m => m.name == "Less")).map (fun m => (m.path, m.func))) = some (#[], some (79, false)) := by kernel_rfl
theorem mrow_swap : (Try.prog.info? 69).bind (fun i => (i.methods.find? (fun m => m.name == "Swap")).map (fun m => (m.path, m.func))) = some (#[], some (80, false)) := by kernel_rfl
theorem mrow_push : (Try.prog.info? 69).bind (fun i => (i.methods.find? (fun m => m.name == "Push")).map (fun m => (m.path, m.func))) = some (#[], some (82, true)) := by kernel_rfl
theorem mrow_pop : (Try.prog.info? 69).bind (fun i => (i.methods.find? (fun m => m.name == "Pop")).map (fun m => (m.path, m.func))) = some (#[], some (81, true)) := by kernel_rfl
theorem wrap_ok {P : Program} (T : TypeId) (a : Addr) (s u : String) (w : World) : (Builtin.ssaWrapNilChk_ #[T] T #[.pointer (some a), strVal s, strVal u]).run P w = .ok (.pointer (some a)) w := rfl
theorem meth_val {name : String} {f : FuncId} (hrow : (Try.prog.info? 69).bind (fun i => (i.methods.find? (fun m => m.name == name)).map (fun m => (m.path, m.func))) = some (#[], some (f, false))) (fuel : Nat) (w : World) (p : Nat) (v : Value) (h : w.cell? ⟨p, 5, none⟩ = some v) :
    (method (fuel + 1) 69 (.pointer (some ⟨p, 5, none⟩)) name).run Try.prog w = .ok (f, v) w := by
  obtain ⟨i, hi, h2⟩ := Option.bind_eq_some_iff.1 hrow
  obtain ⟨m, hm, h3⟩ := Option.map_eq_some_iff.1 h2
  injection h3 with h4 h5
  have hu := Try.underlying69
  have hu2 := Try.underlying57
  unfold method
  simp [typeInfo, hi, hm, h4, h5, follow, receiverAt, hu, hu2, Place.get, wrap_ok, asAddr, loadVar, h]
theorem meth_ptr {name : String} {f : FuncId} (hrow : (Try.prog.info? 69).bind (fun i => (i.methods.find? (fun m => m.name == name)).map (fun m => (m.path, m.func))) = some (#[], some (f, true))) (fuel : Nat) (w : World) (p : Nat) :
    (method (fuel + 1) 69 (.pointer (some ⟨p, 5, none⟩)) name).run Try.prog w = .ok (f, .pointer (some ⟨p, 5, none⟩)) w := by
  obtain ⟨i, hi, h2⟩ := Option.bind_eq_some_iff.1 hrow
  obtain ⟨m, hm, h3⟩ := Option.map_eq_some_iff.1 h2
  injection h3 with h4 h5
  have hu := Try.underlying69
  unfold method
  simp [typeInfo, hi, hm, h4, h5, follow, receiverAt, hu, Place.get]

set_option maxHeartbeats 400000 in
theorem nlen_any (w : World) (v : Option Addr) (n c : Nat) : Calls Try.prog 53 #[.slice v n c] w fun e w' => e = .returned (.int .i64 n) ∧ w = w' := by
  go_enter Try.func53, Try.ntmps53
  go_wp2
  go_ret
  exact ⟨rfl, rfl⟩

set_option maxHeartbeats 2000000 in
/-- up. -/
theorem up_any (w : World) (p g c : Nat) (ns : List Int) (h : NumAt w p g c ns) (j : Nat) (hj : j < ns.length) (hl : ns.length ≤ 1000000) (hu : UpInv ns j) :
    Calls Try.prog 56 #[.iface 69 (.pointer (some ⟨p, 5, none⟩)), .int .i64 j] w fun e w' => e = .returned (.tuple #[]) ∧ Step (oneF g) w w' ∧ ∃ ms, NumAt w' p g c ms ∧ ms.Perm ns ∧ IsHp ms := by
  have HN := hid h
  have HU := hid hu
  clear h hu
  go_enter Try.func56, Try.ntmps56
  go_wp2_with fail
  go_loopw [1, 4] (fun jv _ wr => ∃ (k : Nat) (ms : List Int), jv = .int .i64 k ∧ k < ns.length ∧ Step (oneF g) w wr ∧ NumAt wr p g c ms ∧ Hid (ms.Perm ns) ∧ Hid (UpInv ms k)) (fun jv _ _ => (intOf jv).toNat)
  case atStart => exact ⟨j, ns, rfl, hj, Step.refl _ _, HN.out, List.Perm.refl _, HU.out⟩
  case round =>
    obtain ⟨k, ms, rfl, hk, hst, hn, hperm, hup⟩ := hrel
    have HL := hid (show ms.length = ns.length from hperm.out.length_eq)
    by_cases k0 : k = 0
    · subst k0
      have HNN := hid hn
      clear hn
      go_wp2_with fail
      go_end0
      exact ⟨rfl, hst, ms, HNN.out, hperm.out, up_stop hup.out (.inl rfl)⟩
    · obtain ⟨i, hi⟩ : ∃ i, (k - 1) / 2 = i := ⟨_, rfl⟩
      have hik : i < k := by omega
      have hkl : k < ms.length := by rw [HL.out]; exact hk
      have hq : ((k : Int) - 1).tdiv 2 = (i : Int) := by rw [Int.tdiv_eq_ediv_of_nonneg (by omega)]; omega
      have hne : ¬ (i : Int) = (k : Int) := by omega
      have hkb : k ≤ 1000000 := by omega
      have hml := meth_val mrow_less 209 wr p _ hn.1
      have hms := meth_val mrow_swap 209 wr p _ hn.1
      have cl := nless_any wr g c ms hn.2.2.1 k i (by omega) (by omega)
      have HNN := hid hn
      have HI := hid hi
      clear hn hi
      cases hb : decide (ms.getD k 0 < ms.getD i 0)
      · rw [hb] at cl
        have HB := hid hb
        clear hb
        go_wp2_with fail
        refine cl.mono ?_
        rintro e w1 ⟨rfl, s1⟩
        go_wp2_with fail
        go_end0
        refine ⟨rfl, hst.then s1 (fun _ x => x.elim), ms, HNN.out.step s1, hperm.out, up_stop hup.out (.inr ?_)⟩
        rw [HI.out]; exact of_decide_eq_false HB.out
      · rw [hb] at cl
        have HB := hid hb
        clear hb
        go_wp2_with fail
        refine cl.mono ?_
        rintro e w1 ⟨rfl, s1⟩
        have hms := meth_val mrow_swap 209 w1 p _ (HNN.out.step s1).1
        have cs := nswap_any w1 p g c ms (HNN.out.step s1) i k (by omega) (by omega)
        go_wp2_with fail
        refine cs.mono ?_
        rintro e w2 ⟨rfl, s2, h2⟩
        go_wp2_with fail
        go_roundw
        case rel =>
          refine ⟨i, swapL ms i k, rfl, by omega, (hst.then s1 (fun _ x => x.elim)).trans s2, h2, ?_, ?_⟩
          · exact (swapL_perm (by omega) (by omega)).trans hperm.out
          · have := up_step hup.out hkl (by omega) (by rw [HI.out]; exact of_decide_eq_true HB.out)
            rw [HI.out] at this
            exact this
        case measure => simp [intOf]; omega
end Go.Proofs.Ytmijbplhmjledaa
