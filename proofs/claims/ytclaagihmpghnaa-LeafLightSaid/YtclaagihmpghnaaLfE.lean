/-
  leaf.Of, and the search for a key: Find.
-/
import Derived.Test.YtclaagihmpghnaaLfD
namespace Go.Proofs.Ytclaagihmpghnaa
open Go.RowKit Go.Sort
set_option linter.unusedVariables false
set_option linter.unusedSimpArgs false

/-- Cells of a row, in every world behind. -/
theorem grown_two {w : World} {g off j : Nat} {x y : Value} (h1 : w.cell? ⟨g, off + j * 2, none⟩ = some x) (h2 : w.cell? ⟨g, off + j * 2 + 1, none⟩ = some y) : (∀ n os, (grow (w.drewN n) os).cell? ⟨g, off + j * 2, none⟩ = some x) ∧ (∀ n os, (grow (w.drewN n) os).cell? ⟨g, off + j * 2 + 1, none⟩ = some y) :=
  ⟨fun n os => cell_grown (World.block_lt_of_cell? w _ h1) h1 n os, fun n os => cell_grown (World.block_lt_of_cell? w _ h2) h2 n os⟩

/-- Whether two neighbours have one key. -/
def TwinPost (xs : List Rg) (e : Ending) : Prop := (e = .returned (.bool true) ∧ ∃ i, ∃ h : i + 1 < xs.length, xs[i].lo = xs[i + 1].lo) ∨ (e = .returned (.bool false) ∧ ∀ i (h : i + 1 < xs.length), xs[i].lo ≠ xs[i + 1].lo)
set_option maxHeartbeats 1000000 in
theorem hasTwins_any (xs : List Rg) (hl : xs.length ≤ 1000000) (a : Option Addr) (c : Nat) (w : World) (h : RgsAt w a xs) :
    Calls Try.prog 40 #[.slice a xs.length c] w fun e w' => TwinPost xs e ∧ Step noF w w' := by
  have mixed : Try.prog.follows .mixedOrders = true := by kernel_rfl
  have HR := hid h
  clear h
  go_enter Try.func40, Try.ntmps40
  go_wp2_with fail
  go_loopg [3] xs.length (fun kx s3 wr => ∃ (j : Nat), s3 = .int .i64 j ∧ 1 ≤ j ∧ xs.length - j ≤ kx ∧ Hid (∀ i (h : i + 1 < xs.length), i + 1 < j → xs[i].lo ≠ xs[i + 1].lo) ∧ Hid (Step noF w wr))
  case atStart => exact ⟨1, rfl, by omega, by omega, fun i h h2 => absurd h2 (by omega), Step.refl _ _⟩
  case round =>
    obtain ⟨j, rfl, hj, hkx, HI, ST⟩ := hrel
    by_cases hjl : j < xs.length
    · obtain ⟨q, rfl⟩ : ∃ q, j = q + 1 := ⟨j - 1, by omega⟩
      obtain ⟨g, off, rfl, c0, c1⟩ := (HR.out.step ST.out).at (q + 1) hjl
      obtain ⟨g', off', e', d0, d1⟩ := (HR.out.step ST.out).at q (by omega)
      obtain ⟨rfl, rfl⟩ : g = g' ∧ off = off' := by
        injection e' with e'
        injection e' with e1 e2
        exact ⟨e1, e2⟩
      obtain ⟨k0, k1⟩ := grown_two c0 c1
      obtain ⟨m0, m1⟩ := grown_two d0 d1
      have hcg := fun n os => cmpIt_any xs[q] xs[q + 1] (grow (wr.drewN n) os)
      have HZ := hid (cmpL_zero xs[q].lo xs[q + 1].lo)
      obtain ⟨r, hr⟩ : ∃ r, cmpL xs[q].lo xs[q + 1].lo = r := ⟨_, rfl⟩
      obtain ⟨⟨x0, x1⟩, hx⟩ : ∃ m, xs[q] = m := ⟨_, rfl⟩
      obtain ⟨⟨y0, y1⟩, hy⟩ : ∃ m, xs[q + 1] = m := ⟨_, rfl⟩
      have hne : Hid (r ≠ 0 → xs[q].lo ≠ xs[q + 1].lo) := fun h e => h (by rw [← hr]; exact HZ.out.2 e)
      have heq : Hid (r = 0 → xs[q].lo = xs[q + 1].lo) := fun h => HZ.out.1 (by rw [hr]; exact h)
      rw [hr] at hcg
      rw [hx] at hcg m0 m1
      rw [hy] at hcg k0 k1
      clear HZ hr hx hy c0 c1 d0 d1 e'
      have ez : (q : Int) + 1 - 1 = (q : Int) := by omega
      have b0 : (q : Int) < (xs.length : Int) := by omega
      have b1 : (q : Int) + 1 < (xs.length : Int) := by omega
      have p1 : (0 : Int) ≤ (q : Int) + 1 := by omega
      have e1 : ((q : Int) + 1).toNat = q + 1 := by omega
      have rq : IntKind.i64.wrap (q : Int) = (q : Int) := by rw [IntKind.wrap_i64]; omega
      by_cases h0 : r = 0
      · subst h0
        go_wp2_with fail
        go_quiet_grown (first | (go_at_call 39; refine Calls.grown_of (hcg _ _)) | (refine Calls.grown_of (hcg _ _)))
        go_wp2
        go_ret
        exact ⟨.inl ⟨rfl, q, hjl, by first | exact heq.out rfl | exact heq.out trivial | exact heq.out⟩, ST.out.trans (step_grow _ _ _)⟩
      · have h1 : (r == 0) = false := by rw [beq_eq_false_iff_ne]; exact h0
        go_wp2_with fail
        go_quiet_grown (first | (go_at_call 39; refine Calls.grown_of (hcg _ _)) | (refine Calls.grown_of (hcg _ _)))
        go_wp2
        go_roundg (xs.length - (q + 2))
        case measure => omega
        case rel =>
          refine ⟨q + 2, by simp; omega, by omega, Nat.le_refl _, fun i h hi => ?_, ST.out.trans (step_grow _ _ _)⟩
          by_cases e : i = q
          · subst e
            exact hne.out h0
          · exact HI.out i h (by omega)
    · have hjz : ¬ (j : Int) < (xs.length : Int) := by omega
      go_wp2_with fail
      go_ret
      exact ⟨.inr ⟨rfl, fun i h => HI.out i h (by omega)⟩, ST.out⟩

theorem rising_of_up (xs : List Rg) (hu : Up Rg.lo xs) (hn : ∀ i (h : i + 1 < xs.length), xs[i].lo ≠ xs[i + 1].lo) : Rising xs := by
  unfold Rising
  rw [List.pairwise_iff_getElem]
  have hs : ∀ i (h : i + 1 < xs.length), xs[i].lo < xs[i + 1].lo := fun i h => by
    have := up_at hu (i := i) (j := i + 1) h (by omega)
    exact lt_or' this (fun e => hn i h e.symm)
  intro i j hi hj hij
  have := up_at hu (i := i + 1) (j := j) hj (by omega)
  have := hs i (by omega)
  grind
theorem rising_no_twins (xs : List Rg) (h : (keysL xs).Nodup) (i : Nat) (hi : i + 1 < xs.length) : xs[i].lo ≠ xs[i + 1].lo := by
  unfold keysL at h
  have := (List.pairwise_iff_getElem.1 h) i (i + 1) (by simp; omega) (by simp; omega) (by omega)
  simpa using this
theorem keys_perm {xs ys : List Rg} (h : ys.Perm xs) : (keysL ys).Nodup ↔ (keysL xs).Nodup := (h.map Rg.lo).nodup_iff
theorem leafAt_new {w : World} {v : Value} {xs : List Rg} {base : Nat} (h : w.ownsRow base 46 2 v xs.length (rgs xs)) : LeafAt (w.alloc (.cells #[v] 74)) w.heap.size xs := by
  obtain ⟨a, c, rfl, h1, h2, h3⟩ := owns_rgs h
  exact ⟨a, c, block_alloc_new w _, h1, h2.step ((Step.refl noF _).alloc _), h3.step ((Step.refl _ _).alloc _)⟩

set_option maxHeartbeats 1000000 in
theorem leafOf_any (xs : List Rg) (hl : xs.length ≤ 1000000) (a : Option Addr) (c : Nat) (w : World) (h : RgsAt w a xs) (hc : a = none → c = 0) :
    Calls Try.prog 11 #[.slice a xs.length c] w fun e w' => Step noF w w' ∧ ((ofE xs ≠ 0 ∧ e = .returned (.tuple #[.pointer none, .int .i64 (ofE xs)])) ∨ (ofE xs = 0 ∧ ∃ p, e = .returned (.tuple #[.pointer (some ⟨p, 0, none⟩), .int .i64 0]) ∧ w.heap.size ≤ p ∧ LeafAt w' p (sortL xs))) := by
  have c1 := containsIt_any xs hl a c w h
  have HR := hid h
  have HC := hid hc
  clear h hc
  cases hok : xs.all itOk
  · rw [hok] at c1
    have e1 : ofE xs = 1 := by unfold ofE; rw [hok]; rfl
    rw [e1]
    clear hok e1
    go_enter Try.func11, Try.ntmps11
    go_wp2_with fail
    refine c1.mono ?_
    rintro e w2 ⟨rfl, s2⟩
    have S2 := hid s2
    clear s2
    go_wp2_with fail
    go_ret2
    exact ⟨S2.out, .inl ⟨by decide, rfl⟩⟩
  · rw [hok] at c1
    have HE : Hid (ofE xs = if (keysL xs).Nodup then 0 else 11) := by show _ = _; unfold ofE; rw [hok]; rfl
    clear hok
    go_enter Try.func11, Try.ntmps11
    go_wp2_with fail
    refine c1.mono ?_
    rintro e w2 ⟨rfl, s2⟩
    have S2 := hid s2
    clear s2
    go_wp2_with fail
    refine (cloneIt_any xs hl a c w2 (HR.out.step S2.out) HC.out).mono ?_
    rintro e w3 ⟨v, rfl, o3, s3⟩
    have O3 := hid o3
    have S3 := hid s3
    clear o3 s3
    obtain ⟨va, vc, rfl⟩ := owns_form O3.out
    go_wp2_with fail
    refine (sortIt_any xs hl _ _ w3 O3.out).mono ?_
    rintro e w4 ⟨rfl, ys, hp, hu, o4, s4⟩
    have O4 := hid o4
    have HP := hid hp
    have HU := hid hu
    have S4 : Hid (Step noF w w4) := S2.out.trans (S3.out.then s4 (fun i hi => .inr ((O3.out.lt i hi).1)))
    clear o4 s4 hp hu
    have hyl : Hid (ys.length = xs.length) := HP.out.length_eq
    obtain ⟨ya, yc, hyv, hyc, hyn, hyr⟩ := owns_rgs (show w4.ownsRow _ 46 2 (.slice va xs.length vc) ys.length (rgs ys) by rw [hyl.out]; exact O4.out)
    have c5 := hasTwins_any ys (by rw [hyl.out]; exact hl) ya yc w4 hyr
    rw [← hyv] at c5
    clear hyv hyc hyn hyr
    go_wp2_with fail
    refine c5.mono ?_
    rintro e w5 ⟨hb, s5⟩
    have S5 := hid (S4.out.trans s5)
    have S45 := hid s5
    clear s5
    rcases hb with ⟨rfl, hb⟩ | ⟨rfl, hb⟩
    case inr =>
      have HB2 := hid hb
      clear hb
      go_wp2_with fail
      go_ret2
      have hR : Rising ys := rising_of_up ys HU.out HB2.out
      have hN : (keysL xs).Nodup := (keys_perm HP.out).1 (rising_nodup ys hR)
      refine ⟨S5.out.alloc _, .inr ⟨by rw [HE.out, if_pos hN], w5.heap.size, rfl, S5.out.size, ?_⟩⟩
      have hys : ys = sortL xs := rising_unique ys (sortL xs) hR (sortL_rising xs hN) (fun x => by rw [sortL_mem, HP.out.mem_iff])
      rw [← hys]
      refine leafAt_new (base := w2.heap.size) ?_
      have := owns_step O4.out S45.out (fun _ _ h => h)
      rw [hyl.out]
      exact this
    case inl =>
      have HB1 := hid hb
      clear hb
      go_wp2_with fail
      go_ret2
      have hN : ¬ (keysL xs).Nodup := fun hn => by
        obtain ⟨i, h1, h2⟩ := HB1.out
        exact rising_no_twins ys ((keys_perm HP.out).2 hn) i h1 h2
      have e11 : ofE xs = 11 := by rw [HE.out, if_neg hN]
      rw [e11]
      exact ⟨S5.out, .inl ⟨by decide, rfl⟩⟩
end Go.Proofs.Ytclaagihmpghnaa
