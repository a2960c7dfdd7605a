/-
  The reference of layer 9: Weight, Same.
-/
import Derived.Test.YtnalillebemglaaGreatLfRow
import Derived.BigQuiet
namespace Go.Proofs.YtnalillebemglaaGreat
open Go.RowKit Go.Sort
set_option linter.unusedVariables false
set_option linter.unusedSimpArgs false
set_option maxRecDepth 20000

theorem refWt_take (xs : List Rg) (j : Nat) (hj : j < xs.length) : wtL (xs.take (j + 1)) = wtL (xs.take j) + itW xs[j] := by
  rw [List.take_succ_eq_append_getElem hj, wtL_append, wtL_cons]
  simp [wtL]
theorem refWt_le (xs : List Rg) (h : ∀ x ∈ xs, x.lo.length ≤ 1000000 ∧ x.hi.length ≤ 1000000) : wtL xs ≤ xs.length * 2000002 := by
  induction xs with
  | nil => simp [wtL]
  | cons x xs ih =>
    rw [wtL_cons, List.length_cons]
    have := ih (fun y hy => h y (by simp [hy]))
    have := h x (by simp)
    unfold itW
    omega

theorem refSame_of (xs ys : List Rg) : decide (xs.map (fun x => (x.lo, x.hi)) = ys.map (fun x => (x.lo, x.hi))) = true ↔ xs = ys := by
  rw [decide_eq_true_eq]
  constructor
  · intro h
    refine List.map_inj_right (fun a b hab => ?_) |>.1 h
    exact It.ext' (by simpa using congrArg Prod.fst hab) (by simpa using congrArg Prod.snd hab)
  · rintro rfl; rfl
/-- Two rows of items are the same. -/
def eqB (xs ys : List Rg) : Bool := decide (xs.map (fun x => (x.lo, x.hi)) = ys.map (fun x => (x.lo, x.hi)))
theorem eqB_iff (xs ys : List Rg) : eqB xs ys = true ↔ xs = ys := refSame_of xs ys
theorem eqB_not {xs ys : List Rg} (h : xs ≠ ys) : eqB xs ys = false := by
  cases e : eqB xs ys
  · rfl
  · exact absurd ((eqB_iff _ _).1 e) h
set_option maxHeartbeats 2000000 in
theorem refSame_any (xs ys : List Rg) (hl1 : xs.length ≤ 1000000) (hl2 : ys.length ≤ 1000000) (a1 a2 : Option Addr) (c1 c2 : Nat) (w : World) (h1 : RgsAt w a1 xs) (h2 : RgsAt w a2 ys) :
    Calls Tryz.prog 18 #[.slice a1 xs.length c1, .slice a2 ys.length c2] w fun e w' => e = .returned (.bool (eqB xs ys)) ∧ Step noF w w' := by
  have hE := same_str
  have H1 := hid h1
  have H2 := hid h2
  clear h1 h2
  obtain ⟨D, hD⟩ : ∃ D, eqB xs ys = D := ⟨_, rfl⟩
  rw [hD]
  have HD := hid hD
  clear hD
  by_cases hlen : xs.length = ys.length
  · have HL := hid hlen
    rw [← hlen]
    clear hlen
    go_enter Tryz.func18, Tryz.ntmps18
    go_wp2_with fail
    go_loopw [5] (fun i wr => ∃ (j : Nat), j ≤ xs.length ∧ i = .int .i64 j ∧ Hid (xs.take j = ys.take j) ∧ Step noF w wr) (fun i _ => xs.length - (intOf i).toNat)
    case atStart => exact ⟨0, Nat.zero_le _, rfl, (by show _ = _; rfl), Step.refl _ _⟩
    case round =>
      obtain ⟨j, hj, rfl, HT, st⟩ := hrel
      have ST := hid st
      clear st
      by_cases hjl : j < xs.length
      · have hjy : j < ys.length := by have := HL.out; omega
        obtain ⟨g, off, rfl, p0, p1⟩ := (H1.out.step ST.out).at j hjl
        obtain ⟨g2, off2, rfl, r0, r1⟩ := (H2.out.step ST.out).at j hjy
        have HN : Hid (xs.take (j + 1) = ys.take (j + 1) ↔ xs[j] = ys[j]) := by
          show _ ↔ _
          rw [List.take_succ_eq_append_getElem hjl, List.take_succ_eq_append_getElem hjy, HT.out, List.append_cancel_left_eq, List.cons.injEq]
          simp only [and_true]
        have HNE : Hid (xs[j] ≠ ys[j] → xs ≠ ys) := fun h e => h (by simp [e])
        obtain ⟨⟨x0, x1⟩, hx⟩ : ∃ m, xs[j] = m := ⟨_, rfl⟩
        obtain ⟨⟨y0, y1⟩, hy⟩ : ∃ m, ys[j] = m := ⟨_, rfl⟩
        rw [hx] at p0 p1 HN HNE
        rw [hy] at r0 r1 HN HNE
        clear hx hy
        by_cases e0 : x0 = y0
        · by_cases e1 : x1 = y1
          · subst e0
            subst e1
            go_wp2_with fail
            go_quiet (fail)
            go_wp2_with fail
            go_roundw
            case rel => exact ⟨j + 1, by omega, int_eq (by omega), (by show _ = _; first | exact HN.out.2 rfl | exact HN.out.2 trivial), ST.out.drewN _⟩
            case measure => simp [intOf]; omega
          · subst e0
            go_wp2_with fail
            go_quiet (fail)
            go_wp2_with fail
            go_ret
            exact ⟨ret_bool (by rw [← HD.out, eqB_not (HNE.out (fun e => e1 (by injection e)))]), ST.out.drewN _⟩
        · go_wp2_with fail
          go_quiet (fail)
          go_wp2_with fail
          go_ret
          exact ⟨ret_bool (by rw [← HD.out, eqB_not (HNE.out (fun e => e0 (by injection e)))]), ST.out.drewN _⟩
      · obtain rfl : j = xs.length := by omega
        go_wp2_with fail
        go_ret
        refine ⟨ret_bool ?_, ST.out⟩
        have := HT.out
        rw [List.take_of_length_le (Nat.le_refl _), HL.out, List.take_of_length_le (Nat.le_refl _)] at this
        rw [← HD.out, (eqB_iff _ _).2 this]
  · have hz : ¬ (xs.length : Int) = (ys.length : Int) := by omega
    have hz2 : ((xs.length : Int) == (ys.length : Int)) = false := by rw [beq_eq_false_iff_ne]; exact hz
    have HNE : Hid (D = false) := by show _ = _; rw [← HD.out]; exact eqB_not (fun e => hlen (by rw [e]))
    go_enter Tryz.func18, Tryz.ntmps18
    go_wp2_with fail
    go_ret
    exact ⟨ret_bool (by rw [HNE.out]), Step.refl _ _⟩
end Go.Proofs.YtnalillebemglaaGreat
