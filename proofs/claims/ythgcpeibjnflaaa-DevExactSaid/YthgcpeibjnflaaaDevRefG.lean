/-
  What the reference of layer 3 does: Cut of every device, Burnt, Read.
-/
import Derived.Test.YthgcpeibjnflaaaDevRefF
namespace Go.Proofs.Ythgcpeibjnflaaa
open Go.RowKit
set_option linter.unusedVariables false

set_option maxHeartbeats 1000000 in
theorem refCut_any (w : World) (R : Nat → Nat) (o q : Nat) (d : Dv) (h : IsRef w R o q d) (hw : Wf d) (a : Option Addr) (c : Nat) (ks : List Bool) (hkl : ks.length ≤ 1000) (hr : RowAt w (fun k => R k ≠ 0) a (bools ks)) :
    Calls Try.prog 14 #[.pointer (some ⟨q, 0, none⟩), .slice a ks.length c] w fun e w' => e = .returned (.tuple #[]) ∧ Step (oneF q) w w' ∧ IsRef w' R o q (cutD d ks) := by
  cases hon : d.on
  · have H := hid h
    obtain ⟨lv, ka, kn, kc, h1, _⟩ := h
    obtain ⟨c0, c1, c2, c3, c4, c5, c6, c7⟩ := ref_cells h1
    rw [hon] at c2
    clear h1
    go_enter Try.func14, Try.ntmps14
    go_wp2
    refine bodyPost_ret (results_none rfl _ _ _) rfl ?_
    exact ⟨rfl, Step.refl _ _, by simpa [cutD, hon] using H.out⟩
  · exact refCut_on w R o q d h hw hon a c ks hkl hr

set_option maxHeartbeats 2000000 in
theorem burnt_any (w : World) (R : Nat → Nat) (o q : Nat) (d : Dv) (h : IsRef w R o q d) (hw : Wf d) :
    Calls Try.prog 11 #[.pointer (some ⟨q, 0, none⟩)] w fun e w' => e = .returned (.bool (!goB d)) ∧ Step (oneF q) w w' ∧ IsRef w' R o q (goD d) := by
  have H := hid h
  have hcut := fun a c ks => refCut_any w R o q d h hw a c ks
  obtain ⟨lv, ka, kn, kc, h1, h2, h3, h4, h5⟩ := h
  have hq := hid (lt_of_block h1)
  obtain ⟨c0, c1, c2, c3, c4, c5, c6, c7⟩ := ref_cells h1
  cases hon : d.on
  · rw [hon] at c2
    clear h1 hcut
    go_enter Try.func11, Try.ntmps11
    go_wp2
    go_ret
    exact ⟨ret_bool (by simp [goB, hon]), Step.refl _ _, by simpa [goD, hon] using H.out⟩
  · rw [hon] at c2
    cases hf : d.fuse with
    | none =>
      rw [hf] at c3
      have c3' : w.cell? ⟨q, 3, none⟩ = some (.int .i64 (-1)) := c3
      clear h1 hcut c3
      go_enter Try.func11, Try.ntmps11
      go_wp2
      go_ret
      exact ⟨ret_bool (by simp [goB, hon, hf]), Step.refl _ _, by simpa [goD, hon, hf] using H.out⟩
    | some x =>
      obtain ⟨n, ks⟩ := x
      have hfu := hw.fu n ks hf
      obtain ⟨hkn, hkr⟩ := h5 n ks hf
      rw [hf] at c3
      have c3' : w.cell? ⟨q, 3, none⟩ = some (.int .i64 n) := c3
      clear c3
      subst hkn
      cases n with
      | zero =>
        have hc := hcut ka kc ks hfu.2 hkr
        have hoff : (cutD d ks).on = false := by simp [cutD, hon]
        clear hcut h1
        go_enter Try.func11, Try.ntmps11
        go_wp2_with fail
        refine hc.mono ?_
        rintro e w1 ⟨rfl, s1, hd⟩
        have HD := hid hd
        obtain ⟨lv', ka', kn', kc', g1, _⟩ := hd
        obtain ⟨e0, e1, e2, _⟩ := ref_cells g1
        rw [hoff] at e2
        clear g1
        go_wp2_with fail
        go_ret
        exact ⟨ret_bool (by simp [goB, hon, hf]), s1, by simpa [goD, hon, hf] using HD.out⟩
      | succ n =>
        have hn1 := hfu.1
        have hf3 := frozen_of_block h1 3
        have H1 := hid h1
        obtain ⟨m, hm⟩ : ∃ m, n + 1 = m := ⟨_, rfl⟩
        rw [hm] at c3'
        have hm0 : ((m : Int) == 0) = false := by simp; omega
        have hm1 : ¬ m = 0 := by omega
        have hmp : (0 : Int) < (m : Int) := by omega
        have hsub : (m : Int) - 1 = (n : Int) := by omega
        have hm9 : m ≤ 9223372036854775807 := by omega
        have HM := hid hm
        clear hcut h1 hm hn1 hfu
        go_enter Try.func11, Try.ntmps11
        go_wp2
        go_ret
        have hs := (Step.refl (oneF q) w).setOneF 3 (.int .i64 n)
        have hgd : goD d = { d with fuse := some (n, ks) } := by simp [goD, hon, hf]
        rw [hgd]
        refine ⟨ret_bool (by simp [goB, hon, hf]), hs, lv, ka, ks.length, kc, ?_, h2, h3, owns_setCell h4 ⟨q, 3, none⟩ (fun e => by have := h3 q e; omega) _, fun n' ks' he => ?_⟩
        · have := block_setCell H1.out 3 (.int .i64 n)
          simpa [RHead, fuI] using this
        · injection he with he
          injection he with e1 e2
          subst e1 e2
          refine ⟨rfl, rowAt_keep hkr (fun k hk hF => ?_)⟩
          have e0 : R k = 0 := Classical.not_not.1 hF
          exact ⟨hs.block k hk (fun x => by unfold oneF at x; subst x; omega), hF⟩

theorem flat_at (l : List (List UInt8)) (hl : ∀ x ∈ l, x.length = 256) (i : Nat) (hi : i < l.length) : (l.flatten.drop (256 * i)).take 256 = l[i] := by
  induction l generalizing i with
  | nil => simp at hi
  | cons x l ih =>
    have hx := hl x List.mem_cons_self
    cases i with
    | zero => simp [hx]
    | succ i =>
      rw [List.flatten_cons, show 256 * (i + 1) = x.length + 256 * i by omega, List.drop_append]
      rw [show x.drop (x.length + 256 * i) = [] from List.drop_eq_nil_of_le (by omega), List.nil_append, show x.length + 256 * i - x.length = 256 * i by omega]
      exact ih (fun y hy => hl y (List.mem_cons_of_mem _ hy)) i (by simpa using hi)
set_option maxHeartbeats 2000000 in
theorem refRead_any (w : World) (R : Nat → Nat) (o q : Nat) (d : Dv) (h : IsRef w R o q d) (hw : Wf d) (z : Nat) (hz : z < d.safe.length) :
    Calls Try.prog 18 #[.pointer (some ⟨q, 0, none⟩), .int .i64 z] w fun e w' => e = .returned (.string (str ((flushL d.safe d.loose).getD z []))) ∧ w = w' := by
  obtain ⟨lv, ka, kn, kc, h1, h2, h3, h4, h5⟩ := h
  obtain ⟨la, lc, rfl⟩ := owns_form h4
  obtain ⟨c0, c1, c2, c3, c4, c5, c6, c7⟩ := ref_cells h1
  have hll := hw.ll
  have hn2 := hw.n2
  obtain ⟨SF, hSF⟩ : ∃ SF, str d.safe.flatten = SF := ⟨_, rfl⟩
  have hSs : SF.size = 256 * d.safe.length := by rw [← hSF, str_size, flat_len _ hw.s]
  obtain ⟨A, hA⟩ : ∃ A, 256 * z = A := ⟨_, rfl⟩
  obtain ⟨E, hE⟩ : ∃ E, A + 256 = E := ⟨_, rfl⟩
  have hx : Hid (SF.extract A E = str (d.safe.getD z [])) := by
    show _ = _
    rw [← hSF, str_extract, ← hE, List.drop_take, ← hA, show 256 * z + 256 - 256 * z = 256 by omega, getD_mem _ _ hz]
    congr 1
    exact flat_at d.safe hw.s z hz
  have hES : E ≤ SF.size := by omega
  have hES2 : (E : Int) ≤ (SF.size : Int) := by omega
  have hAE : A ≤ E := by omega
  have hE6 : (E : Int) ≤ 1000000 := by omega
  have hA6 : (A : Int) ≤ 1000000 := by omega
  have m1 : (256 : Int) * (z : Int) = (A : Int) := by omega
  have m2 : (A : Int) + 256 = (E : Int) := by omega
  have n1 : IntKind.i64.wrap (A : Int) = (A : Int) := iw rfl (by omega) hA6
  have n2 : IntKind.i64.wrap (E : Int) = (E : Int) := iw rfl (by omega) hE6
  rw [hSF] at c0
  have H4 := hid h4
  clear h1 h4 hSF hSs hA hE hE6 hA6
  go_enter Try.func18, Try.ntmps18
  go_wp2_with fail
  go_loopw [5, 6] (fun sv i wr => ∃ j : Nat, j ≤ d.loose.length ∧ i = .int .i64 j ∧ sv = .string (str ((flushL d.safe (d.loose.take j)).getD z [])) ∧ w = wr) (fun _ i _ => d.loose.length - (intOf i).toNat)
  case atStart => exact ⟨0, Nat.zero_le _, rfl, by rw [hx.out]; rfl, rfl⟩
  case round =>
    clear m1 m2 n1 n2 hES hES2 hAE hx
    obtain ⟨j, hj, rfl, rfl, rfl⟩ := hrel
    by_cases hjn : j < d.loose.length
    · have hji : (j : Int) < (d.loose.length : Int) := by omega
      obtain ⟨g, c', hv, x0, x1⟩ := rloose_cells H4.out j hjn
      injection hv with hv1 _ hv2
      subst hv1 hv2
      have hstep : flushL d.safe (d.loose.take (j + 1)) = (flushL d.safe (d.loose.take j)).set d.loose[j].1 d.loose[j].2 := by rw [take_snoc _ _ hjn, flushL_snoc]
      have hl : z < (flushL d.safe (d.loose.take j)).length := by rw [flushL_length]; exact hz
      obtain ⟨at_, hae⟩ : ∃ at_, d.loose[j].1 = at_ := ⟨_, rfl⟩
      obtain ⟨b, hbe⟩ : ∃ b, d.loose[j].2 = b := ⟨_, rfl⟩
      rw [hae] at x0
      rw [hbe] at x1
      rw [hae, hbe] at hstep
      by_cases hq : at_ = z
      · subst hq
        have hres : Hid ((flushL d.safe (d.loose.take (j + 1))).getD at_ [] = b) := by show _ = _; rw [hstep, getD_mem _ _ (by rw [List.length_set]; exact hl), List.getElem_set_self]
        generalize str ((flushL d.safe (d.loose.take j)).getD at_ []) = X0 at *
        obtain ⟨B, hB⟩ : ∃ B, str b = B := ⟨_, rfl⟩
        rw [hB] at x1
        have HB := hid hB
        clear hB hstep hl
        go_wp2_with fail
        go_roundw
        case rel => exact ⟨j + 1, by omega, int_eq (by omega), by rw [hres.out, HB.out], by first | trivial | rfl⟩
        case measure => simp [intOf]; omega
      · have hqI : ((at_ : Int) == (z : Int)) = false := by simp; omega
        have hqN : ¬ (at_ : Int) = (z : Int) := by omega
        have hres : Hid ((flushL d.safe (d.loose.take (j + 1))).getD z [] = (flushL d.safe (d.loose.take j)).getD z []) := by show _ = _; rw [hstep, List.getD_eq_getElem?_getD, List.getElem?_set_ne hq, ← List.getD_eq_getElem?_getD]
        obtain ⟨X0, hX0⟩ : ∃ X0, str ((flushL d.safe (d.loose.take j)).getD z []) = X0 := ⟨_, rfl⟩
        rw [hX0]
        have HX0 := hid hX0
        clear hX0 hstep hl hq
        go_wp2_with fail
        go_roundw
        case rel => exact ⟨j + 1, by omega, int_eq (by omega), by rw [hres.out, HX0.out], by first | trivial | rfl⟩
        case measure => simp [intOf]; omega
    · obtain rfl : j = d.loose.length := by omega
      rw [List.take_of_length_le (Nat.le_refl _)]
      obtain ⟨X0, hX0⟩ : ∃ X0, str ((flushL d.safe d.loose).getD z []) = X0 := ⟨_, rfl⟩
      rw [hX0]
      have HX0 := hid hX0
      clear hX0
      go_wp2_with fail
      go_ret
      exact ⟨ret_str HX0.out.symm, rfl⟩
end Go.Proofs.Ythgcpeibjnflaaa
