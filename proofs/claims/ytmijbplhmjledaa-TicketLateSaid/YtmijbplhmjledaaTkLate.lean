/-
  The walk of TicketLate.
-/
import Derived.Test.YtmijbplhmjledaaTkCalls
namespace Go.Proofs.Ytmijbplhmjledaa
open Go.RowKit
set_option linter.unusedVariables false
set_option linter.unusedSimpArgs false

set_option maxHeartbeats 8000000 in
set_option maxRecDepth 100000 in
theorem late_in (n : Int) (zs : List Int) (hz1 : zs.length ≤ 100) (a : Option Addr) (c : Nat) (w : World) (hz : RowAt w noF a (intsOf zs)) :
    Calls Try.prog 6 #[.int .i64 n, .slice a zs.length c] w fun e w' => e = .returned (.bool true) ∧ Step noF w w' := by
  have k1 : ¬ (100 : Int) < (zs.length : Int) := by omega
  obtain ⟨k0, hk0, hk1⟩ := mod_at n 100 (by omega) (by omega)
  replace hk0 : wrap64 ((IntKind.u64.wrap n).tmod 100) = (k0 : Int) := hk0
  obtain ⟨K, hK⟩ : ∃ K, 2 + k0 = K := ⟨_, rfl⟩
  have hKK : (2 : Int) + (k0 : Int) = (K : Int) := by omega
  have hK5 : 2 ≤ K ∧ K ≤ 101 := by omega
  obtain ⟨H, hH⟩ : ∃ H, K / 2 = H := ⟨_, rfl⟩
  have hq : (K : Int).tdiv 2 = (H : Int) := by rw [Int.tdiv_eq_ediv_of_nonneg (by omega)]; omega
  have hHH : 1 ≤ H ∧ H ≤ K ∧ H ≤ 100 := by omega
  have HHB := hid hHH
  have HZ := hid hz
  have hwr := wrap_nat H (by omega)
  have hne0 : ¬ (H : Int) = 0 := by omega
  have hmkk := mk_bools K (by omega)
  clear hz hK hH
  go_enter Try.func6, Try.ntmps6
  go_wp2_with fail
  refine (awake_any _).mono ?_
  rintro e w1 ⟨rfl, s1⟩
  go_wp2_with fail
  refine (pnew_any w1 _ 0 0 K 0 (by first | rfl | exact hKK) rfl (by omega) (by omega) (by omega) (by omega) (by omega)).mono ?_
  rintro e w2 ⟨p, rfl, hp, h2⟩
  have P2 := (Pl.new h2).after s1
  clear h2 hp
  have P2a := P2.read ((Step.refl noF w2).alloc (.cells #[.int .i64 0, .int .i64 H] 53))
  go_wp2_with fail
  refine (use_call _ p _ _ P2a.2.1 _ _ 1 [(0, (H : Int))] rfl (by exact extAt_one w2 _ _ 53 _ rfl) (fun _ b off e hF => by injection e with e; injection e with e _ _; have := P2.2.1.lt b hF; omega) (fun x hx => by simp at hx; rw [hx]; simp only; omega) (by simp) 0 _ (late_use hHH.1 hHH.2.1 _).1 (late_use hHH.1 hHH.2.1 _).2).mono ?_
  rintro e w3 ⟨rfl, h3⟩
  have P3 := P2a.next h3
  have hmk := hmkk w3
  have P4 := P3.read ((Step.refl noF w3).alloc (.cells (madeCells #[.bool false] K) 4))
  have R4 : Hid (PlR w (w3.alloc (.cells (madeCells #[.bool false] K) 4)) p w3.heap.size ⟨startL K H, List.replicate K false, 0, []⟩ (List.replicate K false)) := ⟨_, P4, fun e => by have := P3.2.1.lt _ e; omega, P3.1.size, made_bools w3 K⟩
  obtain ⟨g, hg⟩ : ∃ g, w3.heap.size = g := ⟨_, rfl⟩
  rw [hg] at R4 hmk
  clear P2 P2a h3 P3 P4 hg hmkk hwr
  have hwr := wrap_nat H (by omega)
  go_wp2_with fail
  go_loopw [9, 10] (fun cv i wr => ∃ (j : Nat) (d : List Bool) (C : Nat), j ≤ zs.length ∧ i = .int .i64 j ∧ cv = .int .i64 C ∧ C ≤ 1000 ∧ Hid (freeL d = C ∧ d.length = K ∧ ∀ x, d.getD x false = true → x < H) ∧ PlR w wr p g ⟨startL K H, d, 0, []⟩ d) (fun _ i _ => zs.length - (intOf i).toNat)
  case atStart => exact ⟨0, List.replicate K false, 0, Nat.zero_le _, rfl, rfl, by omega, ⟨by rw [freeL_eq, List.count_replicate]; simp, List.length_replicate, fun x hx => by rw [rep_at] at hx; cases hx⟩, R4.out⟩
  case round =>
    obtain ⟨j, d, C, hj, rfl, rfl, hC, hd, F, hP, hgF, hgW, hrow⟩ := hrel
    by_cases hjn : j < zs.length
    · have hji : (j : Int) < (zs.length : Int) := by omega
      obtain ⟨b, off, rfl, y0⟩ := row_int (HZ.out.step hP.1) j hjn
      obtain ⟨z, hzz⟩ : ∃ z, zs[j] = z := ⟨_, rfl⟩
      rw [hzz] at y0
      obtain ⟨x, hx, hxH⟩ := mod_at z H hHH.1 (by omega)
      have HD := hid hd.out
      have hxb : x ≤ 1000 := by omega
      have hxK : (x : Int) < (K : Int) := by omega
      have hxK2 : x < K := by omega
      have hcell := hrow.bool x (by have := HD.out.2.1; omega)
      have hu := hid (late_shadow (k := K) (d := d) hHH.2.1 hxH HD.out.2.1).1
      have HT := hid (late_shadow (k := K) (d := d) hHH.2.1 hxH HD.out.2.1).2
      have sA : Step noF wr (wr.alloc (.cells #[.int .i64 x] 3)) := (Step.refl _ _).alloc _
      have HPA := hid (hP.2.1.step sA)
      have HPA2 := hid (hP.read sA)
      have HRA := hid (hrow.step sA (fun x => x))
      have hcb : Hid (C ≤ 900) := by
        show _ ≤ _
        have h1 := HD.out.1
        have h2 := free_bound d
        have h3 := HD.out.2.1
        omega
      cases hb : d.getD x false
      all_goals have HBB := hid hb
      · rw [hb] at hu hcell
        have HPP := hid hP
        have HRW := hid hrow
        clear hb hP hrow hd
        go_wp2_with fail
        refine (shadow_call _ p F _ (by exact HPA.out) _ _ 1 [(x : Int)] rfl (by exact row_new HPP.out.2.1.lt (x : Int)) (by simp) 0 _ (by exact hu.out) HT.out).mono ?_
        rintro e w4 ⟨rfl, h4⟩
        have R4 := hid (PlR.next HPA2.out hgF hgW HRA.out h4)
        have hc4 : w4.cell? ⟨g, x, none⟩ = some (.bool false) := by
          obtain ⟨_, _, _, _, r4⟩ := R4.out
          have := r4.bool x (by have := HD.out.2.1; omega)
          rw [HBB.out] at this; exact this
        have hf4 : w4.frozen? ⟨g, x, none⟩ = false := by
          obtain ⟨_, _, _, _, r4⟩ := R4.out
          exact r4.f x
        clear h4
        go_wp2_with fail
        go_roundw
        case rel =>
          refine ⟨j + 1, d.set x true, C + 1, by omega, int_eq (by omega), int_eq (by omega), by have := hcb.out; omega, ?_, R4.out.set x (by have := HD.out.2.1; omega) true⟩
          refine ⟨?_, by rw [List.length_set]; exact HD.out.2.1, fun y hy => ?_⟩
          · rw [free_set_true (by have := HD.out.2.1; omega) HBB.out, HD.out.1]; omega
          · rw [getD_set _ _ _ _ _ (by have := HD.out.2.1; omega)] at hy
            by_cases e : y = x
            · rw [e]; exact hxH
            · rw [if_neg e] at hy; exact HD.out.2.2 y hy
        case measure => simp [intOf]; omega
      · rw [hb] at hu hcell
        have HPP := hid hP
        have HRW := hid hrow
        clear hb hP hrow hd
        go_wp2_with fail
        refine (shadow_call _ p F _ (by exact HPA.out) _ _ 1 [(x : Int)] rfl (by exact row_new HPP.out.2.1.lt (x : Int)) (by simp) 11 _ (by exact hu.out) HT.out).mono ?_
        rintro e w4 ⟨rfl, h4⟩
        have R4 := hid (PlR.next HPA2.out hgF hgW HRA.out h4)
        have hc4 : w4.cell? ⟨g, x, none⟩ = some (.bool true) := by
          obtain ⟨_, _, _, _, r4⟩ := R4.out
          have := r4.bool x (by have := HD.out.2.1; omega)
          rw [HBB.out] at this; exact this
        have hf4 : w4.frozen? ⟨g, x, none⟩ = false := by
          obtain ⟨_, _, _, _, r4⟩ := R4.out
          exact r4.f x
        clear h4
        go_wp2_with fail
        go_roundw
        case rel =>
          refine ⟨j + 1, d.set x true, C, by omega, int_eq (by omega), rfl, hC, ?_, R4.out.set x (by have := HD.out.2.1; omega) true⟩
          refine ⟨?_, by rw [List.length_set]; exact HD.out.2.1, fun y hy => ?_⟩
          · have e : d.set x true = d := ext_getD (by rw [List.length_set]) (fun i hi => by rw [getD_set _ _ _ _ _ (by have := HD.out.2.1; omega)]; split; rename_i e; rw [e, HBB.out]; rfl); rw [e]; exact HD.out.1
          · rw [getD_set _ _ _ _ _ (by have := HD.out.2.1; omega)] at hy
            by_cases e : y = x
            · rw [e]; exact hxH
            · rw [if_neg e] at hy; exact HD.out.2.2 y hy
        case measure => simp [intOf]; omega
    · obtain rfl : j = zs.length := by omega
      have HD := hid hd.out
      have hhold := hid (one_hold (l := startL K H) (d := d) (n := (K : Int) - H) (by omega) (by rw [startL_free hHH.2.1]; omega))
      have kKH : (H : Int) ≤ (K : Int) := by omega
      go_wp2_with fail
      refine (hold_call _ p F _ (by exact hP.2.1) _ (by simp) 1 0 _ hhold.out.2.1 hhold.out.1 hhold.out.2.2).mono ?_
      rintro e w4 ⟨rfl, h4⟩
      have R4 := PlR.next hP hgF hgW hrow h4
      clear h4 hP hrow hgF
      obtain ⟨F4, P4, g4, _, r4⟩ := R4
      go_wp2_with fail
      refine (pleft_call w4 p F4 _ P4.2.1 0 (by rw [one_left _ _ _ (by omega), startL_free hHH.2.1]; omega)).mono ?_
      rintro e w5 ⟨rfl, s5⟩
      have R5 : Hid (PlR w w5 p g ⟨startL K H, d, 0, [(K : Int) - H]⟩ d) := ⟨F4, P4.read s5, g4, hgW, r4.step s5 (fun x => x)⟩
      clear P4 g4 r4
      go_wp2_with fail
      go_loopw [15] (fun i wr => ∃ (j : Nat) (l : List Bool), H ≤ j ∧ j ≤ K ∧ i = .int .i64 j ∧ Hid (l.length = K ∧ freeL l = (K : Int) - j ∧ ∀ x, l.getD x false = true → H ≤ x) ∧ PlR w wr p g ⟨l, d, 0, [(K : Int) - j]⟩ d) (fun i _ => K - (intOf i).toNat)
      case atStart => exact ⟨H, startL K H, Nat.le_refl _, hHH.2.1, rfl, ⟨startL_len hHH.2.1, startL_free hHH.2.1, fun x hx => by rw [startL_at hHH.2.1] at hx; exact (of_decide_eq_true hx).1⟩, R5.out⟩
      case round =>
        obtain ⟨j, l, hjH, hjK, rfl, hl, F6, P6, g6, _, r6⟩ := hrel
        by_cases hjn : j < K
        · have hji : (j : Int) < (K : Int) := by omega
          obtain ⟨x, x1, x2, x3, x4, x5, x6, x7⟩ := one_draw P6.2.1.1 (show 1 ≤ (K : Int) - j by omega)
          have hxH := hl.out.2.2 x x2
          have g1 : ¬ ((x : Int) < (H : Int)) := by omega
          have hdx := HD.out.2.1
          have hxK : (x : Int) < (K : Int) := by have := hl.out.1; omega
          have HX := hid (And.intro x1 (And.intro x2 (And.intro x3 x7)))
          go_wp2_with fail
          refine (draw_call _ p F6 _ P6.2.1 1 (by simp) _ _ _ x4 x5 x6).mono ?_
          rintro e w7 ⟨rfl, h7⟩
          have R7 := hid (PlR.next P6 g6 hgW r6 h7)
          have hc7 : w7.cell? ⟨g, x, none⟩ = some (.bool false) := by
            obtain ⟨_, _, _, _, r7⟩ := R7.out
            have := r7.bool x (by omega)
            rw [x3] at this; exact this
          clear h7 P6 r6 g6 x4 x5 x6 x1 x2 x3 x7 hdx
          go_wp2_with fail
          go_roundw
          case rel =>
            refine ⟨j + 1, l.set x false, by omega, by omega, int_eq (by omega), ⟨by rw [List.length_set]; exact hl.out.1, by rw [HX.out.2.2.2, hl.out.2.1]; omega, fun y hy => ?_⟩, ?_⟩
            · rw [getD_set _ _ _ _ _ HX.out.1] at hy
              split at hy
              · cases hy
              · exact hl.out.2.2 y hy
            · have e : (K : Int) - ((j + 1 : Nat) : Int) = (K : Int) - j - 1 := by omega
              rw [e]; exact R7.out
          case measure => simp [intOf]; omega
        · obtain rfl : j = K := by omega
          have hz0 : freeL l = 0 := by rw [hl.out.2.1]; omega
          have e0 : (j : Int) - (j : Int) = 0 := by omega
          rw [e0] at P6
          have hT := late_turn P6.2.1.1 hz0
          simp only at hT
          rw [HD.out.2.1] at hT
          have hcnt : (lateL d).length = C := by have := lateL_count d; have := HD.out.1; omega
          go_wp2_with fail
          refine (pfree_call wr p F6 _ P6.2.1 0 hz0).mono ?_
          rintro e w7 ⟨rfl, s7⟩
          have P7 := P6.read s7
          have r7 := r6.step s7 (fun x => x)
          clear P6 r6
          go_wp2_with fail
          refine (turn_call w7 p F6 _ P7.2.1 C hcnt _ hT).mono ?_
          rintro e w8 ⟨rfl, h8⟩
          have R8 := PlR.next P7 g6 hgW r7 h8
          clear h8 P7 r7 g6
          obtain ⟨F8, P8, g8, _, r8⟩ := R8
          go_wp2_with fail
          refine (pfree_call w8 p F8 _ P8.2.1 C HD.out.1).mono ?_
          rintro e w9 ⟨rfl, s9⟩
          have P9 := P8.read s9
          have r9 := r8.step s9 (fun x => x)
          clear P8 r8
          obtain ⟨hl0, hT2⟩ := late_again j P9.2.1.1
          go_wp2_with fail
          refine (turn_call w9 p F8 _ P9.2.1 0 hl0 _ hT2).mono ?_
          rintro e w10 ⟨rfl, h10⟩
          have R10 := hid (PlR.next P9 g8 hgW r9 h10)
          clear h10 P9 r9 g8 hT hcnt hT2 hl0 hz0 e0
          go_wp2_with fail
          go_loopw [18] (fun i wr => ∃ (q : Nat) (m : List Bool), q ≤ C ∧ i = .int .i64 q ∧ Hid (m.length = j ∧ freeL m = (C : Int) - q) ∧ PlR w wr p g ⟨m, List.replicate j false, 0, [0]⟩ m) (fun i _ => C - (intOf i).toNat)
          case atStart => exact ⟨0, d, Nat.zero_le _, rfl, ⟨HD.out.2.1, by rw [HD.out.1]; omega⟩, R10.out⟩
          case round =>
            obtain ⟨q, m, hq1, rfl, hm, F11, P11, g11, _, r11⟩ := hrel
            by_cases hqn : q < C
            · have hqi : (q : Int) < (C : Int) := by omega
              obtain ⟨c1, c2⟩ := one_change (l := m) (d := List.replicate j false) (by rw [hm.out.2]; omega)
              go_wp2_with fail
              refine (change_call wr p F11 _ P11.2.1 1 1 (by simp) 0 _ c1 c2).mono ?_
              rintro e w12 ⟨rfl, h12⟩
              have R12 := PlR.next P11 g11 hgW r11 h12
              clear h12 P11 r11 g11 c1 c2
              obtain ⟨F12, P12, g12, _, r12⟩ := R12
              obtain ⟨x, x1, x2, x3, x4, x5, x6, x7⟩ := one_draw P12.2.1.1 (by omega)
              have hxK : (x : Int) < (j : Int) := by have := hm.out.1; omega
              have HX := hid (And.intro x1 (And.intro x2 x7))
              go_wp2_with fail
              refine (draw_call w12 p F12 _ P12.2.1 1 (by simp) _ _ _ x4 x5 x6).mono ?_
              rintro e w13 ⟨rfl, h13⟩
              have R13 := hid (PlR.next P12 g12 hgW r12 h13)
              have hc13 : w13.cell? ⟨g, x, none⟩ = some (.bool true) := by
                obtain ⟨_, _, _, _, r13⟩ := R13.out
                have := r13.bool x x1
                rw [x2] at this; exact this
              have hf13 : w13.frozen? ⟨g, x, none⟩ = false := by
                obtain ⟨_, _, _, _, r13⟩ := R13.out
                exact r13.f x
              clear h13 P12 r12 g12 x4 x5 x6 x1 x2 x3 x7
              go_wp2_with fail
              go_roundw
              case rel =>
                exact ⟨q + 1, m.set x false, by omega, int_eq (by omega), ⟨by rw [List.length_set]; exact hm.out.1, by rw [HX.out.2.2, hm.out.2]; omega⟩, R13.out.set x HX.out.1 false⟩
              case measure => simp [intOf]; omega
            · obtain rfl : q = C := by omega
              have hz0 : freeL m = 0 := by rw [hm.out.2]; omega
              obtain ⟨c1, c2⟩ := one_full (l := m) (d := List.replicate j false) hz0
              go_wp2_with fail
              refine (pfree_call wr p F11 _ P11.2.1 0 hz0).mono ?_
              rintro e w12 ⟨rfl, s12⟩
              have P12 := P11.read s12
              go_wp2_with fail
              refine (change_call w12 p F11 _ P12.2.1 1 1 (by simp) 9 _ c1 c2).mono ?_
              rintro e w13 ⟨rfl, h13⟩
              have P13 := P12.next h13
              go_wp2_with fail
              go_ret
              exact ⟨rfl, P13.1⟩
set_option maxHeartbeats 8000000 in
set_option maxRecDepth 100000 in
theorem late_walk (n : Int) (zs : List Int) (hz1 : zs.length ≤ 9223372036854775807) (a : Option Addr) (c : Nat) (w : World) (hz : RowAt w noF a (intsOf zs)) :
    Calls Try.prog 6 #[.int .i64 n, .slice a zs.length c] w fun e w' => e = .returned (.bool true) ∧ Step noF w w' := by
  by_cases h : zs.length ≤ 100
  · exact late_in n zs h a c w hz
  · have k1 : (100 : Int) < (zs.length : Int) := by omega
    clear hz h
    go_enter Try.func6, Try.ntmps6
    go_wp2_with fail
    refine (awake_any _).mono ?_
    rintro e w1 ⟨rfl, s1⟩
    go_wp2_with fail
    go_ret
    exact ⟨rfl, s1⟩
end Go.Proofs.Ytmijbplhmjledaa
