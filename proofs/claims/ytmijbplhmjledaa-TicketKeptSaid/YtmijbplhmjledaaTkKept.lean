/-
  The walk of TicketKept.
-/
import Derived.Test.YtmijbplhmjledaaTkCalls
import Derived.Test.YtmijbplhmjledaaTkKeptM
import Derived.Test.YtmijbplhmjledaaTkActs
namespace Go.Proofs.Ytmijbplhmjledaa
open Go.RowKit
set_option linter.unusedVariables false
set_option linter.unusedSimpArgs false

theorem act_at {w w' : World} {a : Option Addr} {xs : List ActT} (h : IsActsT w a xs) (s : Step noF w w') (j : Nat) (hj : j < xs.length) : ∃ b off, a = some ⟨b, off, none⟩ ∧ w'.cell? ⟨b, off + j * 5, none⟩ = some (.int .i64 xs[j].kind) ∧ w'.cell? ⟨b, off + j * 5 + 1, none⟩ = some (.int .i64 xs[j].A) ∧ w'.cell? ⟨b, off + j * 5 + 2, none⟩ = some (.int .i64 xs[j].B) ∧ w'.cell? ⟨b, off + j * 5 + 3, none⟩ = some (.slice xs[j].la xs[j].xs.length xs[j].lc) ∧ w'.cell? ⟨b, off + j * 5 + 4, none⟩ = some (.slice xs[j].na xs[j].zs.length xs[j].nc) := by
  obtain ⟨_, h | ⟨b, off, rfl, hb, hc⟩⟩ := h
  · rw [h] at hj; simp at hj
  · refine ⟨b, off, rfl, s.after (hc j hj 0 _ rfl), s.after (hc j hj 1 _ rfl), s.after (hc j hj 2 _ rfl), s.after (hc j hj 3 _ rfl), s.after (hc j hj 4 _ rfl)⟩

set_option maxHeartbeats 20000000 in
set_option maxRecDepth 100000 in
theorem kept_walk (n re si : Int) (xs : List ActT) (hxl : xs.length ≤ 9223372036854775807) (a : Option Addr) (c : Nat) (w : World) (hx : IsActsT w a xs) :
    Calls Try.prog 5 #[.int .i64 n, .int .i64 re, .int .i64 si, .slice a xs.length c] w fun e w' => e = .returned (.bool true) ∧ Step noF w w' := by
  obtain ⟨k0, hk0, hk1⟩ := mod_at n 100 (by omega) (by omega)
  replace hk0 : wrap64 ((IntKind.u64.wrap n).tmod 100) = (k0 : Int) := hk0
  obtain ⟨K, hK⟩ : ∃ K, 1 + k0 = K := ⟨_, rfl⟩
  have hKK : (1 : Int) + (k0 : Int) = (K : Int) := by omega
  have hK5 : 1 ≤ K ∧ K ≤ 100 := by omega
  obtain ⟨K1, hK1⟩ : ∃ K1, K + 1 = K1 := ⟨_, rfl⟩
  have hKK1 : (K : Int) + 1 = (K1 : Int) := by omega
  obtain ⟨R, hR, hR1⟩ := mod_at re K1 (by omega) (by omega)
  obtain ⟨D, hD⟩ : ∃ D, K - R + 1 = D := ⟨_, rfl⟩
  have hDD : (K : Int) - (R : Int) + 1 = (D : Int) := by omega
  have hRK : (R : Int) ≤ (K : Int) := by omega
  obtain ⟨M, hM, hM1⟩ := mod_at si D (by omega) (by omega)
  have HMM : Hid ((M : Int) ≤ (K : Int) - R) := by show _ ≤ _; omega
  have hwr1 := wrap_nat K1 (by omega)
  have hwrD := wrap_nat D (by omega)
  have hn1 : ¬ (K1 : Int) = 0 := by omega
  have hnD : ¬ (D : Int) = 0 := by omega
  have hmkk := mk_bools K (by omega)
  have hM5 : M ≤ 100 := by omega
  have hR5 : R ≤ 100 := by omega
  have HX := hid hx
  have hst0 := hid (kept_start (k := K) (r := (R : Int)) (m := (M : Int)) (List.replicate K false) (by omega) HMM.out)
  clear hx hK hK1 hD hM1 hR1
  go_enter Try.func5, Try.ntmps5
  go_wp2_with fail
  refine (awake_any _).mono ?_
  rintro e w1 ⟨rfl, s1⟩
  go_wp2_with fail
  refine (pnew_any w1 _ 0 _ K 0 (by first | rfl | exact hKK) rfl (by omega) (by omega) (by omega) (by omega) (by omega)).mono ?_
  rintro e w2 ⟨p, rfl, hp, h2⟩
  have P2 := (Pl.new h2).after s1
  clear h2 hp
  go_wp2_with fail
  refine (hold_call w2 p _ _ P2.2.1 _ (by simp) 1 0 _ hst0.out.2.1 hst0.out.1 hst0.out.2.2).mono ?_
  rintro e w3 ⟨rfl, h3⟩
  have P3 := hid (P2.next h3)
  clear P2 h3
  go_wp2_with fail
  go_loopw [15] (fun i wr => ∃ (j : Nat) (t : Tk) (F : Nat → Prop), j ≤ 40 ∧ i = .int .i64 j ∧ Hid (Kept M R K (j + 1) t) ∧ Pl w wr p F t) (fun i _ => 40 - (intOf i).toNat)
  case atStart => exact ⟨0, _, _, by omega, rfl, ⟨rfl, startL_len (Nat.zero_le _), Nat.le_refl _, Nat.le_refl _, rfl⟩, P3.out⟩
  case round =>
    obtain ⟨j, t, F, hj, rfl, hk, hP⟩ := hrel
    by_cases hjn : j < xs.length ∧ j < 40
    · obtain ⟨hj1, hj4⟩ := hjn
      have hji : (j : Int) < (xs.length : Int) := by omega
      have hji4 : (j : Int) < 40 := by omega
      obtain ⟨b, off, rfl, y0, y1, y2, y3, y4⟩ := act_at HX.out hP.1 j hj1
      obtain ⟨o1, o2, o3, o4, o5⟩ := HX.out.1 _ (List.getElem_mem hj1)
      obtain ⟨x, hxx⟩ : ∃ x, xs[j] = x := ⟨_, rfl⟩
      rw [hxx] at y0 y1 y2 y3 y4 o1 o2 o3 o4 o5
      obtain ⟨xk, xA, xB, la, lc, es, na, nc, zs⟩ := x
      simp only at y0 y1 y2 y3 y4 o1 o2 o3 o4 o5
      unfold maxLen at o1 o4
      have HO := hid (And.intro o2 (And.intro o3 o5))
      have hLs : t.hs.length ≤ 700000 := by have := hk.out.2.2.2.1; omega
      have HLS := hid hLs
      clear hxx o2 o3 o5 hLs
      by_cases hL : es.length ≤ 10
      · have g1 : ¬ ((10 : Int) < (es.length : Int)) := by omega
        by_cases hN : zs.length ≤ 10
        · have g2 : ¬ ((10 : Int) < (zs.length : Int)) := by omega
          have sA : Step noF wr (wr.alloc (.cells #[.int .i64 xk, .int .i64 xA, .int .i64 xB, .slice la es.length lc, .slice na zs.length nc] 32)) := (Step.refl _ _).alloc _
          have PA := hid (hP.read sA)
          have SW := hid (hP.1.trans sA)
          have HP := hid hP
          clear hP sA
          by_cases e1 : xk = 1
          · subst e1
            obtain ⟨E, hE⟩ : ∃ E, useE t es = E := ⟨_, rfl⟩
            obtain ⟨t', ht'⟩ : ∃ t', useT t es = t' := ⟨_, rfl⟩
            go_wp2_with fail
            refine (use_call _ p F t (by exact PA.out.2.1) la lc es.length es rfl (by exact HO.out.2.1.step SW.out) (by exact extF HO.out.2.1 PA.out.2.2) HO.out.1 (by omega) E t' hE ht').mono ?_
            rintro e w4 ⟨rfl, h4⟩
            have P4 := PA.out.next h4
            clear h4
            have HK4 : Hid (Kept M R K (j + 1 + 1) t') := by rw [← ht']; exact (hk.out.use es).more
            obtain ⟨L, hL'⟩ : ∃ L, leftT t' = L := ⟨_, rfl⟩
            have hL0 : ¬ L < 0 := by rw [← hL']; exact Int.not_lt.2 P4.2.1.1.room
            obtain ⟨Fr, hFr⟩ : ∃ x, freeL t'.l = x := ⟨_, rfl⟩
            have hF0 : ¬ Fr < (R : Int) := by rw [← hFr]; have := P4.2.1.1.reserve; have := HK4.out.1; omega
            go_wp2_with fail
            refine (pleft_call _ p _ _ P4.2.1 L hL').mono ?_
            rintro e w5 ⟨rfl, s5⟩
            have P5 := P4.read s5
            clear P4
            go_wp2_with fail
            refine (pfree_call w5 p _ _ P5.2.1 Fr hFr).mono ?_
            rintro e w6 ⟨rfl, s6⟩
            have P6 := P5.read s6
            clear P5
            go_wp2_with fail
            go_roundw
            case rel => exact ⟨j + 1, t', _, by omega, int_eq (by omega), HK4.out, P6⟩
            case measure => simp [intOf]; omega
          · skip
            by_cases e2 : xk = 2
            · subst e2
              obtain ⟨I, hI⟩ : ∃ I, holdI t xA = I := ⟨_, rfl⟩
              obtain ⟨E, hE⟩ : ∃ E, holdE t xA = E := ⟨_, rfl⟩
              obtain ⟨t', ht'⟩ : ∃ t', holdT t xA = t' := ⟨_, rfl⟩
              go_wp2_with fail
              refine (hold_call _ p F t (by exact PA.out.2.1) xA HLS.out I E t' hI hE ht').mono ?_
              rintro e w4 ⟨rfl, h4⟩
              have P4 := PA.out.next h4
              clear h4
              have HK4 : Hid (Kept M R K (j + 1 + 1) t') := by rw [← ht']; exact hk.out.hold (by omega) xA
              obtain ⟨L, hL'⟩ : ∃ L, leftT t' = L := ⟨_, rfl⟩
              have hL0 : ¬ L < 0 := by rw [← hL']; exact Int.not_lt.2 P4.2.1.1.room
              obtain ⟨Fr, hFr⟩ : ∃ x, freeL t'.l = x := ⟨_, rfl⟩
              have hF0 : ¬ Fr < (R : Int) := by rw [← hFr]; have := P4.2.1.1.reserve; have := HK4.out.1; omega
              go_wp2_with fail
              refine (pleft_call _ p _ _ P4.2.1 L hL').mono ?_
              rintro e w5 ⟨rfl, s5⟩
              have P5 := P4.read s5
              clear P4
              go_wp2_with fail
              refine (pfree_call w5 p _ _ P5.2.1 Fr hFr).mono ?_
              rintro e w6 ⟨rfl, s6⟩
              have P6 := P5.read s6
              clear P5
              go_wp2_with fail
              go_roundw
              case rel => exact ⟨j + 1, t', _, by omega, int_eq (by omega), HK4.out, P6⟩
              case measure => simp [intOf]; omega
            · skip
              by_cases e3 : xk = 3
              · subst e3
                by_cases hA1 : xA = 1
                · subst hA1
                  obtain ⟨t', ht'⟩ : ∃ t', t = t' := ⟨_, rfl⟩
                  have HK4 : Hid (Kept M R K (j + 1 + 1) t') := by rw [← ht']; exact hk.out.more
                  have P4 := PA.out
                  rw [ht'] at P4
                  obtain ⟨L, hL'⟩ : ∃ L, leftT t' = L := ⟨_, rfl⟩
                  have hL0 : ¬ L < 0 := by rw [← hL']; exact Int.not_lt.2 P4.2.1.1.room
                  obtain ⟨Fr, hFr⟩ : ∃ x, freeL t'.l = x := ⟨_, rfl⟩
                  have hF0 : ¬ Fr < (R : Int) := by rw [← hFr]; have := P4.2.1.1.reserve; have := HK4.out.1; omega
                  go_wp2_with fail
                  refine (pleft_call _ p _ _ P4.2.1 L hL').mono ?_
                  rintro e w5 ⟨rfl, s5⟩
                  have P5 := P4.read s5
                  clear P4
                  go_wp2_with fail
                  refine (pfree_call w5 p _ _ P5.2.1 Fr hFr).mono ?_
                  rintro e w6 ⟨rfl, s6⟩
                  have P6 := P5.read s6
                  clear P5
                  go_wp2_with fail
                  go_roundw
                  case rel => exact ⟨j + 1, t', _, by omega, int_eq (by omega), HK4.out, P6⟩
                  case measure => simp [intOf]; omega
                · skip
                  obtain ⟨E, hE⟩ : ∃ E, changeE t xA xB = E := ⟨_, rfl⟩
                  obtain ⟨t', ht'⟩ : ∃ t', changeT t xA xB = t' := ⟨_, rfl⟩
                  go_wp2_with fail
                  refine (change_call _ p F t (by exact PA.out.2.1) xA xB HLS.out E t' hE ht').mono ?_
                  rintro e w4 ⟨rfl, h4⟩
                  have P4 := PA.out.next h4
                  clear h4
                  have HK4 : Hid (Kept M R K (j + 1 + 1) t') := by rw [← ht']; exact (hk.out.change xA xB hA1).more
                  obtain ⟨L, hL'⟩ : ∃ L, leftT t' = L := ⟨_, rfl⟩
                  have hL0 : ¬ L < 0 := by rw [← hL']; exact Int.not_lt.2 P4.2.1.1.room
                  obtain ⟨Fr, hFr⟩ : ∃ x, freeL t'.l = x := ⟨_, rfl⟩
                  have hF0 : ¬ Fr < (R : Int) := by rw [← hFr]; have := P4.2.1.1.reserve; have := HK4.out.1; omega
                  go_wp2_with fail
                  refine (pleft_call _ p _ _ P4.2.1 L hL').mono ?_
                  rintro e w5 ⟨rfl, s5⟩
                  have P5 := P4.read s5
                  clear P4
                  go_wp2_with fail
                  refine (pfree_call w5 p _ _ P5.2.1 Fr hFr).mono ?_
                  rintro e w6 ⟨rfl, s6⟩
                  have P6 := P5.read s6
                  clear P5
                  go_wp2_with fail
                  go_roundw
                  case rel => exact ⟨j + 1, t', _, by omega, int_eq (by omega), HK4.out, P6⟩
                  case measure => simp [intOf]; omega
              · skip
                by_cases e4 : xk = 4
                · subst e4
                  by_cases hA1 : xA = 1
                  · subst hA1
                    obtain ⟨t', ht'⟩ : ∃ t', t = t' := ⟨_, rfl⟩
                    have HK4 : Hid (Kept M R K (j + 1 + 1) t') := by rw [← ht']; exact hk.out.more
                    have P4 := PA.out
                    rw [ht'] at P4
                    obtain ⟨L, hL'⟩ : ∃ L, leftT t' = L := ⟨_, rfl⟩
                    have hL0 : ¬ L < 0 := by rw [← hL']; exact Int.not_lt.2 P4.2.1.1.room
                    obtain ⟨Fr, hFr⟩ : ∃ x, freeL t'.l = x := ⟨_, rfl⟩
                    have hF0 : ¬ Fr < (R : Int) := by rw [← hFr]; have := P4.2.1.1.reserve; have := HK4.out.1; omega
                    go_wp2_with fail
                    refine (pleft_call _ p _ _ P4.2.1 L hL').mono ?_
                    rintro e w5 ⟨rfl, s5⟩
                    have P5 := P4.read s5
                    clear P4
                    go_wp2_with fail
                    refine (pfree_call w5 p _ _ P5.2.1 Fr hFr).mono ?_
                    rintro e w6 ⟨rfl, s6⟩
                    have P6 := P5.read s6
                    clear P5
                    go_wp2_with fail
                    go_roundw
                    case rel => exact ⟨j + 1, t', _, by omega, int_eq (by omega), HK4.out, P6⟩
                    case measure => simp [intOf]; omega
                  · skip
                    obtain ⟨I, hI⟩ : ∃ I, drawI t xA = I := ⟨_, rfl⟩
                    obtain ⟨E, hE⟩ : ∃ E, drawE t xA = E := ⟨_, rfl⟩
                    obtain ⟨t', ht'⟩ : ∃ t', drawT t xA = t' := ⟨_, rfl⟩
                    go_wp2_with fail
                    refine (draw_call _ p F t (by exact PA.out.2.1) xA HLS.out I E t' hI hE ht').mono ?_
                    rintro e w4 ⟨rfl, h4⟩
                    have P4 := PA.out.next h4
                    clear h4
                    have HK4 : Hid (Kept M R K (j + 1 + 1) t') := by rw [← ht']; exact (hk.out.draw xA hA1).more
                    obtain ⟨L, hL'⟩ : ∃ L, leftT t' = L := ⟨_, rfl⟩
                    have hL0 : ¬ L < 0 := by rw [← hL']; exact Int.not_lt.2 P4.2.1.1.room
                    obtain ⟨Fr, hFr⟩ : ∃ x, freeL t'.l = x := ⟨_, rfl⟩
                    have hF0 : ¬ Fr < (R : Int) := by rw [← hFr]; have := P4.2.1.1.reserve; have := HK4.out.1; omega
                    go_wp2_with fail
                    refine (pleft_call _ p _ _ P4.2.1 L hL').mono ?_
                    rintro e w5 ⟨rfl, s5⟩
                    have P5 := P4.read s5
                    clear P4
                    go_wp2_with fail
                    refine (pfree_call w5 p _ _ P5.2.1 Fr hFr).mono ?_
                    rintro e w6 ⟨rfl, s6⟩
                    have P6 := P5.read s6
                    clear P5
                    go_wp2_with fail
                    go_roundw
                    case rel => exact ⟨j + 1, t', _, by omega, int_eq (by omega), HK4.out, P6⟩
                    case measure => simp [intOf]; omega
                · skip
                  by_cases e5 : xk = 5
                  · subst e5
                    by_cases hA1 : xA = 1
                    · subst hA1
                      obtain ⟨t', ht'⟩ : ∃ t', t = t' := ⟨_, rfl⟩
                      have HK4 : Hid (Kept M R K (j + 1 + 1) t') := by rw [← ht']; exact hk.out.more
                      have P4 := PA.out
                      rw [ht'] at P4
                      obtain ⟨L, hL'⟩ : ∃ L, leftT t' = L := ⟨_, rfl⟩
                      have hL0 : ¬ L < 0 := by rw [← hL']; exact Int.not_lt.2 P4.2.1.1.room
                      obtain ⟨Fr, hFr⟩ : ∃ x, freeL t'.l = x := ⟨_, rfl⟩
                      have hF0 : ¬ Fr < (R : Int) := by rw [← hFr]; have := P4.2.1.1.reserve; have := HK4.out.1; omega
                      go_wp2_with fail
                      refine (pleft_call _ p _ _ P4.2.1 L hL').mono ?_
                      rintro e w5 ⟨rfl, s5⟩
                      have P5 := P4.read s5
                      clear P4
                      go_wp2_with fail
                      refine (pfree_call w5 p _ _ P5.2.1 Fr hFr).mono ?_
                      rintro e w6 ⟨rfl, s6⟩
                      have P6 := P5.read s6
                      clear P5
                      go_wp2_with fail
                      go_roundw
                      case rel => exact ⟨j + 1, t', _, by omega, int_eq (by omega), HK4.out, P6⟩
                      case measure => simp [intOf]; omega
                    · skip
                      obtain ⟨I, hI⟩ : ∃ I, drawI t xA = I := ⟨_, rfl⟩
                      obtain ⟨E, hE⟩ : ∃ E, drawE t xA = E := ⟨_, rfl⟩
                      obtain ⟨t', ht'⟩ : ∃ t', drawT t xA = t' := ⟨_, rfl⟩
                      go_wp2_with fail
                      refine (draw_call _ p F t (by exact PA.out.2.1) xA HLS.out I E t' hI hE ht').mono ?_
                      rintro e w4 ⟨rfl, h4⟩
                      have P4 := PA.out.next h4
                      clear h4
                      have HK4 : Hid (Kept M R K (j + 1 + 1) t') := by rw [← ht']; exact (hk.out.draw xA hA1).more
                      obtain ⟨L, hL'⟩ : ∃ L, leftT t' = L := ⟨_, rfl⟩
                      have hL0 : ¬ L < 0 := by rw [← hL']; exact Int.not_lt.2 P4.2.1.1.room
                      obtain ⟨Fr, hFr⟩ : ∃ x, freeL t'.l = x := ⟨_, rfl⟩
                      have hF0 : ¬ Fr < (R : Int) := by rw [← hFr]; have := P4.2.1.1.reserve; have := HK4.out.1; omega
                      go_wp2_with fail
                      refine (pleft_call _ p _ _ P4.2.1 L hL').mono ?_
                      rintro e w5 ⟨rfl, s5⟩
                      have P5 := P4.read s5
                      clear P4
                      go_wp2_with fail
                      refine (pfree_call w5 p _ _ P5.2.1 Fr hFr).mono ?_
                      rintro e w6 ⟨rfl, s6⟩
                      have P6 := P5.read s6
                      clear P5
                      go_wp2_with fail
                      go_roundw
                      case rel => exact ⟨j + 1, t', _, by omega, int_eq (by omega), HK4.out, P6⟩
                      case measure => simp [intOf]; omega
                  · skip
                    by_cases e6 : xk = 6
                    · subst e6
                      by_cases hA1 : xA = 1
                      · subst hA1
                        obtain ⟨t', ht'⟩ : ∃ t', t = t' := ⟨_, rfl⟩
                        have HK4 : Hid (Kept M R K (j + 1 + 1) t') := by rw [← ht']; exact hk.out.more
                        have P4 := PA.out
                        rw [ht'] at P4
                        obtain ⟨L, hL'⟩ : ∃ L, leftT t' = L := ⟨_, rfl⟩
                        have hL0 : ¬ L < 0 := by rw [← hL']; exact Int.not_lt.2 P4.2.1.1.room
                        obtain ⟨Fr, hFr⟩ : ∃ x, freeL t'.l = x := ⟨_, rfl⟩
                        have hF0 : ¬ Fr < (R : Int) := by rw [← hFr]; have := P4.2.1.1.reserve; have := HK4.out.1; omega
                        go_wp2_with fail
                        refine (pleft_call _ p _ _ P4.2.1 L hL').mono ?_
                        rintro e w5 ⟨rfl, s5⟩
                        have P5 := P4.read s5
                        clear P4
                        go_wp2_with fail
                        refine (pfree_call w5 p _ _ P5.2.1 Fr hFr).mono ?_
                        rintro e w6 ⟨rfl, s6⟩
                        have P6 := P5.read s6
                        clear P5
                        go_wp2_with fail
                        go_roundw
                        case rel => exact ⟨j + 1, t', _, by omega, int_eq (by omega), HK4.out, P6⟩
                        case measure => simp [intOf]; omega
                      · skip
                        obtain ⟨E, hE⟩ : ∃ E, dropE t xA = E := ⟨_, rfl⟩
                        obtain ⟨t', ht'⟩ : ∃ t', dropT t xA = t' := ⟨_, rfl⟩
                        go_wp2_with fail
                        refine (drop_call _ p F t (by exact PA.out.2.1) xA HLS.out E t' hE ht').mono ?_
                        rintro e w4 ⟨rfl, h4⟩
                        have P4 := PA.out.next h4
                        clear h4
                        have HK4 : Hid (Kept M R K (j + 1 + 1) t') := by rw [← ht']; exact (hk.out.drop xA hA1).more
                        obtain ⟨L, hL'⟩ : ∃ L, leftT t' = L := ⟨_, rfl⟩
                        have hL0 : ¬ L < 0 := by rw [← hL']; exact Int.not_lt.2 P4.2.1.1.room
                        obtain ⟨Fr, hFr⟩ : ∃ x, freeL t'.l = x := ⟨_, rfl⟩
                        have hF0 : ¬ Fr < (R : Int) := by rw [← hFr]; have := P4.2.1.1.reserve; have := HK4.out.1; omega
                        go_wp2_with fail
                        refine (pleft_call _ p _ _ P4.2.1 L hL').mono ?_
                        rintro e w5 ⟨rfl, s5⟩
                        have P5 := P4.read s5
                        clear P4
                        go_wp2_with fail
                        refine (pfree_call w5 p _ _ P5.2.1 Fr hFr).mono ?_
                        rintro e w6 ⟨rfl, s6⟩
                        have P6 := P5.read s6
                        clear P5
                        go_wp2_with fail
                        go_roundw
                        case rel => exact ⟨j + 1, t', _, by omega, int_eq (by omega), HK4.out, P6⟩
                        case measure => simp [intOf]; omega
                    · skip
                      by_cases e7 : xk = 7
                      · subst e7
                        obtain ⟨E, hE⟩ : ∃ E, usedE (kindsL t.l t.d) zs = E := ⟨_, rfl⟩
                        obtain ⟨t', ht'⟩ : ∃ t', shadowT t zs = t' := ⟨_, rfl⟩
                        go_wp2_with fail
                        refine (shadow_call _ p F t (by exact PA.out.2.1) na nc zs.length zs rfl (by exact rowF HO.out.2.2 SW.out PA.out.2.2) (by omega) E t' hE ht').mono ?_
                        rintro e w4 ⟨rfl, h4⟩
                        have P4 := PA.out.next h4
                        clear h4
                        have HK4 : Hid (Kept M R K (j + 1 + 1) t') := by rw [← ht']; exact (hk.out.shadow zs).more
                        obtain ⟨L, hL'⟩ : ∃ L, leftT t' = L := ⟨_, rfl⟩
                        have hL0 : ¬ L < 0 := by rw [← hL']; exact Int.not_lt.2 P4.2.1.1.room
                        obtain ⟨Fr, hFr⟩ : ∃ x, freeL t'.l = x := ⟨_, rfl⟩
                        have hF0 : ¬ Fr < (R : Int) := by rw [← hFr]; have := P4.2.1.1.reserve; have := HK4.out.1; omega
                        go_wp2_with fail
                        refine (pleft_call _ p _ _ P4.2.1 L hL').mono ?_
                        rintro e w5 ⟨rfl, s5⟩
                        have P5 := P4.read s5
                        clear P4
                        go_wp2_with fail
                        refine (pfree_call w5 p _ _ P5.2.1 Fr hFr).mono ?_
                        rintro e w6 ⟨rfl, s6⟩
                        have P6 := P5.read s6
                        clear P5
                        go_wp2_with fail
                        go_roundw
                        case rel => exact ⟨j + 1, t', _, by omega, int_eq (by omega), HK4.out, P6⟩
                        case measure => simp [intOf]; omega
                      · skip
                        by_cases e8 : xk = 8
                        · subst e8
                          obtain ⟨E, hE⟩ : ∃ E, usedE (kindsL t.l t.d) zs = E := ⟨_, rfl⟩
                          obtain ⟨t', ht'⟩ : ∃ t', backT t zs = t' := ⟨_, rfl⟩
                          go_wp2_with fail
                          refine (back_call _ p F t (by exact PA.out.2.1) na nc zs.length zs rfl (by exact HO.out.2.2.step SW.out) (by omega) E t' hE ht').mono ?_
                          rintro e w4 ⟨rfl, h4⟩
                          have P4 := PA.out.next h4
                          clear h4
                          have HK4 : Hid (Kept M R K (j + 1 + 1) t') := by rw [← ht']; exact (hk.out.back zs).more
                          obtain ⟨L, hL'⟩ : ∃ L, leftT t' = L := ⟨_, rfl⟩
                          have hL0 : ¬ L < 0 := by rw [← hL']; exact Int.not_lt.2 P4.2.1.1.room
                          obtain ⟨Fr, hFr⟩ : ∃ x, freeL t'.l = x := ⟨_, rfl⟩
                          have hF0 : ¬ Fr < (R : Int) := by rw [← hFr]; have := P4.2.1.1.reserve; have := HK4.out.1; omega
                          go_wp2_with fail
                          refine (pleft_call _ p _ _ P4.2.1 L hL').mono ?_
                          rintro e w5 ⟨rfl, s5⟩
                          have P5 := P4.read s5
                          clear P4
                          go_wp2_with fail
                          refine (pfree_call w5 p _ _ P5.2.1 Fr hFr).mono ?_
                          rintro e w6 ⟨rfl, s6⟩
                          have P6 := P5.read s6
                          clear P5
                          go_wp2_with fail
                          go_roundw
                          case rel => exact ⟨j + 1, t', _, by omega, int_eq (by omega), HK4.out, P6⟩
                          case measure => simp [intOf]; omega
                        · skip
                          obtain ⟨LL, hLL⟩ : ∃ LL, (lateL t.d).length = LL := ⟨_, rfl⟩
                          obtain ⟨t', ht'⟩ : ∃ t', turnT t = t' := ⟨_, rfl⟩
                          go_wp2_with fail
                          refine (turn_call _ p F t (by exact PA.out.2.1) LL hLL t' ht').mono ?_
                          rintro e w4 ⟨rfl, h4⟩
                          have P4 := PA.out.next h4
                          clear h4
                          have HK4 : Hid (Kept M R K (j + 1 + 1) t') := by rw [← ht']; exact hk.out.turn.more
                          obtain ⟨L, hL'⟩ : ∃ L, leftT t' = L := ⟨_, rfl⟩
                          have hL0 : ¬ L < 0 := by rw [← hL']; exact Int.not_lt.2 P4.2.1.1.room
                          obtain ⟨Fr, hFr⟩ : ∃ x, freeL t'.l = x := ⟨_, rfl⟩
                          have hF0 : ¬ Fr < (R : Int) := by rw [← hFr]; have := P4.2.1.1.reserve; have := HK4.out.1; omega
                          go_wp2_with fail
                          refine (pleft_call _ p _ _ P4.2.1 L hL').mono ?_
                          rintro e w5 ⟨rfl, s5⟩
                          have P5 := P4.read s5
                          clear P4
                          go_wp2_with fail
                          refine (pfree_call w5 p _ _ P5.2.1 Fr hFr).mono ?_
                          rintro e w6 ⟨rfl, s6⟩
                          have P6 := P5.read s6
                          clear P5
                          go_wp2_with fail
                          go_roundw
                          case rel => exact ⟨j + 1, t', _, by omega, int_eq (by omega), HK4.out, P6⟩
                          case measure => simp [intOf]; omega
        · have g2 : (10 : Int) < (zs.length : Int) := by omega
          have HP := hid hP.1
          clear hP
          go_wp2_with fail
          go_ret
          exact ⟨rfl, HP.out.alloc _⟩
      · have g1 : (10 : Int) < (es.length : Int) := by omega
        have HP := hid hP.1
        clear hP
        go_wp2_with fail
        go_ret
        exact ⟨rfl, HP.out.alloc _⟩
    · have hend : ((j : Int) < (xs.length : Int)) = False ∨ ((j : Int) < (xs.length : Int)) = True ∧ ¬ ((j : Int) < 40) := by
        by_cases h : j < xs.length
        · exact .inr ⟨eq_true (by omega), fun h4 => hjn ⟨h, by omega⟩⟩
        · exact .inl (eq_false (by omega))
      have hmk := hmkk wr
      have P4 := hP.read ((Step.refl noF wr).alloc (.cells (madeCells #[.bool false] K) 4))
      have R4 : Hid (PlR w (wr.alloc (.cells (madeCells #[.bool false] K) 4)) p wr.heap.size t (List.replicate K false)) := ⟨_, P4, fun e => by have := hP.2.1.lt _ e; omega, hP.1.size, made_bools wr K⟩
      obtain ⟨g, hg⟩ : ∃ g, wr.heap.size = g := ⟨_, rfl⟩
      rw [hg] at R4 hmk
      have HK := hid hk.out
      have hj40 := hj
      clear P4 hP hg hmkk hjn
      rcases hend with h0 | ⟨h0, h1⟩
      · have h0' : ¬ ((j : Int) < (xs.length : Int)) := by rw [h0]; exact fun x => x
        clear h0
        go_wp2_with fail
        go_loopw [18] (fun i wr => ∃ (q : Nat) (t : Tk) (m : List Bool), q ≤ M ∧ i = .int .i64 q ∧ Hid (Kept ((M : Int) - q) R K 1000 t) ∧ Hid (m.length = K ∧ ∀ x, m.getD x false = true → t.l.getD x false = false) ∧ PlR w wr p g t m) (fun i _ => M - (intOf i).toNat)
        case atStart => exact ⟨0, t, _, Nat.zero_le _, rfl, ⟨HK.out.1, HK.out.2.1, HK.out.2.2.1, by have := HK.out.2.2.2.1; omega, by rw [HK.out.2.2.2.2]; omega⟩, ⟨List.length_replicate, fun x hx => by rw [rep_at] at hx; cases hx⟩, R4.out⟩
        case round =>
          obtain ⟨q, t, m, hq, rfl, hkk, hm, F, P, gF, gW, r⟩ := hrel
          have hLs : t.hs.length ≤ 700000 := by have := hkk.out.2.2.2.1; omega
          by_cases hqn : q < M
          · have hqi : (q : Int) < (M : Int) := by omega
            obtain ⟨x, x1, x2, x3, x4, x5, x6, x7⟩ := kept_draw P.2.1.1 hkk.out.2.2.1 hkk.out.2.2.2.2 (by omega)
            have hxK : x < K := by have := hkk.out.2.1; omega
            have hxi : ¬ ((K : Int) ≤ (x : Int)) := by omega
            have hxi2 : ¬ ((x : Int) < 0) := by omega
            have hxi3 : (x : Int) < (K : Int) := by omega
            have hmx : m.getD x false = false := by
              cases hb : m.getD x false with
              | false => rfl
              | true => rw [hm.out.2 x hb] at x2; cases x2
            have HXX := hid (And.intro x1 (And.intro x2 (And.intro x7 hmx)))
            go_wp2_with fail
            refine (draw_call _ p F _ P.2.1 1 hLs _ _ _ x4 x5 x6).mono ?_
            rintro e w7 ⟨rfl, h7⟩
            have R7 := PlR.next P gF gW r h7
            obtain ⟨F7, P7, g7, _, r7⟩ := R7
            have hc7 : w7.cell? ⟨g, x, none⟩ = some (.bool false) := by
              have := r7.bool x (by have := hm.out.1; omega)
              rw [hmx] at this; exact this
            have ck := kind_call w7 p F7 _ P7.2.1 (x : Int) 1 (by rw [kindZ, if_pos (by simp only [List.length_set]; have := hkk.out.2.1; omega), Int.toNat_natCast]; exact x7)
            have R7h : Hid (PlR w w7 p g ⟨t.l.set x false, t.d, t.r, t.hs.set 0 ((M : Int) - q - 1)⟩ m) := ⟨F7, P7, g7, gW, r7⟩
            clear h7 P r gF x4 x5 x6 x1 x2 x3 x7 P7 r7 g7 hmx
            go_wp2_with fail
            refine ck.mono ?_
            rintro e w8 ⟨rfl, s8⟩
            have R8 := hid (R7h.out.read s8)
            have hc8 := s8.after hc7
            have hf8 : w8.frozen? ⟨g, x, none⟩ = false := by
              obtain ⟨_, _, _, _, r8⟩ := R8.out
              exact r8.f x
            clear hc7 ck
            go_wp2_with fail
            go_roundw
            case rel =>
              refine ⟨q + 1, ⟨t.l.set x false, t.d, t.r, t.hs.set 0 ((M : Int) - q - 1)⟩, m.set x true, by omega, int_eq (by omega), ⟨hkk.out.1, by simp only; rw [List.length_set]; exact hkk.out.2.1, by simp only; rw [List.length_set]; exact hkk.out.2.2.1, by simp only; rw [List.length_set]; exact hkk.out.2.2.2.1, ?_⟩, ⟨by rw [List.length_set]; exact hm.out.1, fun y hy => ?_⟩, R8.out.set x (by have := hm.out.1; omega) true⟩
              · simp only
                rw [getD_set _ _ _ _ _ (by have := hkk.out.2.2.1; omega), if_pos rfl]; omega
              · simp only
                rw [getD_set _ _ _ _ _ HXX.out.1]
                by_cases e : y = x
                · rw [if_pos e]
                · rw [if_neg e]
                  rw [getD_set _ _ _ _ _ (by have := hm.out.1; omega), if_neg e] at hy
                  exact hm.out.2 y hy
            case measure => simp [intOf]; omega
          · obtain rfl : q = M := by omega
            have hz0 : t.hs.getD 0 0 = 0 := by rw [hkk.out.2.2.2.2]; omega
            have hde := kept_done hkk.out.2.2.1 hz0
            obtain ⟨hdb, hdi, hdt⟩ := draw_bad hde (by decide)
            obtain ⟨Fr, hFr⟩ : ∃ x, freeL t.l = x := ⟨_, rfl⟩
            have hF0 : (R : Int) ≤ Fr := by rw [← hFr]; have := P.2.1.1.reserve; have := hkk.out.1; omega
            go_wp2_with fail
            refine (draw_call _ p F _ P.2.1 1 hLs _ _ _ hdi hdb hdt).mono ?_
            rintro e w7 ⟨rfl, h7⟩
            have P7 := P.next h7
            clear h7 P r gF
            go_wp2_with fail
            refine (pfree_call w7 p _ _ P7.2.1 Fr hFr).mono ?_
            rintro e w8 ⟨rfl, s8⟩
            have P8 := P7.read s8
            go_wp2_with fail
            go_ret
            exact ⟨rfl, P8.1⟩
      · have h0' : (j : Int) < (xs.length : Int) := by rw [h0]; trivial
        clear h0
        go_wp2_with fail
        go_loopw [18] (fun i wr => ∃ (q : Nat) (t : Tk) (m : List Bool), q ≤ M ∧ i = .int .i64 q ∧ Hid (Kept ((M : Int) - q) R K 1000 t) ∧ Hid (m.length = K ∧ ∀ x, m.getD x false = true → t.l.getD x false = false) ∧ PlR w wr p g t m) (fun i _ => M - (intOf i).toNat)
        case atStart => exact ⟨0, t, _, Nat.zero_le _, rfl, ⟨HK.out.1, HK.out.2.1, HK.out.2.2.1, by have := HK.out.2.2.2.1; omega, by rw [HK.out.2.2.2.2]; omega⟩, ⟨List.length_replicate, fun x hx => by rw [rep_at] at hx; cases hx⟩, R4.out⟩
        case round =>
          obtain ⟨q, t, m, hq, rfl, hkk, hm, F, P, gF, gW, r⟩ := hrel
          have hLs : t.hs.length ≤ 700000 := by have := hkk.out.2.2.2.1; omega
          by_cases hqn : q < M
          · have hqi : (q : Int) < (M : Int) := by omega
            obtain ⟨x, x1, x2, x3, x4, x5, x6, x7⟩ := kept_draw P.2.1.1 hkk.out.2.2.1 hkk.out.2.2.2.2 (by omega)
            have hxK : x < K := by have := hkk.out.2.1; omega
            have hxi : ¬ ((K : Int) ≤ (x : Int)) := by omega
            have hxi2 : ¬ ((x : Int) < 0) := by omega
            have hxi3 : (x : Int) < (K : Int) := by omega
            have hmx : m.getD x false = false := by
              cases hb : m.getD x false with
              | false => rfl
              | true => rw [hm.out.2 x hb] at x2; cases x2
            have HXX := hid (And.intro x1 (And.intro x2 (And.intro x7 hmx)))
            go_wp2_with fail
            refine (draw_call _ p F _ P.2.1 1 hLs _ _ _ x4 x5 x6).mono ?_
            rintro e w7 ⟨rfl, h7⟩
            have R7 := PlR.next P gF gW r h7
            obtain ⟨F7, P7, g7, _, r7⟩ := R7
            have hc7 : w7.cell? ⟨g, x, none⟩ = some (.bool false) := by
              have := r7.bool x (by have := hm.out.1; omega)
              rw [hmx] at this; exact this
            have ck := kind_call w7 p F7 _ P7.2.1 (x : Int) 1 (by rw [kindZ, if_pos (by simp only [List.length_set]; have := hkk.out.2.1; omega), Int.toNat_natCast]; exact x7)
            have R7h : Hid (PlR w w7 p g ⟨t.l.set x false, t.d, t.r, t.hs.set 0 ((M : Int) - q - 1)⟩ m) := ⟨F7, P7, g7, gW, r7⟩
            clear h7 P r gF x4 x5 x6 x1 x2 x3 x7 P7 r7 g7 hmx
            go_wp2_with fail
            refine ck.mono ?_
            rintro e w8 ⟨rfl, s8⟩
            have R8 := hid (R7h.out.read s8)
            have hc8 := s8.after hc7
            have hf8 : w8.frozen? ⟨g, x, none⟩ = false := by
              obtain ⟨_, _, _, _, r8⟩ := R8.out
              exact r8.f x
            clear hc7 ck
            go_wp2_with fail
            go_roundw
            case rel =>
              refine ⟨q + 1, ⟨t.l.set x false, t.d, t.r, t.hs.set 0 ((M : Int) - q - 1)⟩, m.set x true, by omega, int_eq (by omega), ⟨hkk.out.1, by simp only; rw [List.length_set]; exact hkk.out.2.1, by simp only; rw [List.length_set]; exact hkk.out.2.2.1, by simp only; rw [List.length_set]; exact hkk.out.2.2.2.1, ?_⟩, ⟨by rw [List.length_set]; exact hm.out.1, fun y hy => ?_⟩, R8.out.set x (by have := hm.out.1; omega) true⟩
              · simp only
                rw [getD_set _ _ _ _ _ (by have := hkk.out.2.2.1; omega), if_pos rfl]; omega
              · simp only
                rw [getD_set _ _ _ _ _ HXX.out.1]
                by_cases e : y = x
                · rw [if_pos e]
                · rw [if_neg e]
                  rw [getD_set _ _ _ _ _ (by have := hm.out.1; omega), if_neg e] at hy
                  exact hm.out.2 y hy
            case measure => simp [intOf]; omega
          · obtain rfl : q = M := by omega
            have hz0 : t.hs.getD 0 0 = 0 := by rw [hkk.out.2.2.2.2]; omega
            have hde := kept_done hkk.out.2.2.1 hz0
            obtain ⟨hdb, hdi, hdt⟩ := draw_bad hde (by decide)
            obtain ⟨Fr, hFr⟩ : ∃ x, freeL t.l = x := ⟨_, rfl⟩
            have hF0 : (R : Int) ≤ Fr := by rw [← hFr]; have := P.2.1.1.reserve; have := hkk.out.1; omega
            go_wp2_with fail
            refine (draw_call _ p F _ P.2.1 1 hLs _ _ _ hdi hdb hdt).mono ?_
            rintro e w7 ⟨rfl, h7⟩
            have P7 := P.next h7
            clear h7 P r gF
            go_wp2_with fail
            refine (pfree_call w7 p _ _ P7.2.1 Fr hFr).mono ?_
            rintro e w8 ⟨rfl, s8⟩
            have P8 := P7.read s8
            go_wp2_with fail
            go_ret
            exact ⟨rfl, P8.1⟩
end Go.Proofs.Ytmijbplhmjledaa
