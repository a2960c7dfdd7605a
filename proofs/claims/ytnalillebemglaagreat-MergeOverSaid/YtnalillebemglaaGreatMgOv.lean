/-
  The walk of the law MergeOver.
-/
import Derived.Test.YtnalillebemglaaGreatMgAny
import Derived.Test.YtnalillebemglaaGreatMgRD
namespace Go.Proofs.YtnalillebemglaaGreat
open Go.RowKit Go.Sort
set_option linter.unusedVariables false
set_option linter.unusedSimpArgs false
set_option maxRecDepth 20000

/-- What is behind all, and the error. -/
theorem over_case (xs : List Rg) (rs : List (List Mg)) : ∃ (L : List Rg) (E : Int), (overE xs rs = 0 → L = withL (msgsR rs) xs ∧ E = 0) ∧ (overE xs rs ≠ 0 → L = [] ∧ E = overE xs rs) := by
  by_cases h : overE xs rs = 0
  · exact ⟨_, 0, fun _ => ⟨rfl, rfl⟩, fun k => absurd h k⟩
  · exact ⟨[], _, fun k => absurd k h, fun _ => ⟨rfl, rfl⟩⟩
theorem withR_len (xs : List Rg) (rs : List (List Mg)) (h : xs.length ≤ 1000) (hl : leftR rs ≤ 300) : (withL (msgsR rs) xs).length ≤ 1300 := by
  have h1 := withL_len (msgsR rs) xs
  have h2 := msgsR_len rs
  omega

set_option maxHeartbeats 1000000 in
theorem mergeOver_on (xs : List Rg) (hxl : xs.length ≤ maxLen) (hxq : ∀ x ∈ xs, x.lo.length ≤ maxLen ∧ x.hi.length ≤ maxLen) (a : Option Addr) (c : Nat) (hc : a = none → c = 0) (m : Nat) (hm : Hid (xs.length = m)) (rs : List (List Mg)) (hx : rs.length ≤ maxLen) (hq : ∀ r ∈ rs, r.length ≤ maxLen ∧ ∀ m ∈ r, m.key.length ≤ maxLen ∧ m.val.length ≤ maxLen) (b : Option Addr) (d : Nat) (len : Nat) (hlen : Hid (rs.length = len)) (w : World) (hX : RgsAt w a xs) (hR : RunsAt w b rs) :
    Calls Tryz.prog 4 #[.slice a m c, .slice b len d] w fun e w' => e = .returned (.bool true) ∧ Step noF w w' := by
  have hz := str_size
  have cG : ∀ w', Step noF w w' → Calls Tryz.prog 8 #[.slice b len d] w' fun e w'' => (e = .returned (.bool true) ∨ (e = .returned (.bool false) ∧ Hid (ModR rs))) ∧ Hid (w' = w'') := fun w' hs => by
    rw [← hlen.out]
    exact greatR_any rs hx hq b d w' (hR.step hs)
  have HXQ := hid hxq
  have HXR := hid hX
  have HRR := hid hR
  have HXL := hid hxl
  clear hx hq hxq hX hR hxl
  have hmm : m ≤ maxLen := by rw [← hm.out]; exact HXL.out
  unfold maxLen at hmm
  go_enter Tryz.func4, Tryz.ntmps4
  go_wp2_with fail
  refine (awakeR_any w).mono ?_
  rintro e w1 ⟨rfl, s1⟩
  go_wp2_with fail
  refine (cG w1 s1).mono ?_
  rintro e w2 ⟨rfl | ⟨rfl, HMM⟩, hw2⟩
  · obtain rfl := hw2.out
    go_wp2_with fail
    go_ret
    exact ⟨rfl, s1⟩
  obtain rfl := hw2.out
  clear cG hw2
  by_cases hg : 60 < m
  · have hgz : (60 : Int) < (m : Int) := by omega
    go_wp2_with fail
    go_ret
    exact ⟨rfl, s1⟩
  have hgz : ¬ (60 : Int) < (m : Int) := by omega
  have cV : ∃ (L : List Rg) (n : Nat) (E : Int), Hid (n = L.length ∧ L.length ≤ 1300) ∧ (∀ W, Step noF w W → Calls Tryz.prog 16 #[.slice a m c, .slice b len d] W fun e w' => ∃ a1 c1, e = .returned (.tuple #[.slice a1 n c1, .int .i64 E]) ∧ Hid (RgsAt w' a1 L) ∧ Hid (Step noF W w')) ∧ (∀ W, Step noF w W → Calls Tryz.prog 17 #[.slice a m c, .slice b len d] W fun e w' => ∃ a1 c1, e = .returned (.tuple #[.slice a1 n c1, .int .i64 E]) ∧ Hid (RgsAt w' a1 L) ∧ Hid (Step noF W w')) := by
    obtain ⟨hF, hL⟩ := mod_few HMM.out
    obtain ⟨L, E, h1, h2⟩ := over_case xs rs
    refine ⟨L, L.length, E, ⟨rfl, ?_⟩, fun W hW => ?_, fun W hW => ?_⟩
    · by_cases h : overE xs rs = 0
      · rw [(h1 h).1]
        exact withR_len xs rs (by rw [hm.out]; omega) hL
      · rw [(h2 h).1]
        simp
    · rw [← hlen.out, ← hm.out]
      refine (mOver_any xs (by rw [hm.out]; omega) a c hc rs hF (by omega) b d W (HXR.out.step hW) (HRR.out.step hW)).mono ?_
      rintro e w' ⟨h | ⟨h, a2, c2, rfl, _, _, hr⟩, s⟩
      · obtain ⟨h, rfl⟩ := h
        obtain ⟨rfl, rfl⟩ := h2 h
        exact ⟨none, 0, rfl, .inl rfl, s⟩
      · obtain ⟨rfl, rfl⟩ := h1 h
        exact ⟨a2, c2, rfl, hr, s⟩
    · rw [← hlen.out, ← hm.out]
      refine (refOverR_any xs (by rw [hm.out]; omega) HXQ.out a c rs hF (by omega) b d W (HXR.out.step hW) (HRR.out.step hW)).mono ?_
      rintro e w' ⟨h | ⟨h, a2, c2, rfl, hr⟩, s⟩
      · obtain ⟨h, rfl⟩ := h
        obtain ⟨rfl, rfl⟩ := h2 h
        exact ⟨none, 0, rfl, .inl rfl, s⟩
      · obtain ⟨rfl, rfl⟩ := h1 h
        exact ⟨a2, c2, rfl, hr, s⟩
  obtain ⟨L, n, E, HLN, cV, cR⟩ := cV
  have S1 := hid s1
  clear s1
  go_wp2_with fail
  go_loopg [5] 61 (fun kx i wr => ∃ (j : Nat), i = .int .i64 j ∧ j ≤ m ∧ m - j ≤ kx ∧ wr = w1)
  case atStart => exact ⟨0, rfl, by omega, by omega, rfl⟩
  case round =>
    obtain ⟨j, rfl, hj, hkx, rfl⟩ := hrel
    by_cases hjl : j < m
    · have hjz : (j : Int) < (m : Int) := by omega
      have hj2 : j < xs.length := by rw [hm.out]; exact hjl
      obtain ⟨g, o, rfl, c0, c1⟩ := (HXR.out.step S1.out).at j hj2
      have hb := HXQ.out xs[j] (List.getElem_mem hj2)
      obtain ⟨⟨x, y⟩, hxy⟩ : ∃ r, xs[j] = r := ⟨_, rfl⟩
      rw [hxy] at c0 c1 hb
      unfold maxLen at hb
      simp only at hb c0 c1
      obtain ⟨hb1, hb2⟩ := hb
      clear hxy
      by_cases g1 : 512 < x.length
      · have gz1 : (512 : Int) < (x.length : Int) := by omega
        go_wp2_with fail
        go_ret
        exact ⟨rfl, S1.out⟩
      · have gz1 : ¬ (512 : Int) < (x.length : Int) := by omega
        by_cases g2 : 512 < y.length
        · have gz2 : (512 : Int) < (y.length : Int) := by omega
          go_wp2_with fail
          go_ret
          exact ⟨rfl, S1.out⟩
        · have gz2 : ¬ (512 : Int) < (y.length : Int) := by omega
          go_wp2_with fail
          go_roundg (m - (j + 1))
          case measure => omega
          case rel => exact ⟨j + 1, by simp, by omega, Nat.le_refl _, rfl⟩
    · have hjz : ¬ (j : Int) < (m : Int) := by omega
      go_wp2_with fail
      refine (cV _ S1.out).mono ?_
      rintro e w3 ⟨a1, c1, rfl, H1, s3⟩
      have S3 := hid (S1.out.trans s3.out)
      go_wp2_with fail
      refine (cR w3 S3.out).mono ?_
      rintro e w4 ⟨a2, c2, rfl, H2, s4⟩
      have S4 := hid (S3.out.trans s4.out)
      have H14 := hid (H1.out.step s4.out)
      have cS : Calls Tryz.prog 18 #[.slice a1 n c1, .slice a2 n c2] w4 fun e w' => e = .returned (.bool true) ∧ Step noF w4 w' := by
        have h := refSame_any L L (by have := HLN.out.2; omega) (by have := HLN.out.2; omega) a1 a2 c1 c2 w4 H14.out H2.out
        rw [(eqB_iff _ _).2 rfl, ← HLN.out.1] at h
        exact h
      clear s3 s4 H1 H2 cV cR
      go_wp2_with fail
      refine cS.mono ?_
      rintro e w5 ⟨rfl, s5⟩
      go_wp2_with fail
      go_ret
      exact ⟨rfl, S4.out.trans s5⟩
end Go.Proofs.YtnalillebemglaaGreat
