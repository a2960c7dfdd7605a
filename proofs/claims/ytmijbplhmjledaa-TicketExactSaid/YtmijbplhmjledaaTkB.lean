/-
  What container/heap does with the numbers: down, Push, Pop.
-/
import Derived.Test.YtmijbplhmjledaaTkA
import Derived.Deep.RegionLaw
namespace Go.Proofs.Ytmijbplhmjledaa
open Go.RowKit
set_option linter.unusedVariables false
set_option linter.unusedSimpArgs false

set_option maxHeartbeats 4000000 in
/-- down. -/
theorem down_any (w : World) (p g c : Nat) (ns : List Int) (h : NumAt w p g c ns) (n : Nat) (hn : n ≤ ns.length) (hl : ns.length ≤ 1000000) (hd : DownInv ns 0 n) :
    Calls Try.prog 62 #[.iface 69 (.pointer (some ⟨p, 5, none⟩)), .int .i64 0, .int .i64 n] w fun e w' => ∃ b, e = .returned (.bool b) ∧ Step (oneF g) w w' ∧ ∃ ms, NumAt w' p g c ms ∧ ms.Perm ns ∧ HpN ms n ∧ ∀ q, n ≤ q → ms.getD q 0 = ns.getD q 0 := by
  have HN := hid h
  have HU := hid hd
  have HNL := hid hn
  have hnl : n ≤ 1000000 := by omega
  have HL0 := hid hl
  clear h hd hn hl
  go_enter Try.func62, Try.ntmps62
  go_wp2_with fail
  go_loopw [7, 8, 9, 10] (fun iv _ _ _ wr => ∃ (k : Nat) (ms : List Int), iv = .int .i64 k ∧ k ≤ n ∧ Step (oneF g) w wr ∧ NumAt wr p g c ms ∧ Hid (ms.Perm ns) ∧ Hid (DownInv ms k n) ∧ Hid (∀ q, n ≤ q → ms.getD q 0 = ns.getD q 0)) (fun iv _ _ _ _ => n - (intOf iv).toNat)
  case atStart => exact ⟨0, ns, rfl, Nat.zero_le _, Step.refl _ _, HN.out, List.Perm.refl _, HU.out, fun _ _ => rfl⟩
  case round =>
    obtain ⟨k, ms, rfl, hk, hst, hn, hperm, hdo, htl⟩ := hrel
    have HL := hid (show ms.length = ns.length from hperm.out.length_eq)
    have HKN := hid hk
    by_cases h1 : 2 * k + 1 < n
    · have g1 : ¬ ((n : Int) ≤ 2 * (k : Int) + 1) := by omega
      have g2 : ¬ (2 * (k : Int) + 1 < 0) := by omega
      have hkb : k ≤ 1000000 := by omega
      have hlk : 2 * k + 1 < ms.length ∧ k < ms.length := by have := HL.out; have := HNL.out; omega
      have hml := meth_val mrow_less 209 wr p _ hn.1
      have HNN := hid hn
      have HLK := hid hlk
      have H1 := hid h1
      by_cases h2 : 2 * k + 2 < n
      · have g3 : 2 * (k : Int) + 1 + 1 < (n : Int) := by omega
        have cl := nless_any wr g c ms hn.2.2.1 (2 * k + 2) (2 * k + 1) (by have := HL.out; have := HNL.out; omega) hlk.1
        have e1 : ((2 * k + 2 : Nat) : Int) = 2 * (k : Int) + 1 + 1 := by omega
        have e2 : ((2 * k + 1 : Nat) : Int) = 2 * (k : Int) + 1 := by omega
        rw [e1, e2] at cl
        have H2 := hid h2
        clear e1 e2 h1 h2 hn hlk
        cases hb : decide (ms.getD (2 * k + 2) 0 < ms.getD (2 * k + 1) 0)
        · rw [hb] at cl
          have HB := hid hb
          clear hb
          go_wp2_with fail
          refine cl.mono ?_
          rintro e w1 ⟨rfl, s1⟩
          have hj : Hid (∀ q, q < n → (q = 2 * k + 1 ∨ q = 2 * k + 2) → ms.getD (2 * k + 1) 0 ≤ ms.getD q 0) := fun q _ hq => by
            have := of_decide_eq_false HB.out
            rcases hq with rfl | rfl <;> omega
          have hm2 := meth_val mrow_less 209 w1 p _ (HNN.out.step s1).1
          have cl2 := nless_any w1 g c ms (HNN.out.step s1).2.2.1 (2 * k + 1) k (by have := HL.out; have := HNL.out; have := H1.out; have := H2.out; omega) HLK.out.2
          have e2 : (((2 * k + 1) : Nat) : Int) = 2 * (k : Int) + 1 := by omega
          rw [e2] at cl2
          clear e2
          cases hc : decide (ms.getD (2 * k + 1) 0 < ms.getD k 0)
          · rw [hc] at cl2
            have HC := hid hc
            clear hc
            go_wp2_with fail
            refine cl2.mono ?_
            rintro e w2 ⟨rfl, s2⟩
            go_wp2_with fail
            go_ret
            refine ⟨_, rfl, hst.then (s1.trans s2) (fun _ x => x.elim), ms, HNN.out.step (s1.trans s2), hperm.out, down_stop hdo.out (fun q hq hq2 => ?_), htl.out⟩
            have := of_decide_eq_false HC.out
            have := hj.out q hq hq2
            omega
          · rw [hc] at cl2
            have HC := hid hc
            clear hc
            go_wp2_with fail
            refine cl2.mono ?_
            rintro e w2 ⟨rfl, s2⟩
            have hms := meth_val mrow_swap 209 w2 p _ (HNN.out.step (s1.trans s2)).1
            have cs := nswap_any w2 p g c ms (HNN.out.step (s1.trans s2)) k (2 * k + 1) HLK.out.2 (by have := HL.out; have := HNL.out; have := H1.out; have := H2.out; omega)
            have e2 : (((2 * k + 1) : Nat) : Int) = 2 * (k : Int) + 1 := by omega
            rw [e2] at cs
            clear e2
            go_wp2_with fail
            refine cs.mono ?_
            rintro e w3 ⟨rfl, s3, h3⟩
            go_wp2_with fail
            go_roundw
            case rel =>
              refine ⟨(2 * k + 1), swapL ms k (2 * k + 1), int_eq (by omega), by have := H1.out; have := H2.out; omega, (hst.then (s1.trans s2) (fun _ x => x.elim)).trans s3, h3, ?_, ?_, ?_⟩
              · exact (swapL_perm HLK.out.2 (by have := HL.out; have := HNL.out; have := H1.out; have := H2.out; omega)).trans hperm.out
              · exact down_step hdo.out (by rw [HL.out]; exact HNL.out) (by omega) (by have := H1.out; have := H2.out; omega) hj.out (of_decide_eq_true HC.out)
              · intro q hq
                rw [swapL_at HLK.out.2 (by have := HL.out; have := HNL.out; have := H1.out; have := H2.out; omega), if_neg (by have := H1.out; have := H2.out; omega), if_neg (by have := H1.out; omega)]
                exact htl.out q hq
            case measure => simp [intOf]; have := H1.out; omega
        · rw [hb] at cl
          have HB := hid hb
          clear hb
          go_wp2_with fail
          refine cl.mono ?_
          rintro e w1 ⟨rfl, s1⟩
          have hj : Hid (∀ q, q < n → (q = 2 * k + 1 ∨ q = 2 * k + 2) → ms.getD (2 * k + 2) 0 ≤ ms.getD q 0) := fun q _ hq => by
            have := of_decide_eq_true HB.out
            rcases hq with rfl | rfl <;> omega
          have hm2 := meth_val mrow_less 209 w1 p _ (HNN.out.step s1).1
          have cl2 := nless_any w1 g c ms (HNN.out.step s1).2.2.1 (2 * k + 2) k (by have := HL.out; have := HNL.out; have := H1.out; have := H2.out; omega) HLK.out.2
          have e2 : (((2 * k + 2) : Nat) : Int) = 2 * (k : Int) + 1 + 1 := by omega
          rw [e2] at cl2
          clear e2
          cases hc : decide (ms.getD (2 * k + 2) 0 < ms.getD k 0)
          · rw [hc] at cl2
            have HC := hid hc
            clear hc
            go_wp2_with fail
            refine cl2.mono ?_
            rintro e w2 ⟨rfl, s2⟩
            go_wp2_with fail
            go_ret
            refine ⟨_, rfl, hst.then (s1.trans s2) (fun _ x => x.elim), ms, HNN.out.step (s1.trans s2), hperm.out, down_stop hdo.out (fun q hq hq2 => ?_), htl.out⟩
            have := of_decide_eq_false HC.out
            have := hj.out q hq hq2
            omega
          · rw [hc] at cl2
            have HC := hid hc
            clear hc
            go_wp2_with fail
            refine cl2.mono ?_
            rintro e w2 ⟨rfl, s2⟩
            have hms := meth_val mrow_swap 209 w2 p _ (HNN.out.step (s1.trans s2)).1
            have cs := nswap_any w2 p g c ms (HNN.out.step (s1.trans s2)) k (2 * k + 2) HLK.out.2 (by have := HL.out; have := HNL.out; have := H1.out; have := H2.out; omega)
            have e2 : (((2 * k + 2) : Nat) : Int) = 2 * (k : Int) + 1 + 1 := by omega
            rw [e2] at cs
            clear e2
            go_wp2_with fail
            refine cs.mono ?_
            rintro e w3 ⟨rfl, s3, h3⟩
            go_wp2_with fail
            go_roundw
            case rel =>
              refine ⟨(2 * k + 2), swapL ms k (2 * k + 2), int_eq (by omega), by have := H1.out; have := H2.out; omega, (hst.then (s1.trans s2) (fun _ x => x.elim)).trans s3, h3, ?_, ?_, ?_⟩
              · exact (swapL_perm HLK.out.2 (by have := HL.out; have := HNL.out; have := H1.out; have := H2.out; omega)).trans hperm.out
              · exact down_step hdo.out (by rw [HL.out]; exact HNL.out) (by omega) (by have := H1.out; have := H2.out; omega) hj.out (of_decide_eq_true HC.out)
              · intro q hq
                rw [swapL_at HLK.out.2 (by have := HL.out; have := HNL.out; have := H1.out; have := H2.out; omega), if_neg (by have := H1.out; have := H2.out; omega), if_neg (by have := H1.out; omega)]
                exact htl.out q hq
            case measure => simp [intOf]; have := H1.out; omega
      · have g3 : ¬ (2 * (k : Int) + 1 + 1 < (n : Int)) := by omega
        have H2 := hid h2
        have s1 : Step noF wr wr := Step.refl _ _
        obtain ⟨w1, hw1⟩ : ∃ w1, wr = w1 := ⟨_, rfl⟩
        have hj : Hid (∀ q, q < n → (q = 2 * k + 1 ∨ q = 2 * k + 2) → ms.getD (2 * k + 1) 0 ≤ ms.getD q 0) := fun q hq1 hq => by
          rcases hq with rfl | rfl <;> omega
        subst hw1
        clear h1 h2 hn hlk
        have hm2 := meth_val mrow_less 209 wr p _ (HNN.out.step s1).1
        have cl2 := nless_any wr g c ms (HNN.out.step s1).2.2.1 (2 * k + 1) k (by have := HL.out; have := HNL.out; have := H1.out; have := H2.out; omega) HLK.out.2
        have e2 : (((2 * k + 1) : Nat) : Int) = 2 * (k : Int) + 1 := by omega
        rw [e2] at cl2
        clear e2
        cases hc : decide (ms.getD (2 * k + 1) 0 < ms.getD k 0)
        · rw [hc] at cl2
          have HC := hid hc
          clear hc
          go_wp2_with fail
          refine cl2.mono ?_
          rintro e w2 ⟨rfl, s2⟩
          go_wp2_with fail
          go_ret
          refine ⟨_, rfl, hst.then (s1.trans s2) (fun _ x => x.elim), ms, HNN.out.step (s1.trans s2), hperm.out, down_stop hdo.out (fun q hq hq2 => ?_), htl.out⟩
          have := of_decide_eq_false HC.out
          have := hj.out q hq hq2
          omega
        · rw [hc] at cl2
          have HC := hid hc
          clear hc
          go_wp2_with fail
          refine cl2.mono ?_
          rintro e w2 ⟨rfl, s2⟩
          have hms := meth_val mrow_swap 209 w2 p _ (HNN.out.step (s1.trans s2)).1
          have cs := nswap_any w2 p g c ms (HNN.out.step (s1.trans s2)) k (2 * k + 1) HLK.out.2 (by have := HL.out; have := HNL.out; have := H1.out; have := H2.out; omega)
          have e2 : (((2 * k + 1) : Nat) : Int) = 2 * (k : Int) + 1 := by omega
          rw [e2] at cs
          clear e2
          go_wp2_with fail
          refine cs.mono ?_
          rintro e w3 ⟨rfl, s3, h3⟩
          go_wp2_with fail
          go_roundw
          case rel =>
            refine ⟨(2 * k + 1), swapL ms k (2 * k + 1), int_eq (by omega), by have := H1.out; have := H2.out; omega, (hst.then (s1.trans s2) (fun _ x => x.elim)).trans s3, h3, ?_, ?_, ?_⟩
            · exact (swapL_perm HLK.out.2 (by have := HL.out; have := HNL.out; have := H1.out; have := H2.out; omega)).trans hperm.out
            · exact down_step hdo.out (by rw [HL.out]; exact HNL.out) (by omega) (by have := H1.out; have := H2.out; omega) hj.out (of_decide_eq_true HC.out)
            · intro q hq
              rw [swapL_at HLK.out.2 (by have := HL.out; have := HNL.out; have := H1.out; have := H2.out; omega), if_neg (by have := H1.out; have := H2.out; omega), if_neg (by have := H1.out; omega)]
              exact htl.out q hq
          case measure => simp [intOf]; have := H1.out; omega
    · have g1 : (n : Int) ≤ 2 * (k : Int) + 1 := by omega
      have hkb : k ≤ 1000000 := by omega
      have HNN := hid hn
      have H1 := hid h1
      clear hn h1
      go_wp2_with fail
      go_ret
      exact ⟨_, rfl, hst, ms, HNN.out, hperm.out, down_stop hdo.out (fun q hq hq2 => by have := H1.out; omega), htl.out⟩
end Go.Proofs.Ytmijbplhmjledaa
