/-
  The law LeafCut: what is cut out of a leaf is in just one part.
-/
import Derived.Test.YtclaagihmpghnaaLfLight
import Derived.Test.YtclaagihmpghnaaKeyH
import Derived.Deep.Cut
import Derived.Test.YtclaagihmpghnaaStepCalls
namespace Go.Proofs.Ytclaagihmpghnaa
open Go.RowKit Go.Sort
set_option linter.unusedVariables false
set_option linter.unusedSimpArgs false
set_option maxRecDepth 20000

theorem within_join (r : Rg) (k : List UInt8) (hk : k ≠ []) (xs : List Rg) (h : Rising xs) : aheadB (withinL (r.meet ⟨[], k⟩) xs) (withinL (r.meet ⟨k, []⟩) xs) = true := by
  refine (aheadB_iff _ _ (within_rising _ _ h) (within_rising _ _ h)).2 ?_
  have := within_rising r xs h
  rw [← within_cut r k hk xs h] at this
  exact (rising_join this).2.2

set_option maxHeartbeats 4000000 in
theorem leafCut_any (xs : List Rg) (hx : xs.length ≤ maxLen) (hq : ∀ x ∈ xs, x.lo.length ≤ maxLen ∧ x.hi.length ≤ maxLen) (a : Option Addr) (c : Nat) (hc : a = none → c = 0) (r : Rg) (k : List UInt8) (w : World) (h : RgsAt w a xs) :
    Calls Try.prog 7 #[.slice a xs.length c, .agg #[.string (str r.lo), .string (str r.hi)], .string (str k)] w fun e w' => e = .returned (.bool true) ∧ Step noF w w' := by
  have HR := hid h
  have HC := hid hc
  have HX := hid hx
  have HQ := hid hq
  have cM := may_any r
  have cH := has_any r k
  have er : r.val = .agg #[.string (str r.lo), .string (str r.hi)] := rfl
  rw [er] at cM cH
  have hw0 : Hid (r.has k = true → k ≠ []) := fun h e => by
    rw [e] at h
    simp [Rg.has, isK] at h
  clear h hc hx hq
  go_enter Try.func7, Try.ntmps7
  go_wp2_with fail
  refine (awake_any _).mono ?_
  rintro e w1 ⟨rfl, s1⟩
  have b0 := s1.after (two_new w (.string (str r.lo)) (.string (str r.hi)) 25).1
  have b1 := s1.after (two_new w (.string (str r.lo)) (.string (str r.hi)) 25).2
  have S1 : Hid (Step noF w w1) := ((Step.refl noF w).alloc _).trans s1
  clear s1
  go_wp2_with fail
  refine (great_any xs HX.out HQ.out a c w1 (HR.out.step S1.out)).mono ?_
  rintro e w1' ⟨hg, rfl⟩
  rcases hg with rfl | ⟨rfl, h60, h512⟩
  · go_wp2_with fail
    go_ret
    exact ⟨rfl, S1.out⟩
  · clear h512
    obtain ⟨M, hM⟩ : ∃ M, r.may = M := ⟨_, rfl⟩
    rw [hM] at cM
    cases M
    · go_wp2_with fail
      refine (cM _).mono ?_
      rintro e w2 ⟨rfl, s2⟩
      go_wp2_with fail
      go_ret
      exact ⟨rfl, S1.out.trans s2⟩
    · go_wp2_with fail
      refine (cM _).mono ?_
      rintro e w2 ⟨rfl, s2⟩
      have c0 := s2.after b0
      have c1 := s2.after b1
      have S2 := hid (S1.out.trans s2)
      clear s2 b0 b1
      obtain ⟨K, hK⟩ : ∃ K, r.has k = K := ⟨_, rfl⟩
      rw [hK] at cH hw0
      clear hM hK
      cases K
      · go_wp2_with fail
        refine (cH _).mono ?_
        rintro e w3 ⟨rfl, s3⟩
        go_wp2_with fail
        go_ret
        exact ⟨rfl, S2.out.trans s3⟩
      · have hk : Hid (k ≠ []) := by first | exact hw0.out rfl | exact hw0.out trivial
        go_wp2_with fail
        refine (cH _).mono ?_
        rintro e w3 ⟨rfl, s3⟩
        have d0 := s3.after c0
        have d1 := s3.after c1
        have S3 := hid (S2.out.trans s3)
        clear s3 c0 c1
        go_wp2_with fail
        refine (leafOf_any xs (by omega) a c w3 (HR.out.step S3.out) HC.out).mono ?_
        rintro e w4 ⟨s4, hof⟩
        have e0 := s4.after d0
        have e1 := s4.after d1
        have S4 := hid (S3.out.trans s4)
        clear s4 d0 d1
        rcases hof with ⟨hne, rfl⟩ | ⟨h0, p, rfl, _, l4⟩
        · have hnz : (ofE xs == 0) = false := by rw [beq_eq_false_iff_ne]; exact hne
          go_wp2_with fail
          go_ret
          exact ⟨rfl, S4.out⟩
        · obtain ⟨hR, hok, hlen⟩ := ofE_zero h0
          obtain ⟨S, hS⟩ : ∃ S, sortL xs = S := ⟨_, rfl⟩
          rw [hS] at hR hok hlen l4
          have HRI := hid hR
          have HOK := hid hok
          have L4 := hid l4
          have hS60 : S.length ≤ 60 := by omega
          clear hR hok l4 hS h0 hlen
          have hrow : Hid (RowAt (w4.alloc (.cells #[.string (str k)] 9)) noF (some ⟨w4.heap.size, 0, none⟩) (texts [k])) := by
            refine .inr ⟨w4.heap.size, 0, rfl, fun h => h, fun i hi => ?_⟩
            obtain rfl : i = 0 := by simp [texts] at hi; omega
            rw [cell_of_block (block_alloc_new w4 _)]
            rfl
          have eX : ∀ o, (w4.alloc o).cell? ⟨w.heap.size, 0, none⟩ = some (.string (str r.lo)) := fun o => cell_alloc e0 o
          go_wp2_with fail
          refine (cut_any r [k] (by simp) _ 1 _ hrow.out).mono ?_
          rintro e w5 ⟨a5, c5, rfl, hc5, r5, s5⟩
          have st5 : Step noF w4 w5 := ((Step.refl noF w4).alloc _).trans s5
          rw [cut_two] at r5
          obtain ⟨g, off, rfl, x0, x1⟩ := r5.at 0 (by simp)
          obtain ⟨g', off', e', y0, y1⟩ := r5.at 1 (by simp)
          obtain ⟨rfl, rfl⟩ : g = g' ∧ off = off' := by
            injection e' with e'
            injection e' with h1 h2
            exact ⟨h1, h2⟩
          simp only [List.getElem_cons_zero, List.getElem_cons_succ, Nat.zero_mul, Nat.add_zero, Nat.one_mul] at x0 x1 y0 y1
          have f0 := st5.after e0
          have f1 := st5.after e1
          have L5 := hid (L4.out.step st5)
          have S5 := hid (S4.out.trans st5)
          have HJ := hid (within_join r k hk.out S HRI.out)
          have HCU := hid (within_cut r k hk.out S HRI.out)
          have HALL := hid (within_all S HOK.out)
          clear s5 st5 r5 e' e0 e1 eX
          obtain ⟨⟨u0, u1⟩, hr0⟩ : ∃ q, r.meet ⟨[], k⟩ = q := ⟨_, rfl⟩
          obtain ⟨⟨v0, v1⟩, hr1⟩ : ∃ q, r.meet ⟨k, []⟩ = q := ⟨_, rfl⟩
          rw [hr0] at x0 x1 HJ HCU
          rw [hr1] at y0 y1 HJ HCU
          clear hr0 hr1
          have cW : ∀ (q : Rg) w', Step noF w5 w' → Calls Try.prog 18 #[.pointer (some ⟨p, 0, none⟩), .agg #[.string (str q.lo), .string (str q.hi)]] w' fun e w'' => ∃ z, e = .returned (.pointer (some ⟨z, 0, none⟩)) ∧ Hid (LeafAt w'' z (withinL q S)) ∧ Hid (Step noF w' w'') := fun q w' hs => by
            refine (within_any p S (by omega) q w' (L5.out.step hs)).mono ?_
            rintro e w'' ⟨z, rfl, _, l, s⟩
            exact ⟨z, rfl, l, s⟩
          have cW0 := cW ⟨u0, u1⟩
          have cW1 := cW ⟨v0, v1⟩
          have cJ : ∀ z0 z1 w', LeafAt w' z0 (withinL ⟨u0, u1⟩ S) → LeafAt w' z1 (withinL ⟨v0, v1⟩ S) → Calls Try.prog 27 #[.pointer (some ⟨z0, 0, none⟩), .pointer (some ⟨z1, 0, none⟩)] w' fun e w'' => ∃ j, e = .returned (.tuple #[.pointer (some ⟨j, 0, none⟩), .int .i64 0]) ∧ Hid (LeafAt w'' j (withinL r S)) ∧ Hid (Step noF w' w'') := fun z0 z1 w' h0 h1 => by
            have q0 := within_len ⟨u0, u1⟩ S
            have q1 := within_len ⟨v0, v1⟩ S
            refine (join_any z0 z1 _ _ (by omega) w' h0 h1).mono ?_
            rintro e w'' ⟨hj, s⟩
            rcases hj with ⟨hf, _⟩ | ⟨_, j, rfl, _, l⟩
            · exact absurd hf (by rw [HJ.out]; simp)
            · rw [HCU.out] at l
              exact ⟨j, rfl, l, s⟩
          simp only at cW0 cW1
          go_upto_region 11 with fail
          go_cut [10, 11] from 36 (fun s10 s11 wx => ∃ j, s10 = .pointer (some ⟨j, 0, none⟩) ∧ s11 = .int .i64 0 ∧ Hid (LeafAt wx j (withinL r S)) ∧ Hid (Step noF w5 wx))
          case first =>
            go_region_law (first
              | (refine step_calls rfl rfl Try.func18 (by kernel_rfl) (by kernel_rfl) (args := #[.pointer (some ⟨p, 0, none⟩), .agg #[.string (str u0), .string (str u1)]]) (by first | rfl | (simp [Act.eval, Act.put]; done)) ?_; refine (cW0 _ (by first | exact (Step.refl noF w5).drewN _ | exact (Step.refl noF w5).drew | exact Step.refl noF w5 | exact V1.out)).mono ?_; rintro e w6 ⟨z0, rfl, l0, t0⟩; have V0 : Hid (Step noF w5 w6) := (by first | exact ((Step.refl noF w5).drewN _).trans t0.out | exact ((Step.refl noF w5).drew).trans t0.out | exact V1.out.trans t0.out | exact t0.out); have y0' := V0.out.after y0; have y1' := V0.out.after y1; refine ⟨_, rfl, ?_⟩)
              | (refine step_calls rfl rfl Try.func18 (by kernel_rfl) (by kernel_rfl) (args := #[.pointer (some ⟨p, 0, none⟩), .agg #[.string (str v0), .string (str v1)]]) (by first | rfl | (simp [Act.eval, Act.put]; done)) ?_; refine (cW1 _ (by first | exact (Step.refl noF w5).drewN _ | exact (Step.refl noF w5).drew | exact Step.refl noF w5 | exact V0.out)).mono ?_; rintro e w7 ⟨z1, rfl, l1, t1⟩; have V1 : Hid (Step noF w5 w7) := (by first | exact ((Step.refl noF w5).drewN _).trans t1.out | exact ((Step.refl noF w5).drew).trans t1.out | exact V0.out.trans t1.out | exact t1.out); have x0' := V1.out.after x0; have x1' := V1.out.after x1; refine ⟨_, rfl, ?_⟩)
              | (refine step_calls rfl rfl Try.func27 (by kernel_rfl) (by kernel_rfl) (args := #[.pointer (some ⟨z0, 0, none⟩), .pointer (some ⟨z1, 0, none⟩)]) (by first | rfl | (simp [Act.eval, Act.put]; done)) ?_; refine (cJ _ _ _ (by first | exact l0.out.step t1.out | exact l0.out) (by first | exact l1.out | exact l1.out.step t0.out)).mono ?_; rintro e w8 ⟨j, rfl, l8, t8⟩; have S58 : Hid (Step noF w5 w8) := (by first | exact V1.out.trans t8.out | exact V0.out.trans t8.out); refine ⟨_, rfl, ?_⟩))
            all_goals
              go_wp2_with fail
              go_meet
              exact ⟨j, rfl, rfl, l8, S58⟩
          case rest =>
            obtain ⟨j, rfl, rfl, l8, S58⟩ := hcut
            have f2 := S58.out.after f0
            have f3 := S58.out.after f1
            have cWr := cW r
            have cWz := cW ⟨[], []⟩
            have lw := within_len r S
            go_wp2_with fail
            refine (cWr wc S58.out).mono ?_
            rintro e w9 ⟨z9, rfl, l9, t9⟩
            go_wp2_with fail
            refine (same_any j z9 _ _ ⟨by omega, by omega⟩ w9 (l8.out.step t9.out) l9.out).mono ?_
            rintro e wa ⟨rfl, ta⟩
            rw [(sameB_iff _ _).2 rfl]
            have S5a := hid ((S58.out.trans t9.out).trans ta)
            clear ta
            go_wp2_with fail
            refine (cWz wa S5a.out).mono ?_
            rintro e wb ⟨zb, rfl, lb, tb⟩
            rw [HALL.out] at lb
            go_wp2_with fail
            refine (same_any zb p S S ⟨by omega, by omega⟩ wb lb.out (L5.out.step (S5a.out.trans tb.out))).mono ?_
            rintro e wd ⟨rfl, tc⟩
            rw [(sameB_iff _ _).2 rfl]
            go_wp2_with fail
            go_ret
            exact ⟨rfl, S5.out.trans ((S5a.out.trans tb.out).trans tc)⟩
end Go.Proofs.Ytclaagihmpghnaa
