/-
  The law InnerKeeps: behind a swap each key that was another kid's is still that kid's.
  The law InnerKeeps, lifted to the given statement.
-/
import Derived.Test.YtgmgoaencaldmaaInAw
import Derived.Test.YtgmgoaencaldmaaKeyRows
namespace Go.Proofs.Ytgmgoaencaldmaa
open Go.RowKit Go.Sort
set_option linter.unusedVariables false
set_option linter.unusedSimpArgs false
set_option maxRecDepth 20000

set_option maxHeartbeats 8000000 in
theorem innerKeeps_any (ks : List Int) (hkl : ks.length ≤ maxLen) (ka : Option Addr) (kc : Nat) (hkc : ka = none → kc = 0) (ps : List (List UInt8)) (hpl : ps.length ≤ maxLen) (hpq : ∀ x ∈ ps, x.length ≤ maxLen) (pa : Option Addr) (pc : Nat) (hpc : pa = none → pc = 0) (z : Int) (low k : List UInt8) (hlow : low.length ≤ maxLen) (hk : k.length ≤ maxLen) (w : World) (hK : RowAt w noF ka (intsOf ks)) (hP : RowAt w noF pa (texts ps)) :
    Calls Try.prog 5 #[.slice ka ks.length kc, .slice pa ps.length pc, .int .i64 z, .string (str low), .string (str k)] w fun e w' => e = .returned (.bool true) ∧ Step noF w w' := by
  have hz := str_size
  have h0 := nil_str
  have hE := same_str
  have hL := less_str
  have cG := greatN_any ks hkl ps hpl hpq [] (Nat.zero_le _) (fun _ h => by simp at h) ka pa none kc pc 0
  rw [List.length_nil] at cG
  unfold maxLen at hlow hk
  have HK := hid hK
  have HP := hid hP
  have HKC := hid hkc
  have HPC := hid hpc
  clear hK hP hpq hkl hpl hkc hpc
  go_enter Try.func5, Try.ntmps5
  go_wp2_with fail
  refine (awakeN_any _).mono ?_
  rintro e w1 ⟨rfl, s1⟩
  have S1 := hid s1
  clear s1
  go_wp2_with fail
  refine (cG w1 (rowAt_step HP.out S1.out (fun _ _ h => h)) (.inl rfl)).mono ?_
  rintro e w1' ⟨hg, rfl⟩
  rcases hg with rfl | ⟨rfl, hk30, hp30, _, _, _⟩
  · go_wp2_with fail
    go_ret
    exact ⟨rfl, S1.out⟩
  by_cases gl : 512 < low.length
  · have glz : (512 : Int) < (low.length : Int) := by omega
    go_wp2_with fail
    go_ret
    exact ⟨rfl, S1.out⟩
  have glz : ¬ (512 : Int) < (low.length : Int) := by omega
  by_cases gk : 512 < k.length
  · have gkz : (512 : Int) < (k.length : Int) := by omega
    go_wp2_with fail
    go_ret
    exact ⟨rfl, S1.out⟩
  have gkz : ¬ (512 : Int) < (k.length : Int) := by omega
  have cO := ofN_any ks ps [] (by omega) (by omega) (by simp) (fun _ h => by simp at h) ka pa none kc pc 0 HKC.out HPC.out (fun _ => rfl) w1 (rowAt_step HK.out S1.out (fun _ _ h => h)) (rowAt_step HP.out S1.out (fun _ _ h => h)) (.inl rfl)
  rw [List.length_nil] at cO
  go_wp2_with fail
  refine cO.mono ?_
  rintro e w2 ⟨ho, s2⟩
  have S2 := hid (S1.out.trans s2)
  clear s2 cO cG gl gk glz gkz
  rcases ho with ⟨h1, rfl⟩ | ⟨h1, p, rfl, hi⟩
  · go_wp2_with fail
    go_ret
    exact ⟨rfl, S2.out⟩
  have hgd : goodN ks ps = true := by simpa using h1
  have HGD := hid hgd
  have hi' : InnerAt w2 p ⟨ks, ps, []⟩ := hi
  have I2 := hid hi'
  have hgi := (goodN_iff _ _).1 hgd
  have hlen : ps.length + 1 = ks.length := hgi.2.1
  have hkpos : 0 < ks.length := by omega
  obtain ⟨i, hin, him⟩ := pick_kid z ks.length hkpos (by omega)
  have wn : IntKind.u64.wrap (ks.length : Int) = (ks.length : Int) := by rw [IntKind.wrap_u64]; omega
  have wi : IntKind.i64.wrap (i : Int) = (i : Int) := by rw [IntKind.wrap_i64]; omega
  have hn0 : ¬ (ks.length : Int) = 0 := by omega
  have hn1 : ((ks.length : Int) == 0) = false := by rw [beq_eq_false_iff_ne]; exact hn0
  have hlens : ps.length ≤ 1000 ∧ ks.length ≤ 1000 := by omega
  have cS := fun (w' : World) => swapN_any p ks ps [] hlen hlens.2 i hin [([], 100), (low, 200)] 2 rfl (by omega) (by omega) (some ⟨w'.heap.size, 0, none⟩) 2 (by omega) (w'.alloc (.cells #[.string (str []), .int .i64 100, .string (str low), .int .i64 200] 58))
  clear h1 hi hi'
  go_wp2_with fail
  refine (cS w2 (I2.out.step ((Step.refl noF w2).alloc _)) (pts2_new w2 [] 100 low 200)).mono ?_
  rintro e w3 ⟨hm, s3⟩
  have t3 : Step noF w2 w3 := ((Step.refl noF w2).alloc _).trans s3
  have S3 := hid (S2.out.trans t3)
  have I3 := hid (I2.out.step t3)
  clear s3 t3 cS
  rcases hm with ⟨hbad, rfl⟩ | ⟨hgood, p2, rfl, hi2⟩
  · -- it can't be
    have hsb := swap_bad ks ps hgd i hin 100 200 (by omega) (by omega) [] low hbad
    have HSB := hid hsb
    have cI := is_any low
    have cR := rangeN_any p ks ps [] hlen hlens.1 i hin ⟨[], []⟩ w3 I3.out
    obtain ⟨R, hR⟩ : ∃ R, rangeN ⟨[], []⟩ ps i = R := ⟨_, rfl⟩
    rw [hR] at cR hsb
    have cH := fun w' => has_any R low w'
    have er : R.val = .agg #[.string (str R.lo), .string (str R.hi)] := rfl
    rw [er] at cH
    clear HSB hbad hR er
    cases hkl2 : isK low
    · rw [hkl2] at cI
      clear hsb
      go_wp2_with fail
      refine (cI _).mono ?_
      rintro e w4 ⟨rfl, rfl⟩
      go_wp2_with fail
      go_ret
      exact ⟨rfl, S3.out⟩
    · rw [hkl2] at cI
      cases hh : R.has low
      · rw [hh] at cH
        clear hsb
        go_wp2_with fail
        refine (cI _).mono ?_
        rintro e w4 ⟨rfl, rfl⟩
        go_wp2_with fail
        refine cR.mono ?_
        rintro e w4 ⟨rfl, s4⟩
        have S4 := hid (S3.out.trans s4)
        clear s4
        go_wp2_with fail
        refine (cH _).mono ?_
        rintro e w5 ⟨rfl, s5⟩
        have S5 := hid (S4.out.trans s5)
        clear s5
        go_wp2_with fail
        go_ret
        exact ⟨rfl, S5.out⟩
      · rw [hh] at cH
        obtain ⟨hi0, hpe⟩ : 0 < i ∧ ps.getD (i - 1) [] = low := by
          rcases hsb with e | e | e
          · rw [hkl2] at e; cases e
          · rw [hh] at e; cases e
          · exact e
        obtain ⟨j, hj⟩ : ∃ j, i - 1 = j := ⟨_, rfl⟩
        have hjl : j < ps.length := by omega
        have ej : (i : Int) - 1 = (j : Int) := by omega
        have wj : IntKind.i64.wrap (j : Int) = (j : Int) := by rw [IntKind.wrap_i64]; omega
        have hiz : (0 : Int) < (i : Int) := by omega
        have hjz : (j : Int) < (ps.length : Int) := by omega
        have hpj : ps[j] = low := by
          rw [hj] at hpe
          simpa [List.getD, List.getElem?_eq_getElem hjl] using hpe
        have HPJ := hid hpj
        clear hsb hpe hj hpj
        go_wp2_with fail
        refine (cI _).mono ?_
        rintro e w4 ⟨rfl, rfl⟩
        go_wp2_with fail
        refine cR.mono ?_
        rintro e w4 ⟨rfl, s4⟩
        have S4 := hid (S3.out.trans s4)
        clear s4
        go_wp2_with fail
        refine (cH _).mono ?_
        rintro e w5 ⟨rfl, s5⟩
        have S5 := hid (S4.out.trans s5)
        clear s5
        obtain ⟨b, off, rfl, c0⟩ := texts_get (rowAt_step HP.out S5.out (fun _ _ h => h)) j hjl
        rw [HPJ.out] at c0
        have hll : decide (low = low) = true := decide_eq_true rfl
        go_wp2_with fail
        go_ret
        exact ⟨by first | rfl | simp, S5.out⟩
  · -- it can be
    have hgd2 : goodN (swapKids ks i [100, 200]) (swapPivs ps i [[], low]) = true := hgood
    have hsg := (swap_good ks ps hgd i hin 100 200 (by omega) (by omega) [] low).1 hgd2
    have hkeep := swap_keeps ks ps hgd i hin 100 200 [] low k hsg.2
    have hfuse := swap_fuse ks ps i hin 100 200 low [] hlen
    have hKl : (swapKids ks i [100, 200]).length = ks.length + 1 := by simp [swapKids]; omega
    have hPl : (swapPivs ps i [[], low]).length = ps.length + 1 := by simp [swapPivs]; omega
    have hI2 : InnerAt w3 p2 ⟨swapKids ks i [100, 200], swapPivs ps i [[], low], []⟩ := hi2
    have HKE := hid hkeep
    have HFU := hid hfuse
    have hwas := kidOf_le ps k
    have hnow := kidOf_le (swapPivs ps i [[], low]) k
    have c1 := fun w' (hs : Step noF w3 w') => kidOfN_any p ⟨ks, ps, []⟩ hgd (by simp only; omega) k w' (I3.out.step hs)
    have c2 := fun w' (hs : Step noF w3 w') => kidOfN_any p2 ⟨swapKids ks i [100, 200], swapPivs ps i [[], low], []⟩ hgd2 (by simp only; omega) k w' (hI2.step hs)
    have c3 := fun w' (hs : Step noF w3 w') => kidsN_any p2 ⟨swapKids ks i [100, 200], swapPivs ps i [[], low], []⟩ (by simp only; omega) w' (hI2.step hs)
    have c4 := fun w' (hs : Step noF w3 w') => fuseN_any p2 (swapKids ks i [100, 200]) (swapPivs ps i [[], low]) [] (by omega) (by omega) i (by omega) ks[i] w' (hI2.step hs)
    rw [hfuse.1, hfuse.2] at c4
    have c5 := fun q w' (hs : Step noF w3 w') (hq : InnerAt w' q ⟨ks, ps, []⟩) => sameNd_any q p ⟨ks, ps, []⟩ ⟨ks, ps, []⟩ (by simp only [List.length_nil]; omega) w' hq (I3.out.step hs)
    rw [(sameN_iff _ _).2 rfl] at c5
    simp only at c1 c2 c3
    obtain ⟨KS, hKS⟩ : ∃ K, swapKids ks i [100, 200] = K := ⟨_, rfl⟩
    obtain ⟨PS, hPS⟩ : ∃ K, swapPivs ps i [[], low] = K := ⟨_, rfl⟩
    rw [hKS] at c3 hKl HKE
    rw [hPS] at c2 hnow HKE hPl
    obtain ⟨A, hA⟩ : ∃ A, kidOf ps k = A := ⟨_, rfl⟩
    obtain ⟨B, hB⟩ : ∃ B, kidOf PS k = B := ⟨_, rfl⟩
    rw [hA] at c1 hwas HKE
    rw [hB] at c2 hnow HKE
    have hAl : A < ks.length := by omega
    have hBl : B < KS.length := by omega
    obtain ⟨V, hV⟩ : ∃ V, KS[B] = V := ⟨_, rfl⟩
    have HV : Hid (KS[B]? = some V) := by show _ = _; rw [List.getElem?_eq_getElem hBl, hV]
    have HKA : Hid (ks[A]? = some ks[A]) := List.getElem?_eq_getElem hAl
    have HVV := hid hV
    obtain ⟨ki, hki⟩ : ∃ v, ks[i] = v := ⟨_, rfl⟩
    have HKI := hid hki
    rw [hki] at c4
    have hBz : (B : Int) < ((KS.length : Nat) : Int) := by omega
    have hAz : (A : Int) < (ks.length : Int) := by omega
    have hiz : (i : Int) < (ks.length : Int) := by omega
    clear hkeep hfuse hsg hgood hgd2 hi2 hI2 hKS hPS hA hB hgi hV hki
    go_wp2_with fail
    refine (c1 _ (Step.refl _ _)).mono ?_
    rintro e w4 ⟨rfl, s4⟩
    have T4 := hid s4
    clear s4 c1
    go_wp2_with fail
    refine (c2 _ T4.out).mono ?_
    rintro e w5 ⟨rfl, s5⟩
    have T5 := hid (T4.out.trans s5)
    clear s5 c2
    go_wp2_with fail
    refine (c3 _ T5.out).mono ?_
    rintro e w6 ⟨a6, d6, rfl, r6, s6⟩
    have T6 := hid (T5.out.trans s6.out)
    clear s6 c3
    obtain ⟨g6, o6, rfl, y0⟩ := ints_get r6.out.2.2 B hBl
    rw [HVV.out] at y0
    have S6 := hid (S3.out.trans T6.out)
    obtain ⟨gk, ok, rfl, z0⟩ := ints_get (rowAt_step HK.out S6.out (fun _ _ h => h)) A hAl
    obtain ⟨kA, hkA⟩ : ∃ v, ks[A] = v := ⟨_, rfl⟩
    rw [hkA] at z0
    have HKA2 : Hid (ks[A]? = some kA) := by show _ = _; rw [HKA.out, hkA]
    have z1 : w6.cell? ⟨gk, ok + i, none⟩ = some (.int .i64 ki) := by
      obtain ⟨gk', ok', e, h⟩ := ints_get (rowAt_step HK.out S6.out (fun _ _ h => h)) i hin
      injection e with e
      injection e with e1 e2 _
      rw [← e1, ← e2, HKI.out] at h
      exact h
    clear r6 hkA HKA
    rcases Nat.lt_trichotomy A i with hAi | hAi | hAi
    · obtain ⟨hBA, hKB⟩ := HKE.out.1 hAi
      subst hBA
      have hVA : V = kA := by rw [HV.out, HKA2.out] at hKB; exact Option.some.inj hKB
      subst hVA
      have n1 : ¬ (B : Int) = (i : Int) := by omega
      have n2 : ((B : Int) == (i : Int)) = false := by rw [beq_eq_false_iff_ne]; exact n1
      have n3 : (B : Int) < (i : Int) := by omega
      have n4 : ¬ (i : Int) < (B : Int) := by omega
      clear hKB hAi
      go_wp2_with fail
      refine (c4 _ T6.out).mono ?_
      rintro e w7 ⟨hm, s7⟩
      have T7 := hid (T6.out.trans s7)
      clear s7 c4
      rcases hm with ⟨h1, _⟩ | ⟨_, q, rfl, hq⟩
      · exact absurd HGD.out (by rw [show goodN ks ps = false from h1]; simp)
      have HQ : Hid (InnerAt w7 q ⟨ks, ps, []⟩) := hq
      clear hq
      go_wp2_with fail
      refine (c5 q _ T7.out HQ.out).mono ?_
      rintro e w8 ⟨rfl, s8⟩
      have S8 := hid (S3.out.trans (T7.out.trans s8))
      clear s8
      go_wp2_with fail
      go_ret
      exact ⟨rfl, S8.out⟩
    · have hKB := HKE.out.2.2 hAi
      subst hAi
      have hk2 : kA = ki := by
        have := HKA2.out
        rw [List.getElem?_eq_getElem hin, HKI.out] at this
        exact (Option.some.inj this).symm
      subst hk2
      have hll : decide (k < low) = true ∨ decide (k < low) = false := by cases decide (k < low) <;> simp
      rcases hll with hll | hll
      · have hBe : B = A := by have := hKB.1; rw [if_pos (of_decide_eq_true hll)] at this; omega
        subst hBe
        have hV1 : V = 100 := by have := hKB.2.1; rw [HV.out] at this; exact Option.some.inj this
        subst hV1
        clear hKB
        go_wp2_with fail
        refine (c4 _ T6.out).mono ?_
        rintro e w7 ⟨hm, s7⟩
        have T7 := hid (T6.out.trans s7)
        clear s7 c4
        rcases hm with ⟨h1, _⟩ | ⟨_, q, rfl, hq⟩
        · exact absurd HGD.out (by rw [show goodN ks ps = false from h1]; simp)
        have HQ : Hid (InnerAt w7 q ⟨ks, ps, []⟩) := hq
        clear hq
        go_wp2_with fail
        refine (c5 q _ T7.out HQ.out).mono ?_
        rintro e w8 ⟨rfl, s8⟩
        have S8 := hid (S3.out.trans (T7.out.trans s8))
        clear s8
        go_wp2_with fail
        go_ret
        exact ⟨rfl, S8.out⟩
      · have hBe : B = A + 1 := by have := hKB.1; rw [if_neg (of_decide_eq_false hll)] at this; omega
        have hV1 : V = 200 := by have := hKB.2.2; rw [← hBe, HV.out] at this; exact Option.some.inj this
        subst hV1
        have eBz : (B : Int) = (A : Int) + 1 := by omega
        clear hKB hBe eBz
        go_wp2_with fail
        refine (c4 _ T6.out).mono ?_
        rintro e w7 ⟨hm, s7⟩
        have T7 := hid (T6.out.trans s7)
        clear s7 c4
        rcases hm with ⟨h1, _⟩ | ⟨_, q, rfl, hq⟩
        · exact absurd HGD.out (by rw [show goodN ks ps = false from h1]; simp)
        have HQ : Hid (InnerAt w7 q ⟨ks, ps, []⟩) := hq
        clear hq
        go_wp2_with fail
        refine (c5 q _ T7.out HQ.out).mono ?_
        rintro e w8 ⟨rfl, s8⟩
        have S8 := hid (S3.out.trans (T7.out.trans s8))
        clear s8
        go_wp2_with fail
        go_ret
        exact ⟨rfl, S8.out⟩
    · obtain ⟨hBA, hKB⟩ := HKE.out.2.1 hAi
      have hVA : V = kA := by rw [← hBA, HV.out, HKA2.out] at hKB; exact Option.some.inj hKB
      subst hVA
      have n1 : ¬ (A : Int) = (i : Int) := by omega
      have n2 : ((A : Int) == (i : Int)) = false := by rw [beq_eq_false_iff_ne]; exact n1
      have n3 : (i : Int) < (A : Int) := by omega
      have n4 : ¬ (A : Int) < (i : Int) := by omega
      have n5 : (A : Int) + 1 = (B : Int) := by omega
      have wB : IntKind.i64.wrap (B : Int) = (B : Int) := by rw [IntKind.wrap_i64]; omega
      clear hKB hAi hBA
      go_wp2_with fail
      refine (c4 _ T6.out).mono ?_
      rintro e w7 ⟨hm, s7⟩
      have T7 := hid (T6.out.trans s7)
      clear s7 c4
      rcases hm with ⟨h1, _⟩ | ⟨_, q, rfl, hq⟩
      · exact absurd HGD.out (by rw [show goodN ks ps = false from h1]; simp)
      have HQ : Hid (InnerAt w7 q ⟨ks, ps, []⟩) := hq
      clear hq
      go_wp2_with fail
      refine (c5 q _ T7.out HQ.out).mono ?_
      rintro e w8 ⟨rfl, s8⟩
      have S8 := hid (S3.out.trans (T7.out.trans s8))
      clear s8
      go_wp2_with fail
      go_ret
      exact ⟨rfl, S8.out⟩
end Go.Proofs.Ytgmgoaencaldmaa
namespace Go.Proofs.Ytgmgoaencaldmaa.innerKeepsDone
open Go.ChangeShapes Go.WideShapes Go.ChangeAt Go.RowKit
open Go.ChangeMaps (open_string shut_string)
set_option linter.unusedVariables false

set_option maxRecDepth 100000 in
theorem lifted (os : Os) (started : os.Started) (H : Type) (enc : TypeId × Value → H) :
    ReturnsInHanded {} Try.checked os 5 .any (Rows.innerKeepsSpec.pre6 enc Try.prog Try.f5 Rows.innerKeepsRow.domain false) (Rows.innerKeepsSpec.post enc Try.prog Try.f5 false true false false) := by
  refine returnsInHanded_of_change (C := Try.checked) own_okM started (by kernel_rfl) Try.func5
    (ChangeSpec.witness6 (enc := enc) (C := Try.checked) false ⟨#[], #[.slice none 0 0, .slice none 0 0, .int .i64 0, .string ⟨#[]⟩, .string ⟨#[]⟩], []⟩ 8 (by kernel_rfl) (by kernel_rfl) (by kernel_rfl) (by kernel_rfl)) ?_
  intro W base args ds gs before hval0 hW hcnd _
  have hval : ∀ (j : Nat) t v, Try.f5.params[j]? = some t → args[j]? = some v → Value.okWide Try.prog W .any base t v := hval0
  have hW' := hW
  obtain ⟨p, q, hA0, hV, rfl, hfz, hnd⟩ := hW
  have hA : DataW.TrodAll enc Try.prog W 0 (fun _ => true) true Try.f5.params.toList args.toList ds p := hA0
  rw [Try.params5] at hA hval
  obtain ⟨v0, vs0, d0, ds0, p0, q0, hargs, rfl, rfl, h0, r0_⟩ := trodAll_cons hA
  obtain ⟨v1, vs1, d1, ds1, p1, q1, rfl, rfl, rfl, h1, r1_⟩ := trodAll_cons r0_
  obtain ⟨v2, vs2, d2, ds2, p2, q2, rfl, rfl, rfl, h2, r2_⟩ := trodAll_cons r1_
  obtain ⟨v3, vs3, d3, ds3, p3, q3, rfl, rfl, rfl, h3, r3_⟩ := trodAll_cons r2_
  obtain ⟨v4, vs4, d4, ds4, p4, q4, rfl, rfl, rfl, h4, r4_⟩ := trodAll_cons r3_
  obtain ⟨rfl, rfl, rfl⟩ := trodAll_nil r4_
  obtain rfl : args = #[v0, v1, v2, v3, v4] := by cases args; simp_all
  obtain ⟨rfl, rfl⟩ := trodVars_none hV
  have k0 := h0
  have lt0 : ∀ x ∈ p0, x.block < W.heap.size := by obtain ⟨m, hm⟩ := k0; exact DataW.trod_lt m _ _ _ hm
  obtain ⟨a0, len0, cap0, rfl⟩ := okWide_slice Try.underlying22 (hval 0 22 v0 rfl rfl)
  obtain ⟨⟨hb0, hc0⟩, zs0, hzl0, hzs0⟩ := open_intsN h0
  subst hzl0
  have k1 := h1
  have lt1 : ∀ x ∈ p1, x.block < W.heap.size := by obtain ⟨m, hm⟩ := k1; exact DataW.trod_lt m _ _ _ hm
  obtain ⟨a1, len1, cap1, rfl⟩ := okWide_slice Try.underlying23 (hval 1 23 v1 rfl rfl)
  obtain ⟨hb1, ps1, hpl1, hps1, hmb1⟩ := open_textsK h1
  have hc1 := open_cap Try.underlying23 h1
  subst hpl1
  obtain ⟨z2, rfl, rfl, rfl, wz2⟩ := open_int Try.underlying3 (hval 2 3 v2 rfl rfl) h2
  obtain ⟨s3, rfl, rfl, rfl, hs3⟩ := open_string Try.underlying9 (hval 3 9 v3 rfl rfl) h3
  obtain ⟨s4, rfl, rfl, rfl, hs4⟩ := open_string Try.underlying9 (hval 4 9 v4 rfl rfl) h4
  clear hA0 hval0
  have hw := innerKeeps_any zs0 hb0 a0 cap0 hc0 ps1 hb1 hmb1 a1 cap1 hc1 z2 s3.data.toList s4.data.toList (by rw [list_len]; exact hs3) (by rw [list_len]; exact hs4) W hzs0 hps1
  rw [← str_of s3] at hw
  rw [← str_of s4] at hw
  refine hw.mono fun e W' ⟨he, hst⟩ => ?_
  subst he
  have bel : Below W.heap.size W W' := hst.below (fun k hk => hk.elim)
  exact ⟨_, rfl, _, _, _, [], _, [], hW', trodAll_mk1 (shut_bool Try.underlying4 _),
    (trodAll_cons_mk (Below.trod laidOutM (by kernel_rfl) (of_decide_eq_true (by kernel_rfl)) k0 bel lt0) (trodAll_cons_mk (Below.trod laidOutM (by kernel_rfl) (of_decide_eq_true (by kernel_rfl)) k1 bel lt1) (trodAll_cons_mk (shut_int Try.underlying3 wz2) (trodAll_cons_mk (shut_string Try.underlying9 hs3) (trodAll_cons_mk (shut_string Try.underlying9 hs4) trodAll_mk0))))), rfl, bel.frame _, fun h => by cases h⟩

theorem over : Rows.innerKeepsRow.holds Try.pinned (OpenSpec.ofChange Rows.innerKeepsSpec) :=
  OpenClaim.holds_of_wide 5 Try.f5 rfl rfl rfl rfl rfl rfl rfl ⟨rfl, rfl, rfl, rfl, rfl⟩ rfl rfl rfl rfl rfl (by kernel_rfl) Try.func5 (by kernel_rfl)
    (of_decide_eq_true (by kernel_rfl)) (by unfold Func.isWrapper; first | (rw [if_pos (by decide +kernel)]; kernel_rfl) | (rw [if_neg (by decide +kernel)]; exact ⟨rfl, rfl⟩))
    (fun os started H enc _ => lifted os started H enc)
end Go.Proofs.Ytgmgoaencaldmaa.innerKeepsDone
namespace Go.Proofs.Ytgmgoaencaldmaa
theorem innerKeeps_holds : Rows.InnerKeepsSaid := innerKeepsDone.over
end Go.Proofs.Ytgmgoaencaldmaa
