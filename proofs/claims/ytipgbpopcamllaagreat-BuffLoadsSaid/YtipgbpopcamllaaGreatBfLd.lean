/-
  The law BuffLoads: the weights of the parts, and which one is the heaviest; of nil there is nothing.
-/
import Derived.Test.YtipgbpopcamllaaGreatBfRL
import Derived.Test.YtipgbpopcamllaaGreatBfAw
namespace Go.Proofs.YtipgbpopcamllaaGreat
open Go.RowKit Go.Sort
set_option linter.unusedVariables false
set_option linter.unusedSimpArgs false
set_option maxRecDepth 20000

theorem sameBf_left (p : Nat) (w : World) : Calls Tryz.prog 22 #[.pointer none, .pointer (some ⟨p, 0, none⟩)] w fun e w' => e = .returned (.bool false) ∧ w = w' := by
  have hq : ∀ w : World, (binOp .eql 27 (.pointer none) (.pointer (some ⟨p, 0, none⟩))).run Tryz.prog w = .ok (.bool false) w := fun w => by kernel_rfl
  go_enter Tryz.func22, Tryz.ntmps22
  go_wp2
  go_ret
  exact ⟨rfl, rfl⟩
set_option maxHeartbeats 8000000 in
theorem buffLoads_any (ms : List Mg) (hx : ms.length ≤ maxLen) (hq : ∀ m ∈ ms, m.key.length ≤ maxLen ∧ m.val.length ≤ maxLen) (a : Option Addr) (c : Nat) (hc : a = none → c = 0) (ps : List (List UInt8)) (hpx : ps.length ≤ maxLen) (hpq : ∀ x ∈ ps, x.length ≤ maxLen) (b : Option Addr) (d : Nat) (w : World) (h : MsgsAt w noF a ms) (hr : RowAt w noF b (texts ps)) :
    Calls Tryz.prog 3 #[.slice a ms.length c, .slice b ps.length d] w fun e w' => e = .returned (.bool true) ∧ Step noF w w' := by
  have h0 := nil_str
  have HX := hid hx
  have HQ := hid hq
  have HPX := hid hpx
  have HPQ := hid hpq
  have HC := hid hc
  have HMR := hid h
  have HPR := hid hr
  have n1 : ∀ w, Calls Tryz.prog 15 #[.pointer none, .slice none 0 0] w fun e w' => e = .returned (.tuple #[.pointer none, .int .i64 2]) ∧ w = w' := fun w => withB_nil none 0 0 w
  have n2 : ∀ w, Calls Tryz.prog 16 #[.pointer none, .string ⟨#[97]⟩] w fun e w' => e = .returned (.tuple #[.agg #[.int .i64 0, .string (str []), .string (str [])], .bool false]) ∧ Step noF w w' := fun w => findB_nil [97] w
  have n3 := fun w => takeB_nil ⟨[], []⟩ w
  have n4 := fun w => withoutB_nil ⟨[], []⟩ w
  simp only at n3 n4
  have n5 := fun g w => loadsB_nil (some ⟨g, 0, none⟩) 1 1 w
  have n6 := fun w => heaviestB_nil none 0 0 w
  clear hx hq hpx hpq hc h hr
  go_enter Tryz.func3, Tryz.ntmps3
  go_wp2_with fail
  refine (awakeB_any _).mono ?_
  rintro e w1 ⟨rfl, s1⟩
  have S1 := hid s1
  clear s1
  go_wp2_with fail
  refine (heavyB_any ms HX.out HQ.out a c w1 (HMR.out.stepB S1.out)).mono ?_
  rintro e w1' ⟨hg, rfl⟩
  rcases hg with rfl | ⟨rfl, hl0, _⟩
  · go_wp2_with fail
    go_ret
    exact ⟨rfl, S1.out⟩
  go_wp2_with fail
  refine (wideB_any ps HPX.out HPQ.out b d w1 (HPR.out.step S1.out)).mono ?_
  rintro e w1' ⟨hg, rfl⟩
  rcases hg with rfl | ⟨rfl, hl1, _⟩
  · go_wp2_with fail
    go_ret
    exact ⟨rfl, S1.out⟩
  go_wp2_with fail
  refine (ofB_any ms (fun m hm => (HQ.out m hm).2) (by omega) a c HC.out w1 (HMR.out.stepB S1.out)).mono ?_
  rintro e w2 ⟨ho, s2⟩
  have S3 := hid (S1.out.trans s2)
  clear s2
  rcases ho with ⟨hall, rfl⟩ | ⟨hall, p, rfl, hb2⟩
  · clear hall
    go_wp2_with fail
    go_ret
    exact ⟨rfl, S3.out⟩
  have HALL := hid hall
  have HG0 : Hid (GoodM ms) := List.all_eq_true.1 hall
  have hgr := putsM_all ms HG0.out [] (fun _ h => by simp at h) List.Pairwise.nil
  have hUl := putsM_len ms []
  have cV := refWithB_any [] List.Pairwise.nil (fun _ h => by simp at h) ms (by simp; omega) none 0 (fun _ => rfl) a c w2 (.inl rfl) (HMR.out.stepB S3.out)
  rw [List.length_nil] at cV
  obtain ⟨U, hU⟩ : ∃ U, putsM ms [] = U := ⟨_, rfl⟩
  rw [hU] at hgr hb2 hUl cV
  have HGU := hid hgr.1
  have HRU := hid hgr.2
  have hUl2 : U.length ≤ 40 := by simp at hUl; omega
  have HSU := hid (good_small hgr.1 (by omega))
  have B2 := hid hb2
  clear hall hgr hb2 hUl hU
  go_wp2_with fail
  refine cV.mono ?_
  rintro e w3 ⟨hv, s3⟩
  rcases hv with ⟨h1, _⟩ | ⟨_, v3, rfl, ua, uc, rfl, hun, hum⟩
  · exact absurd HALL.out (by rw [h1]; simp)
  have S4 := hid (S3.out.trans s3)
  have B3 := hid (B2.out.step s3)
  have UR := hid hum
  clear s3 hun hum cV B2 S3
  have cL := loadsB_any p U HSU.out HRU.out HGU.out ps (by omega) b d w3 B3.out (HPR.out.step S4.out)
  have cL2 := fun w' (hs : Step noF w3 w') => refLoadsB_any U HSU.out ps (by omega) ua uc b d w' (UR.out.stepB hs) (HPR.out.step (S4.out.trans hs))
  have cH := fun w' (hs : Step noF w3 w') => heaviestB_any p U HSU.out HRU.out HGU.out ps (by omega) b d w' (B3.out.step hs) (HPR.out.step (S4.out.trans hs))
  have cH2 := fun w' (hs : Step noF w3 w') => refHeaviestB_any U HSU.out ps (by omega) ua uc b d w' (UR.out.stepB hs) (HPR.out.step (S4.out.trans hs))
  unfold LoadsPost at cL
  have HL := hid (loadsM_len ps U)
  obtain ⟨ls, hls⟩ : ∃ ls, loadsM ps U = ls := ⟨_, rfl⟩
  rw [hls] at cL HL
  simp only [hls] at cL2 cH cH2
  obtain ⟨n, hn⟩ : ∃ n, ps.length + 1 = n := ⟨_, rfl⟩
  rw [hn] at cL HL
  simp only [hn] at cH cH2
  have hnl : (natsZ ls).length = n := by unfold natsZ; rw [List.length_map]; exact HL.out
  simp only [hnl] at cL2
  obtain ⟨Z, hZ⟩ : ∃ Z, bestZ ls n = Z := ⟨_, rfl⟩
  simp only [hZ] at cH cH2
  have hnn : n ≤ 21 := by omega
  have cI := fun a1 a2 c1 c2 w' h1 h2 => ints_same (natsZ ls) (by omega) a1 a2 c1 c2 w' h1 h2
  rw [hnl] at cI
  clear hls hn hnl hZ
  go_wp2_with fail
  refine cL.mono ?_
  rintro e w4 ⟨⟨gl, rfl, hol⟩, s4⟩
  have HRO : Hid (RowAt w4 noF (some ⟨gl, 0, none⟩) (intsOf (natsZ ls))) := (owns_rowIn2 hol).1.rowAt
  have T4 := hid s4
  clear s4 hol cL
  go_wp2_with fail
  refine (cL2 w4 T4.out).mono ?_
  rintro e w5 ⟨a5, c5, rfl, h5, s5⟩
  have T5 := hid (T4.out.trans s5.out)
  go_wp2_with fail
  refine (cI _ _ _ _ w5 (HRO.out.step s5.out) h5.out).mono ?_
  rintro e w6 ⟨rfl, s6⟩
  have T6 := hid (T5.out.trans s6)
  clear s5 s6 h5 cI cL2
  go_wp2_with fail
  refine (cH w6 T6.out).mono ?_
  rintro e w7 ⟨rfl, s7⟩
  have T7 := hid (T6.out.trans s7)
  clear s7
  go_wp2_with fail
  refine (cH2 w7 T7.out).mono ?_
  rintro e w8 ⟨rfl, s8⟩
  have T8 := hid (S4.out.trans (T7.out.trans s8))
  clear s8 cH cH2
  go_wp2_with fail
  refine (n1 _).mono ?_
  rintro e w8' ⟨rfl, rfl⟩
  go_wp2_with fail
  refine (n2 _).mono ?_
  rintro e w9 ⟨rfl, s9⟩
  have T9 := hid (T8.out.trans s9)
  clear s9
  go_wp2_with fail
  refine (lenB_nil _).mono ?_
  rintro e wa ⟨rfl, rfl⟩
  go_wp2_with fail
  refine (weightB_nil _).mono ?_
  rintro e wa ⟨rfl, rfl⟩
  go_wp2_with fail
  refine (listB_nil _).mono ?_
  rintro e wa ⟨rfl, rfl⟩
  go_wp2_with fail
  refine (n3 _).mono ?_
  rintro e wa ⟨rfl, sa⟩
  have TA := hid ((T9.out.alloc _).trans sa)
  clear sa
  go_wp2_with fail
  refine (n5 _ _).mono ?_
  rintro e wb ⟨rfl, rfl⟩
  go_wp2_with fail
  refine (n4 _).mono ?_
  rintro e wc ⟨rfl, sc⟩
  have TC := hid ((TA.out.alloc _).trans sc)
  clear sc
  go_wp2_with fail
  refine (n6 _).mono ?_
  rintro e wd ⟨rfl, sd⟩
  have TD := hid (TC.out.trans sd)
  clear sd
  go_wp2_with fail
  refine (sameBf_nil _).mono ?_
  rintro e we ⟨rfl, rfl⟩
  go_wp2_with fail
  refine (sameBf_left p _).mono ?_
  rintro e we ⟨rfl, rfl⟩
  go_wp2_with fail
  go_ret
  exact ⟨rfl, TD.out⟩
end Go.Proofs.YtipgbpopcamllaaGreat
