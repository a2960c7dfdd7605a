/-
  What Fuse of package inner does.
-/
import Derived.Test.YtgmgoaencaldmaaGreatInG
namespace Go.Proofs.YtgmgoaencaldmaaGreat
open Go.RowKit Go.Sort
set_option linter.unusedVariables false
set_option linter.unusedSimpArgs false
set_option maxRecDepth 20000

theorem three_slices1 (w : World) (o : Obj) (x y z : Value) (t : TypeId) : ((w.alloc o).alloc (.cells #[x, y, z] t)).cell? ⟨w.heap.size + 1, 0, none⟩ = some x ∧ ((w.alloc o).alloc (.cells #[x, y, z] t)).cell? ⟨w.heap.size + 1, 1, none⟩ = some y ∧ ((w.alloc o).alloc (.cells #[x, y, z] t)).cell? ⟨w.heap.size + 1, 2, none⟩ = some z := by
  have := three_slices (w.alloc o) x y z t
  rw [World.size_alloc] at this
  exact this
theorem one_row (w : World) (x : Int) : RowAt (w.alloc (.cells #[.int .i64 x] 3)) noF (some ⟨w.heap.size, 0, none⟩) (intsOf [x]) := by
  refine .inr ⟨w.heap.size, 0, rfl, fun h => h, fun j hj => ?_⟩
  obtain rfl : j = 0 := by simp [intsOf] at hj; omega
  rw [cell_of_block (block_alloc_new w _)]
  rfl
theorem fuseKids_cat (ks : List Int) (i : Nat) (r : Int) : ks.take i ++ ([r] ++ ks.drop (i + 2)) = fuseKids ks i r := by unfold fuseKids; rw [List.append_assoc]
set_option maxHeartbeats 8000000 in
theorem fuseN_any (p : Nat) (ks : List Int) (ps : List (List UInt8)) (ms : List Mg) (hl : ps.length + 1 = ks.length) (hk1 : ks.length ≤ 1000) (i : Nat) (hi : i + 1 < ks.length) (r : Int) (w : World) (h : InnerAt w p ⟨ks, ps, ms⟩) :
    Calls Tryz.prog 23 #[.pointer (some ⟨p, 0, none⟩), .int .i64 i, .int .i64 r] w fun e w' => MadeN w' ⟨fuseKids ks i r, fusePivs ps i, ms⟩ e ∧ Step noF w w' := by
  have cH := hasN_any p ⟨ks, ps, ms⟩ i w h
  have cH2 := hasN_any p ⟨ks, ps, ms⟩ ((i : Int) + 1) w h
  simp only at cH cH2
  rw [show hasZ ks.length i = true by unfold hasZ; simp; omega] at cH
  rw [show hasZ ks.length ((i : Int) + 1) = true by unfold hasZ; simp; omega] at cH2
  obtain ⟨ka, pa, kc, pc, q, k0, k1, k2, hk, hp, hb⟩ := h.cell
  simp only at k0 k1 k2 hk hp hb
  have HK := hid hk
  have HP := hid hp
  have HB := hid hb
  obtain ⟨n, hn⟩ : ∃ n, ks.length = n := ⟨_, rfl⟩
  obtain ⟨pn, hpn⟩ : ∃ n, ps.length = n := ⟨_, rfl⟩
  rw [hn] at k0
  rw [hpn] at k1
  have hkc : n ≤ kc := by have := hk.1; omega
  have hpc : pn ≤ pc := by have := hp.1; omega
  obtain ⟨ad, rfl⟩ : ∃ ad, ka = some ad := by
    cases ka with
    | none =>
      have := List.map_eq_nil_iff.1 (row1_none hk.2.2)
      rw [this] at hi
      simp at hi
    | some ad => exact ⟨ad, rfl⟩
  obtain ⟨pd, rfl⟩ : ∃ ad, pa = some ad := by
    cases pa with
    | none =>
      have := List.map_eq_nil_iff.1 (row1_none hp.2.2)
      have hz : ps.length = 0 := by rw [this]; rfl
      omega
    | some ad => exact ⟨ad, rfl⟩
  obtain ⟨g, off, rfl, _⟩ := row1_some hk.2.1
  obtain ⟨g2, off2, rfl, _⟩ := row1_some hp.2.1
  have hpn1 : pn + 1 = n := by rw [← hpn, ← hn]; exact hl
  have hin : i + 1 < n := by omega
  have hn1 : n ≤ 1000 := by omega
  have hl0 : (ks.take i).length = i := by simp; omega
  have hl2 : (ks.drop (i + 2)).length = n - (i + 2) := by rw [List.length_drop, hn]
  have hlp0 : (ps.take i).length = i := by simp; omega
  have hlp2 : (ps.drop (i + 1)).length = pn - (i + 1) := by rw [List.length_drop, hpn]
  have HRT := hid (show RowAt w noF (some ⟨g, off, none⟩) (intsOf (ks.take i)) by rw [← take_ints]; exact row1_take hk.2.2 i)
  have HRX := hid (row1_if (show RowAt w noF (some ⟨g, off + (i + 2), none⟩) (intsOf (ks.drop (i + 2))) by rw [← drop_ints]; exact row1_drop hk.2.2 (i + 2)) (kc = i + 2) (fun e => by rw [List.drop_eq_nil_of_le (by omega)]; rfl))
  have HRT2 := hid (show RowAt w noF (some ⟨g2, off2, none⟩) (texts (ps.take i)) by rw [← take_texts]; exact row1_take hp.2.2 i)
  have HRX2 := hid (row1_if (show RowAt w noF (some ⟨g2, off2 + (i + 1), none⟩) (texts (ps.drop (i + 1))) by rw [← drop_texts]; exact row1_drop hp.2.2 (i + 1)) (pc = i + 1) (fun e => by rw [List.drop_eq_nil_of_le (by omega)]; rfl))
  have cC1 := fun (G : Nat) (a1 a2 : Option Addr) (c1 c2 : Nat) (w' : World) (hs : Step noF w w') (e0 : w'.cell? ⟨G, 0, none⟩ = some (.slice (some ⟨g, off, none⟩) i kc)) (e1 : w'.cell? ⟨G, 1, none⟩ = some (.slice a1 1 c1)) (e2 : w'.cell? ⟨G, 2, none⟩ = some (.slice a2 (n - (i + 2)) c2)) (r1 : RowAt w' noF a1 (intsOf [r])) (r2 : RowAt w' noF a2 (intsOf (ks.drop (i + 2)))) (h1 : a1 = none → c1 = 0) (h2 : a2 = none → c2 = 0) =>
    concatI3_any G (ks.take i) [r] (ks.drop (i + 2)) (by rw [hl0, hl2]; simp; omega) (some ⟨g, off, none⟩) a1 a2 kc c1 c2 3 w' (by rw [hl0]; exact e0) e1 (by rw [hl2]; exact e2) (rowAt_step HRT.out hs (fun _ _ h => h)) (fun e => by cases e) r1 h1 r2 h2
  rw [fuseKids_cat] at cC1
  have cC2 := fun (G : Nat) (a2 : Option Addr) (c2 : Nat) (w' : World) (hs : Step noF w w') (e0 : w'.cell? ⟨G, 0, none⟩ = some (.slice (some ⟨g2, off2, none⟩) i pc)) (e2 : w'.cell? ⟨G, 1, none⟩ = some (.slice a2 (pn - (i + 1)) c2)) (r2 : RowAt w' noF a2 (texts (ps.drop (i + 1)))) (h2 : a2 = none → c2 = 0) =>
    concatT2_any G (ps.take i) (ps.drop (i + 1)) (by rw [hlp0, hlp2]; omega) (some ⟨g2, off2, none⟩) a2 pc c2 2 w' (by rw [hlp0]; exact e0) (by rw [hlp2]; exact e2) (rowAt_step HRT2.out hs (fun _ _ h => h)) (fun e => by cases e) r2 h2
  obtain ⟨KS, hKS⟩ : ∃ K, fuseKids ks i r = K := ⟨_, rfl⟩
  rw [hKS] at cC1 ⊢
  obtain ⟨PS, hPS⟩ : ∃ K, fusePivs ps i = K := ⟨_, rfl⟩
  rw [show ps.take i ++ ps.drop (i + 1) = PS from hPS] at cC2
  rw [hPS]
  have hKL : KS.length ≤ 1000000 := by rw [← hKS]; simp [fuseKids]; omega
  have hPL : PS.length ≤ 1000000 := by rw [← hPS]; simp [fusePivs]; omega
  obtain ⟨j1, hj1⟩ : ∃ j, i + 1 = j := ⟨_, rfl⟩
  obtain ⟨j2, hj2⟩ : ∃ j, i + 2 = j := ⟨_, rfl⟩
  have ej : (i : Int) + 1 = (j1 : Int) := by omega
  have ej2 : (i : Int) + 2 = (j2 : Int) := by omega
  have wj : IntKind.i64.wrap (j1 : Int) = (j1 : Int) := by rw [IntKind.wrap_i64]; omega
  have wj2 : IntKind.i64.wrap (j2 : Int) = (j2 : Int) := by rw [IntKind.wrap_i64]; omega
  rw [hj2] at cC1 HRX
  rw [hj1] at cC2 HRX2
  rw [ej] at cH2
  have q1 : (0 : Int) ≤ (i : Int) := by omega
  have q2 : (i : Int) ≤ (kc : Int) := by omega
  have q3 : (j2 : Int) ≤ (n : Int) := by omega
  have q4 : (n : Int) ≤ (kc : Int) := by omega
  have q5 : (0 : Int) ≤ (j2 : Int) := by omega
  have e1 : (n : Int) - (j2 : Int) = ((n - j2 : Nat) : Int) := by omega
  have e2 : (kc : Int) - (j2 : Int) = ((kc - j2 : Nat) : Int) := by omega
  have p3 : (j1 : Int) ≤ (pn : Int) := by omega
  have p4 : (i : Int) ≤ (pc : Int) := by omega
  have p5 : (pn : Int) ≤ (pc : Int) := by omega
  have p6 : (0 : Int) ≤ (j1 : Int) := by omega
  have f1 : (pn : Int) - (j1 : Int) = ((pn - j1 : Nat) : Int) := by omega
  have f2 : (pc : Int) - (j1 : Int) = ((pc - j1 : Nat) : Int) := by omega
  clear h hk hp hb hl hKS hPS hn hpn hl0 hl2 hlp0 hlp2 hj1 hj2 hpn1
  go_enter Tryz.func23, Tryz.ntmps23
  go_wp2_with fail
  refine cH.mono ?_
  rintro e w1 ⟨rfl, rfl⟩
  go_wp2_with fail
  refine cH2.mono ?_
  rintro e w1 ⟨rfl, rfl⟩
  go_upto_region 5 with fail
  go_cut [8] from 10 (fun s8 wx => ∃ a c, s8 = .slice a KS.length c ∧ Hid (SlAt wx a KS.length c (intsOf KS)) ∧ Hid (Step noF w wx))
  case first =>
    have kA0 := fun o => cell_alloc k0 o
    go_region_law (refine step_calls rfl rfl Tryz.func53 (by kernel_rfl) (by kernel_rfl) (args := #[.slice (some ⟨w.heap.size + 1, 0, none⟩) 3 3]) (by first | rfl | (simp [Act.eval, Act.put]; done)) ?_; refine (cC1 (w.heap.size + 1) _ _ _ _ _ (by first | exact ((Step.refl noF w).alloc _).alloc _ | exact (((Step.refl noF w).alloc _).alloc _).drew | exact (((Step.refl noF w).drew).alloc _).alloc _) (by first | exact (three_slices1 w _ _ _ _ _).1 | exact ((Step.refl noF _).drew).after (three_slices1 w _ _ _ _ _).1) (by first | exact (three_slices1 w _ _ _ _ _).2.1 | exact ((Step.refl noF _).drew).after (three_slices1 w _ _ _ _ _).2.1) (by first | exact (three_slices1 w _ _ _ _ _).2.2 | exact ((Step.refl noF _).drew).after (three_slices1 w _ _ _ _ _).2.2) (by first | exact rowAt_step (one_row w r) ((Step.refl noF _).alloc _) (fun _ _ h => h) | exact rowAt_step (one_row w r) (((Step.refl noF _).alloc _).drew) (fun _ _ h => h)) (by first | exact rowAt_step HRX.out (((Step.refl noF w).alloc _).alloc _) (fun _ _ h => h) | exact rowAt_step HRX.out ((((Step.refl noF w).alloc _).alloc _).drew) (fun _ _ h => h)) (fun e => by cases e) (fun e => if_some e)).mono ?_; rintro e w7 ⟨v7, rfl, o7, s7⟩; obtain ⟨a7, c7, rfl, hs7⟩ := sl_of_own (w' := w7) o7; have HS7 := hid hs7; have V1 : Hid (Step noF w w7) := (by first | exact (((Step.refl noF w).alloc _).alloc _).trans s7 | exact ((((Step.refl noF w).alloc _).alloc _).drew).trans s7 | exact ((((Step.refl noF w).drew).alloc _).alloc _).trans s7); clear s7 o7 hs7; refine ⟨_, rfl, ?_⟩)
    all_goals go_wp2_with fail
    all_goals go_meet
    all_goals exact ⟨a7, c7, rfl, HS7.out, V1.out⟩
  case rest =>
    obtain ⟨a8, c8, rfl, HK8, S8⟩ := hcut
    have l1 := S8.out.after k1
    have l2 := S8.out.after k2
    have S8o := S8.out
    clear cC1 cH cH2 ej2 wj2 q3 q5 e1 e2 HRX HRT k0
    go_upto_region 6 with fail
    go_cut [9] from 10 (fun s9 wx => ∃ a c, s9 = .slice a PS.length c ∧ Hid (SlAt wx a PS.length c (texts PS)) ∧ Hid (Step noF wc wx))
    case first =>
      go_region_law (refine step_calls rfl rfl Tryz.func56 (by kernel_rfl) (by kernel_rfl) (args := #[.slice (some ⟨wc.heap.size, 0, none⟩) 2 2]) (by first | rfl | (simp [Act.eval, Act.put]; done)) ?_; refine (cC2 wc.heap.size _ _ _ (by first | exact S8o.alloc _ | exact (S8o.alloc _).drew) (by first | exact (two_slices wc _ _ _).1 | exact ((Step.refl noF _).drew).after (two_slices wc _ _ _).1) (by first | exact (two_slices wc _ _ _).2 | exact ((Step.refl noF _).drew).after (two_slices wc _ _ _).2) (by first | exact rowAt_step HRX2.out (S8o.alloc _) (fun _ _ h => h) | exact rowAt_step HRX2.out ((S8o.alloc _).drew) (fun _ _ h => h)) (fun e => if_some e)).mono ?_; rintro e w7 ⟨v7, rfl, o7, s7⟩; obtain ⟨a7, c7, rfl, hs7⟩ := sl_of_own (w' := w7) o7; have HS7 := hid hs7; have V1 : Hid (Step noF wc w7) := (by first | exact ((Step.refl noF wc).alloc _).trans s7 | exact (((Step.refl noF wc).alloc _).drew).trans s7); clear s7 o7 hs7; refine ⟨_, rfl, ?_⟩)
      all_goals go_wp2_with fail
      all_goals go_meet
      all_goals exact ⟨a7, c7, rfl, HS7.out, V1.out⟩
    case rest =>
      obtain ⟨a9, c9, rfl, HP9, S9⟩ := hcut
      have m2 := S9.out.after l2
      have S89 := hid (S8o.trans S9.out)
      have cB := build_any KS PS ms hKL hPL a8 a9 c8 c9 q
      have HK9 := hid (HK8.out.step S9.out)
      have HB9 := hid (HB.out.step S89.out)
      obtain ⟨L1, hL1⟩ : ∃ L, KS.length = L := ⟨_, rfl⟩
      obtain ⟨L2, hL2⟩ : ∃ L, PS.length = L := ⟨_, rfl⟩
      rw [hL1] at cB HK9 ⊢
      rw [hL2] at cB HP9 ⊢
      clear hL1 hL2 cC2 ej wj p3 p4 p5 p6 f1 f2
      go_wp2_with fail
      refine (cB _ HK9.out HP9.out HB9.out).mono ?_
      rintro e w5 ⟨hmd, s5⟩
      have S5 := hid (S89.out.trans s5)
      clear s5 cB
      rcases hmd with ⟨h1, rfl⟩ | ⟨h1, p', rfl, hi⟩
      · have H1 := hid h1
        clear h1
        go_wp2_with fail
        go_ret2
        exact ⟨.inl ⟨H1.out, rfl⟩, S5.out⟩
      · have H1 := hid h1
        have HI' := hid hi
        clear h1 hi
        go_wp2_with fail
        go_ret2
        exact ⟨.inr ⟨H1.out, p', rfl, HI'.out⟩, S5.out⟩
end Go.Proofs.YtgmgoaencaldmaaGreat
