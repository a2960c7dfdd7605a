/-
  What Swap and Fuse of package inner do.
-/
import Derived.Test.YtgmgoaencaldmaaGreatInF
namespace Go.Proofs.YtgmgoaencaldmaaGreat
open Go.RowKit Go.Sort
set_option linter.unusedVariables false
set_option linter.unusedSimpArgs false
set_option maxRecDepth 20000

theorem three_slices (w : World) (x y z : Value) (t : TypeId) : (w.alloc (.cells #[x, y, z] t)).cell? ⟨w.heap.size, 0, none⟩ = some x ∧ (w.alloc (.cells #[x, y, z] t)).cell? ⟨w.heap.size, 1, none⟩ = some y ∧ (w.alloc (.cells #[x, y, z] t)).cell? ⟨w.heap.size, 2, none⟩ = some z := by
  refine ⟨?_, ?_, ?_⟩ <;> rw [cell_of_block (block_alloc_new w _)] <;> rfl
theorem eachRefs_any (pts : List (List UInt8 × Int)) (n : Nat) (hn : pts.length = n) (hnl : n ≤ 1000) (a : Option Addr) (cap : Nat) (w : World) (h : PtsAt w a pts) :
    Calls Tryz.prog 54 #[.slice a n cap, .func (.func 55) #[] #[]] w fun e w' => ∃ g, e = .returned (.slice (some ⟨g, 0, none⟩) n n) ∧ Hid (RowAt w' noF (some ⟨g, 0, none⟩) (intsOf (pts.map (·.2)))) ∧ Hid (Step noF w w') := by
  refine (eachPI_any (fun x => x.2) n pts hn hnl a cap w h (fun j hj w' hs => ?_)).mono ?_
  · refine (refOf_any pts[j].1 pts[j].2 w').mono ?_
    rintro e w'' ⟨rfl, s⟩
    exact ⟨_, rfl, rfl, s⟩
  · rintro e w' ⟨g, ys, rfl, hl, hr, ho, hs⟩
    refine ⟨g, rfl, ?_, hs⟩
    obtain ⟨a', c', e1, _, _, hrow⟩ := owns_row1 ho.out
    injection e1 with e1 _ _
    subst e1
    have : ys = pts.map (·.2) := by
      refine List.ext_getElem (by rw [hl, List.length_map, hn]) (fun t h1 h2 => ?_)
      rw [List.getElem_map]
      exact hr.out t (by rw [List.length_map] at h2; exact h2) h1
    rw [← this]
    exact hrow
theorem eachLows_any (pts : List (List UInt8 × Int)) (n : Nat) (hn : pts.length = n) (hnl : n ≤ 1000) (a : Option Addr) (cap : Nat) (w : World) (h : PtsAt w a pts) :
    Calls Tryz.prog 57 #[.slice a n cap, .func (.func 58) #[] #[]] w fun e w' => ∃ g, e = .returned (.slice (some ⟨g, 0, none⟩) n n) ∧ Hid (RowAt w' noF (some ⟨g, 0, none⟩) (texts (pts.map (·.1)))) ∧ Hid (Step noF w w') := by
  refine (eachPT_any (fun x => x.1) n pts hn hnl a cap w h (fun j hj w' hs => ?_)).mono ?_
  · refine (lowOf_any pts[j].1 pts[j].2 w').mono ?_
    rintro e w'' ⟨rfl, s⟩
    exact ⟨_, rfl, rfl, s⟩
  · rintro e w' ⟨g, ys, rfl, hl, hr, ho, hs⟩
    refine ⟨g, rfl, ?_, hs⟩
    obtain ⟨a', c', e1, _, _, hrow⟩ := owns_row1 ho.out
    injection e1 with e1 _ _
    subst e1
    have : ys = pts.map (·.1) := by
      refine List.ext_getElem (by rw [hl, List.length_map, hn]) (fun t h1 h2 => ?_)
      rw [List.getElem_map]
      exact hr.out t (by rw [List.length_map] at h2; exact h2) h1
    rw [← this]
    exact hrow
theorem swapN_nil (z : Int) (a : Option Addr) (n c : Nat) (w : World) : Calls Tryz.prog 22 #[.pointer none, .int .i64 z, .slice a n c] w fun e w' => e = .returned (.tuple #[.pointer none, .int .i64 2]) ∧ w = w' := by
  go_enter Tryz.func22, Tryz.ntmps22
  go_wp2
  go_ret2
  exact ⟨rfl, rfl⟩
theorem swapN_no (p : Nat) (d : Nd) (z : Int) (hz : hasZ d.kids.length z = false) (a : Option Addr) (n c : Nat) (w : World) (h : InnerAt w p d) : Calls Tryz.prog 22 #[.pointer (some ⟨p, 0, none⟩), .int .i64 z, .slice a n c] w fun e w' => e = .returned (.tuple #[.pointer none, .int .i64 3]) ∧ w = w' := by
  have cH := hasN_any p d z w h
  rw [hz] at cH
  clear h
  go_enter Tryz.func22, Tryz.ntmps22
  go_wp2_with fail
  refine cH.mono ?_
  rintro e w' ⟨rfl, rfl⟩
  go_wp2_with fail
  go_ret2
  exact ⟨rfl, rfl⟩
theorem swapN_none (p : Nat) (d : Nd) (z : Int) (hz : hasZ d.kids.length z = true) (a : Option Addr) (c : Nat) (w : World) (h : InnerAt w p d) : Calls Tryz.prog 22 #[.pointer (some ⟨p, 0, none⟩), .int .i64 z, .slice a 0 c] w fun e w' => e = .returned (.tuple #[.pointer none, .int .i64 1]) ∧ w = w' := by
  have cH := hasN_any p d z w h
  rw [hz] at cH
  clear h
  go_enter Tryz.func22, Tryz.ntmps22
  go_wp2_with fail
  refine cH.mono ?_
  rintro e w' ⟨rfl, rfl⟩
  go_wp2_with fail
  go_ret2
  exact ⟨rfl, rfl⟩
theorem fuseN_nil (z r : Int) (w : World) : Calls Tryz.prog 23 #[.pointer none, .int .i64 z, .int .i64 r] w fun e w' => e = .returned (.tuple #[.pointer none, .int .i64 2]) ∧ w = w' := by
  go_enter Tryz.func23, Tryz.ntmps23
  go_wp2
  go_ret2
  exact ⟨rfl, rfl⟩
theorem fuseN_no (p : Nat) (d : Nd) (z : Int) (hz : hasZ d.kids.length z = false) (r : Int) (w : World) (h : InnerAt w p d) : Calls Tryz.prog 23 #[.pointer (some ⟨p, 0, none⟩), .int .i64 z, .int .i64 r] w fun e w' => e = .returned (.tuple #[.pointer none, .int .i64 3]) ∧ w = w' := by
  have cH := hasN_any p d z w h
  rw [hz] at cH
  clear h
  go_enter Tryz.func23, Tryz.ntmps23
  go_wp2_with fail
  refine cH.mono ?_
  rintro e w' ⟨rfl, rfl⟩
  go_wp2_with fail
  go_ret2
  exact ⟨rfl, rfl⟩
theorem fuseN_last (p : Nat) (d : Nd) (i : Nat) (hi : i + 1 = d.kids.length) (hl : d.kids.length ≤ 1000000) (r : Int) (w : World) (h : InnerAt w p d) : Calls Tryz.prog 23 #[.pointer (some ⟨p, 0, none⟩), .int .i64 i, .int .i64 r] w fun e w' => e = .returned (.tuple #[.pointer none, .int .i64 3]) ∧ w = w' := by
  have cH := hasN_any p d i w h
  have cH2 := hasN_any p d ((i : Int) + 1) w h
  rw [show hasZ d.kids.length i = true by unfold hasZ; simp; omega] at cH
  rw [show hasZ d.kids.length ((i : Int) + 1) = false by unfold hasZ; simp; omega] at cH2
  have w1 : IntKind.i64.wrap ((i : Int) + 1) = (i : Int) + 1 := by rw [IntKind.wrap_i64]; omega
  clear h hi
  go_enter Tryz.func23, Tryz.ntmps23
  go_wp2_with fail
  refine cH.mono ?_
  rintro e w' ⟨rfl, rfl⟩
  go_wp2_with fail
  refine cH2.mono ?_
  rintro e w' ⟨rfl, rfl⟩
  go_wp2_with fail
  go_ret2
  exact ⟨rfl, rfl⟩
theorem swapKids_cat (ks : List Int) (i : Nat) (rs : List Int) : ks.take i ++ (rs ++ ks.drop (i + 1)) = swapKids ks i rs := by unfold swapKids; rw [List.append_assoc]
theorem swapPivs_cat (ps : List (List UInt8)) (i : Nat) (ls : List (List UInt8)) : ps.take i ++ (ls.drop 1 ++ ps.drop i) = swapPivs ps i ls := by unfold swapPivs; rw [List.append_assoc]
theorem sl_of_own {w w' : World} {base : Nat} {e : TypeId} {v : Value} {n : Nat} {cs : List Value} (h : w.ownsRow base e 1 v n cs) : ∃ a c, v = .slice a n c ∧ SlAt w a n c cs := owns_row1 h
theorem drop_ints (zs : List Int) (t : Nat) : (intsOf zs).drop t = intsOf (zs.drop t) := by simp [intsOf, List.map_drop]
theorem drop_texts (zs : List (List UInt8)) (t : Nat) : (texts zs).drop t = texts (zs.drop t) := by simp [texts, List.map_drop]
theorem take_ints (zs : List Int) (t : Nat) : (intsOf zs).take t = intsOf (zs.take t) := by simp [intsOf, List.map_take]
theorem take_texts (zs : List (List UInt8)) (t : Nat) : (texts zs).take t = texts (zs.take t) := by simp [texts, List.map_take]
theorem row1_take {w : World} {a : Option Addr} {cs : List Value} (h : RowAt w noF a cs) (t : Nat) : RowAt w noF a (cs.take t) := by
  rcases h with rfl | ⟨b, o, h1, h2, h3⟩
  · left; simp
  · refine .inr ⟨b, o, h1, h2, fun j hj => ?_⟩
    simp at hj
    rw [List.getElem_take]
    exact h3 j (by omega)
theorem row1_drop {w : World} {g off : Nat} {cs : List Value} (h : RowAt w noF (some ⟨g, off, none⟩) cs) (t : Nat) : RowAt w noF (some ⟨g, off + t, none⟩) (cs.drop t) := by
  have := sub_row1 h t cs.length (Nat.le_refl _)
  rw [List.take_length] at this
  exact this
theorem row1_if {w : World} {g off j : Nat} {cs : List Value} (h : RowAt w noF (some ⟨g, off + j, none⟩) cs) (P : Prop) [Decidable P] (hP : P → cs = []) : RowAt w noF (if P then some ⟨g, off, none⟩ else some ⟨g, off + j, none⟩) cs := by
  split
  · rename_i hp
    exact .inl (hP hp)
  · exact h
theorem twos_if {α : Type} {f g : α → Value} {w : World} {b off t : Nat} {xs : List α} (h : TwosAt f g w (some ⟨b, off, none⟩) xs) (P : Prop) [Decidable P] (hP : P → xs.drop t = []) : TwosAt f g w (if P then some ⟨b, off, none⟩ else some ⟨b, off + t * 2, none⟩) (xs.drop t) := by
  split
  · rename_i hp
    exact .inl (hP hp)
  · exact h.drop t
theorem if_some {P : Prop} [Decidable P] {a b : Addr} {c : Nat} (e : (if P then some a else some b) = none) : c = 0 := by
  split at e <;> cases e
set_option maxHeartbeats 8000000 in
theorem swapN_any (p : Nat) (ks : List Int) (ps : List (List UInt8)) (ms : List Mg) (hl : ps.length + 1 = ks.length) (hk1 : ks.length ≤ 1000) (i : Nat) (hi : i < ks.length) (pts : List (List UInt8 × Int)) (m : Nat) (hm : pts.length = m) (hm0 : 0 < m) (hm1 : m ≤ 1000) (a0 : Option Addr) (cap0 : Nat) (hcap : m ≤ cap0) (w : World) (h : InnerAt w p ⟨ks, ps, ms⟩) (hpt : PtsAt w a0 pts) :
    Calls Tryz.prog 22 #[.pointer (some ⟨p, 0, none⟩), .int .i64 i, .slice a0 m cap0] w fun e w' => MadeN w' ⟨swapKids ks i (pts.map (·.2)), swapPivs ps i (pts.map (·.1)), ms⟩ e ∧ Step noF w w' := by
  have cH := hasN_any p ⟨ks, ps, ms⟩ i w h
  simp only at cH
  rw [show hasZ ks.length i = true by unfold hasZ; simp; omega] at cH
  obtain ⟨ka, pa, kc, pc, q, k0, k1, k2, hk, hp, hb⟩ := h.cell
  simp only at k0 k1 k2 hk hp hb
  have HK := hid hk
  have HP := hid hp
  have HB := hid hb
  have HPT := hid hpt
  obtain ⟨n, hn⟩ : ∃ n, ks.length = n := ⟨_, rfl⟩
  obtain ⟨pn, hpn⟩ : ∃ n, ps.length = n := ⟨_, rfl⟩
  obtain ⟨gp, op, rfl, tp0, tp1⟩ := TwosAt.at hpt 0 (by omega)
  clear tp0 tp1
  rw [hn] at k0
  rw [hpn] at k1
  have hkc : n ≤ kc := by have := hk.1; omega
  have hpc : pn ≤ pc := by have := hp.1; omega
  obtain ⟨ad, rfl⟩ : ∃ ad, ka = some ad := by
    cases ka with
    | none =>
      have := List.map_eq_nil_iff.1 (row1_none hk.2.2)
      rw [this] at hi
      simp at hi
    | some ad => exact ⟨ad, rfl⟩
  obtain ⟨g, off, rfl, _⟩ := row1_some hk.2.1
  have hpn1 : pn + 1 = n := by rw [← hpn, ← hn]; exact hl
  have hin : i < n := by omega
  have hn1 : n ≤ 1000 := by omega
  have hl0 : (ks.take i).length = i := by simp; omega
  have hl1 : (pts.map (·.2)).length = m := by rw [List.length_map]; exact hm
  have hl2 : (ks.drop (i + 1)).length = n - (i + 1) := by rw [List.length_drop, hn]
  have HRT := hid (show RowAt w noF (some ⟨g, off, none⟩) (intsOf (ks.take i)) by rw [← take_ints]; exact row1_take hk.2.2 i)
  have HRD := hid (show RowAt w noF (some ⟨g, off + (i + 1), none⟩) (intsOf (ks.drop (i + 1))) by rw [← drop_ints]; exact row1_drop hk.2.2 (i + 1))
  have cE1 := fun w' (hs : Step noF w w') => eachRefs_any pts m hm hm1 (some ⟨gp, op, none⟩) cap0 w' (hpt.step hs)
  have cC1 := fun (G : Nat) (a1 a2 : Option Addr) (c1 c2 : Nat) (w' : World) (hs : Step noF w w') (e0 : w'.cell? ⟨G, 0, none⟩ = some (.slice (some ⟨g, off, none⟩) i kc)) (e1 : w'.cell? ⟨G, 1, none⟩ = some (.slice a1 m c1)) (e2 : w'.cell? ⟨G, 2, none⟩ = some (.slice a2 (n - (i + 1)) c2)) (r1 : RowAt w' noF a1 (intsOf (pts.map (·.2)))) (r2 : RowAt w' noF a2 (intsOf (ks.drop (i + 1)))) (h1 : a1 = none → c1 = 0) (h2 : a2 = none → c2 = 0) =>
    concatI3_any G (ks.take i) (pts.map (·.2)) (ks.drop (i + 1)) (by rw [hl0, hl1, hl2]; omega) (some ⟨g, off, none⟩) a1 a2 kc c1 c2 3 w' (by rw [hl0]; exact e0) (by rw [hl1]; exact e1) (by rw [hl2]; exact e2) (rowAt_step HRT.out hs (fun _ _ h => h)) (fun e => by cases e) r1 h1 r2 h2
  rw [swapKids_cat] at cC1
  obtain ⟨KS, hKS⟩ : ∃ K, swapKids ks i (pts.map (·.2)) = K := ⟨_, rfl⟩
  rw [hKS] at cC1 ⊢
  obtain ⟨PS, hPS⟩ : ∃ K, swapPivs ps i (pts.map (·.1)) = K := ⟨_, rfl⟩
  rw [hPS]
  have HPS := hid hPS
  have hKL : KS.length ≤ 1000000 := by rw [← hKS]; simp [swapKids]; omega
  have hPL : PS.length ≤ 1000000 := by rw [← hPS]; simp [swapPivs]; omega
  obtain ⟨j1, hj1⟩ : ∃ j, i + 1 = j := ⟨_, rfl⟩
  have ej : (i : Int) + 1 = (j1 : Int) := by omega
  have wj : IntKind.i64.wrap (j1 : Int) = (j1 : Int) := by rw [IntKind.wrap_i64]; omega
  rw [hj1] at cC1
  rw [hj1] at HRD
  have HRX := hid (row1_if HRD.out (kc = j1) (fun e => by rw [List.drop_eq_nil_of_le (by omega)]; rfl))
  have q1 : (0 : Int) ≤ (i : Int) := by omega
  have q2 : (i : Int) ≤ (kc : Int) := by omega
  have q3 : (j1 : Int) ≤ (n : Int) := by omega
  have q4 : (n : Int) ≤ (kc : Int) := by omega
  have q5 : (0 : Int) ≤ (j1 : Int) := by omega
  have e1 : (n : Int) - (j1 : Int) = ((n - j1 : Nat) : Int) := by omega
  have e2 : (kc : Int) - (j1 : Int) = ((kc - j1 : Nat) : Int) := by omega
  have hmz : ¬ (m : Int) = 0 := by omega
  have hmz2 : ((m : Int) == 0) = false := by rw [beq_eq_false_iff_ne]; exact hmz
  have HI := hid h
  have HM := hid hm
  have HJ1 := hid hj1
  clear h hk hp hb hpt hl hKS hPS hm hn hl0 hl1 hl2 hj1
  go_enter Tryz.func22, Tryz.ntmps22
  go_wp2_with fail
  refine cH.mono ?_
  rintro e w1 ⟨rfl, rfl⟩
  go_upto_region 7 with fail
  go_cut [8] from 19 (fun s8 wx => ∃ a c, s8 = .slice a KS.length c ∧ Hid (SlAt wx a KS.length c (intsOf KS)) ∧ Hid (Step noF w wx))
  case first =>
    go_region_law (first
      | (refine step_calls rfl rfl Tryz.func54 (by kernel_rfl) (by kernel_rfl) (args := #[.slice (some ⟨gp, op, none⟩) m cap0, .func (.func 55) #[] #[]]) (by first | rfl | (simp [Act.eval, Act.put]; done)) ?_; refine (cE1 _ (by first | exact Step.refl noF w | exact (Step.refl noF w).drew | exact (Step.refl noF w).drewN _)).mono ?_; rintro e w6 ⟨g1, rfl, r6, s6⟩; have V0 : Hid (Step noF w w6) := (by first | exact s6.out | exact ((Step.refl noF w).drew).trans s6.out | exact ((Step.refl noF w).drewN _).trans s6.out); clear s6; have x0 := V0.out.after k0; refine ⟨_, rfl, ?_⟩)
      | (refine step_calls rfl rfl Tryz.func53 (by kernel_rfl) (by kernel_rfl) (args := #[.slice (some ⟨w6.heap.size, 0, none⟩) 3 3]) (by first | rfl | (simp [Act.eval, Act.put]; done)) ?_; refine (cC1 w6.heap.size _ _ _ _ _ (by first | exact V0.out.alloc _ | exact (V0.out.alloc _).drew | exact V0.out.drew.alloc _ | exact (V0.out.drewN _).alloc _) (by first | exact (three_slices w6 _ _ _ _).1 | exact ((Step.refl noF _).drew).after (three_slices w6 _ _ _ _).1) (by first | exact (three_slices w6 _ _ _ _).2.1 | exact ((Step.refl noF _).drew).after (three_slices w6 _ _ _ _).2.1) (by first | exact (three_slices w6 _ _ _ _).2.2 | exact ((Step.refl noF _).drew).after (three_slices w6 _ _ _ _).2.2) (by first | exact rowAt_step r6.out ((Step.refl noF w6).alloc _) (fun _ _ h => h) | exact rowAt_step r6.out (((Step.refl noF w6).alloc _).drew) (fun _ _ h => h)) (by first | exact rowAt_step HRX.out (V0.out.alloc _) (fun _ _ h => h) | exact rowAt_step HRX.out ((V0.out.alloc _).drew) (fun _ _ h => h)) (fun e => by cases e) (fun e => if_some e)).mono ?_; rintro e w7 ⟨v7, rfl, o7, s7⟩; obtain ⟨a7, c7, rfl, hs7⟩ := sl_of_own (w' := w7) o7; have HS7 := hid hs7; have V1 : Hid (Step noF w w7) := (by first | exact (V0.out.alloc _).trans s7 | exact ((V0.out.alloc _).drew).trans s7); clear s7 o7 hs7; refine ⟨_, rfl, ?_⟩))
    all_goals go_wp2_with fail
    all_goals go_meet
    all_goals exact ⟨a7, c7, rfl, HS7.out, V1.out⟩
  case rest =>
    obtain ⟨a8, c8, rfl, HK8, S8⟩ := hcut
    have l1 := S8.out.after k1
    have l2 := S8.out.after k2
    have hd1 : (pts.drop 1).length = m - 1 := by rw [List.length_drop, HM.out]
    have cE2 := fun w' (hs : Step noF w w') => eachLows_any (pts.drop 1) (m - 1) hd1 (by omega) (if cap0 = 1 then some ⟨gp, op, none⟩ else some ⟨gp, op + 1 * 2, none⟩) (cap0 - 1) w' (twos_if (TwosAt.step HPT.out hs) (cap0 = 1) (fun e => List.drop_eq_nil_of_le (by rw [HM.out]; omega)))
    have hm1z : (1 : Int) ≤ (m : Int) := by omega
    have hm2z : (1 : Int) ≤ (cap0 : Int) := by omega
    have hm3z : (m : Int) ≤ (cap0 : Int) := by omega
    have em1 : (m : Int) - 1 = ((m - 1 : Nat) : Int) := by omega
    have em2 : (cap0 : Int) - 1 = ((cap0 - 1 : Nat) : Int) := by omega
    have hlm : ((pts.drop 1).map (·.1)).length = m - 1 := by rw [List.length_map]; exact hd1
    have hlp0 : (ps.take i).length = i := by simp; omega
    have hlp2 : (ps.drop i).length = pn - i := by rw [List.length_drop, hpn]
    have HPS2 : Hid (ps.take i ++ ((pts.drop 1).map (·.1) ++ ps.drop i) = PS) := by show _ = _; rw [← HPS.out, ← swapPivs_cat, List.map_drop]
    have S8o := S8.out
    clear cE1 cC1 cH e1 e2 ej wj q1 q2 q3 q4 q5 HRX HRD HRT
    cases pa with
    | none =>
      have hp0 : ps = [] := List.map_eq_nil_iff.1 (row1_none HP.out.2.2)
      have hpc0 : pc = 0 := HP.out.2.1.1 rfl
      have hpn0 : pn = 0 := by rw [← hpn, hp0]; rfl
      have hi0 : i = 0 := by omega
      have hn10 : n = 1 := by omega
      subst hpc0 hpn0 hi0 hn10
      clear hpn1
      have cC2 := fun (G : Nat) (a1 : Option Addr) (c1 : Nat) (w' : World) (hs : Step noF w w') (e0 : w'.cell? ⟨G, 0, none⟩ = some (.slice none 0 0)) (e1 : w'.cell? ⟨G, 1, none⟩ = some (.slice a1 (m - 1) c1)) (e2 : w'.cell? ⟨G, 2, none⟩ = some (.slice none 0 0)) (r1 : RowAt w' noF a1 (texts ((pts.drop 1).map (·.1)))) (h1 : a1 = none → c1 = 0) =>
        concatT3_any G (ps.take 0) ((pts.drop 1).map (·.1)) (ps.drop 0) (by rw [hlp0, hlm, hlp2]; omega) none a1 none 0 c1 0 3 w' (by rw [hlp0]; exact e0) (by rw [hlm]; exact e1) (by rw [hlp2]; exact e2) (.inl (by rw [hp0]; rfl)) (fun _ => rfl) r1 h1 (.inl (by rw [hp0]; rfl)) (fun _ => rfl)
      rw [HPS2.out] at cC2
      go_upto_region 8 with fail
      go_cut [2, 9] from 10 (fun s2 s9 wx => ∃ a c, s9 = .slice a PS.length c ∧ Hid (SlAt wx a PS.length c (texts PS)) ∧ Hid (Step noF wc wx))
      case first =>
        go_region_law (first
          | (refine step_calls rfl rfl Tryz.func57 (by kernel_rfl) (by kernel_rfl) (args := #[.slice (if cap0 = 1 then some ⟨gp, op, none⟩ else some ⟨gp, op + 1 * 2, none⟩) (m - 1) (cap0 - 1), .func (.func 58) #[] #[]]) (by first | rfl | (simp [Act.eval, Act.put]; done)) ?_; refine (cE2 _ (by first | exact S8o | exact S8o.drew | exact S8o.drewN _)).mono ?_; rintro e w6 ⟨g1, rfl, r6, s6⟩; have V0 : Hid (Step noF wc w6) := (by first | exact s6.out | exact ((Step.refl noF wc).drew).trans s6.out | exact ((Step.refl noF wc).drewN _).trans s6.out); clear s6; have x0 := V0.out.after l1; refine ⟨_, rfl, ?_⟩)
          | (refine step_calls rfl rfl Tryz.func56 (by kernel_rfl) (by kernel_rfl) (args := #[.slice (some ⟨w6.heap.size, 0, none⟩) 3 3]) (by first | rfl | (simp [Act.eval, Act.put]; done)) ?_; refine (cC2 w6.heap.size _ _ _ (by first | exact (S8o.trans V0.out).alloc _ | exact ((S8o.trans V0.out).alloc _).drew) (by first | exact (three_slices w6 _ _ _ _).1 | exact ((Step.refl noF _).drew).after (three_slices w6 _ _ _ _).1) (by first | exact (three_slices w6 _ _ _ _).2.1 | exact ((Step.refl noF _).drew).after (three_slices w6 _ _ _ _).2.1) (by first | exact (three_slices w6 _ _ _ _).2.2 | exact ((Step.refl noF _).drew).after (three_slices w6 _ _ _ _).2.2) (by first | exact rowAt_step r6.out ((Step.refl noF w6).alloc _) (fun _ _ h => h) | exact rowAt_step r6.out (((Step.refl noF w6).alloc _).drew) (fun _ _ h => h)) (fun e => by cases e)).mono ?_; rintro e w7 ⟨v7, rfl, o7, s7⟩; obtain ⟨a7, c7, rfl, hs7⟩ := sl_of_own (w' := w7) o7; have HS7 := hid hs7; have V1 : Hid (Step noF wc w7) := (by first | exact (V0.out.alloc _).trans s7 | exact ((V0.out.alloc _).drew).trans s7); clear s7 o7 hs7; refine ⟨_, rfl, ?_⟩))
        all_goals go_wp2_with fail
        all_goals go_meet
        all_goals exact ⟨a7, c7, rfl, HS7.out, V1.out⟩
      case rest =>
        obtain ⟨a9, c9, rfl, HP9, S9⟩ := hcut
        have m2 := S9.out.after l2
        have S89 := hid (S8o.trans S9.out)
        have cB := build_any KS PS ms hKL hPL a8 a9 c8 c9 q
        have HK9 := hid (HK8.out.step S9.out)
        have HB9 := hid (HB.out.step S89.out)
        obtain ⟨L1, hL1⟩ : ∃ L, KS.length = L := ⟨_, rfl⟩
        obtain ⟨L2, hL2⟩ : ∃ L, PS.length = L := ⟨_, rfl⟩
        rw [hL1] at cB HK9 ⊢
        rw [hL2] at cB HP9 ⊢
        clear hL1 hL2 cE2 cC2
        go_wp2_with fail
        refine (cB _ HK9.out HP9.out HB9.out).mono ?_
        rintro e w5 ⟨hmd, s5⟩
        have S5 := hid (S89.out.trans s5)
        clear s5 cB
        rcases hmd with ⟨h1, rfl⟩ | ⟨h1, p', rfl, hi⟩
        · have H1 := hid h1
          clear h1
          go_wp2_with fail
          go_ret2
          exact ⟨.inl ⟨H1.out, rfl⟩, S5.out⟩
        · have H1 := hid h1
          have HI' := hid hi
          clear h1 hi
          go_wp2_with fail
          go_ret2
          exact ⟨.inr ⟨H1.out, p', rfl, HI'.out⟩, S5.out⟩
    | some pd =>
      obtain ⟨g2, off2, rfl, _⟩ := row1_some HP.out.2.1
      have p2 : (0 : Int) ≤ (i : Int) := by omega
      have p3 : (i : Int) ≤ (pn : Int) := by omega
      have p4 : (i : Int) ≤ (pc : Int) := by omega
      have p5 : (pn : Int) ≤ (pc : Int) := by omega
      have f1 : (pn : Int) - (i : Int) = ((pn - i : Nat) : Int) := by omega
      have f2 : (pc : Int) - (i : Int) = ((pc - i : Nat) : Int) := by omega
      have HRT2 := hid (show RowAt w noF (some ⟨g2, off2, none⟩) (texts (ps.take i)) by rw [← take_texts]; exact row1_take HP.out.2.2 i)
      have HRX2 := hid (row1_if (show RowAt w noF (some ⟨g2, off2 + i, none⟩) (texts (ps.drop i)) by rw [← drop_texts]; exact row1_drop HP.out.2.2 i) (pc = i) (fun e => by rw [List.drop_eq_nil_of_le (by omega)]; rfl))
      have cC2 := fun (G : Nat) (a1 a2 : Option Addr) (c1 c2 : Nat) (w' : World) (hs : Step noF w w') (e0 : w'.cell? ⟨G, 0, none⟩ = some (.slice (some ⟨g2, off2, none⟩) i pc)) (e1 : w'.cell? ⟨G, 1, none⟩ = some (.slice a1 (m - 1) c1)) (e2 : w'.cell? ⟨G, 2, none⟩ = some (.slice a2 (pn - i) c2)) (r1 : RowAt w' noF a1 (texts ((pts.drop 1).map (·.1)))) (r2 : RowAt w' noF a2 (texts (ps.drop i))) (h1 : a1 = none → c1 = 0) (h2 : a2 = none → c2 = 0) =>
        concatT3_any G (ps.take i) ((pts.drop 1).map (·.1)) (ps.drop i) (by rw [hlp0, hlm, hlp2]; omega) (some ⟨g2, off2, none⟩) a1 a2 pc c1 c2 3 w' (by rw [hlp0]; exact e0) (by rw [hlm]; exact e1) (by rw [hlp2]; exact e2) (rowAt_step HRT2.out hs (fun _ _ h => h)) (fun e => by cases e) r1 h1 r2 h2
      rw [HPS2.out] at cC2
      go_upto_region 8 with fail
      go_cut [2, 9] from 10 (fun s2 s9 wx => ∃ a c, s9 = .slice a PS.length c ∧ Hid (SlAt wx a PS.length c (texts PS)) ∧ Hid (Step noF wc wx))
      case first =>
        go_region_law (first
          | (refine step_calls rfl rfl Tryz.func57 (by kernel_rfl) (by kernel_rfl) (args := #[.slice (if cap0 = 1 then some ⟨gp, op, none⟩ else some ⟨gp, op + 1 * 2, none⟩) (m - 1) (cap0 - 1), .func (.func 58) #[] #[]]) (by first | rfl | (simp [Act.eval, Act.put]; done)) ?_; refine (cE2 _ (by first | exact S8o | exact S8o.drew | exact S8o.drewN _)).mono ?_; rintro e w6 ⟨g1, rfl, r6, s6⟩; have V0 : Hid (Step noF wc w6) := (by first | exact s6.out | exact ((Step.refl noF wc).drew).trans s6.out | exact ((Step.refl noF wc).drewN _).trans s6.out); clear s6; have x0 := V0.out.after l1; refine ⟨_, rfl, ?_⟩)
          | (refine step_calls rfl rfl Tryz.func56 (by kernel_rfl) (by kernel_rfl) (args := #[.slice (some ⟨w6.heap.size, 0, none⟩) 3 3]) (by first | rfl | (simp [Act.eval, Act.put]; done)) ?_; refine (cC2 w6.heap.size _ _ _ _ _ (by first | exact (S8o.trans V0.out).alloc _ | exact ((S8o.trans V0.out).alloc _).drew) (by first | exact (three_slices w6 _ _ _ _).1 | exact ((Step.refl noF _).drew).after (three_slices w6 _ _ _ _).1) (by first | exact (three_slices w6 _ _ _ _).2.1 | exact ((Step.refl noF _).drew).after (three_slices w6 _ _ _ _).2.1) (by first | exact (three_slices w6 _ _ _ _).2.2 | exact ((Step.refl noF _).drew).after (three_slices w6 _ _ _ _).2.2) (by first | exact rowAt_step r6.out ((Step.refl noF w6).alloc _) (fun _ _ h => h) | exact rowAt_step r6.out (((Step.refl noF w6).alloc _).drew) (fun _ _ h => h)) (by first | exact rowAt_step HRX2.out ((S8o.trans V0.out).alloc _) (fun _ _ h => h) | exact rowAt_step HRX2.out (((S8o.trans V0.out).alloc _).drew) (fun _ _ h => h)) (fun e => by cases e) (fun e => if_some e)).mono ?_; rintro e w7 ⟨v7, rfl, o7, s7⟩; obtain ⟨a7, c7, rfl, hs7⟩ := sl_of_own (w' := w7) o7; have HS7 := hid hs7; have V1 : Hid (Step noF wc w7) := (by first | exact (V0.out.alloc _).trans s7 | exact ((V0.out.alloc _).drew).trans s7); clear s7 o7 hs7; refine ⟨_, rfl, ?_⟩))
        all_goals go_wp2_with fail
        all_goals go_meet
        all_goals exact ⟨a7, c7, rfl, HS7.out, V1.out⟩
      case rest =>
        obtain ⟨a9, c9, rfl, HP9, S9⟩ := hcut
        have m2 := S9.out.after l2
        have S89 := hid (S8o.trans S9.out)
        have cB := build_any KS PS ms hKL hPL a8 a9 c8 c9 q
        have HK9 := hid (HK8.out.step S9.out)
        have HB9 := hid (HB.out.step S89.out)
        obtain ⟨L1, hL1⟩ : ∃ L, KS.length = L := ⟨_, rfl⟩
        obtain ⟨L2, hL2⟩ : ∃ L, PS.length = L := ⟨_, rfl⟩
        rw [hL1] at cB HK9 ⊢
        rw [hL2] at cB HP9 ⊢
        clear hL1 hL2 cE2 cC2
        go_wp2_with fail
        refine (cB _ HK9.out HP9.out HB9.out).mono ?_
        rintro e w5 ⟨hmd, s5⟩
        have S5 := hid (S89.out.trans s5)
        clear s5 cB
        rcases hmd with ⟨h1, rfl⟩ | ⟨h1, p', rfl, hi⟩
        · have H1 := hid h1
          clear h1
          go_wp2_with fail
          go_ret2
          exact ⟨.inl ⟨H1.out, rfl⟩, S5.out⟩
        · have H1 := hid h1
          have HI' := hid hi
          clear h1 hi
          go_wp2_with fail
          go_ret2
          exact ⟨.inr ⟨H1.out, p', rfl, HI'.out⟩, S5.out⟩
end Go.Proofs.YtgmgoaencaldmaaGreat
