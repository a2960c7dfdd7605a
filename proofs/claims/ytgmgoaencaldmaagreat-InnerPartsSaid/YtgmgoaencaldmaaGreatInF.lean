/-
  What Of, Put and Flush of package inner do.
-/
import Derived.Test.YtgmgoaencaldmaaGreatInE
import Derived.Deep.Cut
namespace Go.Proofs.YtgmgoaencaldmaaGreat
open Go.RowKit Go.Sort
set_option linter.unusedVariables false
set_option linter.unusedSimpArgs false
set_option maxRecDepth 20000

/-- A node that can be, of no great size. -/
def NdOk (d : Nd) : Prop := goodN d.kids d.pivs = true ∧ GoodM d.ms ∧ RisingM d.ms ∧ d.kids.length ≤ 1000 ∧ d.ms.length ≤ 100000
theorem NdOk.len {d : Nd} (h : NdOk d) : d.pivs.length + 1 = d.kids.length := ((goodN_iff _ _).1 h.1).2.1
theorem NdOk.pivs {d : Nd} (h : NdOk d) : (∀ p ∈ d.pivs, isK p = true) ∧ d.pivs.Pairwise (fun a b => a < b) := ((goodN_iff _ _).1 h.1).2.2.2
/-- What Of answers. -/
def OfPost (w : World) (ks : List Int) (ps : List (List UInt8)) (ms : List Mg) (e : Ending) : Prop := ((ms.all Mg.is && goodN ks ps) = false ∧ e = .returned (.tuple #[.pointer none, .int .i64 1])) ∨ ((ms.all Mg.is && goodN ks ps) = true ∧ ∃ p, e = .returned (.tuple #[.pointer (some ⟨p, 0, none⟩), .int .i64 0]) ∧ InnerAt w p ⟨ks, ps, putsM ms []⟩)
set_option maxHeartbeats 2000000 in
theorem ofN_any (ks : List Int) (ps : List (List UInt8)) (ms : List Mg) (hkl : ks.length ≤ 1000000) (hpl : ps.length ≤ 1000000) (hml : ms.length ≤ 400000) (hms : ∀ m ∈ ms, m.val.length ≤ maxLen) (ka pa a : Option Addr) (kc pc c : Nat) (hkc : ka = none → kc = 0) (hpc : pa = none → pc = 0) (hc : a = none → c = 0) (w : World) (hk : RowAt w noF ka (intsOf ks)) (hp : RowAt w noF pa (texts ps)) (hm : MsgsAt w noF a ms) :
    Calls Tryz.prog 8 #[.slice ka ks.length kc, .slice pa ps.length pc, .slice a ms.length c] w fun e w' => OfPost w' ks ps ms e ∧ Step noF w w' := by
  have cO := ofB_any ms hms hml a c hc w hm
  have cK := fun w' (hs : Step noF w w') => cloneI_any ks hkl ka kc w' (rowAt_step hk hs (fun _ _ h => h)) hkc
  have cP := fun w' (hs : Step noF w w') => cloneT_any ps hpl pa pc w' (rowAt_step hp hs (fun _ _ h => h)) hpc
  clear hk hp hm hms hkc hpc hc
  cases hall : ms.all Mg.is
  · have HA : Hid ((ms.all Mg.is && goodN ks ps) = false) := by show _ = _; rw [hall]; rfl
    have HA0 := hid hall
    clear hall
    go_enter Tryz.func8, Tryz.ntmps8
    go_wp2_with fail
    refine cO.mono ?_
    rintro e w2 ⟨hb, s2⟩
    have S2 := hid s2
    clear s2
    rcases hb with ⟨_, rfl⟩ | ⟨h1, _⟩
    · go_wp2_with fail
      go_ret2
      exact ⟨.inl ⟨HA.out, rfl⟩, S2.out⟩
    · exact absurd h1 (by rw [HA0.out]; simp)
  · have HA : Hid ((ms.all Mg.is && goodN ks ps) = goodN ks ps) := by show _ = _; rw [hall]; rfl
    have HA0 := hid hall
    clear hall
    go_enter Tryz.func8, Tryz.ntmps8
    go_wp2_with fail
    refine cO.mono ?_
    rintro e w2 ⟨hb, s2⟩
    have S2 := hid s2
    clear s2
    rcases hb with ⟨h1, _⟩ | ⟨_, q, rfl, hb⟩
    · exact absurd HA0.out (by rw [h1]; simp)
    have HB := hid hb
    clear hb
    go_wp2_with fail
    refine (cK _ S2.out).mono ?_
    rintro e w3 ⟨v, rfl, o3, s3⟩
    obtain ⟨ka3, kc3, rfl, x1, x2, x3⟩ := o3.row
    have K3 : Hid (SlAt w3 ka3 ks.length kc3 (intsOf ks)) := ⟨x1, x2, x3⟩
    have T3 := hid s3
    have S3 := hid (S2.out.trans s3)
    clear o3 s3 x1 x2 x3
    go_wp2_with fail
    refine (cP _ S3.out).mono ?_
    rintro e w4 ⟨v, rfl, o4, s4⟩
    obtain ⟨pa4, pc4, rfl, x1, x2, x3⟩ := o4.row
    have P4 : Hid (SlAt w4 pa4 ps.length pc4 (texts ps)) := ⟨x1, x2, x3⟩
    have K4 := hid (K3.out.step s4)
    have B4 := hid (HB.out.step (T3.out.trans s4))
    have S4 := hid (S3.out.trans s4)
    clear o4 s4 x1 x2 x3
    have cB := build_any ks ps (putsM ms []) hkl hpl ka3 pa4 kc3 pc4 q w4 K4.out P4.out B4.out
    go_wp2_with fail
    refine cB.mono ?_
    rintro e w5 ⟨hmd, s5⟩
    have S5 := hid (S4.out.trans s5)
    clear s5 cB
    rcases hmd with ⟨h1, rfl⟩ | ⟨h1, p, rfl, hi⟩
    · have H1 := hid h1
      clear h1
      go_wp2_with fail
      go_ret2
      exact ⟨.inl ⟨by rw [HA.out]; exact H1.out, rfl⟩, S5.out⟩
    · have H1 := hid h1
      have HI := hid hi
      clear h1 hi
      go_wp2_with fail
      go_ret2
      exact ⟨.inr ⟨by rw [HA.out]; exact H1.out, p, rfl, HI.out⟩, S5.out⟩

/-- What Put answers. -/
def PutPost (w : World) (d : Nd) (ms : List Mg) (e : Ending) : Prop := (ms.all Mg.is = false ∧ e = .returned (.tuple #[.pointer none, .int .i64 1])) ∨ (ms.all Mg.is = true ∧ ∃ p, e = .returned (.tuple #[.pointer (some ⟨p, 0, none⟩), .int .i64 0]) ∧ InnerAt w p ⟨d.kids, d.pivs, putsM ms d.ms⟩)
set_option maxHeartbeats 1000000 in
theorem putN_any (p : Nat) (d : Nd) (hd : NdOk d) (ms : List Mg) (hml : ms.length ≤ 100000) (hms : ∀ m ∈ ms, m.val.length ≤ maxLen) (a : Option Addr) (c : Nat) (hc : a = none → c = 0) (w : World) (h : InnerAt w p d) (hm : MsgsAt w noF a ms) :
    Calls Tryz.prog 20 #[.pointer (some ⟨p, 0, none⟩), .slice a ms.length c] w fun e w' => PutPost w' d ms e ∧ Step noF w w' := by
  obtain ⟨ka, pa, kc, pc, q, k0, k1, k2, hk, hp, hb⟩ := h.cell
  have cW := withB_any q d.ms hd.2.2.1 hd.2.1 ms hms (by have := hd.2.2.2.2; omega) a c hc w hb hm
  have HI := hid h
  clear h hk hp hb hm hms hc k0 k1
  go_enter Tryz.func20, Tryz.ntmps20
  go_wp2_with fail
  refine cW.mono ?_
  rintro e w2 ⟨hb, s2⟩
  have S2 := hid s2
  clear s2
  rcases hb with ⟨h1, rfl⟩ | ⟨h1, q2, rfl, hb⟩
  · have H1 := hid h1
    clear h1
    go_wp2_with fail
    go_ret2
    exact ⟨.inl ⟨H1.out, rfl⟩, S2.out⟩
  · have H1 := hid h1
    have cB := withBuff_any p q2 d (putsM ms d.ms) w2 (HI.out.step S2.out) hb
    clear h1 hb
    go_wp2_with fail
    refine cB.mono ?_
    rintro e w3 ⟨p', rfl, hi, s3⟩
    have H3 := hid hi
    have S3 := hid (S2.out.trans s3)
    clear hi s3
    go_wp2_with fail
    go_ret2
    exact ⟨.inr ⟨H1.out, p', rfl, H3.out⟩, S3.out⟩
theorem putN_nil (a : Option Addr) (n c : Nat) (w : World) : Calls Tryz.prog 20 #[.pointer none, .slice a n c] w fun e w' => e = .returned (.tuple #[.pointer none, .int .i64 2]) ∧ w = w' := by
  go_enter Tryz.func20, Tryz.ntmps20
  go_wp2
  go_ret2
  exact ⟨rfl, rfl⟩

theorem flushN_nil (z : Int) (w : World) : Calls Tryz.prog 17 #[.pointer none, .int .i64 z] w fun e w' => e = .returned (.tuple #[.pointer none, .slice none 0 0, .int .i64 2]) ∧ w = w' := by
  go_enter Tryz.func17, Tryz.ntmps17
  go_wp2
  refine bodyPost_ret (v := .tuple #[.pointer none, .slice none 0 0, .int .i64 2]) (by simp [results, Tryz.results17, go_sem, *]) rfl ?_
  exact ⟨rfl, rfl⟩
theorem flushN_no (p : Nat) (d : Nd) (z : Int) (hz : hasZ d.kids.length z = false) (w : World) (h : InnerAt w p d) : Calls Tryz.prog 17 #[.pointer (some ⟨p, 0, none⟩), .int .i64 z] w fun e w' => e = .returned (.tuple #[.pointer none, .slice none 0 0, .int .i64 3]) ∧ w = w' := by
  have cH := hasN_any p d z w h
  rw [hz] at cH
  clear h
  go_enter Tryz.func17, Tryz.ntmps17
  go_wp2_with fail
  refine cH.mono ?_
  rintro e w' ⟨rfl, rfl⟩
  go_wp2_with fail
  refine bodyPost_ret (v := .tuple #[.pointer none, .slice none 0 0, .int .i64 3]) (by simp [results, Tryz.results17, go_sem, *]) rfl ?_
  exact ⟨rfl, rfl⟩
set_option maxHeartbeats 4000000 in
theorem flushN_any (p : Nat) (d : Nd) (hd : NdOk d) (i : Nat) (hi : i < d.kids.length) (w : World) (h : InnerAt w p d) :
    Calls Tryz.prog 17 #[.pointer (some ⟨p, 0, none⟩), .int .i64 i] w fun e w' => ∃ (p' : Nat) (a : Option Addr) (c : Nat), e = .returned (.tuple #[.pointer (some ⟨p', 0, none⟩), .slice a (takeM (rangeN ⟨[], []⟩ d.pivs i) d.ms).length c, .int .i64 0]) ∧ Hid (a = none → c = 0) ∧ Hid (InnerAt w' p' ⟨d.kids, d.pivs, dropM (rangeN ⟨[], []⟩ d.pivs i) d.ms⟩) ∧ Hid (MsgsAt w' noF a (takeM (rangeN ⟨[], []⟩ d.pivs i) d.ms)) ∧ Hid (Step noF w w') := by
  have h0 := nil_str
  have cH := hasN_any p d i w h
  rw [show hasZ d.kids.length i = true by unfold hasZ; simp; omega] at cH
  have cR := rangeN_any p d.kids d.pivs d.ms hd.len (by have := hd.len; have := hd.2.2.2.1; omega) i hi ⟨[], []⟩ w h
  obtain ⟨R, hR⟩ : ∃ R, rangeN ⟨[], []⟩ d.pivs i = R := ⟨_, rfl⟩
  rw [hR] at cR ⊢
  have HI := hid h
  have HD := hid hd
  clear h hR hd
  go_enter Tryz.func17, Tryz.ntmps17
  go_wp2_with fail
  refine cH.mono ?_
  rintro e w1 ⟨rfl, rfl⟩
  go_wp2_with fail
  refine cR.mono ?_
  rintro e w2 ⟨rfl, s2⟩
  have S2 := hid s2
  have st : Step noF w2 (w2.alloc (.cells #[.string (str R.lo), .string (str R.hi)] 26)) := (Step.refl noF w2).alloc _
  have I3 := hid (HI.out.step (s2.trans st))
  have S3 := hid (s2.trans st)
  obtain ⟨b0, b1⟩ := two_new w2 (.string (str R.lo)) (.string (str R.hi)) 26
  clear s2 cR cH st
  go_upto_region 6 with fail
  obtain ⟨W, hW⟩ : ∃ W, w2.alloc (.cells #[.string (str R.lo), .string (str R.hi)] 26) = W := ⟨_, rfl⟩
  rw [hW] at I3 S3 b0 b1 ⊢
  clear hW
  obtain ⟨ka, pa, kc, pc, q, k0, k1, k2, hk, hp, hb⟩ := I3.out.cell
  have cO := fun w' (hs : Step noF W w') => withoutB_any q d.ms (by have := HD.out.2.2.2.2; omega) HD.out.2.2.1 HD.out.2.1 R w' (hb.step hs)
  have cT := fun w' (hs : Step noF W w') => takeB_any q d.ms (by have := HD.out.2.2.2.2; omega) HD.out.2.2.1 HD.out.2.1 R w' (hb.step hs)
  have cB := fun q2 w' (hs : Step noF W w') hb2 => withBuff_any p q2 d (dropM R d.ms) w' (I3.out.step hs) hb2
  clear k0 k1 hk hp
  go_region_law (first
    | (refine step_calls rfl rfl Tryz.func48 (by kernel_rfl) (by kernel_rfl) (args := #[.pointer (some ⟨q, 0, none⟩), .agg #[.string (str R.lo), .string (str R.hi)]]) (by first | rfl | (simp [Act.eval, Act.put]; done)) ?_; refine (cO _ (by first | exact (Step.refl noF W).drewN _ | exact (Step.refl noF W).drew | exact Step.refl noF W | exact V1.out)).mono ?_; rintro e w6 ⟨q2, rfl, l0, t0⟩; have V0 : Hid (Step noF W w6) := (by first | exact ((Step.refl noF W).drewN _).trans t0 | exact ((Step.refl noF W).drew).trans t0 | exact V1.out.trans t0 | exact t0); have L0 := hid l0; have T0 := hid t0; clear l0 t0; have x0 := V0.out.after b0; have x1 := V0.out.after b1; have x2 := V0.out.after k2; refine ⟨_, rfl, ?_⟩)
    | (refine step_calls rfl rfl Tryz.func49 (by kernel_rfl) (by kernel_rfl) (args := #[.pointer (some ⟨q, 0, none⟩), .agg #[.string (str R.lo), .string (str R.hi)]]) (by first | rfl | (simp [Act.eval, Act.put]; done)) ?_; refine (cT _ (by first | exact (Step.refl noF W).drewN _ | exact (Step.refl noF W).drew | exact Step.refl noF W | exact V2.out | exact V0.out)).mono ?_; rintro e w7 ⟨v7, rfl, l1, t1⟩; obtain ⟨ta, tc, rfl, _, tn, tm⟩ := owns_msgs l1; have V1 : Hid (Step noF W w7) := (by first | exact ((Step.refl noF W).drewN _).trans t1 | exact ((Step.refl noF W).drew).trans t1 | exact V2.out.trans t1 | exact V0.out.trans t1 | exact t1); have T1 := hid t1; have TN := hid tn.1; have TM := hid tm; clear l1 t1 tn tm; have y0 := V1.out.after b0; have y1 := V1.out.after b1; have y2 := V1.out.after k2; refine ⟨_, rfl, ?_⟩)
    | (refine step_calls rfl rfl Tryz.func47 (by kernel_rfl) (by kernel_rfl) (args := #[.pointer (some ⟨p, 0, none⟩), .pointer (some ⟨q2, 0, none⟩)]) (by first | rfl | (simp [Act.eval, Act.put]; done)) ?_; refine (cB _ _ (by first | exact V1.out | exact V0.out) (by first | exact L0.out.step T1.out | exact L0.out)).mono ?_; rintro e w8 ⟨p', rfl, l2, t2⟩; have V2 : Hid (Step noF W w8) := (by first | exact V1.out.trans t2 | exact V0.out.trans t2); have L2 := hid l2; have T2 := hid t2; clear l2 t2; have z0 := V2.out.after b0; have z1 := V2.out.after b1; have z2 := V2.out.after k2; refine ⟨_, rfl, ?_⟩))
  all_goals
    go_wp2_with fail
    refine bodyPost_ret (v := .tuple #[.pointer (some ⟨p', 0, none⟩), .slice ta (takeM R d.ms).length tc, .int .i64 0]) (by simp [results, Tryz.results17, go_sem, *]) rfl ?_
    exact ⟨p', ta, tc, rfl, TN, (by first | exact L2.out | exact L2.out.step T1.out), (by first | exact TM.out | exact MsgsAt.stepB TM.out T2.out | exact MsgsAt.stepB TM.out (T0.out.trans T2.out)), (by first | exact S3.out.trans V2.out | exact S3.out.trans V1.out)⟩
end Go.Proofs.YtgmgoaencaldmaaGreat
