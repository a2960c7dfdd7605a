/-
  What Of of package inner does.
-/
import Derived.Test.YtoobelcphcndoaaGreatInA
import Derived.Test.YtoobelcphcndoaaGreatBfC
import Derived.Deep.Cut
namespace Go.Proofs.YtoobelcphcndoaaGreat
open Go.RowKit Go.Sort
set_option linter.unusedVariables false
set_option linter.unusedSimpArgs false
set_option maxRecDepth 20000

/-- A node that can be, of no great size. -/
def NdOk (d : Nd) : Prop := goodN d.kids d.pivs = true ∧ GoodM d.ms ∧ RisingM d.ms ∧ d.kids.length ≤ 1000 ∧ d.ms.length ≤ 100000
theorem NdOk.len {d : Nd} (h : NdOk d) : d.pivs.length + 1 = d.kids.length := ((goodN_iff _ _).1 h.1).2.1
theorem NdOk.pivs {d : Nd} (h : NdOk d) : (∀ p ∈ d.pivs, isK p = true) ∧ d.pivs.Pairwise (fun a b => a < b) := ((goodN_iff _ _).1 h.1).2.2.2
/-- What Of answers. -/
def OfPost (w : World) (ks : List Int) (ps : List (List UInt8)) (ms : List Mg) (e : Ending) : Prop := ((ms.all Mg.is && goodN ks ps) = false ∧ e = .returned (.tuple #[.pointer none, .int .i64 1])) ∨ ((ms.all Mg.is && goodN ks ps) = true ∧ ∃ p, e = .returned (.tuple #[.pointer (some ⟨p, 0, none⟩), .int .i64 0]) ∧ InnerAt w p ⟨ks, ps, putsM ms []⟩)
set_option maxHeartbeats 2000000 in
theorem ofN_any (ks : List Int) (ps : List (List UInt8)) (ms : List Mg) (hkl : ks.length ≤ 1000000) (hpl : ps.length ≤ 1000000) (hml : ms.length ≤ 400000) (hms : ∀ m ∈ ms, m.val.length ≤ maxLen) (ka pa a : Option Addr) (kc pc c : Nat) (hkc : ka = none → kc = 0) (hpc : pa = none → pc = 0) (hc : a = none → c = 0) (w : World) (hk : RowAt w noF ka (intsOf ks)) (hp : RowAt w noF pa (texts ps)) (hm : MsgsAt w noF a ms) :
    Calls Tryz.prog 35 #[.slice ka ks.length kc, .slice pa ps.length pc, .slice a ms.length c] w fun e w' => OfPost w' ks ps ms e ∧ Step noF w w' := by
  have cO := ofB_any ms hms hml a c hc w hm
  have cK := fun w' (hs : Step noF w w') => cloneI_any ks hkl ka kc w' (rowAt_step hk hs (fun _ _ h => h)) hkc
  have cP := fun w' (hs : Step noF w w') => cloneT_any ps hpl pa pc w' (rowAt_step hp hs (fun _ _ h => h)) hpc
  clear hk hp hm hms hkc hpc hc
  cases hall : ms.all Mg.is
  · have HA : Hid ((ms.all Mg.is && goodN ks ps) = false) := by show _ = _; rw [hall]; rfl
    have HA0 := hid hall
    clear hall
    go_enter Tryz.func35, Tryz.ntmps35
    go_wp2_with fail
    refine cO.mono ?_
    rintro e w2 ⟨hb, s2⟩
    have S2 := hid s2
    clear s2
    rcases hb with ⟨_, rfl⟩ | ⟨h1, _⟩
    · go_wp2_with fail
      go_ret2
      exact ⟨.inl ⟨HA.out, rfl⟩, S2.out⟩
    · exact absurd h1 (by rw [HA0.out]; simp)
  · have HA : Hid ((ms.all Mg.is && goodN ks ps) = goodN ks ps) := by show _ = _; rw [hall]; rfl
    have HA0 := hid hall
    clear hall
    go_enter Tryz.func35, Tryz.ntmps35
    go_wp2_with fail
    refine cO.mono ?_
    rintro e w2 ⟨hb, s2⟩
    have S2 := hid s2
    clear s2
    rcases hb with ⟨h1, _⟩ | ⟨_, q, rfl, hb⟩
    · exact absurd HA0.out (by rw [h1]; simp)
    have HB := hid hb
    clear hb
    go_wp2_with fail
    refine (cK _ S2.out).mono ?_
    rintro e w3 ⟨v, rfl, o3, s3⟩
    obtain ⟨ka3, kc3, rfl, x1, x2, x3⟩ := o3.row
    have K3 : Hid (SlAt w3 ka3 ks.length kc3 (intsOf ks)) := ⟨x1, x2, x3⟩
    have T3 := hid s3
    have S3 := hid (S2.out.trans s3)
    clear o3 s3 x1 x2 x3
    go_wp2_with fail
    refine (cP _ S3.out).mono ?_
    rintro e w4 ⟨v, rfl, o4, s4⟩
    obtain ⟨pa4, pc4, rfl, x1, x2, x3⟩ := o4.row
    have P4 : Hid (SlAt w4 pa4 ps.length pc4 (texts ps)) := ⟨x1, x2, x3⟩
    have K4 := hid (K3.out.step s4)
    have B4 := hid (HB.out.step (T3.out.trans s4))
    have S4 := hid (S3.out.trans s4)
    clear o4 s4 x1 x2 x3
    have cB := build_any ks ps (putsM ms []) hkl hpl ka3 pa4 kc3 pc4 q w4 K4.out P4.out B4.out
    go_wp2_with fail
    refine cB.mono ?_
    rintro e w5 ⟨hmd, s5⟩
    have S5 := hid (S4.out.trans s5)
    clear s5 cB
    rcases hmd with ⟨h1, rfl⟩ | ⟨h1, p, rfl, hi⟩
    · have H1 := hid h1
      clear h1
      go_wp2_with fail
      go_ret2
      exact ⟨.inl ⟨by rw [HA.out]; exact H1.out, rfl⟩, S5.out⟩
    · have H1 := hid h1
      have HI := hid hi
      clear h1 hi
      go_wp2_with fail
      go_ret2
      exact ⟨.inr ⟨by rw [HA.out]; exact H1.out, p, rfl, HI.out⟩, S5.out⟩
theorem ndOk_of {ks : List Int} {ps : List (List UInt8)} {ms : List Mg} (h : (ms.all Mg.is && goodN ks ps) = true) (hk : ks.length ≤ 1000) (hm : ms.length ≤ 1000) : NdOk ⟨ks, ps, putsM ms []⟩ := by
  rw [Bool.and_eq_true] at h
  have hG : GoodM ms := List.all_eq_true.1 h.1
  have hp := putsM_all ms hG [] (fun _ h => by simp at h) List.Pairwise.nil
  have hl := putsM_len ms []
  refine ⟨h.2, hp.1, hp.2, hk, ?_⟩
  show (putsM ms []).length ≤ 100000
  simp at hl
  omega
end Go.Proofs.YtoobelcphcndoaaGreat
