/-
  KeyParts: the last check of it (its region 20), of ranges that can be.
-/
import Derived.Test.YtilinbmocmodhaaKeyF
import Derived.Test.YtilinbmocmodhaaKeyPRtt
import Derived.Test.YtilinbmocmodhaaKeyPRtf
import Derived.Test.YtilinbmocmodhaaKeyPRft
import Derived.Test.YtilinbmocmodhaaKeyPRff
namespace Go.Proofs.Ytilinbmocmodhaa
open Go.RowKit
set_option linter.unusedVariables false
set_option linter.unusedSimpArgs false

theorem check20 (r o : Rg) (hr : r.may = true) (ho : o.may = true) (k : List UInt8) (br bo bm : Nat) (W : World) (P1 : PairAt W br 29 r.lo r.hi) (P2 : PairAt W bo 29 o.lo o.hi) (P3 : PairAt W bm 29 (r.meet o).lo (r.meet o).hi)
    {Q : Exit → Act → World → Prop} (a0 : Act) (hsz : a0.tmps.size = 128) (h2 : a0.tmps.getD 2 undef = .string (str k)) (h4 : a0.tmps.getD 4 undef = .pointer (some ⟨br, 0, none⟩)) (h5 : a0.tmps.getD 5 undef = .pointer (some ⟨bo, 0, none⟩)) (h13 : a0.tmps.getD 13 undef = .pointer (some ⟨bm, 0, none⟩))
    (hK : ∀ (a : Act) (w : World), Step noF W w → a.defers = a0.defers → a.tmps.getD 8 undef = .bool true → Q .normal a w) :
    (Code.region 20 ((Try.f5.body.bind (regionOps 20)).getD #[]) true).wp Try.prog Q a0 W := by
  have hmay := meet_may r o hr ho
  have hcomm := meet_comm r o
  have K0 : ∀ u, Calls Try.prog 15 #[.agg #[.string (str (r.meet o).lo), .string (str (r.meet o).hi)], .string (str k)] u fun e w' => e = .returned (.bool (r.has k && o.has k)) ∧ Step noF u w' := fun u => by
    rw [← meet_has]
    exact has_any (r.meet o) k u
  have K1 : ∀ u, Calls Try.prog 15 #[.agg #[.string (str r.lo), .string (str r.hi)], .string (str k)] u fun e w' => e = .returned (.bool (r.has k)) ∧ Step noF u w' := fun u => has_any r k u
  have K2 : ∀ u, Calls Try.prog 15 #[.agg #[.string (str o.lo), .string (str o.hi)], .string (str k)] u fun e w' => e = .returned (.bool (o.has k)) ∧ Step noF u w' := fun u => has_any o k u
  have K3 : ∀ u, Calls Try.prog 13 #[.agg #[.string (str (r.meet o).lo), .string (str (r.meet o).hi)]] u fun e w' => e = .returned (.bool true) ∧ Step noF u w' := fun u => by
    rw [← hmay]
    exact may_any (r.meet o) u
  have K4 : ∀ u, Calls Try.prog 17 #[.agg #[.string (str (r.meet o).lo), .string (str (r.meet o).hi)]] u fun e w' => e = .returned (.bool (r.meet o).none) ∧ Step noF u w' := fun u => isEmpty_any (r.meet o) u
  have K5 : ∀ u, Calls Try.prog 12 #[.agg #[.string (str o.lo), .string (str o.hi)], .agg #[.string (str r.lo), .string (str r.hi)]] u fun e w' => e = .returned (.agg #[.string (str (r.meet o).lo), .string (str (r.meet o).hi)]) ∧ Step noF u w' := fun u => by
    rw [hcomm]
    exact meet_any o r u
  have hnone : r.has k = true → (r.meet o).none = true → o.has k = false := by
    intro h1 h2
    cases h3 : o.has k with
    | false => rfl
    | true =>
      have := none_has (r.meet o) k hmay (by rw [meet_has, h1, h3]; rfl)
      rw [this] at h2
      cases h2
  cases hrk : r.has k <;> cases hne : (r.meet o).none
  · rw [hrk] at K0 K1
    rw [hne] at K4
    refine kpff_go br bo bm r.lo r.hi o.lo o.hi k (r.meet o).lo (r.meet o).hi (o.has k) a0 W hsz h2 h4 h5 h13 ?_ ?_
    · intro u su
      exact ⟨(P1.step su).c0, (P1.step su).c1, (P2.step su).c0, (P2.step su).c1, (P3.step su).c0, (P3.step su).c1, K0 u, K1 u, K2 u, K3 u, K4 u, K5 u⟩
    · intro a w hs hd hz hf h8
      exact hK a w hs hd h8
  · rw [hrk] at K0 K1
    rw [hne] at K4
    refine kpft_go br bo bm r.lo r.hi o.lo o.hi k (r.meet o).lo (r.meet o).hi (o.has k) a0 W hsz h2 h4 h5 h13 ?_ ?_
    · intro u su
      exact ⟨(P1.step su).c0, (P1.step su).c1, (P2.step su).c0, (P2.step su).c1, (P3.step su).c0, (P3.step su).c1, K0 u, K1 u, K2 u, K3 u, K4 u, K5 u⟩
    · intro a w hs hd hz hf h8
      exact hK a w hs hd h8
  · rw [hrk] at K0 K1
    rw [hne] at K4
    refine kptf_go br bo bm r.lo r.hi o.lo o.hi k (r.meet o).lo (r.meet o).hi (o.has k) a0 W hsz h2 h4 h5 h13 ?_ ?_
    · intro u su
      exact ⟨(P1.step su).c0, (P1.step su).c1, (P2.step su).c0, (P2.step su).c1, (P3.step su).c0, (P3.step su).c1, K0 u, K1 u, K2 u, K3 u, K4 u, K5 u⟩
    · intro a w hs hd hz hf h8
      exact hK a w hs hd h8
  · rw [hrk] at K0 K1
    rw [hne] at K4
    have hof := hnone hrk hne
    rw [hof] at K0 K2
    refine kptt_go br bo bm r.lo r.hi o.lo o.hi k (r.meet o).lo (r.meet o).hi false rfl a0 W hsz h2 h4 h5 h13 ?_ ?_
    · intro u su
      exact ⟨(P1.step su).c0, (P1.step su).c1, (P2.step su).c0, (P2.step su).c1, (P3.step su).c0, (P3.step su).c1, K0 u, K1 u, K2 u, K3 u, K4 u, K5 u⟩
    · intro a w hs hd hz hf h8
      exact hK a w hs hd h8
end Go.Proofs.Ytilinbmocmodhaa
