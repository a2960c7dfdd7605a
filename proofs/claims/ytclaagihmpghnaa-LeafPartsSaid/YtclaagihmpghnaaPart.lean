/-
  A region that draws its order: slots of which something is said ('SP'), guards, calls, operations that are passed by. Nothing of the program is named here.
-/
import Derived.Test.YtclaagihmpghnaaFull
import Derived.Test.YtclaagihmpghnaaRowIn
namespace Go.Proofs.Ytclaagihmpghnaa
open Go.RowKit
set_option linter.unusedVariables false
section
variable {P : Program} {ops : Array Oper} {Q : Exit → Act → World → Prop}

theorem op_skip {i j dj : Nat} {d : Option Nat} {op : Op} {b c : Bool} {a : Act} {w : World} {K : Act → World → Prop} (h : opIs ops i d op (some (j, b))) (hd : (ops[j]?).bind (·.dst) = some dj) (hv : a.tmps.getD dj undef = .bool c) (hc : c ≠ b) (hK : K (a.put d undef) w) : wpOp P ops Q i K a w := by
  unfold opIs at h
  obtain ⟨o, ho, he⟩ := Option.map_eq_some_iff.1 h
  simp only [Prod.mk.injEq] at he
  obtain ⟨rfl, rfl, hg⟩ := he
  refine wpOp_step ho fun K' hK' => ?_
  have hy : yielded ops a.tmps j = some c := wants_some hd hv j c rfl
  have hwt : ¬ Region.wanted o (yielded ops a.tmps) = true := by
    unfold Region.wanted
    rw [hg]
    simp [hy, hc]
  rw [if_neg hwt]
  exact hK' _ _ hK
theorem slot_skip {F : Nat → Prop} {sp : List (SP F)} {dl : List (Option Nat)} {i d j dj : Nat} {op : Op} {b c : Bool} {a : Act} {w : World} (p : SP F) (h : opIs ops i (some d) op (some (j, b))) (hdl : dl[i]? = some (some d)) (hsp : sp[i]? = some p) (hd : (ops[j]?).bind (·.dst) = some dj) (hv : a.tmps.getD dj undef = .bool c) (hc : c ≠ b) (hp : p.1 w undef) :
    wpOp P ops Q i (fun a' w' => ∃ o v, dl[i]? = some o ∧ a' = a.put o v ∧ Step F w w' ∧ ∀ p, sp[i]? = some p → p.1 w' (o.elim undef fun _ => v)) a w :=
  op_skip h hd hv hc ⟨some d, undef, hdl, rfl, Step.refl _ _, fun p' hp' => by rw [hsp] at hp'; injection hp' with e; subst e; exact hp⟩
end
/-- A slice of pairs. -/
def isExt (xs : List (Int × Int)) : SP noF := ⟨fun w v => ∃ a c, v = .slice a xs.length c ∧ ExtAt w a xs, fun _ _ _ hs ⟨a, c, h1, h2⟩ => ⟨a, c, h1, h2.step hs⟩⟩
end Go.Proofs.Ytclaagihmpghnaa
