/-
  No cell of these rows narrows 'for every input' (looked for: loops, veiled, ifaces, maps, wideKeys, modest, calm, conditions, laid).
  DERIVED. THE GIVEN ROWS OF THIS SEAT. 4 by the template 'for every input the law returns true; each argument reads behind the call as it read before'; 0 by the template 'total and deterministic' (their statements: YtnalillebemglaaGreatTotals.lean).
  GIVEN WITH THE SEED: the statements are not yours to turn. If you find one false, say at which input.
  Laid BY PROGRAM, IN A SANDBOX (cutbox-rows.mjs): the forced cells as the released guide's own fill.sh prints them over the translation 7b0af32ccb36e2b2… (all of the seat's roots in one cut). By AI agents, Wed Nov 11 2026. No macro, syntax, notation, axiom, sorry.
-/
import Derived.Test.YtnalillebemglaaGreatChecked
import GoSem.Claim
import GoSem.ClaimJoined
import GoSem.ClaimMapViews
import Derived.JoinedTies
import Derived.KernelRfl
namespace Go.Proofs.YtnalillebemglaaGreat
/- THE CELL 'sum', in the pinned program and in every row, IS THE sha256 OF THE DUMP (.gsa) THAT YtnalillebemglaaGreatProg.lean LOADS. Nothing in Lean hashes anything: it is a label: what it is worth is what the hold of that sum in a sandbox is worth. -/
noncomputable def Tryz.pinned : Pinned := { name := "ytnalillebemglaagreat", sum := "7b0af32ccb36e2b27562ba03678a1e1ef7a1a07f45db331b0c26e3a80d4e4bb0", checked := Tryz.checked }
namespace Rows
def none {H : Type} : Left H := { results := [], args := [] }

/-- 'grangerlaw13.MergeExact': WHATEVER THE INPUT: true; the input reads as it did. -/
def mergeExactSpec : ChangeSpec := { name := "mergeExact", fn := fun _ => fun
  | [d] => { results := [.lit (.bool true)], args := [d] }
  | _ => none }
def mergeExactRow : OpenClaim := { program := "ytnalillebemglaagreat", sum := "7b0af32ccb36e2b27562ba03678a1e1ef7a1a07f45db331b0c26e3a80d4e4bb0", func := "granger/grangerlaw13.MergeExact", spec := "mergeExact", unfollowed := true, recurses := true, apart := false }
def MergeExactSaid : Prop := mergeExactRow.holds Tryz.pinned (OpenSpec.ofChange mergeExactSpec)

/-- ITS FALSE NEIGHBOUR: 'it returns false'. Refute it at one input. -/
def mergeExactWrong : ChangeSpec := { name := "mergeExact", fn := fun _ => fun
  | [d] => { results := [.lit (.bool false)], args := [d] }
  | _ => none }
def MergeExactWrongFalsely : Prop := mergeExactRow.holds Tryz.pinned (OpenSpec.ofChange mergeExactWrong)

/-- 'grangerlaw13.MergeOver': WHATEVER THE INPUT: true; the input reads as it did. -/
def mergeOverSpec : ChangeSpec := { name := "mergeOver", fn := fun _ => fun
  | [d1, d2] => { results := [.lit (.bool true)], args := [d1, d2] }
  | _ => none }
def mergeOverRow : OpenClaim := { program := "ytnalillebemglaagreat", sum := "7b0af32ccb36e2b27562ba03678a1e1ef7a1a07f45db331b0c26e3a80d4e4bb0", func := "granger/grangerlaw13.MergeOver", spec := "mergeOver", unfollowed := true, recurses := true, apart := false }
def MergeOverSaid : Prop := mergeOverRow.holds Tryz.pinned (OpenSpec.ofChange mergeOverSpec)

/-- ITS FALSE NEIGHBOUR: 'it returns false'. Refute it at one input. -/
def mergeOverWrong : ChangeSpec := { name := "mergeOver", fn := fun _ => fun
  | [d1, d2] => { results := [.lit (.bool false)], args := [d1, d2] }
  | _ => none }
def MergeOverWrongFalsely : Prop := mergeOverRow.holds Tryz.pinned (OpenSpec.ofChange mergeOverWrong)

/-- 'grangerlaw13.MergeAny': WHATEVER THE INPUT: true; the input reads as it did. -/
def mergeAnySpec : ChangeSpec := { name := "mergeAny", fn := fun _ => fun
  | [d1, d2] => { results := [.lit (.bool true)], args := [d1, d2] }
  | _ => none }
def mergeAnyRow : OpenClaim := { program := "ytnalillebemglaagreat", sum := "7b0af32ccb36e2b27562ba03678a1e1ef7a1a07f45db331b0c26e3a80d4e4bb0", func := "granger/grangerlaw13.MergeAny", spec := "mergeAny", unfollowed := true, recurses := true, apart := false }
def MergeAnySaid : Prop := mergeAnyRow.holds Tryz.pinned (OpenSpec.ofChange mergeAnySpec)

/-- ITS FALSE NEIGHBOUR: 'it returns false'. Refute it at one input. -/
def mergeAnyWrong : ChangeSpec := { name := "mergeAny", fn := fun _ => fun
  | [d1, d2] => { results := [.lit (.bool false)], args := [d1, d2] }
  | _ => none }
def MergeAnyWrongFalsely : Prop := mergeAnyRow.holds Tryz.pinned (OpenSpec.ofChange mergeAnyWrong)

/-- 'grangerlaw13.MergeLeaf': WHATEVER THE INPUT: true; the input reads as it did. -/
def mergeLeafSpec : ChangeSpec := { name := "mergeLeaf", fn := fun _ => fun
  | [d1, d2] => { results := [.lit (.bool true)], args := [d1, d2] }
  | _ => none }
def mergeLeafRow : OpenClaim := { program := "ytnalillebemglaagreat", sum := "7b0af32ccb36e2b27562ba03678a1e1ef7a1a07f45db331b0c26e3a80d4e4bb0", func := "granger/grangerlaw13.MergeLeaf", spec := "mergeLeaf", unfollowed := true, recurses := true, apart := false }
def MergeLeafSaid : Prop := mergeLeafRow.holds Tryz.pinned (OpenSpec.ofChange mergeLeafSpec)

/-- ITS FALSE NEIGHBOUR: 'it returns false'. Refute it at one input. -/
def mergeLeafWrong : ChangeSpec := { name := "mergeLeaf", fn := fun _ => fun
  | [d1, d2] => { results := [.lit (.bool false)], args := [d1, d2] }
  | _ => none }
def MergeLeafWrongFalsely : Prop := mergeLeafRow.holds Tryz.pinned (OpenSpec.ofChange mergeLeafWrong)

/- THE SECOND FORM. 'bulk': how many values and letters a reading holds, each counted each time it is reached (what is shared counts as often as it is met; a slice's spare places count too). A statement '..UptoSaid' is the law's where the arguments, and the package variables that the reading takes, are together of bulk at most 1048576: NARROWER than '..Said'. Prove '..Said' where nothing that the law and all that it calls make is longer than what came in: it says more and counts as full. Else prove '..UptoSaid'. A law counts once. -/
mutual
def uptoBulk {H : Type} : DataW H → Nat
  | .lit (.string bytes) => bytes.length + 1
  | .lit _ => 1
  | .nil => 1
  | .ptr d => uptoBulk d + 1
  | .slice elems spare => uptoBulkAll elems + uptoBulkAll spare + 1
  | .agg parts => uptoBulkAll parts + 1
  | .iface _ d => uptoBulk d + 1
  | .map entries => uptoBulkEntries entries + 1
  | .held _ => 1
def uptoBulkAll {H : Type} : List (DataW H) → Nat
  | [] => 0
  | d :: r => uptoBulk d + uptoBulkAll r
def uptoBulkEntries {H : Type} : List (Lit × DataW H) → Nat
  | [] => 0
  | x :: r => uptoBulkEntry x + uptoBulkEntries r
def uptoBulkEntry {H : Type} : Lit × DataW H → Nat
  | (.string bytes, d) => bytes.length + uptoBulk d + 1
  | (_, d) => uptoBulk d + 1
 end
def uptoSmall : (H : Type) → List (DataW H) → Bool := fun _ ds => decide (uptoBulkAll ds ≤ 1048576)
def OpenSpec.upto (s : _root_.Go.ChangeSpec) : _root_.Go.OpenSpec := { _root_.Go.OpenSpec.ofChange s with cond := some uptoSmall }

/-- 'grangerlaw13.MergeExact', WHERE WHAT IT READS IS OF BULK AT MOST 1048576: true; the input reads as it did. -/
def mergeExactUptoRow : OpenClaim := { program := "ytnalillebemglaagreat", sum := "7b0af32ccb36e2b27562ba03678a1e1ef7a1a07f45db331b0c26e3a80d4e4bb0", func := "granger/grangerlaw13.MergeExact", spec := "mergeExact", unfollowed := true, recurses := true, apart := false, narrowed := true }
def MergeExactUptoSaid : Prop := mergeExactUptoRow.holds Tryz.pinned (OpenSpec.upto mergeExactSpec)

/-- 'grangerlaw13.MergeOver', WHERE WHAT IT READS IS OF BULK AT MOST 1048576: true; the input reads as it did. -/
def mergeOverUptoRow : OpenClaim := { program := "ytnalillebemglaagreat", sum := "7b0af32ccb36e2b27562ba03678a1e1ef7a1a07f45db331b0c26e3a80d4e4bb0", func := "granger/grangerlaw13.MergeOver", spec := "mergeOver", unfollowed := true, recurses := true, apart := false, narrowed := true }
def MergeOverUptoSaid : Prop := mergeOverUptoRow.holds Tryz.pinned (OpenSpec.upto mergeOverSpec)

/-- 'grangerlaw13.MergeAny', WHERE WHAT IT READS IS OF BULK AT MOST 1048576: true; the input reads as it did. -/
def mergeAnyUptoRow : OpenClaim := { program := "ytnalillebemglaagreat", sum := "7b0af32ccb36e2b27562ba03678a1e1ef7a1a07f45db331b0c26e3a80d4e4bb0", func := "granger/grangerlaw13.MergeAny", spec := "mergeAny", unfollowed := true, recurses := true, apart := false, narrowed := true }
def MergeAnyUptoSaid : Prop := mergeAnyUptoRow.holds Tryz.pinned (OpenSpec.upto mergeAnySpec)

/-- 'grangerlaw13.MergeLeaf', WHERE WHAT IT READS IS OF BULK AT MOST 1048576: true; the input reads as it did. -/
def mergeLeafUptoRow : OpenClaim := { program := "ytnalillebemglaagreat", sum := "7b0af32ccb36e2b27562ba03678a1e1ef7a1a07f45db331b0c26e3a80d4e4bb0", func := "granger/grangerlaw13.MergeLeaf", spec := "mergeLeaf", unfollowed := true, recurses := true, apart := false, narrowed := true }
def MergeLeafUptoSaid : Prop := mergeLeafUptoRow.holds Tryz.pinned (OpenSpec.upto mergeLeafSpec)

end Rows
end Go.Proofs.YtnalillebemglaaGreat
