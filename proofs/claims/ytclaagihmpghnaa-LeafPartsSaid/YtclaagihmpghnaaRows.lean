/-
  No cell of these rows narrows 'for every input' (looked for: loops, veiled, ifaces, maps, wideKeys, modest, calm, conditions, laid).
  DERIVED. THE GIVEN ROWS OF THIS SEAT. 5 by the template 'for every input the law returns true; each argument reads behind the call as it read before'; 0 by the template 'total and deterministic' (their statements: YtclaagihmpghnaaTotals.lean).
  GIVEN WITH THE SEED: the statements are not yours to turn. If you find one false, say at which input.
  Laid BY PROGRAM, IN A SANDBOX (cutbox-rows.mjs): the forced cells as the released guide's own fill.sh prints them over the translation d9e048d8237ffa5a… (all of the seat's roots in one cut). By AI agents, Wed Nov 11 2026. No macro, syntax, notation, axiom, sorry.
-/
import Derived.Test.YtclaagihmpghnaaChecked
import GoSem.Claim
import GoSem.ClaimJoined
import GoSem.ClaimMapViews
import Derived.JoinedTies
import Derived.KernelRfl
namespace Go.Proofs.Ytclaagihmpghnaa
/- THE CELL 'sum', in the pinned program and in every row, IS THE sha256 OF THE DUMP (.gsa) THAT YtclaagihmpghnaaProg.lean LOADS. Nothing in Lean hashes anything: it is a label: what it is worth is what the hold of that sum in a sandbox is worth. -/
noncomputable def Try.pinned : Pinned := { name := "ytclaagihmpghnaa", sum := "d9e048d8237ffa5a066bc2e5bd96e817d9b9c703f0221d85027824f56aaabfae", checked := Try.checked }
namespace Rows
def none {H : Type} : Left H := { results := [], args := [] }

/-- 'grangerlaw09.LeafExact': WHATEVER THE INPUT: true; the input reads as it did. -/
def leafExactSpec : ChangeSpec := { name := "leafExact", fn := fun _ => fun
  | [d1, d2, d3, d4] => { results := [.lit (.bool true)], args := [d1, d2, d3, d4] }
  | _ => none }
def leafExactRow : OpenClaim := { program := "ytclaagihmpghnaa", sum := "d9e048d8237ffa5a066bc2e5bd96e817d9b9c703f0221d85027824f56aaabfae", func := "granger/grangerlaw09.LeafExact", spec := "leafExact", unfollowed := true, recurses := true, apart := false }
def LeafExactSaid : Prop := leafExactRow.holds Try.pinned (OpenSpec.ofChange leafExactSpec)

/-- ITS FALSE NEIGHBOUR: 'it returns false'. Refute it at one input. -/
def leafExactWrong : ChangeSpec := { name := "leafExact", fn := fun _ => fun
  | [d1, d2, d3, d4] => { results := [.lit (.bool false)], args := [d1, d2, d3, d4] }
  | _ => none }
def LeafExactWrongFalsely : Prop := leafExactRow.holds Try.pinned (OpenSpec.ofChange leafExactWrong)

/-- 'grangerlaw09.LeafParts': WHATEVER THE INPUT: true; the input reads as it did. -/
def leafPartsSpec : ChangeSpec := { name := "leafParts", fn := fun _ => fun
  | [d1, d2] => { results := [.lit (.bool true)], args := [d1, d2] }
  | _ => none }
def leafPartsRow : OpenClaim := { program := "ytclaagihmpghnaa", sum := "d9e048d8237ffa5a066bc2e5bd96e817d9b9c703f0221d85027824f56aaabfae", func := "granger/grangerlaw09.LeafParts", spec := "leafParts", unfollowed := true, recurses := true, apart := false }
def LeafPartsSaid : Prop := leafPartsRow.holds Try.pinned (OpenSpec.ofChange leafPartsSpec)

/-- ITS FALSE NEIGHBOUR: 'it returns false'. Refute it at one input. -/
def leafPartsWrong : ChangeSpec := { name := "leafParts", fn := fun _ => fun
  | [d1, d2] => { results := [.lit (.bool false)], args := [d1, d2] }
  | _ => none }
def LeafPartsWrongFalsely : Prop := leafPartsRow.holds Try.pinned (OpenSpec.ofChange leafPartsWrong)

/-- 'grangerlaw09.LeafLight': WHATEVER THE INPUT: true; the input reads as it did. -/
def leafLightSpec : ChangeSpec := { name := "leafLight", fn := fun _ => fun
  | [d] => { results := [.lit (.bool true)], args := [d] }
  | _ => none }
def leafLightRow : OpenClaim := { program := "ytclaagihmpghnaa", sum := "d9e048d8237ffa5a066bc2e5bd96e817d9b9c703f0221d85027824f56aaabfae", func := "granger/grangerlaw09.LeafLight", spec := "leafLight", unfollowed := true, recurses := true, apart := false }
def LeafLightSaid : Prop := leafLightRow.holds Try.pinned (OpenSpec.ofChange leafLightSpec)

/-- ITS FALSE NEIGHBOUR: 'it returns false'. Refute it at one input. -/
def leafLightWrong : ChangeSpec := { name := "leafLight", fn := fun _ => fun
  | [d] => { results := [.lit (.bool false)], args := [d] }
  | _ => none }
def LeafLightWrongFalsely : Prop := leafLightRow.holds Try.pinned (OpenSpec.ofChange leafLightWrong)

/-- 'grangerlaw09.LeafKeys': WHATEVER THE INPUT: true; the input reads as it did. -/
def leafKeysSpec : ChangeSpec := { name := "leafKeys", fn := fun _ => fun
  | [d1, d2, d3] => { results := [.lit (.bool true)], args := [d1, d2, d3] }
  | _ => none }
def leafKeysRow : OpenClaim := { program := "ytclaagihmpghnaa", sum := "d9e048d8237ffa5a066bc2e5bd96e817d9b9c703f0221d85027824f56aaabfae", func := "granger/grangerlaw09.LeafKeys", spec := "leafKeys", unfollowed := true, recurses := true, apart := false }
def LeafKeysSaid : Prop := leafKeysRow.holds Try.pinned (OpenSpec.ofChange leafKeysSpec)

/-- ITS FALSE NEIGHBOUR: 'it returns false'. Refute it at one input. -/
def leafKeysWrong : ChangeSpec := { name := "leafKeys", fn := fun _ => fun
  | [d1, d2, d3] => { results := [.lit (.bool false)], args := [d1, d2, d3] }
  | _ => none }
def LeafKeysWrongFalsely : Prop := leafKeysRow.holds Try.pinned (OpenSpec.ofChange leafKeysWrong)

/-- 'grangerlaw09.LeafCut': WHATEVER THE INPUT: true; the input reads as it did. -/
def leafCutSpec : ChangeSpec := { name := "leafCut", fn := fun _ => fun
  | [d1, d2, d3] => { results := [.lit (.bool true)], args := [d1, d2, d3] }
  | _ => none }
def leafCutRow : OpenClaim := { program := "ytclaagihmpghnaa", sum := "d9e048d8237ffa5a066bc2e5bd96e817d9b9c703f0221d85027824f56aaabfae", func := "granger/grangerlaw09.LeafCut", spec := "leafCut", unfollowed := true, recurses := true, apart := false }
def LeafCutSaid : Prop := leafCutRow.holds Try.pinned (OpenSpec.ofChange leafCutSpec)

/-- ITS FALSE NEIGHBOUR: 'it returns false'. Refute it at one input. -/
def leafCutWrong : ChangeSpec := { name := "leafCut", fn := fun _ => fun
  | [d1, d2, d3] => { results := [.lit (.bool false)], args := [d1, d2, d3] }
  | _ => none }
def LeafCutWrongFalsely : Prop := leafCutRow.holds Try.pinned (OpenSpec.ofChange leafCutWrong)

/- THE SECOND FORM. 'bulk': how many values and letters a reading holds, each counted each time it is reached (what is shared counts as often as it is met; a slice's spare places count too). A statement '..UptoSaid' is the law's where the arguments, and the package variables that the reading takes, are together of bulk at most 1048576: NARROWER than '..Said'. Prove '..Said' where nothing that the law and all that it calls make is longer than what came in: it says more and counts as full. Else prove '..UptoSaid'. A law counts once. -/
mutual
def uptoBulk {H : Type} : DataW H → Nat
  | .lit (.string bytes) => bytes.length + 1
  | .lit _ => 1
  | .nil => 1
  | .ptr d => uptoBulk d + 1
  | .slice elems spare => uptoBulkAll elems + uptoBulkAll spare + 1
  | .agg parts => uptoBulkAll parts + 1
  | .iface _ d => uptoBulk d + 1
  | .map entries => uptoBulkEntries entries + 1
  | .held _ => 1
def uptoBulkAll {H : Type} : List (DataW H) → Nat
  | [] => 0
  | d :: r => uptoBulk d + uptoBulkAll r
def uptoBulkEntries {H : Type} : List (Lit × DataW H) → Nat
  | [] => 0
  | x :: r => uptoBulkEntry x + uptoBulkEntries r
def uptoBulkEntry {H : Type} : Lit × DataW H → Nat
  | (.string bytes, d) => bytes.length + uptoBulk d + 1
  | (_, d) => uptoBulk d + 1
 end
def uptoSmall : (H : Type) → List (DataW H) → Bool := fun _ ds => decide (uptoBulkAll ds ≤ 1048576)
def OpenSpec.upto (s : _root_.Go.ChangeSpec) : _root_.Go.OpenSpec := { _root_.Go.OpenSpec.ofChange s with cond := some uptoSmall }

/-- 'grangerlaw09.LeafExact', WHERE WHAT IT READS IS OF BULK AT MOST 1048576: true; the input reads as it did. -/
def leafExactUptoRow : OpenClaim := { program := "ytclaagihmpghnaa", sum := "d9e048d8237ffa5a066bc2e5bd96e817d9b9c703f0221d85027824f56aaabfae", func := "granger/grangerlaw09.LeafExact", spec := "leafExact", unfollowed := true, recurses := true, apart := false, narrowed := true }
def LeafExactUptoSaid : Prop := leafExactUptoRow.holds Try.pinned (OpenSpec.upto leafExactSpec)

/-- 'grangerlaw09.LeafParts', WHERE WHAT IT READS IS OF BULK AT MOST 1048576: true; the input reads as it did. -/
def leafPartsUptoRow : OpenClaim := { program := "ytclaagihmpghnaa", sum := "d9e048d8237ffa5a066bc2e5bd96e817d9b9c703f0221d85027824f56aaabfae", func := "granger/grangerlaw09.LeafParts", spec := "leafParts", unfollowed := true, recurses := true, apart := false, narrowed := true }
def LeafPartsUptoSaid : Prop := leafPartsUptoRow.holds Try.pinned (OpenSpec.upto leafPartsSpec)

/-- 'grangerlaw09.LeafLight', WHERE WHAT IT READS IS OF BULK AT MOST 1048576: true; the input reads as it did. -/
def leafLightUptoRow : OpenClaim := { program := "ytclaagihmpghnaa", sum := "d9e048d8237ffa5a066bc2e5bd96e817d9b9c703f0221d85027824f56aaabfae", func := "granger/grangerlaw09.LeafLight", spec := "leafLight", unfollowed := true, recurses := true, apart := false, narrowed := true }
def LeafLightUptoSaid : Prop := leafLightUptoRow.holds Try.pinned (OpenSpec.upto leafLightSpec)

/-- 'grangerlaw09.LeafKeys', WHERE WHAT IT READS IS OF BULK AT MOST 1048576: true; the input reads as it did. -/
def leafKeysUptoRow : OpenClaim := { program := "ytclaagihmpghnaa", sum := "d9e048d8237ffa5a066bc2e5bd96e817d9b9c703f0221d85027824f56aaabfae", func := "granger/grangerlaw09.LeafKeys", spec := "leafKeys", unfollowed := true, recurses := true, apart := false, narrowed := true }
def LeafKeysUptoSaid : Prop := leafKeysUptoRow.holds Try.pinned (OpenSpec.upto leafKeysSpec)

/-- 'grangerlaw09.LeafCut', WHERE WHAT IT READS IS OF BULK AT MOST 1048576: true; the input reads as it did. -/
def leafCutUptoRow : OpenClaim := { program := "ytclaagihmpghnaa", sum := "d9e048d8237ffa5a066bc2e5bd96e817d9b9c703f0221d85027824f56aaabfae", func := "granger/grangerlaw09.LeafCut", spec := "leafCut", unfollowed := true, recurses := true, apart := false, narrowed := true }
def LeafCutUptoSaid : Prop := leafCutUptoRow.holds Try.pinned (OpenSpec.upto leafCutSpec)

end Rows
end Go.Proofs.Ytclaagihmpghnaa
