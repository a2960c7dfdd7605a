/-
  No cell of these rows narrows 'for every input' (looked for: loops, veiled, ifaces, maps, wideKeys, modest, calm, conditions, laid).
  DERIVED. THE GIVEN ROWS OF THIS SEAT. 3 by the template 'for every input the law returns true; each argument reads behind the call as it read before'; 0 by the template 'total and deterministic' (their statements: YtgmgoaencaldmaaGreatTotals.lean).
  GIVEN WITH THE SEED: the statements are not yours to turn. If you find one false, say at which input.
  Laid BY PROGRAM, IN A SANDBOX (cutbox-rows.mjs): the forced cells as the released guide's own fill.sh prints them over the translation 5cab87366d89600e… (all of the seat's roots in one cut). By AI agents, Wed Nov 11 2026. No macro, syntax, notation, axiom, sorry.
-/
import Derived.Test.YtgmgoaencaldmaaGreatChecked
import GoSem.Claim
import GoSem.ClaimJoined
import GoSem.ClaimMapViews
import Derived.JoinedTies
import Derived.KernelRfl
namespace Go.Proofs.YtgmgoaencaldmaaGreat
/- THE CELL 'sum', in the pinned program and in every row, IS THE sha256 OF THE DUMP (.gsa) THAT YtgmgoaencaldmaaGreatProg.lean LOADS. Nothing in Lean hashes anything: it is a label: what it is worth is what the hold of that sum in a sandbox is worth. -/
noncomputable def Tryz.pinned : Pinned := { name := "ytgmgoaencaldmaagreat", sum := "5cab87366d89600e6625690668816a783ba26d423ea428c3003432855d370e91", checked := Tryz.checked }
namespace Rows
def none {H : Type} : Left H := { results := [], args := [] }

/-- 'grangerlaw11.InnerExact': WHATEVER THE INPUT: true; the input reads as it did. -/
def innerExactSpec : ChangeSpec := { name := "innerExact", fn := fun _ => fun
  | [d1, d2, d3, d4, d5, d6, d7] => { results := [.lit (.bool true)], args := [d1, d2, d3, d4, d5, d6, d7] }
  | _ => none }
def innerExactRow : OpenClaim := { program := "ytgmgoaencaldmaagreat", sum := "5cab87366d89600e6625690668816a783ba26d423ea428c3003432855d370e91", func := "granger/grangerlaw11.InnerExact", spec := "innerExact", unfollowed := true, recurses := true, apart := false }
def InnerExactSaid : Prop := innerExactRow.holds Tryz.pinned (OpenSpec.ofChange innerExactSpec)

/-- ITS FALSE NEIGHBOUR: 'it returns false'. Refute it at one input. -/
def innerExactWrong : ChangeSpec := { name := "innerExact", fn := fun _ => fun
  | [d1, d2, d3, d4, d5, d6, d7] => { results := [.lit (.bool false)], args := [d1, d2, d3, d4, d5, d6, d7] }
  | _ => none }
def InnerExactWrongFalsely : Prop := innerExactRow.holds Tryz.pinned (OpenSpec.ofChange innerExactWrong)

/-- 'grangerlaw11.InnerSwaps': WHATEVER THE INPUT: true; the input reads as it did. -/
def innerSwapsSpec : ChangeSpec := { name := "innerSwaps", fn := fun _ => fun
  | [d1, d2, d3, d4, d5, d6] => { results := [.lit (.bool true)], args := [d1, d2, d3, d4, d5, d6] }
  | _ => none }
def innerSwapsRow : OpenClaim := { program := "ytgmgoaencaldmaagreat", sum := "5cab87366d89600e6625690668816a783ba26d423ea428c3003432855d370e91", func := "granger/grangerlaw11.InnerSwaps", spec := "innerSwaps", unfollowed := true, recurses := true, apart := false }
def InnerSwapsSaid : Prop := innerSwapsRow.holds Tryz.pinned (OpenSpec.ofChange innerSwapsSpec)

/-- ITS FALSE NEIGHBOUR: 'it returns false'. Refute it at one input. -/
def innerSwapsWrong : ChangeSpec := { name := "innerSwaps", fn := fun _ => fun
  | [d1, d2, d3, d4, d5, d6] => { results := [.lit (.bool false)], args := [d1, d2, d3, d4, d5, d6] }
  | _ => none }
def InnerSwapsWrongFalsely : Prop := innerSwapsRow.holds Tryz.pinned (OpenSpec.ofChange innerSwapsWrong)

/-- 'grangerlaw11.InnerParts': WHATEVER THE INPUT: true; the input reads as it did. -/
def innerPartsSpec : ChangeSpec := { name := "innerParts", fn := fun _ => fun
  | [d1, d2, d3] => { results := [.lit (.bool true)], args := [d1, d2, d3] }
  | _ => none }
def innerPartsRow : OpenClaim := { program := "ytgmgoaencaldmaagreat", sum := "5cab87366d89600e6625690668816a783ba26d423ea428c3003432855d370e91", func := "granger/grangerlaw11.InnerParts", spec := "innerParts", unfollowed := true, recurses := true, apart := false }
def InnerPartsSaid : Prop := innerPartsRow.holds Tryz.pinned (OpenSpec.ofChange innerPartsSpec)

/-- ITS FALSE NEIGHBOUR: 'it returns false'. Refute it at one input. -/
def innerPartsWrong : ChangeSpec := { name := "innerParts", fn := fun _ => fun
  | [d1, d2, d3] => { results := [.lit (.bool false)], args := [d1, d2, d3] }
  | _ => none }
def InnerPartsWrongFalsely : Prop := innerPartsRow.holds Tryz.pinned (OpenSpec.ofChange innerPartsWrong)

/- THE SECOND FORM. 'bulk': how many values and letters a reading holds, each counted each time it is reached (what is shared counts as often as it is met; a slice's spare places count too). A statement '..UptoSaid' is the law's where the arguments, and the package variables that the reading takes, are together of bulk at most 1048576: NARROWER than '..Said'. Prove '..Said' where nothing that the law and all that it calls make is longer than what came in: it says more and counts as full. Else prove '..UptoSaid'. A law counts once. -/
mutual
def uptoBulk {H : Type} : DataW H → Nat
  | .lit (.string bytes) => bytes.length + 1
  | .lit _ => 1
  | .nil => 1
  | .ptr d => uptoBulk d + 1
  | .slice elems spare => uptoBulkAll elems + uptoBulkAll spare + 1
  | .agg parts => uptoBulkAll parts + 1
  | .iface _ d => uptoBulk d + 1
  | .map entries => uptoBulkEntries entries + 1
  | .held _ => 1
def uptoBulkAll {H : Type} : List (DataW H) → Nat
  | [] => 0
  | d :: r => uptoBulk d + uptoBulkAll r
def uptoBulkEntries {H : Type} : List (Lit × DataW H) → Nat
  | [] => 0
  | x :: r => uptoBulkEntry x + uptoBulkEntries r
def uptoBulkEntry {H : Type} : Lit × DataW H → Nat
  | (.string bytes, d) => bytes.length + uptoBulk d + 1
  | (_, d) => uptoBulk d + 1
 end
def uptoSmall : (H : Type) → List (DataW H) → Bool := fun _ ds => decide (uptoBulkAll ds ≤ 1048576)
def OpenSpec.upto (s : _root_.Go.ChangeSpec) : _root_.Go.OpenSpec := { _root_.Go.OpenSpec.ofChange s with cond := some uptoSmall }

/-- 'grangerlaw11.InnerExact', WHERE WHAT IT READS IS OF BULK AT MOST 1048576: true; the input reads as it did. -/
def innerExactUptoRow : OpenClaim := { program := "ytgmgoaencaldmaagreat", sum := "5cab87366d89600e6625690668816a783ba26d423ea428c3003432855d370e91", func := "granger/grangerlaw11.InnerExact", spec := "innerExact", unfollowed := true, recurses := true, apart := false, narrowed := true }
def InnerExactUptoSaid : Prop := innerExactUptoRow.holds Tryz.pinned (OpenSpec.upto innerExactSpec)

/-- 'grangerlaw11.InnerSwaps', WHERE WHAT IT READS IS OF BULK AT MOST 1048576: true; the input reads as it did. -/
def innerSwapsUptoRow : OpenClaim := { program := "ytgmgoaencaldmaagreat", sum := "5cab87366d89600e6625690668816a783ba26d423ea428c3003432855d370e91", func := "granger/grangerlaw11.InnerSwaps", spec := "innerSwaps", unfollowed := true, recurses := true, apart := false, narrowed := true }
def InnerSwapsUptoSaid : Prop := innerSwapsUptoRow.holds Tryz.pinned (OpenSpec.upto innerSwapsSpec)

/-- 'grangerlaw11.InnerParts', WHERE WHAT IT READS IS OF BULK AT MOST 1048576: true; the input reads as it did. -/
def innerPartsUptoRow : OpenClaim := { program := "ytgmgoaencaldmaagreat", sum := "5cab87366d89600e6625690668816a783ba26d423ea428c3003432855d370e91", func := "granger/grangerlaw11.InnerParts", spec := "innerParts", unfollowed := true, recurses := true, apart := false, narrowed := true }
def InnerPartsUptoSaid : Prop := innerPartsUptoRow.holds Tryz.pinned (OpenSpec.upto innerPartsSpec)

end Rows
end Go.Proofs.YtgmgoaencaldmaaGreat
