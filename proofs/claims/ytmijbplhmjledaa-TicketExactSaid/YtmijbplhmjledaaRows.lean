/-
  No cell of these rows narrows 'for every input' (looked for: loops, veiled, ifaces, maps, wideKeys, modest, calm, conditions, laid).
  DERIVED. THE GIVEN ROWS OF THIS SEAT. 4 by the template 'for every input the law returns true; each argument reads behind the call as it read before'; 0 by the template 'total and deterministic' (their statements: YtmijbplhmjledaaTotals.lean).
  GIVEN WITH THE SEED: the statements are not yours to turn. If you find one false, say at which input.
  Laid BY PROGRAM, IN A SANDBOX (cutbox-rows.mjs): the forced cells as the released guide's own fill.sh prints them over the translation 79d66f06c1c0d7f5… (all of the seat's roots in one cut). By AI agents, Wed Nov 11 2026. No macro, syntax, notation, axiom, sorry.
-/
import Derived.Test.YtmijbplhmjledaaChecked
import GoSem.Claim
import GoSem.ClaimJoined
import GoSem.ClaimMapViews
import Derived.JoinedTies
import Derived.KernelRfl
namespace Go.Proofs.Ytmijbplhmjledaa
/- THE CELL 'sum', in the pinned program and in every row, IS THE sha256 OF THE DUMP (.gsa) THAT YtmijbplhmjledaaProg.lean LOADS. Nothing in Lean hashes anything: it is a label: what it is worth is what the hold of that sum in a sandbox is worth. -/
noncomputable def Try.pinned : Pinned := { name := "ytmijbplhmjledaa", sum := "79d66f06c1c0d7f5916c7accbadf6a112ec49463fce9915cf2c7cbe9e2fbd3c7", checked := Try.checked }
namespace Rows
def none {H : Type} : Left H := { results := [], args := [] }

/-- 'grangerlaw06.TicketExact': WHATEVER THE INPUT: true; the input reads as it did. -/
def ticketExactSpec : ChangeSpec := { name := "ticketExact", fn := fun _ => fun
  | [d1, d2, d3, d4] => { results := [.lit (.bool true)], args := [d1, d2, d3, d4] }
  | _ => none }
def ticketExactRow : OpenClaim := { program := "ytmijbplhmjledaa", sum := "79d66f06c1c0d7f5916c7accbadf6a112ec49463fce9915cf2c7cbe9e2fbd3c7", func := "granger/grangerlaw06.TicketExact", spec := "ticketExact", unfollowed := true, recurses := true, apart := false }
def TicketExactSaid : Prop := ticketExactRow.holds Try.pinned (OpenSpec.ofChange ticketExactSpec)

/-- ITS FALSE NEIGHBOUR: 'it returns false'. Refute it at one input. -/
def ticketExactWrong : ChangeSpec := { name := "ticketExact", fn := fun _ => fun
  | [d1, d2, d3, d4] => { results := [.lit (.bool false)], args := [d1, d2, d3, d4] }
  | _ => none }
def TicketExactWrongFalsely : Prop := ticketExactRow.holds Try.pinned (OpenSpec.ofChange ticketExactWrong)

/-- 'grangerlaw06.TicketNil': WHATEVER THE INPUT: true; the input reads as it did. -/
def ticketNilSpec : ChangeSpec := { name := "ticketNil", fn := fun _ => fun
  | [d1, d2, d3, d4, d5] => { results := [.lit (.bool true)], args := [d1, d2, d3, d4, d5] }
  | _ => none }
def ticketNilRow : OpenClaim := { program := "ytmijbplhmjledaa", sum := "79d66f06c1c0d7f5916c7accbadf6a112ec49463fce9915cf2c7cbe9e2fbd3c7", func := "granger/grangerlaw06.TicketNil", spec := "ticketNil", unfollowed := true, recurses := true, apart := false }
def TicketNilSaid : Prop := ticketNilRow.holds Try.pinned (OpenSpec.ofChange ticketNilSpec)

/-- ITS FALSE NEIGHBOUR: 'it returns false'. Refute it at one input. -/
def ticketNilWrong : ChangeSpec := { name := "ticketNil", fn := fun _ => fun
  | [d1, d2, d3, d4, d5] => { results := [.lit (.bool false)], args := [d1, d2, d3, d4, d5] }
  | _ => none }
def TicketNilWrongFalsely : Prop := ticketNilRow.holds Try.pinned (OpenSpec.ofChange ticketNilWrong)

/-- 'grangerlaw06.TicketKept': WHATEVER THE INPUT: true; the input reads as it did. -/
def ticketKeptSpec : ChangeSpec := { name := "ticketKept", fn := fun _ => fun
  | [d1, d2, d3, d4] => { results := [.lit (.bool true)], args := [d1, d2, d3, d4] }
  | _ => none }
def ticketKeptRow : OpenClaim := { program := "ytmijbplhmjledaa", sum := "79d66f06c1c0d7f5916c7accbadf6a112ec49463fce9915cf2c7cbe9e2fbd3c7", func := "granger/grangerlaw06.TicketKept", spec := "ticketKept", unfollowed := true, recurses := true, apart := false }
def TicketKeptSaid : Prop := ticketKeptRow.holds Try.pinned (OpenSpec.ofChange ticketKeptSpec)

/-- ITS FALSE NEIGHBOUR: 'it returns false'. Refute it at one input. -/
def ticketKeptWrong : ChangeSpec := { name := "ticketKept", fn := fun _ => fun
  | [d1, d2, d3, d4] => { results := [.lit (.bool false)], args := [d1, d2, d3, d4] }
  | _ => none }
def TicketKeptWrongFalsely : Prop := ticketKeptRow.holds Try.pinned (OpenSpec.ofChange ticketKeptWrong)

/-- 'grangerlaw06.TicketLate': WHATEVER THE INPUT: true; the input reads as it did. -/
def ticketLateSpec : ChangeSpec := { name := "ticketLate", fn := fun _ => fun
  | [d1, d2] => { results := [.lit (.bool true)], args := [d1, d2] }
  | _ => none }
def ticketLateRow : OpenClaim := { program := "ytmijbplhmjledaa", sum := "79d66f06c1c0d7f5916c7accbadf6a112ec49463fce9915cf2c7cbe9e2fbd3c7", func := "granger/grangerlaw06.TicketLate", spec := "ticketLate", unfollowed := true, recurses := true, apart := false }
def TicketLateSaid : Prop := ticketLateRow.holds Try.pinned (OpenSpec.ofChange ticketLateSpec)

/-- ITS FALSE NEIGHBOUR: 'it returns false'. Refute it at one input. -/
def ticketLateWrong : ChangeSpec := { name := "ticketLate", fn := fun _ => fun
  | [d1, d2] => { results := [.lit (.bool false)], args := [d1, d2] }
  | _ => none }
def TicketLateWrongFalsely : Prop := ticketLateRow.holds Try.pinned (OpenSpec.ofChange ticketLateWrong)

/- THE SECOND FORM. 'bulk': how many values and letters a reading holds, each counted each time it is reached (what is shared counts as often as it is met; a slice's spare places count too). A statement '..UptoSaid' is the law's where the arguments, and the package variables that the reading takes, are together of bulk at most 1048576: NARROWER than '..Said'. Prove '..Said' where nothing that the law and all that it calls make is longer than what came in: it says more and counts as full. Else prove '..UptoSaid'. A law counts once. -/
mutual
def uptoBulk {H : Type} : DataW H → Nat
  | .lit (.string bytes) => bytes.length + 1
  | .lit _ => 1
  | .nil => 1
  | .ptr d => uptoBulk d + 1
  | .slice elems spare => uptoBulkAll elems + uptoBulkAll spare + 1
  | .agg parts => uptoBulkAll parts + 1
  | .iface _ d => uptoBulk d + 1
  | .map entries => uptoBulkEntries entries + 1
  | .held _ => 1
def uptoBulkAll {H : Type} : List (DataW H) → Nat
  | [] => 0
  | d :: r => uptoBulk d + uptoBulkAll r
def uptoBulkEntries {H : Type} : List (Lit × DataW H) → Nat
  | [] => 0
  | x :: r => uptoBulkEntry x + uptoBulkEntries r
def uptoBulkEntry {H : Type} : Lit × DataW H → Nat
  | (.string bytes, d) => bytes.length + uptoBulk d + 1
  | (_, d) => uptoBulk d + 1
 end
def uptoSmall : (H : Type) → List (DataW H) → Bool := fun _ ds => decide (uptoBulkAll ds ≤ 1048576)
def OpenSpec.upto (s : _root_.Go.ChangeSpec) : _root_.Go.OpenSpec := { _root_.Go.OpenSpec.ofChange s with cond := some uptoSmall }

/-- 'grangerlaw06.TicketExact', WHERE WHAT IT READS IS OF BULK AT MOST 1048576: true; the input reads as it did. -/
def ticketExactUptoRow : OpenClaim := { program := "ytmijbplhmjledaa", sum := "79d66f06c1c0d7f5916c7accbadf6a112ec49463fce9915cf2c7cbe9e2fbd3c7", func := "granger/grangerlaw06.TicketExact", spec := "ticketExact", unfollowed := true, recurses := true, apart := false, narrowed := true }
def TicketExactUptoSaid : Prop := ticketExactUptoRow.holds Try.pinned (OpenSpec.upto ticketExactSpec)

/-- 'grangerlaw06.TicketNil', WHERE WHAT IT READS IS OF BULK AT MOST 1048576: true; the input reads as it did. -/
def ticketNilUptoRow : OpenClaim := { program := "ytmijbplhmjledaa", sum := "79d66f06c1c0d7f5916c7accbadf6a112ec49463fce9915cf2c7cbe9e2fbd3c7", func := "granger/grangerlaw06.TicketNil", spec := "ticketNil", unfollowed := true, recurses := true, apart := false, narrowed := true }
def TicketNilUptoSaid : Prop := ticketNilUptoRow.holds Try.pinned (OpenSpec.upto ticketNilSpec)

/-- 'grangerlaw06.TicketKept', WHERE WHAT IT READS IS OF BULK AT MOST 1048576: true; the input reads as it did. -/
def ticketKeptUptoRow : OpenClaim := { program := "ytmijbplhmjledaa", sum := "79d66f06c1c0d7f5916c7accbadf6a112ec49463fce9915cf2c7cbe9e2fbd3c7", func := "granger/grangerlaw06.TicketKept", spec := "ticketKept", unfollowed := true, recurses := true, apart := false, narrowed := true }
def TicketKeptUptoSaid : Prop := ticketKeptUptoRow.holds Try.pinned (OpenSpec.upto ticketKeptSpec)

/-- 'grangerlaw06.TicketLate', WHERE WHAT IT READS IS OF BULK AT MOST 1048576: true; the input reads as it did. -/
def ticketLateUptoRow : OpenClaim := { program := "ytmijbplhmjledaa", sum := "79d66f06c1c0d7f5916c7accbadf6a112ec49463fce9915cf2c7cbe9e2fbd3c7", func := "granger/grangerlaw06.TicketLate", spec := "ticketLate", unfollowed := true, recurses := true, apart := false, narrowed := true }
def TicketLateUptoSaid : Prop := ticketLateUptoRow.holds Try.pinned (OpenSpec.upto ticketLateSpec)

end Rows
end Go.Proofs.Ytmijbplhmjledaa
