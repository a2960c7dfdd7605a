/-
  Rows of messages in memory. Nothing of the program is named here.
-/
import Derived.Test.YtclaagihmpghnaaMsgM
namespace Go.Proofs.Ytclaagihmpghnaa
open Go.RowKit
set_option linter.unusedVariables false

/-- A row of messages, none of it in F. -/
def MsgsAt (w : World) (F : Nat → Prop) (a : Option Addr) (ms : List Mg) : Prop :=
  ms = [] ∨ ∃ b off, a = some ⟨b, off, none⟩ ∧ ¬ F b ∧ b < w.heap.size ∧ ∀ j (h : j < ms.length), w.cell? ⟨b, off + j * 3, none⟩ = some (.int .i64 ms[j].kind) ∧ w.cell? ⟨b, off + j * 3 + 1, none⟩ = some (.string (str ms[j].key)) ∧ w.cell? ⟨b, off + j * 3 + 2, none⟩ = some (.string (str ms[j].val))
theorem MsgsAt.step {w w' : World} {F G : Nat → Prop} {a : Option Addr} {ms : List Mg} (h : MsgsAt w F a ms) (hs : Step G w w') (hG : ∀ k, G k → F k) : MsgsAt w' F a ms := by
  rcases h with h | ⟨b, off, rfl, hF, hb, h⟩
  · exact .inl h
  · refine .inr ⟨b, off, rfl, hF, Nat.lt_of_lt_of_le hb hs.size, fun j hj => ?_⟩
    obtain ⟨h1, h2, h3⟩ := h j hj
    have k : ∀ q, w'.cell? ⟨b, q, none⟩ = w.cell? ⟨b, q, none⟩ := fun q => hs.cell (p := ⟨b, q, none⟩) (fun x => hF (hG _ x)) hb
    exact ⟨(k _).trans h1, (k _).trans h2, (k _).trans h3⟩
/-- Another footprint, whose blocks are those of the first or new. -/
theorem MsgsAt.foot {w : World} {F G : Nat → Prop} {a : Option Addr} {ms : List Mg} (h : MsgsAt w F a ms) (hG : ∀ k, k < w.heap.size → G k → F k) : MsgsAt w G a ms := by
  rcases h with h | ⟨b, off, rfl, hF, hb, h⟩
  · exact .inl h
  · exact .inr ⟨b, off, rfl, fun x => hF (hG b hb x), hb, h⟩
theorem MsgsAt.at {w : World} {F : Nat → Prop} {a : Option Addr} {ms : List Mg} (h : MsgsAt w F a ms) (j : Nat) (hj : j < ms.length) : ∃ b off, a = some ⟨b, off, none⟩ ∧ w.cell? ⟨b, off + j * 3, none⟩ = some (.int .i64 ms[j].kind) ∧ w.cell? ⟨b, off + j * 3 + 1, none⟩ = some (.string (str ms[j].key)) ∧ w.cell? ⟨b, off + j * 3 + 2, none⟩ = some (.string (str ms[j].val)) := by
  rcases h with rfl | ⟨b, off, rfl, hF, hb, h⟩
  · simp at hj
  · exact ⟨b, off, rfl, h j hj⟩
theorem MsgsAt.at2 {w : World} {F : Nat → Prop} {a : Option Addr} {ms : List Mg} (h : MsgsAt w F a ms) (j : Nat) (hj : j < ms.length) : ∃ b off, a = some ⟨b, off, none⟩ ∧ ¬ F b ∧ b < w.heap.size ∧ w.cell? ⟨b, off + j * 3, none⟩ = some (.int .i64 ms[j].kind) ∧ w.cell? ⟨b, off + j * 3 + 1, none⟩ = some (.string (str ms[j].key)) ∧ w.cell? ⟨b, off + j * 3 + 2, none⟩ = some (.string (str ms[j].val)) := by
  rcases h with rfl | ⟨b, off, rfl, hF, hb, h⟩
  · simp at hj
  · exact ⟨b, off, rfl, hF, hb, h j hj⟩
end Go.Proofs.Ytclaagihmpghnaa
