/-
  What an Out does: Raw, Bytes, Len, Num, Text, of an Out and of nil.
-/
import Derived.Test.YtclaagihmpghnaaPenA
namespace Go.Proofs.Ytclaagihmpghnaa
open Go.RowKit
set_option linter.unusedVariables false

/-- The Out at p holds bs2; only its own blocks have turned. -/
def OutPost (w : World) (p : Nat) (F : Nat → Prop) (bs2 : List UInt8) (w' : World) : Prop :=
  ∃ F', Step F w w' ∧ IsOut w' p F' bs2 ∧ ∀ j, F' j → F j ∨ w.heap.size ≤ j

theorem OutPost.same {w : World} {p : Nat} {F : Nat → Prop} {bs : List UInt8} (h : IsOut w p F bs) : OutPost w p F bs w := ⟨F, Step.refl _ _, h, fun _ h => .inl h⟩

theorem IsOut.mono {w w' : World} {p : Nat} {F G : Nat → Prop} {bs : List UInt8} (h : IsOut w p F bs) (hs : Step G w w') (hd : ∀ k, F k → ¬ G k) : IsOut w' p F bs := by
  obtain ⟨v, hblk, hown, hvb⟩ := h.row
  refine ⟨fun k hk => Nat.lt_of_lt_of_le (h.lt k hk) hs.size, h.self, v, (hs.block p (lt_of_block hblk) (hd p h.self)).trans hblk, ⟨hown.1, ?_⟩, hvb⟩
  rcases hown.2 with x | ⟨g, cap, cur, rfl, hg, hh, rest⟩
  · exact .inl x
  · exact .inr ⟨g, cap, cur, rfl, hg, (hs.block g (lt_of_block hh) (hd g (hvb g rfl).2)).trans hh, rest⟩

set_option maxHeartbeats 400000 in
theorem bytes_nil (w : World) : Calls Try.prog 103 #[.pointer none] w fun e w' => e = .returned (.string ⟨#[]⟩) ∧ w = w' := by
  go_enter Try.func103, Try.ntmps103
  go_wp2
  go_ret
  exact ⟨rfl, rfl⟩

set_option maxHeartbeats 400000 in
theorem bytes_any (p : Nat) (F : Nat → Prop) (bs : List UInt8) (w : World) (ho : IsOut w p F bs) :
    Calls Try.prog 103 #[.pointer (some ⟨p, 0, none⟩)] w fun e w' => e = .returned (.string ⟨bs.toArray⟩) ∧ w = w' := by
  obtain ⟨v, hblk, hown, hvb⟩ := ho.row
  have hc := cell_of_block hblk 0
  simp at hc
  have hs := run_string_owned (P := Try.prog) w 127 9 5 Try.underlying127 Try.underlying5 Try.underlying9 rfl hown
  obtain ⟨ao, cc, rfl⟩ := owns_form hown
  clear hown hvb hblk ho
  go_enter Try.func103, Try.ntmps103
  go_wp2
  go_ret
  exact ⟨rfl, rfl⟩

end Go.Proofs.Ytclaagihmpghnaa
