/-
  What an Out does: Raw, Bytes, Len, Num, Text, of an Out and of nil.
-/
import Derived.Test.YthniannpamcajaaPenA
namespace Go.Proofs.Ythniannpamcajaa
open Go.RowKit
set_option linter.unusedVariables false

/-- The Out at p holds bs2; only its own blocks have turned. -/
def OutPost (w : World) (p : Nat) (F : Nat → Prop) (bs2 : List UInt8) (w' : World) : Prop :=
  ∃ F', Step F w w' ∧ IsOut w' p F' bs2 ∧ ∀ j, F' j → F j ∨ w.heap.size ≤ j

theorem OutPost.same {w : World} {p : Nat} {F : Nat → Prop} {bs : List UInt8} (h : IsOut w p F bs) : OutPost w p F bs w := ⟨F, Step.refl _ _, h, fun _ h => .inl h⟩

theorem IsOut.mono {w w' : World} {p : Nat} {F G : Nat → Prop} {bs : List UInt8} (h : IsOut w p F bs) (hs : Step G w w') (hd : ∀ k, F k → ¬ G k) : IsOut w' p F bs := by
  obtain ⟨v, hblk, hown, hvb⟩ := h.row
  refine ⟨fun k hk => Nat.lt_of_lt_of_le (h.lt k hk) hs.size, h.self, v, (hs.block p (lt_of_block hblk) (hd p h.self)).trans hblk, ⟨hown.1, ?_⟩, hvb⟩
  rcases hown.2 with x | ⟨g, cap, cur, rfl, hg, hh, rest⟩
  · exact .inl x
  · exact .inr ⟨g, cap, cur, rfl, hg, (hs.block g (lt_of_block hh) (hd g (hvb g rfl).2)).trans hh, rest⟩

set_option maxHeartbeats 400000 in
theorem raw_nil (s : ByteArray) (w : World) : Calls Try.prog 23 #[.pointer none, .string s] w fun e w' => e = .returned (.tuple #[]) ∧ w = w' := by
  go_enter Try.func23, Try.ntmps23
  go_wp2
  refine bodyPost_ret (results_none rfl _ _ _) rfl ?_
  exact ⟨rfl, rfl⟩

set_option maxHeartbeats 400000 in
theorem raw_any (s : ByteArray) (p : Nat) (F : Nat → Prop) (bs : List UInt8) (w : World) (ho : IsOut w p F bs) (hb : bs.length + s.size ≤ 2000000) :
    Calls Try.prog 23 #[.pointer (some ⟨p, 0, none⟩), .string s] w fun e w' => e = .returned (.tuple #[]) ∧ OutPost w p F (bs ++ s.data.toList) w' := by
  obtain ⟨v, hblk, hown, hvb⟩ := ho.row
  have hc := cell_of_block hblk 0
  have hf := frozen_of_block hblk 0
  simp at hc
  obtain ⟨i0, hi, hz0, hz1, hz2⟩ := info_parts info_u8
  have hl1 : Hid (bs.length + s.size ≤ maxLen) := by show _ ≤ _; unfold maxLen; omega
  have hl2 : Hid (bs.length + s.size ≤ 140737488355328) := by show _ ≤ _; omega
  have hne : Hid (some p ≠ v.ownBlock) := fun e => (hvb p e.symm).1 rfl
  have HB := hid hblk
  clear hblk
  go_enter Try.func23, Try.ntmps23
  go_wp2_with (at_builtin; refine wpList_append_fresh_string rfl (.tmp 10) (.tmp 11) 44 9 rfl 5 i0 Try.underlying44 Try.underlying9 hi hz0 hz1 hz2 v _ _ (by simp [Act.eval]) hown s (by simp [Act.eval]) hl1.out hl2.out ?_; intro v' w' ho' hg' hfr; have hb' := grown_block hg' HB.out hne.out; have hc' := cell_of_block hb' 0; have hf' := frozen_of_block hb' 0; have HB' := hid hb'; clear hb'; simp at hc'; obtain ⟨ao, cc, rfl⟩ := owns_form ho')
  go_end0
  exact ⟨rfl, out_app ho HB.out hvb (Step.refl noF w) ho' (by simp) (by rw [strCells_eq, ← cellsOf_append]) hg' hfr⟩

set_option maxHeartbeats 400000 in
theorem bytes_nil (w : World) : Calls Try.prog 25 #[.pointer none] w fun e w' => e = .returned (.string ⟨#[]⟩) ∧ w = w' := by
  go_enter Try.func25, Try.ntmps25
  go_wp2
  go_ret
  exact ⟨rfl, rfl⟩

set_option maxHeartbeats 400000 in
theorem bytes_any (p : Nat) (F : Nat → Prop) (bs : List UInt8) (w : World) (ho : IsOut w p F bs) :
    Calls Try.prog 25 #[.pointer (some ⟨p, 0, none⟩)] w fun e w' => e = .returned (.string ⟨bs.toArray⟩) ∧ w = w' := by
  obtain ⟨v, hblk, hown, hvb⟩ := ho.row
  have hc := cell_of_block hblk 0
  simp at hc
  have hs := run_string_owned (P := Try.prog) w 44 9 5 Try.underlying44 Try.underlying5 Try.underlying9 rfl hown
  obtain ⟨ao, cc, rfl⟩ := owns_form hown
  clear hown hvb hblk ho
  go_enter Try.func25, Try.ntmps25
  go_wp2
  go_ret
  exact ⟨rfl, rfl⟩

set_option maxHeartbeats 400000 in
theorem len_nil (w : World) : Calls Try.prog 31 #[.pointer none] w fun e w' => e = .returned (.int .i64 0) ∧ w = w' := by
  go_enter Try.func31, Try.ntmps31
  go_wp2
  go_ret
  exact ⟨rfl, rfl⟩

set_option maxHeartbeats 400000 in
theorem len_any (p : Nat) (F : Nat → Prop) (bs : List UInt8) (w : World) (ho : IsOut w p F bs) :
    Calls Try.prog 31 #[.pointer (some ⟨p, 0, none⟩)] w fun e w' => e = .returned (.int .i64 bs.length) ∧ w = w' := by
  obtain ⟨v, hblk, hown, hvb⟩ := ho.row
  have hc := cell_of_block hblk 0
  simp at hc
  obtain ⟨ao, cc, rfl⟩ := owns_form hown
  clear hown hvb hblk ho
  go_enter Try.func31, Try.ntmps31
  go_wp2
  go_ret
  exact ⟨rfl, rfl⟩

end Go.Proofs.Ythniannpamcajaa
