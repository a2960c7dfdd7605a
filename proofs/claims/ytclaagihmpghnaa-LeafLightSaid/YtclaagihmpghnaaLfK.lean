/-
  A leaf that is still made: lift.
-/
import Derived.Test.YtclaagihmpghnaaLfJ
namespace Go.Proofs.Ytclaagihmpghnaa
open Go.RowKit Go.Sort
set_option linter.unusedVariables false
set_option linter.unusedSimpArgs false
set_option maxRecDepth 20000

/-- What lift answers, and what it leaves. -/
def liftO (k : List UInt8) (D : List Rg) : Option (List UInt8) := match D.getLast? with
  | none => none
  | some z => if z.lo = k then some z.hi else none
def liftD (k : List UInt8) (D : List Rg) : List Rg := if (liftO k D).isSome then D.dropLast else D
set_option maxHeartbeats 2000000 in
theorem lift_any (b : Nat) (P : Nat → Prop) (D R : List Rg) (hl : D.length ≤ 1000000) (k : List UInt8) (w : World) (h : DraftAt w b P D R) :
    Calls Try.prog 76 #[.pointer (some ⟨b, 0, none⟩), .string (str k)] w fun e w' => e = .returned (.tuple #[.string (str ((liftO k D).getD [])), .bool (liftO k D).isSome]) ∧ DraftAt w' b P (liftD k D) R ∧ Step (fun j => b ≤ j ∧ ¬ P j) w w' := by
  obtain ⟨da, dc, a, c, hb, ho, hr, hpb, hpo⟩ := h
  obtain ⟨k0, k1, z0, z1⟩ := draft_cells hb
  have hE := same_str
  have HB := hid hb
  have HO := hid ho
  have HR := hid hr
  have HPB := hid hpb
  have HPO := hid hpo
  clear hb ho hr hpb hpo
  by_cases hD : D = []
  · subst hD
    rw [List.length_nil] at k0
    go_enter Try.func76, Try.ntmps76
    go_wp2_with fail
    go_ret2
    exact ⟨rfl, ⟨da, dc, a, c, HB.out, HO.out, HR.out, HPB.out, HPO.out⟩, Step.refl _ _⟩
  · have hp : 0 < D.length := List.length_pos_iff.2 hD
    obtain ⟨m, hm⟩ : ∃ m, D.length = m + 1 := ⟨D.length - 1, by omega⟩
    have hml : m < D.length := by omega
    obtain ⟨_, _, hv, hcap, hnok, hrg⟩ := owns_rgs HO.out
    injection hv with e1 _ e2
    subst e1
    subst e2
    obtain ⟨g, off, rfl, c0, c1⟩ := hrg.at m hml
    have hlast : D.getLast? = some D[m] := by rw [List.getLast?_eq_getElem?, hm, Nat.add_sub_cancel, List.getElem?_eq_getElem hml]
    have em : (D.length : Int) - 1 = (m : Int) := by omega
    have rm : IntKind.i64.wrap (m : Int) = (m : Int) := by rw [IntKind.wrap_i64]; omega
    have bm : (m : Int) < (D.length : Int) := by omega
    have bc : (m : Int) ≤ (dc : Int) := by omega
    have nm : ¬ (m : Int) < 0 := by omega
    have HLO : Hid (liftO k D = if D[m].lo = k then some D[m].hi else none) := by show _ = _; unfold liftO; rw [hlast]
    have HDL : Hid (D.dropLast = D.take m) := by show _ = _; rw [List.dropLast_eq_take, hm, Nat.add_sub_cancel]
    have HLT : Hid ((D.take m).length = m) := by show _ = _; simp; omega
    obtain ⟨⟨x, y⟩, hx⟩ : ∃ z, D[m] = z := ⟨_, rfl⟩
    rw [hx] at c0 c1 HLO
    clear hx hlast hm hrg hcap hnok hp hD
    by_cases hxk : x = k
    · subst hxk
      have HL2 : Hid (liftO x D = some y) := by show _ = _; rw [HLO.out]; simp
      go_enter Try.func76, Try.ntmps76
      go_wp2_with fail
      go_ret2
      refine ⟨by rw [HL2.out]; rfl, ?_, Step.setCell (p := ⟨b, 0, none⟩) (Step.refl _ w) (.inl ⟨Nat.le_refl _, HPB.out⟩) _⟩
      have eD : liftD x D = D.take m := by unfold liftD; rw [HL2.out, ← HDL.out]; rfl
      rw [eD]
      have h1 := block_setCell HB.out 0 (.slice (some ⟨g, off, none⟩) m dc)
      have hne : ∀ q, (Value.slice (some ⟨g, off, none⟩) q dc).ownBlock ≠ some b := fun q e => by
        have := (HO.out.lt b e).1
        omega
      refine ⟨some ⟨g, off, none⟩, dc, a, c, by rw [HLT.out]; exact h1, ?_, HR.out.step (P := P) (Step.setCell (p := ⟨b, 0, none⟩) (Step.refl _ w) (.inl ⟨Nat.le_refl _, HPB.out⟩) _) (Nat.le_of_lt (lt_of_block HB.out)), HPB.out, fun q hq => HPO.out q hq⟩
      rcases HO.out.2 with ⟨h, _⟩ | ⟨g', cap, cur, h, q1, q2, q3, q4, q5, q6⟩
      · cases h
      · injection h with h _ h'
        injection h with h
        injection h with h h2
        subst h
        subst h2
        subst h'
        rw [HLT.out]
        have hgb : g ≠ b := by omega
        refine owns_of_block q1 (cur := cur) ?_ (by omega) q4 q5 ?_ (by rw [rgs_length, HLT.out])
        · exact ((Step.setCell (F := oneF b) (p := ⟨b, 0, none⟩) (Step.refl (oneF b) w) (.inl rfl) _).block g (lt_of_block q2) hgb).trans q2
        · have e3 : rgs D = rgs (D.take m) ++ rgs (D.drop m) := by rw [← rgs_append, List.take_append_drop]
          have := congrArg (List.take (m * 2)) q6
          rw [List.take_take, Nat.min_eq_left (by omega), e3, List.take_left' (by rw [rgs_length, HLT.out])] at this
          exact this
    · have HL2 : Hid (liftO k D = none) := by show _ = _; rw [HLO.out, if_neg hxk]
      go_enter Try.func76, Try.ntmps76
      go_wp2_with fail
      go_ret2
      refine ⟨by rw [HL2.out]; rfl, ?_, Step.refl _ _⟩
      have eD : liftD k D = D := by unfold liftD; rw [HL2.out]; rfl
      rw [eD]
      exact ⟨_, dc, a, c, HB.out, HO.out, HR.out, HPB.out, HPO.out⟩
end Go.Proofs.Ytclaagihmpghnaa
