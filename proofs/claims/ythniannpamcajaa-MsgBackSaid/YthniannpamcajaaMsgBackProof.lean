/-
  MsgBack answers true for every row of messages, raw ones too, of whatever length and content, and leaves the row as it was. No condition.
-/
import Derived.Test.YthniannpamcajaaMsgBack
import Derived.Test.YthniannpamcajaaMsgOpen
namespace Go.Proofs.Ythniannpamcajaa.msgBackDone
open Go.ChangeShapes Go.WideShapes Go.ChangeAt Go.RowKit
open Go.ChangeMaps (open_string shut_string)
set_option linter.unusedVariables false

theorem open_msgs {H : Type} {enc : TypeId × Value → H} {w : World} {base : Nat} {held : Bool} {a : Option Addr} {len cap : Nat} {d : DataW H} {p : List MemPlace}
    (h : DataW.Trod enc Try.prog w base (fun _ => true) held 41 (.slice a len cap) d p) : ∃ ms : List Mg, ms.length = len ∧ MsgsAt w noF a ms ∧ ∀ m ∈ ms, m.val.length ≤ maxLen := by
  obtain ⟨h1, h2⟩ := open_elems Try.underlying41 (by rw [cellsMgM]; decide) h
  rcases h2 with rfl | ⟨b, off, rfl, hb, hel⟩
  · exact ⟨[], rfl, .inl rfl, fun t ht => by simp at ht⟩
  · rw [cellsMgM] at hel
    have hel2 : ∀ i, i < len → ∃ m : Mg, (w.cell? ⟨b, off + i * 3, none⟩ = some (.int .i64 m.kind) ∧ w.cell? ⟨b, off + i * 3 + 1, none⟩ = some (.string (str m.key)) ∧ w.cell? ⟨b, off + i * 3 + 2, none⟩ = some (.string (str m.val))) ∧ m.val.length ≤ maxLen := fun i hi => by
      obtain ⟨cs, n, y, h3, h4, h5⟩ := hel i hi
      obtain ⟨k, ek, zk⟩ := open_field_int Try.underlying23 h5 0 _ rfl cellsIntM (by rw [cellsMgM]; decide) Try.underlying3
      obtain ⟨s0, e0, z0⟩ := open_field_string Try.underlying23 h5 1 _ rfl cellsStrM (by rw [cellsMgM]; decide) Try.underlying9
      obtain ⟨s1, e1, z1⟩ := open_field_string Try.underlying23 h5 2 _ rfl cellsStrM (by rw [cellsMgM]; decide) Try.underlying9
      have q0 := h4 0 (by omega)
      have q1 := h4 1 (by omega)
      have q2 := h4 2 (by omega)
      refine ⟨⟨k, s0.data.toList, s1.data.toList⟩, ⟨q0.trans ek, ?_, ?_⟩, by rw [list_len]; exact z1⟩
      · show _ = some (Value.string (str s0.data.toList))
        rw [← str_of s0]
        exact q1.trans e0
      · show _ = some (Value.string (str s1.data.toList))
        rw [← str_of s1]
        exact q2.trans e1
    haveI : Inhabited Mg := ⟨Mg.zero⟩
    obtain ⟨X, hX⟩ := Deep.choose_lt hel2
    refine ⟨(List.range len).map X, by simp, .inr ⟨b, off, rfl, fun h => h, hb, fun i hi => ?_⟩, fun t ht => ?_⟩
    · simp at hi ⊢
      exact (hX i hi).1
    · simp at ht
      obtain ⟨i, hi, rfl⟩ := ht
      exact (hX i hi).2

set_option maxRecDepth 100000 in
theorem lifted (os : Os) (started : os.Started) (H : Type) (enc : TypeId × Value → H) :
    ReturnsInHanded {} Try.checked os 7 .any (Rows.msgBackSpec.pre6 enc Try.prog Try.f7 Rows.msgBackRow.domain false) (Rows.msgBackSpec.post enc Try.prog Try.f7 false true false false) := by
  refine returnsInHanded_of_change (C := Try.checked) own_okM started (by kernel_rfl) Try.func7
    (ChangeSpec.witness6 (enc := enc) (C := Try.checked) false ⟨#[], #[.slice none 0 0], []⟩ 8 (by kernel_rfl) (by kernel_rfl) (by kernel_rfl) (by kernel_rfl)) ?_
  intro W base args ds gs before hval0 hW hcnd _
  have hval : ∀ (j : Nat) t v, Try.f7.params[j]? = some t → args[j]? = some v → Value.okWide Try.prog W .any base t v := hval0
  have hW' := hW
  obtain ⟨p, q, hA0, hV, rfl, hfz, hnd⟩ := hW
  have hA : DataW.TrodAll enc Try.prog W 0 (fun _ => true) true Try.f7.params.toList args.toList ds p := hA0
  rw [Try.params7] at hA hval
  obtain ⟨v0, vs0, d0, ds0, p0, q0, hargs, rfl, rfl, h0, r0⟩ := trodAll_cons hA
  obtain ⟨rfl, rfl, rfl⟩ := trodAll_nil r0
  obtain rfl : args = #[v0] := by cases args; simp_all
  obtain ⟨rfl, rfl⟩ := trodVars_none hV
  have k0 := h0
  have lt0 : ∀ x ∈ p0, x.block < W.heap.size := by obtain ⟨m, hm⟩ := k0; exact DataW.trod_lt m _ _ _ hm
  obtain ⟨a1, len1, cap1, rfl⟩ := okWide_slice Try.underlying41 (hval 0 41 v0 rfl rfl)
  obtain ⟨ms, hnl, hms, hmb⟩ := open_msgs h0
  subst hnl
  clear hA0 hval0
  refine (back_walk ms hmb a1 cap1 W hms).mono fun e W' ⟨he, hst⟩ => ?_
  subst he
  have bel : Below W.heap.size W W' := hst.below (fun k hk => hk.elim)
  exact ⟨_, rfl, _, _, _, [], _, [], hW', trodAll_mk1 (shut_bool Try.underlying4 _),
    trodAll_cons_mk (Below.trod laidOutM (by kernel_rfl) (of_decide_eq_true (by kernel_rfl)) k0 bel lt0) trodAll_mk0, rfl, bel.frame _, fun h => by cases h⟩

theorem over : Rows.msgBackRow.holds Try.pinned (OpenSpec.ofChange Rows.msgBackSpec) :=
  OpenClaim.holds_of_wide 7 Try.f7 rfl rfl rfl rfl rfl rfl rfl ⟨rfl, rfl, rfl, rfl, rfl⟩ rfl rfl rfl rfl rfl (by kernel_rfl) Try.func7 (by kernel_rfl)
    (of_decide_eq_true (by kernel_rfl)) (by unfold Func.isWrapper; first | (rw [if_pos (by decide +kernel)]; kernel_rfl) | (rw [if_neg (by decide +kernel)]; exact ⟨rfl, rfl⟩))
    (fun os started H enc _ => lifted os started H enc)
end Go.Proofs.Ythniannpamcajaa.msgBackDone
namespace Go.Proofs.Ythniannpamcajaa
theorem msgBack_holds : Rows.MsgBackSaid := msgBackDone.over
end Go.Proofs.Ythniannpamcajaa
