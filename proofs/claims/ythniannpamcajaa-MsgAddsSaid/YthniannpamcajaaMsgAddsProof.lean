/-
  MsgAdds answers true for every number, every row of numbers of 64 bits, of whatever length, and both bools, and leaves the row as it was. No condition.
-/
import Derived.Test.YthniannpamcajaaMsgAdds
import Derived.Test.YthniannpamcajaaMsgOpen
namespace Go.Proofs.Ythniannpamcajaa.msgAddsDone
open Go.ChangeShapes Go.WideShapes Go.ChangeAt Go.RowKit
open Go.ChangeMaps (open_string shut_string)
set_option linter.unusedVariables false

theorem cellsU64 : Try.prog.cellsOf 24 = 1 := by kernel_rfl
theorem open_u64s {H : Type} {enc : TypeId × Value → H} {w : World} {base : Nat} {held : Bool} {a : Option Addr} {len cap : Nat} {d : DataW H} {p : List MemPlace}
    (h : DataW.Trod enc Try.prog w base (fun _ => true) held 62 (.slice a len cap) d p) : ∃ ns : List Nat, ns.length = len ∧ RowAt w noF a (u64s ns) ∧ ∀ n ∈ ns, n < 18446744073709551616 := by
  obtain ⟨h1, h2⟩ := open_elems Try.underlying62 (by rw [cellsU64]; decide) h
  rcases h2 with rfl | ⟨b, off, rfl, hb, hel⟩
  · exact ⟨[], rfl, .inl rfl, fun t ht => by simp at ht⟩
  · rw [cellsU64] at hel
    have hel2 : ∀ i, i < len → ∃ z : Nat, w.cell? ⟨b, off + i, none⟩ = some (.int .u64 (z : Int)) ∧ z < 18446744073709551616 := fun i hi => by
      obtain ⟨cs, n, y, h3, h4, h5⟩ := hel i hi
      obtain ⟨z, e, _, hz⟩ := DataW.trod_int Try.underlying24 h5
      subst e
      have hb := bounds_u64 hz
      obtain ⟨m, rfl⟩ := Int.eq_ofNat_of_zero_le hb.1
      refine ⟨m, ?_, by omega⟩
      have h6 := h4 0 (by omega)
      simpa using h6
    obtain ⟨X, hX⟩ := Deep.choose_lt hel2
    refine ⟨(List.range len).map X, by simp, .inr ⟨b, off, rfl, fun h => h, fun i hi => ?_⟩, fun t ht => ?_⟩
    · simp [u64s] at hi ⊢
      exact (hX i hi).1
    · simp at ht
      obtain ⟨i, hi, rfl⟩ := ht
      exact (hX i hi).2

set_option maxRecDepth 100000 in
theorem lifted (os : Os) (started : os.Started) (H : Type) (enc : TypeId × Value → H) :
    ReturnsInHanded {} Try.checked os 8 .any (Rows.msgAddsSpec.pre6 enc Try.prog Try.f8 Rows.msgAddsRow.domain false) (Rows.msgAddsSpec.post enc Try.prog Try.f8 false true false false) := by
  refine returnsInHanded_of_change (C := Try.checked) own_okM started (by kernel_rfl) Try.func8
    (ChangeSpec.witness6 (enc := enc) (C := Try.checked) false ⟨#[], #[.int .u64 0, .slice none 0 0, .bool false], []⟩ 8 (by kernel_rfl) (by kernel_rfl) (by kernel_rfl) (by kernel_rfl)) ?_
  intro W base args ds gs before hval0 hW hcnd _
  have hval : ∀ (j : Nat) t v, Try.f8.params[j]? = some t → args[j]? = some v → Value.okWide Try.prog W .any base t v := hval0
  have hW' := hW
  obtain ⟨p, q, hA0, hV, rfl, hfz, hnd⟩ := hW
  have hA : DataW.TrodAll enc Try.prog W 0 (fun _ => true) true Try.f8.params.toList args.toList ds p := hA0
  rw [Try.params8] at hA hval
  obtain ⟨v0, vs0, d0, ds0, p0, q0, hargs, rfl, rfl, h0, r0⟩ := trodAll_cons hA
  obtain ⟨v1, vs1, d1, ds1, p1, q1, rfl, rfl, rfl, h1, r1⟩ := trodAll_cons r0
  obtain ⟨v2, vs2, d2, ds2, p2, q2, rfl, rfl, rfl, h2, r2⟩ := trodAll_cons r1
  obtain ⟨rfl, rfl, rfl⟩ := trodAll_nil r2
  obtain rfl : args = #[v0, v1, v2] := by cases args; simp_all
  obtain ⟨rfl, rfl⟩ := trodVars_none hV
  have k1 := h1
  have lt1 : ∀ x ∈ p1, x.block < W.heap.size := by obtain ⟨m, hm⟩ := k1; exact DataW.trod_lt m _ _ _ hm
  obtain ⟨z, rfl, rfl, rfl, wz⟩ := open_int Try.underlying24 (hval 0 24 v0 rfl rfl) h0
  obtain ⟨a1, len1, cap1, rfl⟩ := okWide_slice Try.underlying62 (hval 1 62 v1 rfl rfl)
  obtain ⟨ns, hnl, hns, hnb⟩ := open_u64s h1
  obtain ⟨c, rfl, rfl, rfl⟩ := open_bool Try.underlying4 (hval 2 4 v2 rfl rfl) h2
  subst hnl
  have hz := bounds_u64 wz
  obtain ⟨n, rfl⟩ := Int.eq_ofNat_of_zero_le hz.1
  clear hA0 hval0
  refine (adds_walk n (by omega) ns hnb a1 cap1 c W hns).mono fun e W' ⟨he, hst⟩ => ?_
  subst he
  have bel : Below W.heap.size W W' := hst.below (fun k hk => hk.elim)
  exact ⟨_, rfl, _, _, _, [], _, [], hW', trodAll_mk1 (shut_bool Try.underlying4 _),
    (trodAll_cons_mk (shut_int Try.underlying24 wz) (trodAll_cons_mk (Below.trod laidOutM (by kernel_rfl) (of_decide_eq_true (by kernel_rfl)) k1 bel lt1)
      (trodAll_cons_mk (shut_bool Try.underlying4 _) trodAll_mk0))), rfl, bel.frame _, fun h => by cases h⟩

theorem over : Rows.msgAddsRow.holds Try.pinned (OpenSpec.ofChange Rows.msgAddsSpec) :=
  OpenClaim.holds_of_wide 8 Try.f8 rfl rfl rfl rfl rfl rfl rfl ⟨rfl, rfl, rfl, rfl, rfl⟩ rfl rfl rfl rfl rfl (by kernel_rfl) Try.func8 (by kernel_rfl)
    (of_decide_eq_true (by kernel_rfl)) (by unfold Func.isWrapper; first | (rw [if_pos (by decide +kernel)]; kernel_rfl) | (rw [if_neg (by decide +kernel)]; exact ⟨rfl, rfl⟩))
    (fun os started H enc _ => lifted os started H enc)
end Go.Proofs.Ythniannpamcajaa.msgAddsDone
namespace Go.Proofs.Ythniannpamcajaa
theorem msgAdds_holds : Rows.MsgAddsSaid := msgAddsDone.over
end Go.Proofs.Ythniannpamcajaa
