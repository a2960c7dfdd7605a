/-
  PenWrites answers true for every row of deeds, of whatever length and content, and leaves it as it was. No condition.
-/
import Derived.Test.YtfenclojhhfhbaaPenWrites
import Derived.Test.YtfenclojhhfhbaaOpens
namespace Go.Proofs.Ytfenclojhhfhbaa.penWritesDone
open Go.ChangeShapes Go.WideShapes Go.ChangeAt Go.RowKit
open Go.ChangeMaps (open_string shut_string)
set_option linter.unusedVariables false

theorem own : ownKnob Try.prog.godebug = none := by kernel_rfl
theorem laidOut : laidOutB Try.prog = true := by kernel_rfl
theorem cellsAct : Try.prog.cellsOf 29 = 6 := by kernel_rfl
theorem cellsInt : Try.prog.cellsOf 3 = 1 := by kernel_rfl
theorem cellsStr : Try.prog.cellsOf 9 = 1 := by kernel_rfl

theorem in64_of {z : Int} (h : (Lit.int .i64 z).wf = true) : in64 z := by
  have := bounds_i64 h
  unfold in64
  omega

/-- A deed's reading. -/
theorem open_act {H : Type} {enc : TypeId × Value → H} {w : World} {base : Nat} {spare : Nat → Bool} {held : Bool} {fuel : Nat} {cs : List Value} {y : DataW H × List MemPlace}
    (h : DataW.trod enc Try.prog w base spare held fuel 29 cs = some y) : ∃ x : ActV, x.ok ∧ ∀ (f : Nat) (v : Value), x.cells[f]? = some v → cs[f]? = some v := by
  obtain ⟨z0, e0, k0⟩ := open_field_int Try.underlying29 h 0 _ rfl cellsInt (by rw [cellsAct]; decide) Try.underlying3
  obtain ⟨z1, e1, k1⟩ := open_field_int Try.underlying29 h 1 _ rfl cellsInt (by rw [cellsAct]; decide) Try.underlying3
  obtain ⟨z2, e2, k2⟩ := open_field_int Try.underlying29 h 2 _ rfl cellsInt (by rw [cellsAct]; decide) Try.underlying3
  obtain ⟨z3, e3, k3⟩ := open_field_int Try.underlying29 h 3 _ rfl cellsInt (by rw [cellsAct]; decide) Try.underlying3
  obtain ⟨s4, e4, k4⟩ := open_field_string Try.underlying29 h 4 _ rfl cellsStr (by rw [cellsAct]; decide) Try.underlying9
  obtain ⟨s5, e5, k5⟩ := open_field_string Try.underlying29 h 5 _ rfl cellsStr (by rw [cellsAct]; decide) Try.underlying9
  refine ⟨⟨z0, z1, z2, z3, s4, s5⟩, ⟨in64_of k0, in64_of k1, in64_of k2, in64_of k3, k4, k5⟩, fun f v hv => ?_⟩
  match f, hv with
  | 0, hv => simpa [ActV.cells] using e0.trans hv
  | 1, hv => simpa [ActV.cells] using e1.trans hv
  | 2, hv => simpa [ActV.cells] using e2.trans hv
  | 3, hv => simpa [ActV.cells] using e3.trans hv
  | 4, hv => simpa [ActV.cells] using e4.trans hv
  | 5, hv => simpa [ActV.cells] using e5.trans hv
  | n + 6, hv => simp [ActV.cells] at hv

theorem open_acts {H : Type} {enc : TypeId × Value → H} {w : World} {base : Nat} {held : Bool} {a : Option Addr} {len cap : Nat} {d : DataW H} {p : List MemPlace}
    (h : DataW.Trod enc Try.prog w base (fun _ => true) held 22 (.slice a len cap) d p) : len ≤ maxLen ∧ ∃ xs : List ActV, xs.length = len ∧ IsActs w a xs := by
  obtain ⟨h1, h2⟩ := open_elems Try.underlying22 (by rw [cellsAct]; decide) h
  refine ⟨h1, ?_⟩
  rcases h2 with rfl | ⟨b, off, rfl, hb, hel⟩
  · exact ⟨[], rfl, ⟨fun x hx => absurd hx (by simp), .inl rfl⟩⟩
  · rw [cellsAct] at hel
    have hel2 : ∀ i, i < len → ∃ x : ActV, x.ok ∧ ∀ (f : Nat) (v : Value), x.cells[f]? = some v → w.cell? ⟨b, off + i * 6 + f, none⟩ = some v := fun i hi => by
      obtain ⟨cs, n, y, h3, h4, h5⟩ := hel i hi
      obtain ⟨x, hx, hxc⟩ := open_act h5
      refine ⟨x, hx, fun f v hv => ?_⟩
      have hf : f < 6 := by
        have := (List.getElem?_eq_some_iff.1 hv).1
        simpa [ActV.cells] using this
      rw [h4 f hf]
      exact hxc f v hv
    haveI : Inhabited ActV := ⟨⟨0, 0, 0, 0, ByteArray.empty, ByteArray.empty⟩⟩
    obtain ⟨X, hX⟩ := Deep.choose_lt hel2
    refine ⟨(List.range len).map X, by simp, ⟨fun x hx => ?_, .inr ⟨b, off, rfl, hb, fun i hi f v hv => ?_⟩⟩⟩
    · simp at hx
      obtain ⟨i, hi, rfl⟩ := hx
      exact (hX i hi).1
    · simp at hi hv
      exact (hX i hi).2 f v hv

set_option maxRecDepth 100000 in
theorem lifted (os : Os) (started : os.Started) (H : Type) (enc : TypeId × Value → H) :
    ReturnsInHanded {} Try.checked os 3 .any (Rows.penWritesSpec.pre6 enc Try.prog Try.f3 Rows.penWritesRow.domain false) (Rows.penWritesSpec.post enc Try.prog Try.f3 false true false false) := by
  refine returnsInHanded_of_change (C := Try.checked) own started (by kernel_rfl) Try.func3
    (ChangeSpec.witness6 (enc := enc) (C := Try.checked) false ⟨#[], #[.slice none 0 0], []⟩ 8 (by kernel_rfl) (by kernel_rfl) (by kernel_rfl) (by kernel_rfl)) ?_
  intro W base args ds gs before hval0 hW hcnd _
  have hval : ∀ (j : Nat) t v, Try.f3.params[j]? = some t → args[j]? = some v → Value.okWide Try.prog W .any base t v := hval0
  have hW' := hW
  obtain ⟨p, q, hA0, hV, rfl, hfz, hnd⟩ := hW
  have hA : DataW.TrodAll enc Try.prog W 0 (fun _ => true) true Try.f3.params.toList args.toList ds p := hA0
  rw [Try.params3] at hA hval
  obtain ⟨v0, vs0, d0, ds0, p0, q0, hargs, rfl, rfl, h0, r0⟩ := trodAll_cons hA
  obtain ⟨rfl, rfl, rfl⟩ := trodAll_nil r0
  obtain rfl : args = #[v0] := by cases args; simp_all
  obtain ⟨rfl, rfl⟩ := trodVars_none hV
  obtain ⟨a0, len0, cap0, rfl⟩ := okWide_slice Try.underlying22 (hval 0 22 v0 rfl rfl)
  have k0 := h0
  have lt0 : ∀ x ∈ p0, x.block < W.heap.size := by obtain ⟨m, hm⟩ := k0; exact DataW.trod_lt m _ _ _ hm
  obtain ⟨hl, xs, hxl, hxs⟩ := open_acts h0
  clear hA0 hval0
  subst hxl
  refine (writes_walk a0 cap0 xs (by unfold maxLen at hl; omega) W hxs).mono fun e W' ⟨he, hst⟩ => ?_
  subst he
  have bel : Below W.heap.size W W' := hst.below (fun k hk => hk.elim)
  exact ⟨_, rfl, _, _, _, [], _, [], hW', trodAll_mk1 (shut_bool Try.underlying4 _), (trodAll_cons_mk (Below.trod laidOut (by kernel_rfl) (of_decide_eq_true (by kernel_rfl)) k0 bel lt0) trodAll_mk0), rfl, bel.frame _, fun h => by cases h⟩

theorem over : Rows.penWritesRow.holds Try.pinned (OpenSpec.ofChange Rows.penWritesSpec) :=
  OpenClaim.holds_of_wide 3 Try.f3 rfl rfl rfl rfl rfl rfl rfl ⟨rfl, rfl, rfl, rfl, rfl⟩ rfl rfl rfl rfl rfl (by kernel_rfl) Try.func3 (by kernel_rfl)
    (of_decide_eq_true (by kernel_rfl)) (by unfold Func.isWrapper; first | (rw [if_pos (by decide +kernel)]; kernel_rfl) | (rw [if_neg (by decide +kernel)]; exact ⟨rfl, rfl⟩))
    (fun os started H enc _ => lifted os started H enc)
end Go.Proofs.Ytfenclojhhfhbaa.penWritesDone
namespace Go.Proofs.Ytfenclojhhfhbaa
theorem penWrites_holds : Rows.PenWritesSaid := penWritesDone.over
end Go.Proofs.Ytfenclojhhfhbaa
