/-
  What package dev calls of Go's library: strings.Repeat, strings.Join, slices.Clone, math/bits.Mul, off the shelf; slices.Repeat by its own walk.
-/
import Derived.Test.YthgcpeibjnflaaaDevA
import Derived.Test.YthgcpeibjnflaaaShelf
namespace Go.Proofs.Ythgcpeibjnflaaa
open Go.RowKit
set_option linter.unusedVariables false

theorem rep_list (c : Nat) : Lib.repeatL [0] c = List.replicate c 0 := by
  induction c with
  | zero => rfl
  | succ c ih => rw [Lib.repeatL, ih, List.replicate_succ]; rfl
theorem repeat_lib (w : World) : Calls Try.prog 36 #[.string ⟨#[0]⟩, .int .i64 256] w fun e w' => e = .returned (.string (str (List.replicate 256 0))) ∧ Step noF w w' := by
  refine (Any.strings_Repeat Try.lays105 Try.Builder_Extra_105 ⟨#[0]⟩ 256 w (by decide) (by decide)).mono ?_
  rintro e w' ⟨rfl, hb⟩
  exact ⟨ret_str (by rw [str, ← rep_list]), Step.ofBelow hb⟩

theorem joinTail_nil (r : List (List UInt8)) : Lib.joinTail [] r = r.flatten := by simp [Lib.joinTail]
theorem join_flat (xs : List (List UInt8)) : Lib.join xs [] = xs.flatten := by
  cases xs with
  | nil => rfl
  | cons x r => rw [Lib.join_cons, joinTail_nil]; rfl
theorem flat_len (xs : List (List UInt8)) (h : ∀ x ∈ xs, x.length = 256) : xs.flatten.length = 256 * xs.length := by
  induction xs with
  | nil => rfl
  | cons x xs ih =>
    rw [List.flatten_cons, List.length_append, ih (fun y hy => h y (List.mem_cons_of_mem _ hy)), h x List.mem_cons_self, List.length_cons]
    omega
theorem join_lib (bk c : Nat) (xs : List (List UInt8)) (w : World) (h : RowIn w bk 9 (strs xs)) (hl : xs.length ≤ 512) (hx : ∀ x ∈ xs, x.length = 256) (hc : xs.length ≤ c) :
    Calls Try.prog 34 #[.slice (some ⟨bk, 0, none⟩) xs.length c, .string ⟨#[]⟩] w fun e w' => e = .returned (.string (str xs.flatten)) ∧ Step noF w w' := by
  have hm : (xs.map str).map (·.data.toList) = xs := by
    rw [List.map_map, show (fun x : ByteArray => x.data.toList) ∘ str = id from funext (fun x => str_list x), List.map_id]
  have hf : Lib.join ((xs.map str).map (·.data.toList)) (ByteArray.mk #[]).data.toList = xs.flatten := by rw [hm]; exact join_flat xs
  have hh := Any.strings_Join Try.lays156 Try.Builder_Extra_156 bk 0 c (xs.map str) ⟨#[]⟩ w (fun j x hj => by
      have hj2 : j < xs.length := by have := (List.getElem?_eq_some_iff.1 hj).1; simpa using this
      rw [Nat.zero_add, h.cell j (by rw [strs_length]; exact hj2), strs_at]
      rw [List.getElem?_map, List.getElem?_eq_getElem hj2] at hj
      injection hj with hj
      rw [hj]) h.lt (by rw [List.length_map]; omega) (by rw [List.length_map]; exact hc) (by rw [hf, flat_len xs hx]; omega)
  rw [List.length_map, hf] at hh
  refine hh.mono ?_
  rintro e w' ⟨rfl, hb⟩
  exact ⟨rfl, Step.ofBelow hb⟩

theorem clone_lib (b c : Nat) (xs : List (List UInt8)) (w : World) (h : RowIn w b 9 (strs xs)) (h0 : 0 < xs.length) (hl : xs.length ≤ 512) :
    Calls Try.prog 37 #[.slice (some ⟨b, 0, none⟩) xs.length c] w fun e w' => ∃ g c', e = .returned (.slice (some ⟨g, 0, none⟩) xs.length c') ∧ w.heap.size ≤ g ∧ xs.length ≤ c' ∧ RowIn w' g 9 (strs xs) ∧ Step noF w w' := by
  have hh := Any.slices_Clone_string Try.laysNm216 b 0 xs.length c (xs.map str) w (by simp) (by omega) (fun j hj => by
      rw [List.length_map] at hj
      rw [Nat.zero_add, h.cell j (by rw [strs_length]; exact hj), strs_at]
      simp [List.getD_eq_getElem?_getD, hj])
  refine hh.mono ?_
  rintro e w' ⟨v', rfl, ho, _, hb⟩
  have e1 : ((xs.map str).take xs.length).map Value.string = strs xs := by
    rw [List.take_of_length_le (by simp), List.map_map]; rfl
  rw [e1] at ho
  obtain ⟨g, c', rfl, hc', hr, hg⟩ := rowIn_owns (owns_base ho (Nat.zero_le _)) h0
  exact ⟨g, c', rfl, (ho.lt g hg).1, hc', hr, Step.ofBelow hb⟩

theorem info_bool : (Try.prog.info? 4).map (fun i => (i.zero, i.size, i.bytes)) = some (some (.bool false), 1, 1) := by kernel_rfl
theorem info_three {i : Option TypeInfo} {z : Option Value} {a b : Nat} (h : i.map (fun i => (i.zero, i.size, i.bytes)) = some (z, a, b)) : ∃ j, i = some j ∧ j.zero = z ∧ j.size = a ∧ j.bytes = b := by
  obtain ⟨j, rfl, h⟩ := Option.map_eq_some_iff.1 h
  simp at h
  exact ⟨j, rfl, h.1, h.2.1, h.2.2⟩
theorem cloneB_lib (a : Option Addr) (c : Nat) (ks : List Bool) (G : Nat → Prop) (w : World) (h : RowAt w G a (bools ks)) (hl : ks.length ≤ 1000) :
    Calls Try.prog 32 #[.slice a ks.length c] w fun e w' => ∃ a' c', e = .returned (.slice a' ks.length c') ∧ ks.length ≤ c' ∧ RowAt w' (fun k => k < w.heap.size) a' (bools ks) ∧ Step noF w w' := by
  cases a with
  | none =>
    have hk : ks = [] := by
      rcases h with h | ⟨b, off, h, _⟩
      · simpa [bools] using h
      · cases h
    subst hk
    refine (AnyE.slices_Clone_nil Try.laysSlE041_f32 0 c w).mono ?_
    rintro e w' ⟨rfl, rfl⟩
    exact ⟨none, 0, rfl, Nat.le_refl _, .inl rfl, Step.refl _ _⟩
  | some ad =>
    obtain ⟨i0, hi, hz0, hz1, hz2⟩ := info_three info_bool
    by_cases hk : ks = []
    · subst hk
      have hq : ∀ (w : World), (binOp .eql 28 (.slice (some ad) 0 c) (.slice none 0 0)).run Try.prog w = .ok (.bool false) w := fun w => Lib.run_eql_slice_nil w _ _ (some ad) 0 c 0 0 Try.underlying28
      go_enter Try.func32, Try.ntmps32
      go_wp2_with (at_builtin; refine wpList_append_own _ rfl _ _ 28 rfl w.heap.size 4 i0 (.bool false) 1 1 Try.underlying28 hi hz0 hz1 hz2 rfl (by decide) _ _ _ rfl (World.ownsRow_made w #[] 0 (Nat.le_refl _) (Nat.zero_le _) rfl) ad 0 c [] rfl rfl (by intro j u hj; simp at hj) (by intro u hu; simp at hu) (by unfold maxLen; omega) (by omega) (by simp) ?_)
      intro v' w1 hown hgrow hnil
      go_wp2
      go_ret
      obtain ⟨a', c', rfl⟩ := owns_form hown
      exact ⟨a', c', rfl, Nat.zero_le _, .inl rfl, Step.ofBelow (((Below.refl _ w).alloc (Nat.le_refl _) _).grown hgrow (by simp) (by intro k hk; simp [Value.ownBlock] at hk; omega))⟩
    · rcases h with h | ⟨b, off, h, _, hc⟩
      · exact absurd (by simpa [bools] using h) hk
      · injection h with h
        subst h
        refine (AnyE.slices_Clone Try.laysSlE041_f32 i0 _ 1 1 hi hz0 hz1 hz2 rfl (by decide) Try.sizeOf4 b off ks.length c (bools ks) w (by simp [bools]) (le_max (by omega)) (by omega) (fun j u hj => ?_) (fun u hu => ?_)).mono ?_
        · obtain ⟨hj1, hj2⟩ := List.getElem?_eq_some_iff.1 hj
          rw [hc j hj1, hj2]
        · simp [bools] at hu
          rcases hu with ⟨_, rfl⟩ | ⟨_, rfl⟩ <;> rfl
        · rintro e w' ⟨v', rfl, ho, _, hb⟩
          obtain ⟨g, c', rfl, hc', hr, hg⟩ := rowIn_owns (owns_base ho (Nat.zero_le _)) (by cases ks; exact absurd rfl hk; simp)
          refine ⟨_, c', rfl, hc', .inr ⟨g, 0, rfl, fun hlt => ?_, fun j hj => by rw [Nat.zero_add]; exact hr.cell j hj⟩, Step.ofBelow hb⟩
          have := (ho.lt g hg).1
          omega
end Go.Proofs.Ythgcpeibjnflaaa
