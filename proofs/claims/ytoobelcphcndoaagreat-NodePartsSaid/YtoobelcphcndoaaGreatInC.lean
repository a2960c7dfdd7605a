/-
  What the small functions of package inner do: each of a list (parts' kids and keys), share, pivotAhead, Range.
-/
import Derived.Test.YtoobelcphcndoaaGreatInA
import Derived.Test.YtoobelcphcndoaaGreatKeyG
import Derived.Lib.MinMax
import Derived.BigQuiet
import Derived.Deep.RegionWith
import Derived.Deep.RegionLaw
namespace Go.Proofs.YtoobelcphcndoaaGreat
open Go.RowKit Go.Sort
set_option linter.unusedVariables false
set_option linter.unusedSimpArgs false
set_option maxRecDepth 20000

/-- The part of a range is told by the pivots beside the kid. -/
theorem cut_at (r : Rg) (ps : List (List UInt8)) (h0 : ps ≠ []) (i : Nat) (hi : i ≤ ps.length) : (r.cut ps).getD i ⟨[], []⟩ = r.meet ⟨([] :: ps).getD i [], ps.getD i []⟩ := by
  unfold Rg.cut
  rw [if_neg h0]
  have hl : i < (partsL [] ps).length := by rw [partsL_length]; omega
  rw [List.getD, List.getElem?_map, List.getElem?_eq_getElem hl, partsL_at]
  rfl
theorem rangeN_near (r : Rg) (ps : List (List UInt8)) (i f t : Nat) (hi : i ≤ ps.length) (hf : f = i - 1) (ht : t = min (i + 1) ps.length) : (r.cut ((ps.take t).drop f)).getD (i - f) ⟨[], []⟩ = rangeN r ps i := by
  subst hf ht
  unfold rangeN
  by_cases h0 : ps = []
  · subst h0
    have : i = 0 := by simpa using hi
    subst this
    rfl
  · have hl : 0 < ps.length := List.length_pos_iff.2 h0
    rw [cut_at r ps h0 i hi, cut_at r ((ps.take (min (i + 1) ps.length)).drop (i - 1)) (by
      intro e
      have := congrArg List.length e
      simp at this
      omega) (i - (i - 1)) (by simp; omega)]
    have e1 : ([] :: (ps.take (min (i + 1) ps.length)).drop (i - 1)).getD (i - (i - 1)) [] = ([] :: ps).getD i [] := by
      cases i with
      | zero => rfl
      | succ k =>
        have hk : k < ps.length := by omega
        rw [show k + 1 - (k + 1 - 1) = 1 by omega, show k + 1 - 1 = k by omega]
        simp [List.getD, List.getElem?_drop, List.getElem?_take, List.getElem?_eq_getElem hk, show k < min (k + 1 + 1) ps.length by omega]
    have e2 : ((ps.take (min (i + 1) ps.length)).drop (i - 1)).getD (i - (i - 1)) [] = ps.getD i [] := by
      simp only [List.getD, List.getElem?_drop, List.getElem?_take]
      rw [show i - 1 + (i - (i - 1)) = i by omega]
      by_cases h : i < ps.length
      · rw [if_pos (by omega)]
      · rw [if_neg (by omega), List.getElem?_eq_none (by omega)]
    rw [e1, e2]
/-- The part of the kid at that place. -/
def rangeZ (r : Rg) (ps : List (List UInt8)) (n : Nat) (z : Int) : Rg := if hasZ n z then rangeN r ps z.toNat else ⟨[], []⟩

set_option maxHeartbeats 2000000 in
theorem rangeN_no (v : Value) (z : Int) (r : Rg) (w : World) (hh : ∀ w, Calls Tryz.prog 157 #[v, .int .i64 z] w fun e w' => e = .returned (.bool false) ∧ w = w') :
    Calls Tryz.prog 115 #[v, .int .i64 z, .agg #[.string (str r.lo), .string (str r.hi)]] w fun e w' => e = .returned (.agg #[.string (str []), .string (str [])]) ∧ Step noF w w' := by
  have h0 := nil_str
  go_enter Tryz.func115, Tryz.ntmps115
  go_wp2_with fail
  refine (hh _).mono ?_
  rintro e w' ⟨rfl, rfl⟩
  go_wp2_with fail
  refine bodyPost_ret (v := .agg #[.string (str []), .string (str [])]) (by simp [results, Tryz.results115, go_sem, *]) rfl ?_
  refine ⟨rfl, ?_⟩
  have hs := ((Step.refl noF w).alloc (.cells #[.string (str r.lo), .string (str r.hi)] 166))
  have hsz : w.heap.size ≤ w.heap.size + 1 := Nat.le_succ _
  first
    | exact hs.alloc _
    | exact ((hs.alloc _).setCell (p := ⟨w.heap.size + 1, 0, none⟩) (.inr hsz) _).setCell (p := ⟨w.heap.size + 1, 1, none⟩) (.inr hsz) _

set_option maxHeartbeats 4000000 in
theorem rangeN_any (p : Nat) (ks : List Int) (ps : List (List UInt8)) (ms : List Mg) (hl : ps.length + 1 = ks.length) (hm : ps.length ≤ 1000) (i : Nat) (hi : i < ks.length) (r : Rg) (w : World) (h : InnerAt w p ⟨ks, ps, ms⟩) :
    Calls Tryz.prog 115 #[.pointer (some ⟨p, 0, none⟩), .int .i64 i, .agg #[.string (str r.lo), .string (str r.hi)]] w fun e w' => e = .returned (.agg #[.string (str (rangeN r ps i).lo), .string (str (rangeN r ps i).hi)]) ∧ Step noF w w' := by
  have h0 := nil_str
  obtain ⟨f, hf⟩ : ∃ f, f = i - 1 := ⟨_, rfl⟩
  obtain ⟨t, ht⟩ : ∃ t, t = min (i + 1) ps.length := ⟨_, rfl⟩
  have hnr := rangeN_near r ps i f t (by omega) hf ht
  obtain ⟨R, hR⟩ : ∃ R, rangeN r ps i = R := ⟨_, rfl⟩
  rw [hR] at hnr ⊢
  have HNR := hid hnr
  clear hnr hR
  obtain ⟨m, hmm⟩ : ∃ m, ps.length = m := ⟨_, rfl⟩
  have hit : i ≤ 1001 := by omega
  have mx0 : max (-1 : Int) 0 = 0 := by decide
  have wr1 : IntKind.i64.wrap 1 = 1 := by decide
  have mn0 : min (1 : Int) 0 = 0 := by decide
  have i0 : (0 : Int) ≤ (i : Int) := by omega
  have hin : (i : Int) < (ks.length : Int) := by omega
  have hmax : max ((i : Int) - 1) 0 = (f : Int) := by omega
  have hmin : min ((i : Int) + 1) (m : Int) = (t : Int) := by omega
  have w1 : IntKind.i64.wrap ((i : Int) - 1) = (i : Int) - 1 := by rw [IntKind.wrap_i64]; omega
  have w2 : IntKind.i64.wrap ((i : Int) + 1) = (i : Int) + 1 := by rw [IntKind.wrap_i64]; omega
  have hft : f ≤ t := by omega
  have htm : t ≤ m := by omega
  have hif : f ≤ i := by omega
  have e3 : (i : Int) - (f : Int) = ((i - f : Nat) : Int) := by omega
  have w3 : IntKind.i64.wrap ((i - f : Nat) : Int) = ((i - f : Nat) : Int) := by rw [IntKind.wrap_i64]; omega
  have hbl : ((ps.take t).drop f).length = t - f := by simp; omega
  have hie : i - f ≤ t - f := by omega
  have hZ : Hid (hasZ ks.length i = true) := by show _ = _; unfold hasZ; simp; exact hi
  have st1 : Step noF w ((w.alloc (.cells #[.string (str r.lo), .string (str r.hi)] 166)).alloc (.cells #[.string (str []), .string (str [])] 166)) := ((Step.refl noF w).alloc _).alloc _
  obtain ⟨ka, pa, kc, pc, q, k0, k1, k2, hk, hp, hb⟩ := (h.step st1).cell
  simp only at k0 k1 k2 hk hp hb
  have cH := hasN_any p ⟨ks, ps, ms⟩ i _ (h.step st1)
  simp only at cH
  rw [hZ.out] at cH
  rw [hmm] at k1
  have HP := hid hp
  have hpc : m ≤ pc := by have := hp.1; omega
  have HB : Hid (((w.alloc (.cells #[.string (str r.lo), .string (str r.hi)] 166)).alloc (.cells #[.string (str []), .string (str [])] 166)).heap[w.heap.size + 1]? = some (.cells #[.string (str []), .string (str [])] 166 (0, 0))) := by
    have := block_alloc_new (w.alloc (.cells #[.string (str r.lo), .string (str r.hi)] 166)) (.cells #[.string (str []), .string (str [])] 166)
    rw [World.size_alloc] at this
    exact this
  have ST1 := hid st1
  have HL := hid hl
  have HM := hid hmm
  have er : r.val = .agg #[.string (str r.lo), .string (str r.hi)] := rfl
  have cC := fun a' c' w' hr => cut_any r ((ps.take t).drop f) (by rw [hbl]; omega) a' c' w' hr
  rw [hbl, er] at cC
  clear h k0 k2 hk hp hb hf ht hl hi st1 er hmm
  cases pa with
  | none =>
    have hps := row1_none HP.out.2.2
    have hp0 : ps = [] := List.map_eq_nil_iff.1 hps
    have hpc0 : pc = 0 := HP.out.2.1.1 rfl
    have hm0 : m = 0 := by have := HM.out; rw [hp0] at this; exact this.symm
    have ht0 : t = 0 := by omega
    have hf0 : f = 0 := by omega
    have hi0 : i = 0 := by have := HL.out; omega
    subst hpc0 hm0 ht0 hf0 hi0
    have LEN : Hid (0 - 0 < (r.cut ((ps.take 0).drop 0)).length) := by show _ < _; rw [cut_length, hbl]; omega
    have DR : Step noF ((w.alloc (.cells #[.string (str r.lo), .string (str r.hi)] 166)).alloc (.cells #[.string (str []), .string (str [])] 166)) ((w.alloc (.cells #[.string (str r.lo), .string (str r.hi)] 166)).alloc (.cells #[.string (str []), .string (str [])] 166)).drew := (Step.refl noF _).drew
    go_enter Tryz.func115, Tryz.ntmps115
    go_wp2_with fail
    refine cH.mono ?_
    rintro e w' ⟨rfl, rfl⟩
    go_wp2_with fail
    go_region_law (fail)
    all_goals go_wp2_with fail
    all_goals
      refine (cC _ _ _ (.inl (by rw [hp0]; simp [texts]))).mono ?_
      rintro e w5 ⟨a5, c5, rfl, hc5, r5, s5⟩
      obtain ⟨g5, o5, rfl, y0, y1⟩ := r5.at (0 - 0) LEN.out
      have HV : Hid ((r.cut ((ps.take 0).drop 0))[0 - 0]'LEN.out = R) := by
        have := HNR.out
        rw [List.getD, List.getElem?_eq_getElem LEN.out] at this
        exact this
      rw [HV.out] at y0 y1
      have y0 : w5.cell? ⟨g5, o5, none⟩ = some (.string (str R.lo)) := by simpa using y0
      have y1 : w5.cell? ⟨g5, o5 + 1, none⟩ = some (.string (str R.hi)) := by simpa using y1
      have S5 := hid ((ST1.out.trans DR).trans s5)
      have hb5 := ((DR.trans s5).block (w.heap.size + 1) (by have := lt_of_block HB.out; exact this) (fun x => x)).trans HB.out
      have b0 : w5.cell? ⟨w.heap.size + 1, 0, none⟩ = some (.string (str [])) := cell_of_block hb5 0
      have b1 : w5.cell? ⟨w.heap.size + 1, 1, none⟩ = some (.string (str [])) := cell_of_block hb5 1
      have z0 := fun j => frozen_of_block hb5 j
      have hnew : w.heap.size ≤ w.heap.size + 1 := Nat.le_succ _
      have hc5z : ((0 - 0 : Nat) : Int) < ((0 - 0 + 1 : Nat) : Int) := by omega
      clear r5 s5 hb5 HV
      go_wp2_with fail
      refine bodyPost_ret (v := .agg #[.string (str R.lo), .string (str R.hi)]) (by simp [results, Tryz.results115, go_sem, *]) rfl ?_
      exact ⟨rfl, (S5.out.setCell (p := ⟨w.heap.size + 1, 0, none⟩) (.inr hnew) _).setCell (p := ⟨w.heap.size + 1, 1, none⟩) (.inr hnew) _⟩
  | some ad =>
    obtain ⟨g, off, rfl, _⟩ := row1_some HP.out.2.1
    have LEN : Hid (i - f < (r.cut ((ps.take t).drop f)).length) := by show _ < _; rw [cut_length, hbl]; omega
    have DR : Step noF ((w.alloc (.cells #[.string (str r.lo), .string (str r.hi)] 166)).alloc (.cells #[.string (str []), .string (str [])] 166)) ((w.alloc (.cells #[.string (str r.lo), .string (str r.hi)] 166)).alloc (.cells #[.string (str []), .string (str [])] 166)).drew := (Step.refl noF _).drew
    have SUB := hid (sub_row1 HP.out.2.2 f t (by rw [texts_length, HM.out]; exact htm))
    rw [texts_sub] at SUB
    have EMP : Hid (pc = f → (ps.take t).drop f = []) := fun e => List.eq_nil_of_length_eq_zero (by rw [hbl]; omega)
    have q1 : (0 : Int) ≤ (f : Int) := by omega
    have q2 : (f : Int) ≤ (t : Int) := by omega
    have q3 : (t : Int) ≤ (pc : Int) := by omega
    have ef : (t : Int) - (f : Int) = ((t - f : Nat) : Int) := by omega
    have ec : (pc : Int) - (f : Int) = ((pc - f : Nat) : Int) := by omega
    go_enter Tryz.func115, Tryz.ntmps115
    go_wp2_with fail
    refine cH.mono ?_
    rintro e w' ⟨rfl, rfl⟩
    go_wp2_with fail
    go_region_law (fail)
    all_goals go_wp2_with fail
    all_goals
      refine (cC _ _ _ (by first
        | exact ((SUB.out).step DR)
        | exact .inl (by rw [EMP.out (by omega)]; rfl))).mono ?_
      rintro e w5 ⟨a5, c5, rfl, hc5, r5, s5⟩
      obtain ⟨g5, o5, rfl, y0, y1⟩ := r5.at (i - f) LEN.out
      have HV : Hid ((r.cut ((ps.take t).drop f))[i - f]'LEN.out = R) := by
        have := HNR.out
        rw [List.getD, List.getElem?_eq_getElem LEN.out] at this
        exact this
      rw [HV.out] at y0 y1
      have S5 := hid ((ST1.out.trans DR).trans s5)
      have hb5 := ((DR.trans s5).block (w.heap.size + 1) (by have := lt_of_block HB.out; exact this) (fun x => x)).trans HB.out
      have b0 : w5.cell? ⟨w.heap.size + 1, 0, none⟩ = some (.string (str [])) := cell_of_block hb5 0
      have b1 : w5.cell? ⟨w.heap.size + 1, 1, none⟩ = some (.string (str [])) := cell_of_block hb5 1
      have z0 := fun j => frozen_of_block hb5 j
      have hnew : w.heap.size ≤ w.heap.size + 1 := Nat.le_succ _
      have hc5z : ((i - f : Nat) : Int) < ((t - f + 1 : Nat) : Int) := by omega
      clear r5 s5 hb5 HV
      go_wp2_with fail
      refine bodyPost_ret (v := .agg #[.string (str R.lo), .string (str R.hi)]) (by simp [results, Tryz.results115, go_sem, *]) rfl ?_
      exact ⟨rfl, (S5.out.setCell (p := ⟨w.heap.size + 1, 0, none⟩) (.inr hnew) _).setCell (p := ⟨w.heap.size + 1, 1, none⟩) (.inr hnew) _⟩
end Go.Proofs.YtoobelcphcndoaaGreat
