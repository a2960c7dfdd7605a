/-
  The reference of layer 9: Within.
-/
import Derived.Test.YtclaagihmpghnaaLfRA
import Derived.Deep.RegionWith
namespace Go.Proofs.Ytclaagihmpghnaa
open Go.RowKit Go.Sort
set_option linter.unusedVariables false
set_option linter.unusedSimpArgs false
set_option maxRecDepth 20000

theorem refWithin_take (r : Rg) (xs : List Rg) (j : Nat) (hj : j < xs.length) : withinL r (xs.take (j + 1)) = withinL r (xs.take j) ++ (if r.has xs[j].lo then [xs[j]] else []) := by
  unfold withinL
  rw [List.take_succ_eq_append_getElem hj, List.filter_append]
  congr 1
  by_cases h : r.has xs[j].lo = true
  · simp [h]
  · simp [h]
theorem refWithin_len (r : Rg) (xs : List Rg) : (withinL r xs).length ≤ xs.length := List.length_filter_le _ _
/-- A row of items of one's own: its blocks are new since base. -/
def OwnIt (w : World) (base : Nat) (v : Value) (xs : List Rg) : Prop := w.ownsRow base 46 2 v xs.length (rgs xs)
theorem OwnIt.step {w w' : World} {base : Nat} {v : Value} {xs : List Rg} (h : OwnIt w base v xs) (hs : Step noF w w') : OwnIt w' base v xs := owns_step h hs (fun _ _ x => x)
theorem OwnIt.row {w : World} {base : Nat} {v : Value} {xs : List Rg} (h : OwnIt w base v xs) : ∃ a c, v = .slice a xs.length c ∧ xs.length ≤ c ∧ NilOk w a c ∧ RgsAt w a xs := owns_rgs h
theorem OwnIt.empty (w : World) : OwnIt (w.alloc (.cells #[] 46)) w.heap.size (.slice (some ⟨w.heap.size, 0, none⟩) 0 0) [] :=
  ⟨rfl, .inr ⟨w.heap.size, 0, #[], rfl, Nat.le_refl _, block_alloc_new w _, Nat.le_refl _, Nat.zero_le _, rfl, rfl⟩⟩
theorem OwnIt.weak {w : World} {base b2 : Nat} {v : Value} {xs : List Rg} (h : OwnIt w base v xs) (hb : b2 ≤ base) : OwnIt w b2 v xs := owns_base h hb
theorem rg_new (w : World) (x y : List UInt8) : RgsAt (w.alloc (.cells #[.string (str x), .string (str y)] 46)) (some ⟨w.heap.size, 0, none⟩) [⟨x, y⟩] := rgsAt_block (block_alloc_new w _) (rest := []) rfl
theorem OwnIt.after {w0 w w' : World} {base : Nat} {v : Value} {xs : List Rg} (hs : Step noF w0 w) (h : OwnIt w base v xs) (hb : w0.heap.size ≤ base) (hg : w.grownBy w' v.ownBlock) : Step noF w0 w' :=
  hs.grown hg (fun k hk => .inr (Nat.le_trans hb (h.lt k hk).1))

set_option maxHeartbeats 2000000 in
theorem refWithin_any (xs : List Rg) (hl : xs.length ≤ 1000000) (r : Rg) (a : Option Addr) (c : Nat) (w : World) (h : RgsAt w a xs) :
    Calls Try.prog 19 #[.slice a xs.length c, .agg #[.string (str r.lo), .string (str r.hi)]] w fun e w' => ∃ v, e = .returned v ∧ OwnIt w' w.heap.size v (withinL r xs) ∧ Step noF w w' := by
  have HR := hid h
  have cH := fun k => refHas_any r k
  have er : r.val = .agg #[.string (str r.lo), .string (str r.hi)] := rfl
  rw [er] at cH
  clear h er
  go_enter Try.func19, Try.ntmps19
  go_wp2_with fail
  go_loopw [6, 5] (fun i v wr => ∃ (j : Nat), j ≤ xs.length ∧ i = .int .i64 j ∧ Hid (OwnIt wr (w.heap.size + 1) v (withinL r (xs.take j))) ∧ Hid (Step noF (w.alloc (.cells #[.string (str r.lo), .string (str r.hi)] 41)) wr)) (fun i _ _ => xs.length - (intOf i).toNat)
  case atStart =>
    have h0 := OwnIt.empty (w.alloc (.cells #[.string (str r.lo), .string (str r.hi)] 41))
    rw [World.size_alloc] at h0
    exact ⟨0, Nat.zero_le _, rfl, h0, (Step.refl _ _).alloc _⟩
  case round =>
    obtain ⟨j, hj, rfl, HO, HS⟩ := hrel
    have b0 : wr.cell? ⟨w.heap.size, 0, none⟩ = some (.string (str r.lo)) := HS.out.after (two_new w _ _ _).1
    have b1 : wr.cell? ⟨w.heap.size, 1, none⟩ = some (.string (str r.hi)) := HS.out.after (two_new w _ _ _).2
    have ST : Hid (Step noF w wr) := ((Step.refl noF w).alloc _).trans HS.out
    by_cases hjl : j < xs.length
    · have hjz : (j : Int) < (xs.length : Int) := by omega
      obtain ⟨g, off, rfl, c0, c1⟩ := (HR.out.step ST.out).at j hjl
      have HT := hid (refWithin_take r xs j hjl)
      have HLn := hid (refWithin_len r (xs.take j))
      obtain ⟨⟨x, y⟩, hm⟩ : ∃ m, xs[j] = m := ⟨_, rfl⟩
      rw [hm] at c0 c1 HT
      clear hm
      have cHx := cH x
      obtain ⟨D, hD⟩ : ∃ D, r.has x = D := ⟨_, rfl⟩
      have HT2 : Hid (withinL r (xs.take (j + 1)) = withinL r (xs.take j) ++ (if D then [⟨x, y⟩] else [])) := by
        show _ = _
        rw [HT.out, ← hD]
      rw [hD] at cHx
      clear hD HT
      cases D
      · have HT3 : Hid (withinL r (xs.take (j + 1)) = withinL r (xs.take j)) := by
          show _ = _
          rw [HT2.out]
          simp
        clear HT2
        go_wp2_with fail
        go_region_with (go_at_call 43; refine (cHx _).mono ?_; rintro e w2 ⟨rfl, s2⟩; have S2 := hid s2; clear s2)
        all_goals
          have S3 : Hid (Step noF wr w2) := (Step.refl noF wr).trans (show Step noF wr w2 from by first | exact (((Step.refl noF wr).drewN _).trans S2.out) | exact (((Step.refl noF wr).drew).trans S2.out) | exact S2.out)
          go_wp2_with fail
          go_roundw
          case rel =>
            refine ⟨j + 1, by omega, int_eq (by omega), ?_, HS.out.trans S3.out⟩
            show OwnIt _ _ _ _
            rw [HT3.out]
            exact HO.out.step S3.out
          case measure => simp [intOf]; omega
      · have HT3 : Hid (withinL r (xs.take (j + 1)) = withinL r (xs.take j) ++ [⟨x, y⟩]) := by
          show _ = _
          rw [HT2.out]
          simp
        clear HT2
        go_wp2_with fail
        go_region_with (go_at_call 43; refine (cHx _).mono ?_; rintro e w2 ⟨rfl, s2⟩; have S2 := hid s2; clear s2)
        all_goals
          have S3 : Hid (Step noF wr w2) := (Step.refl noF wr).trans (show Step noF wr w2 from by first | exact (((Step.refl noF wr).drewN _).trans S2.out) | exact (((Step.refl noF wr).drew).trans S2.out) | exact S2.out)
          have f0 := S3.out.after c0
          have f1 := S3.out.after c1
          have HN : Hid (RgsAt (w2.alloc (.cells #[.string (str x), .string (str y)] 46)) (some ⟨w2.heap.size, 0, none⟩) [⟨x, y⟩]) := rg_new w2 x y
          have HO2 : Hid (OwnIt (w2.alloc (.cells #[.string (str x), .string (str y)] 46)) (w.heap.size + 1) u5 (withinL r (xs.take j))) := HO.out.step (S3.out.alloc _)
          have HSZ : Hid (w.heap.size + 1 ≤ (w2.alloc (.cells #[.string (str x), .string (str y)] 46)).heap.size) := by have := (HS.out.trans (S3.out.alloc (.cells #[.string (str x), .string (str y)] 46))).size; rw [World.size_alloc] at this; exact this
          have HLL : Hid ((withinL r (xs.take j)).length + 1 ≤ 1000000000) := by
            have := HLn.out
            rw [List.length_take] at this
            show _ ≤ _
            omega
          go_wp2_with (at_builtin; refine wpList_append_it rfl _ _ rfl (w.heap.size + 1) _ (withinL r (xs.take j)) rfl HO2.out (some ⟨w2.heap.size, 0, none⟩) 1 [⟨x, y⟩] rfl HN.out (by intro h; cases h) HLL.out HSZ.out ?_)
          intro v' w3 o3 g3
          have O3 := hid o3
          have S4 : Hid (Step noF (w.alloc (.cells #[.string (str r.lo), .string (str r.hi)] 41)) w3) := OwnIt.after (HS.out.trans (S3.out.alloc _)) HO2.out (by rw [World.size_alloc]; omega) g3
          clear o3 g3
          go_wp2_with fail
          go_roundw
          case rel =>
            refine ⟨j + 1, by omega, int_eq (by omega), ?_, S4.out⟩
            show OwnIt _ _ _ _
            rw [HT3.out]
            unfold OwnIt
            rw [List.length_append]
            exact O3.out
          case measure => simp [intOf]; omega
    · obtain rfl : j = xs.length := by omega
      have HO2 : Hid (OwnIt wr (w.heap.size + 1) u5 (withinL r xs)) := by
        have := HO.out
        rw [List.take_of_length_le (Nat.le_refl _)] at this
        exact this
      go_wp2_with fail
      go_ret
      exact ⟨_, rfl, HO2.out.weak (by omega), ST.out⟩
end Go.Proofs.Ytclaagihmpghnaa
