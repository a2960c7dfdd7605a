/-
  The document's answer for layer 12: whether a node fits, its bytes.
-/
import Derived.Test.YtoobelcphcndoaaGreatNdGr
import Derived.Test.YtoobelcphcndoaaGreatNdB
import Derived.Test.YtoobelcphcndoaaGreatLfRA
import Derived.Test.YtoobelcphcndoaaGreatBfRA
import Derived.Test.YtoobelcphcndoaaGreatPenE
namespace Go.Proofs.YtoobelcphcndoaaGreat
open Go.RowKit Go.Sort
set_option linter.unusedVariables false
set_option linter.unusedSimpArgs false
set_option maxRecDepth 20000

/-- A node's items; its kids, pivots and messages. -/
def Nv.its (v : Nv) : List Rg := Sum.elim (fun xs => xs) (fun _ => []) v
def Nv.nd (v : Nv) : Nd := Sum.elim (fun _ => ⟨[], [], []⟩) (fun d => d) v
/-- A node as the document has it. -/
def NvV (w : World) (v : Nv) (x : Value) : Prop := ∃ (ia ka pa a : Option Addr) (ic kc pc c : Nat), x = .agg #[.bool v.isLeaf, .slice ia v.its.length ic, .slice ka v.nd.kids.length kc, .slice pa v.nd.pivs.length pc, .slice a v.nd.ms.length c]
  ∧ (RgsAt w ia v.its ∧ (ia = none → ic = 0)) ∧ (RowAt w noF ka (intsOf v.nd.kids) ∧ (ka = none → kc = 0) ∧ v.nd.kids.length ≤ kc) ∧ (RowAt w noF pa (texts v.nd.pivs) ∧ (pa = none → pc = 0) ∧ v.nd.pivs.length ≤ pc) ∧ MsgsAt w noF a v.nd.ms ∧ (a = none → c = 0)
theorem NvV.step {w w' : World} {v : Nv} {x : Value} (h : NvV w v x) (hs : Step noF w w') : NvV w' v x := by
  obtain ⟨ia, ka, pa, a, ic, kc, pc, c, h1, ⟨h2, h3⟩, ⟨h4, h5, h6⟩, ⟨h7, h8, h9⟩, h10, h11⟩ := h
  exact ⟨ia, ka, pa, a, ic, kc, pc, c, h1, ⟨h2.step hs, h3⟩, ⟨h4.step hs, h5, h6⟩, ⟨h7.step hs, h8, h9⟩, h10.stepB hs, h11⟩

set_option maxHeartbeats 1000000 in
theorem refFitsL_any (xs : List Rg) (hs : Small xs) (ia ka pa a : Option Addr) (ic kc pc c : Nat) (w : World) (h : RgsAt w ia xs) :
    Calls Tryz.prog 13 #[.agg #[.bool true, .slice ia xs.length ic, .slice ka 0 kc, .slice pa 0 pc, .slice a 0 c]] w fun e w' => e = .returned (.bool (fitsL xs)) ∧ Step noF w w' := by
  obtain ⟨W, hW⟩ : ∃ W, w.alloc (.cells #[.bool true, .slice ia xs.length ic, .slice ka 0 kc, .slice pa 0 pc, .slice a 0 c] 29) = W := ⟨_, rfl⟩
  have S0 : Hid (Step noF w W) := by show Step _ _ _; rw [← hW]; exact (Step.refl _ _).alloc _
  have bx := ndBox_new w (.bool true) (.slice ia xs.length ic) (.slice ka 0 kc) (.slice pa 0 pc) (.slice a 0 c)
  rw [hW] at bx
  obtain ⟨g0, hg0⟩ : ∃ g, w.heap.size = g := ⟨_, rfl⟩
  rw [hg0] at bx
  have BX := hid bx
  have HW := hid hW
  have HG := hid hg0
  clear hW bx hg0
  have cW := refWeight_any xs hs.1 hs.2 ia ic W (h.step S0.out)
  have HF : Hid (fitsL xs = decide (wtL xs ≤ 240)) := rfl
  obtain ⟨V, hV⟩ : ∃ V, wtL xs = V := ⟨_, rfl⟩
  rw [hV] at cW HF
  rw [HF.out]
  clear h hV hs
  obtain ⟨b0, b1, b2, b3, b4⟩ := BX.out.all
  go_enter Tryz.func13, Tryz.ntmps13
  go_upto_region 1 with fail
  rw [HW.out, HG.out]
  clear HW HG
  go_wp2_with fail
  refine cW.mono ?_
  rintro e w2 ⟨rfl, s2⟩
  have S2 := hid (S0.out.trans s2)
  clear s2
  go_wp2_with fail
  go_ret
  exact ⟨ret_bool (by rw [decide_eq_decide]; omega), S2.out⟩
set_option maxHeartbeats 2000000 in
theorem refFitsI_any (d : Nd) (hkl : d.kids.length ≤ 1000000) (hs : SmallM d.ms) (ia ka pa a : Option Addr) (ic kc pc c : Nat) (w : World) (hk : RowAt w noF ka (intsOf d.kids)) (hm : MsgsAt w noF a d.ms) :
    Calls Tryz.prog 13 #[.agg #[.bool false, .slice ia 0 ic, .slice ka d.kids.length kc, .slice pa d.pivs.length pc, .slice a d.ms.length c]] w fun e w' => e = .returned (.bool (fitsN d)) ∧ Step noF w w' := by
  obtain ⟨W, hW⟩ : ∃ W, w.alloc (.cells #[.bool false, .slice ia 0 ic, .slice ka d.kids.length kc, .slice pa d.pivs.length pc, .slice a d.ms.length c] 29) = W := ⟨_, rfl⟩
  have S0 : Hid (Step noF w W) := by show Step _ _ _; rw [← hW]; exact (Step.refl _ _).alloc _
  have bx := ndBox_new w (.bool false) (.slice ia 0 ic) (.slice ka d.kids.length kc) (.slice pa d.pivs.length pc) (.slice a d.ms.length c)
  rw [hW] at bx
  obtain ⟨g0, hg0⟩ : ∃ g, w.heap.size = g := ⟨_, rfl⟩
  rw [hg0] at bx
  have BX := hid bx
  have HW := hid hW
  have HG := hid hg0
  clear hW bx hg0
  have cW := refWeightB_any d.ms hs a c W (hm.stepB S0.out)
  have HK := hid (hk.step S0.out)
  have HF : Hid (fitsN d = (decide (d.kids.length ≤ 6) && kidsIn d.kids && decide (wtM d.ms ≤ 180))) := rfl
  obtain ⟨V, hV⟩ : ∃ V, wtM d.ms = V := ⟨_, rfl⟩
  rw [hV] at cW HF
  obtain ⟨D, hD⟩ : ∃ D, fitsN d = D := ⟨_, rfl⟩
  rw [hD] at HF ⊢
  clear hk hm hV hs hD
  obtain ⟨b0, b1, b2, b3, b4⟩ := BX.out.all
  go_enter Tryz.func13, Tryz.ntmps13
  go_upto_region 1 with fail
  rw [HW.out, HG.out]
  clear HW HG
  go_wp2_with fail
  go_loopw [3] (fun i wr => ∃ (j : Nat), j ≤ d.kids.length ∧ i = .int .i64 j ∧ Hid (kidsIn (d.kids.take j) = true) ∧ wr = W) (fun i _ => d.kids.length - (intOf i).toNat)
  case atStart => exact ⟨0, Nat.zero_le _, rfl, (by show _ = _; rfl), rfl⟩
  case round =>
    obtain ⟨j, hj, rfl, HA, hwr⟩ := hrel
    rw [hwr]
    clear hwr
    by_cases hjl : j < d.kids.length
    · have hjz : (j : Int) < (d.kids.length : Int) := by omega
      obtain ⟨g, off, rfl, c0⟩ := ints_get HK.out j hjl
      have HT := hid (kidsIn_take d.kids j hjl)
      have HN : Hid (¬ d.kids[j] ≤ 511 → kidsIn d.kids = false) := fun h => by
        unfold kidsIn
        rw [List.all_eq_false]
        exact ⟨d.kids[j], List.getElem_mem hjl, by simpa using h⟩
      obtain ⟨z, hz⟩ : ∃ m, d.kids[j] = m := ⟨_, rfl⟩
      rw [hz] at c0 HT HN
      clear hz
      by_cases hi : 511 < z
      · have HD : Hid (D = false) := by
          show _ = _
          rw [HF.out, HN.out (by omega)]
          simp
        go_wp2_with fail
        go_ret
        exact ⟨ret_bool HD.out.symm, S0.out⟩
      · have HT2 : Hid (kidsIn (d.kids.take (j + 1)) = true) := by
          show _ = _
          rw [HT.out, HA.out]
          simp; omega
        go_wp2_with fail
        go_roundw
        case rel => exact ⟨j + 1, by omega, int_eq (by omega), HT2, by first | rfl | trivial⟩
        case measure => simp [intOf]; omega
    · obtain rfl : j = d.kids.length := by omega
      have KIN : Hid (kidsIn d.kids = true) := by
        have h1 := HA.out
        rw [List.take_of_length_le (Nat.le_refl _)] at h1
        exact h1
      have HF2 : Hid (D = (decide (d.kids.length ≤ 6) && decide (V ≤ 180))) := by show _ = _; rw [HF.out, KIN.out, Bool.and_true]
      clear HA HF KIN
      by_cases g6 : d.kids.length ≤ 6
      · have gz : (d.kids.length : Int) ≤ 6 := by omega
        have HF3 : Hid (D = decide (V ≤ 180)) := by show _ = _; rw [HF2.out, decide_eq_true g6, Bool.true_and]
        clear g6 HF2
        go_wp2_with fail
        refine cW.mono ?_
        rintro e w2 ⟨rfl, s2⟩
        have S2 := hid (S0.out.trans s2)
        clear s2
        go_wp2_with fail
        go_ret
        exact ⟨ret_bool (by rw [HF3.out, decide_eq_decide]; omega), S2.out⟩
      · have gz : ¬ (d.kids.length : Int) ≤ 6 := by omega
        have HF3 : Hid (D = false) := by show _ = _; rw [HF2.out, decide_eq_false g6, Bool.false_and]
        clear g6 HF2
        go_wp2_with fail
        go_ret
        exact ⟨ret_bool HF3.out.symm, S0.out⟩
theorem refFits12_any (v : Nv) (hs : v.small) (x : Value) (w : World) (h : NvV w v x) : Calls Tryz.prog 13 #[x] w fun e w' => e = .returned (.bool v.fits) ∧ Step noF w w' := by
  obtain ⟨ia, ka, pa, a, ic, kc, pc, c, rfl, ⟨h2, h3⟩, ⟨h4, h5, h6⟩, ⟨h7, h8, h9⟩, h10, h11⟩ := h
  cases v using Nv.two with
  | leaf xs => exact refFitsL_any xs hs ia ka pa a ic kc pc c w h2
  | inn d => exact refFitsI_any d hs.1 hs.2.2 ia ka pa a ic kc pc c w h4 h10

end Go.Proofs.YtoobelcphcndoaaGreat
