/-
  How package node reads: the readers by kind (a map), rows that are read one behind the other.
-/
import Derived.Test.YtoobelcphcndoaaGreatNdB
import Derived.MapKept
import Derived.Carry
namespace Go.Proofs.YtoobelcphcndoaaGreat
open Go.RowKit Go.Sort
set_option linter.unusedVariables false
set_option linter.unusedSimpArgs false
set_option maxRecDepth 20000

/-- The functions that read a leaf's items, an inner node's. -/
def rdLf : Value := .func (.func 99) #[] #[]
def rdIn : Value := .func (.func 100) #[] #[]
def rdEs : Array MapEntry := #[{ key := .int .i64 1, val := rdLf, born := 0 }, { key := .int .i64 2, val := rdIn, born := 1 }]
theorem infoRd0 : (Tryz.prog.info? 99).map (fun i => (i.zero, i.size, i.bytes)) = some (some .nilFunc, 1, 8) := by kernel_rfl
theorem zeroRd (w : World) : (zeroValue 99).run Tryz.prog w = .ok .nilFunc w := by
  obtain ⟨i, hi, hz, _, _⟩ := info_threeL infoRd0
  simp [zeroValue, typeInfo, hi, hz]
theorem rd_put1 (w : World) : (Instr.mapUpdate 101 (.map (some w.heap.size)) (.int .i64 1) rdLf).run Tryz.prog (w.alloc (.map #[] 0)) = .ok () { w.alloc (.map #[] 0) with heap := (w.alloc (.map #[] 0)).heap.setIfInBounds w.heap.size (.map #[{ key := .int .i64 1, val := rdLf, born := 0 }] 1) } := by
  have hm : Tryz.prog.underlying 101 = some (.map 3 99) := Tryz.underlying101
  have hk : Tryz.prog.underlying 3 = some (.int .i64) := Tryz.underlying3
  have hb := block_alloc_new w (.map #[] 0)
  have hf : Instr.findNow (.int .i64) (.int .i64 1) ([] : List MapEntry) 0 = some none := rfl
  have hc : (Instr.checkKey false 10000 3 (.int .i64 1)).run Tryz.prog (w.alloc (.map #[] 0)) = .ok () _ := MapKept.run_checkKey (k := .int .i64 1) hk (by simp [MapKept.IsKey]) false 9999
  simp [Instr.mapUpdate, run_underlying hm, MapKept.run_getObj_map hb, hc, MapKept.run_findKey hk hf, MapKept.run_setObj_map _ hb, Result.andThen]
theorem rd_put2 (w : World) (r : Nat) (hb : w.heap[r]? = some (.map #[{ key := .int .i64 1, val := rdLf, born := 0 }] 1)) : (Instr.mapUpdate 101 (.map (some r)) (.int .i64 2) rdIn).run Tryz.prog w = .ok () { w with heap := w.heap.setIfInBounds r (.map rdEs 2) } := by
  have hm : Tryz.prog.underlying 101 = some (.map 3 99) := Tryz.underlying101
  have hk : Tryz.prog.underlying 3 = some (.int .i64) := Tryz.underlying3
  have hf : Instr.findNow (.int .i64) (.int .i64 2) [({ key := .int .i64 1, val := rdLf, born := 0 } : MapEntry)] 0 = some none := rfl
  have hc : (Instr.checkKey false 10000 3 (.int .i64 2)).run Tryz.prog w = .ok () _ := MapKept.run_checkKey (k := .int .i64 2) hk (by simp [MapKept.IsKey]) false 9999
  simp [Instr.mapUpdate, run_underlying hm, MapKept.run_getObj_map hb, hc, MapKept.run_findKey hk hf, MapKept.run_setObj_map _ hb, Result.andThen, rdEs]
/-- What stands at a kind. -/
def rdAt (k : Int) : Value := if k = 1 then rdLf else if k = 2 then rdIn else .nilFunc
theorem rd_look (w : World) (r : Nat) (hb : w.heap[r]? = some (.map rdEs 2)) (k : Int) : (Instr.lookup 101 (.map (some r)) (.int .i64 k) true).run Tryz.prog w = .ok (.tuple #[rdAt k, .bool (decide (k = 1 ∨ k = 2))]) w := by
  have hm : Tryz.prog.underlying 101 = some (.map 3 99) := Tryz.underlying101
  have hk : Tryz.prog.underlying 3 = some (.int .i64) := Tryz.underlying3
  have hc : (Instr.checkKey false 10000 3 (.int .i64 k)).run Tryz.prog w = .ok () _ := MapKept.run_checkKey (k := .int .i64 k) hk (by simp [MapKept.IsKey]) false 9999
  have hz := zeroRd w
  by_cases k1 : k = 1
  · subst k1
    have hf : Instr.findNow (.int .i64) (.int .i64 1) rdEs.toList 0 = some (some (0, rdLf)) := rfl
    have he : rdEs.isEmpty = false := rfl
    simp [Instr.lookup, run_underlying hm, MapKept.run_getObj_map hb, he, hc, MapKept.run_findKey hk hf, Result.andThen, rdAt]
  · by_cases k2 : k = 2
    · subst k2
      have hf : Instr.findNow (.int .i64) (.int .i64 2) rdEs.toList 0 = some (some (1, rdIn)) := rfl
      have he : rdEs.isEmpty = false := rfl
      simp [Instr.lookup, run_underlying hm, MapKept.run_getObj_map hb, he, hc, MapKept.run_findKey hk hf, Result.andThen, rdAt]
    · have hf : Instr.findNow (.int .i64) (.int .i64 k) rdEs.toList 0 = some none := by
        have e1 : (k == 1) = false := by simpa using k1
        have e2 : (k == 2) = false := by simpa using k2
        simp [rdEs, Instr.findNow, Instr.sameNow, e1, e2]
      have he : rdEs.isEmpty = false := rfl
      simp [Instr.lookup, run_underlying hm, MapKept.run_getObj_map hb, he, hc, MapKept.run_findKey hk hf, hz, Result.andThen, rdAt, k1, k2]
theorem step_block {w w2 : World} (r : Nat) (o : Obj) (hs : Step noF w w2) (hr : w.heap.size ≤ r) : Step noF w { w2 with heap := w2.heap.setIfInBounds r o } := by
  refine ⟨hs.os, hs.tape, hs.output, by simpa using hs.size, fun k hk h => ?_⟩
  have : r ≠ k := by omega
  show (w2.heap.setIfInBounds r o)[k]? = _
  rw [Array.getElem?_setIfInBounds_ne this]
  exact hs.block k hk h
theorem readers_any (w : World) : Calls Tryz.prog 54 #[] w fun e w' => e = .returned (.map (some w.heap.size)) ∧ Step noF w w' ∧ w'.heap[w.heap.size]? = some (.map rdEs 2) := by
  have hmm := @run_makeMap Tryz.prog
  have p1 := rd_put1 w
  obtain ⟨W1, hW1⟩ : ∃ W1, { w.alloc (.map #[] 0) with heap := (w.alloc (.map #[] 0)).heap.setIfInBounds w.heap.size (.map #[{ key := .int .i64 1, val := rdLf, born := 0 }] 1) } = W1 := ⟨_, rfl⟩
  have b1 : W1.heap[w.heap.size]? = some (.map #[{ key := .int .i64 1, val := rdLf, born := 0 }] 1) := by
    rw [← hW1]
    show ((w.alloc (.map #[] 0)).heap.setIfInBounds w.heap.size _)[w.heap.size]? = _
    rw [Array.getElem?_setIfInBounds_self_of_lt]
    rw [World.size_alloc]
    omega
  have S1 : Hid (Step noF w W1) := by
    show Step _ _ _
    rw [← hW1]
    exact step_block _ _ ((Step.refl noF w).alloc _) (Nat.le_refl _)
  rw [hW1] at p1
  clear hW1
  have p2 := rd_put2 W1 w.heap.size b1
  obtain ⟨W2, hW2⟩ : ∃ W2, { W1 with heap := W1.heap.setIfInBounds w.heap.size (.map rdEs 2) } = W2 := ⟨_, rfl⟩
  have b2 : Hid (W2.heap[w.heap.size]? = some (.map rdEs 2)) := by
    show _ = _
    rw [← hW2]
    show (W1.heap.setIfInBounds w.heap.size _)[w.heap.size]? = _
    rw [Array.getElem?_setIfInBounds_self_of_lt]
    exact lt_of_block b1
  have S2 : Hid (Step noF w W2) := by
    show Step _ _ _
    rw [← hW2]
    exact step_block _ _ S1.out (Nat.le_refl _)
  rw [hW2] at p2
  clear hW2 b1
  unfold rdLf at p1
  unfold rdIn at p2
  go_enter Tryz.func54, Tryz.ntmps54
  go_wp2_with fail
  go_ret
  exact ⟨rfl, S2.out, b2.out⟩
end Go.Proofs.YtoobelcphcndoaaGreat
