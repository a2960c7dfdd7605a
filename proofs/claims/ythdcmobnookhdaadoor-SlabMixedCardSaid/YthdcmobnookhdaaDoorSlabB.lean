/-
  What package slab does with stamped blocks: canStamp, Stamp, stampOf, gather, Read.
-/
import Derived.Test.YthdcmobnookhdaaDoorSlabA
import Derived.OwnWalk
import Derived.Deep.QuietTactic
import Derived.BigQuiet
namespace Go.Proofs.YthdcmobnookhdaaDoor
open Go.RowKit
set_option linter.unusedVariables false

/-- Four results. -/
theorem results_tmp4 {fn : Func} {t u v x : Tmp} (h : fn.results = #[.tmp t, .tmp u, .tmp v, .tmp x]) (tmps : Array Value) (P : Program) (w : World) :
    (results fn tmps).run P w = .ok (.tuple #[tmps.getD t undef, tmps.getD u undef, tmps.getD v undef, tmps.getD x undef]) w := by
  simp [results, h]

set_option maxHeartbeats 400000 in
theorem can_any (e q : Int) (w : World) : Calls Tryd.prog 22 #[.int .i64 e, .int .i64 q] w fun r w' => r = .returned (.bool (canS e q)) ∧ w = w' := by
  by_cases h1 : 1 ≤ e
  · by_cases h2 : e ≤ 2147483647
    · by_cases h3 : 0 ≤ q
      · by_cases h4 : q ≤ 2147483647
        · have H : Hid (true = canS e q) := by show _ = _; simp [canS, h1, h2, h3, h4]
          go_enter Tryd.func22, Tryd.ntmps22
          go_wp2
          go_ret
          exact ⟨ret_bool H.out, rfl⟩
        · have H : Hid (false = canS e q) := by show _ = _; simp [canS, h4]
          go_enter Tryd.func22, Tryd.ntmps22
          go_wp2
          go_ret
          exact ⟨ret_bool H.out, rfl⟩
      · have H : Hid (false = canS e q) := by show _ = _; simp [canS, h3]
        go_enter Tryd.func22, Tryd.ntmps22
        go_wp2
        go_ret
        exact ⟨ret_bool H.out, rfl⟩
    · have H : Hid (false = canS e q) := by show _ = _; simp [canS, h2]
      go_enter Tryd.func22, Tryd.ntmps22
      go_wp2
      go_ret
      exact ⟨ret_bool H.out, rfl⟩
  · have H : Hid (false = canS e q) := by show _ = _; simp [canS, h1]
    go_enter Tryd.func22, Tryd.ntmps22
    go_wp2
    go_ret
    exact ⟨ret_bool H.out, rfl⟩
theorem can_call (e q : Int) (w : World) (r : Bool) (hr : canS e q = r) : Calls Tryd.prog 22 #[.int .i64 e, .int .i64 q] w fun x w' => x = .returned (.bool r) ∧ w = w' := by
  subst hr; exact can_any e q w

set_option maxHeartbeats 1000000 in
theorem gather_any (b : List UInt8) (hb : b.length = 256) (w : World) :
    Calls Tryd.prog 29 #[.string (str b)] w fun e w' => e = .returned (.string (str (gat b 4))) ∧ Step noF w w' := by
  have HB := hid hb
  clear hb
  go_enter Tryd.func29, Tryd.ntmps29
  go_wp2_with fail
  refine (of_any b w).mono ?_
  rintro e w1 ⟨rfl, s1, i1, z1⟩
  have p1 : w.heap.size < w1.heap.size := by omega
  clear z1
  go_wp2_with fail
  have O0 : Hid (IsOut (w1.alloc (.cells #[.slice none 0 0] 56)) w1.heap.size (oneF w1.heap.size) []) := newOut w1
  have I0 : Hid (IsIn (w1.alloc (.cells #[.slice none 0 0] 56)) w.heap.size b 0) := i1.alloc _
  have T0 : Hid (Step noF w (w1.alloc (.cells #[.slice none 0 0] 56))) := s1.alloc _
  clear i1 s1
  go_loopw [7] (fun i wr => ∃ (j : Nat) (F' : Nat → Prop), j ≤ 4 ∧ i = .int .i64 j ∧ Step noF w wr ∧ IsIn wr w.heap.size (b.drop (64 * j)) 0 ∧ IsOut wr w1.heap.size F' (gat b j) ∧ (∀ q, F' q → w1.heap.size ≤ q)) (fun i _ => 4 - (intOf i).toNat)
  case atStart => exact ⟨0, oneF w1.heap.size, by omega, rfl, T0.out, by simpa using I0.out, O0.out, fun q hq => Nat.le_of_eq hq.symm⟩
  case round =>
    obtain ⟨j, F', hj, rfl, hst, hin, hout, hF'⟩ := hrel
    by_cases hlt : j < 4
    · have R1 : Hid (str (rawV (8 : Nat) (b.drop (64 * j))) = str ((b.drop (64 * j)).take 8) ∧ rawL (8 : Nat) (b.drop (64 * j)) = b.drop (64 * j + 8) ∧ rawE (8 : Nat) (b.drop (64 * j)) 0 = 0) := by
        have := raw_at 8 (b.drop (64 * j)) 0 (by rw [List.length_drop, HB.out]; omega)
        rw [List.drop_drop] at this; exact this
      have R2 : Hid (str (rawV (56 : Nat) (b.drop (64 * j + 8))) = str (pc56 b j) ∧ rawL (56 : Nat) (b.drop (64 * j + 8)) = b.drop (64 * (j + 1)) ∧ rawE (56 : Nat) (b.drop (64 * j + 8)) 0 = 0) := by
        have := raw_at 56 (b.drop (64 * j + 8)) 0 (by rw [List.length_drop, HB.out]; omega)
        rw [List.drop_drop, show 64 * j + 8 + 56 = 64 * (j + 1) by omega] at this; exact this
      have L1 : Hid ((b.drop (64 * j)).length ≤ maxLen) := by show _ ≤ _; rw [List.length_drop, HB.out]; unfold maxLen; omega
      have L2 : Hid ((b.drop (64 * j + 8)).length ≤ maxLen) := by show _ ≤ _; rw [List.length_drop, HB.out]; unfold maxLen; omega
      have L3 : Hid ((gat b j).length + (str (pc56 b j)).size ≤ 2000000) := by
        show _ ≤ _
        rw [gat_length (by rw [HB.out]; omega), str_size, pc56, List.length_take]; omega
      have HG : Hid (gat b j ++ (str (pc56 b j)).data.toList = gat b (j + 1)) := by show _ = _; rw [str_list]; rfl
      go_wp2_with fail
      refine (inRaw_call 8 _ _ 0 _ hin L1.out _ _ _ R1.out.1 R1.out.2.1 R1.out.2.2).mono ?_
      rintro e w2 ⟨rfl, s2, i2⟩
      go_wp2_with fail
      refine (inRaw_call 56 _ _ 0 _ i2 L2.out _ _ _ R2.out.1 R2.out.2.1 R2.out.2.2).mono ?_
      rintro e w3 ⟨rfl, s3, i3⟩
      have s4 := s2.trans s3
      have o3 : IsOut w3 w1.heap.size F' (gat b j) := hout.mono s4 (fun k hk h => by have := hF' k hk; have : k = w.heap.size := h; omega)
      have t3 : Step noF w w3 := hst.fresh s4 (fun i hi => Nat.le_of_eq hi.symm)
      clear s2 s3 s4 i2 hout hin
      go_wp2_with fail
      refine (raw_any (str (pc56 b j)) w1.heap.size F' (gat b j) w3 o3 L3.out).mono ?_
      rintro e w4 ⟨rfl, F2, s4, o4, f4⟩
      rw [HG.out] at o4
      have i4 : IsIn w4 w.heap.size (b.drop (64 * (j + 1))) 0 := i3.mono s4 (fun h => by have := hF' _ h; omega)
      have t4 : Step noF w w4 := t3.fresh s4 (fun i hi => by have := hF' i hi; omega)
      have z4 : w1.heap.size ≤ w3.heap.size := Nat.le_of_lt (o3.lt _ o3.self)
      go_wp2_with fail
      go_roundw
      case rel => exact ⟨j + 1, F2, by omega, by go_num, t4, i4, o4, fun q hq => by rcases f4 q hq with x | x; exact hF' q x; omega⟩
      case measure => simp [intOf]; omega
    · obtain rfl : j = 4 := by omega
      go_wp2_with fail
      refine (bytes_any _ F' _ _ hout).mono ?_
      rintro e w2 ⟨rfl, rfl⟩
      go_wp2_with fail
      go_ret
      exact ⟨rfl, hst⟩

/-- What stampOf tells. -/
def stE (b : List UInt8) : Int := if same b then epo b else 0
def stQ (b : List UInt8) : Int := if same b then num b else 0
def stB (b : List UInt8) : Bool := same b && canS (epo b) (num b)

set_option maxHeartbeats 1000000 in
theorem stampOf_any (b : List UInt8) (hb : b.length = 256) (w : World) :
    Calls Tryd.prog 28 #[.string (str b)] w fun e w' => e = .returned (.tuple #[.int .i64 (stE b), .int .i64 (stQ b), .bool (stB b)]) ∧ Step noF w w' := by
  have hsz : (str b).size = 256 := by rw [str_size, hb]
  have HB := hid hb
  clear hb
  have HX : Hid (∀ j, ((str b).extract (64 * j) (64 * j + 8)).toList = hd8 b j ∧ ((str b).extract 0 8).toList = b.take 8) := by
    intro j
    rw [str_extract, str_extract, ByteArray.toList_eq, ByteArray.toList_eq, str_list, str_list, hd8, List.drop_take, show 64 * j + 8 - 64 * j = 8 by omega]
    exact ⟨rfl, rfl⟩
  go_enter Tryd.func28, Tryd.ntmps28
  go_wp2_with fail
  go_loopw [5] (fun i wr => ∃ j : Nat, j < 4 ∧ i = .int .i64 (64 * ((j : Int) + 1)) ∧ Step noF w wr ∧ Hid (∀ i, i ≤ j → hd8 b i = b.take 8)) (fun i _ => 256 - (intOf i).toNat)
  case atStart => exact ⟨0, by omega, rfl, Step.refl _ _, fun i hi => by rw [show i = 0 by omega]; simp [hd8]⟩
  case round =>
    obtain ⟨j, hj, rfl, hst, hall⟩ := hrel
    by_cases hlt : j + 1 < 4
    · obtain ⟨A, hA⟩ : ∃ A, 64 * (j + 1) = A := ⟨_, rfl⟩
      have hA2 : (64 * ((j : Int) + 1)) = (A : Int) := by omega
      have hA3 : A + 8 ≤ 256 := by omega
      have HA := hid hA
      rw [hA2]
      obtain ⟨X, hX⟩ : ∃ X, (str b).extract A (A + 8) = X := ⟨_, rfl⟩
      obtain ⟨Y, hY⟩ : ∃ Y, (str b).extract 0 8 = Y := ⟨_, rfl⟩
      have q1 : X.toList = hd8 b (j + 1) := by rw [← hX, ← hA]; exact (HX.out (j + 1)).1
      have q2 : Y.toList = b.take 8 := by rw [← hY]; exact (HX.out 0).2
      have W64 : Hid (wrap64 ((A : Int) + 8) = (A : Int) + 8) := by show _ = _; unfold wrap64; omega
      have IW : Hid (IntKind.i64.wrap ((A : Int) + 8) = (A : Int) + 8) := by show _ = _; rw [IntKind.wrap_i64]; omega
      have kA : (A : Int) < 256 := by omega
      have kA8 : Hid ((A : Int) + 8 ≤ 256) := by show _ ≤ _; omega
      clear hA hA2 hA3
      by_cases hsame : hd8 b (j + 1) = b.take 8
      · have hq : (X.toList == Y.toList) = true := by rw [q1, q2, hsame]; simp
        have HQ : Hid (∀ i, i ≤ j + 1 → hd8 b i = b.take 8) := fun i hi => by
          by_cases e : i = j + 1
          · rw [e, hsame]
          · exact hall.out i (by omega)
        clear q1 q2 hsame
        go_wp2_with fail
        have w64 := W64.out
        have iw := IW.out
        have ka8 := kA8.out
        go_quiet (fail)
        go_wp2_with fail
        go_roundw
        case rel => exact ⟨j + 1, by omega, int_eq (by have := HA.out; omega), hst.drewN _, HQ⟩
        case measure => simp [intOf]; omega
      · have hq : (X.toList == Y.toList) = false := by rw [q1, q2]; simpa using hsame
        have HS : Hid (same b = false) := by
          show _ = _
          simp only [same, decide_eq_false_iff_not]
          rintro ⟨h1, h2, h3⟩
          match j, hlt, hsame with
          | 0, _, h => exact h h1
          | 1, _, h => exact h h2
          | 2, _, h => exact h h3
        clear q1 q2 hsame
        go_wp2_with fail
        have w64 := W64.out
        have iw := IW.out
        have ka8 := kA8.out
        go_quiet (fail)
        go_wp2_with fail
        go_ret3
        exact ⟨by rw [stE, stQ, stB, HS.out]; rfl, hst.drewN _⟩
    · obtain rfl : j = 3 := by omega
      have HS : Hid (same b = true) := by
        show _ = _
        simp only [same, decide_eq_true_eq]
        exact ⟨hall.out 1 (by omega), hall.out 2 (by omega), hall.out 3 (by omega)⟩
      have A1 : Hid (numVal (4 : Nat) b = (epo b : Int) ∧ numL (4 : Nat) b = b.drop 4 ∧ numE (4 : Nat) b 0 = 0) := num_at 4 (by omega) b 0 (by rw [HB.out]; omega)
      have A2 : Hid (numVal (4 : Nat) (b.drop 4) = (num b : Int) ∧ numL (4 : Nat) (b.drop 4) = b.drop 8 ∧ numE (4 : Nat) (b.drop 4) 0 = 0) := by
        have := num_at 4 (by omega) (b.drop 4) 0 (by rw [List.length_drop, HB.out]; omega)
        rw [List.drop_drop] at this; exact this
      have L2 : Hid ((b.drop 4).length ≤ maxLen) := by show _ ≤ _; rw [List.length_drop, HB.out]; unfold maxLen; omega
      clear HX
      go_wp2_with fail
      refine (of_any b _).mono ?_
      rintro e w1 ⟨rfl, s1, i1, z1⟩
      go_wp2_with fail
      refine (inNum_call 4 _ b 0 _ i1 (by rw [HB.out]; unfold maxLen; omega) _ _ _ A1.out.1 A1.out.2.1 A1.out.2.2).mono ?_
      rintro e w2 ⟨rfl, s2, i2⟩
      go_wp2_with fail
      refine (inNum_call 4 _ _ 0 _ i2 L2.out _ _ _ A2.out.1 A2.out.2.1 A2.out.2.2).mono ?_
      rintro e w3 ⟨rfl, s3, i3⟩
      go_wp2_with fail
      refine (can_any _ _ _).mono ?_
      rintro e w4 ⟨rfl, rfl⟩
      go_wp2_with fail
      go_ret3
      exact ⟨by rw [stE, stQ, stB, HS.out]; rfl, hst.trans (s1.fresh (s2.trans s3) (fun i hi => Nat.le_of_eq hi.symm))⟩
end Go.Proofs.YthdcmobnookhdaaDoor
