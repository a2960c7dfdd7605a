/-
  The document's answer for layer 12: whether a node fits, its bytes.
-/
import Derived.Test.YtoobelcphcndoaaGreatNdGr
import Derived.Test.YtoobelcphcndoaaGreatNdB
import Derived.Test.YtoobelcphcndoaaGreatLfRA
import Derived.Test.YtoobelcphcndoaaGreatBfRA
import Derived.Test.YtoobelcphcndoaaGreatPenE
namespace Go.Proofs.YtoobelcphcndoaaGreat
open Go.RowKit Go.Sort
set_option linter.unusedVariables false
set_option linter.unusedSimpArgs false
set_option maxRecDepth 20000

/-- A node's items; its kids, pivots and messages. -/
def Nv.its (v : Nv) : List Rg := Sum.elim (fun xs => xs) (fun _ => []) v
def Nv.nd (v : Nv) : Nd := Sum.elim (fun _ => ⟨[], [], []⟩) (fun d => d) v
/-- A node as the document has it. -/
def NvV (w : World) (v : Nv) (x : Value) : Prop := ∃ (ia ka pa a : Option Addr) (ic kc pc c : Nat), x = .agg #[.bool v.isLeaf, .slice ia v.its.length ic, .slice ka v.nd.kids.length kc, .slice pa v.nd.pivs.length pc, .slice a v.nd.ms.length c]
  ∧ (RgsAt w ia v.its ∧ (ia = none → ic = 0)) ∧ (RowAt w noF ka (intsOf v.nd.kids) ∧ (ka = none → kc = 0) ∧ v.nd.kids.length ≤ kc) ∧ (RowAt w noF pa (texts v.nd.pivs) ∧ (pa = none → pc = 0) ∧ v.nd.pivs.length ≤ pc) ∧ MsgsAt w noF a v.nd.ms ∧ (a = none → c = 0)
theorem NvV.step {w w' : World} {v : Nv} {x : Value} (h : NvV w v x) (hs : Step noF w w') : NvV w' v x := by
  obtain ⟨ia, ka, pa, a, ic, kc, pc, c, h1, ⟨h2, h3⟩, ⟨h4, h5, h6⟩, ⟨h7, h8, h9⟩, h10, h11⟩ := h
  exact ⟨ia, ka, pa, a, ic, kc, pc, c, h1, ⟨h2.step hs, h3⟩, ⟨h4.step hs, h5, h6⟩, ⟨h7.step hs, h8, h9⟩, h10.stepB hs, h11⟩

theorem str_cat (a b : List UInt8) : str a ++ str b = str (a ++ b) := by rw [str_append]; rfl
theorem refText_call (x : List UInt8) (hx : x.length ≤ 255) (w : World) : Calls Tryz.prog 48 #[.string (str x)] w fun e w' => e = .returned (.tuple #[.string (str (ntx x)), .bool true]) ∧ Step noF w w' := by
  have hv : textV [str x] = true := by simp [textV, str_size]; omega
  refine (refText_any (str x) (by rw [str_size]; unfold maxLen; omega) w).mono ?_
  rintro e w' ⟨X, rfl, h1, h2⟩
  rw [hv, h1 hv, show txt (str x) = ntx x by simp [txt, ntx, str_size, str_list]]
  exact ⟨rfl, h2⟩
theorem refKid_call (k : Int) (hk : kidFit k) (w : World) : Calls Tryz.prog 49 #[.int .i64 2, .int .i64 k] w fun e w' => e = .returned (.tuple #[.string (str (kidB k)), .bool true]) ∧ Step noF w w' := by
  have h1 := hk.1
  have h2 := hk.2
  have hv : numV 2 [k] = true := by
    simp [numV, isW, fitB]
    omega
  refine (refNum_any 2 k (by omega) w).mono ?_
  rintro e w' ⟨X, rfl, h1, h2⟩
  rw [hv, h1 hv]
  exact ⟨rfl, h2⟩
theorem u8_one (n : Nat) (h : n < 256) : ((UInt8.ofNat n).toNat : Int) = (n : Int) := by
  rw [UInt8.toNat_ofNat']
  omega
set_option maxHeartbeats 1000000 in
theorem refMsgBytes_any (m : Mg) (hm : m.is = true) (w : World) : Calls Tryz.prog 50 #[.agg #[.int .i64 m.kind, .string (str m.key), .string (str m.val)]] w fun e w' => e = .returned (.string (str (mgB m))) ∧ Step noF w w' := by
  obtain ⟨k, x, y⟩ := m
  have hk := kind_in hm
  have hx := Mg.key_le hm
  have hy := Mg.val_le hm
  dsimp only at hk hx hy
  have T0 := hid (trip_new w 73 ⟨k, x, y⟩)
  have S0 := hid ((Step.refl noF w).alloc (.cells #[.int .i64 k, .string (str x), .string (str y)] 73))
  have c1 := refText_call x (by omega)
  have c2 := refText_call y (by omega)
  obtain ⟨n, rfl⟩ := Int.eq_ofNat_of_zero_le (show 0 ≤ k by omega)
  have hwk : IntKind.u8.wrap (n : Int) = (n : Int) := by simp [IntKind.wrap, IntKind.bits, IntKind.signed]; omega
  have hcv := fun (u : World) => run_string_block (P := Tryz.prog) (u.alloc (.cells #[.int .u8 (n : Int)] 5)) 85 9 5 Tryz.underlying85 Tryz.underlying5 Tryz.underlying9 u.heap.size 1 1 _ [UInt8.ofNat n] (block_alloc_new _ _) (by simp [cellsOf]; omega) rfl
  have hB : Hid (str [UInt8.ofNat n] ++ str (ntx x) ++ str (ntx y) = str (mgB ⟨n, x, y⟩)) := by
    show _ = _
    rw [str_cat, str_cat]
    simp [mgB, be]
  obtain ⟨X, hX⟩ : ∃ X, str (ntx x) = X := ⟨_, rfl⟩
  obtain ⟨Y, hY⟩ : ∃ X, str (ntx y) = X := ⟨_, rfl⟩
  have z1 : X.size = x.length + 1 := by rw [← hX, str_size]; simp [ntx]
  have z2 : Y.size = y.length + 1 := by rw [← hY, str_size]; simp [ntx]
  have z3 : (str [UInt8.ofNat n]).size + X.size ≤ 9223372036854775807 := by rw [str_size, z1]; simp; omega
  have z4 : (str [UInt8.ofNat n] ++ X).size + Y.size ≤ 9223372036854775807 := by rw [ByteArray.size_append, str_size, z1, z2]; simp; omega
  rw [hX] at c1
  rw [hY] at c2
  rw [hX, hY] at hB
  obtain ⟨R, hR⟩ : ∃ R, str (mgB ⟨n, x, y⟩) = R := ⟨_, rfl⟩
  rw [hR] at hB ⊢
  clear hX hY z1 z2 hR hk hx hy hm
  obtain ⟨Wv, hW⟩ : ∃ W, w.alloc (.cells #[.int .i64 (n : Int), .string (str x), .string (str y)] 73) = W := ⟨_, rfl⟩
  rw [hW] at T0 S0
  have HW := hid hW
  clear hW
  obtain ⟨t0, t1, t2, _, _, _⟩ := T0.out.all
  go_enter Tryz.func50, Tryz.ntmps50
  go_upto_region 1 with fail
  rw [HW.out]
  go_wp2_with fail
  refine (c1 _).mono ?_
  rintro e w2 ⟨rfl, s2⟩
  have S2 := hid (S0.out.trans s2)
  have T2 := hid (T0.out.step s2)
  clear s2 t0 t1 t2
  obtain ⟨t0, t1, t2, _, _, _⟩ := T2.out.all
  go_wp2_with fail
  refine (c2 _).mono ?_
  rintro e w3 ⟨rfl, s3⟩
  have S3 := hid (S2.out.trans s3)
  have T3 := hid (T2.out.step s3)
  clear s3 t0 t1 t2
  obtain ⟨t0, t1, t2, _, _, _⟩ := T3.out.all
  have hcv3 := hcv w3
  clear hcv
  go_wp2_with fail
  go_ret
  exact ⟨ret_str hB.out, S3.out.alloc _⟩
set_option maxHeartbeats 1000000 in
theorem refFitsL_any (xs : List Rg) (hs : Small xs) (ia ka pa a : Option Addr) (ic kc pc c : Nat) (w : World) (h : RgsAt w ia xs) :
    Calls Tryz.prog 13 #[.agg #[.bool true, .slice ia xs.length ic, .slice ka 0 kc, .slice pa 0 pc, .slice a 0 c]] w fun e w' => e = .returned (.bool (fitsL xs)) ∧ Step noF w w' := by
  obtain ⟨W, hW⟩ : ∃ W, w.alloc (.cells #[.bool true, .slice ia xs.length ic, .slice ka 0 kc, .slice pa 0 pc, .slice a 0 c] 29) = W := ⟨_, rfl⟩
  have S0 : Hid (Step noF w W) := by show Step _ _ _; rw [← hW]; exact (Step.refl _ _).alloc _
  have bx := ndBox_new w (.bool true) (.slice ia xs.length ic) (.slice ka 0 kc) (.slice pa 0 pc) (.slice a 0 c)
  rw [hW] at bx
  obtain ⟨g0, hg0⟩ : ∃ g, w.heap.size = g := ⟨_, rfl⟩
  rw [hg0] at bx
  have BX := hid bx
  have HW := hid hW
  have HG := hid hg0
  clear hW bx hg0
  have cW := refWeight_any xs hs.1 hs.2 ia ic W (h.step S0.out)
  have HF : Hid (fitsL xs = decide (wtL xs ≤ 240)) := rfl
  obtain ⟨V, hV⟩ : ∃ V, wtL xs = V := ⟨_, rfl⟩
  rw [hV] at cW HF
  rw [HF.out]
  clear h hV hs
  obtain ⟨b0, b1, b2, b3, b4⟩ := BX.out.all
  go_enter Tryz.func13, Tryz.ntmps13
  go_upto_region 1 with fail
  rw [HW.out, HG.out]
  clear HW HG
  go_wp2_with fail
  refine cW.mono ?_
  rintro e w2 ⟨rfl, s2⟩
  have S2 := hid (S0.out.trans s2)
  clear s2
  go_wp2_with fail
  go_ret
  exact ⟨ret_bool (by rw [decide_eq_decide]; omega), S2.out⟩
set_option maxHeartbeats 2000000 in
theorem refFitsI_any (d : Nd) (hkl : d.kids.length ≤ 1000000) (hs : SmallM d.ms) (ia ka pa a : Option Addr) (ic kc pc c : Nat) (w : World) (hk : RowAt w noF ka (intsOf d.kids)) (hm : MsgsAt w noF a d.ms) :
    Calls Tryz.prog 13 #[.agg #[.bool false, .slice ia 0 ic, .slice ka d.kids.length kc, .slice pa d.pivs.length pc, .slice a d.ms.length c]] w fun e w' => e = .returned (.bool (fitsN d)) ∧ Step noF w w' := by
  obtain ⟨W, hW⟩ : ∃ W, w.alloc (.cells #[.bool false, .slice ia 0 ic, .slice ka d.kids.length kc, .slice pa d.pivs.length pc, .slice a d.ms.length c] 29) = W := ⟨_, rfl⟩
  have S0 : Hid (Step noF w W) := by show Step _ _ _; rw [← hW]; exact (Step.refl _ _).alloc _
  have bx := ndBox_new w (.bool false) (.slice ia 0 ic) (.slice ka d.kids.length kc) (.slice pa d.pivs.length pc) (.slice a d.ms.length c)
  rw [hW] at bx
  obtain ⟨g0, hg0⟩ : ∃ g, w.heap.size = g := ⟨_, rfl⟩
  rw [hg0] at bx
  have BX := hid bx
  have HW := hid hW
  have HG := hid hg0
  clear hW bx hg0
  have cW := refWeightB_any d.ms hs a c W (hm.stepB S0.out)
  have HK := hid (hk.step S0.out)
  have HF : Hid (fitsN d = (decide (d.kids.length ≤ 6) && kidsIn d.kids && decide (wtM d.ms ≤ 180))) := rfl
  obtain ⟨V, hV⟩ : ∃ V, wtM d.ms = V := ⟨_, rfl⟩
  rw [hV] at cW HF
  obtain ⟨D, hD⟩ : ∃ D, fitsN d = D := ⟨_, rfl⟩
  rw [hD] at HF ⊢
  clear hk hm hV hs hD
  obtain ⟨b0, b1, b2, b3, b4⟩ := BX.out.all
  go_enter Tryz.func13, Tryz.ntmps13
  go_upto_region 1 with fail
  rw [HW.out, HG.out]
  clear HW HG
  go_wp2_with fail
  go_loopw [3] (fun i wr => ∃ (j : Nat), j ≤ d.kids.length ∧ i = .int .i64 j ∧ Hid (kidsIn (d.kids.take j) = true) ∧ wr = W) (fun i _ => d.kids.length - (intOf i).toNat)
  case atStart => exact ⟨0, Nat.zero_le _, rfl, (by show _ = _; rfl), rfl⟩
  case round =>
    obtain ⟨j, hj, rfl, HA, hwr⟩ := hrel
    rw [hwr]
    clear hwr
    by_cases hjl : j < d.kids.length
    · have hjz : (j : Int) < (d.kids.length : Int) := by omega
      obtain ⟨g, off, rfl, c0⟩ := ints_get HK.out j hjl
      have HT := hid (kidsIn_take d.kids j hjl)
      have HN : Hid (¬ d.kids[j] ≤ 511 → kidsIn d.kids = false) := fun h => by
        unfold kidsIn
        rw [List.all_eq_false]
        exact ⟨d.kids[j], List.getElem_mem hjl, by simpa using h⟩
      obtain ⟨z, hz⟩ : ∃ m, d.kids[j] = m := ⟨_, rfl⟩
      rw [hz] at c0 HT HN
      clear hz
      by_cases hi : 511 < z
      · have HD : Hid (D = false) := by
          show _ = _
          rw [HF.out, HN.out (by omega)]
          simp
        go_wp2_with fail
        go_ret
        exact ⟨ret_bool HD.out.symm, S0.out⟩
      · have HT2 : Hid (kidsIn (d.kids.take (j + 1)) = true) := by
          show _ = _
          rw [HT.out, HA.out]
          simp; omega
        go_wp2_with fail
        go_roundw
        case rel => exact ⟨j + 1, by omega, int_eq (by omega), HT2, by first | rfl | trivial⟩
        case measure => simp [intOf]; omega
    · obtain rfl : j = d.kids.length := by omega
      have KIN : Hid (kidsIn d.kids = true) := by
        have h1 := HA.out
        rw [List.take_of_length_le (Nat.le_refl _)] at h1
        exact h1
      have HF2 : Hid (D = (decide (d.kids.length ≤ 6) && decide (V ≤ 180))) := by show _ = _; rw [HF.out, KIN.out, Bool.and_true]
      clear HA HF KIN
      by_cases g6 : d.kids.length ≤ 6
      · have gz : (d.kids.length : Int) ≤ 6 := by omega
        have HF3 : Hid (D = decide (V ≤ 180)) := by show _ = _; rw [HF2.out, decide_eq_true g6, Bool.true_and]
        clear g6 HF2
        go_wp2_with fail
        refine cW.mono ?_
        rintro e w2 ⟨rfl, s2⟩
        have S2 := hid (S0.out.trans s2)
        clear s2
        go_wp2_with fail
        go_ret
        exact ⟨ret_bool (by rw [HF3.out, decide_eq_decide]; omega), S2.out⟩
      · have gz : ¬ (d.kids.length : Int) ≤ 6 := by omega
        have HF3 : Hid (D = false) := by show _ = _; rw [HF2.out, decide_eq_false g6, Bool.false_and]
        clear g6 HF2
        go_wp2_with fail
        go_ret
        exact ⟨ret_bool HF3.out.symm, S0.out⟩
theorem refFits12_any (v : Nv) (hs : v.small) (x : Value) (w : World) (h : NvV w v x) : Calls Tryz.prog 13 #[x] w fun e w' => e = .returned (.bool v.fits) ∧ Step noF w w' := by
  obtain ⟨ia, ka, pa, a, ic, kc, pc, c, rfl, ⟨h2, h3⟩, ⟨h4, h5, h6⟩, ⟨h7, h8, h9⟩, h10, h11⟩ := h
  cases v using Nv.two with
  | leaf xs => exact refFitsL_any xs hs ia ka pa a ic kc pc c w h2
  | inn d => exact refFitsI_any d hs.1 hs.2.2 ia ka pa a ic kc pc c w h4 h10

/-- Two bytes, as a text. -/
theorem two_bytes (k n : Nat) (hk : k < 256) (hn : n < 256) (z : Int) (hz : z = (k : Int)) (u : World) : (convert 85 9 (.slice (some ⟨u.heap.size, 0, none⟩) 2 2)).run Tryz.prog (u.alloc (.cells #[.int .u8 z, .int .u8 (n : Int)] 5)) = .ok (.string (str [UInt8.ofNat k, UInt8.ofNat n])) (u.alloc (.cells #[.int .u8 z, .int .u8 (n : Int)] 5)) := by
  subst hz
  exact run_string_block (P := Tryz.prog) (u.alloc (.cells #[.int .u8 (k : Int), .int .u8 (n : Int)] 5)) 85 9 5 Tryz.underlying85 Tryz.underlying5 Tryz.underlying9 u.heap.size 2 2 _ [UInt8.ofNat k, UInt8.ofNat n] (block_alloc_new _ _) (by simp [cellsOf]; omega) rfl
theorem one_byte (n : Nat) (hn : n < 256) (u : World) : (convert 85 9 (.slice (some ⟨u.heap.size, 0, none⟩) 1 1)).run Tryz.prog (u.alloc (.cells #[.int .u8 (n : Int)] 5)) = .ok (.string (str [UInt8.ofNat n])) (u.alloc (.cells #[.int .u8 (n : Int)] 5)) :=
  run_string_block (P := Tryz.prog) (u.alloc (.cells #[.int .u8 (n : Int)] 5)) 85 9 5 Tryz.underlying85 Tryz.underlying5 Tryz.underlying9 u.heap.size 1 1 _ [UInt8.ofNat n] (block_alloc_new _ _) (by simp [cellsOf]; omega) rfl
theorem wrap_u8 (n : Nat) (h : n < 256) : IntKind.u8.wrap (n : Int) = (n : Int) := by simp [IntKind.wrap, IntKind.bits, IntKind.signed]; omega
set_option maxHeartbeats 2000000 in
theorem refBytesL_any (xs : List Rg) (hl : xs.length < 256) (hf : ∀ x ∈ xs, itFit x) (ia ka pa a : Option Addr) (ic kc pc c : Nat) (w : World) (h : RgsAt w ia xs) :
    Calls Tryz.prog 16 #[.agg #[.bool true, .slice ia xs.length ic, .slice ka 0 kc, .slice pa 0 pc, .slice a 0 c]] w fun e w' => e = .returned (.string (str (leafB xs))) ∧ Step noF w w' := by
  obtain ⟨W, hW⟩ : ∃ W, w.alloc (.cells #[.bool true, .slice ia xs.length ic, .slice ka 0 kc, .slice pa 0 pc, .slice a 0 c] 29) = W := ⟨_, rfl⟩
  have S0 : Hid (Step noF w W) := by show Step _ _ _; rw [← hW]; exact (Step.refl _ _).alloc _
  have bx := ndBox_new w (.bool true) (.slice ia xs.length ic) (.slice ka 0 kc) (.slice pa 0 pc) (.slice a 0 c)
  rw [hW] at bx
  obtain ⟨g0, hg0⟩ : ∃ g, w.heap.size = g := ⟨_, rfl⟩
  rw [hg0] at bx
  have BX := hid bx
  have HW := hid hW
  have HG := hid hg0
  clear hW bx hg0
  have HR := hid (h.step S0.out)
  have HF := hid hf
  have HX := hid (flatIt_len xs hf)
  have hwk := wrap_u8 xs.length hl
  have hcv := two_bytes 1 xs.length (by omega) hl 1 rfl W
  clear h hf
  obtain ⟨b0, b1, b2, b3, b4⟩ := BX.out.all
  go_enter Tryz.func16, Tryz.ntmps16
  go_upto_region 1 with fail
  rw [HW.out, HG.out]
  clear HW HG
  go_wp2_with fail
  go_loopw [3, 4] (fun s i wr => ∃ (j : Nat), j ≤ xs.length ∧ s = .string (str ([UInt8.ofNat 1, UInt8.ofNat xs.length] ++ (xs.take j).flatMap itB)) ∧ i = .int .i64 j ∧ Hid (Step noF W wr)) (fun _ i _ => xs.length - (intOf i).toNat)
  case atStart => exact ⟨0, Nat.zero_le _, by simp, rfl, (Step.refl _ _).alloc _⟩
  case round =>
    obtain ⟨j, hj, rfl, rfl, ST⟩ := hrel
    have BXr := hid (BX.out.step ST.out)
    clear b0 b1 b2 b3 b4
    obtain ⟨b0, b1, b2, b3, b4⟩ := BXr.out.all
    by_cases hjl : j < xs.length
    · have hjz : (j : Int) < (xs.length : Int) := by omega
      obtain ⟨g, off, rfl, c0, c1⟩ := (HR.out.step ST.out).at j hjl
      have HB : ([UInt8.ofNat 1, UInt8.ofNat xs.length] ++ (xs.take j).flatMap itB).length ≤ 100000 := by
        have a1 := flatIt_len (xs.take j) (fun x hx => HF.out x (List.mem_of_mem_take hx))
        have a2 : (xs.take j).length ≤ xs.length := List.length_take_le' ..
        rw [List.length_append]
        simp only [List.length_cons, List.length_nil]
        omega
      have HQ : itFit xs[j] := HF.out xs[j] (List.getElem_mem hjl)
      have HE := flatIt_take xs j hjl
      obtain ⟨⟨x, y⟩, hm⟩ : ∃ m, xs[j] = m := ⟨_, rfl⟩
      rw [hm] at c0 c1 HE HQ
      have q1 : x.length ≤ 8 := HQ.1
      have q2 : y.length ≤ 16 := HQ.2
      have k1 := refText_call x (by omega)
      have k2 := refText_call y (by omega)
      have HT : Hid (str ([UInt8.ofNat 1, UInt8.ofNat xs.length] ++ (xs.take j).flatMap itB) ++ str (ntx x) ++ str (ntx y) = str ([UInt8.ofNat 1, UInt8.ofNat xs.length] ++ (xs.take (j + 1)).flatMap itB)) := by
        show _ = _
        rw [str_cat, str_cat, HE]
        simp
      obtain ⟨X, hX⟩ : ∃ X, str (ntx x) = X := ⟨_, rfl⟩
      obtain ⟨Y, hY⟩ : ∃ X, str (ntx y) = X := ⟨_, rfl⟩
      obtain ⟨T, hT⟩ : ∃ X, str ([UInt8.ofNat 1, UInt8.ofNat xs.length] ++ (xs.take j).flatMap itB) = X := ⟨_, rfl⟩
      have z1 : X.size = x.length + 1 := by rw [← hX, str_size]; simp [ntx]
      have z2 : Y.size = y.length + 1 := by rw [← hY, str_size]; simp [ntx]
      have z0 : T.size ≤ 100000 := by rw [← hT, str_size]; exact HB
      have z3 : T.size + X.size ≤ 9223372036854775807 := by omega
      have z4 : (T ++ X).size + Y.size ≤ 9223372036854775807 := by rw [ByteArray.size_append]; omega
      rw [hX] at k1
      rw [hY] at k2
      rw [hX, hY, hT] at HT
      rw [hT]
      clear hX hY hT z0 z1 z2 hm HB HE HQ q1 q2
      go_wp2_with fail
      refine (k1 _).mono ?_
      rintro e w2 ⟨rfl, s2⟩
      have S2 := hid (ST.out.trans s2)
      have BX2 := hid (BXr.out.step s2)
      have c1' := s2.after c1
      clear s2 b0 b1 b2 b3 b4 c0 c1
      obtain ⟨b0, b1, b2, b3, b4⟩ := BX2.out.all
      go_wp2_with fail
      refine (k2 _).mono ?_
      rintro e w3 ⟨rfl, s3⟩
      have S3 := hid (S2.out.trans s3)
      clear s3
      go_wp2_with fail
      go_roundw
      case rel => exact ⟨j + 1, by omega, by rw [HT.out], int_eq (by omega), S3⟩
      case measure => simp [intOf]; omega
    · obtain rfl : j = xs.length := by omega
      go_wp2_with fail
      go_ret
      refine ⟨ret_str ?_, S0.out.trans ST.out⟩
      rw [List.take_of_length_le (Nat.le_refl _)]
      rfl
set_option maxHeartbeats 4000000 in
theorem refBytesI_any (d : Nd) (hd : NdSmall d) (ia ka pa a : Option Addr) (ic kc pc c : Nat) (w : World) (hk : RowAt w noF ka (intsOf d.kids)) (hp : RowAt w noF pa (texts d.pivs)) (hm : MsgsAt w noF a d.ms) :
    Calls Tryz.prog 16 #[.agg #[.bool false, .slice ia 0 ic, .slice ka d.kids.length kc, .slice pa d.pivs.length pc, .slice a d.ms.length c]] w fun e w' => e = .returned (.string (str (innB d))) ∧ Step noF w w' := by
  obtain ⟨W, hW⟩ : ∃ W, w.alloc (.cells #[.bool false, .slice ia 0 ic, .slice ka d.kids.length kc, .slice pa d.pivs.length pc, .slice a d.ms.length c] 29) = W := ⟨_, rfl⟩
  have S0 : Hid (Step noF w W) := by show Step _ _ _; rw [← hW]; exact (Step.refl _ _).alloc _
  have bx := ndBox_new w (.bool false) (.slice ia 0 ic) (.slice ka d.kids.length kc) (.slice pa d.pivs.length pc) (.slice a d.ms.length c)
  rw [hW] at bx
  obtain ⟨g0, hg0⟩ : ∃ g, w.heap.size = g := ⟨_, rfl⟩
  rw [hg0] at bx
  have BX := hid bx
  have HW := hid hW
  have HG := hid hg0
  clear hW bx hg0
  have HK := hid (hk.step S0.out)
  have HP := hid (hp.step S0.out)
  have HM := hid (hm.stepB S0.out)
  have HD := hid hd
  have hkl := hd.kl
  have hml := hd.ml
  have hpl : d.pivs.length < 256 := by have := hd.pl; omega
  have L1 : ∀ j, ([UInt8.ofNat 2, UInt8.ofNat d.kids.length] ++ (d.kids.take j).flatMap kidB).length ≤ 100000 := fun j => by
    have a1 := flatB_le kidB 2 (d.kids.take j) (fun x _ => by simp [kidB, be_length])
    have a2 : (d.kids.take j).length ≤ d.kids.length := List.length_take_le' ..
    rw [List.length_append]
    simp only [List.length_cons, List.length_nil]
    omega
  have L2 : ∀ j, (([UInt8.ofNat 2, UInt8.ofNat d.kids.length] ++ d.kids.flatMap kidB) ++ (d.pivs.take j).flatMap ntx).length ≤ 100000 := fun j => by
    have a1 := flatB_le ntx 9 (d.pivs.take j) (fun x hx => by have := HD.out.ps x (List.mem_of_mem_take hx); simp [ntx]; omega)
    have a2 : (d.pivs.take j).length ≤ d.pivs.length := List.length_take_le' ..
    have a3 := flatB_le kidB 2 d.kids (fun x _ => by simp [kidB, be_length])
    rw [List.length_append, List.length_append]
    simp only [List.length_cons, List.length_nil]
    omega
  have mlen : ∀ x ∈ d.ms, (mgB x).length ≤ 27 := fun x hx => by
    have a1 := Mg.key_le (HD.out.ms x hx)
    have a2 := Mg.val_le (HD.out.ms x hx)
    rw [mgB_length]
    unfold mgW
    omega
  have L3 : ∀ j, ((([UInt8.ofNat 2, UInt8.ofNat d.kids.length] ++ d.kids.flatMap kidB) ++ d.pivs.flatMap ntx ++ [UInt8.ofNat d.ms.length]) ++ (d.ms.take j).flatMap mgB).length ≤ 100000 := fun j => by
    have a1 := flatB_le mgB 27 (d.ms.take j) (fun x hx => mlen x (List.mem_of_mem_take hx))
    have a2 : (d.ms.take j).length ≤ d.ms.length := List.length_take_le' ..
    have a3 := flatB_le kidB 2 d.kids (fun x _ => by simp [kidB, be_length])
    have a4 := flatB_le ntx 9 d.pivs (fun x hx => by have := HD.out.ps x hx; simp [ntx]; omega)
    simp only [List.length_append, List.length_cons, List.length_nil]
    omega
  have HL := hid (And.intro L1 (And.intro L2 (And.intro L3 mlen)))
  have hwk := wrap_u8 d.kids.length hkl
  have hwm := wrap_u8 d.ms.length hml
  have hcv := two_bytes 2 d.kids.length (by omega) hkl 2 rfl W
  have HPL := hid hd.pl
  clear hk hp hm hd L1 L2 L3 mlen
  obtain ⟨b0, b1, b2, b3, b4⟩ := BX.out.all
  go_enter Tryz.func16, Tryz.ntmps16
  go_upto_region 1 with fail
  rw [HW.out, HG.out]
  clear HW HG
  go_wp2_with fail
  go_loopw [9, 10] (fun s i wr => ∃ (j : Nat), j ≤ d.kids.length ∧ s = .string (str ([UInt8.ofNat 2, UInt8.ofNat d.kids.length] ++ (d.kids.take j).flatMap kidB)) ∧ i = .int .i64 j ∧ Hid (Step noF W wr)) (fun _ i _ => d.kids.length - (intOf i).toNat)
  case atStart => exact ⟨0, Nat.zero_le _, by simp, rfl, (Step.refl _ _).alloc _⟩
  case round =>
    obtain ⟨j, hj, rfl, rfl, ST⟩ := hrel
    have BXr := hid (BX.out.step ST.out)
    clear b0 b1 b2 b3 b4
    obtain ⟨b0, b1, b2, b3, b4⟩ := BXr.out.all
    by_cases hjl : j < d.kids.length
    · have hjz : (j : Int) < (d.kids.length : Int) := by omega
      obtain ⟨g, off, rfl, c0⟩ := ints_get (rowAt_step HK.out ST.out (fun _ _ h => h)) j hjl
      have HB : ([UInt8.ofNat 2, UInt8.ofNat d.kids.length] ++ (d.kids.take j).flatMap kidB).length ≤ 100000 := HL.out.1 j
      have HE : (d.kids.take (j + 1)).flatMap kidB = (d.kids.take j).flatMap kidB ++ kidB d.kids[j] := by
        rw [List.take_succ_eq_append_getElem hjl, List.flatMap_append]
        simp
      have HQ := HD.out.kids d.kids[j] (List.getElem_mem hjl)
      obtain ⟨z, hm⟩ : ∃ m, d.kids[j] = m := ⟨_, rfl⟩
      rw [hm] at c0 HE HQ
      have k1 := refKid_call z HQ
      have HT : Hid (str ([UInt8.ofNat 2, UInt8.ofNat d.kids.length] ++ (d.kids.take j).flatMap kidB) ++ str (kidB z) = str ([UInt8.ofNat 2, UInt8.ofNat d.kids.length] ++ (d.kids.take (j + 1)).flatMap kidB)) := by
        show _ = _
        rw [str_cat, HE]
        simp only [List.append_assoc]
      have z1 : (kidB z).length ≤ 1000 := by simp [kidB, be_length]
      obtain ⟨X, hX⟩ : ∃ X, str (kidB z) = X := ⟨_, rfl⟩
      obtain ⟨T, hT⟩ : ∃ X, str ([UInt8.ofNat 2, UInt8.ofNat d.kids.length] ++ (d.kids.take j).flatMap kidB) = X := ⟨_, rfl⟩
      have z3 : T.size + X.size ≤ 9223372036854775807 := by rw [← hT, ← hX, str_size, str_size]; omega
      rw [hX] at k1
      rw [hX, hT] at HT
      rw [hT]
      clear hX hT z1 hm HB HE HQ
      go_wp2_with fail
      refine (k1 _).mono ?_
      rintro e w2 ⟨rfl, s2⟩
      have S2 := hid (ST.out.trans s2)
      clear s2
      go_wp2_with fail
      go_roundw
      case rel => exact ⟨j + 1, by omega, by rw [HT.out], int_eq (by omega), S2⟩
      case measure => simp [intOf]; omega
    · obtain rfl : j = d.kids.length := by omega
      rw [List.take_of_length_le (Nat.le_refl _)]
      clear hjl hj
      have STK := hid ST.out
      clear hcv hwk
      go_wp2_with fail
      go_loopw [9, 13] (fun s i wr => ∃ (j : Nat), j ≤ d.pivs.length ∧ s = .string (str (([UInt8.ofNat 2, UInt8.ofNat d.kids.length] ++ d.kids.flatMap kidB) ++ (d.pivs.take j).flatMap ntx)) ∧ i = .int .i64 j ∧ Hid (Step noF W wr)) (fun _ i _ => d.pivs.length - (intOf i).toNat)
      case atStart => exact ⟨0, Nat.zero_le _, by simp, rfl, STK.out⟩
      case round =>
        obtain ⟨j, hj, rfl, rfl, ST⟩ := hrel
        have BXr := hid (BX.out.step ST.out)
        clear b0 b1 b2 b3 b4
        obtain ⟨b0, b1, b2, b3, b4⟩ := BXr.out.all
        by_cases hjl : j < d.pivs.length
        · have hjz : (j : Int) < (d.pivs.length : Int) := by omega
          obtain ⟨g, off, rfl, c0⟩ := texts_get (rowAt_step HP.out ST.out (fun _ _ h => h)) j hjl
          have HB : (([UInt8.ofNat 2, UInt8.ofNat d.kids.length] ++ d.kids.flatMap kidB) ++ (d.pivs.take j).flatMap ntx).length ≤ 100000 := HL.out.2.1 j
          have HE : (d.pivs.take (j + 1)).flatMap ntx = (d.pivs.take j).flatMap ntx ++ ntx d.pivs[j] := by
            rw [List.take_succ_eq_append_getElem hjl, List.flatMap_append]
            simp
          have HQ := HD.out.ps d.pivs[j] (List.getElem_mem hjl)
          obtain ⟨z, hm⟩ : ∃ m, d.pivs[j] = m := ⟨_, rfl⟩
          rw [hm] at c0 HE HQ
          have k1 := refText_call z (by omega)
          have HT : Hid (str (([UInt8.ofNat 2, UInt8.ofNat d.kids.length] ++ d.kids.flatMap kidB) ++ (d.pivs.take j).flatMap ntx) ++ str (ntx z) = str (([UInt8.ofNat 2, UInt8.ofNat d.kids.length] ++ d.kids.flatMap kidB) ++ (d.pivs.take (j + 1)).flatMap ntx)) := by
            show _ = _
            rw [str_cat, HE]
            simp only [List.append_assoc]
          have z1 : (ntx z).length ≤ 1000 := by simp [ntx]; omega
          obtain ⟨X, hX⟩ : ∃ X, str (ntx z) = X := ⟨_, rfl⟩
          obtain ⟨T, hT⟩ : ∃ X, str (([UInt8.ofNat 2, UInt8.ofNat d.kids.length] ++ d.kids.flatMap kidB) ++ (d.pivs.take j).flatMap ntx) = X := ⟨_, rfl⟩
          have z3 : T.size + X.size ≤ 9223372036854775807 := by rw [← hT, ← hX, str_size, str_size]; omega
          rw [hX] at k1
          rw [hX, hT] at HT
          rw [hT]
          clear hX hT z1 hm HB HE HQ
          go_wp2_with fail
          refine (k1 _).mono ?_
          rintro e w2 ⟨rfl, s2⟩
          have S2 := hid (ST.out.trans s2)
          clear s2
          go_wp2_with fail
          go_roundw
          case rel => exact ⟨j + 1, by omega, by rw [HT.out], int_eq (by omega), S2⟩
          case measure => simp [intOf]; omega
        · obtain rfl : j = d.pivs.length := by omega
          rw [List.take_of_length_le (Nat.le_refl _)]
          clear hjl hj
          have STP := hid ST.out
          have HBq : (([UInt8.ofNat 2, UInt8.ofNat d.kids.length] ++ d.kids.flatMap kidB) ++ d.pivs.flatMap ntx).length ≤ 100000 := by
            have a0 := HL.out.2.1 d.pivs.length
            rw [List.take_of_length_le (Nat.le_refl _)] at a0
            exact a0
          have hz : Hid (str (([UInt8.ofNat 2, UInt8.ofNat d.kids.length] ++ d.kids.flatMap kidB) ++ d.pivs.flatMap ntx) ++ str [UInt8.ofNat d.ms.length] = str (([UInt8.ofNat 2, UInt8.ofNat d.kids.length] ++ d.kids.flatMap kidB) ++ d.pivs.flatMap ntx ++ [UInt8.ofNat d.ms.length])) := by
            show _ = _
            rw [str_cat]
          have hcv := fun (u : World) => one_byte d.ms.length hml u
          obtain ⟨T, hT⟩ : ∃ X, str (([UInt8.ofNat 2, UInt8.ofNat d.kids.length] ++ d.kids.flatMap kidB) ++ d.pivs.flatMap ntx) = X := ⟨_, rfl⟩
          obtain ⟨X, hX⟩ : ∃ X, str [UInt8.ofNat d.ms.length] = X := ⟨_, rfl⟩
          have z3 : T.size + X.size ≤ 9223372036854775807 := by rw [← hT, ← hX, str_size, str_size]; simp only [List.length_cons, List.length_nil]; omega
          rw [hT, hX] at hz
          rw [hT]
          simp only [hX] at hcv
          have HST := hid (STP.out.alloc (.cells #[.int .u8 (d.ms.length : Int)] 5))
          have BXs := hid (BX.out.step HST.out)
          clear hT hX HBq
          go_wp2_with fail
          go_loopw [9, 16] (fun s i wr => ∃ (j : Nat), j ≤ d.ms.length ∧ s = .string (str ((([UInt8.ofNat 2, UInt8.ofNat d.kids.length] ++ d.kids.flatMap kidB) ++ d.pivs.flatMap ntx ++ [UInt8.ofNat d.ms.length]) ++ (d.ms.take j).flatMap mgB)) ∧ i = .int .i64 j ∧ Hid (Step noF W wr)) (fun _ i _ => d.ms.length - (intOf i).toNat)
          case atStart => exact ⟨0, Nat.zero_le _, by rw [hz.out]; simp, rfl, HST.out⟩
          case round =>
            obtain ⟨j, hj, rfl, rfl, ST⟩ := hrel
            have BXr := hid (BX.out.step ST.out)
            clear b0 b1 b2 b3 b4
            obtain ⟨b0, b1, b2, b3, b4⟩ := BXr.out.all
            by_cases hjl : j < d.ms.length
            · have hjz : (j : Int) < (d.ms.length : Int) := by omega
              obtain ⟨g, off, rfl, c0, c1, c2⟩ := (HM.out.stepB ST.out).at j hjl
              have HB : ((([UInt8.ofNat 2, UInt8.ofNat d.kids.length] ++ d.kids.flatMap kidB) ++ d.pivs.flatMap ntx ++ [UInt8.ofNat d.ms.length]) ++ (d.ms.take j).flatMap mgB).length ≤ 100000 := HL.out.2.2.1 j
              have HE : (d.ms.take (j + 1)).flatMap mgB = (d.ms.take j).flatMap mgB ++ mgB d.ms[j] := by
                rw [List.take_succ_eq_append_getElem hjl, List.flatMap_append]
                simp
              have HQ := HD.out.ms d.ms[j] (List.getElem_mem hjl)
              obtain ⟨⟨mk, mx, my⟩, hm⟩ : ∃ m, d.ms[j] = m := ⟨_, rfl⟩
              rw [hm] at c0 c1 c2 HE HQ
              have k1 := refMsgBytes_any ⟨mk, mx, my⟩ HQ
              have HT : Hid (str ((([UInt8.ofNat 2, UInt8.ofNat d.kids.length] ++ d.kids.flatMap kidB) ++ d.pivs.flatMap ntx ++ [UInt8.ofNat d.ms.length]) ++ (d.ms.take j).flatMap mgB) ++ str (mgB ⟨mk, mx, my⟩) = str ((([UInt8.ofNat 2, UInt8.ofNat d.kids.length] ++ d.kids.flatMap kidB) ++ d.pivs.flatMap ntx ++ [UInt8.ofNat d.ms.length]) ++ (d.ms.take (j + 1)).flatMap mgB)) := by
                show _ = _
                rw [str_cat, HE]
                simp only [List.append_assoc]
              have z1 : (mgB ⟨mk, mx, my⟩).length ≤ 1000 := by have a1 := HL.out.2.2.2 d.ms[j] (List.getElem_mem hjl); rw [hm] at a1; omega
              obtain ⟨X, hX⟩ : ∃ X, str (mgB ⟨mk, mx, my⟩) = X := ⟨_, rfl⟩
              obtain ⟨T, hT⟩ : ∃ X, str ((([UInt8.ofNat 2, UInt8.ofNat d.kids.length] ++ d.kids.flatMap kidB) ++ d.pivs.flatMap ntx ++ [UInt8.ofNat d.ms.length]) ++ (d.ms.take j).flatMap mgB) = X := ⟨_, rfl⟩
              have z3 : T.size + X.size ≤ 9223372036854775807 := by rw [← hT, ← hX, str_size, str_size]; omega
              rw [hX] at k1
              rw [hX, hT] at HT
              rw [hT]
              clear hX hT z1 hm HB HE HQ
              go_wp2_with fail
              refine (k1 _).mono ?_
              rintro e w2 ⟨rfl, s2⟩
              have S2 := hid (ST.out.trans s2)
              clear s2
              go_wp2_with fail
              go_roundw
              case rel => exact ⟨j + 1, by omega, by rw [HT.out], int_eq (by omega), S2⟩
              case measure => simp [intOf]; omega
            · obtain rfl : j = d.ms.length := by omega
              rw [List.take_of_length_le (Nat.le_refl _)]
              clear hjl hj
              have S9 := hid (S0.out.trans ST.out)
              go_wp2_with fail
              go_ret
              refine ⟨ret_str ?_, S9.out⟩
              unfold innB
              simp only [List.append_assoc, List.cons_append, List.nil_append]
              rfl
theorem refBytes12_any (v : Nv) (hg : v.good) (hf : v.fits = true) (x : Value) (w : World) (h : NvV w v x) : Calls Tryz.prog 16 #[x] w fun e w' => e = .returned (.string (str v.bytes)) ∧ Step noF w w' := by
  obtain ⟨ia, ka, pa, a, ic, kc, pc, c, rfl, ⟨h2, h3⟩, ⟨h4, h5, h6⟩, ⟨h7, h8, h9⟩, h10, h11⟩ := h
  cases v using Nv.two with
  | leaf xs =>
    obtain ⟨f1, f2⟩ := fits_its xs hg hf
    exact refBytesL_any xs f2 f1 ia ka pa a ic kc pc c w h2
  | inn d => exact refBytesI_any d (fits_small d hg hf) ia ka pa a ic kc pc c w h4 h7 h10
end Go.Proofs.YtoobelcphcndoaaGreat
