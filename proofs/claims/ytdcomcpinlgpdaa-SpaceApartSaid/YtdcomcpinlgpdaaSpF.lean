/-
  What Text and Parse do; Same.
-/
import Derived.Test.YtdcomcpinlgpdaaSpTextR
import Derived.Test.YtdcomcpinlgpdaaSpParseR
import Derived.Laws.BitsAllLaws
namespace Go.Proofs.Ytdcomcpinlgpdaa
open Go.RowKit
set_option linter.unusedVariables false

theorem info_u8s : (Try.prog.info? 5).map (fun i => (i.zero, i.size, i.bytes)) = some (some (.int .u8 0), 1, 1) := by kernel_rfl
theorem mk_u8s (n : Nat) (h8 : n ≤ 1000) (u : World) : (Instr.makeSlice 62 (.int .i64 n) (.int .i64 n)).run Try.prog u =
      .ok (.slice (some ⟨u.heap.size, 0, none⟩) n n) (u.alloc (.cells (madeCells #[.int .u8 0] n) 5)) := by
  obtain ⟨i0, hi, hz0, hz1, hz2⟩ := info_three info_u8s
  have h := run_make (P := Try.prog) u 62 5 i0 (.int .u8 0) Try.underlying62 hi hz0 .i64 .i64 n n (by omega) (Int.le_refl _) (by rw [hz2]; omega) (by omega)
  simpa [hz1, Value.cells] using h
theorem cellsOf_at (l : List UInt8) (j : Nat) (h : j < (cellsOf l).length) : (cellsOf l)[j] = .int .u8 ((l[j]'(by simpa [cellsOf] using h)).toNat : Int) := by simp [cellsOf]
theorem cellsOf_set (l : List UInt8) (j : Nat) (b : UInt8) : (cellsOf l).set j (.int .u8 (b.toNat : Int)) = cellsOf (l.set j b) := by simp [cellsOf, List.map_set]
/-- A row of bytes in whole. -/
def BytesIn (w : World) (g : Nat) (bs : List UInt8) : Prop := ∃ A : Array Value, w.heap[g]? = some (.cells A 5 (0, 0)) ∧ A.toList = cellsOf bs
theorem BytesIn.row {w : World} {g : Nat} {bs : List UInt8} (h : BytesIn w g bs) : RowIn w g 5 (cellsOf bs) := by
  obtain ⟨A, h1, h2⟩ := h; exact ⟨A, [], h1, by rw [h2, List.append_nil]⟩
theorem BytesIn.step {w w' : World} {g : Nat} {bs : List UInt8} {F : Nat → Prop} (h : BytesIn w g bs) (hs : Step F w w') (hF : ¬ F g) : BytesIn w' g bs := by
  obtain ⟨A, h1, h2⟩ := h; exact ⟨A, (hs.block g (lt_of_block h1) hF).trans h1, h2⟩
theorem BytesIn.set {w : World} {g : Nat} {bs : List UInt8} (h : BytesIn w g bs) (j : Nat) (b : UInt8) (n : Int) (hn : n = (b.toNat : Int)) : BytesIn (w.setCell ⟨g, j, none⟩ (.int .u8 n)) g (bs.set j b) := by
  obtain ⟨A, h1, h2⟩ := h
  subst hn
  exact ⟨_, block_setCell h1 j _, by rw [Array.toList_setIfInBounds, h2, cellsOf_set]⟩
theorem bit_call (n : Nat) (h : n ≤ 1000) (y : Nat) (hy : bitN n = y) (w : World) : Calls Try.prog 30 #[.int .i64 n] w fun e w' => e = .returned (.int .u8 y) ∧ Step noF w w' := by
  subst hy
  refine (bit_any n h w).mono ?_
  rintro e w' ⟨rfl, rfl⟩
  exact ⟨rfl, Step.refl _ _⟩

set_option maxHeartbeats 4000000 in
theorem text_any (w : World) (p : Nat) (l : List Bool) (h : IsSp w p l) :
    Calls Try.prog 20 #[.pointer (some ⟨p, 0, none⟩)] w fun e w' => e = .returned (.string (str (textL l))) ∧ Step noF w w' := by
  have hl := h.2.1
  obtain ⟨m, hm⟩ : ∃ m, (l.length + 7) / 8 = m := ⟨_, rfl⟩
  have hm2 : m ≤ 100 := by omega
  have hlen := fun (u : World) hu => len_any u p l hu
  have hts := fun (u : World) => textSize_any l.length (by omega) u
  rw [hm] at hts
  have hmk := mk_u8s m (by omega)
  have HS := hid h
  have HM := hid hm
  clear h hm
  go_enter Try.func20, Try.ntmps20
  go_wp2_with fail
  refine (hlen _ HS.out).mono ?_
  rintro e w1 ⟨rfl, rfl⟩
  go_wp2_with fail
  refine (hts _).mono ?_
  rintro e w1 ⟨rfl, rfl⟩
  go_wp2_with fail
  refine (hlen _ (by exact HS.out.step ((Step.refl _ _).alloc _))).mono ?_
  rintro e w1 ⟨rfl, rfl⟩
  go_wp2_with fail
  go_loopw [4, 11] (fun _ i wr => ∃ j : Nat, j ≤ l.length ∧ i = .int .i64 j ∧ Step noF w wr ∧ BytesIn wr w.heap.size (bytesT l m j)) (fun _ i _ => l.length - (intOf i).toNat)
  case atStart =>
    refine ⟨0, Nat.zero_le _, rfl, (Step.refl _ _).alloc _, _, block_alloc_new _ _, ?_⟩
    rw [toList_madeCells_one, bytesT_zero]; simp [cellsOf]
  case round =>
    obtain ⟨j, hj, rfl, hst, hrow⟩ := hrel
    by_cases hjn : j < l.length
    · have hji : (j : Int) < (l.length : Int) := by omega
      have hr1 : hasL l (j : Int) = l.getD j false := hasL_nat l j
      cases hb : l.getD j false
      · have hT : Hid (bytesT l m (j + 1) = bytesT l m j) := bytesT_skip l m j hb
        have hc := has_call wr p l (HS.out.step hst) (j : Int) false (hr1.trans hb)
        clear hb hr1
        go_wp2_with fail
        refine hc.mono ?_
        rintro e w2 ⟨rfl, rfl⟩
        go_wp2_with fail
        go_roundw
        case rel => exact ⟨j + 1, by omega, int_eq (by omega), hst, by rw [hT.out]; exact hrow⟩
        case measure => simp [intOf]; omega
      · have hc := has_call wr p l (HS.out.step hst) (j : Int) true (hr1.trans hb)
        obtain ⟨q, hq⟩ : ∃ q, j / 8 = q := ⟨_, rfl⟩
        have hqm : q < m := by have := HM.out; omega
        obtain ⟨t1, t2, t3⟩ := bytesT_put l m j hb (by omega)
        rw [hq] at t1 t2 t3
        obtain ⟨x, hx⟩ : ∃ x, mk8 (fT l j q) = x := ⟨_, rfl⟩
        obtain ⟨y, hy⟩ : ∃ y, bitN j = y := ⟨_, rfl⟩
        rw [hx, hy] at t1 t2 t3
        have hcell := hrow.row.cell q (by rw [cellsOf_length, bytesT_len]; exact hqm)
        rw [cellsOf_at, bytesT_at, ofNat_mk8, hx] at hcell
        have hbit := fun (u : World) => bit_call j (by omega) y hy u
        have hq3 : (j : Int).tdiv 8 = (q : Int) := by rw [Int.tdiv_eq_ediv_of_nonneg (by omega)]; omega
        have hqw : IntKind.i64.wrap (q : Int) = (q : Int) := by simp [IntKind.wrap, IntKind.bits, IntKind.signed]; omega
        have hxl : x < 256 := by omega
        have hyl : y < 256 := by omega
        have hor : bits .or .u8 (x : Int) (y : Int) = ((x + y : Nat) : Int) := by rw [u8_or_nat x y hxl hyl, t2]
        have HT := hid t1
        have HT3 := hid t3
        have HO := hid hor
        have HQ := hid hq3
        have HW := hid hqw
        have hj9 : Hid ((j : Int) ≤ 1000) := by show _ ≤ _; omega
        have HC := hid hcell
        clear hb hr1 hx hy hq t1 t2 t3 hor hq3 hqw hxl hyl hcell
        go_wp2_with fail
        refine hc.mono ?_
        rintro e w2 ⟨rfl, rfl⟩
        go_wp2_with fail
        change Code.wp _ (Code.region 6 ((Try.f20.body.bind (regionOps 6)).getD #[]) true) _ _ _
        refine txr_go w.heap.size m j q x y (x + y) HW.out HQ.out hj9.out (by omega) hqm HO.out _ wr rfl rfl rfl ?_ ?_
        · intro u hu
          refine ⟨hu.after HC.out, hbit u, ⟨_, hu.after HC.out⟩, ?_⟩
          exact (hrow.step hu (fun x => x)).row.f q
        · intro u hu
          simp only [putAll, txrDl, txrVals]
          go_wp2_with fail
          go_roundw
          case rel =>
            refine ⟨j + 1, by omega, int_eq (by omega), (hst.trans hu).setCell (p := ⟨w.heap.size, q, none⟩) (.inr (Nat.le_refl _)) _, ?_⟩
            rw [HT.out]
            refine (hrow.step hu (fun x => x)).set q _ _ ?_
            rw [UInt8.toNat_ofNat']
            have := HT3.out
            omega
          case measure => simp [intOf]; omega
    · obtain rfl : j = l.length := by omega
      obtain ⟨A, ha1, ha2⟩ := id hrow
      have hs := run_string_row (P := Try.prog) wr 62 9 5 5 (0, 0) Try.underlying62 Try.underlying5 Try.underlying9 w.heap.size m m A _ ha1 ha2 (by rw [bytesT_len])
      clear ha1 ha2
      go_wp2_with fail
      go_ret
      exact ⟨ret_str (by rw [textL, HM.out]), hst⟩
set_option maxHeartbeats 1000000 in
theorem text_nil (w : World) : Calls Try.prog 20 #[.pointer none] w fun e w' => e = .returned (.string (str [])) ∧ Step noF w w' := by
  have hmk : ∀ u : World, (Instr.makeSlice 62 (.int .i64 0) (.int .i64 0)).run Try.prog u = .ok (.slice (some ⟨u.heap.size, 0, none⟩) 0 0) (u.alloc (.cells (madeCells #[.int .u8 0] 0) 5)) := mk_u8s 0 (by omega)
  have hts := fun (u : World) => textSize_any 0 (by omega) u
  go_enter Try.func20, Try.ntmps20
  go_wp2_with fail
  refine (len_nil _).mono ?_
  rintro e w1 ⟨rfl, rfl⟩
  go_wp2_with fail
  refine (hts _).mono ?_
  rintro e w1 ⟨rfl, rfl⟩
  go_wp2_with fail
  refine (len_nil _).mono ?_
  rintro e w1 ⟨rfl, rfl⟩
  go_wp2_with fail
  go_loopw [4, 11] (fun _ i wr => i = .int .i64 0 ∧ w.alloc (.cells (madeCells #[.int .u8 0] 0) 5) = wr) (fun _ i _ => 0)
  case atStart => exact ⟨rfl, rfl⟩
  case round =>
    obtain ⟨rfl, rfl⟩ := hrel
    have hs := run_string_row (P := Try.prog) (w.alloc (.cells (madeCells #[.int .u8 0] 0) 5)) 62 9 5 5 (0, 0) Try.underlying62 Try.underlying5 Try.underlying9 w.heap.size 0 0 _ [] (block_alloc_new _ _) (by rw [toList_madeCells_one]; rfl) rfl
    go_wp2_with fail
    go_ret
    exact ⟨rfl, (Step.refl _ _).alloc _⟩

set_option maxHeartbeats 1000000 in
theorem parse_none (z : Int) (T : ByteArray) (h : z < 1 ∨ 512 < z) (w : World) : Calls Try.prog 23 #[.int .i64 z, .string T] w fun e w' => e = .returned (.tuple #[.pointer none, .int .i64 1]) ∧ w = w' := by
  have hn := new_none z h w
  go_enter Try.func23, Try.ntmps23
  go_wp2_with fail
  refine hn.mono ?_
  rintro e w1 ⟨rfl, rfl⟩
  go_wp2_with fail
  go_ret2
  exact ⟨rfl, rfl⟩
set_option maxHeartbeats 1000000 in
theorem parse_len (z : Int) (n : Nat) (hz : z = n) (T : ByteArray) (h1 : 1 ≤ n) (h2 : n ≤ 512) (hl : T.size ≠ (n + 7) / 8) (hT : T.size ≤ 9223372036854775807) (w : World) : Calls Try.prog 23 #[.int .i64 z, .string T] w fun e w' => e = .returned (.tuple #[.pointer none, .int .i64 5]) ∧ Step noF w w' := by
  have hn := new_any z n hz h1 h2 w
  subst hz
  have hts := fun (u : World) => textSize_any n (by omega) u
  obtain ⟨m, hm⟩ : ∃ m, (n + 7) / 8 = m := ⟨_, rfl⟩
  rw [hm] at hts hl
  have hne : ((T.size : Int) == (m : Int)) = false := by simpa using fun e => hl (by omega)
  have hne2 : ((T.size : Int) != (m : Int)) = true := by simpa using fun e => hl (by omega)
  clear hm
  go_enter Try.func23, Try.ntmps23
  go_wp2_with fail
  refine hn.mono ?_
  rintro e w1 ⟨p, rfl, hp, s1, hs⟩
  go_wp2_with fail
  refine (hts _).mono ?_
  rintro e w2 ⟨rfl, rfl⟩
  go_wp2_with fail
  go_ret2
  exact ⟨rfl, s1⟩

/-- The bits of the first j blocks. -/
def parT (t : List UInt8) (n j : Nat) : List Bool := bitsL t j ++ List.replicate (n - j) false
theorem parT_len (t : List UInt8) (n j : Nat) (h : j ≤ n) : (parT t n j).length = n := by simp [parT, bitsL_len]; omega
theorem parT_step (t : List UInt8) (n j : Nat) (h : j < n) : parT t n (j + 1) = (parT t n j).set j (bitB (t.getD (j / 8) 0) j) := by
  unfold parT
  rw [List.set_append_right _ _ (by rw [bitsL_len]; exact Nat.le_refl _), bitsL_len, Nat.sub_self]
  rw [show n - j = (n - (j + 1)) + 1 by omega, List.replicate_succ, List.set_cons_zero]
  simp [bitsL, List.range_succ]

/-- What Parse answers. -/
def parseR (t : List UInt8) (n p : Nat) : Value := if textL (bitsL t n) = t then .tuple #[.pointer (some ⟨p, 0, none⟩), .int .i64 0] else .tuple #[.pointer none, .int .i64 5]
theorem parseR_ok {t : List UInt8} {n p : Nat} (h : textL (bitsL t n) = t) : parseR t n p = .tuple #[.pointer (some ⟨p, 0, none⟩), .int .i64 0] := if_pos h
theorem parseR_no {t : List UInt8} {n p : Nat} (h : ¬ textL (bitsL t n) = t) : parseR t n p = .tuple #[.pointer none, .int .i64 5] := if_neg h

set_option maxHeartbeats 4000000 in
theorem parse_go (z : Int) (n : Nat) (hz : z = n) (T : ByteArray) (h1 : 1 ≤ n) (h2 : n ≤ 512) (hl : T.size = (n + 7) / 8) (w : World) :
    Calls Try.prog 23 #[.int .i64 z, .string T] w fun e w' => ∃ p, w.heap.size ≤ p ∧ Step noF w w' ∧ IsSp w' p (bitsL T.data.toList n) ∧ e = .returned (parseR T.data.toList n p) := by
  have hn := new_raw z n hz h1 h2 w
  subst hz
  have hts := fun (u : World) => textSize_any n (by omega) u
  rw [← hl] at hts
  have HL := hid hl
  clear hl
  go_enter Try.func23, Try.ntmps23
  go_wp2_with fail
  refine hn.mono ?_
  rintro e w1 ⟨p, rfl, hp, s1, g, hgw, hs5, c, hs4, hs3⟩
  have H3 := hid hs3
  have H5 := hid hs5
  have hpg : ¬ p = g := fun e => hs5.ne hs3 ne_bool_space e.symm
  clear hs3 hs5
  go_wp2_with fail
  refine (hts _).mono ?_
  rintro e w2 ⟨rfl, rfl⟩
  go_wp2_with fail
  go_loopw [7, 18] (fun _ i wr => ∃ j : Nat, j ≤ n ∧ i = .int .i64 j ∧ Step (oneF g) w1 wr ∧ RowIn wr g 4 (bools (parT T.data.toList n j))) (fun _ i _ => n - (intOf i).toNat)
  case atStart => exact ⟨0, Nat.zero_le _, rfl, Step.refl _ _, H5.out⟩
  case round =>
    obtain ⟨j, hj, rfl, hst, hrow⟩ := hrel
    have hp3 := (hst.block p (lt_of_block H3.out) hpg).trans H3.out
    by_cases hjn : j < n
    · have hji : (j : Int) < (n : Int) := by omega
      obtain ⟨q, hq⟩ : ∃ q, j / 8 = q := ⟨_, rfl⟩
      have hqt : q < T.size := by have := HL.out; omega
      obtain ⟨x, hx⟩ : ∃ x, (T[q]).toNat = x := ⟨_, rfl⟩
      obtain ⟨y, hy⟩ : ∃ y, bitN j = y := ⟨_, rfl⟩
      have hgd : T.data.toList.getD q 0 = T[q] := by rw [getD_lt _ (by rw [list_len]; exact hqt)]; rfl
      have hbB : bitB (T.data.toList.getD (j / 8) 0) j = decide ((x &&& y) ≠ 0) := by rw [hq, hgd, bitB, hx, hy]
      have hxl : x < 256 := by rw [← hx]; exact (T[q]).toNat_lt
      have hyl : y < 256 := by rw [← hy]; exact bitN_lt j
      obtain ⟨zz, hzz⟩ : ∃ zz, x &&& y = zz := ⟨_, rfl⟩
      rw [hzz] at hbB
      have hand : Hid (bits .and .u8 (x : Int) (y : Int) = (zz : Int)) := by show _ = _; rw [u8_and_nat x y hxl hyl, hzz]
      have hbb : Hid (((zz : Int) != 0) = decide (zz ≠ 0)) := by
        show _ = _
        by_cases h0 : zz = 0
        · subst h0; rfl
        · simp [h0]
      have hq3 : Hid ((j : Int).tdiv 8 = (q : Int)) := by show _ = _; rw [Int.tdiv_eq_ediv_of_nonneg (by omega)]; omega
      have hqw : Hid (IntKind.i64.wrap (q : Int) = (q : Int)) := by show _ = _; simp [IntKind.wrap, IntKind.bits, IntKind.signed]; omega
      have hj9 : Hid ((j : Int) ≤ 1000) := by show _ ≤ _; omega
      have hbit := fun (u : World) => bit_call j (by omega) y hy u
      have HP : Hid (parT T.data.toList n (j + 1) = (parT T.data.toList n j).set j (decide (zz ≠ 0))) := by show _ = _; rw [parT_step _ _ _ hjn, hbB]
      have hcell := hrow.cell j (by rw [bools_length, parT_len _ _ _ hj]; exact hjn)
      have HC := hid hcell
      have HX := hid hx
      have H33 := hid hp3
      obtain ⟨b, hb⟩ : ∃ b, decide (zz ≠ 0) = b := ⟨_, rfl⟩
      rw [hb] at hbb HP
      clear hq hx hy hgd hbB hxl hyl hzz hcell hp3 hb
      go_wp2_with fail
      change Code.wp _ (Code.region 9 ((Try.f23.body.bind (regionOps 9)).getD #[]) true) _ _ _
      refine psr_go p g n c j q x y zz T b hqw.out hq3.out hj9.out hji hjn (by omega) hqt (fun _ => HX.out) hand.out hbb.out _ wr rfl rfl rfl rfl ?_ ?_
      · intro u hu
        exact ⟨sp_cell ((hu.block p (lt_of_block H33.out) (fun x => x)).trans H33.out), hbit u, ⟨_, hu.after HC.out⟩, (hrow.step hu (fun x => x)).f j⟩
      · intro u hu
        simp only [putAll, psrDl, psrVals]
        go_wp2_with fail
        go_roundw
        case rel =>
          refine ⟨j + 1, by omega, int_eq (by omega), (hst.trans hu.one).setOne _ _, ?_⟩
          rw [HP.out, ← bools_set]
          exact (hrow.step hu (fun x => x)).set j (by rw [bools_length, parT_len _ _ _ hj]; exact hjn) _
        case measure => simp [intOf]; omega
    · obtain rfl : j = n := by omega
      have hpe : parT T.data.toList j j = bitsL T.data.toList j := by unfold parT; simp
      rw [hpe] at hrow
      have hsp : IsSp wr p (bitsL T.data.toList j) := ⟨by rw [bitsL_len]; exact h1, by rw [bitsL_len]; exact h2, g, c, by rw [bitsL_len]; exact hp3, by rw [bitsL_len]; exact hs4, hrow⟩
      have htx := text_any wr p _ hsp
      have HS := hid hsp
      have HF : Hid (Step noF w wr) := (s1.then hst (fun i hi => .inr (by unfold oneF at hi; omega)))
      obtain ⟨L, hL⟩ : ∃ L, textL (bitsL T.data.toList j) = L := ⟨_, rfl⟩
      rw [hL] at htx
      have HLd := hid hL
      by_cases hLT : L = T.data.toList
      · have hstr : (str L).toList == T.toList := by rw [hLT, ← str_of]; simp
        have HE := hid hLT
        clear hrow hsp hp3 hpe hL hLT
        go_wp2_with fail
        refine htx.mono ?_
        rintro e w3 ⟨rfl, s3⟩
        go_wp2_with fail
        go_ret2
        exact ⟨p, hp, HF.out.trans s3, HS.out.step s3, by rw [parseR_ok (HLd.out.trans HE.out)]; rfl⟩
      · have hstr : ((str L).toList == T.toList) = false := by
          rw [beq_eq_false_iff_ne]
          intro e
          rw [ByteArray.toList_eq, ByteArray.toList_eq, str_list] at e
          exact hLT e
        have HE := hid hLT
        clear hrow hsp hp3 hpe hL hLT
        go_wp2_with fail
        refine htx.mono ?_
        rintro e w3 ⟨rfl, s3⟩
        go_wp2_with fail
        go_ret2
        exact ⟨p, hp, HF.out.trans s3, HS.out.step s3, by rw [parseR_no (fun e => HE.out (HLd.out.symm.trans e))]; rfl⟩

set_option maxHeartbeats 1000000 in
/-- slices.Equal of two rows of bools. -/
theorem equal_any (w : World) (g h c d : Nat) (l m : List Bool) (hg : RowIn w g 4 (bools l)) (hh : RowIn w h 4 (bools m)) (h1 : l.length ≤ 512) (h2 : m.length ≤ 512) :
    Calls Try.prog 31 #[.slice (some ⟨g, 0, none⟩) l.length c, .slice (some ⟨h, 0, none⟩) m.length d] w fun e w' => e = .returned (.bool (decide (l = m))) ∧ Step noF w w' := by
  by_cases hlm : l.length = m.length
  · have hle : ((l.length : Int) != (m.length : Int)) = false := by simp [hlm]
    have HLM := hid hlm
    rw [← hlm] at hle h2 ⊢
    go_enter Try.func31, Try.ntmps31
    go_wp2_with fail
    go_loopw [5, 13] (fun _ i wr => ∃ j : Nat, j ≤ l.length ∧ i = .int .i64 j ∧ Step noF w wr ∧ Hid (l.take j = m.take j)) (fun _ i _ => l.length - (intOf i).toNat)
    case atStart => exact ⟨0, Nat.zero_le _, rfl, Step.refl _ _, rfl⟩
    case round =>
      obtain ⟨j, hj, rfl, hst, heq⟩ := hrel
      by_cases hjn : j < l.length
      · have hji : (j : Int) < (l.length : Int) := by omega
        have hjm : j < m.length := by have := HLM.out; omega
        have y0 := hst.after (hg.cell j (by rw [bools_length]; exact hjn))
        have y1 := hst.after (hh.cell j (by rw [bools_length]; exact hjm))
        rw [bools_at] at y0 y1
        have hE : Hid ((l[j] == m[j]) = false → decide (l = m) = false) := fun hne => by
          rw [decide_eq_false_iff_not]
          rintro rfl
          simp at hne
        have hT : Hid ((l[j] == m[j]) = true → l.take (j + 1) = m.take (j + 1)) := fun he => by
          have he : l[j] = m[j] := by simpa using he
          rw [take_snoc' _ _ hjn, take_snoc' _ _ hjm, heq.out, he]
        obtain ⟨u, hu⟩ : ∃ u, l[j] = u := ⟨_, rfl⟩
        obtain ⟨v, hv⟩ : ∃ v, m[j] = v := ⟨_, rfl⟩
        rw [hu] at y0 hE hT
        rw [hv] at y1 hE hT
        clear hu hv
        cases huv : (u == v)
        · have HU := hid huv
          go_wp2_with fail
          go_quiet (fail)
          go_wp2_with fail
          go_ret
          exact ⟨ret_bool (hE.out HU.out).symm, hst.drewN _⟩
        · have HU := hid huv
          go_wp2_with fail
          go_quiet (fail)
          go_wp2_with fail
          go_roundw
          case rel => exact ⟨j + 1, by omega, int_eq (by omega), hst.drewN _, hT.out HU.out⟩
          case measure => simp [intOf]; omega
      · obtain rfl : j = l.length := by omega
        go_wp2_with fail
        go_ret
        refine ⟨ret_bool ?_, hst⟩
        have := heq.out
        rw [List.take_length, HLM.out, List.take_length] at this
        exact (decide_eq_true this).symm
  · have hle : ((l.length : Int) != (m.length : Int)) = true := by simpa using fun e => hlm (by omega)
    have HN : Hid (decide (l = m) = false) := by show _ = _; rw [decide_eq_false_iff_not]; rintro rfl; exact hlm rfl
    go_enter Try.func31, Try.ntmps31
    go_wp2_with fail
    go_ret
    exact ⟨ret_bool HN.out.symm, Step.refl _ _⟩
set_option maxHeartbeats 1000000 in
theorem same_any (w : World) (p q : Nat) (l m : List Bool) (hp : IsSp w p l) (hq : IsSp w q m) : Calls Try.prog 25 #[.pointer (some ⟨p, 0, none⟩), .pointer (some ⟨q, 0, none⟩)] w fun e w' => e = .returned (.bool (decide (l = m))) ∧ Step noF w w' := by
  obtain ⟨_, p2, g, c, p3, _, p5⟩ := hp
  obtain ⟨_, q2, h, d, q3, _, q5⟩ := hq
  have heq := fun (u : World) (hu : Step noF w u) => equal_any u g h c d l m (p5.step hu (fun x => x)) (q5.step hu (fun x => x)) p2 q2
  have c0 := sp_cell p3
  have c1 := sp_cell q3
  clear p3 p5 q3 q5
  go_enter Try.func25, Try.ntmps25
  go_wp2_with fail
  go_region_with (refine (heq _ (by exact (Step.refl _ _).drew)).mono ?_; rintro e w3 ⟨rfl, s3⟩)
  all_goals
    go_wp2_with fail
    go_ret
    exact ⟨rfl, s3.undrew⟩
set_option maxHeartbeats 1000000 in
theorem same_nil (w : World) : Calls Try.prog 25 #[.pointer none, .pointer none] w fun e w' => e = .returned (.bool true) ∧ w = w' := by
  go_enter Try.func25, Try.ntmps25
  go_wp2_with fail
  go_ret
  exact ⟨rfl, rfl⟩
set_option maxHeartbeats 1000000 in
theorem same_half (w : World) (p : Nat) : Calls Try.prog 25 #[.pointer (some ⟨p, 0, none⟩), .pointer none] w fun e w' => e = .returned (.bool false) ∧ w = w' := by
  go_enter Try.func25, Try.ntmps25
  go_wp2_with fail
  go_ret
  exact ⟨rfl, rfl⟩
end Go.Proofs.Ytdcomcpinlgpdaa
