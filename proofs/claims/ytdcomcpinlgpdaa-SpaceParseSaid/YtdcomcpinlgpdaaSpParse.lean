/-
  The walk of the law SpaceParse.
-/
import Derived.Test.YtdcomcpinlgpdaaSpAwake
import Derived.Test.YtdcomcpinlgpdaaSpRefC
namespace Go.Proofs.Ytdcomcpinlgpdaa
open Go.RowKit
set_option linter.unusedVariables false

/-- What Parse says of bytes of the right length. -/
def Says (t : List UInt8) (n p : Nat) (pv : Option Addr) (ev : Int) : Prop := (textL (bitsL t n) = t ∧ pv = some ⟨p, 0, none⟩ ∧ ev = 0) ∨ (¬ textL (bitsL t n) = t ∧ pv = none ∧ ev = 5)
theorem parse_both (z : Int) (n : Nat) (hz : z = n) (T : ByteArray) (h1 : 1 ≤ n) (h2 : n ≤ 512) (hl : T.size = (n + 7) / 8) (w : World) :
    Calls Try.prog 23 #[.int .i64 z, .string T] w fun e w' => ∃ p pv ev, e = .returned (.tuple #[.pointer pv, .int .i64 ev]) ∧ w.heap.size ≤ p ∧ Step noF w w' ∧ IsSp w' p (bitsL T.data.toList n) ∧ Says T.data.toList n p pv ev := by
  refine (parse_go z n hz T h1 h2 hl w).mono ?_
  rintro e w' ⟨p, hp, hs, hsp, rfl⟩
  by_cases h : textL (bitsL T.data.toList n) = T.data.toList
  · exact ⟨p, some ⟨p, 0, none⟩, 0, by rw [parseR_ok h], hp, hs, hsp, .inl ⟨h, rfl, rfl⟩⟩
  · exact ⟨p, none, 5, by rw [parseR_no h], hp, hs, hsp, .inr ⟨h, rfl, rfl⟩⟩

set_option maxHeartbeats 1000000 in
set_option maxRecDepth 100000 in
theorem parse_out (n : Int) (T : ByteArray) (hT : T.size ≤ 70) (hn : n < 1 ∨ 512 < n) (w : World) : Calls Try.prog 4 #[.int .i64 n, .string T] w fun e w' => e = .returned (.bool true) ∧ Step noF w w' := by
  have k1 : ¬ (70 : Int) < (T.size : Int) := by omega
  have hp := fun u => parse_none n T hn u
  by_cases h1 : n < 1
  · go_enter Try.func4, Try.ntmps4
    go_wp2_with fail
    refine (awake_any _).mono ?_
    rintro e w1 ⟨rfl, s1⟩
    go_wp2_with fail
    refine (hp _).mono ?_
    rintro e w2 ⟨rfl, rfl⟩
    go_wp2_with fail
    go_ret
    exact ⟨rfl, s1⟩
  · have h2 : 512 < n := by omega
    go_enter Try.func4, Try.ntmps4
    go_wp2_with fail
    refine (awake_any _).mono ?_
    rintro e w1 ⟨rfl, s1⟩
    go_wp2_with fail
    refine (hp _).mono ?_
    rintro e w2 ⟨rfl, rfl⟩
    go_wp2_with fail
    go_ret
    exact ⟨rfl, s1⟩
set_option maxHeartbeats 1000000 in
set_option maxRecDepth 100000 in
theorem parse_size (z : Int) (n : Nat) (hz : z = n) (h1 : 1 ≤ n) (h2 : n ≤ 512) (T : ByteArray) (hT : T.size ≤ 70) (hl : T.size ≠ (n + 7) / 8) (w : World) : Calls Try.prog 4 #[.int .i64 z, .string T] w fun e w' => e = .returned (.bool true) ∧ Step noF w w' := by
  have k1 : ¬ (70 : Int) < (T.size : Int) := by omega
  have hp := fun u => parse_len z n hz T h1 h2 hl (by omega) u
  subst hz
  have hmk := mk_bools n (by omega)
  have g1 : ¬ (n : Int) < 1 := by omega
  have g2 : ¬ (512 : Int) < (n : Int) := by omega
  obtain ⟨m, hm⟩ : ∃ m, (n + 7) / 8 = m := ⟨_, rfl⟩
  have hd1 : ((n : Int) + 7).tdiv 8 = (m : Int) := by rw [Int.tdiv_eq_ediv_of_nonneg (by omega)]; omega
  have hd2 : ((n : Int) + 7) / 8 = (m : Int) := by omega
  have hne : ((T.size : Int) == (m : Int)) = false := by simp; omega
  have hm9 : m ≤ 100 := by omega
  clear hm hl
  go_enter Try.func4, Try.ntmps4
  go_wp2_with fail
  refine (awake_any _).mono ?_
  rintro e w1 ⟨rfl, s1⟩
  go_wp2_with fail
  refine (hp _).mono ?_
  rintro e w2 ⟨rfl, s2⟩
  go_wp2_with fail
  have S3 := (s1.trans s2).alloc (.cells (madeCells #[.bool false] n) 4)
  go_loopw [8, 9, 10] (fun g i _ wr => g = .bool false ∧ i = .int .i64 0 ∧ w2.alloc (.cells (madeCells #[.bool false] n) 4) = wr) (fun _ i _ _ => 0)
  case atStart => exact ⟨rfl, rfl, rfl⟩
  case round =>
    obtain ⟨rfl, rfl, rfl⟩ := hrel
    go_wp2_with fail
    all_goals
      go_ret
      exact ⟨rfl, S3⟩

/-- What the law's loop has found. -/
def Good (t : List UInt8) (n j : Nat) (g : Bool) : Prop := if g then ∀ i, n ≤ i → i < j → bitB (t.getD (i / 8) 0) i = false else ∃ i, n ≤ i ∧ i < 8 * t.length ∧ bitB (t.getD (i / 8) 0) i = true

set_option maxHeartbeats 4000000 in
set_option maxRecDepth 100000 in
theorem parse_in (z : Int) (n : Nat) (hz : z = n) (h1 : 1 ≤ n) (h2 : n ≤ 512) (T : ByteArray) (hl : T.size = (n + 7) / 8) (w : World) : Calls Try.prog 4 #[.int .i64 z, .string T] w fun e w' => e = .returned (.bool true) ∧ Step noF w w' := by
  have hT : T.size ≤ 70 := by omega
  have k1 : ¬ (70 : Int) < (T.size : Int) := by omega
  have hp := fun u => parse_both z n hz T h1 h2 hl u
  subst hz
  have hmk := mk_bools n (by omega)
  have g1 : ¬ (n : Int) < 1 := by omega
  have g2 : ¬ (512 : Int) < (n : Int) := by omega
  have hd1 : ((n : Int) + 7).tdiv 8 = (T.size : Int) := by rw [Int.tdiv_eq_ediv_of_nonneg (by omega)]; omega
  have hd2 : ((n : Int) + 7) / 8 = (T.size : Int) := by omega
  obtain ⟨M, hM⟩ : ∃ M, 8 * T.size = M := ⟨_, rfl⟩
  have hM1 : (8 : Int) * (T.size : Int) = (M : Int) := by omega
  have hM2 : n ≤ M ∧ M ≤ 600 := by omega
  have HL := hid hl
  have HM := hid hM
  clear hl hM
  go_enter Try.func4, Try.ntmps4
  go_wp2_with fail
  refine (awake_any _).mono ?_
  rintro e w1 ⟨rfl, s1⟩
  go_wp2_with fail
  refine (hp _).mono ?_
  rintro e w2 ⟨p, pv, ev, rfl, hpw, s2, hsp, hsay⟩
  have HSY := hid hsay
  have HSP := hid hsp
  clear hsay hsp
  go_wp2_with fail
  go_loopw [8, 9, 10] (fun g i _ wr => ∃ (j : Nat) (b : Bool), j ≤ M ∧ i = .int .i64 j ∧ g = .bool b ∧ Step noF w2 wr ∧ Hid (Good T.data.toList n j b) ∧ RowIn wr w2.heap.size 4 (bools (parT T.data.toList n (min j n)))) (fun _ i _ _ => M - (intOf i).toNat)
  case atStart => 
    refine ⟨0, true, Nat.zero_le _, rfl, rfl, (Step.refl _ _).alloc _, fun i _ h => by omega, ?_⟩
    rw [Nat.zero_min]
    exact made_bools w2 n
  case round =>
    obtain ⟨j, b, hj, rfl, rfl, hst, hG, hrow⟩ := hrel
    cases b
    · have hno : ¬ textL (bitsL T.data.toList n) = T.data.toList := fun e => by
        obtain ⟨i, i1, i2, i3⟩ := hG.out
        have := (text_bits _ n (by rw [list_len]; exact HL.out)).1 e i i1 i2
        rw [i3] at this
        cases this
      rcases HSY.out with ⟨hok, _, _⟩ | ⟨_, rfl, rfl⟩
      · exact absurd hok hno
      · clear hno
        by_cases hjM : (j : Int) < (M : Int)
        · go_wp2_with fail
          go_ret
          exact ⟨rfl, (s1.trans s2).trans hst⟩
        · have hjM2 : decide ((j : Int) < (M : Int)) = false := by simpa using hjM
          go_wp2_with fail
          go_ret
          exact ⟨rfl, (s1.trans s2).trans hst⟩
    · by_cases hjM : j < M
      · have hji : (j : Int) < (M : Int) := by omega
        obtain ⟨q, hq⟩ : ∃ q, j / 8 = q := ⟨_, rfl⟩
        obtain ⟨r, hr⟩ : ∃ r, j % 8 = r := ⟨_, rfl⟩
        have hq3 : (j : Int).tdiv 8 = (q : Int) := by rw [Int.tdiv_eq_ediv_of_nonneg (by omega)]; omega
        have hr3 : (j : Int).tmod 8 = (r : Int) := by rw [Int.tmod_eq_emod_of_nonneg (by omega)]; omega
        have hqt : q < T.size := by have := HM.out; omega
        have hqt2 : (q : Int) < (T.size : Int) := by omega
        obtain ⟨s, hs⟩ : ∃ s, 7 - r = s := ⟨_, rfl⟩
        have hs3 : (7 : Int) - (r : Int) = (s : Int) := by omega
        obtain ⟨x, hx⟩ : ∃ x, (T[q]).toNat = x := ⟨_, rfl⟩
        have hgd : T.data.toList.getD q 0 = T[q] := by rw [getD_lt _ (by rw [list_len]; exact hqt)]; rfl
        have hxl : x < 256 := by rw [← hx]; exact (T[q]).toNat_lt
        have hbit : bitB (T.data.toList.getD (j / 8) 0) j = decide (((x / 2 ^ s) &&& 1) = 1) := by
          rw [hq, hgd, ← bitB_mod, hr, ← shiftB _ r (by omega), hx, hs]
        obtain ⟨y, hy⟩ : ∃ y, x / 2 ^ s = y := ⟨_, rfl⟩
        have hy1 : (x : Int) / 2 ^ s = (y : Int) := by rw [← hy]; simp
        have hyl : y < 256 := by rw [← hy]; exact Nat.lt_of_le_of_lt (Nat.div_le_self _ _) hxl
        obtain ⟨B, hB⟩ : ∃ B, bitB (T.data.toList.getD (j / 8) 0) j = B := ⟨_, rfl⟩
        have hBB : Hid ((bits BinOp.and IntKind.u8 (y : Int) 1 == 1) = B) := by
          show _ = _
          have hand := u8_and_nat y 1 hyl (by decide)
          rw [show ((1 : Nat) : Int) = 1 from rfl] at hand
          rw [hand, ← hB, hbit, hy]
          by_cases h0 : y &&& 1 = 1
          · rw [h0]; rfl
          · rw [decide_eq_false h0, beq_eq_false_iff_ne]; omega
        have HBB := hid hB
        by_cases hjn : j < n
        · have hjn2 : (j : Int) < (n : Int) := by omega
          have hd : decide ((n : Int) ≤ (j : Int)) = false := by simp; omega
          have hP : Hid (parT T.data.toList n (min (j + 1) n) = (parT T.data.toList n (min j n)).set j B) := by
            show _ = _
            rw [Nat.min_eq_left (by omega), Nat.min_eq_left (by omega), parT_step _ _ _ hjn, hB]
          have hpl : j < (bools (parT T.data.toList n (min j n))).length := by rw [bools_length, parT_len _ _ _ (by omega)]; exact hjn
          obtain ⟨cv, hcell⟩ : ∃ cv, wr.cell? ⟨w2.heap.size, j, none⟩ = some cv := ⟨_, hrow.cell j hpl⟩
          have hfz := hrow.f j
          have HPL := hid hpl
          clear hq hr hs hgd hbit hy hB hpl
          go_wp2_with fail
          go_roundw
          case rel =>
            refine ⟨j + 1, true, by omega, int_eq (by omega), rfl, ?_, fun i i1 i2 => by omega, ?_⟩
            · exact hst.setCell (p := ⟨w2.heap.size, j, none⟩) (.inr (Nat.le_refl _)) _
            · rw [hP.out, ← bools_set, ← hBB.out]
              exact hrow.set j HPL.out _
          case measure => simp [intOf]; omega
        · have hjn2 : ¬ (j : Int) < (n : Int) := by omega
          have hd : decide ((n : Int) ≤ (j : Int)) = true := by simp; omega
          have hP : Hid (parT T.data.toList n (min (j + 1) n) = parT T.data.toList n (min j n)) := by
            show _ = _
            rw [Nat.min_eq_right (by omega), Nat.min_eq_right (by omega)]
          clear hq hr hs hgd hbit hy hB
          go_wp2_with fail
          go_roundw
          case rel =>
            refine ⟨j + 1, !B, by omega, int_eq (by omega), by rw [hBB.out], hst, ?_, by rw [hP.out]; exact hrow⟩
            cases B
            · intro i i1 i2
              by_cases hij : i = j
              · subst hij; exact HBB.out
              · exact hG.out i i1 (by omega)
            · exact ⟨j, by omega, by rw [list_len]; have := HM.out; omega, HBB.out⟩
          case measure => simp [intOf]; omega
      · obtain rfl : j = M := by omega
        have hok : textL (bitsL T.data.toList n) = T.data.toList := (text_bits _ n (by rw [list_len]; exact HL.out)).2 (fun i i1 i2 => hG.out i i1 (by rw [list_len] at i2; have := HM.out; omega))
        rcases HSY.out with ⟨_, rfl, rfl⟩ | ⟨hno, _, _⟩
        · rw [Nat.min_eq_right (by omega)] at hrow
          have hpe : parT T.data.toList n n = bitsL T.data.toList n := by unfold parT; simp
          rw [hpe] at hrow
          obtain ⟨l, hl⟩ : ∃ l, bitsL T.data.toList n = l := ⟨_, rfl⟩
          have hln : l.length = n := by rw [← hl]; exact bitsL_len _ _
          have hir : IsRow wr (.slice (some ⟨w2.heap.size, 0, none⟩) n n) l := ⟨by omega, by omega, w2.heap.size, n, by rw [hln], by omega, by rw [← hl]; exact hrow⟩
          have hsp : IsSp wr p l := by rw [← hl]; exact HSP.out.step hst
          have htx : str (textL l) = T := by rw [← hl, hok, ← str_of]
          have hrl : (rowL l).length ≤ 1000 := by have := (rowL_ok l).len; omega
          have HTX := hid htx
          have HLN := hid hln
          clear hrow hpe hok hl htx hln hG
          go_wp2_with fail
          refine (row_any _ p l hsp).mono ?_
          rintro e w3 ⟨ra, rc, rfl, hrc, hx3, s3⟩
          go_wp2_with fail
          refine (refRow_any _ _ l (hir.step s3)).mono ?_
          rintro e w4 ⟨rb, rd, rfl, hrd, hx4, s4⟩
          go_wp2_with fail
          refine (sameX_any _ _ _ _ _ (rowL l) (hx3.step s4) hx4 hrl).mono ?_
          rintro e w5 ⟨rfl, s5⟩
          have hsp5 := ((hsp.step s3).step s4).step s5
          go_wp2_with fail
          refine (text_call _ p l hsp5 T HTX.out).mono ?_
          rintro e w6 ⟨rfl, s6⟩
          go_wp2_with fail
          refine (len_call _ p l (hsp5.step s6) n HLN.out).mono ?_
          rintro e w7 ⟨rfl, s7⟩
          go_wp2_with fail
          go_ret
          exact ⟨rfl, ((((((s1.trans s2).trans hst).trans s3).trans s4).trans s5).trans s6).trans s7⟩
        · exact absurd hok hno

set_option maxHeartbeats 1000000 in
set_option maxRecDepth 100000 in
theorem parse_walk (n : Int) (T : ByteArray) (hT : T.size ≤ 9223372036854775807) (w : World) : Calls Try.prog 4 #[.int .i64 n, .string T] w fun e w' => e = .returned (.bool true) ∧ Step noF w w' := by
  by_cases h70 : T.size ≤ 70
  · by_cases hn : n < 1 ∨ 512 < n
    · exact parse_out n T h70 hn w
    · obtain ⟨k, hk⟩ := Int.eq_ofNat_of_zero_le (show 0 ≤ n by omega)
      by_cases hl : T.size = (k + 7) / 8
      · exact parse_in n k hk (by omega) (by omega) T hl w
      · exact parse_size n k hk (by omega) (by omega) T h70 hl w
  · have k1 : (70 : Int) < (T.size : Int) := by omega
    clear h70
    go_enter Try.func4, Try.ntmps4
    go_wp2_with fail
    refine (awake_any _).mono ?_
    rintro e w1 ⟨rfl, s1⟩
    go_wp2_with fail
    go_ret
    exact ⟨rfl, s1⟩
end Go.Proofs.Ytdcomcpinlgpdaa
