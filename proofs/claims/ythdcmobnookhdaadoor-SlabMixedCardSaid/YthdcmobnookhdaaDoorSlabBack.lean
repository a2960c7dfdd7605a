/-
  The walk of the law SlabBack.
-/
import Derived.Test.YthdcmobnookhdaaDoorSlabAwake
import Derived.Test.YthdcmobnookhdaaDoorSlabTurn
import Derived.Test.YthdcmobnookhdaaDoorBytes
namespace Go.Proofs.YthdcmobnookhdaaDoor
open Go.RowKit
set_option linter.unusedVariables false

theorem mod_at (z : Int) (m : Nat) (hm : 0 < m) (hm2 : m ≤ 1000) : ∃ i : Nat, (IntKind.u64.wrap z).tmod (m : Int) = (i : Int) ∧ i < m := by
  have h0 := wrap_u64_nonneg z
  have e : (IntKind.u64.wrap z).tmod (m : Int) = (IntKind.u64.wrap z) % (m : Int) := Int.tmod_eq_emod_of_nonneg h0
  have l0 := Int.emod_nonneg (IntKind.u64.wrap z) (b := (m : Int)) (by omega)
  have l1 := Int.emod_lt_of_pos (IntKind.u64.wrap z) (b := (m : Int)) (by omega)
  refine ⟨((IntKind.u64.wrap z) % (m : Int)).toNat, ?_, by omega⟩
  rw [e]
  omega
theorem byte_of (n : Nat) (h : n < 256) : ∃ b : UInt8, b.toNat = n := ⟨UInt8.ofNat n, by simp [UInt8.toNat_ofNat']; omega⟩
theorem cells_set (l : List UInt8) (rest : List Value) (i : Nat) (v : UInt8) (h : i < l.length) : (cellsOf l ++ rest).set i (Value.int .u8 v.toNat) = cellsOf (l.set i v) ++ rest := by
  rw [List.set_append_left _ _ (by rw [cellsOf_length]; exact h)]
  simp [cellsOf, List.map_set]

/-- A byte turned. -/
theorem turn_of (l : List UInt8) (i : Nat) (h : i < l.length) (m : Nat) (hm : m < 256) (h0 : m ≠ 0) : ∃ v : UInt8, v ≠ l[i] ∧ bits .xor .u8 (l[i].toNat : Int) (m : Int) = (v.toNat : Int) := by
  obtain ⟨v, hv⟩ := byte_of (l[i].toNat ^^^ m) (Nat.xor_lt_two_pow (n := 8) l[i].toNat_lt hm)
  refine ⟨v, fun e => ?_, by rw [u8_xor_nat _ _ l[i].toNat_lt hm, hv]⟩
  rw [e] at hv
  apply h0
  have h2 : l[i].toNat ^^^ (l[i].toNat ^^^ m) = l[i].toNat ^^^ l[i].toNat := by rw [← hv]
  rw [← Nat.xor_assoc, Nat.xor_self, Nat.zero_xor] at h2
  exact h2

/-- '[]byte(s)', one of its bytes, and 'string' of it with that byte turned. -/
theorem turn_bytes (l : List UInt8) (i : Nat) (h : i < l.length) (v : UInt8) (w : World) : ∃ cap wc, (convert 9 40 (.string (str l))).run Tryd.prog w = .ok (.slice (some ⟨w.heap.size, 0, none⟩) l.length cap) wc ∧ Step noF w wc ∧
    wc.cell? ⟨w.heap.size, i, none⟩ = some (.int .u8 (l[i].toNat : Int)) ∧ wc.frozen? ⟨w.heap.size, i, none⟩ = false ∧
    (convert 40 9 (.slice (some ⟨w.heap.size, 0, none⟩) l.length cap)).run Tryd.prog (wc.setCell ⟨w.heap.size, i, none⟩ (.int .u8 v.toNat)) = .ok (.string (str (l.set i v))) (wc.setCell ⟨w.heap.size, i, none⟩ (.int .u8 v.toNat)) := by
  obtain ⟨cap, A, fz, wc, rest, hcv, sc, hblk, hA, hfz⟩ := conv_bytes (P := Tryd.prog) 9 40 5 Tryd.underlying9 Tryd.underlying40 Tryd.underlying5 (str l) w
  rw [str_size] at hcv hfz
  rw [str_list] at hA
  refine ⟨cap, wc, hcv, sc, ?_, hfz i h, ?_⟩
  · rw [cell_of_block hblk, ← Array.getElem?_toList, hA, List.getElem?_append_left (by rw [cellsOf_length]; exact h)]
    simp [cellsOf, List.getElem?_eq_getElem h]
  · refine run_string_pre (P := Tryd.prog) _ 40 9 5 5 fz Tryd.underlying40 Tryd.underlying5 Tryd.underlying9 w.heap.size cap l.length _ (l.set i v) rest (block_setCell hblk i _) ?_ (by rw [List.length_set])
    rw [Array.toList_setIfInBounds, hA, cells_set l rest i v h]

set_option maxHeartbeats 4000000 in
set_option maxRecDepth 100000 in
theorem back_on (s t : List UInt8) (n m z : Int) (by_ : Nat) (hby : by_ < 256) (w : World) (ht : Tabs w) (i k p : Nat) (hi : (IntKind.u64.wrap n).tmod 1000 = (i : Int)) (hk : (IntKind.u64.wrap m).tmod 1000 = (k : Int)) (hp : (IntKind.u64.wrap z).tmod 256 = (p : Int))
    (hil : i < 1000) (hkl : k < 1000) (hpl : p < 256) (a b c d o : List UInt8) (D : Bool) (q0 : ((str s).toList == (str t).toList) = D) (q1 : ((str a).toList == (str b).toList) = D) (q2 : ((str c).toList == (str d).toList) = D) (q3 : ((str o).toList == (str c).toList) = false)
    (LA : Hid (str (layS s) = str a ∧ layE s = 0)) (LB : Hid (str (layS t) = str b ∧ layE t = 0)) (LC : Hid (str (stmS (1 + (i : Int)) k s) = str c ∧ stmE (1 + (i : Int)) k s = 0)) (LD : Hid (str (stmS (1 + (i : Int)) k t) = str d ∧ stmE (1 + (i : Int)) k t = 0))
    (LO : Hid (str (stmS (1 + (i : Int)) ((k : Int) + 1) s) = str o ∧ stmE (1 + (i : Int)) ((k : Int) + 1) s = 0)) (LP : Hid (str (opS a) = str s ∧ opE a = 0)) (LR : Hid (raE c = 1 + (i : Int) ∧ raQ c = (k : Int) ∧ str (raS c) = str s ∧ raR c = 0))
    (HL : Hid (s.length ≤ 218 ∧ t.length ≤ 218 ∧ a.length = 256 ∧ c.length = 256)) (HTA : Hid (∀ (v : UInt8) (h : p < a.length), v ≠ a[p] → opE (a.set p v) ≠ 0)) (HTC : Hid (∀ (v : UInt8) (h : p < c.length), v ≠ c[p] → raR (c.set p v) ≠ 0)) :
    Calls Tryd.prog 5 #[.string (str s), .string (str t), .int .i64 n, .int .i64 m, .int .i64 z, .int .u8 by_] w fun e w' => e = .returned (.bool true) ∧ Step noF w w' := by
  have z1 := str_size s
  have z2 := str_size t
  have k1 : ¬ (218 : Int) < (s.length : Int) := by have := HL.out; omega
  have k2 : ¬ (218 : Int) < (t.length : Int) := by have := HL.out; omega
  have sa : (str a).size = 256 := by rw [str_size]; exact HL.out.2.2.1
  have sc : (str c).size = 256 := by rw [str_size]; exact HL.out.2.2.2
  have hkl2 : (k : Int) < 1000 := by omega
  have hil2 : (i : Int) < 1000 := by omega
  have hpl2 : (p : Int) < 256 := by omega
  clear hil hkl
  go_enter Tryd.func5, Tryd.ntmps5
  go_wp2_with (go_at_call 7; refine (awake_any _ ht).mono ?_; rintro e w1 ⟨rfl, s1⟩)
  have t1 := ht.step s1
  refine (lay_call s _ rfl (by have := HL.out; omega) _ t1 _ _ LA.out.1 LA.out.2).mono ?_
  rintro e w2 ⟨rfl, s2⟩
  have a2 := s1.trans s2
  have t2 := ht.step a2
  clear t1 s1 s2
  go_wp2_with fail
  refine (lay_call t _ rfl (by have := HL.out; omega) _ t2 _ _ LB.out.1 LB.out.2).mono ?_
  rintro e w3 ⟨rfl, s3⟩
  have a3 := a2.trans s3
  have t3 := ht.step a3
  clear t2 a2 s3
  go_wp2_with fail
  refine (stamp_call (1 + (i : Int)) k s _ rfl (by have := HL.out; omega) _ t3 _ _ LC.out.1 LC.out.2).mono ?_
  rintro e w4 ⟨rfl, s4⟩
  have a4 := a3.trans s4
  have t4 := ht.step a4
  clear t3 a3 s4
  go_wp2_with fail
  refine (stamp_call (1 + (i : Int)) k t _ rfl (by have := HL.out; omega) _ t4 _ _ LD.out.1 LD.out.2).mono ?_
  rintro e w5 ⟨rfl, s5⟩
  have a5 := a4.trans s5
  have t5 := ht.step a5
  clear t4 a4 s5
  go_wp2_with fail
  refine (stamp_call (1 + (i : Int)) ((k : Int) + 1) s _ rfl (by have := HL.out; omega) _ t5 _ _ LO.out.1 LO.out.2).mono ?_
  rintro e w6 ⟨rfl, s6⟩
  have a6 := a5.trans s6
  have t6 := ht.step a6
  clear t5 a5 s6
  go_wp2_with fail
  refine (open_call a _ rfl (by have := HL.out; omega) _ t6 _ _ LP.out.1 LP.out.2).mono ?_
  rintro e w7 ⟨rfl, s7⟩
  have a7 := a6.trans s7
  have t7 := ht.step a7
  clear t6 a6 s7
  go_wp2_with fail
  refine (read_call c _ rfl (by have := HL.out; omega) _ t7 _ _ _ _ LR.out.1 LR.out.2.1 LR.out.2.2.1 LR.out.2.2.2).mono ?_
  rintro e w8 ⟨rfl, s8⟩
  have a8 := a7.trans s8
  clear t7 a7 s8
  by_cases h0 : by_ = 0
  · subst h0
    go_wp2_with fail
    go_ret
    exact ⟨rfl, a8⟩
  · have h0' : ¬ (by_ : Int) = 0 := by omega
    have la : a.length = 256 := HL.out.2.2.1
    have lc : c.length = 256 := HL.out.2.2.2
    have pa : p < a.length := by omega
    have pc : p < c.length := by omega
    obtain ⟨v, hv, xv⟩ := turn_of a p pa by_ hby h0
    obtain ⟨u, hu, xu⟩ := turn_of c p pc by_ hby h0
    have HX1 := hid (HTA.out v pa hv)
    have HX2 := hid (HTC.out u pc hu)
    obtain ⟨av, hav⟩ : ∃ av, a[p] = av := ⟨_, rfl⟩
    obtain ⟨cv, hcv⟩ : ∃ cv, c[p] = cv := ⟨_, rfl⟩
    obtain ⟨cap, wc, f1, f2, f3, f4, f5⟩ := turn_bytes a p pa v w8
    rw [la] at f1 f5
    rw [hav] at f3 xv
    rw [hcv] at xu
    obtain ⟨g, hg⟩ : ∃ g, w8.heap.size = g := ⟨_, rfl⟩
    rw [hg] at f1 f3 f4 f5
    have HG := hid hg
    have LAC : Hid (a.length = 256 ∧ c.length = 256 ∧ c[p] = cv ∧ (a.set p v).length = 256 ∧ (c.set p u).length = 256) := ⟨la, lc, hcv, by rw [List.length_set, la], by rw [List.length_set, lc]⟩
    have HPC := hid pc
    have a9 : Step noF w (wc.setCell ⟨g, p, none⟩ (.int .u8 v.toNat)) := (a8.trans f2).setCell (p := ⟨g, p, none⟩) (.inr (by show _ ≤ g; rw [← hg]; exact a8.size)) _
    have t9 := ht.step a9
    clear la lc pa hv hu hav hcv hg h0 f2 HTA HTC q0 q1 q2 q3
    go_wp2_with fail
    obtain ⟨x1, hx1⟩ : ∃ x1, opE (a.set p v) = x1 := ⟨_, rfl⟩
    have n1 : ¬ x1 = 0 := by rw [← hx1]; exact HX1.out
    refine (open_call (a.set p v) _ rfl (by have := LAC.out; omega) _ t9 _ x1 rfl hx1).mono ?_
    rintro e w9 ⟨rfl, s9⟩
    have a10 := a9.trans s9
    clear hx1 s9 t9 a9 a8 f1 f3 f4 f5 xv
    obtain ⟨cap2, wc2, f1, f2, f3, f4, f5⟩ := turn_bytes c p HPC.out u w9
    rw [LAC.out.2.1] at f1 f5
    rw [LAC.out.2.2.1] at f3
    obtain ⟨g2, hg2⟩ : ∃ g, w9.heap.size = g := ⟨_, rfl⟩
    rw [hg2] at f1 f3 f4 f5
    have HG2 := hid hg2
    have a11 : Step noF w (wc2.setCell ⟨g2, p, none⟩ (.int .u8 u.toNat)) := (a10.trans f2).setCell (p := ⟨g2, p, none⟩) (.inr (by show _ ≤ g2; rw [← hg2]; exact a10.size)) _
    have t11 := ht.step a11
    clear hg2 f2 a10
    go_wp2_with fail
    obtain ⟨x2, hx2⟩ : ∃ x2, raR (c.set p u) = x2 := ⟨_, rfl⟩
    have n2 : ¬ x2 = 0 := by rw [← hx2]; exact HX2.out
    refine (read_call (c.set p u) _ rfl (by have := LAC.out; omega) _ t11 _ _ _ x2 rfl rfl rfl hx2).mono ?_
    rintro e w10 ⟨rfl, s10⟩
    have a12 := a11.trans s10
    clear hx2 s10 t11 a11 f1 f3 f4 f5 xu
    go_wp2_with fail
    go_ret
    exact ⟨ret_bool (by simp [n1, n2]), a12⟩

theorem back_in (s t : List UInt8) (hs : s.length ≤ 218) (ht0 : t.length ≤ 218) (n m z : Int) (by_ : Nat) (hby : by_ < 256) (w : World) (ht : Tabs w) :
    Calls Tryd.prog 5 #[.string (str s), .string (str t), .int .i64 n, .int .i64 m, .int .i64 z, .int .u8 by_] w fun e w' => e = .returned (.bool true) ∧ Step noF w w' := by
  have z1 := str_size s
  have z2 := str_size t
  have k1 : ¬ (218 : Int) < (s.length : Int) := by omega
  have k2 : ¬ (218 : Int) < (t.length : Int) := by omega
  obtain ⟨i, hi, hil⟩ := mod_at n 1000 (by omega) (by omega)
  obtain ⟨k, hk, hkl⟩ := mod_at m 1000 (by omega) (by omega)
  obtain ⟨p, hp, hpl⟩ := mod_at z 256 (by omega) (by omega)
  replace hi : (IntKind.u64.wrap n).tmod 1000 = (i : Int) := hi
  replace hk : (IntKind.u64.wrap m).tmod 1000 = (k : Int) := hk
  replace hp : (IntKind.u64.wrap z).tmod 256 = (p : Int) := hp
  have c1 : canS (1 + (i : Int)) (k : Int) = true := by simp only [canS, decide_eq_true_eq]; omega
  have c2 : canS (1 + (i : Int)) ((k : Int) + 1) = true := by simp only [canS, decide_eq_true_eq]; omega
  have c1' : canS ((1 + i : Nat) : Int) (k : Int) = true := by rw [← c1]; congr 1
  have c2' : canS ((1 + i : Nat) : Int) ((k + 1 : Nat) : Int) = true := by rw [← c2]; congr 1
  have B : ∀ (x : List UInt8) (q : Int) (q' : Nat), x.length ≤ 218 → canS (1 + (i : Int)) q = true → q = q' → stmS (1 + (i : Int)) q x = stp (1 + i) q' x ∧ stmE (1 + (i : Int)) q x = 0 := by
    intro x q q' hx hc hq
    subst hq
    have hB : stmB (1 + (i : Int)) q' x = true := by rw [stmB, hc]; simp [hx]
    refine ⟨?_, by rw [stmE, if_pos hB]⟩
    rw [stmS, if_pos hB]
    congr 1 <;> omega
  obtain ⟨a, ha⟩ : ∃ a, frm 256 s = a := ⟨_, rfl⟩
  obtain ⟨b, hb⟩ : ∃ b, frm 256 t = b := ⟨_, rfl⟩
  obtain ⟨c, hc⟩ : ∃ c, stp (1 + i) k s = c := ⟨_, rfl⟩
  obtain ⟨d, hd⟩ : ∃ d, stp (1 + i) k t = d := ⟨_, rfl⟩
  obtain ⟨o, ho⟩ : ∃ o, stp (1 + i) (k + 1) s = o := ⟨_, rfl⟩
  obtain ⟨D, hD⟩ : ∃ D, decide (s = t) = D := ⟨_, rfl⟩
  obtain ⟨R1, R2, R3, R4⟩ := read_stp hs c1'
  obtain ⟨S1, S2, S3, S4⟩ := read_stp ht0 c1'
  obtain ⟨T1, T2, T3, T4⟩ := read_stp hs c2'
  have hal : a.length = 256 := by rw [← ha]; exact frm_length (by omega)
  have hcl : c.length = 256 := by rw [← hc]; exact stp_length hs
  have q0 : ((str s).toList == (str t).toList) = D := by rw [str_beq, hD]
  have q1 : ((str a).toList == (str b).toList) = D := by
    rw [str_beq, ← hD, ← ha, ← hb]
    exact decide_eq_decide.2 ⟨fun h => frm_inj (by omega) (by omega) (by omega) h, fun h => by rw [h]⟩
  have q2 : ((str c).toList == (str d).toList) = D := by
    rw [str_beq, ← hD, ← hc, ← hd]
    exact decide_eq_decide.2 ⟨fun h => by rw [← R2, h, S2], fun h => by rw [h]⟩
  have q3 : ((str o).toList == (str c).toList) = false := by
    rw [str_beq, ← ho, ← hc, decide_eq_false_iff_not]
    intro h
    rw [h, R4] at T4
    omega
  rw [hc] at R1 R2 R3 R4
  obtain ⟨U1, U2, U3, U4⟩ := raAll hcl
  have LA : Hid (str (layS s) = str a ∧ layE s = 0) := ⟨by rw [layS, if_pos (by omega), ha], if_pos (by omega)⟩
  have LB : Hid (str (layS t) = str b ∧ layE t = 0) := ⟨by rw [layS, if_pos (by omega), hb], if_pos (by omega)⟩
  have LC : Hid (str (stmS (1 + (i : Int)) k s) = str c ∧ stmE (1 + (i : Int)) k s = 0) := by
    have := B s k k hs c1 rfl
    exact ⟨by rw [this.1, hc], this.2⟩
  have LD : Hid (str (stmS (1 + (i : Int)) k t) = str d ∧ stmE (1 + (i : Int)) k t = 0) := by
    have := B t k k ht0 c1 rfl
    exact ⟨by rw [this.1, hd], this.2⟩
  have LO : Hid (str (stmS (1 + (i : Int)) ((k : Int) + 1) s) = str o ∧ stmE (1 + (i : Int)) ((k : Int) + 1) s = 0) := by
    have := B s ((k : Int) + 1) (k + 1) hs c2 (by omega)
    exact ⟨by rw [this.1, ho], this.2⟩
  have PA := opAll (s := s) (by omega)
  rw [ha] at PA
  have LP : Hid (str (opS a) = str s ∧ opE a = 0) := ⟨by rw [PA.2], PA.1⟩
  have LR : Hid (raE c = 1 + (i : Int) ∧ raQ c = (k : Int) ∧ str (raS c) = str s ∧ raR c = 0) := ⟨by rw [U1, R3]; omega, by rw [U2, R4], by rw [U3, R2], by rw [U4, R1]⟩
  have HL : Hid (s.length ≤ 218 ∧ t.length ≤ 218 ∧ a.length = 256 ∧ c.length = 256) := ⟨hs, ht0, hal, hcl⟩
  have HTA : Hid (∀ (v : UInt8) (h : p < a.length), v ≠ a[p] → opE (a.set p v) ≠ 0) := by
    intro v h hv
    subst ha
    rw [opE, if_pos (by rw [List.length_set, hal])]
    exact plain_turned (by omega) p h v hv
  have HTC : Hid (∀ (v : UInt8) (h : p < c.length), v ≠ c[p] → raR (c.set p v) ≠ 0) := by
    intro v h hv
    subst hc
    rw [raR, if_pos (by rw [List.length_set, hcl])]
    exact stamped_turned hs c1' p h v hv
  exact back_on s t n m z by_ hby w ht i k p hi hk hp hil hkl hpl a b c d o D q0 q1 q2 q3 LA LB LC LD LO LP LR HL HTA HTC

set_option maxHeartbeats 2000000 in
set_option maxRecDepth 100000 in
theorem back_walk (s t : List UInt8) (hs : s.length ≤ 9223372036854775807) (ht0 : t.length ≤ 9223372036854775807) (n m z : Int) (by_ : Nat) (hby : by_ < 256) (w : World) (ht : Tabs w) :
    Calls Tryd.prog 5 #[.string (str s), .string (str t), .int .i64 n, .int .i64 m, .int .i64 z, .int .u8 by_] w fun e w' => e = .returned (.bool true) ∧ Step noF w w' := by
  have z1 := str_size s
  have z2 := str_size t
  by_cases h1 : 218 < s.length
  · have k1 : (218 : Int) < (s.length : Int) := by omega
    clear h1
    go_enter Tryd.func5, Tryd.ntmps5
    go_wp2_with (go_at_call 7; refine (awake_any _ ht).mono ?_; rintro e w1 ⟨rfl, s1⟩)
    go_ret
    exact ⟨rfl, s1⟩
  · by_cases h2 : 218 < t.length
    · have k1 : ¬ (218 : Int) < (s.length : Int) := by omega
      have k2 : (218 : Int) < (t.length : Int) := by omega
      clear h1 h2
      go_enter Tryd.func5, Tryd.ntmps5
      go_wp2_with (go_at_call 7; refine (awake_any _ ht).mono ?_; rintro e w1 ⟨rfl, s1⟩)
      go_ret
      exact ⟨rfl, s1⟩
    · exact back_in s t (by omega) (by omega) n m z by_ hby w ht
end Go.Proofs.YthdcmobnookhdaaDoor
