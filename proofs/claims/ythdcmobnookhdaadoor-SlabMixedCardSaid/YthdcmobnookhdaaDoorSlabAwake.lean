/-
  'awake' (of the statements of layer 4) answers true.
-/
import Derived.Test.YthdcmobnookhdaaDoorSlabC
namespace Go.Proofs.YthdcmobnookhdaaDoor
open Go.RowKit
set_option linter.unusedVariables false

theorem lay_call (s : List UInt8) (S : ByteArray) (hS : str s = S) (hs : s.length ≤ 9223372036854775807) (w : World) (ht : Tabs w) (X : ByteArray) (e : Int) (h1 : str (layS s) = X) (h2 : layE s = e) :
    Calls Tryd.prog 8 #[.string S] w fun r w' => r = .returned (.tuple #[.string X, .int .i64 e]) ∧ Step noF w w' := by
  subst hS h1 h2; exact lay_any s hs w ht
theorem open_call (b : List UInt8) (S : ByteArray) (hS : str b = S) (hs : b.length ≤ 9223372036854775807) (w : World) (ht : Tabs w) (X : ByteArray) (e : Int) (h1 : str (opS b) = X) (h2 : opE b = e) :
    Calls Tryd.prog 10 #[.string S] w fun r w' => r = .returned (.tuple #[.string X, .int .i64 e]) ∧ Step noF w w' := by
  subst hS h1 h2; exact open_any b hs w ht
theorem stamp_call (e q : Int) (s : List UInt8) (S : ByteArray) (hS : str s = S) (hs : s.length ≤ 9223372036854775807) (w : World) (ht : Tabs w) (X : ByteArray) (x : Int) (h1 : str (stmS e q s) = X) (h2 : stmE e q s = x) :
    Calls Tryd.prog 12 #[.int .i64 e, .int .i64 q, .string S] w fun r w' => r = .returned (.tuple #[.string X, .int .i64 x]) ∧ Step noF w w' := by
  subst hS h1 h2; exact stamp_any e q s hs w ht
theorem read_call (b : List UInt8) (S : ByteArray) (hS : str b = S) (hs : b.length ≤ 9223372036854775807) (w : World) (ht : Tabs w) (e q : Int) (X : ByteArray) (x : Int) (h1 : raE b = e) (h2 : raQ b = q) (h3 : str (raS b) = X) (h4 : raR b = x) :
    Calls Tryd.prog 14 #[.string S] w fun r w' => r = .returned (.tuple #[.int .i64 e, .int .i64 q, .string X, .int .i64 x]) ∧ Step noF w w' := by
  subst hS h1 h2 h3 h4; exact read_any b hs w ht
theorem blank_call (b : List UInt8) (S : ByteArray) (hS : str b = S) (w : World) (r : Bool) (hr : decide (b = zs 256) = r) :
    Calls Tryd.prog 15 #[.string S] w fun e w' => e = .returned (.bool r) ∧ Step noF w w' := by
  subst hS hr; exact blank_any b w

theorem opAll {s : List UInt8} (hs : s.length ≤ 250) : opE (frm 256 s) = 0 ∧ opS (frm 256 s) = s := by
  have hl : (frm 256 s).length = 256 := frm_length (by omega)
  exact ⟨by rw [opE, if_pos hl]; exact unfE_frm (by omega) (by omega), by rw [opS, if_pos hl]; exact unfS_frm (by omega) (by omega)⟩

/-- 'string(make([]byte, n))'. -/
theorem made_zs (n : Nat) : (madeCells #[.int .u8 0] n).toList = cellsOf (zs n) := by
  rw [toList_madeCells_one]; simp [cellsOf, zs]
theorem made (n : Nat) (hn : n ≤ 1000) : ∃ A : Array Value, (∀ u : World, (Instr.makeSlice 40 (.int .i64 n) (.int .i64 n)).run Tryd.prog u = .ok (.slice (some ⟨u.heap.size, 0, none⟩) n n) (u.alloc (.cells A 5))) ∧
    ∀ u : World, (convert 40 9 (.slice (some ⟨u.heap.size, 0, none⟩) n n)).run Tryd.prog (u.alloc (.cells A 5)) = .ok (.string (str (zs n))) (u.alloc (.cells A 5)) := by
  refine ⟨madeCells #[.int .u8 0] n, fun u => ?_, fun u => ?_⟩
  · have := mk_bytes (n : Int) (by omega) (by omega) u
    simpa using this
  · exact run_string_block _ 40 9 5 Tryd.underlying40 Tryd.underlying5 Tryd.underlying9 u.heap.size n n _ (zs n) (block_alloc_new _ _) (made_zs n) (zs_length n).symm

set_option maxHeartbeats 1000000 in
set_option maxRecDepth 100000 in
theorem awake_any (w : World) (ht : Tabs w) : Calls Tryd.prog 7 #[] w fun e w' => e = .returned (.bool true) ∧ Step noF w w' := by
  obtain ⟨A1, m1, c1⟩ := made 251 (by omega)
  replace m1 : ∀ u : World, (Instr.makeSlice 40 (.int .i64 251) (.int .i64 251)).run Tryd.prog u = .ok (.slice (some ⟨u.heap.size, 0, none⟩) 251 251) (u.alloc (.cells A1 5)) := m1
  obtain ⟨A2, m2, c2⟩ := made 256 (by omega)
  replace m2 : ∀ u : World, (Instr.makeSlice 40 (.int .i64 256) (.int .i64 256)).run Tryd.prog u = .ok (.slice (some ⟨u.heap.size, 0, none⟩) 256 256) (u.alloc (.cells A2 5)) := m2
  obtain ⟨P, hP⟩ : ∃ P : List UInt8, [112, 108, 97, 105, 110] = P := ⟨_, rfl⟩
  obtain ⟨T, hT⟩ : ∃ T : List UInt8, [115, 116, 97, 109, 112, 101, 100] = T := ⟨_, rfl⟩
  have sP : str P = ⟨#[112, 108, 97, 105, 110]⟩ := by rw [← hP]; rfl
  have sT : str T = ⟨#[115, 116, 97, 109, 112, 101, 100]⟩ := by rw [← hT]; rfl
  have lP : P.length = 5 := by rw [← hP]; rfl
  have lT : T.length = 7 := by rw [← hT]; rfl
  have hc : canS (7 : Nat) (8 : Nat) = true := by decide
  obtain ⟨o1, o2⟩ := opAll (s := P) (by omega)
  obtain ⟨r1, r2, r3, r4⟩ := read_stp (e := 7) (q := 8) (s := T) (by omega) hc
  have la : layS P = frm 256 P ∧ layE P = 0 := ⟨if_pos (by omega), if_pos (by omega)⟩
  have hB : stmB 7 8 T = true := by rw [stmB, lT]; decide
  have lb : stmS 7 8 T = stp 7 8 T ∧ stmE 7 8 T = 0 := ⟨by rw [stmS, if_pos hB]; rfl, by rw [stmE, if_pos hB]⟩
  obtain ⟨a, ha⟩ : ∃ a, frm 256 P = a := ⟨_, rfl⟩
  obtain ⟨b, hb⟩ : ∃ b, stp 7 8 T = b := ⟨_, rfl⟩
  have hal : a.length = 256 := by rw [← ha]; exact frm_length (by omega)
  have hbl : b.length = 256 := by rw [← hb]; exact stp_length (by omega)
  obtain ⟨q1, q2, q3, q4⟩ := raAll hbl
  rw [ha] at la o1 o2
  rw [hb] at lb r1 r2 r3 r4
  have hne : decide (a = zs 256) = false := by
    rw [decide_eq_false_iff_not]
    intro h
    have h2 : opS (zs 256) = P := by rw [← h]; exact o2
    have h3 : lenF (zs 256) = 0 := by decide +kernel
    have h4 : opS (zs 256) = [] := by
      have : (zs 256).length = 256 := zs_length _
      rw [opS, if_pos this, unfS]
      split
      · rw [txtF, h3, List.take_zero]
      · rfl
    rw [h4] at h2
    rw [← h2] at lP
    cases lP
  have H1 : Hid (str (layS P) = str a ∧ layE P = 0) := ⟨by rw [la.1], la.2⟩
  have H2 : Hid (str (opS a) = str P ∧ opE a = 0) := ⟨by rw [o2], o1⟩
  have H3 : Hid (str (stmS 7 8 T) = str b ∧ stmE 7 8 T = 0) := ⟨by rw [lb.1], lb.2⟩
  have H4 : Hid (raE b = 7 ∧ raQ b = 8 ∧ str (raS b) = str T ∧ raR b = 0) := ⟨q1.trans r3, q2.trans r4, by rw [q3, r2], q4.trans r1⟩
  have H5 : Hid (str (layS (zs 251)) = str [] ∧ layE (zs 251) = 1) := ⟨by rw [layS, if_neg (by rw [zs_length]; omega)], by rw [layE, if_neg (by rw [zs_length]; omega)]⟩
  have H6 : Hid (str (stmS 0 1 []) = str [] ∧ stmE 0 1 [] = 1) := ⟨by rw [stmS, if_neg (by decide)], by rw [stmE, if_neg (by decide)]⟩
  have H7 := hid hne
  have HL : Hid (a.length = 256 ∧ b.length = 256 ∧ P.length = 5 ∧ T.length = 7) := ⟨hal, hbl, lP, lT⟩
  have sz1 : (str a).size = 256 := by rw [str_size, hal]
  have sz2 : (str b).size = 256 := by rw [str_size, hbl]
  have HSP := hid sP
  have HST := hid sT
  have eP : ((str P).toList == ([112, 108, 97, 105, 110] : List UInt8)) = true := by rw [sP, ByteArray.toList_eq]; rfl
  have eT : ((str T).toList == ([115, 116, 97, 109, 112, 101, 100] : List UInt8)) = true := by rw [sT, ByteArray.toList_eq]; rfl
  clear hP hT lP lT hc o1 o2 r1 r2 r3 r4 la hB lb ha hb hal hbl q1 q2 q3 q4 hne sP sT
  go_enter Tryd.func7, Tryd.ntmps7
  go_wp2_with fail
  refine (lay_call P _ HSP.out (by have := HL.out; omega) _ ht _ _ H1.out.1 H1.out.2).mono ?_
  rintro e w1 ⟨rfl, s1⟩
  have t1 := ht.step s1
  go_wp2_with fail
  refine (open_call a _ rfl (by have := HL.out; omega) _ t1 _ _ H2.out.1 H2.out.2).mono ?_
  rintro e w2 ⟨rfl, s2⟩
  have t2 := t1.step s2
  have a2 := s1.trans s2
  clear t1 s1 s2
  go_wp2_with fail
  refine (stamp_call 7 8 T _ HST.out (by have := HL.out; omega) _ t2 _ _ H3.out.1 H3.out.2).mono ?_
  rintro e w3 ⟨rfl, s3⟩
  have t3 := t2.step s3
  have a3 := a2.trans s3
  clear t2 s3 a2
  go_wp2_with fail
  refine (read_call b _ rfl (by have := HL.out; omega) _ t3 _ _ _ _ H4.out.1 H4.out.2.1 H4.out.2.2.1 H4.out.2.2.2).mono ?_
  rintro e w4 ⟨rfl, s4⟩
  have t4 := t3.step s4
  have a4 := a3.trans s4
  clear t3 s4 a3
  go_wp2_with fail
  refine (lay_call (zs 251) _ rfl (by rw [zs_length]; omega) _ (t4.step ((Step.refl _ _).alloc _)) _ _ H5.out.1 H5.out.2).mono ?_
  rintro e w5 ⟨rfl, s5⟩
  have a5 := (a4.alloc _).trans s5
  have t5 := ht.step a5
  clear t4 s5 a4
  go_wp2_with fail
  refine (stamp_call 0 1 [] _ rfl (by decide) _ t5 _ _ H6.out.1 H6.out.2).mono ?_
  rintro e w6 ⟨rfl, s6⟩
  have a6 := a5.trans s6
  clear t5 s6 a5
  go_wp2_with fail
  refine (blank_call (zs 256) _ rfl _ true (by simp)).mono ?_
  rintro e w7 ⟨rfl, s7⟩
  have a7 := (a6.alloc _).trans s7
  clear s7 a6
  go_wp2_with fail
  refine (blank_call a _ rfl _ false H7.out).mono ?_
  rintro e w8 ⟨rfl, s8⟩
  go_wp2_with fail
  refine (blank_call [] _ rfl _ false (by decide)).mono ?_
  rintro e w9 ⟨rfl, s9⟩
  go_wp2_with fail
  go_ret
  exact ⟨rfl, (a7.trans s8).trans s9⟩
end Go.Proofs.YthdcmobnookhdaaDoor
