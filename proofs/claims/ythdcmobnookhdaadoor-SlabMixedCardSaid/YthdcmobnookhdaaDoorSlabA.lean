/-
  What package slab does with frames: zeros, frame, unframe, Lay, Open, IsBlank.
-/
import Derived.Test.YthdcmobnookhdaaDoorSlabMath
import Derived.Test.YthdcmobnookhdaaDoorPenCalls
import Derived.Test.YthdcmobnookhdaaDoorCrcA
import Derived.Test.YthdcmobnookhdaaDoorShelf
namespace Go.Proofs.YthdcmobnookhdaaDoor
open Go.RowKit
set_option linter.unusedVariables false

theorem str_beq (a b : List UInt8) : ((str a).toList == (str b).toList) = decide (a = b) := by
  rw [ByteArray.toList_eq, ByteArray.toList_eq, str_list, str_list, Bool.eq_iff_iff]; simp
theorem rep_list (c : Nat) : Lib.repeatL [0] c = List.replicate c 0 := by
  induction c with
  | zero => rfl
  | succ c ih => rw [Lib.repeatL, ih, List.replicate_succ]; rfl
theorem repeat_lib (n : Nat) (hn : n ≤ 1000) (w : World) : Calls Tryd.prog 42 #[.string ⟨#[0]⟩, .int .i64 n] w fun e w' => e = .returned (.string (str (zs n))) ∧ Step noF w w' := by
  refine (Any.strings_Repeat Tryd.lays105 Tryd.Builder_Extra_105 ⟨#[0]⟩ n w (by omega) (by show 1 * n ≤ _; omega)).mono ?_
  rintro e w' ⟨rfl, hb⟩
  exact ⟨ret_str (by rw [str, zs, ← rep_list]), Step.ofBelow hb⟩

theorem zeros_any (n : Nat) (hn : n ≤ 1000) (w : World) : Calls Tryd.prog 30 #[.int .i64 n] w fun e w' => e = .returned (.string (str (zs n))) ∧ Step noF w w' := by
  go_enter Tryd.func30, Tryd.ntmps30
  go_wp2_with (go_at_call 42; refine (repeat_lib n hn _).mono ?_; rintro e w' ⟨rfl, hst⟩)
  go_ret
  exact ⟨rfl, hst⟩
theorem zeros_call (n : Nat) (hn : n ≤ 1000) (w : World) (z : Int) (hz : z = n) (r : ByteArray) (hr : str (zs n) = r) : Calls Tryd.prog 30 #[.int .i64 z] w fun e w' => e = .returned (.string r) ∧ Step noF w w' := by
  subst hz hr
  exact zeros_any n hn w

/-- A literal of one number. -/
theorem ints1 (w : World) (F : Nat → Prop) (hF : ∀ k, F k → k < w.heap.size) (t : TypeId) (g : Nat) (hg : g = w.heap.size) (x : Int) : RowAt (w.alloc (.cells #[.int .i64 x] t)) F (some ⟨g, 0, none⟩) (intsOf [x]) := rowAt_new w F hF _ t g hg _ rfl
theorem ints2 (w : World) (F : Nat → Prop) (hF : ∀ k, F k → k < w.heap.size) (t : TypeId) (g : Nat) (hg : g = w.heap.size) (x y : Int) : RowAt (w.alloc (.cells #[.int .i64 x, .int .i64 y] t)) F (some ⟨g, 0, none⟩) (intsOf [x, y]) := rowAt_new w F hF _ t g hg _ rfl
theorem strs1 (w : World) (t : TypeId) (g : Nat) (hg : g = w.heap.size) (x : ByteArray) : RowAt (w.alloc (.cells #[.string x] t)) noF (some ⟨g, 0, none⟩) (strsOf [x]) := rowAt_new w noF (fun _ h => h.elim) _ t g hg _ rfl
theorem in1 {z : Int} (h0 : 0 ≤ z) (h1 : z ≤ 4294967296) : inI64 [z] := by intro x hx; rcases List.mem_singleton.1 hx with rfl; omega
theorem in2 {z y : Int} (h0 : 0 ≤ z) (h1 : z ≤ 4294967296) (h2 : 0 ≤ y) (h3 : y ≤ 4294967296) : inI64 [z, y] := by
  intro x hx
  rcases List.mem_cons.1 hx with rfl | hx
  · omega
  · rcases List.mem_singleton.1 hx with rfl; omega
theorem numB1 (k n : Nat) (hk : k = 1 ∨ k = 2 ∨ k = 4 ∨ k = 8) (hn : n < 256 ^ k) : numB k [(n : Int)] = be k n ∧ numV k [(n : Int)] = true := by
  have hw : isW (k : Int) = true := by rw [isW_iff]; omega
  have hv : numV k [(n : Int)] = true := by
    simp only [numV, hw, List.all_cons, List.all_nil, Bool.and_true, Bool.true_and, Int.toNat_natCast, fitB, decide_eq_true_eq]
    refine ⟨by omega, ?_⟩
    have : ((256 ^ k : Nat) : Int) = (256 : Int) ^ k := Int.natCast_pow 256 k
    omega
  exact ⟨by rw [numB, if_pos hv, List.flatMap_cons, List.flatMap_nil, List.append_nil]; rfl, hv⟩

/-- A step that touches a new object's blocks alone. -/
theorem Step.fresh {F : Nat → Prop} {a b c : World} (h : Step noF a b) (k : Step F b c) (hF : ∀ i, F i → a.heap.size ≤ i) : Step noF a c := h.then k (fun i hi => .inr (hF i hi))

set_option maxHeartbeats 1000000 in
theorem frame_any (size : Nat) (s : List UInt8) (hs : s.length + 6 ≤ size) (hz : size ≤ 1000) (w : World) (ht : Tabs w) :
    Calls Tryd.prog 17 #[.int .i64 size, .string (str s)] w fun e w' => e = .returned (.string (str (frm size s))) ∧ Step noF w w' := by
  have HT := hid ht
  clear ht
  have hsz := str_size s
  have hlen : Hid ((str s).data.toList = s) := str_list s
  obtain ⟨S, hS⟩ : ∃ S, str s = S := ⟨_, rfl⟩
  rw [hS] at hsz hlen
  rw [hS]
  obtain ⟨n, hn⟩ : ∃ n, s.length = n := ⟨_, rfl⟩
  rw [hn] at hsz hs
  have hn1 : n < 65536 := by omega
  have N1 : Hid (numB 2 [(n : Int)] = be 2 n ∧ numV 2 [(n : Int)] = true) := numB1 2 n (by omega) (by omega)
  obtain ⟨k, hk⟩ : ∃ k, size - 6 - n = k := ⟨_, rfl⟩
  obtain ⟨B, hB⟩ : ∃ B, bod size s = B := ⟨_, rfl⟩
  have HB : Hid (([] ++ be 2 n) ++ S.data.toList ++ (str (zs k)).data.toList = B) := by show _ = _; rw [hlen.out, str_list, ← hB, bod, hn, hk]; simp
  have hBl : Hid (B.length ≤ 1000) := by show _ ≤ _; rw [← hB, bod_length (by omega)]; omega
  obtain ⟨m, hm⟩ : ∃ m, moreN 0 B = m := ⟨_, rfl⟩
  have hml : m < 4294967296 := by rw [← hm]; exact moreN_lt _ _ (by decide)
  have M1 : Hid (numB 4 [(m : Int)] = be 4 m ∧ numV 4 [(m : Int)] = true) := numB1 4 m (by omega) (by omega)
  have Z1 : Hid (moreN 0 ([str B].flatMap (·.data.toList)) = m) := by show _ = _; rw [← hm]; simp [str_list]
  have HF : Hid (frm size s = be 4 m ++ B) := by show _ = _; rw [frm, hB, hm]
  rw [HF.out]
  have L2 : Hid (([] ++ be 2 n : List UInt8).length + S.size ≤ 2000000) := by show _ ≤ _; simp [be_length]; omega
  have L3 : Hid ((([] ++ be 2 n : List UInt8) ++ S.data.toList).length = 2 + n) := by show _ = _; rw [hlen.out]; simp [be_length]; omega
  have e1 : (size : Int) - 4 - (2 + (n : Int)) = (k : Int) := by omega
  clear hB hm hk hS
  go_enter Tryd.func17, Tryd.ntmps17
  go_wp2_with fail
  refine (num_call 2 [(n : Int)] 1 rfl (in1 (by omega) (by omega)) (by simp) _ 1 w.heap.size (oneF w.heap.size) [] _ ((newOut w).step ((Step.refl noF _).alloc _)) (by simp) (ints1 _ _ (fun k hk => by have : k = w.heap.size := hk; simp; omega) _ _ (by simp) _) ([] ++ be 2 n) (by rw [N1.out.1]) 0 (by rw [N1.out.2]; rfl)).mono ?_
  rintro e w2 ⟨rfl, F1, s1, o1, f1⟩
  have b1 : ∀ k, F1 k → w.heap.size ≤ k := fun k hk => by
    rcases f1 k hk with h | h
    · exact Nat.le_of_eq h.symm
    · simp at h; omega
  have t1 : Step noF w w2 := (((Step.refl noF w).alloc _).alloc _).fresh s1 (fun i hi => Nat.le_of_eq hi.symm)
  clear s1 f1
  go_wp2_with fail
  refine (raw_any S _ F1 _ _ o1 L2.out).mono ?_
  rintro e w3 ⟨rfl, F2, s2, o2, f2⟩
  have b2 : ∀ k, F2 k → w.heap.size ≤ k := fun k hk => by
    rcases f2 k hk with h | h
    · exact b1 k h
    · have := t1.size; omega
  have t2 : Step noF w w3 := t1.fresh s2 b1
  clear s2 f2 o1 b1 t1
  go_wp2_with fail
  refine (len_call _ F2 _ _ o2 (2 + (n : Int)) (by rw [L3.out]; omega)).mono ?_
  rintro e w4 ⟨rfl, rfl⟩
  go_wp2_with fail
  refine (zeros_call k (by omega) _ _ (by omega) _ rfl).mono ?_
  rintro e w4 ⟨rfl, s4⟩
  have o4 := o2.step s4
  have t4 := t2.trans s4
  clear o2 t2 s4
  go_wp2_with fail
  refine (raw_any (str (zs k)) _ F2 _ _ o4 (by rw [L3.out, str_size, zs_length]; omega)).mono ?_
  rintro e w5 ⟨rfl, F3, s5, o5, f5⟩
  rw [HB.out] at o5
  have b3 : ∀ k, F3 k → w.heap.size ≤ k := fun k hk => by
    rcases f5 k hk with h | h
    · exact b2 k h
    · have := t4.size; omega
  have t5 : Step noF w w5 := t4.fresh s5 b2
  clear s5 f5 o4 b2 t4
  go_wp2_with fail
  refine (bytes_any _ F3 B _ (o5.step ((Step.refl noF _).alloc _))).mono ?_
  rintro e w6 ⟨rfl, rfl⟩
  go_wp2_with fail
  refine (sum_call [str B] 1 rfl (by simp) (by intro t ht; rcases List.mem_singleton.1 ht with rfl; rw [str_size]; have := hBl.out; omega) _ 1 _ (HT.out.step ((t5.alloc _).alloc _)) (strs1 _ _ _ (by simp) _) m Z1.out).mono ?_
  rintro e w6 ⟨rfl, s6⟩
  have O6 : IsOut w6 w5.heap.size (oneF w5.heap.size) [] := ((newOut w5).step ((Step.refl noF _).alloc _)).step s6
  have o6 : IsOut w6 w.heap.size F3 B := o5.step ((((Step.refl noF _).alloc _).alloc _).trans s6)
  have t6 : Step noF w w6 := ((t5.alloc _).alloc _).trans s6
  have z6 : w5.heap.size < w6.heap.size := O6.lt _ rfl
  have b5 : ∀ k, F3 k → k < w5.heap.size := o5.lt
  have z5 := t5.size
  clear s6 o5
  go_wp2_with fail
  refine (num_call 4 [(m : Int)] 1 rfl (in1 (by omega) (by omega)) (by simp) _ 1 w5.heap.size (oneF w5.heap.size) [] _ (O6.step ((Step.refl noF _).alloc _)) (by simp) (ints1 _ _ (fun k hk => by have : k = w5.heap.size := hk; omega) _ _ rfl _) ([] ++ be 4 m) (by rw [M1.out.1]) 0 (by rw [M1.out.2]; rfl)).mono ?_
  rintro e w7 ⟨rfl, F4, s7, o7, f7⟩
  have b4 : ∀ k, F4 k → w5.heap.size ≤ k := fun k hk => by
    rcases f7 k hk with h | h
    · exact Nat.le_of_eq h.symm
    · simp at h; omega
  have O7 : IsOut w7 w.heap.size F3 B := (o6.step ((Step.refl noF _).alloc _)).mono s7 (fun k hk h => by have := b5 k hk; have : k = w5.heap.size := h; omega)
  have t7 : Step noF w w7 := (t6.alloc _).fresh s7 (fun i hi => by have : i = w5.heap.size := hi; omega)
  clear s7 f7 o6 O6 t6
  go_wp2_with fail
  refine (bytes_any _ F3 B _ O7).mono ?_
  rintro e w8 ⟨rfl, rfl⟩
  go_wp2_with fail
  refine (raw_any (str B) _ F4 _ _ o7 (by rw [str_size, List.nil_append, be_length]; have := hBl.out; omega)).mono ?_
  rintro e w8 ⟨rfl, F5, s8, o8, f8⟩
  have t8 : Step noF w w8 := t7.fresh s8 (fun i hi => by have := b4 i hi; omega)
  go_wp2_with fail
  refine (bytes_any _ F5 _ _ o8).mono ?_
  rintro e w9 ⟨rfl, rfl⟩
  go_wp2_with fail
  go_ret
  exact ⟨ret_str (by rw [str_list]; rfl), t8⟩

/-- A reader at a number. -/
theorem num_at (k : Nat) (hk : k = 1 ∨ k = 2 ∨ k = 4) (l : List UInt8) (e : Int) (h : k ≤ l.length) :
    numVal k l = beN (l.take k) ∧ numL k l = l.drop k ∧ numE k l e = e := by
  have hr : (0 : Int) ≤ (k : Int) ∧ (k : Int) ≤ (l.length : Int) := by omega
  have hw : isW (k : Int) = true := by rw [isW_iff]; omega
  have e1 : rawV k l = l.take k := by rw [rawV, if_pos hr]; simp
  have hb : beN (l.take k) < 4294967296 := by
    have h1 := beN_lt (l.take k)
    have h2 : 256 ^ (l.take k).length ≤ 256 ^ 4 := Nat.pow_le_pow_right (by omega) (by rw [List.length_take]; omega)
    omega
  have hok : numOk k l = true := by
    unfold numOk
    rw [e1, hw]
    simp; omega
  refine ⟨?_, ?_, ?_⟩
  · rw [numVal, if_pos hok, e1]
  · rw [numL, if_pos hok, rawL, if_pos hr]; simp
  · rw [numE, if_pos hok, rawE, if_pos hr]
theorem raw_at (k : Nat) (l : List UInt8) (e : Int) (h : k ≤ l.length) : str (rawV k l) = str (l.take k) ∧ rawL k l = l.drop k ∧ rawE k l e = e := by
  have hr : (0 : Int) ≤ (k : Int) ∧ (k : Int) ≤ (l.length : Int) := by omega
  refine ⟨?_, ?_, ?_⟩
  · rw [rawV, if_pos hr]; simp
  · rw [rawL, if_pos hr]; simp
  · rw [rawE, if_pos hr]
theorem raw_past (k : Nat) (l : List UInt8) (e : Int) (h : ¬ k ≤ l.length) : str (rawV k l) = str [] ∧ rawL k l = [] ∧ rawE k l e = 5 := by
  have hr : ¬ ((0 : Int) ≤ (k : Int) ∧ (k : Int) ≤ (l.length : Int)) := by omega
  exact ⟨by rw [rawV, if_neg hr], by rw [rawL, if_neg hr], by rw [rawE, if_neg hr]⟩

set_option maxHeartbeats 1000000 in
theorem unframe_any (f : List UInt8) (h6 : 6 ≤ f.length) (hf : f.length ≤ 1000) (w : World) (ht : Tabs w) :
    Calls Tryd.prog 20 #[.string (str f)] w fun e w' => e = .returned (.tuple #[.string (str (unfS f)), .int .i64 (unfE f)]) ∧ Step noF w w' := by
  have HT := hid ht
  clear ht
  obtain ⟨a, ha⟩ : ∃ a, beN (f.take 4) = a := ⟨_, rfl⟩
  obtain ⟨n, hn⟩ : ∃ n, lenF f = n := ⟨_, rfl⟩
  have hnl : n < 65536 := by rw [← hn]; exact lenF_lt f
  have hal : a < 4294967296 := by rw [← ha]; exact take4_lt f
  have A4 : Hid (numVal (4 : Nat) f = a ∧ numL (4 : Nat) f = f.drop 4 ∧ numE (4 : Nat) f 0 = 0) := by
    have := num_at 4 (by omega) f 0 (by omega)
    rw [ha] at this; exact this
  have A2 : Hid (numVal (2 : Nat) (f.drop 4) = n ∧ numL (2 : Nat) (f.drop 4) = f.drop 6 ∧ numE (2 : Nat) (f.drop 4) 0 = 0) := by
    have := num_at 2 (by omega) (f.drop 4) 0 (by rw [List.length_drop]; omega)
    rw [List.drop_drop, ← lenF, hn] at this; exact this
  have l4 : Hid ((f.drop 4).length ≤ maxLen) := by show _ ≤ _; rw [List.length_drop]; unfold maxLen; omega
  have l6 : Hid ((f.drop 6).length ≤ maxLen) := by show _ ≤ _; rw [List.length_drop]; unfold maxLen; omega
  by_cases hfit : n ≤ (f.drop 6).length
  · have R1 : Hid (str (rawV n (f.drop 6)) = str (txtF f) ∧ rawL n (f.drop 6) = f.drop (6 + n) ∧ rawE n (f.drop 6) 0 = 0) := by
      have := raw_at n (f.drop 6) 0 hfit
      rw [List.drop_drop, ← hn, ← txtF] at this
      rw [← hn]; exact this
    have hfit2 : lenF f + 6 ≤ f.length := by rw [List.length_drop] at hfit; omega
    have HI := frm_iff h6 hfit2
    obtain ⟨q, hq⟩ : ∃ q, f.length - 6 - n = q := ⟨_, rfl⟩
    have hql : (f.drop (6 + n)).length = q := by rw [List.length_drop]; omega
    have R2 : Hid (str (rawV q (f.drop (6 + n))) = str (f.drop (6 + n)) ∧ rawL q (f.drop (6 + n)) = [] ∧ rawE q (f.drop (6 + n)) 0 = 0) := by
      have := raw_at q (f.drop (6 + n)) 0 (by omega)
      rw [List.take_of_length_le (by omega), List.drop_of_length_le (i := q) (l := f.drop (6 + n)) (by omega)] at this
      exact this
    have l7 : Hid ((f.drop (6 + n)).length ≤ maxLen) := by show _ ≤ _; rw [hql]; unfold maxLen; omega
    obtain ⟨m, hm⟩ : ∃ m, moreN 0 (f.drop 4) = m := ⟨_, rfl⟩
    have hml : m < 4294967296 := by rw [← hm]; exact moreN_lt _ _ (by decide)
    have Z1 : Hid (moreN 0 ([str (f.drop 4)].flatMap (·.data.toList)) = m) := by show _ = _; rw [← hm]; simp [str_list]
    rw [ha, hm, hn, hq] at HI
    have hE : unfE f = if f = frm f.length (txtF f) then 0 else 6 := by rw [unfE, if_pos hfit2]
    have hx : (str f).extract 4 f.length = str (f.drop 4) := by rw [str_extract, List.take_of_length_le (by omega)]
    have hsz : (str f).size = f.length := str_size f
    have HQ := hid hql
    have HX := hid hx
    have hne : ∀ (b : Bool), (f = frm f.length (txtF f)) = (b = true) → unfE f = (if b then 0 else 6) ∧ unfS f = (if b then txtF f else []) := by
      intro b hb
      have h1 : unfE f = (if b then 0 else 6) := by rw [hE]; simp only [hb]
      refine ⟨h1, ?_⟩
      rw [unfS, h1]
      cases b <;> simp
    clear hE hx hql
    go_enter Tryd.func20, Tryd.ntmps20
    go_wp2_with fail
    refine (of_any f w).mono ?_
    rintro e w1 ⟨rfl, s1, i1, z1⟩
    have p1 : w.heap.size < w1.heap.size := by omega
    have fr : ∀ {x : World}, Step (oneF w.heap.size) w1 x → Step noF w x := fun k => s1.fresh k (fun i hi => Nat.le_of_eq hi.symm)
    go_wp2_with fail
    refine (inNum_call 4 _ f 0 _ i1 (by unfold maxLen; omega) _ _ _ A4.out.1 A4.out.2.1 A4.out.2.2).mono ?_
    rintro e w2 ⟨rfl, s2, i2⟩
    go_wp2_with fail
    refine (inNum_call 2 _ _ 0 _ i2 l4.out _ _ _ A2.out.1 A2.out.2.1 A2.out.2.2).mono ?_
    rintro e w3 ⟨rfl, s3, i3⟩
    have t3 := s2.trans s3
    clear i1 i2 s2 s3
    go_wp2_with fail
    refine (inRaw_call _ _ _ 0 _ i3 l6.out _ _ _ R1.out.1 R1.out.2.1 R1.out.2.2).mono ?_
    rintro e w4 ⟨rfl, s4, i4⟩
    have t4 := t3.trans s4
    clear i3 s4 t3
    go_wp2_with fail
    refine (err_any _ _ _ _ i4).mono ?_
    rintro e w5 ⟨rfl, rfl⟩
    go_wp2_with fail
    refine (left_call _ _ _ _ i4 (q : Int) (by rw [HQ.out])).mono ?_
    rintro e w5 ⟨rfl, rfl⟩
    go_wp2_with fail
    refine (inRaw_call _ _ _ 0 _ i4 l7.out _ _ _ R2.out.1 R2.out.2.1 R2.out.2.2).mono ?_
    rintro e w5 ⟨rfl, s5, i5⟩
    have t5 := fr (t4.trans s5)
    clear i4 s5 t4 fr i5
    go_wp2_with fail
    refine (sum_call [(str f).extract 4 f.length] 1 rfl (by simp) (by intro t ht; rcases List.mem_singleton.1 ht with rfl; rw [HX.out, str_size, List.length_drop]; omega) _ 1 _ (HT.out.step (t5.alloc _)) (strs1 _ _ _ rfl _) m (by rw [HX.out]; exact Z1.out)).mono ?_
    rintro e w6 ⟨rfl, s6⟩
    have t6 := (t5.alloc _).trans s6
    clear s6 t5
    by_cases h1 : a = m
    · subst h1
      go_wp2_with fail
      refine (zeros_call q (by omega) _ _ (by rw [str_size, HQ.out]) _ rfl).mono ?_
      rintro e w7 ⟨rfl, s7⟩
      have t7 := t6.trans s7
      by_cases h2 : f.drop (6 + n) = zs q
      · obtain ⟨u1, u2⟩ := hne true (by rw [propext HI]; simp [h2])
        have U : Hid (unfE f = _ ∧ unfS f = _) := ⟨u1, u2⟩
        have H2 : ((str (f.drop (6 + n))).toList == (str (zs q)).toList) = true := by rw [str_beq, h2]; simp
        clear HI hne h2 hq hm u1 u2
        go_wp2_with fail
        go_ret2
        exact ⟨by rw [U.out.1, U.out.2]; rfl, t7⟩
      · obtain ⟨u1, u2⟩ := hne false (by rw [propext HI]; simp [h2])
        have U : Hid (unfE f = _ ∧ unfS f = _) := ⟨u1, u2⟩
        have H2 : ((str (f.drop (6 + n))).toList == (str (zs q)).toList) = false := by rw [str_beq]; simp [h2]
        clear HI hne h2 hq hm u1 u2
        go_wp2_with fail
        go_ret2
        exact ⟨by rw [U.out.1, U.out.2]; rfl, t7⟩
    · obtain ⟨u1, u2⟩ := hne false (by rw [propext HI]; simp [h1])
      have U : Hid (unfE f = _ ∧ unfS f = _) := ⟨u1, u2⟩
      have h3 : ¬ (a : Int) = (m : Int) := by omega
      clear HI hne hq hm u1 u2
      go_wp2_with fail
      go_ret2
      exact ⟨by rw [U.out.1, U.out.2]; rfl, t6⟩
  · have R1 : Hid (str (rawV n (f.drop 6)) = str [] ∧ rawL n (f.drop 6) = [] ∧ rawE n (f.drop 6) 0 = 5) := raw_past n (f.drop 6) 0 hfit
    have hfit2 : ¬ lenF f + 6 ≤ f.length := by rw [List.length_drop] at hfit; omega
    have hE : unfE f = 5 := by rw [unfE, if_neg hfit2]
    have hS : unfS f = [] := by rw [unfS, hE]; rfl
    rw [hE, hS]
    clear hE hS
    go_enter Tryd.func20, Tryd.ntmps20
    go_wp2_with fail
    refine (of_any f w).mono ?_
    rintro e w1 ⟨rfl, s1, i1, z1⟩
    have fr : ∀ {x : World}, Step (oneF w.heap.size) w1 x → Step noF w x := fun k => s1.fresh k (fun i hi => Nat.le_of_eq hi.symm)
    go_wp2_with fail
    refine (inNum_call 4 _ f 0 _ i1 (by unfold maxLen; omega) _ _ _ A4.out.1 A4.out.2.1 A4.out.2.2).mono ?_
    rintro e w2 ⟨rfl, s2, i2⟩
    go_wp2_with fail
    refine (inNum_call 2 _ _ 0 _ i2 l4.out _ _ _ A2.out.1 A2.out.2.1 A2.out.2.2).mono ?_
    rintro e w3 ⟨rfl, s3, i3⟩
    go_wp2_with fail
    refine (inRaw_call _ _ _ 0 _ i3 l6.out _ _ _ R1.out.1 R1.out.2.1 R1.out.2.2).mono ?_
    rintro e w4 ⟨rfl, s4, i4⟩
    go_wp2_with fail
    refine (err_any _ _ _ _ i4).mono ?_
    rintro e w5 ⟨rfl, rfl⟩
    go_wp2_with fail
    go_ret2
    exact ⟨rfl, fr ((s2.trans s3).trans s4)⟩

/-! Lay, Open, IsBlank -/
def layE (s : List UInt8) : Int := if s.length ≤ 250 then 0 else 1
def layS (s : List UInt8) : List UInt8 := if s.length ≤ 250 then frm 256 s else []
theorem lay_any (s : List UInt8) (hs : s.length ≤ 9223372036854775807) (w : World) (ht : Tabs w) :
    Calls Tryd.prog 8 #[.string (str s)] w fun e w' => e = .returned (.tuple #[.string (str (layS s)), .int .i64 (layE s)]) ∧ Step noF w w' := by
  have hsz := str_size s
  by_cases h : s.length ≤ 250
  · rw [layE, layS, if_pos h, if_pos h]
    go_enter Tryd.func8, Tryd.ntmps8
    go_wp2_with (go_at_call 17; refine (frame_any 256 s (by omega) (by omega) _ ht).mono ?_; rintro e w1 ⟨rfl, s1⟩)
    go_ret2
    exact ⟨rfl, s1⟩
  · rw [layE, layS, if_neg h, if_neg h]
    have h2 : (250 : Int) < (s.length : Int) := by omega
    go_enter Tryd.func8, Tryd.ntmps8
    go_wp2_with fail
    go_ret2
    exact ⟨rfl, Step.refl _ _⟩
def opE (b : List UInt8) : Int := if b.length = 256 then unfE b else 1
def opS (b : List UInt8) : List UInt8 := if b.length = 256 then unfS b else []
theorem open_any (b : List UInt8) (hb : b.length ≤ 9223372036854775807) (w : World) (ht : Tabs w) :
    Calls Tryd.prog 10 #[.string (str b)] w fun e w' => e = .returned (.tuple #[.string (str (opS b)), .int .i64 (opE b)]) ∧ Step noF w w' := by
  have hsz := str_size b
  by_cases h : b.length = 256
  · rw [opE, opS, if_pos h, if_pos h]
    go_enter Tryd.func10, Tryd.ntmps10
    go_wp2_with (go_at_call 20; refine (unframe_any b (by omega) (by omega) _ ht).mono ?_; rintro e w1 ⟨rfl, s1⟩)
    go_ret2
    exact ⟨rfl, s1⟩
  · rw [opE, opS, if_neg h, if_neg h]
    have h2 : ¬ (b.length : Int) = 256 := by omega
    go_enter Tryd.func10, Tryd.ntmps10
    go_wp2_with fail
    go_ret2
    exact ⟨rfl, Step.refl _ _⟩
theorem blank_any (b : List UInt8) (w : World) :
    Calls Tryd.prog 15 #[.string (str b)] w fun e w' => e = .returned (.bool (decide (b = zs 256))) ∧ Step noF w w' := by
  have H : Hid (((str b).toList == (str (zs 256)).toList) = decide (b = zs 256)) := str_beq b (zs 256)
  generalize decide (b = zs 256) = d at H ⊢
  go_enter Tryd.func15, Tryd.ntmps15
  go_wp2_with (go_at_call 30; refine (zeros_call 256 (by omega) _ _ rfl _ rfl).mono ?_; rintro e w1 ⟨rfl, s1⟩)
  go_ret
  exact ⟨ret_bool H.out, s1⟩
end Go.Proofs.YthdcmobnookhdaaDoor
