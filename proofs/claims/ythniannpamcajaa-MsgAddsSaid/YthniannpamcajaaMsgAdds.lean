/-
  MsgAdds. Written by genadds.py.
-/
import Derived.Test.YthniannpamcajaaMsgAwake
namespace Go.Proofs.Ythniannpamcajaa
open Go.RowKit
set_option linter.unusedVariables false
set_option linter.unusedSimpArgs false

/-- The Add of a number to the key that the law takes. -/
def addM (n : Nat) : Mg := ⟨3, [107], be 8 n⟩
theorem addM_is (n : Nat) : (addM n).is = true := (is_iff _).2 ⟨rfl, .inr (.inr ⟨rfl, be_length 8 n⟩)⟩
theorem sum_be (a b : Nat) (ha : a < 18446744073709551616) (hb : b < 18446744073709551616) : sumL (be 8 a) (be 8 b) = be 8 ((a + b) % 18446744073709551616) := by
  rw [sumL, numOf_be a ha, numOf_be b hb]
theorem addM_then (a b : Nat) (ha : a < 18446744073709551616) (hb : b < 18446744073709551616) : (addM a).thenR (addM b) = .tuple #[.agg #[.int .i64 3, .string ⟨#[107]⟩, .string (str (be 8 ((a + b) % 18446744073709551616)))], .int .i64 0] := by
  rw [thenR_aa (both_of (addM_is a) (addM_is b) rfl) rfl rfl]
  show Value.tuple #[.agg #[.int .i64 3, .string (str [107]), .string (str (sumL (be 8 a) (be 8 b)))], .int .i64 0] = _
  rw [sum_be a b ha hb]
  rfl
theorem addM_app (n a : Nat) (hn : n < 18446744073709551616) (ha : a < 18446744073709551616) : (addM n).appR (be 8 a) true = .tuple #[.string (str (be 8 ((a + n) % 18446744073709551616))), .bool true] := by
  rw [appR_add (addM_is n) rfl]
  show Value.tuple #[.string (str (moreL (be 8 a) (be 8 n))), .bool true] = _
  rw [moreL_eight _ _ (be_length 8 a) (be_length 8 n), sum_be a n ha hn]
theorem addM_new (n : Nat) : (addM n).appR [] false = .tuple #[.string (str (be 8 n)), .bool true] := appR_val (addM_is n) (show (3 : Int) ≠ 2 by decide) _ _ (fun _ => rfl)
theorem be8_max (n : Nat) : (be 8 n).length ≤ maxLen := by rw [be_length]; decide
theorem addOf_call (n : Nat) (hn : n < 18446744073709551616) (u : World) : Calls Try.prog 18 #[.string ⟨#[107]⟩, .int .u64 n] u fun e w' => e = .returned (.agg #[.int .i64 3, .string ⟨#[107]⟩, .string (str (be 8 (n)))]) ∧ Step noF u w' := ofAdd_any [107] n hn u
theorem addApp_call (n a c : Nat) (hn : n < 18446744073709551616) (ha : a < 18446744073709551616) (hc : (a + n) % 18446744073709551616 = c) (u : World) : Calls Try.prog 11 #[.agg #[.int .i64 3, .string ⟨#[107]⟩, .string (str (be 8 (n)))], .string (str (be 8 a)), .bool true] u fun e w' => e = .returned (.tuple #[.string (str (be 8 c)), .bool true]) ∧ Step noF u w' := by
  have h := apply_any (addM n) (be8_max n) (be 8 a) (be8_max a) true u
  rw [addM_app n a hn ha, hc] at h
  exact h
theorem addNew_call (n : Nat) (u : World) : Calls Try.prog 11 #[.agg #[.int .i64 3, .string ⟨#[107]⟩, .string (str (be 8 (n)))], .string ⟨#[]⟩, .bool false] u fun e w' => e = .returned (.tuple #[.string (str (be 8 n)), .bool true]) ∧ Step noF u w' := by
  have h := apply_any (addM n) (be8_max n) [] (by decide) false u
  rw [addM_new n] at h
  exact h
theorem addThen_call (a b c : Nat) (ha : a < 18446744073709551616) (hb : b < 18446744073709551616) (hc : (a + b) % 18446744073709551616 = c) (u : World) : Calls Try.prog 20 #[.agg #[.int .i64 3, .string ⟨#[107]⟩, .string (str (be 8 (a)))], .agg #[.int .i64 3, .string ⟨#[107]⟩, .string (str (be 8 (b)))]] u fun e w' => e = .returned (.tuple #[.agg #[.int .i64 3, .string ⟨#[107]⟩, .string (str (be 8 (c)))], .int .i64 0]) ∧ Step noF u w' := by
  have h := then_any (addM a) (addM b) (be8_max a) (be8_max b) u
  rw [addM_then a b ha hb, hc] at h
  exact h
theorem addCells {w : World} {g : Nat} {n : Nat} (h : TripAt w g 23 (addM n)) : w.cell? ⟨g, 0, none⟩ = some (.int .i64 3) ∧ w.cell? ⟨g, 1, none⟩ = some (.string ⟨#[107]⟩) ∧ w.cell? ⟨g, 2, none⟩ = some (.string (str (be 8 n))) ∧
    w.frozen? ⟨g, 0, none⟩ = false ∧ w.frozen? ⟨g, 1, none⟩ = false ∧ w.frozen? ⟨g, 2, none⟩ = false := h.all
theorem addNewAt (w : World) (n : Nat) : TripAt (w.alloc (.cells #[.int .i64 3, .string ⟨#[107]⟩, .string (str (be 8 (n)))] 23)) w.heap.size 23 (addM n) := trip_new w 23 (addM n)
theorem addPut {w : World} {g : Nat} {n : Nat} (h : TripAt w g 23 (addM n)) (k : Nat) : TripAt (((w.setCell ⟨g, 0, none⟩ (.int .i64 3)).setCell ⟨g, 1, none⟩ (.string ⟨#[107]⟩)).setCell ⟨g, 2, none⟩ (.string (str (be 8 k)))) g 23 (addM k) := h.put (addM k)
/-- A row of numbers of 64 bits. -/
def u64s (ns : List Nat) : List Value := ns.map fun n : Nat => .int .u64 (n : Int)
theorem u64s_at {w : World} {F : Nat → Prop} {a : Option Addr} {ns : List Nat} (h : RowAt w F a (u64s ns)) (j : Nat) (hj : j < ns.length) : ∃ b off, a = some ⟨b, off, none⟩ ∧ w.cell? ⟨b, off + j, none⟩ = some (.int .u64 (ns[j] : Nat)) := RowAt.at (f := fun n : Nat => Value.int .u64 (n : Int)) h j hj

theorem adds_long (first : Nat) (ns : List Nat) (a : Option Addr) (cap : Nat) (has : Bool) (w : World) (h : 50 < ns.length) :
    Calls Try.prog 8 #[.int .u64 first, .slice a ns.length cap, .bool has] w fun e w' => e = .returned (.bool true) ∧ Step noF w w' := by
  go_enter Try.func8, Try.ntmps8
  go_wp2_with fail
  refine (awake_any _).mono ?_
  rintro e w1 ⟨rfl, s1⟩
  go_wp2_with fail
  go_ret
  exact ⟨rfl, s1⟩
set_option maxHeartbeats 8000000 in
set_option maxRecDepth 100000 in
theorem adds_has (first : Nat) (hf : first < 18446744073709551616) (ns : List Nat) (hns : ∀ n ∈ ns, n < 18446744073709551616) (a : Option Addr) (cap : Nat) (w : World) (hrow : RowAt w noF a (u64s ns)) (h : ns.length ≤ 50) :
    Calls Try.prog 8 #[.int .u64 first, .slice a ns.length cap, .bool true] w fun e w' => e = .returned (.bool true) ∧ Step noF w w' := by
  have hE := same_str
  have hz8 : ∀ x : Nat, (str (be 8 x)).size = 8 := fun x => by rw [str_size, be_length]
  have hfd : ∀ (x : ByteArray) (u : World), (Instr.field 23 (.agg #[.int .i64 3, .string ⟨#[107]⟩, .string x]) 2).run Try.prog u = .ok (.string x) u := fun x u => rfl
  have HR := hid hrow
  have HN := hid hns
  have HF := hid hf
  clear hrow hns hf
  go_enter Try.func8, Try.ntmps8
  go_wp2_with fail
  refine (awake_any _).mono ?_
  rintro e w1 ⟨rfl, s1⟩
  have S1 := hid s1
  clear s1
  go_wp2_with fail
  refine (addOf_call first HF.out _).mono ?_
  rintro e w2 ⟨rfl, s2⟩
  have S2 := hid (S1.out.trans s2)
  clear s2
  go_wp2_with fail
  refine (addOf_call 0 (by omega) _).mono ?_
  rintro e w3 ⟨rfl, s3⟩
  have TO3 := hid (addNewAt w3 0)
  have S3 := hid ((S2.out.trans s3).alloc (.cells #[.int .i64 3, .string ⟨#[107]⟩, .string (str (be 8 (0)))] 23))
  have hbo : Hid (w.heap.size ≤ w3.heap.size) := (S2.out.trans s3).size
  clear s3
  obtain ⟨bo, ebo⟩ : ∃ bo, w3.heap.size = bo := ⟨_, rfl⟩
  rw [ebo] at TO3 hbo
  go_wp2_with fail
  try rw [ebo]
  refine (addOf_call 0 (by omega) _).mono ?_
  rintro e w4 ⟨rfl, s4⟩
  have TO4 := hid ((TO3.out.step s4).alloc (.cells #[.int .i64 3, .string ⟨#[107]⟩, .string (str (be 8 (0)))] 23))
  have TT4 := hid (addNewAt w4 0)
  have S4 := hid ((S3.out.trans s4).alloc (.cells #[.int .i64 3, .string ⟨#[107]⟩, .string (str (be 8 (0)))] 23))
  have hbt : Hid (bo < w4.heap.size) := lt_of_block (TO3.out.step s4)
  clear s4 ebo
  obtain ⟨bt, ebt⟩ : ∃ bt, w4.heap.size = bt := ⟨_, rfl⟩
  rw [ebt] at TT4 hbt
  obtain ⟨o0, o1, o2, _, _, _⟩ := addCells TO4.out
  go_wp2_with fail
  try rw [ebt]
  refine (addApp_call 0 first first (by omega) HF.out (by have := HF.out; omega) _).mono ?_
  rintro e w5 ⟨rfl, s5⟩
  have TO5 := hid (TO4.out.step s5)
  have TT5 := hid (TT4.out.step s5)
  have S5 := hid (S4.out.trans s5)
  clear s5 o0 o1 o2 ebt
  go_wp2_with fail
  go_loopw [10, 11, 12] (fun v is i wr => ∃ j s : Nat, j ≤ ns.length ∧ s < 18446744073709551616 ∧ i = .int .i64 j ∧ is = .bool true ∧ v = .string (str (be 8 ((first + s) % 18446744073709551616))) ∧ TripAt wr bo 23 (addM s) ∧ TripAt wr bt 23 (addM s) ∧ Step noF w wr) (fun _ _ i _ => ns.length - (intOf i).toNat)
  case atStart => exact ⟨0, 0, Nat.zero_le _, by omega, rfl, rfl, by rw [show (first + 0) % 18446744073709551616 = first by have := HF.out; omega], TO5.out, TT5.out, S5.out⟩
  case round =>
    obtain ⟨j, s, hj, hs, rfl, rfl, rfl, to, tt, st⟩ := hrel
    have TO := hid to
    have TT := hid tt
    have ST := hid st
    have hs' := hid hs
    clear to tt st hs
    by_cases hjl : j < ns.length
    · obtain ⟨g, off, rfl, hcell⟩ := u64s_at (HR.out.step ST.out) j hjl
      have hn := HN.out ns[j] (List.getElem_mem hjl)
      obtain ⟨n, en⟩ : ∃ n, ns[j] = n := ⟨_, rfl⟩
      rw [en] at hcell hn
      have HNn := hid hn
      obtain ⟨s2, es2⟩ : ∃ s2, (s + n) % 18446744073709551616 = s2 := ⟨_, rfl⟩
      have HS2 := hid es2
      obtain ⟨V2, eV2⟩ : ∃ V2, (first + s2) % 18446744073709551616 = V2 := ⟨_, rfl⟩
      have HV2 := hid eV2
      obtain ⟨V, eV⟩ : ∃ V, (first + s) % 18446744073709551616 = V := ⟨_, rfl⟩
      have HV := hid eV
      rw [eV]
      clear en hn es2 eV2 eV
      go_wp2_with fail
      refine (addOf_call n HNn.out _).mono ?_
      rintro e u1 ⟨rfl, s1⟩
      have TM1 := hid (addNewAt u1 n)
      have TO1 := hid ((TO.out.step s1).alloc (.cells #[.int .i64 3, .string ⟨#[107]⟩, .string (str (be 8 (n)))] 23))
      have TT1 := hid ((TT.out.step s1).alloc (.cells #[.int .i64 3, .string ⟨#[107]⟩, .string (str (be 8 (n)))] 23))
      have U1 := hid ((ST.out.trans s1).alloc (.cells #[.int .i64 3, .string ⟨#[107]⟩, .string (str (be 8 (n)))] 23))
      clear s1 hcell
      obtain ⟨m0, m1, m2, _, _, _⟩ := addCells TM1.out
      go_wp2_with fail
      refine (addApp_call n V V2 HNn.out (by have := HV.out; have := HS2.out; have := hs'.out; have := HF.out; omega) (by have := HV.out; have := HV2.out; have := HS2.out; have := hs'.out; have := HF.out; have := HNn.out; omega) _).mono ?_
      rintro e u2 ⟨rfl, s2⟩
      have TM2 := hid (TM1.out.step s2)
      have TO2 := hid (TO1.out.step s2)
      have TT2 := hid (TT1.out.step s2)
      have U2 := hid (U1.out.trans s2)
      clear s2 m0 m1 m2
      obtain ⟨m0, m1, m2, _, _, _⟩ := addCells TM2.out
      obtain ⟨o0, o1, o2, _, _, _⟩ := addCells TO2.out
      go_wp2_with fail
      refine (addThen_call s n s2 hs'.out HNn.out HS2.out _).mono ?_
      rintro e u3 ⟨rfl, s3⟩
      have TX3 := hid (addNewAt u3 s2)
      have TM3 := hid ((TM2.out.step s3).alloc (.cells #[.int .i64 3, .string ⟨#[107]⟩, .string (str (be 8 (s2)))] 23))
      have TO3 := hid ((TO2.out.step s3).alloc (.cells #[.int .i64 3, .string ⟨#[107]⟩, .string (str (be 8 (s2)))] 23))
      have TT3 := hid ((TT2.out.step s3).alloc (.cells #[.int .i64 3, .string ⟨#[107]⟩, .string (str (be 8 (s2)))] 23))
      have U3 := hid ((U2.out.trans s3).alloc (.cells #[.int .i64 3, .string ⟨#[107]⟩, .string (str (be 8 (s2)))] 23))
      clear s3 m0 m1 m2 o0 o1 o2
      obtain ⟨m0, m1, m2, _, _, _⟩ := addCells TM3.out
      obtain ⟨t0, t1, t2, _, _, _⟩ := addCells TT3.out
      go_wp2_with fail
      refine (addThen_call n s s2 HNn.out hs'.out (by rw [Nat.add_comm]; exact HS2.out) _).mono ?_
      rintro e u4 ⟨rfl, s4⟩
      have TY4 := hid (addNewAt u4 s2)
      have TX4 := hid ((TX3.out.step s4).alloc (.cells #[.int .i64 3, .string ⟨#[107]⟩, .string (str (be 8 (s2)))] 23))
      have TO4 := hid ((TO3.out.step s4).alloc (.cells #[.int .i64 3, .string ⟨#[107]⟩, .string (str (be 8 (s2)))] 23))
      have TT4 := hid ((TT3.out.step s4).alloc (.cells #[.int .i64 3, .string ⟨#[107]⟩, .string (str (be 8 (s2)))] 23))
      have U4 := hid ((U3.out.trans s4).alloc (.cells #[.int .i64 3, .string ⟨#[107]⟩, .string (str (be 8 (s2)))] 23))
      have hxo : Hid (bo < u4.heap.size) := lt_of_block (TO3.out.step s4)
      clear s4 m0 m1 m2 t0 t1 t2
      obtain ⟨x0, x1, x2, _, _, _⟩ := addCells TX4.out
      obtain ⟨o0, o1, o2, fo0, fo1, fo2⟩ := addCells TO4.out
      have n1 : Hid (bo ≠ bt) := by show _ ≠ _; have := hbt.out; omega
      have TY5 := hid (TY4.out.putOther (by have := hxo.out; omega : bo ≠ u4.heap.size) (.int .i64 3) (.string ⟨#[107]⟩) (.string (str (be 8 s2))))
      have TT5 := hid (TT4.out.putOther n1.out (.int .i64 3) (.string ⟨#[107]⟩) (.string (str (be 8 s2))))
      obtain ⟨y0, y1, y2, _, _, _⟩ := addCells TY5.out
      obtain ⟨t0, t1, t2, ft0, ft1, ft2⟩ := addCells TT5.out
      go_wp2_with fail
      go_roundw
      case rel =>
        have n2 : w.heap.size ≤ bt := by have := hbt.out; have := hbo.out; omega
        refine ⟨j + 1, s2, by omega, by have := HS2.out; omega, int_eq (by omega), rfl, by rw [HV2.out], ?_, ?_, ?_⟩
        · exact (addPut TO4.out s2).putOther (fun e => n1.out e.symm) _ _ _
        · exact addPut TT5.out s2
        · exact (U4.out.put3 bo hbo.out _ _ _).put3 bt n2 _ _ _
      case measure => simp [intOf]; omega
    · obtain rfl : j = ns.length := by omega
      obtain ⟨o0, o1, o2, _, _, _⟩ := addCells TO.out
      obtain ⟨V, eV⟩ : ∃ V, (first + s) % 18446744073709551616 = V := ⟨_, rfl⟩
      have HV := hid eV
      rw [eV]
      clear eV
      go_wp2_with fail
      refine (addApp_call s first V hs'.out HF.out HV.out _).mono ?_
      rintro e u1 ⟨rfl, s1⟩
      have TO1 := hid (TO.out.step s1)
      have TT1 := hid (TT.out.step s1)
      have U1 := hid (ST.out.trans s1)
      clear s1 o0 o1 o2
      obtain ⟨o0, o1, o2, _, _, _⟩ := addCells TO1.out
      obtain ⟨t0, t1, t2, _, _, _⟩ := addCells TT1.out
      go_wp2_with fail
      go_ret
      exact ⟨rfl, U1.out⟩
set_option maxHeartbeats 8000000 in
set_option maxRecDepth 100000 in
theorem adds_new (first : Nat) (hf : first < 18446744073709551616) (ns : List Nat) (hns : ∀ n ∈ ns, n < 18446744073709551616) (a : Option Addr) (cap : Nat) (w : World) (hrow : RowAt w noF a (u64s ns)) (h : ns.length ≤ 50) :
    Calls Try.prog 8 #[.int .u64 first, .slice a ns.length cap, .bool false] w fun e w' => e = .returned (.bool true) ∧ Step noF w w' := by
  have hE := same_str
  have hz8 : ∀ x : Nat, (str (be 8 x)).size = 8 := fun x => by rw [str_size, be_length]
  have hfd : ∀ (x : ByteArray) (u : World), (Instr.field 23 (.agg #[.int .i64 3, .string ⟨#[107]⟩, .string x]) 2).run Try.prog u = .ok (.string x) u := fun x u => rfl
  have HR := hid hrow
  have HN := hid hns
  have HF := hid hf
  clear hrow hns hf
  go_enter Try.func8, Try.ntmps8
  go_wp2_with fail
  refine (awake_any _).mono ?_
  rintro e w1 ⟨rfl, s1⟩
  have S1 := hid s1
  clear s1
  have S2 := S1
  go_wp2_with fail
  refine (addOf_call 0 (by omega) _).mono ?_
  rintro e w3 ⟨rfl, s3⟩
  have TO3 := hid (addNewAt w3 0)
  have S3 := hid ((S2.out.trans s3).alloc (.cells #[.int .i64 3, .string ⟨#[107]⟩, .string (str (be 8 (0)))] 23))
  have hbo : Hid (w.heap.size ≤ w3.heap.size) := (S2.out.trans s3).size
  clear s3
  obtain ⟨bo, ebo⟩ : ∃ bo, w3.heap.size = bo := ⟨_, rfl⟩
  rw [ebo] at TO3 hbo
  go_wp2_with fail
  try rw [ebo]
  refine (addOf_call 0 (by omega) _).mono ?_
  rintro e w4 ⟨rfl, s4⟩
  have TO4 := hid ((TO3.out.step s4).alloc (.cells #[.int .i64 3, .string ⟨#[107]⟩, .string (str (be 8 (0)))] 23))
  have TT4 := hid (addNewAt w4 0)
  have S4 := hid ((S3.out.trans s4).alloc (.cells #[.int .i64 3, .string ⟨#[107]⟩, .string (str (be 8 (0)))] 23))
  have hbt : Hid (bo < w4.heap.size) := lt_of_block (TO3.out.step s4)
  clear s4 ebo
  obtain ⟨bt, ebt⟩ : ∃ bt, w4.heap.size = bt := ⟨_, rfl⟩
  rw [ebt] at TT4 hbt
  obtain ⟨o0, o1, o2, _, _, _⟩ := addCells TO4.out
  go_wp2_with fail
  try rw [ebt]
  refine (addNew_call 0 _).mono ?_
  rintro e w5 ⟨rfl, s5⟩
  have TO5 := hid (TO4.out.step s5)
  have TT5 := hid (TT4.out.step s5)
  have S5 := hid (S4.out.trans s5)
  clear s5 o0 o1 o2 ebt
  go_wp2_with fail
  go_loopw [10, 11, 12] (fun v is i wr => ∃ j s : Nat, j ≤ ns.length ∧ s < 18446744073709551616 ∧ i = .int .i64 j ∧ is = .bool true ∧ v = .string (str (be 8 (s))) ∧ TripAt wr bo 23 (addM s) ∧ TripAt wr bt 23 (addM s) ∧ Step noF w wr) (fun _ _ i _ => ns.length - (intOf i).toNat)
  case atStart => exact ⟨0, 0, Nat.zero_le _, by omega, rfl, rfl, rfl, TO5.out, TT5.out, S5.out⟩
  case round =>
    obtain ⟨j, s, hj, hs, rfl, rfl, rfl, to, tt, st⟩ := hrel
    have TO := hid to
    have TT := hid tt
    have ST := hid st
    have hs' := hid hs
    clear to tt st hs
    by_cases hjl : j < ns.length
    · obtain ⟨g, off, rfl, hcell⟩ := u64s_at (HR.out.step ST.out) j hjl
      have hn := HN.out ns[j] (List.getElem_mem hjl)
      obtain ⟨n, en⟩ : ∃ n, ns[j] = n := ⟨_, rfl⟩
      rw [en] at hcell hn
      have HNn := hid hn
      obtain ⟨s2, es2⟩ : ∃ s2, (s + n) % 18446744073709551616 = s2 := ⟨_, rfl⟩
      have HS2 := hid es2
      obtain ⟨V2, eV2⟩ : ∃ V2, s2 = V2 := ⟨_, rfl⟩
      have HV2 := hid eV2
      obtain ⟨V, eV⟩ : ∃ V, s = V := ⟨_, rfl⟩
      have HV := hid eV
      rw [eV]
      clear en hn es2 eV2 eV
      go_wp2_with fail
      refine (addOf_call n HNn.out _).mono ?_
      rintro e u1 ⟨rfl, s1⟩
      have TM1 := hid (addNewAt u1 n)
      have TO1 := hid ((TO.out.step s1).alloc (.cells #[.int .i64 3, .string ⟨#[107]⟩, .string (str (be 8 (n)))] 23))
      have TT1 := hid ((TT.out.step s1).alloc (.cells #[.int .i64 3, .string ⟨#[107]⟩, .string (str (be 8 (n)))] 23))
      have U1 := hid ((ST.out.trans s1).alloc (.cells #[.int .i64 3, .string ⟨#[107]⟩, .string (str (be 8 (n)))] 23))
      clear s1 hcell
      obtain ⟨m0, m1, m2, _, _, _⟩ := addCells TM1.out
      go_wp2_with fail
      refine (addApp_call n V V2 HNn.out (by have := HV.out; have := HS2.out; have := hs'.out; have := HF.out; omega) (by have := HV.out; have := HV2.out; have := HS2.out; have := hs'.out; have := HF.out; have := HNn.out; omega) _).mono ?_
      rintro e u2 ⟨rfl, s2⟩
      have TM2 := hid (TM1.out.step s2)
      have TO2 := hid (TO1.out.step s2)
      have TT2 := hid (TT1.out.step s2)
      have U2 := hid (U1.out.trans s2)
      clear s2 m0 m1 m2
      obtain ⟨m0, m1, m2, _, _, _⟩ := addCells TM2.out
      obtain ⟨o0, o1, o2, _, _, _⟩ := addCells TO2.out
      go_wp2_with fail
      refine (addThen_call s n s2 hs'.out HNn.out HS2.out _).mono ?_
      rintro e u3 ⟨rfl, s3⟩
      have TX3 := hid (addNewAt u3 s2)
      have TM3 := hid ((TM2.out.step s3).alloc (.cells #[.int .i64 3, .string ⟨#[107]⟩, .string (str (be 8 (s2)))] 23))
      have TO3 := hid ((TO2.out.step s3).alloc (.cells #[.int .i64 3, .string ⟨#[107]⟩, .string (str (be 8 (s2)))] 23))
      have TT3 := hid ((TT2.out.step s3).alloc (.cells #[.int .i64 3, .string ⟨#[107]⟩, .string (str (be 8 (s2)))] 23))
      have U3 := hid ((U2.out.trans s3).alloc (.cells #[.int .i64 3, .string ⟨#[107]⟩, .string (str (be 8 (s2)))] 23))
      clear s3 m0 m1 m2 o0 o1 o2
      obtain ⟨m0, m1, m2, _, _, _⟩ := addCells TM3.out
      obtain ⟨t0, t1, t2, _, _, _⟩ := addCells TT3.out
      go_wp2_with fail
      refine (addThen_call n s s2 HNn.out hs'.out (by rw [Nat.add_comm]; exact HS2.out) _).mono ?_
      rintro e u4 ⟨rfl, s4⟩
      have TY4 := hid (addNewAt u4 s2)
      have TX4 := hid ((TX3.out.step s4).alloc (.cells #[.int .i64 3, .string ⟨#[107]⟩, .string (str (be 8 (s2)))] 23))
      have TO4 := hid ((TO3.out.step s4).alloc (.cells #[.int .i64 3, .string ⟨#[107]⟩, .string (str (be 8 (s2)))] 23))
      have TT4 := hid ((TT3.out.step s4).alloc (.cells #[.int .i64 3, .string ⟨#[107]⟩, .string (str (be 8 (s2)))] 23))
      have U4 := hid ((U3.out.trans s4).alloc (.cells #[.int .i64 3, .string ⟨#[107]⟩, .string (str (be 8 (s2)))] 23))
      have hxo : Hid (bo < u4.heap.size) := lt_of_block (TO3.out.step s4)
      clear s4 m0 m1 m2 t0 t1 t2
      obtain ⟨x0, x1, x2, _, _, _⟩ := addCells TX4.out
      obtain ⟨o0, o1, o2, fo0, fo1, fo2⟩ := addCells TO4.out
      have n1 : Hid (bo ≠ bt) := by show _ ≠ _; have := hbt.out; omega
      have TY5 := hid (TY4.out.putOther (by have := hxo.out; omega : bo ≠ u4.heap.size) (.int .i64 3) (.string ⟨#[107]⟩) (.string (str (be 8 s2))))
      have TT5 := hid (TT4.out.putOther n1.out (.int .i64 3) (.string ⟨#[107]⟩) (.string (str (be 8 s2))))
      obtain ⟨y0, y1, y2, _, _, _⟩ := addCells TY5.out
      obtain ⟨t0, t1, t2, ft0, ft1, ft2⟩ := addCells TT5.out
      go_wp2_with fail
      go_roundw
      case rel =>
        have n2 : w.heap.size ≤ bt := by have := hbt.out; have := hbo.out; omega
        refine ⟨j + 1, s2, by omega, by have := HS2.out; omega, int_eq (by omega), rfl, by rw [HV2.out], ?_, ?_, ?_⟩
        · exact (addPut TO4.out s2).putOther (fun e => n1.out e.symm) _ _ _
        · exact addPut TT5.out s2
        · exact (U4.out.put3 bo hbo.out _ _ _).put3 bt n2 _ _ _
      case measure => simp [intOf]; omega
    · obtain rfl : j = ns.length := by omega
      obtain ⟨o0, o1, o2, _, _, _⟩ := addCells TO.out
      go_wp2_with fail
      refine (addNew_call s _).mono ?_
      rintro e u1 ⟨rfl, s1⟩
      have TO1 := hid (TO.out.step s1)
      have TT1 := hid (TT.out.step s1)
      have U1 := hid (ST.out.trans s1)
      clear s1 o0 o1 o2
      obtain ⟨o0, o1, o2, _, _, _⟩ := addCells TO1.out
      obtain ⟨t0, t1, t2, _, _, _⟩ := addCells TT1.out
      go_wp2_with fail
      go_ret
      exact ⟨rfl, U1.out⟩
theorem adds_walk (first : Nat) (hf : first < 18446744073709551616) (ns : List Nat) (hns : ∀ n ∈ ns, n < 18446744073709551616) (a : Option Addr) (cap : Nat) (has : Bool) (w : World) (hrow : RowAt w noF a (u64s ns)) :
    Calls Try.prog 8 #[.int .u64 first, .slice a ns.length cap, .bool has] w fun e w' => e = .returned (.bool true) ∧ Step noF w w' := by
  by_cases h : ns.length ≤ 50
  · cases has
    · exact adds_new first hf ns hns a cap w hrow h
    · exact adds_has first hf ns hns a cap w hrow h
  · exact adds_long first ns a cap has w (by omega)
end Go.Proofs.Ythniannpamcajaa
