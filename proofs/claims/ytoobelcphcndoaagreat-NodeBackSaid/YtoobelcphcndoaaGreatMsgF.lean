/-
  What Read of package msg does; what was written is read as it was.
-/
import Derived.Test.YtoobelcphcndoaaGreatMsgE
namespace Go.Proofs.YtoobelcphcndoaaGreat
open Go.RowKit
set_option linter.unusedVariables false
set_option linter.unusedSimpArgs false

/-- What the reader gives: the three parts, what is left, and its word. -/
def rdM (l : List UInt8) : Mg := ⟨numVal 1 l, textVal 8 (numL 1 l), textVal 16 (textL 8 (numL 1 l))⟩
def rdL (l : List UInt8) : List UInt8 := textL 16 (textL 8 (numL 1 l))
def rdE (l : List UInt8) (e : Int) : Int := textE 16 (textL 8 (numL 1 l)) (textE 8 (numL 1 l) (numE 1 l e))
def rdOk (l : List UInt8) (e : Int) : Bool := decide (rdE l e = 0) && (rdM l).is

theorem textL_len (m : Int) (l : List UInt8) : (textL m l).length ≤ l.length := by
  unfold textL
  split
  · simp
  · exact Nat.le_trans (rawL_len _ _) (numL_len 1 l)
theorem rawV_len (n : Int) (l : List UInt8) : (rawV n l).length ≤ l.length := by
  unfold rawV
  split
  · rw [List.length_take]; omega
  · simp
theorem textVal_len (m : Int) (l : List UInt8) : (textVal m l).length ≤ l.length := by
  unfold textVal
  split
  · simp
  · exact Nat.le_trans (rawV_len _ _) (numL_len 1 l)

theorem spoil_any (p : Nat) (l : List UInt8) (e0 : Int) (w : World) (h : IsIn w p l e0) (hl : l.length ≤ maxLen) :
    Calls Tryz.prog 168 #[.pointer (some ⟨p, 0, none⟩)] w fun e w' => e = .returned (.tuple #[]) ∧ Step (oneF p) w w' ∧ IsIn w' p [] 5 := by
  have c := inRaw_any (-1) p l e0 w h hl
  have e1 : rawL (-1) l = [] := by rw [rawL, if_neg (by omega)]
  have e2 : rawE (-1) l e0 = 5 := by rw [rawE, if_neg (by omega)]
  rw [e1, e2] at c
  clear h
  go_enter Tryz.func168, Tryz.ntmps168
  go_wp2_with fail
  refine c.mono ?_
  rintro e w2 ⟨rfl, s2, i2⟩
  have S2 := hid s2
  have I2 := hid i2
  clear s2 i2
  go_wp2_with fail
  go_end0
  exact ⟨rfl, S2.out, I2.out⟩
theorem inText_call (most : Int) (p : Nat) (l : List UInt8) (e0 : Int) (w : World) (h : IsIn w p l e0) (hl : l.length ≤ maxLen) (r : List UInt8) (l2 : List UInt8) (e2 : Int) (h1 : textVal most l = r) (h2 : textL most l = l2) (h3 : textE most l e0 = e2) :
    Calls Tryz.prog 166 #[.pointer (some ⟨p, 0, none⟩), .int .i64 most] w fun e w' => e = .returned (.string (str r)) ∧ Step (oneF p) w w' ∧ IsIn w' p l2 e2 := by
  subst h1 h2 h3
  exact inText_any most p l e0 w h hl
theorem IsIn.putOther {w : World} {p q : Nat} {l : List UInt8} {e : Int} (h : IsIn w p l e) (hq : q ≠ p) (x y z : Value) : IsIn (((w.setCell ⟨q, 0, none⟩ x).setCell ⟨q, 1, none⟩ y).setCell ⟨q, 2, none⟩ z) p l e := by
  show _ = _
  rw [Below.heap_setCell _ _ _ _ (fun e => hq e.symm), Below.heap_setCell _ _ _ _ (fun e => hq e.symm), Below.heap_setCell _ _ _ _ (fun e => hq e.symm)]
  exact h

set_option maxHeartbeats 2000000 in
theorem read_any (p : Nat) (l : List UInt8) (e0 : Int) (w : World) (h : IsIn w p l e0) (hl : l.length ≤ maxLen) :
    Calls Tryz.prog 144 #[.pointer (some ⟨p, 0, none⟩)] w fun e w' => e = .returned (if rdOk l e0 then rdM l else Mg.zero).value ∧ Step (oneF p) w w' ∧ IsIn w' p (if rdOk l e0 then rdL l else []) (if rdOk l e0 then 0 else 5) := by
  have h0 := nil_str
  have hpl : Hid (p < w.heap.size) := lt_of_block h
  obtain ⟨k, hk⟩ : ∃ k, numVal 1 l = k := ⟨_, rfl⟩
  obtain ⟨l1, hl1⟩ : ∃ l1, numL 1 l = l1 := ⟨_, rfl⟩
  obtain ⟨e1, he1⟩ : ∃ e1, numE 1 l e0 = e1 := ⟨_, rfl⟩
  obtain ⟨x, hx⟩ : ∃ x, textVal 8 l1 = x := ⟨_, rfl⟩
  obtain ⟨l2, hl2⟩ : ∃ l2, textL 8 l1 = l2 := ⟨_, rfl⟩
  obtain ⟨e2, he2⟩ : ∃ e2, textE 8 l1 e1 = e2 := ⟨_, rfl⟩
  obtain ⟨y, hy⟩ : ∃ y, textVal 16 l2 = y := ⟨_, rfl⟩
  obtain ⟨l3, hl3⟩ : ∃ l3, textL 16 l2 = l3 := ⟨_, rfl⟩
  obtain ⟨e3, he3⟩ : ∃ e3, textE 16 l2 e2 = e3 := ⟨_, rfl⟩
  have b1 : l1.length ≤ maxLen := by rw [← hl1]; exact Nat.le_trans (numL_len 1 l) hl
  have b2 : l2.length ≤ maxLen := by rw [← hl2]; exact Nat.le_trans (textL_len 8 l1) b1
  have b3 : l3.length ≤ maxLen := by rw [← hl3]; exact Nat.le_trans (textL_len 16 l2) b2
  have b4 : y.length ≤ maxLen := by rw [← hy]; exact Nat.le_trans (textVal_len 16 l2) b2
  have hM : rdM l = ⟨k, x, y⟩ := by rw [rdM, hk, hl1, hx, hl2, hy]
  have hL : rdL l = l3 := by rw [rdL, hl1, hl2, hl3]
  have hE : rdE l e0 = e3 := by rw [rdE, hl1, hl2, he1, he2, he3]
  have hO : rdOk l e0 = (decide (e3 = 0) && (Mg.mk k x y).is) := by rw [rdOk, hM, hE]
  rw [hO, hM, hL]
  have H := hid h
  have HB := hid (And.intro hl (And.intro b1 (And.intro b2 (And.intro b3 b4))))
  have HQ := hid (And.intro hk (And.intro hl1 (And.intro he1 (And.intro hx (And.intro hl2 (And.intro he2 (And.intro hy (And.intro hl3 he3))))))))
  have cN := isNot_any ⟨k, x, y⟩ b4
  have e0' : (Mg.mk k x y).value = .agg #[.int .i64 k, .string (str x), .string (str y)] := rfl
  rw [e0'] at cN
  have T0 := hid (trip_new w 73 ⟨0, [], []⟩)
  have H1 := hid (H.out.alloc (.cells #[.int .i64 0, .string (str []), .string (str [])] 73))
  have S0 := hid ((Step.refl (oneF p) w).alloc (.cells #[.int .i64 0, .string (str []), .string (str [])] 73))
  have hne : Hid (¬ oneF p w.heap.size) := fun e => by have h1 : w.heap.size = p := e; have := hpl.out; omega
  clear h hl hk hl1 he1 hx hl2 he2 hy hl3 he3 b1 b2 b3 b4 hM hL hE hO e0'
  have walk : ∀ (Z : Mg) (lz : List UInt8) (ez : Int), ((e3 = 0 ∧ (Mg.mk k x y).is = true ∧ Z = ⟨k, x, y⟩ ∧ lz = l3 ∧ ez = 0) ∨ (¬ (e3 = 0 ∧ (Mg.mk k x y).is = true) ∧ Z = ⟨0, [], []⟩ ∧ lz = [] ∧ ez = 5)) →
      Calls Tryz.prog 144 #[.pointer (some ⟨p, 0, none⟩)] w fun e w' => e = .returned Z.value ∧ Step (oneF p) w w' ∧ IsIn w' p lz ez := by
    intro Z lz ez hcase
    have HC := hid hcase
    clear hcase
    go_enter Tryz.func144, Tryz.ntmps144
    go_wp2_with fail
    refine (inNum_call 1 p l e0 _ H1.out HB.out.1 k l1 e1 HQ.out.1 HQ.out.2.1 HQ.out.2.2.1).mono ?_
    rintro e w1 ⟨rfl, s1, i1⟩
    have T1 := hid (T0.out.keep s1 hne.out)
    have S1 := hid (S0.out.trans s1)
    have I1 := hid i1
    clear s1 i1 T0 S0 H1
    go_wp2_with fail
    refine (inText_call 8 p l1 e1 _ I1.out HB.out.2.1 x l2 e2 HQ.out.2.2.2.1 HQ.out.2.2.2.2.1 HQ.out.2.2.2.2.2.1).mono ?_
    rintro e w2 ⟨rfl, s2, i2⟩
    have T2 := hid (T1.out.keep s2 hne.out)
    have S2 := hid (S1.out.trans s2)
    have I2 := hid i2
    clear s2 i2 T1 S1 I1
    go_wp2_with fail
    refine (inText_call 16 p l2 e2 _ I2.out HB.out.2.2.1 y l3 e3 HQ.out.2.2.2.2.2.2.1 HQ.out.2.2.2.2.2.2.2.1 HQ.out.2.2.2.2.2.2.2.2).mono ?_
    rintro e w3 ⟨rfl, s3, i3⟩
    have T3 := hid ((T2.out.keep s3 hne.out).alloc (.cells #[.int .i64 k, .string (str x), .string (str y)] 73))
    have S3 := hid ((S2.out.trans s3).alloc (.cells #[.int .i64 k, .string (str x), .string (str y)] 73))
    have I3 := hid (i3.alloc (.cells #[.int .i64 k, .string (str x), .string (str y)] 73))
    have M3 := hid (trip_new w3 73 ⟨k, x, y⟩)
    have hpl3 : Hid (¬ oneF p w3.heap.size) := fun e => by have h1 : w3.heap.size = p := e; have := lt_of_block i3; omega
    clear s3 i3 T2 S2 I2
    go_wp2_with fail
    refine (err_any p l3 e3 _ I3.out).mono ?_
    rintro e w4 ⟨rfl, rfl⟩
    obtain ⟨m0, m1, m2, _, _, _⟩ := M3.out.all
    by_cases hz : e3 = 0
    · subst hz
      cases hi : (Mg.mk k x y).is
      · rw [hi] at cN HC
        clear hi
        obtain ⟨hZ, hlz, hez⟩ : Z = ⟨0, [], []⟩ ∧ lz = [] ∧ ez = 5 := by
          rcases HC.out with h | h
          · simp at h
          · exact h.2
        subst hZ hlz hez
        go_wp2_with fail
        refine (cN _).mono ?_
        rintro e w5 ⟨rfl, s5⟩
        have T5 := hid (T3.out.step s5)
        have I5 := hid (I3.out.mono s5 (fun h => h))
        have S5 := hid (S3.out.trans (s5.mono (fun _ h => h.elim)))
        clear s5 m0 m1 m2
        go_wp2_with fail
        refine (spoil_any p l3 0 _ I5.out HB.out.2.2.2.1).mono ?_
        rintro e w6 ⟨rfl, s6, i6⟩
        have T6 := hid (T5.out.keep s6 hne.out)
        have I6 := hid i6
        have S6 := hid (S5.out.trans s6)
        clear s6 i6
        obtain ⟨d0, d1, d2, f0, f1, f2⟩ := T6.out.all
        have T7 := hid (T6.out.put ⟨0, [], []⟩)
        obtain ⟨x0, x1, x2, _, _, _⟩ := T7.out.all
        go_wp2_with fail
        refine bodyPost_ret (v := .agg #[.int .i64 0, .string (str []), .string (str [])]) (by simp [results, Tryz.results144, go_sem, *]) rfl ⟨rfl, ?_, ?_⟩
        · exact S6.out.put3 _ (Nat.le_refl _) _ _ _
        · exact I6.out.putOther (by have := hpl.out; omega) _ _ _
      · rw [hi] at cN HC
        clear hi
        obtain ⟨hZ, hlz, hez⟩ : Z = ⟨k, x, y⟩ ∧ lz = l3 ∧ ez = 0 := by
          rcases HC.out with h | h
          · exact h.2.2
          · exact absurd ⟨rfl, rfl⟩ h.1
        subst hZ hlz hez
        go_wp2_with fail
        refine (cN _).mono ?_
        rintro e w5 ⟨rfl, s5⟩
        have T5 := hid (T3.out.step s5)
        have I5 := hid (I3.out.mono s5 (fun h => h))
        have M5 := hid (M3.out.step s5)
        have S5 := hid (S3.out.trans (s5.mono (fun _ h => h.elim)))
        clear s5 m0 m1 m2
        obtain ⟨m0, m1, m2, _, _, _⟩ := M5.out.all
        obtain ⟨d0, d1, d2, f0, f1, f2⟩ := T5.out.all
        have T7 := hid (T5.out.put ⟨k, x, y⟩)
        obtain ⟨x0, x1, x2, _, _, _⟩ := T7.out.all
        go_wp2_with fail
        refine bodyPost_ret (v := .agg #[.int .i64 k, .string (str x), .string (str y)]) (by simp [results, Tryz.results144, go_sem, *]) rfl ⟨rfl, ?_, ?_⟩
        · exact S5.out.put3 _ (Nat.le_refl _) _ _ _
        · exact I5.out.putOther (by have := hpl.out; omega) _ _ _
    · obtain ⟨hZ, hlz, hez⟩ : Z = ⟨0, [], []⟩ ∧ lz = [] ∧ ez = 5 := by
        rcases HC.out with h | h
        · exact absurd h.1 hz
        · exact h.2
      subst hZ hlz hez
      have gz : (e3 == 0) = false := by rw [beq_eq_false_iff_ne]; exact hz
      clear HC
      go_wp2_with fail
      refine (spoil_any p l3 e3 _ I3.out HB.out.2.2.2.1).mono ?_
      rintro e w6 ⟨rfl, s6, i6⟩
      have T6 := hid (T3.out.keep s6 hne.out)
      have I6 := hid i6
      have S6 := hid (S3.out.trans s6)
      clear s6 i6 m0 m1 m2
      obtain ⟨d0, d1, d2, f0, f1, f2⟩ := T6.out.all
      have T7 := hid (T6.out.put ⟨0, [], []⟩)
      obtain ⟨x0, x1, x2, _, _, _⟩ := T7.out.all
      go_wp2_with fail
      refine bodyPost_ret (v := .agg #[.int .i64 0, .string (str []), .string (str [])]) (by simp [results, Tryz.results144, go_sem, *]) rfl ⟨rfl, ?_, ?_⟩
      · exact S6.out.put3 _ (Nat.le_refl _) _ _ _
      · exact I6.out.putOther (by have := hpl.out; omega) _ _ _
  cases hc : (decide (e3 = 0) && (Mg.mk k x y).is)
  · have h3 : ¬ (e3 = 0 ∧ (Mg.mk k x y).is = true) := by
      rintro ⟨h1, h2⟩
      rw [h2, h1] at hc
      simp at hc
    exact walk Mg.zero [] 5 (.inr ⟨h3, rfl, rfl, rfl⟩)
  · have h3 : e3 = 0 ∧ (Mg.mk k x y).is = true := by simpa using hc
    exact walk ⟨k, x, y⟩ l3 0 (.inl ⟨h3.1, h3.2, rfl, rfl, rfl⟩)

/-- What was written is read as it was. -/
theorem text_back (most : Nat) (hm : most ≤ 255) (l rest : List UInt8) (hl : l.length ≤ most) (e : Int) :
    textVal most (txtL l ++ rest) = l ∧ textL most (txtL l ++ rest) = rest ∧ textE most (txtL l ++ rest) e = e := by
  have ht : txtL l ++ rest = be 1 l.length ++ (l ++ rest) := by simp [txtL, be]
  obtain ⟨n1, n2, n3⟩ := num_app 1 (.inl rfl) l.length (by omega) (by omega) (l ++ rest) e
  obtain ⟨r1, r2, r3⟩ := raw_app l.length l rest rfl e
  have e1 : numVal 1 (txtL l ++ rest) = l.length := by rw [ht]; exact n1
  have e2 : numL 1 (txtL l ++ rest) = l ++ rest := by rw [ht]; exact n2
  have e3 : numE 1 (txtL l ++ rest) e = e := by rw [ht]; exact n3
  have hmm : ¬ (most : Int) < numVal 1 (txtL l ++ rest) := by rw [e1]; omega
  refine ⟨?_, ?_, ?_⟩
  · rw [textVal, if_neg hmm, e1, e2, r1]
  · rw [textL, if_neg hmm, e1, e2, r2]
  · rw [textE, if_neg hmm, e1, e2, e3, r3]
theorem read_back (m : Mg) (h : m.is = true) (rest : List UInt8) : rdM (m.bytes ++ rest) = m ∧ rdL (m.bytes ++ rest) = rest ∧ rdOk (m.bytes ++ rest) 0 = true := by
  have hk := kind_in h
  have hx := Mg.key_le h
  have hy := Mg.val_le h
  have hb : m.bytes ++ rest = be 1 m.kind.toNat ++ (txtL m.key ++ (txtL m.val ++ rest)) := by simp [Mg.bytes]
  obtain ⟨n1, n2, n3⟩ := num_app 1 (.inl rfl) m.kind.toNat (by omega) (by omega) (txtL m.key ++ (txtL m.val ++ rest)) 0
  obtain ⟨x1, x2, x3⟩ := text_back 8 (by omega) m.key (txtL m.val ++ rest) hx 0
  obtain ⟨y1, y2, y3⟩ := text_back 16 (by omega) m.val rest hy 0
  rw [show ((1 : Nat) : Int) = 1 from rfl] at n1 n2 n3
  rw [show ((8 : Nat) : Int) = 8 from rfl] at x1 x2 x3
  rw [show ((16 : Nat) : Int) = 16 from rfl] at y1 y2 y3
  have hM : rdM (m.bytes ++ rest) = m := by
    rw [hb]
    unfold rdM
    rw [n1, n2, x1, x2, y1]
    exact Mg.ext' (by show ((m.kind.toNat : Nat) : Int) = m.kind; omega) rfl rfl
  refine ⟨hM, ?_, ?_⟩
  · rw [hb, rdL, n2, x2, y2]
  · rw [rdOk, hM, h]
    have : rdE (m.bytes ++ rest) 0 = 0 := by rw [hb, rdE, n2, n3, x2, x3, y3]
    simp [this]
theorem read_good (m : Mg) (h : m.is = true) (rest : List UInt8) (p : Nat) (w : World) (hi : IsIn w p (m.bytes ++ rest) 0) (hl : (m.bytes ++ rest).length ≤ maxLen) :
    Calls Tryz.prog 144 #[.pointer (some ⟨p, 0, none⟩)] w fun e w' => e = .returned m.value ∧ Step (oneF p) w w' ∧ IsIn w' p rest 0 := by
  have c := read_any p _ 0 w hi hl
  obtain ⟨h1, h2, h3⟩ := read_back m h rest
  rw [h3, h1, h2] at c
  exact c
theorem read_nil (w : World) : Calls Tryz.prog 144 #[.pointer none] w fun e w' => e = .returned Mg.zero.value ∧ Step noF w w' := by
  have h0 := nil_str
  have T0 := hid (trip_new w 73 ⟨0, [], []⟩)
  have hs : ∀ u, Calls Tryz.prog 168 #[.pointer none] u fun e w' => e = .returned (.tuple #[]) ∧ u = w' := fun u => by
    go_enter Tryz.func168, Tryz.ntmps168
    go_wp2_with fail
    refine (inRaw_nil _ _).mono ?_
    rintro e w2 ⟨rfl, rfl⟩
    go_wp2_with fail
    go_end0
    exact ⟨rfl, rfl⟩
  go_enter Tryz.func144, Tryz.ntmps144
  go_wp2_with fail
  refine (inNum_nil _ _).mono ?_
  rintro e w1 ⟨rfl, rfl⟩
  go_wp2_with fail
  refine (inText_nil _ _).mono ?_
  rintro e w1 ⟨rfl, rfl⟩
  go_wp2_with fail
  refine (inText_nil _ _).mono ?_
  rintro e w1 ⟨rfl, rfl⟩
  go_wp2_with fail
  refine (err_nil _).mono ?_
  rintro e w1 ⟨rfl, rfl⟩
  go_wp2_with fail
  refine (hs _).mono ?_
  rintro e w1 ⟨rfl, rfl⟩
  have T3 := hid (T0.out.alloc (.cells #[.int .i64 0, .string (str []), .string (str [])] 73))
  obtain ⟨d0, d1, d2, f0, f1, f2⟩ := T3.out.all
  have T7 := hid (T3.out.put ⟨0, [], []⟩)
  obtain ⟨x0, x1, x2, _, _, _⟩ := T7.out.all
  go_wp2_with fail
  refine bodyPost_ret (v := .agg #[.int .i64 0, .string (str []), .string (str [])]) (by simp [results, Tryz.results144, go_sem, *]) rfl ⟨rfl, ?_⟩
  exact ((Step.refl noF w).alloc _).alloc _
end Go.Proofs.YtoobelcphcndoaaGreat
