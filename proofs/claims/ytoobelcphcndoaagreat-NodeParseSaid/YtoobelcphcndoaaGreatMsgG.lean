/-
  What the reference's Read does.
-/
import Derived.Test.YtoobelcphcndoaaGreatMsgA
import Derived.Test.YtoobelcphcndoaaGreatMsgD
import Derived.Test.YtoobelcphcndoaaGreatPenG
namespace Go.Proofs.YtoobelcphcndoaaGreat
open Go.RowKit
set_option linter.unusedVariables false
set_option linter.unusedSimpArgs false

theorem TripAt.kind0 {w : World} {g : Nat} {t : TypeId} {m : Mg} (h : TripAt w g t m) (k : Int) : TripAt (w.setCell ⟨g, 0, none⟩ (.int .i64 k)) g t ⟨k, m.key, m.val⟩ := by
  have h1 := block_setCell h 0 (.int .i64 k)
  simpa [TripAt] using h1
theorem TripAt.val2 {w : World} {g : Nat} {t : TypeId} {m : Mg} (h : TripAt w g t m) (x : List UInt8) : TripAt (w.setCell ⟨g, 2, none⟩ (.string (str x))) g t ⟨m.kind, m.key, x⟩ := by
  have h1 := block_setCell h 2 (.string (str x))
  simpa [TripAt] using h1
theorem IsRef.set {w : World} {p q : Nat} {l : List UInt8} {e : Int} (h : IsRef w p l e) (hq : q ≠ p) (j : Nat) (v : Value) : IsRef (w.setCell ⟨q, j, none⟩ v) p l e :=
  h.mono (G := oneF q) ((Step.refl (oneF q) w).setCell (p := ⟨q, j, none⟩) (.inl rfl) v) (fun e => hq (show p = q from e).symm)

set_option maxHeartbeats 2000000 in
theorem refRead_any (p : Nat) (l : List UInt8) (e0 : Int) (w : World) (h : IsRef w p l e0) (hl : l.length ≤ maxLen) :
    Calls Tryz.prog 58 #[.pointer (some ⟨p, 0, none⟩)] w fun e w' => e = .returned (if (rdM l).is then rdM l else Mg.zero).value ∧ Step (oneF p) w w' ∧ IsRef w' p (if (rdM l).is then rdL l else []) (if (rdM l).is then rdE l e0 else 5) := by
  have h0 := nil_str
  have hpl : Hid (p < w.heap.size) := lt_of_block h.blk
  have b1 : (numL 1 l).length ≤ maxLen := Nat.le_trans (numL_len 1 l) hl
  have b2 : (textL 8 (numL 1 l)).length ≤ maxLen := Nat.le_trans (textL_len 8 _) b1
  have b3 : (textL 16 (textL 8 (numL 1 l))).length ≤ maxLen := Nat.le_trans (textL_len 16 _) b2
  have HB := hid (And.intro hl (And.intro b1 (And.intro b2 b3)))
  obtain ⟨k, hk⟩ : ∃ k, numVal 1 l = k := ⟨_, rfl⟩
  obtain ⟨l1, hl1⟩ : ∃ l1, numL 1 l = l1 := ⟨_, rfl⟩
  obtain ⟨e1, he1⟩ : ∃ e1, numE 1 l e0 = e1 := ⟨_, rfl⟩
  obtain ⟨x, hx⟩ : ∃ x, textVal 8 l1 = x := ⟨_, rfl⟩
  obtain ⟨l2, hl2⟩ : ∃ l2, textL 8 l1 = l2 := ⟨_, rfl⟩
  obtain ⟨e2, he2⟩ : ∃ e2, textE 8 l1 e1 = e2 := ⟨_, rfl⟩
  obtain ⟨y, hy⟩ : ∃ y, textVal 16 l2 = y := ⟨_, rfl⟩
  obtain ⟨l3, hl3⟩ : ∃ l3, textL 16 l2 = l3 := ⟨_, rfl⟩
  obtain ⟨e3, he3⟩ : ∃ e3, textE 16 l2 e2 = e3 := ⟨_, rfl⟩
  have hM : rdM l = ⟨k, x, y⟩ := by rw [rdM, hk, hl1, hx, hl2, hy]
  have hL : rdL l = l3 := by rw [rdL, hl1, hl2, hl3]
  have hE : rdE l e0 = e3 := by rw [rdE, hl1, hl2, he1, he2, he3]
  rw [hl1, hl2, hl3] at HB
  rw [hM, hL, hE]
  clear hL hE
  have cN := refInNum_any 1 p l e0
  have cX := refInText_any 8 p l1 e1
  have cY := refInText_any 16 p l2 e2
  rw [hk, hl1, he1] at cN
  rw [hx, hl2, he2] at cX
  rw [hy, hl3, he3] at cY
  have cS := refRaw_any (-1) p l3 e3
  have cI := refMis_any ⟨k, x, y⟩
  have e9 : (Mg.mk k x y).value = .agg #[.int .i64 k, .string (str x), .string (str y)] := rfl
  rw [e9] at cI
  have H := hid h
  obtain ⟨W, hW⟩ : ∃ W, (w.alloc (.cells #[.int .i64 0, .string (str []), .string (str [])] 73)).alloc (.cells #[.int .i64 0, .string (str []), .string (str [])] 73) = W := ⟨_, rfl⟩
  obtain ⟨ta, tb, sw⟩ := trip2 w 73 ⟨0, [], []⟩ ⟨0, [], []⟩
  have TA : Hid (TripAt W w.heap.size 73 ⟨0, [], []⟩) := by show TripAt _ _ _ _; rw [← hW]; exact ta
  have TB : Hid (TripAt W (w.heap.size + 1) 73 ⟨0, [], []⟩) := by show TripAt _ _ _ _; rw [← hW]; exact tb
  have SW : Hid (Step noF w W) := by show Step _ _ _; rw [← hW]; exact sw
  have HW := hid hW
  have HR := hid (H.out.step SW.out)
  have hA : Hid (¬ oneF p w.heap.size) := fun e => by have h1 : w.heap.size = p := e; have := hpl.out; omega
  have hB : Hid (¬ oneF p (w.heap.size + 1)) := fun e => by have h1 : w.heap.size + 1 = p := e; have := hpl.out; omega
  have hB2 : Hid (w.heap.size + 1 ≠ p) := by show _ ≠ _; have := hpl.out; omega
  have hAB : Hid (w.heap.size + 1 ≠ w.heap.size) := by show _ ≠ _; omega
  have hge : Hid (w.heap.size ≤ w.heap.size + 1) := Nat.le_succ _
  clear h hl b1 b2 b3 ta tb sw hW hk hl1 he1 hx hl2 he2 hy hl3 he3 hM
  have hpp : Hid (w.heap.size ≠ p) := by show _ ≠ _; have := hpl.out; omega
  have walk : ∀ (Z : Mg) (lz : List UInt8) (ez : Int), (((Mg.mk k x y).is = true ∧ Z = ⟨k, x, y⟩ ∧ lz = l3 ∧ ez = e3) ∨ ((Mg.mk k x y).is = false ∧ Z = ⟨0, [], []⟩ ∧ lz = [] ∧ ez = 5)) →
      Calls Tryz.prog 58 #[.pointer (some ⟨p, 0, none⟩)] w fun e w' => e = .returned Z.value ∧ Step (oneF p) w w' ∧ IsRef w' p lz ez := by
    intro Z lz ez hcase
    have HC := hid hcase
    clear hcase
    go_enter Tryz.func58, Tryz.ntmps58
    go_wp2_with fail
    rw [HW.out]
    refine (cN _ HR.out HB.out.1).mono ?_
    rintro e w1 ⟨rfl, s1, r1⟩
    have TA1 := hid ((TA.out.keep s1 hA.out).other1 hAB.out 0 (.int .i64 k))
    have tb1 := TB.out.keep s1 hB.out
    obtain ⟨b0, b1, b2, fb0, fb1, fb2⟩ := tb1.all
    have TB1 := hid (tb1.kind0 k)
    have S1 : Hid (Step (oneF p) w (w1.setCell ⟨w.heap.size + 1, 0, none⟩ (.int .i64 k))) := ((SW.out.mono (fun _ h => h.elim)).trans s1).setCell (p := ⟨w.heap.size + 1, 0, none⟩) (.inr hge.out) _
    have R1 := hid (IsRef.set r1 hB2.out 0 (.int .i64 k))
    clear s1 r1 tb1
    go_wp2_with fail
    refine (cX _ R1.out HB.out.2.1).mono ?_
    rintro e w2 ⟨rfl, s2, r2⟩
    clear b0 b1 b2 fb0 fb1 fb2
    have TA2 := hid ((TA1.out.keep s2 hA.out).other1 hAB.out 1 (.string (str x)))
    have tb2 := TB1.out.keep s2 hB.out
    obtain ⟨b0, b1, b2, fb0, fb1, fb2⟩ := tb2.all
    have TB2 := hid (tb2.key1 x)
    have S2 : Hid (Step (oneF p) w (w2.setCell ⟨w.heap.size + 1, 1, none⟩ (.string (str x)))) := (S1.out.trans s2).setCell (p := ⟨w.heap.size + 1, 1, none⟩) (.inr hge.out) _
    have R2 := hid (IsRef.set r2 hB2.out 1 (.string (str x)))
    clear s2 r2 tb2
    go_wp2_with fail
    refine (cY _ R2.out HB.out.2.2.1).mono ?_
    rintro e w3 ⟨rfl, s3, r3⟩
    clear b0 b1 b2 fb0 fb1 fb2
    have TA3 := hid ((TA2.out.keep s3 hA.out).other1 hAB.out 2 (.string (str y)))
    have tb3 := TB2.out.keep s3 hB.out
    obtain ⟨b0, b1, b2, fb0, fb1, fb2⟩ := tb3.all
    have TB3 := hid (tb3.val2 y)
    obtain ⟨c0, c1, c2, _, _, _⟩ := TB3.out.all
    have S3 : Hid (Step (oneF p) w (w3.setCell ⟨w.heap.size + 1, 2, none⟩ (.string (str y)))) := (S2.out.trans s3).setCell (p := ⟨w.heap.size + 1, 2, none⟩) (.inr hge.out) _
    have R3 := hid (IsRef.set r3 hB2.out 2 (.string (str y)))
    clear s3 r3 tb3
    go_wp2_with fail
    refine (cI _).mono ?_
    rintro e w4 ⟨rfl, s4⟩
    have TA4 := hid (TA3.out.step s4)
    have TB4 := hid (TB3.out.step s4)
    have R4 := hid (R3.out.step s4)
    have S4 : Hid (Step (oneF p) w w4) := S3.out.trans (s4.mono (fun _ h => h.elim))
    clear s4 b0 b1 b2 fb0 fb1 fb2 c0 c1 c2
    cases hi : (Mg.mk k x y).is
    · rw [hi] at HC
      clear hi
      obtain ⟨rfl, rfl, rfl⟩ : Z = ⟨0, [], []⟩ ∧ lz = [] ∧ ez = 5 := by
        rcases HC.out with h | h
        · simp at h
        · exact h.2
      go_wp2_with fail
      refine (cS _ R4.out HB.out.2.2.2).mono ?_
      rintro e w5 ⟨rfl, s5, r5⟩
      have TA5 := hid (TA4.out.keep s5 hA.out)
      have S5 := hid (S4.out.trans s5)
      rw [(rawNeg l3 e3).2.1, (rawNeg l3 e3).2.2] at r5
      have R5 := hid r5
      clear s5 r5
      obtain ⟨d0, d1, d2, f0, f1, f2⟩ := TA5.out.all
      have T7 := hid (TA5.out.put ⟨0, [], []⟩)
      obtain ⟨x0, x1, x2, _, _, _⟩ := T7.out.all
      go_wp2_with fail
      refine bodyPost_ret (v := .agg #[.int .i64 0, .string (str []), .string (str [])]) (by simp [results, Tryz.results58, go_sem, *]) rfl ⟨rfl, ?_, ?_⟩
      · exact S5.out.put3 _ (Nat.le_refl _) _ _ _
      · exact ((R5.out.set hpp.out 0 _).set hpp.out 1 _).set hpp.out 2 _
    · rw [hi] at HC
      clear hi
      obtain ⟨rfl, rfl, rfl⟩ : Z = ⟨k, x, y⟩ ∧ lz = l3 ∧ ez = e3 := by
        rcases HC.out with h | h
        · exact h.2
        · simp at h
      obtain ⟨c0, c1, c2, _, _, _⟩ := TB4.out.all
      obtain ⟨d0, d1, d2, f0, f1, f2⟩ := TA4.out.all
      have T7 := hid (TA4.out.put ⟨k, x, y⟩)
      obtain ⟨x0, x1, x2, _, _, _⟩ := T7.out.all
      go_wp2_with fail
      refine bodyPost_ret (v := .agg #[.int .i64 k, .string (str x), .string (str y)]) (by simp [results, Tryz.results58, go_sem, *]) rfl ⟨rfl, ?_, ?_⟩
      · exact S4.out.put3 _ (Nat.le_refl _) _ _ _
      · exact ((R4.out.set hpp.out 0 _).set hpp.out 1 _).set hpp.out 2 _
  cases hi : (Mg.mk k x y).is
  · exact walk Mg.zero [] 5 (.inr ⟨hi, rfl, rfl, rfl⟩)
  · exact walk ⟨k, x, y⟩ l3 e3 (.inl ⟨hi, rfl, rfl, rfl⟩)
end Go.Proofs.YtoobelcphcndoaaGreat
