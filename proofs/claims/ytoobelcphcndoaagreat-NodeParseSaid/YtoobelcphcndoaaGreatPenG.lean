/-
  What the document's own reader does (grangerref01.In): Raw, Num, Text.
-/
import Derived.Test.YtoobelcphcndoaaGreatPenE
namespace Go.Proofs.YtoobelcphcndoaaGreat
open Go.RowKit
set_option linter.unusedVariables false

/-- The document's reader at block p: e is 0, or 5. -/
structure IsRef (w : World) (p : Nat) (l : List UInt8) (e : Int) : Prop where
  blk : w.heap[p]? = some (.cells #[.string (str l), .bool (e == 5)] 106 (0, 0))
  two : e = 0 ∨ e = 5
  bad : e = 5 → l = []
theorem IsRef.c0 {w : World} {p : Nat} {l : List UInt8} {e : Int} (h : IsRef w p l e) : w.cell? ⟨p, 0, none⟩ = some (.string (str l)) := by simpa using cell_of_block h.blk 0
theorem IsRef.c1 {w : World} {p : Nat} {l : List UInt8} {e : Int} (h : IsRef w p l e) : w.cell? ⟨p, 1, none⟩ = some (.bool (e == 5)) := by simpa using cell_of_block h.blk 1
theorem IsRef.f {w : World} {p : Nat} {l : List UInt8} {e : Int} (h : IsRef w p l e) (j : Nat) : w.frozen? ⟨p, j, none⟩ = false := frozen_of_block h.blk j
theorem IsRef.mono {w w' : World} {p : Nat} {l : List UInt8} {e : Int} {G : Nat → Prop} (h : IsRef w p l e) (hs : Step G w w') (hd : ¬ G p) : IsRef w' p l e := ⟨(hs.block p (lt_of_block h.blk) hd).trans h.blk, h.two, h.bad⟩

theorem rawE_two {n : Int} {l : List UInt8} {e : Int} (h : e = 0 ∨ e = 5) : rawE n l e = 0 ∨ rawE n l e = 5 := by unfold rawE; split <;> simp [h]
theorem rawE_bad {n : Int} {l : List UInt8} {e : Int} (h : e = 5 → l = []) : rawE n l e = 5 → rawL n l = [] := by
  unfold rawE rawL
  split
  · intro h2; simp [h h2]
  · simp

set_option maxHeartbeats 400000 in
theorem refRaw_any (n : Int) (p : Nat) (l : List UInt8) (e0 : Int) (w : World) (h : IsRef w p l e0) (hl : l.length ≤ maxLen) :
    Calls Tryz.prog 104 #[.pointer (some ⟨p, 0, none⟩), .int .i64 n] w fun e w' => e = .returned (.string (str (rawV n l))) ∧ Step (oneF p) w w' ∧ IsRef w' p (rawL n l) (rawE n l e0) := by
  unfold maxLen at hl
  have c0 := h.c0
  have c1 := h.c1
  have f0 := h.f 0
  have f1 := h.f 1
  have hsz := str_size l
  have hext := str_extract l
  have HT := hid (rawE_two (n := n) (l := l) h.two)
  have HBad := hid (rawE_bad (n := n) h.bad)
  generalize hs : str l = s at c0 hsz hext
  by_cases hn : 0 ≤ n ∧ n ≤ l.length
  · obtain ⟨k, rfl⟩ := Int.eq_ofNat_of_zero_le hn.1
    have hk : k ≤ s.size := by omega
    have e1 : Hid (s.extract 0 k = str (rawV k l)) := by show _ = _; rw [hext]; simp [rawV]; rw [if_pos (by omega)]
    have e2 : Hid (s.extract k s.size = str (rawL k l)) := by show _ = _; rw [hext, hsz]; simp [rawL]; rw [if_pos (by omega)]
    have e3 : Hid (rawE k l e0 = e0) := by show _ = _; simp [rawE]; intro; omega
    have H := hid h
    have hs2 : s.size ≤ 9223372036854775807 := by omega
    rcases h.two with h0 | h0
    · have hb : (e0 == 5) = false := by simp [h0]
      clear h hext hs hsz hn h0
      go_enter Tryz.func104, Tryz.ntmps104
      go_wp2
      go_ret
      refine ⟨ret_str e1.out, (Step.refl (oneF p) _).setOne _ _, ?_, HT.out, HBad.out⟩
      rw [e2.out, e3.out]
      have := block_setCell H.out.blk 0 (.string (str (rawL k l)))
      simpa using this
    · have hb : (e0 == 5) = true := by simp [h0]
      have hl0 : l = [] := h.bad h0
      have e4 : Hid (str [] = str (rawV k l) ∧ rawL k l = [] ∧ rawE k l e0 = 5) := by simp [Hid, rawV, rawL, rawE, hl0, h0]
      clear h hext hs hsz hn h0 hl0
      go_enter Tryz.func104, Tryz.ntmps104
      go_wp2
      go_ret
      refine ⟨ret_str e4.out.1, ((Step.refl (oneF p) _).setOne _ _).setOne _ _, ?_, HT.out, HBad.out⟩
      rw [e4.out.2.1, e4.out.2.2]
      have := block_setCell (block_setCell H.out.blk 1 (.bool true)) 0 (.string (str []))
      simp at this
      exact this
  · have hn2 : n < 0 ∨ (s.size : Int) < n := by omega
    have e4 : Hid (str [] = str (rawV n l) ∧ rawL n l = [] ∧ rawE n l e0 = 5) := ⟨by rw [rawV, if_neg hn], by rw [rawL, if_neg hn], by rw [rawE, if_neg hn]⟩
    have H := hid h
    clear h hext hs hsz hn
    have fin : Hid (∀ w' : World, w' = (w.setCell ⟨p, 1, none⟩ (.bool true)).setCell ⟨p, 0, none⟩ (.string (str [])) → Step (oneF p) w w' ∧ IsRef w' p (rawL n l) (rawE n l e0)) := by
      rintro w' rfl
      refine ⟨((Step.refl (oneF p) _).setOne _ _).setOne _ _, ?_, HT.out, HBad.out⟩
      rw [e4.out.2.1, e4.out.2.2]
      have := block_setCell (block_setCell H.out.blk 1 (.bool true)) 0 (.string (str []))
      simpa using this
    cases hb : (e0 == 5)
    · rcases hn2 with hn2 | hn2
      · go_enter Tryz.func104, Tryz.ntmps104
        go_wp2
        go_ret
        exact ⟨ret_str e4.out.1, fin.out _ rfl⟩
      · have hn3 : ¬ n < 0 := by omega
        go_enter Tryz.func104, Tryz.ntmps104
        go_wp2
        go_ret
        exact ⟨ret_str e4.out.1, fin.out _ rfl⟩
    · go_enter Tryz.func104, Tryz.ntmps104
      go_wp2
      go_ret
      exact ⟨ret_str e4.out.1, fin.out _ rfl⟩

theorem beN_foldl (a : Nat) (l : List UInt8) : a ≤ l.foldl (fun a b => a * 256 + b.toNat) a := by
  induction l generalizing a with
  | nil => simp
  | cons b l ih => simp only [List.foldl_cons]; have := ih (a * 256 + b.toNat); omega
theorem beN_take (j : Nat) (l : List UInt8) : beN (l.take j) ≤ beN l := by
  have h : beN l = (l.drop j).foldl (fun a b => a * 256 + b.toNat) (beN (l.take j)) := by
    unfold beN
    rw [← List.foldl_append, List.take_append_drop]
  rw [h]
  exact beN_foldl _ _

theorem IsRef.step {w w' : World} {p : Nat} {l : List UInt8} {e : Int} (h : IsRef w p l e) (hs : Step noF w w') : IsRef w' p l e := h.mono hs (fun x => x)

theorem rawNeg (l : List UInt8) (e : Int) : rawV (-1) l = [] ∧ rawL (-1) l = [] ∧ rawE (-1) l e = 5 := by simp [rawV, rawL, rawE]

set_option maxHeartbeats 400000 in
theorem refInNum_wide (wd : Int) (hw : isW wd = false) (p : Nat) (l : List UInt8) (e0 : Int) (w : World) (h : IsRef w p l e0) (hl : l.length ≤ maxLen) :
    Calls Tryz.prog 56 #[.pointer (some ⟨p, 0, none⟩), .int .i64 wd] w fun e w' => e = .returned (.int .i64 0) ∧ Step (oneF p) w w' ∧ IsRef w' p [] 5 := by
  have H := hid h
  have hx : ¬ (wd = 1 ∨ wd = 2 ∨ wd = 4 ∨ wd = 8) := by rw [← isW_iff, hw]; simp
  have h1 : (wd != 1) = true := by simp; omega
  have h2 : (wd != 2) = true := by simp; omega
  have h4 : (wd != 4) = true := by simp; omega
  have h8 : (wd != 8) = true := by simp; omega
  have HR := hid (rawNeg l e0)
  clear h hx hw
  go_enter Tryz.func56, Tryz.ntmps56
  go_wp2_with (go_at_call 104; refine (refRaw_any (-1) p l e0 _ H.out hl).mono ?_; rintro e w2 ⟨rfl, hst, hin⟩; rw [HR.out.2.1, HR.out.2.2] at hin)
  go_ret
  exact ⟨rfl, hst, hin⟩

set_option maxHeartbeats 1000000 in
theorem refInNum_in (k : Nat) (hk : k = 1 ∨ k = 2 ∨ k = 4 ∨ k = 8) (p : Nat) (l : List UInt8) (e0 : Int) (w : World) (h : IsRef w p l e0) (hl : l.length ≤ maxLen) :
    Calls Tryz.prog 56 #[.pointer (some ⟨p, 0, none⟩), .int .i64 k] w fun e w' => Step (oneF p) w w' ∧
      ((beN (rawV k l) ≤ 9223372036854775807 ∧ e = .returned (.int .i64 (beN (rawV k l))) ∧ IsRef w' p (rawL k l) (rawE k l e0)) ∨ (9223372036854775807 < beN (rawV k l) ∧ e = .returned (.int .i64 0) ∧ IsRef w' p [] 5)) := by
  have hvl : (rawV (k : Int) l).length ≤ 8 := by unfold rawV; split <;> simp; omega
  have hl2 : Hid ((rawL (k : Int) l).length ≤ maxLen) := Nat.le_trans (rawL_len _ _) hl
  have HR := hid (rawNeg (rawL (k : Int) l) (rawE k l e0))
  have HRaw := hid (refRaw_any k p l e0 w h hl)
  clear h
  generalize rawV (k : Int) l = t at *
  obtain ⟨s, hs, hst0, HS⟩ : ∃ s, s = str t ∧ s.size = t.length ∧ Hid (∀ j (h : j < s.size) (h2 : j < t.length), s[j]'h = t[j]'h2) :=
    ⟨str t, rfl, str_size t, fun j h h2 => by simp [str, ByteArray.getElem_eq_getElem_data]⟩
  rw [← hs] at HRaw
  clear hs
  rcases hk with rfl | rfl | rfl | rfl
  all_goals
    go_enter Tryz.func56, Tryz.ntmps56
    go_wp2_with (go_at_call 104; refine HRaw.out.mono ?_; rintro e w2 ⟨rfl, hst, hin⟩; have HI := hid hin; clear hin)
    go_loop [6, 7] (fun n i => ∃ j : Nat, j ≤ t.length ∧ i = .int .i64 j ∧ n = .int .i64 (beN (t.take j)) ∧ beN (t.take j) ≤ 9223372036854775807) (fun _ i => t.length - (intOf i).toNat)
    case atStart => exact ⟨0, Nat.zero_le _, rfl, rfl, by simp [beN]⟩
    case round =>
      obtain ⟨j, hj, rfl, rfl, hle⟩ := hrel
      by_cases hlt : j < t.length
      · have hsn : beN (t.take (j + 1)) = beN (t.take j) * 256 + t[j].toNat := by rw [List.take_succ_eq_append_getElem hlt, beN_snoc]
        have hmo := beN_take (j + 1) t
        have hb2 := UInt8.toNat_lt t[j]
        have hlt2 : j < s.size := by omega
        have HB : Hid (s[j].toNat = t[j].toNat) := by show _ = _; rw [HS.out j hlt2 hlt]
        by_cases hbig : 36028797018963967 < beN (t.take j)
        · have hgt : 9223372036854775807 < beN t := by omega
          clear hsn hmo hb2 hle
          generalize beN (t.take j) = x at *
          go_wp2_with (go_at_call 104; refine (refRaw_any (-1) p _ _ _ HI.out hl2.out).mono ?_; rintro e w3 ⟨rfl, hst2, hin2⟩; rw [HR.out.2.1, HR.out.2.2] at hin2)
          go_ret
          exact ⟨hst.trans hst2, .inr ⟨hgt, rfl, hin2⟩⟩
        · have hin : Hid (beN (t.take (j + 1)) ≤ 9223372036854775807) := by show _ ≤ _; omega
          have HSn := hid hsn
          have hb3 : s[j].toNat < 256 := UInt8.toNat_lt s[j]
          clear hsn hmo hb2 hle
          generalize beN (t.take j) = x at *
          go_wp2
          go_round
          case rel => exact ⟨j + 1, by omega, by go_num, int_eq (by rw [HSn.out, ← HB.out]; simp), hin.out⟩
          case measure => simp [intOf]; omega
      · have hj2 : t.take j = t := List.take_of_length_le (by omega)
        rw [hj2] at hle ⊢
        go_wp2
        go_ret
        exact ⟨hst, .inl ⟨rfl, HI.out⟩⟩

theorem refInNum_any (wd : Int) (p : Nat) (l : List UInt8) (e0 : Int) (w : World) (h : IsRef w p l e0) (hl : l.length ≤ maxLen) :
    Calls Tryz.prog 56 #[.pointer (some ⟨p, 0, none⟩), .int .i64 wd] w fun e w' => e = .returned (.int .i64 (numVal wd l)) ∧ Step (oneF p) w w' ∧ IsRef w' p (numL wd l) (numE wd l e0) := by
  cases hw : isW wd
  · refine (refInNum_wide wd hw p l e0 w h hl).mono ?_
    rintro e w' ⟨rfl, h1, h2⟩
    have h3 : numOk wd l = false := by simp [numOk, hw]
    simp only [numVal, numL, numE, h3]
    exact ⟨rfl, h1, h2⟩
  · have hk := (isW_iff wd).1 hw
    obtain ⟨k, rfl⟩ := Int.eq_ofNat_of_zero_le (show 0 ≤ wd by omega)
    refine (refInNum_in k (by omega) p l e0 w h hl).mono ?_
    rintro e w' ⟨h1, (⟨h2, rfl, h3⟩ | ⟨h2, rfl, h3⟩)⟩
    · have h4 : numOk (k : Int) l = true := by simp [numOk, hw, h2]
      simp only [numVal, numL, numE, h4]
      exact ⟨rfl, h1, h3⟩
    · have h4 : numOk (k : Int) l = false := by simp [numOk]; intro _; omega
      simp only [numVal, numL, numE, h4]
      exact ⟨rfl, h1, h3⟩

set_option maxHeartbeats 400000 in
theorem refInText_any (most : Int) (p : Nat) (l : List UInt8) (e0 : Int) (w : World) (h : IsRef w p l e0) (hl : l.length ≤ maxLen) :
    Calls Tryz.prog 57 #[.pointer (some ⟨p, 0, none⟩), .int .i64 most] w fun e w' => e = .returned (.string (str (textVal most l))) ∧ Step (oneF p) w w' ∧ IsRef w' p (textL most l) (textE most l e0) := by
  have HN := hid (refInNum_any 1 p l e0 w h hl)
  clear h
  have hl2 : Hid ((numL 1 l).length ≤ maxLen) := Nat.le_trans (numL_len 1 l) hl
  generalize hl1 : numL 1 l = l1 at HN hl2
  generalize he1 : numE 1 l e0 = e1 at HN
  generalize hn1 : numVal 1 l = n1 at HN
  have hT : Hid (textVal most l = (if most < n1 then [] else rawV n1 l1) ∧ textL most l = (if most < n1 then [] else rawL n1 l1) ∧ textE most l e0 = (if most < n1 then 5 else rawE n1 l1 e1)) := by
    subst hl1 he1 hn1; exact ⟨rfl, rfl, rfl⟩
  have HR := hid (rawNeg l1 e1)
  clear hl1 he1 hn1
  cases hb : (e1 == 5)
  · by_cases hm : most < n1
    · have hE : Hid (textVal most l = [] ∧ textL most l = [] ∧ textE most l e0 = 5) := by have := hT.out; simpa only [if_pos hm, Hid] using this
      rw [hE.out.1, hE.out.2.1, hE.out.2.2]
      go_enter Tryz.func57, Tryz.ntmps57
      go_wp2_with (first | (go_at_call 56; refine HN.out.mono ?_; rintro e w2 ⟨rfl, hst, hin⟩; have HI := hid hin; have c1 := hin.c1; clear hin) | (go_at_call 104; refine (refRaw_any (-1) p _ _ _ HI.out hl2.out).mono ?_; rintro e w3 ⟨rfl, hst2, hin2⟩; rw [HR.out.1, HR.out.2.1, HR.out.2.2] at *))
      go_ret
      exact ⟨rfl, hst.trans hst2, hin2⟩
    · have hE : Hid (textVal most l = rawV n1 l1 ∧ textL most l = rawL n1 l1 ∧ textE most l e0 = rawE n1 l1 e1) := by have := hT.out; simpa only [if_neg hm, Hid] using this
      rw [hE.out.1, hE.out.2.1, hE.out.2.2]
      go_enter Tryz.func57, Tryz.ntmps57
      go_wp2_with (first | (go_at_call 56; refine HN.out.mono ?_; rintro e w2 ⟨rfl, hst, hin⟩; have HI := hid hin; have c1 := hin.c1; clear hin) | (go_at_call 104; refine (refRaw_any _ p _ _ _ HI.out hl2.out).mono ?_; rintro e w3 ⟨rfl, hst2, hin2⟩))
      go_ret
      exact ⟨rfl, hst.trans hst2, hin2⟩
  · have he5 : e1 = 5 := by simpa using hb
    have HE : Hid (l1 = [] → textVal most l = rawV n1 l1 ∧ textL most l = rawL n1 l1 ∧ textE most l e0 = rawE n1 l1 e1) := by
      intro h0
      obtain ⟨t1, t2, t3⟩ := hT.out
      rw [t1, t2, t3, h0, he5]
      split <;> simp [rawV, rawL, rawE]
    have hE5 := hid he5
    clear he5
    go_enter Tryz.func57, Tryz.ntmps57
    go_wp2_with (first | (go_at_call 56; refine HN.out.mono ?_; rintro e w2 ⟨rfl, hst, hin⟩; have HI := hid hin; have c1 := hin.c1; clear hin) | (go_at_call 104; refine (refRaw_any _ p _ _ _ HI.out hl2.out).mono ?_; rintro e w3 ⟨rfl, hst2, hin2⟩))
    go_ret
    obtain ⟨t1, t2, t3⟩ := HE.out (HI.out.bad hE5.out)
    rw [t1, t2, t3]
    exact ⟨rfl, hst.trans hst2, hin2⟩
end Go.Proofs.YtoobelcphcndoaaGreat
