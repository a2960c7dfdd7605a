/-
  What an Out does with rows of numbers and texts: Num, Text.
-/
import Derived.Test.YtclaagihmpghnaaPenB
namespace Go.Proofs.Ytclaagihmpghnaa
open Go.RowKit
set_option linter.unusedVariables false

/-- All of them can be. -/
def numV (wd : Int) (zs : List Int) : Bool := isW wd && zs.all (fitB wd.toNat)
/-- What Num writes. -/
def numB (wd : Int) (zs : List Int) : List UInt8 := if numV wd zs then zs.flatMap (fun z => be wd.toNat z.toNat) else []

theorem flat_len (k : Nat) (l : List Int) : (l.flatMap (fun z => be k z.toNat)).length = l.length * k := by
  induction l with
  | nil => simp
  | cons a l ih => simp [be_length, ih, Nat.add_mul]; omega

set_option maxHeartbeats 400000 in
theorem num_nil (wd : Int) (a : Option Addr) (len cap : Nat) (w : World) : Calls Try.prog 102 #[.pointer none, .int .i64 wd, .slice a len cap] w fun e w' => e = .returned (.int .i64 2) ∧ w = w' := by
  go_enter Try.func102, Try.ntmps102
  go_wp2
  go_ret
  exact ⟨rfl, rfl⟩

set_option maxHeartbeats 400000 in
theorem num_wide (wd : Int) (hw : isW wd = false) (a : Option Addr) (len cap p : Nat) (w : World) : Calls Try.prog 102 #[.pointer (some ⟨p, 0, none⟩), .int .i64 wd, .slice a len cap] w fun e w' => e = .returned (.int .i64 1) ∧ w = w' := by
  go_enter Try.func102, Try.ntmps102
  go_wp2_with (go_at_call 110; refine (isWidth_any _ _).mono ?_; rintro e w' ⟨rfl, rfl⟩)
  go_ret
  exact ⟨rfl, rfl⟩

set_option maxHeartbeats 1000000 in
theorem num_in (k : Nat) (hk : k = 1 ∨ k = 2 ∨ k = 4 ∨ k = 8) (zs : List Int) (hz : inI64 zs) (hzl : zs.length ≤ 1000) (a : Option Addr) (cap : Nat) (p : Nat) (F : Nat → Prop) (bs : List UInt8) (w : World) (ho : IsOut w p F bs) (hb : bs.length ≤ 900000)
    (hr : RowAt w F a (intsOf zs)) :
    Calls Try.prog 102 #[.pointer (some ⟨p, 0, none⟩), .int .i64 k, .slice a zs.length cap] w fun e w' =>
      (zs.all (fitB k) = false ∧ e = .returned (.int .i64 1) ∧ w' = w) ∨ (zs.all (fitB k) = true ∧ e = .returned (.int .i64 0) ∧ OutPost w p F (bs ++ zs.flatMap (fun z => be k z.toNat)) w') := by
  have hw : isW (k : Int) = true := by rw [isW_iff]; omega
  have hcells : ∀ j (h : j < zs.length), ∃ b off, a = some ⟨b, off, none⟩ ∧ ¬ F b ∧ w.cell? ⟨b, off + j, none⟩ = some (.int .i64 zs[j]) := by
    intro j h
    rcases hr with h0 | ⟨b, off, rfl, hF, hc⟩
    · have : zs.length = 0 := by simpa [intsOf] using congrArg List.length h0
      omega
    · exact ⟨b, off, rfl, hF, by simpa [intsOf] using hc j (by simpa [intsOf] using h)⟩
  clear hr
  go_enter Try.func102, Try.ntmps102
  go_wp2_with (go_at_call 110; refine (isWidth_any _ _).mono ?_; rintro e w' ⟨rfl, rfl⟩)
  go_loop [18] (fun i => ∃ j : Nat, j ≤ zs.length ∧ i = .int .i64 j ∧ Hid (∀ q (h : q < zs.length), q < j → fitB k zs[q] = true)) (fun i => zs.length - (intOf i).toNat)
  case atStart => exact ⟨0, Nat.zero_le _, rfl, fun q h h2 => by omega⟩
  case round =>
    obtain ⟨j, hj, rfl, hall⟩ := hrel
    by_cases hlt : j < zs.length
    · obtain ⟨b, off, rfl, hF, hc⟩ := hcells j hlt
      have hr := hz zs[j] (List.getElem_mem hlt)
      have HC := hid hcells
      clear hcells
      cases hfb : fitB k zs[j]
      · have hA : Hid (zs.all (fitB k) = false) := by
          show _ = _
          rw [List.all_eq_false]
          exact ⟨zs[j], List.getElem_mem hlt, by simp [hfb]⟩
        go_wp2_with (go_at_call 113; refine (fits_any k hk _ (by omega) (by omega) _).mono ?_; rintro e w' ⟨rfl, rfl⟩)
        go_ret
        exact .inl ⟨hA.out, rfl, rfl⟩
      · have hA : Hid (∀ q (h : q < zs.length), q < j + 1 → fitB k zs[q] = true) := by
          intro q h h2
          by_cases e : q = j
          · subst e; exact hfb
          · exact hall.out q h (by omega)
        go_wp2_with (go_at_call 113; refine (fits_any k hk _ (by omega) (by omega) _).mono ?_; rintro e w' ⟨rfl, rfl⟩)
        go_round
        case rel => exact ⟨j + 1, by omega, by go_num, hA⟩
        case measure => simp [intOf]; omega
    · have hA : Hid (zs.all (fitB k) = true) := by
        show _ = _
        rw [List.all_eq_true]
        intro z hz
        obtain ⟨q, h, rfl⟩ := List.getElem_of_mem hz
        exact hall.out q h (by omega)
      have HC := hid hcells
      clear hcells
      go_wp2
      go_loopw [29] (fun i wr => ∃ (j : Nat) (F' : Nat → Prop), j ≤ zs.length ∧ i = .int .i64 j ∧ Step F w wr ∧ IsOut wr p F' (bs ++ (zs.take j).flatMap (fun z => be k z.toNat)) ∧ (∀ q, F' q → F q ∨ w.heap.size ≤ q)) (fun i _ => zs.length - (intOf i).toNat)
      case atStart => exact ⟨0, F, Nat.zero_le _, rfl, Step.refl _ _, by simpa using ho, fun q hq => .inl hq⟩
      case round =>
        obtain ⟨j2, F', hj2, rfl, hst, hout, hF'⟩ := hrel
        by_cases hlt2 : j2 < zs.length
        · obtain ⟨b, off, rfl, hF, hc⟩ := HC.out j2 hlt2
          have hr := hz zs[j2] (List.getElem_mem hlt2)
          have hbl : b < w.heap.size := World.block_lt_of_cell? w _ hc
          have hc2 : wr.cell? ⟨b, off + j2, none⟩ = some (.int .i64 zs[j2]) := (hst.cell (p := ⟨b, off + j2, none⟩) hF hbl).trans hc
          have hn0 : fitB k zs[j2] = true := by
            have := hA.out
            rw [List.all_eq_true] at this
            exact this _ (List.getElem_mem hlt2)
          have hn1 : 0 ≤ zs[j2] := by unfold fitB at hn0; simp at hn0; exact hn0.1
          obtain ⟨n, hn⟩ := Int.eq_ofNat_of_zero_le hn1
          have HE : Hid (bs ++ (zs.take j2).flatMap (fun z => be k z.toNat) ++ be k n = bs ++ (zs.take (j2 + 1)).flatMap (fun z => be k z.toNat)) := by
            show _ = _
            rw [List.take_succ_eq_append_getElem hlt2, List.flatMap_append, List.append_assoc, hn]
            simp
          have hlen : ((zs.take j2).flatMap (fun z => be k z.toNat)).length ≤ 8 * 1000 := by
            rw [flat_len]
            have : (zs.take j2).length * k ≤ 1000 * 8 := Nat.mul_le_mul (by rw [List.length_take]; omega) (by omega)
            omega
          have hl3 : Hid ((bs ++ (zs.take j2).flatMap (fun z => be k z.toNat)).length ≤ 1000000) := by show _ ≤ _; rw [List.length_append]; omega
          rw [hn] at hc2 hr
          clear hn0 hn1 hn hc hlen
          go_wp2_with (go_at_call 114; refine (number_any k hk n (by omega) p F' _ _ hout hl3.out).mono ?_; rintro e w2 ⟨rfl, F2, s1, s2, s3⟩)
          rw [HE.out] at s2
          go_roundw
          case rel => exact ⟨j2 + 1, F2, by omega, by go_num, hst.then s1 hF', s2, fun q hq => by rcases s3 q hq with x | x; exact hF' q x; exact .inr (Nat.le_trans hst.size x)⟩
          case measure => simp [intOf]; omega
        · go_wp2
          go_ret
          refine .inr ⟨hA.out, rfl, F', hst, ?_, hF'⟩
          rw [List.take_of_length_le (by omega)] at hout
          exact hout

theorem num_any (wd : Int) (zs : List Int) (hz : inI64 zs) (hzl : zs.length ≤ 1000) (a : Option Addr) (cap : Nat) (p : Nat) (F : Nat → Prop) (bs : List UInt8) (w : World) (ho : IsOut w p F bs) (hb : bs.length ≤ 900000)
    (hr : RowAt w F a (intsOf zs)) :
    Calls Try.prog 102 #[.pointer (some ⟨p, 0, none⟩), .int .i64 wd, .slice a zs.length cap] w fun e w' =>
      e = .returned (.int .i64 (if numV wd zs then 0 else 1)) ∧ OutPost w p F (bs ++ numB wd zs) w' := by
  cases hw : isW wd
  · refine (num_wide wd hw a _ cap p w).mono ?_
    rintro e w' ⟨rfl, rfl⟩
    have h1 : numV wd zs = false := by simp [numV, hw]
    simp only [numB, h1]
    exact ⟨rfl, by simpa using OutPost.same ho⟩
  · have hk := (isW_iff wd).1 hw
    obtain ⟨k, rfl⟩ := Int.eq_ofNat_of_zero_le (show 0 ≤ wd by omega)
    refine (num_in k (by omega) zs hz hzl a cap p F bs w ho hb hr).mono ?_
    rintro e w' (⟨h1, rfl, rfl⟩ | ⟨h1, rfl, h2⟩)
    · have h3 : numV (k : Int) zs = false := by simp only [numV, hw, Int.toNat_natCast, h1]; rfl
      simp only [numB, h3]
      exact ⟨rfl, by simpa using OutPost.same ho⟩
    · have h3 : numV (k : Int) zs = true := by simp only [numV, hw, Int.toNat_natCast, h1]; rfl
      simp only [numB, h3]
      exact ⟨rfl, by simpa using h2⟩

/-- A text's bytes. -/
def txt (t : ByteArray) : List UInt8 := UInt8.ofNat t.size :: t.data.toList
def textV (ts : List ByteArray) : Bool := ts.all (fun t => decide (t.size ≤ 255))
def textB (ts : List ByteArray) : List UInt8 := if textV ts then ts.flatMap txt else []
theorem flat_txt_len (l : List ByteArray) (h : ∀ t ∈ l, t.size ≤ 255) : (l.flatMap txt).length ≤ l.length * 256 := by
  induction l with
  | nil => simp
  | cons a l ih =>
    have h1 := ih (fun t ht => h t (List.mem_cons_of_mem _ ht))
    have h2 := h a List.mem_cons_self
    have e : a.data.toList.length = a.size := by rw [Array.length_toList]; rfl
    simp only [List.flatMap_cons, List.length_append, txt, List.length_cons, e] at h1 ⊢
    omega

theorem flat_txt_le (ts : List ByteArray) (j : Nat) (h : ts.length ≤ 1000) (hall : ∀ t ∈ ts, t.size ≤ 255) : ((ts.take j).flatMap txt).length ≤ 256000 := by
  have h1 := flat_txt_len (ts.take j) (fun t ht => hall t (List.mem_of_mem_take ht))
  have h2 : (ts.take j).length ≤ 1000 := by rw [List.length_take]; omega
  generalize ((ts.take j).flatMap txt).length = x at *
  generalize (ts.take j).length = y at *
  omega

end Go.Proofs.Ytclaagihmpghnaa
