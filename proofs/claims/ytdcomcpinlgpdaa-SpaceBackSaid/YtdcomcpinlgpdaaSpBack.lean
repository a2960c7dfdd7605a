/-
  The walk of the law SpaceBack.
-/
import Derived.Test.YtdcomcpinlgpdaaSpAwake
namespace Go.Proofs.Ytdcomcpinlgpdaa
open Go.RowKit
set_option linter.unusedVariables false

/-- 'int(uint(z) % uint(m))'. -/
theorem mod_at (z : Int) (m : Nat) (h1 : 1 ≤ m) (h2 : m ≤ 1000) : ∃ j : Nat, wrap64 ((IntKind.u64.wrap z).tmod (m : Int)) = (j : Int) ∧ j < m := by
  have h0 := wrap_u64_nonneg z
  have e : (IntKind.u64.wrap z).tmod (m : Int) = (IntKind.u64.wrap z) % (m : Int) := Int.tmod_eq_emod_of_nonneg h0
  have l0 := Int.emod_nonneg (IntKind.u64.wrap z) (b := (m : Int)) (by omega)
  have l1 := Int.emod_lt_of_pos (IntKind.u64.wrap z) (b := (m : Int)) (by omega)
  refine ⟨((IntKind.u64.wrap z) % (m : Int)).toNat, ?_, by omega⟩
  rw [e]
  unfold wrap64
  omega

theorem parse_text (w : World) (l : List Bool) (k : Nat) (hl : l.length = k) (z : Int) (hz : z = k) (h1 : 1 ≤ k) (h2 : k ≤ 512) (T : ByteArray) (hT : str (textL l) = T) :
    Calls Try.prog 23 #[.int .i64 z, .string T] w fun e w' => ∃ q, w.heap.size ≤ q ∧ Step noF w w' ∧ IsSp w' q l ∧ e = .returned (.tuple #[.pointer (some ⟨q, 0, none⟩), .int .i64 0]) := by
  subst hT
  have hb : bitsL (str (textL l)).data.toList k = l := by rw [str_list, ← hl]; exact bits_text l
  refine (parse_go z k hz (str (textL l)) h1 h2 (by rw [str_size, textL_len, hl]) w).mono ?_
  rintro e w' ⟨q, hq, hs, hsp, rfl⟩
  rw [hb] at hsp
  refine ⟨q, hq, hs, hsp, ?_⟩
  rw [parseR_ok (by rw [hb, str_list])]
theorem str_ne {a b : List UInt8} (h : a ≠ b) : ((str a).toList == (str b).toList) = false := by
  rw [beq_eq_false_iff_ne]
  intro e
  rw [ByteArray.toList_eq, ByteArray.toList_eq, str_list, str_list] at e
  exact h e
/-- One block taken, or given. -/
theorem one_turn (b : Bool) (l : List Bool) (m : Nat) (hm : m < l.length) (h : l.getD m false = !b) : ∃ l', setE b l [((m : Int), 1)] = 0 ∧ setL b l [((m : Int), 1)] = l' ∧ l'.length = l.length ∧ decide (l = l') = false ∧ textL l ≠ textL l' := by
  have hg : ∀ d, l.getD m d = !b := fun d => by rw [getD_lt _ hm] at h ⊢; exact h
  obtain ⟨h1, h2, h3⟩ := set_one (b := b) (l := l) (x := ((m : Int), 1)) (inE_iff.2 ⟨by simp, by simp, by simp only; omega⟩) (fun k k1 k2 => by
    simp only at k1 k2
    obtain rfl : k = m := by omega
    rw [hg]; cases b <;> decide)
  have hne : l ≠ setL b l [((m : Int), 1)] := fun e => by
    have e1 := h3 m false
    rw [← e, if_pos (by simp only; omega), hg] at e1
    cases b <;> cases e1
  exact ⟨_, h1, rfl, h2, decide_eq_false hne, fun e => hne (textL_inj h2.symm e)⟩
theorem one_bad (b : Bool) (l : List Bool) (m : Nat) (hm : m < l.length) (h : l.getD m false = b) : setE b l [((m : Int), 1)] = 11 ∧ setL b l [((m : Int), 1)] = l :=
  set_one_bad (b := b) (l := l) (x := ((m : Int), 1)) (inE_iff.2 ⟨by simp, by simp, by simp only; omega⟩) m (by simp) (by simp only; omega) (by rw [getD_lt _ hm] at h ⊢; exact h)

set_option maxHeartbeats 4000000 in
set_option maxRecDepth 100000 in
theorem back_in (n : Int) (zs : List Int) (hz6 : zs.length ≤ 60) (a : Option Addr) (c : Nat) (more : Int) (w : World) (hz : RowAt w noF a (intsOf zs)) :
    Calls Try.prog 6 #[.int .i64 n, .slice a zs.length c, .int .i64 more] w fun e w' => e = .returned (.bool true) ∧ Step noF w w' := by
  have k1 : ¬ (60 : Int) < (zs.length : Int) := by omega
  obtain ⟨k0, hk0, hk1⟩ := mod_at n 512 (by omega) (by omega)
  replace hk0 : wrap64 ((IntKind.u64.wrap n).tmod 512) = (k0 : Int) := hk0
  obtain ⟨k, hk⟩ : ∃ k, 1 + k0 = k := ⟨_, rfl⟩
  have hkk : (1 : Int) + (k0 : Int) = (k : Int) := by omega
  have hk5 : 1 ≤ k ∧ k ≤ 512 := by omega
  obtain ⟨m, hm, hmk⟩ := mod_at more k hk5.1 (by omega)
  have HZ := hid hz
  clear hz hk
  go_enter Try.func6, Try.ntmps6
  go_wp2_with fail
  refine (awake_any _).mono ?_
  rintro e w1 ⟨rfl, s1⟩
  go_wp2_with fail
  refine (new_any _ k (by first | rfl | exact hkk) hk5.1 hk5.2 _).mono ?_
  rintro e w2 ⟨p, rfl, hp, s2, h2⟩
  have S2 := s1.trans s2
  have hpw : w.heap.size ≤ p := Nat.le_trans s1.size hp
  have H2 := hid h2
  clear h2 s1 s2 hp
  go_wp2_with fail
  go_loopw [9] (fun i wr => ∃ (j : Nat) (l : List Bool), j ≤ zs.length ∧ i = .int .i64 j ∧ Step noF w wr ∧ Hid (l.length = k) ∧ IsSp wr p l) (fun i _ => zs.length - (intOf i).toNat)
  case atStart => exact ⟨0, _, Nat.zero_le _, rfl, S2, List.length_replicate, H2.out⟩
  case round =>
    obtain ⟨j, l, hj, rfl, hst, hl, hsp⟩ := hrel
    by_cases hjn : j < zs.length
    · have hji : (j : Int) < (zs.length : Int) := by omega
      obtain ⟨b, off, rfl, hc⟩ := HZ.out.at j hjn
      replace hc := hst.after hc
      obtain ⟨z, hzj⟩ : ∃ z, zs[j] = z := ⟨_, rfl⟩
      rw [hzj] at hc
      obtain ⟨x, hx, hxk⟩ := mod_at z k hk5.1 (by omega)
      clear hzj
      go_wp2_with fail
      refine (ext_any _ 1 _).mono ?_
      rintro e w3 ⟨rfl, s3⟩
      go_wp2_with fail
      refine (give_any _ p l (by exact (hsp.step s3).step ((Step.refl _ _).alloc _)) _ _ _ [((x : Int), 1)] rfl (by exact extAt_new _ _ _ _ rfl) (small1 _ (by simp only; omega)) (by simp)).mono ?_
      rintro e w4 ⟨rfl, s4, h4⟩
      go_wp2_with fail
      go_roundw
      case rel => exact ⟨j + 1, _, by omega, int_eq (by omega), (((hst.trans s3).alloc _).then s4 (fun i hi => .inr (by unfold oneF at hi; omega))), (setL_len _ _ _).trans hl.out, h4⟩
      case measure => simp [intOf]; omega
    · obtain rfl : j = zs.length := by omega
      obtain ⟨T, hT⟩ : ∃ T, str (textL l) = T := ⟨_, rfl⟩
      have HT := hid hT
      clear hT
      go_wp2_with fail
      refine (text_call _ p l hsp T HT.out).mono ?_
      rintro e w3 ⟨rfl, s3⟩
      go_wp2_with fail
      refine (parse_text _ l k hl.out _ (by first | rfl | exact hkk) hk5.1 hk5.2 T HT.out).mono ?_
      rintro e w4 ⟨q, hq, s4, hq4, rfl⟩
      have hp4 := (hsp.step s3).step s4
      have S4 := (hst.trans s3).trans s4
      have hpq : p ≠ q := by have := (hsp.step s3).lt; omega
      have hqw : w.heap.size ≤ q := by have := (hst.trans s3).size; omega
      clear s3 s4 hsp hst hq
      go_wp2_with fail
      refine (same_call _ p q l l hp4 hq4 true (by simp)).mono ?_
      rintro e w5 ⟨rfl, s5⟩
      go_wp2_with fail
      refine (same_call _ q p l l (hq4.step s5) (hp4.step s5) true (by simp)).mono ?_
      rintro e w6 ⟨rfl, s6⟩
      have hp6 := (hp4.step s5).step s6
      have hq6 := (hq4.step s5).step s6
      have S6 := (S4.trans s5).trans s6
      have hml : Hid (m < l.length) := by show _ < _; have := hl.out; omega
      clear s5 s6 hp4 hq4 S4
      cases hb : l.getD m false
      · have hhas := has_call w6 p l hp6 (m : Int) false ((hasL_nat l m).trans hb)
        obtain ⟨l', e1, e2, e3, e4, e5⟩ := one_turn true l m hml.out hb
        obtain ⟨f1, f2⟩ := one_bad false l m hml.out hb
        clear hb
        go_wp2_with fail
        refine hhas.mono ?_
        rintro e w7 ⟨rfl, rfl⟩
        go_wp2_with fail
        refine (ext_any _ 1 _).mono ?_
        rintro e w7 ⟨rfl, s7⟩
        go_wp2_with fail
        refine (takeAt_call _ q l (by exact (hq6.step s7).step ((Step.refl _ _).alloc _)) _ _ _ [((m : Int), 1)] rfl (by exact extAt_new _ _ _ _ rfl) (small1 _ (by simp only; omega)) (by simp) 11 l f1 f2).mono ?_
        rintro e w8 ⟨rfl, s8, hq8⟩
        have hp8 := ((hp6.step s7).step ((Step.refl _ _).alloc (.cells #[.int .i64 m, .int .i64 1] 31))).other ((hq6.step s7).step ((Step.refl _ _).alloc _)) s8 hpq
        have S8 := ((S6.trans s7).alloc (.cells #[.int .i64 m, .int .i64 1] 31)).then s8 (fun i hi => .inr (by unfold oneF at hi; omega))
        clear s7 s8 hp6 hq6 S6
        go_wp2_with fail
        refine (ext_any _ 1 _).mono ?_
        rintro e w9 ⟨rfl, s9⟩
        go_wp2_with fail
        refine (give_call _ q l (by exact (hq8.step s9).step ((Step.refl _ _).alloc _)) _ _ _ [((m : Int), 1)] rfl (by exact extAt_new _ _ _ _ rfl) (small1 _ (by simp only; omega)) (by simp) 0 l' e1 e2).mono ?_
        rintro e w10 ⟨rfl, s10, hq10⟩
        have hp10 := ((hp8.step s9).step ((Step.refl _ _).alloc (.cells #[.int .i64 m, .int .i64 1] 31))).other ((hq8.step s9).step ((Step.refl _ _).alloc _)) s10 hpq
        have S10 := ((S8.trans s9).alloc (.cells #[.int .i64 m, .int .i64 1] 31)).then s10 (fun i hi => .inr (by unfold oneF at hi; omega))
        clear s9 s10 hp8 hq8 S8
        go_wp2_with fail
        refine (same_call _ p q l l' hp10 hq10 false e4).mono ?_
        rintro e w11 ⟨rfl, s11⟩
        go_wp2_with fail
        refine (same_nil _).mono ?_
        rintro e w12 ⟨rfl, rfl⟩
        go_wp2_with fail
        refine (same_half _ p).mono ?_
        rintro e w12 ⟨rfl, rfl⟩
        go_wp2_with fail
        go_ret
        exact ⟨rfl, S10.trans s11⟩
      · have hhas := has_call w6 p l hp6 (m : Int) true ((hasL_nat l m).trans hb)
        obtain ⟨l', e1, e2, e3, e4, e5⟩ := one_turn false l m hml.out hb
        obtain ⟨T2, hT2⟩ : ∃ T2, str (textL l') = T2 := ⟨_, rfl⟩
        have hne : (T.toList == T2.toList) = false := by rw [← HT.out, ← hT2]; exact str_ne e5
        have HT2 := hid hT2
        clear hb hT2
        go_wp2_with fail
        refine hhas.mono ?_
        rintro e w7 ⟨rfl, rfl⟩
        go_wp2_with fail
        refine (ext_any _ 1 _).mono ?_
        rintro e w7 ⟨rfl, s7⟩
        go_wp2_with fail
        refine (takeAt_call _ q l (by exact (hq6.step s7).step ((Step.refl _ _).alloc _)) _ _ _ [((m : Int), 1)] rfl (by exact extAt_new _ _ _ _ rfl) (small1 _ (by simp only; omega)) (by simp) 0 l' e1 e2).mono ?_
        rintro e w8 ⟨rfl, s8, hq8⟩
        have hp8 := ((hp6.step s7).step ((Step.refl _ _).alloc (.cells #[.int .i64 m, .int .i64 1] 31))).other ((hq6.step s7).step ((Step.refl _ _).alloc _)) s8 hpq
        have S8 := ((S6.trans s7).alloc (.cells #[.int .i64 m, .int .i64 1] 31)).then s8 (fun i hi => .inr (by unfold oneF at hi; omega))
        clear s7 s8 hp6 hq6 S6
        go_wp2_with fail
        refine (same_call _ p q l l' hp8 hq8 false e4).mono ?_
        rintro e w9 ⟨rfl, s9⟩
        go_wp2_with fail
        refine (text_call _ p l (hp8.step s9) T HT.out).mono ?_
        rintro e w10 ⟨rfl, s10⟩
        go_wp2_with fail
        refine (text_call _ q l' ((hq8.step s9).step s10) T2 HT2.out).mono ?_
        rintro e w11 ⟨rfl, s11⟩
        go_wp2_with fail
        go_ret
        exact ⟨rfl, ((S8.trans s9).trans s10).trans s11⟩

set_option maxHeartbeats 1000000 in
set_option maxRecDepth 100000 in
theorem back_walk (n : Int) (zs : List Int) (hzl : zs.length ≤ 9223372036854775807) (a : Option Addr) (c : Nat) (more : Int) (w : World) (hz : RowAt w noF a (intsOf zs)) :
    Calls Try.prog 6 #[.int .i64 n, .slice a zs.length c, .int .i64 more] w fun e w' => e = .returned (.bool true) ∧ Step noF w w' := by
  by_cases h : zs.length ≤ 60
  · exact back_in n zs h a c more w hz
  · have k1 : (60 : Int) < (zs.length : Int) := by omega
    clear h hz
    go_enter Try.func6, Try.ntmps6
    go_wp2_with fail
    refine (awake_any _).mono ?_
    rintro e w1 ⟨rfl, s1⟩
    go_wp2_with fail
    go_ret
    exact ⟨rfl, s1⟩
end Go.Proofs.Ytdcomcpinlgpdaa
