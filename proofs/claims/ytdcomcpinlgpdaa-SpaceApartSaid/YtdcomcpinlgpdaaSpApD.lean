/-
  Pieces of the law SpaceApart: what is owned and what is free are all.
-/
import Derived.Test.YtdcomcpinlgpdaaSpApC
namespace Go.Proofs.Ytdcomcpinlgpdaa
open Go.RowKit
set_option linter.unusedVariables false
set_option linter.unusedSimpArgs false

theorem has_quiet {w : World} {n : Nat} (p : Nat) (l : List Bool) (h : IsSp w p l) (z : Int) (r : Bool) (hr : hasL l z = r) : Calls Try.prog 22 #[.pointer (some ⟨p, 0, none⟩), .int .i64 z] (w.drewN n) fun e w'' => e = .returned (.bool r) ∧ ∃ m, w'' = w.drewN m :=
  Calls.quiet_of_same ((has_call (w.drewN n) p l (h.step ((Step.refl noF w).drewN n)) z r hr).mono fun e w' hh => ⟨hh.1, hh.2.symm⟩)

set_option maxHeartbeats 4000000 in
set_option maxRecDepth 100000 in
theorem q36_any (k p go j : Nat) (mv av bv : Value) (w : World) (Q : Exit → Act → World → Prop) (a : Act) (ha : KnP (baseP k p go j mv av bv) a) (hend : ∀ a', KnP ((19, .int .i64 0) :: baseP k p go j mv av bv) a' → Q .normal a' w) :
    Code.wp Try.prog (navP [1, 1, 1, 1, 1, 1, 1, 1, 0, 1, 0, 0, 1, 0, 0, 1, 1, 1, 1, 1, 1, 0] (Try.f5.body.getD .skip)) Q a w := by
  obtain ⟨f, rfl, hf⟩ := ha.open
  have h1 : f 1 = av := hf (1, _) (by simp [baseP])
  have h2 : f 2 = bv := hf (2, _) (by simp [baseP])
  have h7 : f 7 = .int .i64 k := hf (7, _) (by simp [baseP])
  have h8 : f 8 = .pointer (some ⟨p, 0, none⟩) := hf (8, _) (by simp [baseP])
  have h9 : f 9 = mv := hf (9, _) (by simp [baseP])
  have h10 : f 10 = .slice (some ⟨go, 0, none⟩) k k := hf (10, _) (by simp [baseP])
  have h11 : f 11 = .int .i64 j := hf (11, _) (by simp [baseP])
  simp only [frP, h1, h2, h7, h8, h9, h10, h11]
  clear hf ha h1 h2 h7 h8 h9 h10 h11
  conv => arg 2; whnf
  have HE := hid hend
  clear hend
  go_wp2_with fail
  refine HE.out _ ?_
  refine ⟨rfl, rfl, ?_⟩
  intro y hy
  simp only [baseP, List.mem_cons, List.not_mem_nil, or_false] at hy
  rcases hy with rfl | rfl | rfl | rfl | rfl | rfl | rfl | rfl <;> rfl

set_option maxHeartbeats 8000000 in
set_option maxRecDepth 100000 in
theorem p37_any (k p go j : Nat) (mv av bv : Value) (w : World) (l : List Bool) (hsp : IsSp w p l) (hl : l.length = k) (hk : k ≤ 512) (hrow : RowIn w go 4 (bools (nots l))) (Q : Exit → Act → World → Prop) (a : Act) (ha : KnP ((19, .int .i64 0) :: baseP k p go j mv av bv) a)
    (hend : ∀ a' w', KnP ((19, .int .i64 (((nots l).take k).count true : Nat)) :: baseP k p go j mv av bv) a' → Step noF w w' → Q .normal a' w') :
    Code.wp Try.prog (navP [1, 1, 1, 1, 1, 1, 1, 1, 0, 1, 0, 0, 1, 0, 0, 1, 1, 1, 1, 1, 1, 1, 0] (Try.f5.body.getD .skip)) Q a w := by
  obtain ⟨f, rfl, hf⟩ := ha.open
  have h1 : f 1 = av := hf (1, _) (by simp [baseP])
  have h2 : f 2 = bv := hf (2, _) (by simp [baseP])
  have h7 : f 7 = .int .i64 k := hf (7, _) (by simp [baseP])
  have h8 : f 8 = .pointer (some ⟨p, 0, none⟩) := hf (8, _) (by simp [baseP])
  have h9 : f 9 = mv := hf (9, _) (by simp [baseP])
  have h10 : f 10 = .slice (some ⟨go, 0, none⟩) k k := hf (10, _) (by simp [baseP])
  have h11 : f 11 = .int .i64 j := hf (11, _) (by simp [baseP])
  have h19 : f 19 = .int .i64 0 := hf (19, _) (by simp [baseP])
  simp only [frP, h1, h2, h7, h8, h9, h10, h11, h19]
  clear hf ha h1 h2 h7 h8 h9 h10 h11 h19
  conv => arg 2; whnf
  have HE := hid hend
  have HSP := hid hsp
  have HR := hid hrow
  clear hend hsp hrow
  go_wp2_with fail
  go_loopw [19, 20] (fun u i wr => ∃ (t c : Nat), t ≤ k ∧ i = .int .i64 t ∧ u = .int .i64 c ∧ Hid (c = ((nots l).take t).count true) ∧ Step noF w wr) (fun _ i _ => k - (intOf i).toNat)
  case atStart => exact ⟨0, 0, Nat.zero_le _, rfl, rfl, by show _ = _; simp, Step.refl _ _⟩
  case round =>
    obtain ⟨t, c, ht, rfl, rfl, hc, hst⟩ := hrel
    by_cases htk : t < k
    · have hti : (t : Int) < (k : Int) := by omega
      have hnl : t < (nots l).length := by rw [nots_len]; omega
      have hcell := hst.after (HR.out.cell t (by rw [bools_length]; exact hnl))
      rw [bools_at, ← getD_lt false hnl] at hcell
      have hcnt := nots_count l t
      have hcb : c ≤ 512 := by have := hc.out; omega
      have hN := nots_at l t (by omega)
      have hT : Hid (((nots l).take (t + 1)).count true = ((nots l).take t).count true + (if (nots l).getD t false then 1 else 0)) := by
        show _ = _
        rw [take_snoc' _ _ hnl, List.count_append, ← getD_lt false hnl]
        cases (nots l).getD t false <;> simp
      have hspw := HSP.out.step hst
      cases hb : l.getD t false
      · rw [hb] at hN
        simp only [Bool.not_false] at hN
        rw [hN] at hcell hT
        have hh : Hid (hasL l (t : Int) = false) := (hasL_nat l t).trans hb
        clear hb hN hcnt
        go_wp2_with fail
        go_quiet (first | (go_at_call 22; exact has_quiet p l hspw _ false hh.out))
        go_wp2_with fail
        go_roundw
        case rel => exact ⟨t + 1, c + 1, by omega, int_eq (by omega), int_eq (by omega), by show _ = _; rw [hT.out, hc.out]; simp, hst.drewN _⟩
        case measure => simp [intOf]; omega
      · rw [hb] at hN
        simp only [Bool.not_true] at hN
        rw [hN] at hcell hT
        have hh : Hid (hasL l (t : Int) = true) := (hasL_nat l t).trans hb
        clear hb hN hcnt
        go_wp2_with fail
        go_quiet (first | (go_at_call 22; exact has_quiet p l hspw _ true hh.out))
        go_wp2_with fail
        go_roundw
        case rel => exact ⟨t + 1, c, by omega, int_eq (by omega), rfl, by show _ = _; rw [hT.out, hc.out]; simp, hst.drewN _⟩
        case measure => simp [intOf]; omega
    · obtain rfl : t = k := by omega
      have hc2 := hc.out
      subst hc2
      go_wp2_with fail
      refine HE.out _ _ ?_ hst
      refine ⟨rfl, rfl, ?_⟩
      intro y hy
      simp only [baseP, List.mem_cons, List.not_mem_nil, or_false] at hy
      rcases hy with rfl | rfl | rfl | rfl | rfl | rfl | rfl | rfl <;> rfl

set_option maxHeartbeats 4000000 in
set_option maxRecDepth 100000 in
theorem q44_any (k p go j c : Nat) (mv av bv : Value) (w : World) (l : List Bool) (hsp : IsSp w p l) (hc : (c : Int) + freeL l = (k : Int)) (hk : k ≤ 512) (Q : Exit → Act → World → Prop) (a : Act) (ha : KnP ((19, .int .i64 c) :: baseP k p go j mv av bv) a)
    (hend : ∀ a' w', KnP (baseP k p go j mv av bv) a' → Step noF w w' → Q .normal a' w') :
    Code.wp Try.prog (navP [1, 1, 1, 1, 1, 1, 1, 1, 0, 1, 0, 0, 1, 0, 0, 1, 1, 1, 1, 1, 1, 1, 1] (Try.f5.body.getD .skip)) Q a w := by
  obtain ⟨f, rfl, hf⟩ := ha.open
  have h1 : f 1 = av := hf (1, _) (by simp [baseP])
  have h2 : f 2 = bv := hf (2, _) (by simp [baseP])
  have h7 : f 7 = .int .i64 k := hf (7, _) (by simp [baseP])
  have h8 : f 8 = .pointer (some ⟨p, 0, none⟩) := hf (8, _) (by simp [baseP])
  have h9 : f 9 = mv := hf (9, _) (by simp [baseP])
  have h10 : f 10 = .slice (some ⟨go, 0, none⟩) k k := hf (10, _) (by simp [baseP])
  have h11 : f 11 = .int .i64 j := hf (11, _) (by simp [baseP])
  have h19 : f 19 = .int .i64 c := hf (19, _) (by simp [baseP])
  simp only [frP, h1, h2, h7, h8, h9, h10, h11, h19]
  clear hf ha h1 h2 h7 h8 h9 h10 h11 h19
  conv => arg 2; whnf
  have HE := hid hend
  clear hend
  obtain ⟨F, hF⟩ : ∃ F, freeL l = F := ⟨_, rfl⟩
  rw [hF] at hc
  go_wp2_with fail
  refine (free_call w p l hsp F hF).mono ?_
  rintro e w1 ⟨rfl, s1⟩
  have w5 : IntKind.i64.wrap ((c : Int) + F) = (k : Int) := by rw [hc]; simp [IntKind.wrap, IntKind.bits, IntKind.signed]; omega
  have w6 : wrap64 ((c : Int) + F) = (k : Int) := by rw [hc]; unfold wrap64; omega
  go_wp2_with fail
  refine HE.out _ _ ?_ s1
  refine ⟨rfl, rfl, ?_⟩
  intro y hy
  simp only [baseP, List.mem_cons, List.not_mem_nil, or_false] at hy
  rcases hy with rfl | rfl | rfl | rfl | rfl | rfl | rfl <;> rfl
end Go.Proofs.Ytdcomcpinlgpdaa
