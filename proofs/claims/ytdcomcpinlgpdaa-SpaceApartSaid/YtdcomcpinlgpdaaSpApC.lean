/-
  Pieces of the law SpaceApart: the first one is given back.
-/
import Derived.Test.YtdcomcpinlgpdaaSpApB
namespace Go.Proofs.Ytdcomcpinlgpdaa
open Go.RowKit
set_option linter.unusedVariables false
set_option linter.unusedSimpArgs false

set_option maxHeartbeats 4000000 in
set_option maxRecDepth 100000 in
theorem p27_skip (k p go j bl bc ml mc : Nat) (ba ma : Option Addr) (av bv mv : Value) (hbv : bv = .slice ba bl bc) (hmv : mv = .slice ma ml mc) (w : World) (ks : List Bool) (hks : ks.length = bl) (hbl : bl ≤ 9223372036854775807) (hj6 : j < 60) (hml : ml ≤ 1000) (hrow : RowAt w noF ba (bools ks))
    (hno : ¬ (j < bl ∧ ks.getD j false = true ∧ 0 < ml)) (Q : Exit → Act → World → Prop) (a : Act) (ha : KnP (baseP k p go j mv av bv) a)
    (hend : ∀ a', KnP (baseP k p go j mv av bv) a' → Q .normal a' w) :
    Code.wp Try.prog (navP [1, 1, 1, 1, 1, 1, 1, 1, 0, 1, 0, 0, 1, 0, 0, 1, 1, 1, 1, 1, 0] (Try.f5.body.getD .skip)) Q a w := by
  obtain ⟨f, rfl, hf⟩ := ha.open
  have h1 : f 1 = av := hf (1, _) (by simp [baseP])
  have h2 : f 2 = bv := hf (2, _) (by simp [baseP])
  have h7 : f 7 = .int .i64 k := hf (7, _) (by simp [baseP])
  have h8 : f 8 = .pointer (some ⟨p, 0, none⟩) := hf (8, _) (by simp [baseP])
  have h9 : f 9 = mv := hf (9, _) (by simp [baseP])
  have h10 : f 10 = .slice (some ⟨go, 0, none⟩) k k := hf (10, _) (by simp [baseP])
  have h11 : f 11 = .int .i64 j := hf (11, _) (by simp [baseP])
  simp only [frP, h1, h2, h7, h8, h9, h10, h11]
  clear hf ha h1 h2 h7 h8 h9 h10 h11
  conv => arg 2; whnf
  have HE := hid hend
  clear hend
  by_cases h1 : j < bl
  · have k1 : (j : Int) < (bl : Int) := by omega
    have d1 : decide ((j : Int) < (bl : Int)) = true := by simpa using k1
    obtain ⟨b, off, rfl, hc⟩ := hrow.at j (by omega)
    cases h2 : ks[j]'(by omega)
    · rw [h2] at hc
      clear h1 hno h2
      rw [hbv, hmv]
      go_wp2_with fail
      refine HE.out _ ?_
      rw [hbv, hmv]
      refine ⟨rfl, rfl, ?_⟩
      intro y hy
      simp only [baseP, List.mem_cons, List.not_mem_nil, or_false] at hy
      rcases hy with rfl | rfl | rfl | rfl | rfl | rfl | rfl <;> rfl
    · have h3 : ml = 0 := by
        rcases Nat.eq_zero_or_pos ml with h | h
        · exact h
        · exact absurd ⟨h1, by rw [getD_lt _ (by omega)]; exact h2, h⟩ hno
      subst h3
      rw [h2] at hc
      clear h1 hno h2
      rw [hbv, hmv]
      go_wp2_with fail
      refine HE.out _ ?_
      rw [hbv, hmv]
      refine ⟨rfl, rfl, ?_⟩
      intro y hy
      simp only [baseP, List.mem_cons, List.not_mem_nil, or_false] at hy
      rcases hy with rfl | rfl | rfl | rfl | rfl | rfl | rfl <;> rfl
  · have d1 : decide ((j : Int) < (bl : Int)) = false := by simp; omega
    have d2 : decide (j < bl) = false := by simp; omega
    have d3 : ¬ (j : Int) < (bl : Int) := by omega
    clear hno h1
    rw [hbv, hmv]
    go_wp2_with fail
    refine HE.out _ ?_
    rw [hbv, hmv]
    refine ⟨rfl, rfl, ?_⟩
    intro y hy
    simp only [baseP, List.mem_cons, List.not_mem_nil, or_false] at hy
    rcases hy with rfl | rfl | rfl | rfl | rfl | rfl | rfl <;> rfl

set_option maxHeartbeats 8000000 in
set_option maxRecDepth 100000 in
theorem p27_pop (w0 : World) (k p go j bl bc : Nat) (ba : Option Addr) (av bv mv : Value) (hbv : bv = .slice ba bl bc) (w : World) (ks : List Bool) (hks : ks.length = bl) (hbl : bl ≤ 9223372036854775807) (hj6 : j < 60) (hrow : RowAt w noF ba (bools ks))
    (hjb : j < bl) (hkj : ks.getD j false = true) (l l1 : List Bool) (U V : Nat) (ys : List (Int × Int)) (hyl : ys.length ≤ 100) (hS : StP w0 k p go mv l (nots l) (((U : Int), (V : Int)) :: ys) w) (hUV : U + V ≤ k)
    (g1 : setE true l [((U : Int), (V : Int))] = 0) (g2 : setL true l [((U : Int), (V : Int))] = l1) (g3 : l1.length = k) (g4 : ∀ i : Nat, l1.getD i false = if U ≤ i ∧ i < U + V then true else l.getD i false) (g5 : setE true l1 [((U : Int), (V : Int))] = 11) (g6 : setL true l1 [((U : Int), (V : Int))] = l1)
    (Q : Exit → Act → World → Prop) (a : Act) (ha : KnP (baseP k p go j mv av bv) a)
    (hend : ∀ a' w' mv', KnP (baseP k p go j mv' av bv) a' → StP w0 k p go mv' l1 (nots l1) ys w' → Q .normal a' w') :
    Code.wp Try.prog (navP [1, 1, 1, 1, 1, 1, 1, 1, 0, 1, 0, 0, 1, 0, 0, 1, 1, 1, 1, 1, 0] (Try.f5.body.getD .skip)) Q a w := by
  obtain ⟨f, rfl, hf⟩ := ha.open
  have h1 : f 1 = av := hf (1, _) (by simp [baseP])
  have h2 : f 2 = bv := hf (2, _) (by simp [baseP])
  have h7 : f 7 = .int .i64 k := hf (7, _) (by simp [baseP])
  have h8 : f 8 = .pointer (some ⟨p, 0, none⟩) := hf (8, _) (by simp [baseP])
  have h9 : f 9 = mv := hf (9, _) (by simp [baseP])
  have h10 : f 10 = .slice (some ⟨go, 0, none⟩) k k := hf (10, _) (by simp [baseP])
  have h11 : f 11 = .int .i64 j := hf (11, _) (by simp [baseP])
  simp only [frP, h1, h2, h7, h8, h9, h10, h11]
  clear hf ha h1 h2 h7 h8 h9 h10 h11
  conv => arg 2; whnf
  have HE := hid hend
  clear hend
  obtain ⟨k5, k1⟩ := hS.here
  have hji : (j : Int) < (bl : Int) := by omega
  have d1 : decide ((j : Int) < (bl : Int)) = true := by simpa using hji
  obtain ⟨bb, boff, rfl, hbc⟩ := hrow.at j (by omega)
  rw [← getD_lt false (by omega), hkj] at hbc
  obtain ⟨gm, q1, q2⟩ := hS.qu
  obtain ⟨off, c, A, hmv, hlc, hblk, hsz, hcs⟩ := id q2
  obtain ⟨e0, e1⟩ := hcs 0 (by simp)
  simp only [List.getElem_cons_zero, Nat.zero_mul, Nat.add_zero] at e0 e1
  have y0 : w.cell? ⟨gm, off, none⟩ = some (.int .i64 U) := (cell_of_block hblk off).trans e0
  have y1 : w.cell? ⟨gm, off + 1, none⟩ = some (.int .i64 V) := (cell_of_block hblk (off + 1)).trans e1
  simp only [List.length_cons] at hmv hlc
  have hq3 := q2
  rw [hmv] at hq3
  obtain ⟨hc1, hq4⟩ := hq3.tail
  obtain ⟨mv2, hmv2⟩ : ∃ mv2, mv2 = Value.slice (if c = 1 then some ⟨gm, off, none⟩ else some ⟨gm, off + 2, none⟩) ys.length (c - 1) := ⟨_, rfl⟩
  rw [← hmv2] at hq4
  have hsl : ∀ u : World, (Instr.slice 27 (.slice (some ⟨gm, off, none⟩) (ys.length + 1) c) (some (.int .i64 1)) none none).run Try.prog u = .ok mv2 u := fun u => by
    have hn : (1 : Int) ≤ (ys.length : Int) + 1 := by omega
    have hn2 : ¬ (ys.length : Int) + 1 < 1 := by omega
    by_cases hc : c = 1
    · subst hc
      have hy0 : ys = [] := List.eq_nil_of_length_eq_zero (by omega)
      subst hy0
      rw [hmv2]
      go_simp
    · have hc2 : ¬ 1 = c := fun e => hc e.symm
      rw [hmv2, if_neg hc]
      go_simp
      first | done | (intro h; omega)
  obtain ⟨g, hA, hgne⟩ := hS.sp
  have HS := hid hS
  have HM2 := hid hmv2
  have HG : Hid (setN false (nots l) U V = nots l1) := by
    show _ = _
    have hll := hS.ll
    refine ext_getD (by rw [setN_len, nots_len, nots_len]; omega) (fun i hi => ?_)
    rw [setN_len, nots_len] at hi
    rw [setN_at _ _ _ _ (by rw [nots_len]; omega), nots_at l1 i (by omega), g4]
    by_cases h : U ≤ i ∧ i < U + V
    · rw [if_pos h, if_pos h]; rfl
    · rw [if_neg h, if_neg h, nots_at l i hi]
  have HG1 : Hid (setE true l [((U : Int), (V : Int))] = 0 ∧ setL true l [((U : Int), (V : Int))] = l1 ∧ setE true l1 [((U : Int), (V : Int))] = 11 ∧ setL true l1 [((U : Int), (V : Int))] = l1) := ⟨g1, g2, g5, g6⟩
  have hU9 : Hid (∀ q ∈ [((U : Int), (V : Int))], q.1 ≤ 9223372036854775807) := small1 _ (by simp only; omega)
  obtain ⟨E, hE⟩ : ∃ E, U + V = E := ⟨_, rfl⟩
  have hE1 : (U : Int) + (V : Int) = (E : Int) := by omega
  have hE2 : E ≤ 512 := by omega
  have hml : (0 : Int) < ((ys.length + 1 : Nat) : Int) := by omega
  have hml2 : (0 : Int) < (ys.length : Int) + 1 := by omega
  have sa := (Step.refl noF w).alloc (.cells #[.int .i64 U, .int .i64 V] 31)
  have hA1 := hA.step (sa.alloc (.cells #[.int .i64 U, .int .i64 V] 31))
  have hS1 := (HS.out.step (sa.alloc (.cells #[.int .i64 U, .int .i64 V] 31)))
  have HA1 := hid hA1
  have HS1 := hid hS1
  have hyb := block_alloc_old (block_alloc_new w (.cells #[.int .i64 U, .int .i64 V] 31)) (.cells #[.int .i64 U, .int .i64 V] 31)
  have HYB := hid hyb
  clear hS hq4 hq3 q2 hcs hblk hsz e0 e1 hlc hA hA1 hS1 hyb g1 g2 g4 g5 g6 hmv2 hkj hrow
  rw [hbv, hmv]
  go_wp2_with fail
  refine (give_at _ p g l (by exact HA1.out) _ _ _ [((U : Int), (V : Int))] rfl (by exact extAt_one _ U V _ _ (by simp)) hU9.out (by simp)).mono ?_
  rintro e w2 ⟨rfl, s2, h2⟩
  rw [HG1.out.2.1] at h2
  have hS2 := HS1.out.turned hgne HA1.out s2 h2 g3
  obtain ⟨gq, hA2, hgne2⟩ := hS2.sp
  have hyb2 : w2.heap[w.heap.size]? = some (.cells #[.int .i64 U, .int .i64 V] 31 (0, 0)) := by
    refine (s2.block w.heap.size (lt_of_block HYB.out) (fun e => ?_)).trans HYB.out
    unfold oneF at e
    obtain ⟨_, _, c, h3, _⟩ := HA1.out
    rw [← e] at h3
    rw [HYB.out] at h3
    injection h3 with h3
    injection h3 with _ h3 _
    exact absurd h3 (by decide)
  obtain ⟨z0, z1, _, _⟩ := ext_cells hyb2
  have HY2 := hid hyb2
  have hA3 := hA2.step ((Step.refl noF w2).alloc (.cells #[.int .i64 U, .int .i64 V] 31))
  have hS3 := hS2.step ((Step.refl noF w2).alloc (.cells #[.int .i64 U, .int .i64 V] 31))
  have HA3 := hid hA3
  have HS3 := hid hS3
  have e1 := HG1.out.1
  have e3 := HG1.out.2.2.1
  clear hyb2 hA2 hA3 hS2 hS3 h2
  simp only [e1]
  go_wp2_with fail
  refine (give_at _ p gq l1 (by exact HA3.out) _ _ _ [((U : Int), (V : Int))] rfl (by exact extAt_new _ _ _ _ rfl) hU9.out (by simp)).mono ?_
  rintro e w4 ⟨rfl, s4, h4⟩
  rw [HG1.out.2.2.2] at h4
  have hS4 := HS3.out.turned hgne2 HA3.out s4 h4 g3
  have hyb4 : w4.heap[w.heap.size]? = some (.cells #[.int .i64 U, .int .i64 V] 31 (0, 0)) := by
    have hb3 := block_alloc_old HY2.out (.cells #[.int .i64 U, .int .i64 V] 31)
    refine (s4.block w.heap.size (lt_of_block hb3) (fun e => ?_)).trans hb3
    unfold oneF at e
    obtain ⟨_, _, c, h3, _⟩ := HA3.out
    rw [← e] at h3
    rw [hb3] at h3
    injection h3 with h3
    injection h3 with _ h3 _
    exact absurd h3 (by decide)
  have hQ4 : OwnQ w4 gm mv2 ys := by
    obtain ⟨gm', _, q⟩ := hS4.qu
    have hq := q
    rw [hmv] at hq
    obtain ⟨off', c', A', h1, _⟩ := id hq
    injection h1 with h1 _ _
    injection h1 with h1
    injection h1 with h1 _ _
    subst h1
    rw [HM2.out]
    exact hq.tail.2
  obtain ⟨v0, v1, _, _⟩ := ext_cells hyb4
  have hygo : w.heap.size ≠ go := fun e => by
    rw [e] at hyb4
    exact hS4.ow.ne hyb4 (by decide) rfl
  have HS4 := hid hS4
  have HQ4 := hid hQ4
  have HY4 := hid hyb4
  clear hS4 hQ4 hyb4 h4
  simp only [e3]
  go_wp2_with fail
  go_loopw [18] (fun i wr => ∃ t : Nat, t ≤ V ∧ i = .int .i64 ((U + t : Nat) : Int) ∧ Step (oneF go) w4 wr ∧ RowIn wr go 4 (bools (setN false (nots l) U t))) (fun i _ => E - (intOf i).toNat)
  case atStart => exact ⟨0, Nat.zero_le _, rfl, Step.refl _ _, HS4.out.ow⟩
  case round =>
    obtain ⟨t, ht, rfl, hst, hrow⟩ := hrel
    have c0 := (hst.cell (p := ⟨w.heap.size, 0, none⟩) hygo (lt_of_block HY4.out)).trans v0
    have c1 := (hst.cell (p := ⟨w.heap.size, 1, none⟩) hygo (lt_of_block HY4.out)).trans v1
    by_cases htV : t < V
    · obtain ⟨K, hK⟩ : ∃ K, U + t = K := ⟨_, rfl⟩
      have hKE : (K : Int) < (E : Int) := by omega
      have hKk : (K : Int) < (k : Int) := by omega
      have hlen : K < (bools (setN false (nots l) U t)).length := by rw [bools_length, setN_len, nots_len]; have := HS.out.ll; omega
      obtain ⟨cv, hcell⟩ : ∃ cv, wr.cell? ⟨go, K, none⟩ = some cv := ⟨_, hrow.cell K hlen⟩
      have hfz := hrow.f K
      have HK := hid hK
      have HL := hid hlen
      rw [hK]
      have HtV := hid htV
      clear hK hlen htV
      go_wp2_with fail
      go_roundw
      case rel =>
        refine ⟨t + 1, HtV.out, int_eq (by have := HK.out; omega), hst.setOne _ _, ?_⟩
        rw [setN, ← bools_set, HK.out]
        exact hrow.set K HL.out _
      case measure => simp [intOf]; omega
    · obtain rfl : t = V := by omega
      have hKE : ¬ ((U + t : Nat) : Int) < (E : Int) := by omega
      rw [HG.out] at hrow
      go_wp2_with fail
      refine HE.out _ wr mv2 ?_ ?_
      · rw [hbv]
        refine ⟨rfl, rfl, ?_⟩
        intro y hy
        simp only [baseP, List.mem_cons, List.not_mem_nil, or_false] at hy
        rcases hy with rfl | rfl | rfl | rfl | rfl | rfl | rfl <;> rfl
      · obtain ⟨g', hA4, hg4⟩ := HS4.out.sp
        have hpg : p ≠ go := fun e => by
          obtain ⟨_, _, c, h3, _⟩ := hA4
          rw [e] at h3
          exact HS4.out.ow.ne h3 ne_bool_space rfl
        refine ⟨HS4.out.st.then hst (fun i hi => .inr (by unfold oneF at hi; have := HS4.out.hg; omega)), HS4.out.hp, HS4.out.hg, ⟨g', hA4.keep hst hpg hg4, hg4⟩, hrow, by rw [nots_len]; exact g3, ⟨gm, q1, HQ4.out.keep hst (fun e => ?_)⟩, g3⟩
        unfold oneF at e
        obtain ⟨A, r, hb, _⟩ := HS4.out.ow
        exact HQ4.out.ne hb (by decide) e
end Go.Proofs.Ytdcomcpinlgpdaa
