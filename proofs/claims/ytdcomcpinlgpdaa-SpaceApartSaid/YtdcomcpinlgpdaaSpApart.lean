/-
  The walk of the law SpaceApart.
-/
import Derived.Test.YtdcomcpinlgpdaaSpApD
namespace Go.Proofs.Ytdcomcpinlgpdaa
open Go.RowKit
set_option linter.unusedVariables false
set_option linter.unusedSimpArgs false

/-- The state between the rounds. -/
def RoP (w0 : World) (k p go j : Nat) (mv : Value) (w : World) : Prop := ∃ l xs, StP w0 k p go mv l (nots l) xs w ∧ InvM k l xs ∧ xs.length ≤ j

theorem pBack_any (w0 : World) (k p go j bl bc : Nat) (ba : Option Addr) (av bv mv : Value) (hbv : bv = .slice ba bl bc) (w : World) (ks : List Bool) (hks : ks.length = bl) (hbl : bl ≤ 9223372036854775807) (hj6 : j < 60) (hrow : RowAt w noF ba (bools ks)) (hR : RoP w0 k p go (j + 1) mv w)
    (Q : Exit → Act → World → Prop) (a : Act) (ha : KnP (baseP k p go j mv av bv) a)
    (hend : ∀ a' w' mv', KnP (baseP k p go j mv' av bv) a' → RoP w0 k p go (j + 1) mv' w' → Q .normal a' w') :
    Code.wp Try.prog (navP [1, 1, 1, 1, 1, 1, 1, 1, 0, 1, 0, 0, 1, 0, 0, 1, 1, 1, 1, 1, 0] (Try.f5.body.getD .skip)) Q a w := by
  obtain ⟨l, xs, hS, hI, hl⟩ := hR
  by_cases hyes : j < bl ∧ ks.getD j false = true ∧ 0 < xs.length
  · obtain ⟨h1, h2, h3⟩ := hyes
    cases xs with
    | nil => simp at h3
    | cons y ys =>
      obtain ⟨hin, g1, g3, g4, g5, g6, g7⟩ := inv_pop hI
      obtain ⟨i1, i2, i3⟩ := inE_iff.1 hin
      obtain ⟨u, v⟩ := y
      simp only at i1 i2 i3
      obtain ⟨U, rfl⟩ := Int.eq_ofNat_of_zero_le i1
      obtain ⟨V, rfl⟩ := Int.eq_ofNat_of_zero_le (show 0 ≤ v by omega)
      simp only [List.length_cons] at hl
      refine p27_pop w0 k p go j bl bc ba av bv mv hbv w ks hks hbl hj6 hrow h1 h2 l _ U V ys (by omega) hS (by omega) g1 rfl g3 (fun i => ?_) g5 g6 Q a ha ?_
      · have := g4 i false
        simp only at this
        rw [this]
        by_cases h : U ≤ i ∧ i < U + V
        · rw [if_pos h, if_pos (by omega)]
        · rw [if_neg h, if_neg (by omega)]
      · intro a' w' mv' k' s'
        exact hend a' w' mv' k' ⟨_, ys, s', g7, by omega⟩
  · obtain ⟨gm, _, q2⟩ := hS.qu
    obtain ⟨off, c, A, hmv, _⟩ := q2
    exact p27_skip k p go j bl bc xs.length c ba _ av bv mv hbv hmv w ks hks hbl hj6 (by omega) hrow hyes Q a ha (fun a' k' => hend a' w mv k' ⟨l, xs, hS, hI, hl⟩)

theorem pBlk_any (w0 : World) (k p go j ab off l cap bl bc : Nat) (ba : Option Addr) (y : Int) (av bv mv : Value) (hav : av = .slice (some ⟨ab, off, none⟩) l cap) (hbv : bv = .slice ba bl bc) (w : World) (x0 : w0.cell? ⟨ab, off + j, none⟩ = some (.int .i64 y)) (hj : j < l) (hl6 : l ≤ 60) (ks : List Bool) (hks : ks.length = bl) (hbl : bl ≤ 9223372036854775807) (hrow : RowAt w0 noF ba (bools ks)) (hR : RoP w0 k p go j mv w)
    (Q : Exit → Act → World → Prop) (a : Act) (ha : KnP (baseP k p go j mv av bv) a)
    (hend : ∀ a' w' mv', KnP (baseP k p go j mv' av bv) a' → RoP w0 k p go (j + 1) mv' w' → Q .normal a' w') :
    Code.wp Try.prog (navP [1, 1, 1, 1, 1, 1, 1, 1, 0, 1, 0, 0, 1, 0] (Try.f5.body.getD .skip)) Q a w := by
  obtain ⟨ll, xs, hS, hI, hxl⟩ := hR
  obtain ⟨k5, k1⟩ := hS.here
  change Code.wp Try.prog (Code.block 1 (Code.seq (navP [1, 1, 1, 1, 1, 1, 1, 1, 0, 1, 0, 0, 1, 0, 0, 0] (Try.f5.body.getD .skip)) (Code.seq (navP [1, 1, 1, 1, 1, 1, 1, 1, 0, 1, 0, 0, 1, 0, 0, 1, 0] (Try.f5.body.getD .skip)) (Code.seq (navP [1, 1, 1, 1, 1, 1, 1, 1, 0, 1, 0, 0, 1, 0, 0, 1, 1, 0] (Try.f5.body.getD .skip)) (Code.seq (navP [1, 1, 1, 1, 1, 1, 1, 1, 0, 1, 0, 0, 1, 0, 0, 1, 1, 1, 0] (Try.f5.body.getD .skip)) (Code.seq (navP [1, 1, 1, 1, 1, 1, 1, 1, 0, 1, 0, 0, 1, 0, 0, 1, 1, 1, 1, 0] (Try.f5.body.getD .skip)) (Code.seq (navP [1, 1, 1, 1, 1, 1, 1, 1, 0, 1, 0, 0, 1, 0, 0, 1, 1, 1, 1, 1, 0] (Try.f5.body.getD .skip)) (Code.seq (navP [1, 1, 1, 1, 1, 1, 1, 1, 0, 1, 0, 0, 1, 0, 0, 1, 1, 1, 1, 1, 1, 0] (Try.f5.body.getD .skip)) (Code.seq (navP [1, 1, 1, 1, 1, 1, 1, 1, 0, 1, 0, 0, 1, 0, 0, 1, 1, 1, 1, 1, 1, 1, 0] (Try.f5.body.getD .skip)) (navP [1, 1, 1, 1, 1, 1, 1, 1, 0, 1, 0, 0, 1, 0, 0, 1, 1, 1, 1, 1, 1, 1, 1] (Try.f5.body.getD .skip))))))))))) Q a w
  refine wp_block ?_
  refine wp_seq (q14_any k p go j ab off l cap y mv bv w (hS.st.after x0) hj hl6 av hav _ a ha ?_)
  intro a1 z hz1 hz2 kn1
  refine wp_seq (q15_any k p go j z mv av bv w ll hS.is _ a1 kn1 ?_)
  intro a2 w2 kn2 s2
  refine wp_seq (q16_any w0 k p go j z (largL ll) (by omega) (by omega) mv av bv w2 ll (nots ll) xs (hS.step s2) _ a2 kn2 ?_)
  intro a3 w3 xb kn3 hS3 hxb hX3
  have hzz : ¬ (z : Int) < 1 := by omega
  have hbl2 := best_large ll z (by omega)
  -- what stands behind the check of Take
  have rest : ∀ a4 w4 mv4, KnP (baseP k p go j mv4 av bv) a4 → RoP w0 k p go (j + 1) mv4 w4 → Code.wp Try.prog (Code.seq (navP [1, 1, 1, 1, 1, 1, 1, 1, 0, 1, 0, 0, 1, 0, 0, 1, 1, 1, 1, 1, 0] (Try.f5.body.getD .skip)) (Code.seq (navP [1, 1, 1, 1, 1, 1, 1, 1, 0, 1, 0, 0, 1, 0, 0, 1, 1, 1, 1, 1, 1, 0] (Try.f5.body.getD .skip)) (Code.seq (navP [1, 1, 1, 1, 1, 1, 1, 1, 0, 1, 0, 0, 1, 0, 0, 1, 1, 1, 1, 1, 1, 1, 0] (Try.f5.body.getD .skip)) (navP [1, 1, 1, 1, 1, 1, 1, 1, 0, 1, 0, 0, 1, 0, 0, 1, 1, 1, 1, 1, 1, 1, 1] (Try.f5.body.getD .skip))))) (Exit.inBlock 1 Q) a4 w4 := by
    intro a4 w4 mv4 kn4 hR4
    have hst4 : Step noF w0 w4 := by obtain ⟨_, _, h, _⟩ := hR4; exact h.st
    refine wp_seq (pBack_any w0 k p go j bl bc ba av bv mv4 hbv w4 ks hks hbl (by omega) (hrow.step hst4) hR4 _ a4 kn4 ?_)
    intro a5 w5 mv5 kn5 hR5
    obtain ⟨l5, xs5, hS5, hI5, hx5⟩ := hR5
    refine wp_seq (q36_any k p go j mv5 av bv w5 _ a5 kn5 ?_)
    intro a6 kn6
    refine wp_seq (p37_any k p go j mv5 av bv w5 l5 hS5.is hS5.ll k5 hS5.ow _ a6 kn6 ?_)
    intro a7 w7 kn7 s7
    refine q44_any k p go j _ mv5 av bv w7 l5 (hS5.is.step s7) ?_ k5 _ a7 kn7 ?_
    · have hc := nots_count l5 k
      have hll := hS5.ll
      rw [List.take_of_length_le (l := l5) (by omega)] at hc
      rw [freeL_eq]
      omega
    · intro a8 w8 kn8 s8
      exact hend a8 w8 mv5 kn8 ⟨l5, xs5, (hS5.step s7).step s8, hI5, hx5⟩
  cases hb : bestL ll z with
  | none =>
    rw [hb] at hbl2
    have hE : takeE ll z = 9 := by rw [takeE, if_neg hzz, hb]; rfl
    have hL : takeL ll z = ll := by rw [takeL, if_neg hzz, hb]
    rw [hE] at kn3
    rw [hL] at hS3
    refine wp_seq (q17_any k p go j xb z (largL ll) 9 mv av bv w3 (.inr ⟨rfl, by simpa using hbl2⟩) _ a3 kn3 ?_)
    intro a4 kn4
    refine wp_seq (p19_none k p go j xb z mv av bv w3 _ a4 kn4 ?_)
    intro a5 kn5
    exact rest a5 w3 mv kn5 ⟨ll, xs, hS3, hI, by omega⟩
  | some x =>
    rw [hb] at hbl2
    have hE : takeE ll z = 0 := by rw [takeE, if_neg hzz, hb]; rfl
    have hL : takeL ll z = setL false ll [(x.1, (z : Int))] := by rw [takeL, if_neg hzz, hb]
    have hX : takeX ll z = (x.1, (z : Int)) := by rw [takeX, if_neg hzz, hb]
    rw [hE] at kn3
    rw [hL] at hS3
    rw [hX] at hX3
    refine wp_seq (q17_any k p go j xb z (largL ll) 0 mv av bv w3 (.inl ⟨rfl, by simpa using hbl2.symm⟩) _ a3 kn3 ?_)
    intro a4 kn4
    have hP := inv_push hI (by omega) hb
    obtain ⟨b1, b2⟩ := best_fits (by omega) hb
    obtain ⟨t1, t2, t3⟩ := best_set (by omega) hb
    obtain ⟨i1, i2, i3⟩ := inE_iff.1 b1
    obtain ⟨x1, x2⟩ := x
    simp only at i1 i2 i3 hS3 hX3 hP b2 t3
    obtain ⟨U, rfl⟩ := Int.eq_ofNat_of_zero_le i1
    have hll := hS.ll
    refine wp_seq (p19_some w0 k p go j xb z mv av bv w3 ll _ xs hS3 (by omega) hS.ll U z (by omega) hz1 (fun i u1 u2 => ⟨b2 i (by omega) (by omega), ?_⟩) (fun i hi => ?_) hxb hX3 _ a4 kn4 ?_)
    · rw [t3, if_pos (by omega)]
    · rw [t3, if_neg (by omega)]
    · intro a5 w5 mv5 kn5 hS5
      exact rest a5 w5 mv5 kn5 ⟨_, _, hS5, hP, by simp; omega⟩

theorem pRound_any (w0 : World) (k p go j l cap bl bc : Nat) (aa ba : Option Addr) (zs : List Int) (hzl : zs.length = l) (hl6 : l ≤ 60) (hz : RowAt w0 noF aa (intsOf zs)) (av bv mv : Value) (hav : av = .slice aa l cap) (hbv : bv = .slice ba bl bc) (w : World) (ks : List Bool) (hks : ks.length = bl) (hbl : bl ≤ 9223372036854775807) (hrow : RowAt w0 noF ba (bools ks)) (hR : RoP w0 k p go j mv w)
    (Q : Exit → Act → World → Prop) (a : Act) (ha : KnP (baseP k p go j mv av bv) a)
    (hgo : j < l → ∀ a' w' mv', KnP (baseP k p go (j + 1) mv' av bv) a' → RoP w0 k p go (j + 1) mv' w' → Q .normal a' w') (hex : ∀ a', KnP (baseP k p go j mv av bv) a' → Q (.exit 0) a' w) :
    Code.wp Try.prog (navP [1, 1, 1, 1, 1, 1, 1, 1, 0, 1, 0, 0] (Try.f5.body.getD .skip)) Q a w := by
  change Code.wp Try.prog (Code.seq (navP [1, 1, 1, 1, 1, 1, 1, 1, 0, 1, 0, 0, 0] (Try.f5.body.getD .skip)) (Code.seq (navP [1, 1, 1, 1, 1, 1, 1, 1, 0, 1, 0, 0, 1, 0] (Try.f5.body.getD .skip)) (navP [1, 1, 1, 1, 1, 1, 1, 1, 0, 1, 0, 0, 1, 1] (Try.f5.body.getD .skip)))) Q a w
  refine wp_seq (q12_any k p go j l cap aa mv av bv hav w hl6 _ a ha ⟨?_, ?_⟩)
  · intro h1 a1 k1
    obtain ⟨ib, off, rfl, hc⟩ := hz.at j (by omega)
    refine wp_seq (pBlk_any w0 k p go j ib off l cap bl bc ba _ av bv mv hav hbv w hc h1 hl6 ks hks hbl hrow hR _ a1 k1 ?_)
    intro a2 w2 mv2 k2 r2
    exact q13_any k p go j mv2 av bv w2 (by omega) Q a2 k2 (fun a3 k3 => hgo h1 a3 w2 mv2 k3 r2)
  · intro _ a1 k1
    exact hex a1 k1

theorem pLoop_any (w0 : World) (k p go l cap bl bc : Nat) (aa ba : Option Addr) (zs : List Int) (hzl : zs.length = l) (hl6 : l ≤ 60) (hz : RowAt w0 noF aa (intsOf zs)) (av bv mv : Value) (hav : av = .slice aa l cap) (hbv : bv = .slice ba bl bc) (w : World) (ks : List Bool) (hks : ks.length = bl) (hbl : bl ≤ 9223372036854775807) (hrow : RowAt w0 noF ba (bools ks)) (hR : RoP w0 k p go 0 mv w)
    (Q : Exit → Act → World → Prop) (a : Act) (ha : KnP (baseP k p go 0 mv av bv) a)
    (hex : ∀ a' w' mv' j, j ≤ 60 → KnP (baseP k p go j mv' av bv) a' → RoP w0 k p go j mv' w' → Q (.exit 0) a' w') :
    Code.wp Try.prog (navP [1, 1, 1, 1, 1, 1, 1, 1, 0, 1, 0] (Try.f5.body.getD .skip)) Q a w := by
  change Code.wp Try.prog (Code.loop (navP [1, 1, 1, 1, 1, 1, 1, 1, 0, 1, 0, 0] (Try.f5.body.getD .skip))) Q a w
  refine wp_loop (fun a w => ∃ j mv, j ≤ l ∧ KnP (baseP k p go j mv av bv) a ∧ RoP w0 k p go j mv w) (fun a _ => l - (intOf (a.tmps.getD 11 undef)).toNat) ⟨0, mv, Nat.zero_le _, ha, hR⟩ ?_
  rintro a w ⟨j, mv, hj, hk, hb⟩
  have h11 : a.tmps.getD 11 undef = .int .i64 j := hk.2.2 (11, .int .i64 j) (by simp [baseP])
  refine pRound_any w0 k p go j l cap bl bc aa ba zs hzl hl6 hz av bv mv hav hbv w ks hks hbl hrow hb _ a hk ?_ ?_
  · intro hjl a' w' mv' k' b'
    refine ⟨⟨j + 1, mv', hjl, k', b'⟩, ?_⟩
    have h11' : a'.tmps.getD 11 undef = .int .i64 ((j + 1 : Nat) : Int) := k'.2.2 (11, _) (by simp [baseP])
    rw [h11, h11']
    simp [intOf]
    omega
  · intro a' k'
    exact hex a' w mv j (by omega) k' hb

theorem mod100 (z : Int) : ∃ j : Nat, wrap64 ((IntKind.u64.wrap z).tmod 100) = (j : Int) ∧ j < 100 := by
  have h0 := wrap_u64_nonneg z
  have e : (IntKind.u64.wrap z).tmod 100 = (IntKind.u64.wrap z) % 100 := Int.tmod_eq_emod_of_nonneg h0
  have l0 := Int.emod_nonneg (IntKind.u64.wrap z) (b := 100) (by omega)
  have l1 := Int.emod_lt_of_pos (IntKind.u64.wrap z) (b := 100) (by omega)
  refine ⟨((IntKind.u64.wrap z) % 100).toNat, ?_, by omega⟩
  rw [e]
  unfold wrap64
  omega
theorem all_given (k : Nat) (hk : 1 ≤ k) : setE true (List.replicate k false) [((0 : Int), (k : Int))] = 0 ∧ setL true (List.replicate k false) [((0 : Int), (k : Int))] = List.replicate k true := by
  have hr : ∀ (b : Bool) (j : Nat), j < k → ∀ d, (List.replicate k b).getD j d = b := fun b j hj d => by rw [getD_lt _ (by simpa using hj)]; simp
  obtain ⟨h1, h2, h3⟩ := set_one (b := true) (l := List.replicate k false) (x := ((0 : Int), (k : Int))) (inE_iff.2 ⟨by simp, by simp only; omega, by simp⟩) (fun j j1 j2 => by
    simp only at j1 j2
    rw [hr false j (by omega)]; decide)
  refine ⟨h1, ext_getD (by rw [h2]; simp) (fun j hj => ?_)⟩
  rw [h2, List.length_replicate] at hj
  rw [h3, if_pos (by simp only; omega), hr true j hj]
theorem all_facts (k : Nat) (hk : 1 ≤ k) : (rowL (List.replicate k true)).length = 1 ∧ largL (List.replicate k true) = (k : Int) ∧ freeL (List.replicate k true) = (k : Int) := by
  refine ⟨by rw [rowL_all k hk]; rfl, ?_, ?_⟩
  · rw [largL, rowL_all k hk]
    simp [maxT]
  · rw [freeL_eq]; simp

set_option maxHeartbeats 4000000 in
set_option maxRecDepth 100000 in
theorem apart_in (n : Int) (zs : List Int) (hz6 : zs.length ≤ 60) (aa : Option Addr) (ac : Nat) (ks : List Bool) (hkl : ks.length ≤ 9223372036854775807) (ba : Option Addr) (bc : Nat) (w : World) (hz : RowAt w noF aa (intsOf zs)) (hks : RowAt w noF ba (bools ks)) :
    Calls Try.prog 5 #[.int .i64 n, .slice aa zs.length ac, .slice ba ks.length bc] w fun e w' => e = .returned (.bool true) ∧ Step noF w w' := by
  have k1 : ¬ (60 : Int) < (zs.length : Int) := by omega
  obtain ⟨m, hm, hm2⟩ := mod100 n
  obtain ⟨k, hk⟩ : ∃ k, 1 + m = k := ⟨_, rfl⟩
  have hkk : (1 : Int) + (m : Int) = (k : Int) := by omega
  have hk1 : 1 ≤ k := by omega
  have hk2 : k ≤ 100 := by omega
  have hmk := mk_bools k (by omega)
  obtain ⟨a1, a2⟩ := all_given k hk1
  have HA := hid (show setE true (List.replicate k false) [((0 : Int), (k : Int))] = 0 ∧ setL true (List.replicate k false) [((0 : Int), (k : Int))] = List.replicate k true from ⟨a1, a2⟩)
  have HZ := hid hz
  have HK := hid hks
  clear hz hks hk hm2 a1 a2
  go_enter Try.func5, Try.ntmps5
  go_wp2_with fail
  refine (awake_any _).mono ?_
  rintro e w1 ⟨rfl, s1⟩
  go_wp2_with fail
  refine (new_any _ k (by first | rfl | exact hkk) hk1 (by omega) _).mono ?_
  rintro e w2 ⟨p, rfl, hp, s2, h2⟩
  go_wp2_with fail
  refine (ext_any 0 _ _).mono ?_
  rintro e w3 ⟨rfl, s3⟩
  go_wp2_with fail
  obtain ⟨g3, hA3⟩ := (h2.step s3).at
  refine (give_call _ p _ (by exact (h2.step s3).step ((Step.refl _ _).alloc _)) _ _ _ [((0 : Int), (k : Int))] rfl (by exact extAt_new _ _ _ _ rfl) (small1 _ (by simp)) (by simp) _ _ HA.out.1 HA.out.2).mono ?_
  rintro e w4 ⟨rfl, s4, h4⟩
  have S4 : Step noF w w4 := ((((s1.trans s2).trans s3).alloc _).then s4 (fun i hi => .inr (by unfold oneF at hi; have := s1.size; omega)))
  have hpw : w.heap.size ≤ p := Nat.le_trans s1.size hp
  have H4 := hid h4
  clear h2 h4 s1 s2 s3 s4 hA3
  go_wp2_with fail
  have HR : Hid (RoP w k p (w4.heap.size + 1) 0 (.slice (some ⟨w4.heap.size, 0, none⟩) 0 0) ((w4.alloc (.cells #[] 31)).alloc (.cells (madeCells #[.bool false] k) 4))) := by
    have sa := ((Step.refl noF w4).alloc (.cells #[] 31)).alloc (.cells (madeCells #[.bool false] k) 4)
    obtain ⟨g, hA⟩ := H4.out.at
    have hn : nots (List.replicate k true) = List.replicate k false := by simp [nots]
    refine ⟨List.replicate k true, [], ⟨S4.trans sa, hpw, by have := S4.size; omega, ⟨g, hA.step sa, by have := hA.lt; omega⟩, ?_, by rw [nots_len, List.length_replicate], ⟨w4.heap.size, S4.size, 0, 0, #[], rfl, Nat.le_refl _, block_alloc_old (block_alloc_new _ _) _, by simp, fun j hj => by simp at hj⟩, List.length_replicate⟩, inv_nil k, Nat.le_refl _⟩
    rw [hn]
    have := made_bools (w4.alloc (.cells #[] 31)) k
    simpa using this
  refine pLoop_any w k p (w4.heap.size + 1) zs.length ac ks.length bc aa ba zs rfl hz6 HZ.out (.slice aa zs.length ac) (.slice ba ks.length bc) _ rfl rfl _ ks rfl hkl HK.out HR.out _ _ ?_ ?_
  · refine ⟨rfl, rfl, ?_⟩
    intro y hy
    simp only [baseP, List.mem_cons, List.not_mem_nil, or_false] at hy
    rcases hy with rfl | rfl | rfl | rfl | rfl | rfl | rfl <;> first | rfl | exact int_eq hkk
  · intro a' w' mv' j hj6 k' hR'
    obtain ⟨l, xs, hS, hI, hxl⟩ := hR'
    obtain ⟨gm, _, q2⟩ := hS.qu
    obtain ⟨ma, mc, hmv, hx⟩ := q2.ext
    obtain ⟨i1, i2⟩ := inv_all hI
    obtain ⟨f1, f2, f3⟩ := all_facts k hk1
    have hsp := hS.is
    have hb9 : ∀ y ∈ xs, y.1 ≤ 9223372036854775807 := fun y hy => by
      obtain ⟨j1, j2, j3⟩ := inE_iff.1 (hI.2.1 y hy)
      omega
    have HB := hid hb9
    have HX := hid hx
    have HI := hid (show setE true l xs = 0 ∧ setL true l xs = List.replicate k true from ⟨i1, i2⟩)
    have hst := hS.st
    have hpp := hS.hp
    obtain ⟨rl, hrl⟩ : ∃ rl, (rowL (List.replicate k true)).length = rl := ⟨_, rfl⟩
    rw [hrl] at f1
    have HF2 := hid f2
    have HF3 := hid f3
    obtain ⟨f, rfl, hf⟩ := k'.open
    have h7 : f 7 = .int .i64 k := hf (7, _) (by simp [baseP])
    have h8 : f 8 = .pointer (some ⟨p, 0, none⟩) := hf (8, _) (by simp [baseP])
    have h9 : f 9 = mv' := hf (9, _) (by simp [baseP])
    rw [hmv] at h9
    simp only [frP, h7, h8, h9]
    clear hf h7 h8 h9 k' hS hI q2 hx hb9 i1 i2 f2 f3
    go_wp2_with fail
    refine (give_call w' p l hsp ma mc xs.length xs rfl HX.out HB.out (by omega) 0 _ HI.out.1 HI.out.2).mono ?_
    rintro e w5 ⟨rfl, s5, h5⟩
    have S5 := hst.then s5 (fun i hi => .inr (by unfold oneF at hi; omega))
    go_wp2_with fail
    refine (row_any w5 p _ h5).mono ?_
    rintro e w6 ⟨ra, rc, rfl, hrc, hx6, s6⟩
    rw [hrl, f1]
    go_wp2_with fail
    refine (larg_call w6 p _ (h5.step s6) _ HF2.out).mono ?_
    rintro e w7 ⟨rfl, s7⟩
    go_wp2_with fail
    refine (free_call w7 p _ ((h5.step s6).step s7) _ HF3.out).mono ?_
    rintro e w8 ⟨rfl, s8⟩
    go_wp2_with fail
    go_ret
    exact ⟨rfl, ((S5.trans s6).trans s7).trans s8⟩

set_option maxHeartbeats 1000000 in
set_option maxRecDepth 100000 in
theorem apart_walk (n : Int) (zs : List Int) (hzl : zs.length ≤ 9223372036854775807) (aa : Option Addr) (ac : Nat) (ks : List Bool) (hkl : ks.length ≤ 9223372036854775807) (ba : Option Addr) (bc : Nat) (w : World) (hz : RowAt w noF aa (intsOf zs)) (hks : RowAt w noF ba (bools ks)) :
    Calls Try.prog 5 #[.int .i64 n, .slice aa zs.length ac, .slice ba ks.length bc] w fun e w' => e = .returned (.bool true) ∧ Step noF w w' := by
  by_cases h : zs.length ≤ 60
  · exact apart_in n zs h aa ac ks hkl ba bc w hz hks
  · have k1 : (60 : Int) < (zs.length : Int) := by omega
    clear h hz hks
    go_enter Try.func5, Try.ntmps5
    go_wp2_with fail
    refine (awake_any _).mono ?_
    rintro e w1 ⟨rfl, s1⟩
    go_wp2_with fail
    go_ret
    exact ⟨rfl, s1⟩
end Go.Proofs.Ytdcomcpinlgpdaa
