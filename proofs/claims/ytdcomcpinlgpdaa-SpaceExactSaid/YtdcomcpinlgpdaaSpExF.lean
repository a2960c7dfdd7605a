/-
  Pieces of the law SpaceExact: what stands behind the switch.
-/
import Derived.Test.YtdcomcpinlgpdaaSpExD
import Derived.Test.YtdcomcpinlgpdaaSpExRa
import Derived.Test.YtdcomcpinlgpdaaSpExRb
import Derived.Test.YtdcomcpinlgpdaaSpExRc
namespace Go.Proofs.Ytdcomcpinlgpdaa
open Go.RowKit
set_option linter.unusedVariables false
set_option linter.unusedSimpArgs false

set_option maxHeartbeats 4000000 in
set_option maxRecDepth 100000 in
theorem r33_any (p n j xb : Nat) (lv av : Value) (w : World) (l : List Bool) (hir : IsRow w lv l) (Q : Exit → Act → World → Prop) (a : Act) (ha : KnE ((8, .pointer (some ⟨xb, 0, none⟩)) :: baseE p n j lv av) a)
    (hend : ∀ a' w' ra rc, KnE ((14, .slice ra (rowL l).length rc) :: (8, .pointer (some ⟨xb, 0, none⟩)) :: baseE p n j lv av) a' → ExtAt w' ra (rowL l) → Step noF w w' → Q .normal a' w') :
    Code.wp Try.prog (navE [1, 1, 1, 1, 1, 0, 1, 0, 0, 1, 0, 0, 1, 1, 1, 1, 0] (Try.f3.body.getD .skip)) Q a w := by
  obtain ⟨f, rfl, hf⟩ := ha.open
  have h0 : f 0 = .int .i64 n := hf (0, _) (by simp [baseE])
  have h1 : f 1 = av := hf (1, _) (by simp [baseE])
  have h5 : f 5 = .pointer (some ⟨p, 0, none⟩) := hf (5, _) (by simp [baseE])
  have h6 : f 6 = lv := hf (6, _) (by simp [baseE])
  have h7 : f 7 = .int .i64 j := hf (7, _) (by simp [baseE])
  have h8 : f 8 = .pointer (some ⟨xb, 0, none⟩) := hf (8, _) (by simp [baseE])
  simp only [frE, h0, h1, h5, h6, h7, h8]
  clear hf ha h0 h1 h5 h6 h7 h8
  conv => arg 2; whnf
  have HE := hid hend
  clear hend
  go_wp2_with fail
  refine (refRow_any w lv l hir).mono ?_
  rintro e w1 ⟨ra, rc, rfl, hrc, hx1, s1⟩
  go_wp2_with fail
  refine HE.out _ _ ra rc ?_ hx1 s1
  refine ⟨rfl, rfl, ?_⟩
  intro y hy
  simp only [baseE, List.mem_cons, List.not_mem_nil, or_false] at hy
  rcases hy with rfl | rfl | rfl | rfl | rfl | rfl | rfl <;> rfl

set_option maxHeartbeats 4000000 in
set_option maxRecDepth 100000 in
theorem r34_any (p n j xb : Nat) (lv av rv : Value) (w : World) (Q : Exit → Act → World → Prop) (a : Act) (ha : KnE ((14, rv) :: (8, .pointer (some ⟨xb, 0, none⟩)) :: baseE p n j lv av) a)
    (hend : ∀ a', KnE ((15, .int .i64 0) :: (14, rv) :: (8, .pointer (some ⟨xb, 0, none⟩)) :: baseE p n j lv av) a' → Q .normal a' w) :
    Code.wp Try.prog (navE [1, 1, 1, 1, 1, 0, 1, 0, 0, 1, 0, 0, 1, 1, 1, 1, 1, 0] (Try.f3.body.getD .skip)) Q a w := by
  obtain ⟨f, rfl, hf⟩ := ha.open
  have h0 : f 0 = .int .i64 n := hf (0, _) (by simp [baseE])
  have h1 : f 1 = av := hf (1, _) (by simp [baseE])
  have h5 : f 5 = .pointer (some ⟨p, 0, none⟩) := hf (5, _) (by simp [baseE])
  have h6 : f 6 = lv := hf (6, _) (by simp [baseE])
  have h7 : f 7 = .int .i64 j := hf (7, _) (by simp [baseE])
  have h8 : f 8 = .pointer (some ⟨xb, 0, none⟩) := hf (8, _) (by simp [baseE])
  have h14 : f 14 = rv := hf (14, _) (by simp [baseE])
  simp only [frE, h0, h1, h5, h6, h7, h8, h14]
  clear hf ha h0 h1 h5 h6 h7 h8 h14
  conv => arg 2; whnf
  have HE := hid hend
  clear hend
  go_wp2_with fail
  refine HE.out _ ?_
  refine ⟨rfl, rfl, ?_⟩
  intro y hy
  simp only [baseE, List.mem_cons, List.not_mem_nil, or_false] at hy
  rcases hy with rfl | rfl | rfl | rfl | rfl | rfl | rfl | rfl <;> rfl
set_option maxHeartbeats 4000000 in
set_option maxRecDepth 100000 in
theorem r35_any (p n j xb : Nat) (lv av rv : Value) (w : World) (Q : Exit → Act → World → Prop) (a : Act) (ha : KnE ((15, .int .i64 0) :: (14, rv) :: (8, .pointer (some ⟨xb, 0, none⟩)) :: baseE p n j lv av) a)
    (hend : ∀ a', KnE ((16, .int .i64 0) :: (15, .int .i64 0) :: (14, rv) :: (8, .pointer (some ⟨xb, 0, none⟩)) :: baseE p n j lv av) a' → Q .normal a' w) :
    Code.wp Try.prog (navE [1, 1, 1, 1, 1, 0, 1, 0, 0, 1, 0, 0, 1, 1, 1, 1, 1, 1, 0] (Try.f3.body.getD .skip)) Q a w := by
  obtain ⟨f, rfl, hf⟩ := ha.open
  have h0 : f 0 = .int .i64 n := hf (0, _) (by simp [baseE])
  have h1 : f 1 = av := hf (1, _) (by simp [baseE])
  have h5 : f 5 = .pointer (some ⟨p, 0, none⟩) := hf (5, _) (by simp [baseE])
  have h6 : f 6 = lv := hf (6, _) (by simp [baseE])
  have h7 : f 7 = .int .i64 j := hf (7, _) (by simp [baseE])
  have h8 : f 8 = .pointer (some ⟨xb, 0, none⟩) := hf (8, _) (by simp [baseE])
  have h14 : f 14 = rv := hf (14, _) (by simp [baseE])
  have h15 : f 15 = .int .i64 0 := hf (15, _) (by simp [baseE])
  simp only [frE, h0, h1, h5, h6, h7, h8, h14, h15]
  clear hf ha h0 h1 h5 h6 h7 h8 h14 h15
  conv => arg 2; whnf
  have HE := hid hend
  clear hend
  go_wp2_with fail
  refine HE.out _ ?_
  refine ⟨rfl, rfl, ?_⟩
  intro y hy
  simp only [baseE, List.mem_cons, List.not_mem_nil, or_false] at hy
  rcases hy with rfl | rfl | rfl | rfl | rfl | rfl | rfl | rfl | rfl <;> rfl

set_option maxHeartbeats 4000000 in
set_option maxRecDepth 100000 in
theorem r36_any (p n j xb : Nat) (lv av : Value) (w : World) (ra : Option Addr) (rc : Nat) (xs : List (Int × Int)) (hx : ExtAt w ra xs) (hxl : xs.length ≤ 512) (hsz : ∀ x ∈ xs, 0 ≤ x.2 ∧ x.2 ≤ (512 : Nat)) (Q : Exit → Act → World → Prop) (a : Act) (ha : KnE ((16, .int .i64 0) :: (15, .int .i64 0) :: (14, .slice ra xs.length rc) :: (8, .pointer (some ⟨xb, 0, none⟩)) :: baseE p n j lv av) a)
    (hend : ∀ a' w', KnE ((16, .int .i64 (maxT xs xs.length)) :: (15, .int .i64 (sumT xs xs.length)) :: (14, .slice ra xs.length rc) :: (8, .pointer (some ⟨xb, 0, none⟩)) :: baseE p n j lv av) a' → w = w' → Q .normal a' w') :
    Code.wp Try.prog (navE [1, 1, 1, 1, 1, 0, 1, 0, 0, 1, 0, 0, 1, 1, 1, 1, 1, 1, 1, 0] (Try.f3.body.getD .skip)) Q a w := by
  obtain ⟨f, rfl, hf⟩ := ha.open
  have h0 : f 0 = .int .i64 n := hf (0, _) (by simp [baseE])
  have h1 : f 1 = av := hf (1, _) (by simp [baseE])
  have h5 : f 5 = .pointer (some ⟨p, 0, none⟩) := hf (5, _) (by simp [baseE])
  have h6 : f 6 = lv := hf (6, _) (by simp [baseE])
  have h7 : f 7 = .int .i64 j := hf (7, _) (by simp [baseE])
  have h8 : f 8 = .pointer (some ⟨xb, 0, none⟩) := hf (8, _) (by simp [baseE])
  have h14 : f 14 = .slice ra xs.length rc := hf (14, _) (by simp [baseE])
  have h15 : f 15 = .int .i64 0 := hf (15, _) (by simp [baseE])
  have h16 : f 16 = .int .i64 0 := hf (16, _) (by simp [baseE])
  simp only [frE, h0, h1, h5, h6, h7, h8, h14, h15, h16]
  clear hf ha h0 h1 h5 h6 h7 h8 h14 h15 h16
  conv => arg 2; whnf
  have HE := hid hend
  have HX := hid hx
  have hsum := hid (sumT_bound xs 512 hsz)
  clear hend hx hsz
  go_wp2_with fail
  go_loopw [15, 16, 17] (fun v u i wr => ∃ (t : Nat) (S M : Int), t ≤ xs.length ∧ i = .int .i64 t ∧ v = .int .i64 S ∧ u = .int .i64 M ∧ Hid (S = sumT xs t) ∧ Hid (M = maxT xs t) ∧ w = wr) (fun _ _ i _ => xs.length - (intOf i).toNat)
  case atStart => exact ⟨0, 0, 0, Nat.zero_le _, rfl, rfl, rfl, rfl, rfl, rfl⟩
  case round =>
    obtain ⟨t, S, M, ht, rfl, rfl, rfl, hS, hM, rfl⟩ := hrel
    by_cases htn : t < xs.length
    · have hti : (t : Int) < (xs.length : Int) := by omega
      obtain ⟨ab, off, rfl, y0, y1⟩ := HX.out.at t htn
      obtain ⟨b3, b4⟩ := hsum.out (t + 1) htn
      have hS2 : Hid (sumT xs (t + 1) = S + xs[t].2) := by show _ = _; rw [sumT, getD_lt _ htn, hS.out]
      have hM2 : Hid (maxT xs (t + 1) = max M xs[t].2) := by show _ = _; rw [maxT, getD_lt _ htn, hM.out]
      rw [hS2.out] at b3 b4
      obtain ⟨v, hv⟩ : ∃ v, xs[t].2 = v := ⟨_, rfl⟩
      rw [hv] at y1 b3 b4 hS2 hM2
      have b5 : S + v ≤ 1000000 := by omega
      have b6 : 0 ≤ S + v := b3
      clear hv b3 b4 y0
      have w5 : IntKind.i64.wrap (S + v) = S + v := by simp [IntKind.wrap, IntKind.bits, IntKind.signed]; omega
      have w6 : wrap64 (S + v) = S + v := by unfold wrap64; omega
      clear b5 b6
      by_cases hlt : M < v
      · have hm : Hid (max M v = v) := by show _ = _; omega
        go_wp2_with fail
        go_roundw
        case rel => exact ⟨t + 1, S + v, v, by omega, int_eq (by omega), rfl, rfl, hS2.out.symm, (hM2.out.trans hm.out).symm, by first | trivial | rfl⟩
        case measure => simp [intOf]; omega
      · have hm : Hid (max M v = M) := by show _ = _; omega
        go_wp2_with fail
        go_roundw
        case rel => exact ⟨t + 1, S + v, M, by omega, int_eq (by omega), rfl, rfl, hS2.out.symm, (hM2.out.trans hm.out).symm, by first | trivial | rfl⟩
        case measure => simp [intOf]; omega
    · obtain rfl : t = xs.length := by omega
      have hS3 := hS.out
      have hM3 := hM.out
      subst hS3 hM3
      go_wp2_with fail
      refine HE.out _ _ ?_ rfl
      refine ⟨rfl, rfl, ?_⟩
      intro y hy
      simp only [baseE, List.mem_cons, List.not_mem_nil, or_false] at hy
      rcases hy with rfl | rfl | rfl | rfl | rfl | rfl | rfl | rfl | rfl <;> rfl

/-- The calls that the last check makes. -/
theorem exits_world (u : World) (p n xb : Nat) (x : ActS) (lv : Value) (l : List Bool) (hsp : IsSp u p l) (hir : IsRow u lv l) (hln : l.length = n) (hX : XE u xb x) (ra : Option Addr) (rc : Nat) (hra : ExtAt u ra (rowL l)) (X : ByteArray) (hXX : str (textL l) = X) (b : Bool) (hb : hasL l x.num = b) :
    u.cell? ⟨xb, 1, none⟩ = some (.int .i64 x.num) ∧
    (Calls Try.prog 16 #[.pointer (some ⟨p, 0, none⟩)] u fun e w' => ∃ v, e = .returned v ∧ Step noF u w' ∧ (isExt (rowL l)).1 w' v) ∧
    (∀ a c, ExtAt u a (rowL l) → Calls Try.prog 15 #[.slice a (rowL l).length c, .slice ra (rowL l).length rc] u fun e w' => e = .returned (.bool true) ∧ Step noF u w') ∧
    (Calls Try.prog 17 #[.pointer (some ⟨p, 0, none⟩)] u fun e w' => e = .returned (.int .i64 (freeL l)) ∧ Step noF u w') ∧
    (Calls Try.prog 18 #[.pointer (some ⟨p, 0, none⟩)] u fun e w' => e = .returned (.int .i64 (largL l)) ∧ Step noF u w') ∧
    (Calls Try.prog 19 #[.pointer (some ⟨p, 0, none⟩)] u fun e w' => e = .returned (.int .i64 n) ∧ Step noF u w') ∧
    (Calls Try.prog 20 #[.pointer (some ⟨p, 0, none⟩)] u fun e w' => e = .returned (.string X) ∧ Step noF u w') ∧
    (Calls Try.prog 21 #[lv] u fun e w' => e = .returned (.string X) ∧ Step noF u w') ∧
    (Calls Try.prog 22 #[.pointer (some ⟨p, 0, none⟩), .int .i64 x.num] u fun e w' => e = .returned (.bool b) ∧ Step noF u w') := by
  have hrl : (rowL l).length ≤ 1000 := by have := (rowL_ok l).len; have := hsp.2.1; omega
  refine ⟨hX.cells.2.1, ?_, fun a c ha => sameX_any u a ra c rc (rowL l) ha hra hrl, free_any u p l hsp, larg_any u p l hsp, len_call u p l hsp n hln, text_call u p l hsp X hXX, refText_any u lv l hir X hXX, has_step u p l hsp x.num b hb⟩
  refine (row_any u p l hsp).mono ?_
  rintro e w' ⟨a, c, rfl, _, hx, hs⟩
  exact ⟨_, rfl, hs, a, c, rfl, hx⟩

set_option maxHeartbeats 4000000 in
set_option maxRecDepth 100000 in
theorem r41_any (p n j xb : Nat) (x : ActS) (lv av : Value) (w : World) (l : List Bool) (hsp : IsSp w p l) (hir : IsRow w lv l) (hln : l.length = n) (hX : XE w xb x) (ra : Option Addr) (rc : Nat) (hra : ExtAt w ra (rowL l))
    (Q : Exit → Act → World → Prop) (a : Act) (ha : KnE ((16, .int .i64 (largL l)) :: (15, .int .i64 (freeL l)) :: (14, .slice ra (rowL l).length rc) :: (8, .pointer (some ⟨xb, 0, none⟩)) :: baseE p n j lv av) a)
    (hend : ∀ a' w', KnE (baseE p n j lv av) a' → Step noF w w' → Q .normal a' w') :
    Code.wp Try.prog (navE [1, 1, 1, 1, 1, 0, 1, 0, 0, 1, 0, 0, 1, 1, 1, 1, 1, 1, 1, 1] (Try.f3.body.getD .skip)) Q a w := by
  change Code.wp Try.prog (Code.seq (Code.region 41 ((Try.f3.body.bind (regionOps 41)).getD #[]) true) (navE [1] (navE [1, 1, 1, 1, 1, 0, 1, 0, 0, 1, 0, 0, 1, 1, 1, 1, 1, 1, 1, 1] (Try.f3.body.getD .skip)))) Q a w
  refine wp_seq ?_
  obtain ⟨X, hXX⟩ : ∃ X, str (textL l) = X := ⟨_, rfl⟩
  have fin : ∀ (dl : List (Option Nat)) (a' : Act) (w' : World), (∀ k ∈ [0, 1, 5, 6, 7], some k ∉ dl) → Step noF w w' → a'.defers = a.defers → a'.tmps.size = a.tmps.size → (∀ k, some k ∉ dl → a'.tmps.getD k undef = a.tmps.getD k undef) → a'.tmps.getD 209 undef = .bool false → Code.wp Try.prog (navE [1] (navE [1, 1, 1, 1, 1, 0, 1, 0, 0, 1, 0, 0, 1, 1, 1, 1, 1, 1, 1, 1] (Try.f3.body.getD .skip))) Q a' w' := by
    intro dl a' w' hdl hs hd hz hk h209
    conv => arg 2; whnf
    refine wp_cond_false (by simpa [Act.eval] using h209) ?_
    refine wp_skip (hend _ _ ⟨hd.trans ha.1, hz.trans ha.2.1, ?_⟩ hs)
    intro y hy
    have hy2 := ha.2.2 y (by simp only [List.mem_cons]; exact .inr (.inr (.inr (.inr hy))))
    refine (hk y.1 (hdl _ ?_)).trans hy2
    simp only [baseE, List.mem_cons, List.not_mem_nil, or_false] at hy
    rcases hy with rfl | rfl | rfl | rfl | rfl <;> simp
  have i0 : a.tmps.getD 0 undef = .int .i64 n := ha.2.2 (0, _) (by simp [baseE])
  have i5 : a.tmps.getD 5 undef = .pointer (some ⟨p, 0, none⟩) := ha.2.2 (5, _) (by simp [baseE])
  have i6 : a.tmps.getD 6 undef = lv := ha.2.2 (6, _) (by simp [baseE])
  have i8 : a.tmps.getD 8 undef = .pointer (some ⟨xb, 0, none⟩) := ha.2.2 (8, _) (by simp [baseE])
  have i14 : a.tmps.getD 14 undef = .slice ra (rowL l).length rc := ha.2.2 (14, _) (by simp [baseE])
  have i15 : a.tmps.getD 15 undef = .int .i64 (freeL l) := ha.2.2 (15, _) (by simp [baseE])
  have i16 : a.tmps.getD 16 undef = .int .i64 (largL l) := ha.2.2 (16, _) (by simp [baseE])
  by_cases hz0 : 0 ≤ x.num
  · by_cases hzn : x.num < (n : Int)
    · obtain ⟨k, hk⟩ := Int.eq_ofNat_of_zero_le hz0
      have hkn : k < n := by omega
      obtain ⟨_, _, g, c, hlv, hlc, hrow⟩ := id hir
      rw [hln] at hlv
      have hcell := hrow.cell k (by rw [bools_length, hln]; exact hkn)
      rw [bools_at] at hcell
      have hhas : hasL l x.num = l[k]'(by omega) := by rw [hk, hasL_nat, getD_lt]
      refine exa_go p n xb x.num (freeL l) (largL l) lv l ra rc X g c k (l[k]'(by omega)) hk (by omega) hkn hlv a w ha.2.1 i0 i5 i6 i8 i14 i15 i16 ?_ ?_
      · intro u hu
        obtain ⟨e0, e1, e2, e3, e4, e5, e6, e7, e8⟩ := exits_world u p n xb x lv l (hsp.step hu) (hir.step hu) hln (hX.step hu) ra rc (hra.step hu) X hXX _ hhas
        exact ⟨e0, e1, e2, e3, e4, e5, e6, e7, e8, hu.after hcell⟩
      · intro a' w' hs hd hz hf h209
        exact fin exaDl a' w' (by decide) hs hd hz hf h209
    · refine exc_go p n xb x.num (freeL l) (largL l) lv l ra rc X hz0 (by omega) a w ha.2.1 i0 i5 i6 i8 i14 i15 i16 ?_ ?_
      · intro u hu
        exact exits_world u p n xb x lv l (hsp.step hu) (hir.step hu) hln (hX.step hu) ra rc (hra.step hu) X hXX false (by rw [hasL, hln, decide_eq_false hzn]; simp)
      · intro a' w' hs hd hz hf h209
        exact fin excDl a' w' (by decide) hs hd hz hf h209
  · refine exb_go p n xb x.num (freeL l) (largL l) lv l ra rc X (by omega) a w ha.2.1 i0 i5 i6 i8 i14 i15 i16 ?_ ?_
    · intro u hu
      exact exits_world u p n xb x lv l (hsp.step hu) (hir.step hu) hln (hX.step hu) ra rc (hra.step hu) X hXX false (by rw [hasL, decide_eq_false hz0]; simp)
    · intro a' w' hs hd hz hf h209
      exact fin exbDl a' w' (by decide) hs hd hz hf h209

theorem tail_any (w0 : World) (p n j xb : Nat) (x : ActS) (lv av : Value) (w : World) (hT : TailE w0 p n xb x lv w) (Q : Exit → Act → World → Prop) (a : Act) (ha : KnE ((8, .pointer (some ⟨xb, 0, none⟩)) :: baseE p n j lv av) a)
    (hend : ∀ a' w', KnE (baseE p n j lv av) a' → BothE w0 p n lv w' → Q .normal a' w') :
    Code.wp Try.prog (navE [1, 1, 1, 1, 1, 0, 1, 0, 0, 1, 0, 0, 1, 1, 1, 1] (Try.f3.body.getD .skip)) Q a w := by
  obtain ⟨⟨l, hst, hpw, hsp, hir, hln⟩, hX⟩ := hT
  change Code.wp Try.prog (Code.seq (navE [1, 1, 1, 1, 1, 0, 1, 0, 0, 1, 0, 0, 1, 1, 1, 1, 0] (Try.f3.body.getD .skip)) (Code.seq (navE [1, 1, 1, 1, 1, 0, 1, 0, 0, 1, 0, 0, 1, 1, 1, 1, 1, 0] (Try.f3.body.getD .skip)) (Code.seq (navE [1, 1, 1, 1, 1, 0, 1, 0, 0, 1, 0, 0, 1, 1, 1, 1, 1, 1, 0] (Try.f3.body.getD .skip)) (Code.seq (navE [1, 1, 1, 1, 1, 0, 1, 0, 0, 1, 0, 0, 1, 1, 1, 1, 1, 1, 1, 0] (Try.f3.body.getD .skip)) (navE [1, 1, 1, 1, 1, 0, 1, 0, 0, 1, 0, 0, 1, 1, 1, 1, 1, 1, 1, 1] (Try.f3.body.getD .skip)))))) Q a w
  refine wp_seq (r33_any p n j xb lv av w l hir _ a ha ?_)
  intro a1 w1 ra rc k1 hra s1
  refine wp_seq (r34_any p n j xb lv av _ w1 _ a1 k1 ?_)
  intro a2 k2
  refine wp_seq (r35_any p n j xb lv av _ w1 _ a2 k2 ?_)
  intro a3 k3
  have hl2 := hsp.2.1
  refine wp_seq (r36_any p n j xb lv av w1 ra rc (rowL l) hra (by have := (rowL_ok l).len; omega) (rowL_sizes l hl2) _ a3 k3 ?_)
  intro a4 w4 k4 e4
  subst e4
  refine r41_any p n j xb x lv av w1 l (hsp.step s1) (hir.step s1) hln (hX.step s1) ra rc hra Q a4 k4 ?_
  intro a5 w5 k5 s5
  exact hend a5 w5 k5 ⟨l, (hst.trans s1).trans s5, hpw, (hsp.step s1).step s5, (hir.step s1).step s5, hln⟩
end Go.Proofs.Ytdcomcpinlgpdaa
