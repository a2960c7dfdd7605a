/-
  Pieces of the law SpaceApart: what was taken is owned.
-/
import Derived.Test.YtdcomcpinlgpdaaSpApA
namespace Go.Proofs.Ytdcomcpinlgpdaa
open Go.RowKit
set_option linter.unusedVariables false
set_option linter.unusedSimpArgs false

/-- t blocks from a on become b. -/
def setN (b : Bool) (o : List Bool) (a : Nat) : Nat → List Bool
  | 0 => o
  | t + 1 => (setN b o a t).set (a + t) b
theorem setN_len (b : Bool) (o : List Bool) (a : Nat) : ∀ t, (setN b o a t).length = o.length
  | 0 => rfl
  | t + 1 => by rw [setN, List.length_set, setN_len b o a t]
theorem setN_at (b : Bool) (o : List Bool) (a : Nat) : ∀ t, a + t ≤ o.length → ∀ k, (setN b o a t).getD k false = if a ≤ k ∧ k < a + t then b else o.getD k false
  | 0, _, k => by rw [if_neg (by omega)]; rfl
  | t + 1, h, k => by
    rw [setN, getD_set _ _ _ _ _ (by rw [setN_len]; omega), setN_at b o a t (by omega)]
    by_cases hk : k = a + t
    · rw [if_pos hk, if_pos (by omega)]
    · rw [if_neg hk]
      by_cases hk2 : a ≤ k ∧ k < a + t
      · rw [if_pos hk2, if_pos (by omega)]
      · rw [if_neg hk2, if_neg (by omega)]

set_option maxHeartbeats 4000000 in
set_option maxRecDepth 100000 in
theorem p19_none (k p go j xb : Nat) (z : Int) (mv av bv : Value) (w : World) (Q : Exit → Act → World → Prop) (a : Act) (ha : KnP ((15, .int .i64 9) :: (14, .pointer (some ⟨xb, 0, none⟩)) :: (12, .int .i64 z) :: baseP k p go j mv av bv) a)
    (hend : ∀ a', KnP (baseP k p go j mv av bv) a' → Q .normal a' w) :
    Code.wp Try.prog (navP [1, 1, 1, 1, 1, 1, 1, 1, 0, 1, 0, 0, 1, 0, 0, 1, 1, 1, 1, 0] (Try.f5.body.getD .skip)) Q a w := by
  obtain ⟨f, rfl, hf⟩ := ha.open
  have h1 : f 1 = av := hf (1, _) (by simp [baseP])
  have h2 : f 2 = bv := hf (2, _) (by simp [baseP])
  have h7 : f 7 = .int .i64 k := hf (7, _) (by simp [baseP])
  have h8 : f 8 = .pointer (some ⟨p, 0, none⟩) := hf (8, _) (by simp [baseP])
  have h9 : f 9 = mv := hf (9, _) (by simp [baseP])
  have h10 : f 10 = .slice (some ⟨go, 0, none⟩) k k := hf (10, _) (by simp [baseP])
  have h11 : f 11 = .int .i64 j := hf (11, _) (by simp [baseP])
  have h12 : f 12 = .int .i64 z := hf (12, _) (by simp [baseP])
  have h14 : f 14 = .pointer (some ⟨xb, 0, none⟩) := hf (14, _) (by simp [baseP])
  have h15 : f 15 = .int .i64 9 := hf (15, _) (by simp [baseP])
  simp only [frP, h1, h2, h7, h8, h9, h10, h11, h12, h14, h15]
  clear hf ha h1 h2 h7 h8 h9 h10 h11 h12 h14 h15
  conv => arg 2; whnf
  have HE := hid hend
  clear hend
  go_wp2_with fail
  refine HE.out _ ?_
  refine ⟨rfl, rfl, ?_⟩
  intro y hy
  simp only [baseP, List.mem_cons, List.not_mem_nil, or_false] at hy
  rcases hy with rfl | rfl | rfl | rfl | rfl | rfl | rfl <;> rfl

set_option maxHeartbeats 8000000 in
set_option maxRecDepth 100000 in
theorem p19_some (w0 : World) (k p go j xb : Nat) (z : Int) (mv av bv : Value) (w : World) (l l' : List Bool) (xs : List (Int × Int)) (hS : StP w0 k p go mv l' (nots l) xs w) (hxl : xs.length ≤ 100) (hl : l.length = k) (U Z : Nat) (hUZ : U + Z ≤ k) (hZ : 1 ≤ Z)
    (hon : ∀ i, U ≤ i → i < U + Z → l.getD i false = true ∧ l'.getD i false = false) (hoff : ∀ i, ¬ (U ≤ i ∧ i < U + Z) → l'.getD i false = l.getD i false) (hxw : w0.heap.size ≤ xb) (hX : w.heap[xb]? = some (.cells #[.int .i64 U, .int .i64 Z] 31 (0, 0)))
    (Q : Exit → Act → World → Prop) (a : Act) (ha : KnP ((15, .int .i64 0) :: (14, .pointer (some ⟨xb, 0, none⟩)) :: (12, .int .i64 z) :: baseP k p go j mv av bv) a)
    (hend : ∀ a' w' mv', KnP (baseP k p go j mv' av bv) a' → StP w0 k p go mv' l' (nots l') (xs ++ [((U : Int), (Z : Int))]) w' → Q .normal a' w') :
    Code.wp Try.prog (navP [1, 1, 1, 1, 1, 1, 1, 1, 0, 1, 0, 0, 1, 0, 0, 1, 1, 1, 1, 0] (Try.f5.body.getD .skip)) Q a w := by
  obtain ⟨f, rfl, hf⟩ := ha.open
  have h1 : f 1 = av := hf (1, _) (by simp [baseP])
  have h2 : f 2 = bv := hf (2, _) (by simp [baseP])
  have h7 : f 7 = .int .i64 k := hf (7, _) (by simp [baseP])
  have h8 : f 8 = .pointer (some ⟨p, 0, none⟩) := hf (8, _) (by simp [baseP])
  have h9 : f 9 = mv := hf (9, _) (by simp [baseP])
  have h10 : f 10 = .slice (some ⟨go, 0, none⟩) k k := hf (10, _) (by simp [baseP])
  have h11 : f 11 = .int .i64 j := hf (11, _) (by simp [baseP])
  have h12 : f 12 = .int .i64 z := hf (12, _) (by simp [baseP])
  have h14 : f 14 = .pointer (some ⟨xb, 0, none⟩) := hf (14, _) (by simp [baseP])
  have h15 : f 15 = .int .i64 0 := hf (15, _) (by simp [baseP])
  simp only [frP, h1, h2, h7, h8, h9, h10, h11, h12, h14, h15]
  clear hf ha h1 h2 h7 h8 h9 h10 h11 h12 h14 h15
  conv => arg 2; whnf
  have HE := hid hend
  clear hend
  obtain ⟨k5, k1⟩ := hS.here
  obtain ⟨i0, hi, hz0, hz1, hz2⟩ := info_three info_ext
  obtain ⟨E, hE⟩ : ∃ E, U + Z = E := ⟨_, rfl⟩
  have hE1 : (U : Int) + (Z : Int) = (E : Int) := by omega
  have hE2 : E ≤ 512 := by omega
  have hxgo : xb ≠ go := fun e => by subst e; exact hS.ow.ne hX (by decide) rfl
  have HS := hid hS
  have HX := hid hX
  have hend2 : Hid (setN true (nots l) U Z = nots l') := by
    show _ = _
    have hl' := hS.ll
    refine ext_getD (by rw [setN_len, nots_len, nots_len]; omega) (fun i hi => ?_)
    rw [setN_len, nots_len] at hi
    rw [setN_at _ _ _ _ (by rw [nots_len]; omega), nots_at l' i (by omega)]
    by_cases h : U ≤ i ∧ i < U + Z
    · rw [if_pos h, (hon i h.1 h.2).2]; rfl
    · rw [if_neg h, nots_at l i hi, hoff i h]
  obtain ⟨x0, x1, _, _⟩ := ext_cells hX
  have HON := hid hon
  clear hS hX hon hoff
  go_wp2_with fail
  go_loopw [16] (fun i wr => ∃ t : Nat, t ≤ Z ∧ i = .int .i64 ((U + t : Nat) : Int) ∧ Step (oneF go) w wr ∧ RowIn wr go 4 (bools (setN true (nots l) U t))) (fun i _ => E - (intOf i).toNat)
  case atStart => exact ⟨0, Nat.zero_le _, rfl, Step.refl _ _, HS.out.ow⟩
  case round =>
    obtain ⟨t, ht, rfl, hst, hrow⟩ := hrel
    have c0 := (hst.cell (p := ⟨xb, 0, none⟩) hxgo (lt_of_block HX.out)).trans x0
    have c1 := (hst.cell (p := ⟨xb, 1, none⟩) hxgo (lt_of_block HX.out)).trans x1
    have hspw : IsSp wr p l' := by
      obtain ⟨g, h1, h2⟩ := HS.out.sp
      refine (h1.keep hst (fun e => ?_) h2).sp
      unfold oneF at e
      obtain ⟨_, _, c, h3, _⟩ := h1
      rw [e] at h3
      exact HS.out.ow.ne h3 ne_bool_space rfl
    by_cases htZ : t < Z
    · obtain ⟨K, hK⟩ : ∃ K, U + t = K := ⟨_, rfl⟩
      have hKE : (K : Int) < (E : Int) := by omega
      have hKk : (K : Int) < (k : Int) := by omega
      have hKk2 : decide ((k : Int) ≤ (K : Int)) = false := by simp; omega
      have hK0 : decide ((K : Int) < 0) = false := by simp
      have hlen : K < (bools (setN true (nots l) U t)).length := by rw [bools_length, setN_len, nots_len]; omega
      have hcell := hrow.cell K hlen
      rw [bools_at, ← getD_lt false (by rw [bools_length] at hlen; exact hlen), setN_at _ _ _ _ (by rw [nots_len]; omega), if_neg (by omega), nots_at l K (by omega), (HON.out K (by omega) (by omega)).1] at hcell
      have hfz := hrow.f K
      have hhas := has_call wr p l' hspw (K : Int) false ((hasL_nat l' K).trans (HON.out K (by omega) (by omega)).2)
      have HK := hid hK
      have HL := hid hlen
      rw [hK]
      have HtZ := hid htZ
      clear hK hlen htZ
      simp only [Bool.not_true] at hcell
      go_wp2_with fail
      refine hhas.mono ?_
      rintro e w2 ⟨rfl, rfl⟩
      go_wp2_with fail
      go_roundw
      case rel =>
        refine ⟨t + 1, HtZ.out, int_eq (by have := HK.out; omega), hst.setOne _ _, ?_⟩
        rw [setN, ← bools_set, HK.out]
        exact hrow.set K HL.out _
      case measure => simp [intOf]; omega
    · obtain rfl : t = Z := by omega
      have hKE : ¬ ((U + t : Nat) : Int) < (E : Int) := by omega
      rw [hend2.out] at hrow
      have hS2 : StP w0 k p go mv l' (nots l') xs wr := by
        obtain ⟨g, h1, h2⟩ := HS.out.sp
        obtain ⟨gm, q1, q2⟩ := HS.out.qu
        have hpg : p ≠ go := fun e => by
          obtain ⟨_, _, c, h3, _⟩ := h1
          rw [e] at h3
          exact HS.out.ow.ne h3 ne_bool_space rfl
        refine ⟨HS.out.st.then hst (fun i hi => .inr (by unfold oneF at hi; have := HS.out.hg; omega)), HS.out.hp, HS.out.hg, ⟨g, h1.keep hst hpg h2, h2⟩, hrow, by rw [nots_len]; exact HS.out.ll, ⟨gm, q1, q2.keep hst (fun e => ?_)⟩, HS.out.ll⟩
        unfold oneF at e
        obtain ⟨A, r, hb, _⟩ := HS.out.ow
        exact q2.ne hb (by decide) e
      obtain ⟨gm, q1, q2⟩ := hS2.qu
      have HS2 := hid hS2
      have HQ2 := hid (show OwnQ (wr.alloc (.cells #[.int .i64 U, .int .i64 t] 31)) gm mv xs from q2.step ((Step.refl _ _).alloc _))
      have HN : Hid (∀ jj u, [Value.int .i64 (U : Int), .int .i64 (t : Int)][jj]? = some u → (wr.alloc (.cells #[.int .i64 U, .int .i64 t] 31)).cell? (Addr.add ⟨wr.heap.size, 0, none⟩ jj) = some u) := two_new _ _ _ _ _ rfl
      clear hS2 q2 hrow
      go_wp2_with (at_builtin; refine wpList_append_q rfl (.tmp 104) (.tmp 106) 27 rfl i0 _ Try.underlying27 hi hz0 hz1 hz2 rfl gm mv xs (by simp [Act.eval]) HQ2.out (by omega) ⟨wr.heap.size, 0, none⟩ U t (by simp [Act.eval]) HN.out ?_; intro v' w' g' ho' hs' hfr')
      refine HE.out _ w' v' ?_ ?_
      · skip
        refine ⟨rfl, rfl, ?_⟩
        intro y hy
        simp only [baseP, List.mem_cons, List.not_mem_nil, or_false] at hy
        rcases hy with rfl | rfl | rfl | rfl | rfl | rfl | rfl <;> rfl
      · have sa : Step noF wr (wr.alloc (.cells #[.int .i64 U, .int .i64 t] 31)) := (Step.refl _ _).alloc _
        have hS3 := HS2.out.step sa
        obtain ⟨g, h1, h2⟩ := hS3.sp
        have hgm : ¬ go = gm := fun e => by
          obtain ⟨A, r, hb, _⟩ := hS3.ow
          exact HQ2.out.ne hb (by decide) e.symm
        refine ⟨hS3.st.then hs' (fun i hi => .inr (by unfold oneF at hi; omega)), hS3.hp, hS3.hg, ⟨g, h1.keep hs' (fun e => ?_) (fun e => ?_), h2⟩, hS3.ow.step hs' hgm, hS3.ol, ⟨g', ?_, ho'⟩, hS3.ll⟩
        · unfold oneF at e
          obtain ⟨_, _, c, h3, _⟩ := h1
          exact HQ2.out.ne h3 (by decide) e.symm
        · unfold oneF at e
          obtain ⟨_, _, c, _, _, A, r, hb, _⟩ := h1
          exact HQ2.out.ne hb (by decide) e.symm
        · rcases hfr' with e | e
          · rw [e]; exact q1
          · exact Nat.le_trans hS3.st.size e
end Go.Proofs.Ytdcomcpinlgpdaa
