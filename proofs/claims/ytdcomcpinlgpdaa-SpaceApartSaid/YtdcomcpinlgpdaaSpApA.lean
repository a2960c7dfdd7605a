/-
  Pieces of the law SpaceApart: the small ones, and Take.
-/
import Derived.Test.YtdcomcpinlgpdaaSpNavP
import Derived.Test.YtdcomcpinlgpdaaSpApM
import Derived.Test.YtdcomcpinlgpdaaSpQ
import Derived.Test.YtdcomcpinlgpdaaSpAwake
namespace Go.Proofs.Ytdcomcpinlgpdaa
open Go.RowKit
set_option linter.unusedVariables false
set_option linter.unusedSimpArgs false

/-- What the frame has all the time. -/
def baseP (k p go j : Nat) (mv av bv : Value) : List (Nat × Value) := [(1, av), (2, bv), (7, .int .i64 k), (8, .pointer (some ⟨p, 0, none⟩)), (9, mv), (10, .slice (some ⟨go, 0, none⟩) k k), (11, .int .i64 j)]
/-- The state: l is free, o is owned, xs are mine. -/
structure StP (w0 : World) (k p go : Nat) (mv : Value) (l o : List Bool) (xs : List (Int × Int)) (w : World) : Prop where
  st : Step noF w0 w
  hp : w0.heap.size ≤ p
  hg : w0.heap.size ≤ go
  sp : ∃ g, SpAt w p g l ∧ g ≠ go
  ow : RowIn w go 4 (bools o)
  ol : o.length = k
  qu : ∃ gm, w0.heap.size ≤ gm ∧ OwnQ w gm mv xs
  ll : l.length = k
theorem StP.is {w0 : World} {k p go : Nat} {mv : Value} {l o : List Bool} {xs : List (Int × Int)} {w : World} (h : StP w0 k p go mv l o xs w) : IsSp w p l := by obtain ⟨g, h1, _⟩ := h.sp; exact h1.sp
theorem StP.step {w0 : World} {k p go : Nat} {mv : Value} {l o : List Bool} {xs : List (Int × Int)} {w w' : World} (h : StP w0 k p go mv l o xs w) (hs : Step noF w w') : StP w0 k p go mv l o xs w' := by
  obtain ⟨g, h1, h2⟩ := h.sp
  obtain ⟨gm, q1, q2⟩ := h.qu
  exact ⟨h.st.trans hs, h.hp, h.hg, ⟨g, h1.step hs, h2⟩, h.ow.step hs (fun x => x), h.ol, ⟨gm, q1, q2.step hs⟩, h.ll⟩
/-- The space has turned. -/
theorem StP.turned {w0 : World} {k p go g : Nat} {mv : Value} {l l' o : List Bool} {xs : List (Int × Int)} {w w' : World} (h : StP w0 k p go mv l o xs w) (hg : g ≠ go) (hA : SpAt w p g l) (hs : Step (oneF p) w w') (hF : SpFrom w g w' p l') (hl : l'.length = k) : StP w0 k p go mv l' o xs w' := by
  obtain ⟨gm, q1, q2⟩ := h.qu
  obtain ⟨g', e, hB⟩ := hF
  have hgo := h.ow.lt
  have hb : ∃ c, w.heap[p]? = some (.cells #[.slice (some ⟨g, 0, none⟩) l.length c] 58 (0, 0)) := by obtain ⟨_, _, c, h3, _⟩ := hA; exact ⟨c, h3⟩
  obtain ⟨c, hb⟩ := hb
  refine ⟨h.st.then hs (fun i hi => .inr (by unfold oneF at hi; have := h.hp; omega)), h.hp, h.hg, ⟨g', hB, ?_⟩, h.ow.step hs (h.ow.ne hb ne_bool_space), h.ol, ⟨gm, q1, q2.keep hs (q2.ne hb (by decide))⟩, hl⟩
  rcases e with e | e
  · rw [e]; exact hg
  · omega
theorem StP.here {w0 : World} {k p go : Nat} {mv : Value} {l o : List Bool} {xs : List (Int × Int)} {w : World} (h : StP w0 k p go mv l o xs w) : k ≤ 512 ∧ 1 ≤ k := by
  have := h.is.1
  have := h.is.2.1
  have := h.ll
  omega

set_option maxHeartbeats 4000000 in
set_option maxRecDepth 100000 in
theorem q12_any (k p go j l cap : Nat) (aa : Option Addr) (mv av bv : Value) (hav : av = .slice aa l cap) (w : World) (hl : l ≤ 60) (Q : Exit → Act → World → Prop) (a : Act) (ha : KnP (baseP k p go j mv av bv) a)
    (hend : (j < l → ∀ a', KnP (baseP k p go j mv av bv) a' → Q .normal a' w) ∧ (¬ j < l → ∀ a', KnP (baseP k p go j mv av bv) a' → Q (.exit 0) a' w)) :
    Code.wp Try.prog (navP [1, 1, 1, 1, 1, 1, 1, 1, 0, 1, 0, 0, 0] (Try.f5.body.getD .skip)) Q a w := by
  obtain ⟨f, rfl, hf⟩ := ha.open
  have h1 : f 1 = av := hf (1, _) (by simp [baseP])
  have h2 : f 2 = bv := hf (2, _) (by simp [baseP])
  have h7 : f 7 = .int .i64 k := hf (7, _) (by simp [baseP])
  have h8 : f 8 = .pointer (some ⟨p, 0, none⟩) := hf (8, _) (by simp [baseP])
  have h9 : f 9 = mv := hf (9, _) (by simp [baseP])
  have h10 : f 10 = .slice (some ⟨go, 0, none⟩) k k := hf (10, _) (by simp [baseP])
  have h11 : f 11 = .int .i64 j := hf (11, _) (by simp [baseP])
  simp only [frP, h1, h2, h7, h8, h9, h10, h11]
  clear hf ha h1 h2 h7 h8 h9 h10 h11
  conv => arg 2; whnf
  have HE := hid hend
  clear hend
  by_cases h1 : j < l
  · have k1 : (j : Int) < (l : Int) := by omega
    have HC := hid h1
    clear h1
    rw [hav]
    go_wp2_with fail
    refine HE.out.1 HC.out _ ?_
    rw [hav]
    refine ⟨rfl, rfl, ?_⟩
    intro y hy
    simp only [baseP, List.mem_cons, List.not_mem_nil, or_false] at hy
    rcases hy with rfl | rfl | rfl | rfl | rfl | rfl | rfl <;> rfl
  · have k1 : ¬ (j : Int) < (l : Int) := by omega
    have HC := hid h1
    clear h1
    rw [hav]
    go_wp2_with fail
    refine HE.out.2 HC.out _ ?_
    rw [hav]
    refine ⟨rfl, rfl, ?_⟩
    intro y hy
    simp only [baseP, List.mem_cons, List.not_mem_nil, or_false] at hy
    rcases hy with rfl | rfl | rfl | rfl | rfl | rfl | rfl <;> rfl

set_option maxHeartbeats 4000000 in
set_option maxRecDepth 100000 in
theorem q13_any (k p go j : Nat) (mv av bv : Value) (w : World) (hj : j < 60) (Q : Exit → Act → World → Prop) (a : Act) (ha : KnP (baseP k p go j mv av bv) a) (hend : ∀ a', KnP (baseP k p go (j + 1) mv av bv) a' → Q .normal a' w) :
    Code.wp Try.prog (navP [1, 1, 1, 1, 1, 1, 1, 1, 0, 1, 0, 0, 1, 1] (Try.f5.body.getD .skip)) Q a w := by
  have hj2 : (j : Int) < 60 := by omega
  obtain ⟨f, rfl, hf⟩ := ha.open
  have h1 : f 1 = av := hf (1, _) (by simp [baseP])
  have h2 : f 2 = bv := hf (2, _) (by simp [baseP])
  have h7 : f 7 = .int .i64 k := hf (7, _) (by simp [baseP])
  have h8 : f 8 = .pointer (some ⟨p, 0, none⟩) := hf (8, _) (by simp [baseP])
  have h9 : f 9 = mv := hf (9, _) (by simp [baseP])
  have h10 : f 10 = .slice (some ⟨go, 0, none⟩) k k := hf (10, _) (by simp [baseP])
  have h11 : f 11 = .int .i64 j := hf (11, _) (by simp [baseP])
  simp only [frP, h1, h2, h7, h8, h9, h10, h11]
  clear hf ha h1 h2 h7 h8 h9 h10 h11
  conv => arg 2; whnf
  have HE := hid hend
  clear hend
  go_wp2_with fail
  refine HE.out _ ?_
  refine ⟨rfl, rfl, ?_⟩
  intro y hy
  simp only [baseP, List.mem_cons, List.not_mem_nil, or_false] at hy
  rcases hy with rfl | rfl | rfl | rfl | rfl | rfl | rfl <;> rfl

/-- 'int(uint(z) % 20)'. -/
theorem mod20 (z : Int) : ∃ j : Nat, wrap64 ((IntKind.u64.wrap z).tmod 20) = (j : Int) ∧ j < 20 := by
  have h0 := wrap_u64_nonneg z
  have e : (IntKind.u64.wrap z).tmod 20 = (IntKind.u64.wrap z) % 20 := Int.tmod_eq_emod_of_nonneg h0
  have l0 := Int.emod_nonneg (IntKind.u64.wrap z) (b := 20) (by omega)
  have l1 := Int.emod_lt_of_pos (IntKind.u64.wrap z) (b := 20) (by omega)
  refine ⟨((IntKind.u64.wrap z) % 20).toNat, ?_, by omega⟩
  rw [e]
  unfold wrap64
  omega

set_option maxHeartbeats 4000000 in
set_option maxRecDepth 100000 in
theorem q14_any (k p go j ab off l cap : Nat) (y : Int) (mv bv : Value) (w : World) (x0 : w.cell? ⟨ab, off + j, none⟩ = some (.int .i64 y)) (hj : j < l) (hl : l ≤ 60)
    (av : Value) (hav : av = .slice (some ⟨ab, off, none⟩) l cap) (Q : Exit → Act → World → Prop) (a : Act) (ha : KnP (baseP k p go j mv av bv) a)
    (hend : ∀ a' (z : Nat), 1 ≤ z → z ≤ 20 → KnP ((12, .int .i64 z) :: baseP k p go j mv av bv) a' → Q .normal a' w) :
    Code.wp Try.prog (navP [1, 1, 1, 1, 1, 1, 1, 1, 0, 1, 0, 0, 1, 0, 0, 0] (Try.f5.body.getD .skip)) Q a w := by
  have hji : (j : Int) < (l : Int) := by omega
  obtain ⟨m, hm, hm2⟩ := mod20 y
  obtain ⟨z, hz⟩ : ∃ z, 1 + m = z := ⟨_, rfl⟩
  have hz2 : (1 : Int) + (m : Int) = (z : Int) := by omega
  have hz3 : Hid (1 ≤ z ∧ z ≤ 20) := by constructor <;> omega
  have hz4 : z ≤ 20 := by omega
  obtain ⟨f, rfl, hf⟩ := ha.open
  have h1 : f 1 = av := hf (1, _) (by simp [baseP])
  have h2 : f 2 = bv := hf (2, _) (by simp [baseP])
  have h7 : f 7 = .int .i64 k := hf (7, _) (by simp [baseP])
  have h8 : f 8 = .pointer (some ⟨p, 0, none⟩) := hf (8, _) (by simp [baseP])
  have h9 : f 9 = mv := hf (9, _) (by simp [baseP])
  have h10 : f 10 = .slice (some ⟨go, 0, none⟩) k k := hf (10, _) (by simp [baseP])
  have h11 : f 11 = .int .i64 j := hf (11, _) (by simp [baseP])
  simp only [frP, h1, h2, h7, h8, h9, h10, h11]
  clear hf ha h1 h2 h7 h8 h9 h10 h11
  conv => arg 2; whnf
  have HE := hid hend
  clear hend hj hz hm2
  rw [hav]
  go_wp2_with fail
  refine HE.out _ z hz3.out.1 hz3.out.2 ?_
  rw [hav]
  refine ⟨rfl, rfl, ?_⟩
  intro y hy
  simp only [baseP, List.mem_cons, List.not_mem_nil, or_false] at hy
  rcases hy with rfl | rfl | rfl | rfl | rfl | rfl | rfl | rfl <;> rfl

set_option maxHeartbeats 4000000 in
set_option maxRecDepth 100000 in
theorem q15_any (k p go j : Nat) (z : Int) (mv av bv : Value) (w : World) (l : List Bool) (hsp : IsSp w p l) (Q : Exit → Act → World → Prop) (a : Act) (ha : KnP ((12, .int .i64 z) :: baseP k p go j mv av bv) a)
    (hend : ∀ a' w', KnP ((13, .int .i64 (largL l)) :: (12, .int .i64 z) :: baseP k p go j mv av bv) a' → Step noF w w' → Q .normal a' w') :
    Code.wp Try.prog (navP [1, 1, 1, 1, 1, 1, 1, 1, 0, 1, 0, 0, 1, 0, 0, 1, 0] (Try.f5.body.getD .skip)) Q a w := by
  obtain ⟨f, rfl, hf⟩ := ha.open
  have h1 : f 1 = av := hf (1, _) (by simp [baseP])
  have h2 : f 2 = bv := hf (2, _) (by simp [baseP])
  have h7 : f 7 = .int .i64 k := hf (7, _) (by simp [baseP])
  have h8 : f 8 = .pointer (some ⟨p, 0, none⟩) := hf (8, _) (by simp [baseP])
  have h9 : f 9 = mv := hf (9, _) (by simp [baseP])
  have h10 : f 10 = .slice (some ⟨go, 0, none⟩) k k := hf (10, _) (by simp [baseP])
  have h11 : f 11 = .int .i64 j := hf (11, _) (by simp [baseP])
  have h12 : f 12 = .int .i64 z := hf (12, _) (by simp [baseP])
  simp only [frP, h1, h2, h7, h8, h9, h10, h11, h12]
  clear hf ha h1 h2 h7 h8 h9 h10 h11 h12
  conv => arg 2; whnf
  have HE := hid hend
  clear hend
  go_wp2_with fail
  refine (larg_any w p l hsp).mono ?_
  rintro e w1 ⟨rfl, s1⟩
  go_wp2_with fail
  refine HE.out _ _ ?_ s1
  refine ⟨rfl, rfl, ?_⟩
  intro y hy
  simp only [baseP, List.mem_cons, List.not_mem_nil, or_false] at hy
  rcases hy with rfl | rfl | rfl | rfl | rfl | rfl | rfl | rfl | rfl <;> rfl

set_option maxHeartbeats 4000000 in
set_option maxRecDepth 100000 in
theorem q16_any (w0 : World) (k p go j : Nat) (z la : Int) (hz : 1 ≤ z) (hz2 : z ≤ 20) (mv av bv : Value) (w : World) (l o : List Bool) (xs : List (Int × Int)) (hS : StP w0 k p go mv l o xs w) (Q : Exit → Act → World → Prop) (a : Act) (ha : KnP ((13, .int .i64 la) :: (12, .int .i64 z) :: baseP k p go j mv av bv) a)
    (hend : ∀ a' w' xb, KnP ((15, .int .i64 (takeE l z)) :: (14, .pointer (some ⟨xb, 0, none⟩)) :: (13, .int .i64 la) :: (12, .int .i64 z) :: baseP k p go j mv av bv) a' → StP w0 k p go mv (takeL l z) o xs w' → w0.heap.size ≤ xb → w'.heap[xb]? = some (.cells #[.int .i64 (takeX l z).1, .int .i64 (takeX l z).2] 31 (0, 0)) → Q .normal a' w') :
    Code.wp Try.prog (navP [1, 1, 1, 1, 1, 1, 1, 1, 0, 1, 0, 0, 1, 0, 0, 1, 1, 0] (Try.f5.body.getD .skip)) Q a w := by
  obtain ⟨f, rfl, hf⟩ := ha.open
  have h1 : f 1 = av := hf (1, _) (by simp [baseP])
  have h2 : f 2 = bv := hf (2, _) (by simp [baseP])
  have h7 : f 7 = .int .i64 k := hf (7, _) (by simp [baseP])
  have h8 : f 8 = .pointer (some ⟨p, 0, none⟩) := hf (8, _) (by simp [baseP])
  have h9 : f 9 = mv := hf (9, _) (by simp [baseP])
  have h10 : f 10 = .slice (some ⟨go, 0, none⟩) k k := hf (10, _) (by simp [baseP])
  have h11 : f 11 = .int .i64 j := hf (11, _) (by simp [baseP])
  have h12 : f 12 = .int .i64 z := hf (12, _) (by simp [baseP])
  have h13 : f 13 = .int .i64 la := hf (13, _) (by simp [baseP])
  simp only [frP, h1, h2, h7, h8, h9, h10, h11, h12, h13]
  clear hf ha h1 h2 h7 h8 h9 h10 h11 h12 h13
  conv => arg 2; whnf
  have HE := hid hend
  clear hend
  obtain ⟨g, hA, hne⟩ := hS.sp
  have HS := hid hS
  clear hS
  go_wp2_with fail
  refine (take_at w p g l hA z (by omega)).mono ?_
  rintro e w1 ⟨rfl, s1, h1⟩
  go_wp2_with fail
  refine HE.out _ _ w1.heap.size ?_ ?_ ?_ (block_alloc_new _ _)
  · skip
    refine ⟨rfl, rfl, ?_⟩
    intro y hy
    simp only [baseP, List.mem_cons, List.not_mem_nil, or_false] at hy
    rcases hy with rfl | rfl | rfl | rfl | rfl | rfl | rfl | rfl | rfl | rfl | rfl <;> rfl
  · exact (HS.out.turned hne hA s1 h1 ((takeL_len l z).trans HS.out.ll)).step ((Step.refl _ _).alloc _)
  · exact Nat.le_trans HS.out.st.size s1.size

set_option maxHeartbeats 4000000 in
set_option maxRecDepth 100000 in
theorem q17_any (k p go j xb : Nat) (z la e : Int) (mv av bv : Value) (w : World) (he : (e = 0 ∧ z ≤ la) ∨ (e = 9 ∧ ¬ z ≤ la)) (Q : Exit → Act → World → Prop) (a : Act) (ha : KnP ((15, .int .i64 e) :: (14, .pointer (some ⟨xb, 0, none⟩)) :: (13, .int .i64 la) :: (12, .int .i64 z) :: baseP k p go j mv av bv) a)
    (hend : ∀ a', KnP ((15, .int .i64 e) :: (14, .pointer (some ⟨xb, 0, none⟩)) :: (12, .int .i64 z) :: baseP k p go j mv av bv) a' → Q .normal a' w) :
    Code.wp Try.prog (navP [1, 1, 1, 1, 1, 1, 1, 1, 0, 1, 0, 0, 1, 0, 0, 1, 1, 1, 0] (Try.f5.body.getD .skip)) Q a w := by
  obtain ⟨f, rfl, hf⟩ := ha.open
  have h1 : f 1 = av := hf (1, _) (by simp [baseP])
  have h2 : f 2 = bv := hf (2, _) (by simp [baseP])
  have h7 : f 7 = .int .i64 k := hf (7, _) (by simp [baseP])
  have h8 : f 8 = .pointer (some ⟨p, 0, none⟩) := hf (8, _) (by simp [baseP])
  have h9 : f 9 = mv := hf (9, _) (by simp [baseP])
  have h10 : f 10 = .slice (some ⟨go, 0, none⟩) k k := hf (10, _) (by simp [baseP])
  have h11 : f 11 = .int .i64 j := hf (11, _) (by simp [baseP])
  have h12 : f 12 = .int .i64 z := hf (12, _) (by simp [baseP])
  have h13 : f 13 = .int .i64 la := hf (13, _) (by simp [baseP])
  have h14 : f 14 = .pointer (some ⟨xb, 0, none⟩) := hf (14, _) (by simp [baseP])
  have h15 : f 15 = .int .i64 e := hf (15, _) (by simp [baseP])
  simp only [frP, h1, h2, h7, h8, h9, h10, h11, h12, h13, h14, h15]
  clear hf ha h1 h2 h7 h8 h9 h10 h11 h12 h13 h14 h15
  conv => arg 2; whnf
  have HE := hid hend
  clear hend
  rcases he with ⟨rfl, h⟩ | ⟨rfl, h⟩
  · have d1 : decide (z ≤ la) = true := by simpa using h
    go_wp2_with fail
    refine HE.out _ ?_
    refine ⟨rfl, rfl, ?_⟩
    intro y hy
    simp only [baseP, List.mem_cons, List.not_mem_nil, or_false] at hy
    rcases hy with rfl | rfl | rfl | rfl | rfl | rfl | rfl | rfl | rfl | rfl <;> rfl
  · have d1 : decide (z ≤ la) = false := by simpa using h
    go_wp2_with fail
    refine HE.out _ ?_
    refine ⟨rfl, rfl, ?_⟩
    intro y hy
    simp only [baseP, List.mem_cons, List.not_mem_nil, or_false] at hy
    rcases hy with rfl | rfl | rfl | rfl | rfl | rfl | rfl | rfl | rfl | rfl <;> rfl
end Go.Proofs.Ytdcomcpinlgpdaa
