/-
  slices.symMergeCmpFunc at messages: what stands behind its search: the exchange, and both halves.
-/
import Derived.Test.YtnalillebemglaaGreatLfSwap
import Derived.Test.YtnalillebemglaaGreatDraw
namespace Go.Proofs.YtnalillebemglaaGreat
open Go.Shelf Go.RowKit Go.Lib Go.Sort
set_option linter.unusedVariables false
set_option linter.unusedSimpArgs false
attribute [-simp] Tryz.sizeOf37
variable {α : Type} [Inhabited α]

def baseS (blk off n0 cap a m b mid st en : Nat) (fv : Value) : List (Nat × Value) := [(0, .slice (some ⟨blk, off, none⟩) n0 cap), (1, .int .i64 a), (2, .int .i64 m), (3, .int .i64 b), (4, fv), (18, .int .i64 mid), (20, .int .i64 st), (24, .int .i64 en)]
/-- What the function does at fewer than N elements. -/
def SymOK (key : α → List UInt8) (k : Nat) (enc : α → List Value) (blk off cap : Nat) (d0 : Array α) (w0 : World) (fv : Value) (N : Nat) : Prop :=
  ∀ (a m b : Nat) (A X Y B : List α) (d : Array α) (w : World), d.toList = A ++ X ++ Y ++ B → A.length = a → a + X.length = m → m + Y.length = b → d.size = d0.size → 0 < X.length → 0 < Y.length → X.length + Y.length < N → Up key X → Up key Y → SWK enc k w0 blk off d w →
    Calls Tryz.prog 100 #[.slice (some ⟨blk, off, none⟩) d0.size cap, .int .i64 a, .int .i64 m, .int .i64 b, fv] w fun e w' => e = .returned (.tuple #[]) ∧ Mrg key k enc blk off d0 w0 A X Y B w'

set_option maxHeartbeats 4000000 in
set_option maxRecDepth 100000 in
theorem p39_any {k : Nat} {enc : α → List Value} {blk off : Nat} {d0 : Array α} {w0 : World} (zE : ∀ w, (Go.sizeOf 37).run Tryz.prog w = .ok k w) (R : RowK enc k w0 blk off d0) (hsz : d0.size < 4611686018427387904) (fv : Value) (n0 cap a m b mid st en : Nat) (hn0 : n0 = d0.size) (A X1 X2 Y1 Y2 B : List α) (d : Array α) (w : World)
    (hd : d.toList = A ++ X1 ++ X2 ++ Y1 ++ Y2 ++ B) (h1 : A.length = a) (h2 : a + X1.length = st) (h3 : st + X2.length = m) (h4 : m + Y1.length = en) (hds : d.size = d0.size) (S : SWK enc k w0 blk off d w)
    (Q : Exit → Act → World → Prop) (a0 : Act) (ha : KnS (baseS blk off n0 cap a m b mid st en fv) a0)
    (hend : ∀ a' w' (d' : Array α), KnS (baseS blk off n0 cap a m b mid st en fv) a' → d'.size = d0.size → SWK enc k w0 blk off d' w' → d'.toList = A ++ X1 ++ Y1 ++ X2 ++ Y2 ++ B → Q .normal a' w') :
    Code.wp Tryz.prog (navS [1, 1, 1, 1, 1, 1, 1, 1, 1, 0] (Tryz.f100.body.getD .skip)) Q a0 w := by
  have hl : d.size = A.length + X1.length + X2.length + Y1.length + Y2.length + B.length := by rw [← Array.length_toList, hd]; simp; omega
  have hbd : en ≤ d0.size := by omega
  subst hn0
  obtain ⟨f, rfl, hf⟩ := ha.open
  have h0 : f 0 = .slice (some ⟨blk, off, none⟩) d0.size cap := hf (0, _) (by simp [baseS])
  have h1 : f 1 = .int .i64 a := hf (1, _) (by simp [baseS])
  have h2 : f 2 = .int .i64 m := hf (2, _) (by simp [baseS])
  have h3 : f 3 = .int .i64 b := hf (3, _) (by simp [baseS])
  have h4 : f 4 = fv := hf (4, _) (by simp [baseS])
  have h18 : f 18 = .int .i64 mid := hf (18, _) (by simp [baseS])
  have h20 : f 20 = .int .i64 st := hf (20, _) (by simp [baseS])
  have h24 : f 24 = .int .i64 en := hf (24, _) (by simp [baseS])
  simp only [frS, h0, h1, h2, h3, h4, h18, h20, h24]
  clear hf ha h0 h1 h2 h3 h4 h18 h20 h24
  conv => arg 2; whnf
  have HE := hid hend
  clear hend
  by_cases c1 : 0 < X2.length
  · have z1 : (st : Int) < (m : Int) := by omega
    by_cases c2 : 0 < Y1.length
    · have z2 : (m : Int) < (en : Int) := by omega
      have hc := rotate_any k zE enc fv blk off cap st m en d0 d w0 w R hds.symm S (A ++ X1) X2 Y1 (Y2 ++ B) (by rw [hd]; simp) (by simp; omega) h3 h4 c1 c2 (by omega)
      rw [hds] at hc
      clear hd h1 h2 h3 h4 hds hl
      go_wp2_with (go_at_call 113; refine hc.mono ?_; rintro e w' ⟨rfl, d', e1, e2, e3⟩)
      refine HE.out _ _ d' ?_ (by omega) e2 (by rw [e3]; simp)
      refine ⟨rfl, rfl, ?_⟩
      intro y hy
      simp only [baseS, List.mem_cons, List.not_mem_nil, or_false] at hy
      rcases hy with rfl | rfl | rfl | rfl | rfl | rfl | rfl | rfl <;> rfl
    · have z2 : ¬ (m : Int) < (en : Int) := by omega
      have HD := hid hd
      have HS := hid hds
      clear hd h1 h2 h3 h4 hds hl
      go_wp2
      refine HE.out _ _ d ?_ HS.out S ?_
      refine ⟨rfl, rfl, ?_⟩
      intro y hy
      simp only [baseS, List.mem_cons, List.not_mem_nil, or_false] at hy
      rcases hy with rfl | rfl | rfl | rfl | rfl | rfl | rfl | rfl <;> rfl
      rw [HD.out, show Y1 = [] from List.eq_nil_of_length_eq_zero (by omega)]
      simp
  · have z1 : ¬ (st : Int) < (m : Int) := by omega
    have HD := hid hd
    have HS := hid hds
    clear hd h1 h2 h3 h4 hds hl
    go_wp2
    refine HE.out _ _ d ?_ HS.out S ?_
    refine ⟨rfl, rfl, ?_⟩
    intro y hy
    simp only [baseS, List.mem_cons, List.not_mem_nil, or_false] at hy
    rcases hy with rfl | rfl | rfl | rfl | rfl | rfl | rfl | rfl <;> rfl
    rw [HD.out, show X2 = [] from List.eq_nil_of_length_eq_zero (by omega)]
    simp

/-- What the runs come to where one of them is empty. -/
theorem mrg_none {key : α → List UInt8} {k : Nat} {enc : α → List Value} {blk off : Nat} {d0 : Array α} {w0 : World} (A X Y B : List α) (d : Array α) (w : World) (hd : d.toList = A ++ X ++ Y ++ B) (hds : d.size = d0.size) (hX : Up key X) (hY : Up key Y) (h : X.length = 0 ∨ Y.length = 0) (S : SWK enc k w0 blk off d w) : Mrg key k enc blk off d0 w0 A X Y B w := by
  refine ⟨d, X ++ Y, hds, S, by rw [hd]; simp, by simp, ?_, Alike.refl _⟩
  rcases h with h | h
  · rw [List.eq_nil_of_length_eq_zero h]; exact hY
  · rw [List.eq_nil_of_length_eq_zero h, List.append_nil]; exact hX

set_option maxHeartbeats 4000000 in
set_option maxRecDepth 100000 in
theorem p41_any {key : α → List UInt8} {k : Nat} {enc : α → List Value} {blk off : Nat} {d0 : Array α} {w0 : World} (hsz : d0.size < 4611686018427387904) (fv : Value) (n0 cap a m b mid st en N : Nat) (hn0 : n0 = d0.size) (hS : SymOK key k enc blk off cap d0 w0 fv N) (A X Y B : List α) (d : Array α) (w : World)
    (hd : d.toList = A ++ X ++ Y ++ B) (h1 : A.length = a) (h2 : a + X.length = st) (h3 : st + Y.length = mid) (hN : X.length + Y.length < N) (hX : Up key X) (hY : Up key Y) (hds : d.size = d0.size) (S : SWK enc k w0 blk off d w)
    (Q : Exit → Act → World → Prop) (a0 : Act) (ha : KnS (baseS blk off n0 cap a m b mid st en fv) a0)
    (hend : ∀ a' w', KnS (baseS blk off n0 cap a m b mid st en fv) a' → Mrg key k enc blk off d0 w0 A X Y B w' → Q .normal a' w') :
    Code.wp Tryz.prog (navS [1, 1, 1, 1, 1, 1, 1, 1, 1, 1, 0] (Tryz.f100.body.getD .skip)) Q a0 w := by
  subst hn0
  obtain ⟨f, rfl, hf⟩ := ha.open
  have h0 : f 0 = .slice (some ⟨blk, off, none⟩) d0.size cap := hf (0, _) (by simp [baseS])
  have h1 : f 1 = .int .i64 a := hf (1, _) (by simp [baseS])
  have h2 : f 2 = .int .i64 m := hf (2, _) (by simp [baseS])
  have h3 : f 3 = .int .i64 b := hf (3, _) (by simp [baseS])
  have h4 : f 4 = fv := hf (4, _) (by simp [baseS])
  have h18 : f 18 = .int .i64 mid := hf (18, _) (by simp [baseS])
  have h20 : f 20 = .int .i64 st := hf (20, _) (by simp [baseS])
  have h24 : f 24 = .int .i64 en := hf (24, _) (by simp [baseS])
  simp only [frS, h0, h1, h2, h3, h4, h18, h20, h24]
  clear hf ha h0 h1 h2 h3 h4 h18 h20 h24
  conv => arg 2; whnf
  have HE := hid hend
  clear hend
  by_cases c1 : 0 < X.length
  · have z1 : (a : Int) < (st : Int) := by omega
    by_cases c2 : 0 < Y.length
    · have z2 : (st : Int) < (mid : Int) := by omega
      have hc := hS a st mid A X Y B d w hd h1 h2 h3 hds c1 c2 hN hX hY S
      clear hd h1 h2 h3 hds
      go_wp2_with (go_at_call 100; refine hc.mono ?_; rintro e w' ⟨rfl, e1⟩)
      refine HE.out _ _ ?_ e1
      refine ⟨rfl, rfl, ?_⟩
      intro y hy
      simp only [baseS, List.mem_cons, List.not_mem_nil, or_false] at hy
      rcases hy with rfl | rfl | rfl | rfl | rfl | rfl | rfl | rfl <;> rfl
    · have z2 : ¬ (st : Int) < (mid : Int) := by omega
      have HM := hid (mrg_none A X Y B d w hd hds hX hY (.inr (by omega)) S)
      clear hd h1 h2 h3 hds
      go_wp2
      refine HE.out _ _ ?_ HM.out
      refine ⟨rfl, rfl, ?_⟩
      intro y hy
      simp only [baseS, List.mem_cons, List.not_mem_nil, or_false] at hy
      rcases hy with rfl | rfl | rfl | rfl | rfl | rfl | rfl | rfl <;> rfl
  · have z1 : ¬ (a : Int) < (st : Int) := by omega
    have HM := hid (mrg_none A X Y B d w hd hds hX hY (.inl (by omega)) S)
    clear hd h1 h2 h3 hds
    go_wp2
    refine HE.out _ _ ?_ HM.out
    refine ⟨rfl, rfl, ?_⟩
    intro y hy
    simp only [baseS, List.mem_cons, List.not_mem_nil, or_false] at hy
    rcases hy with rfl | rfl | rfl | rfl | rfl | rfl | rfl | rfl <;> rfl

set_option maxHeartbeats 4000000 in
set_option maxRecDepth 100000 in
theorem p43_any {key : α → List UInt8} {k : Nat} {enc : α → List Value} {blk off : Nat} {d0 : Array α} {w0 : World} (hsz : d0.size < 4611686018427387904) (fv : Value) (n0 cap a m b mid st en N : Nat) (hn0 : n0 = d0.size) (hS : SymOK key k enc blk off cap d0 w0 fv N) (A X Y B : List α) (d : Array α) (w : World)
    (hd : d.toList = A ++ X ++ Y ++ B) (h1 : A.length = mid) (h2 : mid + X.length = en) (h3 : en + Y.length = b) (hN : X.length + Y.length < N) (hX : Up key X) (hY : Up key Y) (hds : d.size = d0.size) (S : SWK enc k w0 blk off d w)
    (Q : Exit → Act → World → Prop) (a0 : Act) (ha : KnS (baseS blk off n0 cap a m b mid st en fv) a0)
    (hend : ∀ a' w', KnS (baseS blk off n0 cap a m b mid st en fv) a' → Mrg key k enc blk off d0 w0 A X Y B w' → Q .normal a' w') :
    Code.wp Tryz.prog (navS [1, 1, 1, 1, 1, 1, 1, 1, 1, 1, 1] (Tryz.f100.body.getD .skip)) Q a0 w := by
  subst hn0
  obtain ⟨f, rfl, hf⟩ := ha.open
  have h0 : f 0 = .slice (some ⟨blk, off, none⟩) d0.size cap := hf (0, _) (by simp [baseS])
  have h1 : f 1 = .int .i64 a := hf (1, _) (by simp [baseS])
  have h2 : f 2 = .int .i64 m := hf (2, _) (by simp [baseS])
  have h3 : f 3 = .int .i64 b := hf (3, _) (by simp [baseS])
  have h4 : f 4 = fv := hf (4, _) (by simp [baseS])
  have h18 : f 18 = .int .i64 mid := hf (18, _) (by simp [baseS])
  have h20 : f 20 = .int .i64 st := hf (20, _) (by simp [baseS])
  have h24 : f 24 = .int .i64 en := hf (24, _) (by simp [baseS])
  simp only [frS, h0, h1, h2, h3, h4, h18, h20, h24]
  clear hf ha h0 h1 h2 h3 h4 h18 h20 h24
  conv => arg 2; whnf
  have HE := hid hend
  clear hend
  by_cases c1 : 0 < X.length
  · have z1 : (mid : Int) < (en : Int) := by omega
    by_cases c2 : 0 < Y.length
    · have z2 : (en : Int) < (b : Int) := by omega
      have hc := hS mid en b A X Y B d w hd h1 h2 h3 hds c1 c2 hN hX hY S
      clear hd h1 h2 h3 hds
      go_wp2_with (go_at_call 100; refine hc.mono ?_; rintro e w' ⟨rfl, e1⟩)
      refine HE.out _ _ ?_ e1
      refine ⟨rfl, rfl, ?_⟩
      intro y hy
      simp only [baseS, List.mem_cons, List.not_mem_nil, or_false] at hy
      rcases hy with rfl | rfl | rfl | rfl | rfl | rfl | rfl | rfl <;> rfl
    · have z2 : ¬ (en : Int) < (b : Int) := by omega
      have HM := hid (mrg_none A X Y B d w hd hds hX hY (.inr (by omega)) S)
      clear hd h1 h2 h3 hds
      go_wp2
      refine HE.out _ _ ?_ HM.out
      refine ⟨rfl, rfl, ?_⟩
      intro y hy
      simp only [baseS, List.mem_cons, List.not_mem_nil, or_false] at hy
      rcases hy with rfl | rfl | rfl | rfl | rfl | rfl | rfl | rfl <;> rfl
  · have z1 : ¬ (mid : Int) < (en : Int) := by omega
    have HM := hid (mrg_none A X Y B d w hd hds hX hY (.inl (by omega)) S)
    clear hd h1 h2 h3 hds
    go_wp2
    refine HE.out _ _ ?_ HM.out
    refine ⟨rfl, rfl, ?_⟩
    intro y hy
    simp only [baseS, List.mem_cons, List.not_mem_nil, or_false] at hy
    rcases hy with rfl | rfl | rfl | rfl | rfl | rfl | rfl | rfl <;> rfl

def baseR (blk off n0 cap a m b mid n st : Nat) (fv : Value) : List (Nat × Value) := [(0, .slice (some ⟨blk, off, none⟩) n0 cap), (1, .int .i64 a), (2, .int .i64 m), (3, .int .i64 b), (4, fv), (18, .int .i64 mid), (19, .int .i64 n), (20, .int .i64 st)]
set_option maxHeartbeats 4000000 in
set_option maxRecDepth 100000 in
theorem r38_any (fv : Value) (blk off n0 cap a m b mid n st en : Nat) (w : World) (he : n = en + st) (hn : n < 9223372036854775808)
    (Q : Exit → Act → World → Prop) (a0 : Act) (ha : KnS (baseR blk off n0 cap a m b mid n st fv) a0) (hend : ∀ a', KnS (baseS blk off n0 cap a m b mid st en fv) a' → Q .normal a' w) :
    Code.wp Tryz.prog (navS [1, 1, 1, 1, 1, 1, 1, 1, 0] (Tryz.f100.body.getD .skip)) Q a0 w := by
  have ez : (n : Int) - (st : Int) = (en : Int) := by omega
  have hz : IntKind.i64.wrap (en : Int) = (en : Int) := by rw [IntKind.wrap_i64]; omega
  simp only [baseR] at ha
  obtain ⟨f, rfl, hf⟩ := ha.open
  have h0 : f 0 = .slice (some ⟨blk, off, none⟩) n0 cap := hf (0, _) (by simp [baseS])
  have h1 : f 1 = .int .i64 a := hf (1, _) (by simp [baseS])
  have h2 : f 2 = .int .i64 m := hf (2, _) (by simp [baseS])
  have h3 : f 3 = .int .i64 b := hf (3, _) (by simp [baseS])
  have h4 : f 4 = fv := hf (4, _) (by simp [baseS])
  have h18 : f 18 = .int .i64 mid := hf (18, _) (by simp [baseS])
  have h19 : f 19 = .int .i64 n := hf (19, _) (by simp [baseS])
  have h20 : f 20 = .int .i64 st := hf (20, _) (by simp [baseS])
  simp only [frS, h0, h1, h2, h3, h4, h18, h19, h20]
  clear hf ha h0 h1 h2 h3 h4 h18 h19 h20
  conv => arg 2; whnf
  have HE := hid hend
  clear hend he
  go_wp2
  refine HE.out _ ?_
  refine ⟨rfl, rfl, ?_⟩
  intro y hy
  simp only [baseS, List.mem_cons, List.not_mem_nil, or_false] at hy
  rcases hy with rfl | rfl | rfl | rfl | rfl | rfl | rfl | rfl <;> rfl

/-- All that stands behind the search. -/
theorem symTail_any {key : α → List UInt8} {k : Nat} {enc : α → List Value} {blk off : Nat} {d0 : Array α} {w0 : World} (zE : ∀ w, (Go.sizeOf 37).run Tryz.prog w = .ok k w) (R : RowK enc k w0 blk off d0) (hsz : d0.size < 4611686018427387904) (fv : Value) (n0 cap a m b mid st en N : Nat) (hn0 : n0 = d0.size) (hS : SymOK key k enc blk off cap d0 w0 fv N) (A X Y B : List α) (d : Array α) (w : World)
    (hd : d.toList = A ++ X ++ Y ++ B) (h1 : A.length = a) (h2 : a + X.length = m) (h3 : m + Y.length = b) (hN : X.length + Y.length ≤ N) (hX : Up key X) (hY : Up key Y) (hds : d.size = d0.size) (S : SWK enc k w0 blk off d w)
    (hst : a ≤ st ∧ st ≤ m) (hen : mid + m = en + st ∧ m ≤ en ∧ en ≤ b) (hmid : a < mid ∧ mid < b)
    (hc1 : st ≠ a → en ≠ b → ¬ key d[en]! < key d[st - 1]!) (hc2 : en ≠ m → st ≠ m → key d[en - 1]! < key d[st]!)
    (Q : Exit → Act → World → Prop) (n : Nat) (hn : n = mid + m) (hn2 : n < 9223372036854775808) (aR : Act) (haR : KnS (baseR blk off n0 cap a m b mid n st fv) aR)
    (hend : ∀ a' w', KnS (baseS blk off n0 cap a m b mid st en fv) a' → Mrg key k enc blk off d0 w0 A X Y B w' → Q .normal a' w') :
    Code.wp Tryz.prog (Code.seq (navS [1, 1, 1, 1, 1, 1, 1, 1, 0] (Tryz.f100.body.getD .skip)) (Code.seq (navS [1, 1, 1, 1, 1, 1, 1, 1, 1, 0] (Tryz.f100.body.getD .skip)) (Code.seq (navS [1, 1, 1, 1, 1, 1, 1, 1, 1, 1, 0] (Tryz.f100.body.getD .skip)) (navS [1, 1, 1, 1, 1, 1, 1, 1, 1, 1, 1] (Tryz.f100.body.getD .skip))))) Q aR w := by
  refine wp_seq ?_
  refine r38_any fv blk off n0 cap a m b mid n st en w (by omega) hn2 _ aR haR ?_
  intro a0 ha
  show Code.wp _ _ _ _ _
  have eX : X.take (st - a) ++ X.drop (st - a) = X := List.take_append_drop _ _
  have eY : Y.take (en - m) ++ Y.drop (en - m) = Y := List.take_append_drop _ _
  have uX := up_append.1 (show Up key (X.take (st - a) ++ X.drop (st - a)) by rw [eX]; exact hX)
  have uY := up_append.1 (show Up key (Y.take (en - m) ++ Y.drop (en - m)) by rw [eY]; exact hY)
  have lX1 : (X.take (st - a)).length = st - a := by simp; omega
  have lX2 : (X.drop (st - a)).length = m - st := by simp; omega
  have lY1 : (Y.take (en - m)).length = en - m := by simp; omega
  have lY2 : (Y.drop (en - m)).length = b - en := by simp; omega
  refine wp_seq ?_
  refine p39_any zE R hsz fv n0 cap a m b mid st en hn0 A (X.take (st - a)) (X.drop (st - a)) (Y.take (en - m)) (Y.drop (en - m)) B d w ?_ h1 (by omega) (by omega) (by omega) hds S _ a0 ha ?_
  · rw [hd]
    simp only [List.append_assoc]
    rw [← List.append_assoc (X.take _), eX, ← List.append_assoc (Y.take _), eY]
  intro a1 w1 d1 k1 z1 S1 e1
  show Code.wp _ _ _ _ _
  refine wp_seq ?_
  refine p41_any hsz fv n0 cap a m b mid st en N hn0 hS A (X.take (st - a)) (Y.take (en - m)) (X.drop (st - a) ++ Y.drop (en - m) ++ B) d1 w1 (by rw [e1]; simp only [List.append_assoc]) h1 (by omega) (by omega) (by omega) uX.1 uY.1 z1 S1 _ a1 k1 ?_
  rintro a2 w2 k2 ⟨d2, Z1, z2, S2, e2, l2, u2, al2⟩
  show Code.wp _ _ _ _ _
  refine p43_any hsz fv n0 cap a m b mid st en N hn0 hS (A ++ Z1) (X.drop (st - a)) (Y.drop (en - m)) B d2 w2 (by rw [e2]; simp only [List.append_assoc]) (by simp; omega) (by omega) (by omega) (by omega) uX.2.1 uY.2.1 z2 S2 _ a2 k2 ?_
  rintro a3 w3 k3 ⟨d3, Z2, z3, S3, e3, l3, u3, al3⟩
  have hM := merged X Y Z1 Z2 (st - a) (en - m) hX hY (by omega) (by omega) (fun p q => by
      have := hc1 (by omega) (by omega)
      rw [list_at d (A ++ X) Y B (by rw [hd]) en (en - m) (by simp; omega) q, list_at d A X (Y ++ B) (by rw [hd]; simp) (st - 1) (st - a - 1) (by omega) (by omega)] at this
      exact this) (fun p q => by
      have := hc2 (by omega) (by omega)
      rw [list_at d (A ++ X) Y B (by rw [hd]) (en - 1) (en - m - 1) (by simp; omega) (by omega), list_at d A X (Y ++ B) (by rw [hd]; simp) st (st - a) (by omega) q] at this
      exact this) u2 u3 al2 al3
  refine hend a3 w3 k3 ⟨d3, Z1 ++ Z2, z3, S3, by rw [e3]; simp, by simp; omega, hM.1, hM.2⟩
end Go.Proofs.YtnalillebemglaaGreat
namespace Go.Proofs.YtnalillebemglaaGreat
open Go.Shelf Go.RowKit Go.Lib Go.Sort
set_option linter.unusedVariables false
set_option linter.unusedSimpArgs false
attribute [-simp] Tryz.sizeOf37
variable {α : Type} [Inhabited α]

set_option maxHeartbeats 4000000 in
set_option maxRecDepth 1000000 in
theorem symRec_any {key : α → List UInt8} {k : Nat} {enc : α → List Value} {cf : α → α → Int} {g : Nat} {cb : Array Value} {blk off : Nat} {d0 : Array α} {w0 : World} (C : SortCtx key k enc cf g cb blk off d0 w0) (cap a m b N : Nat) (hS : SymOK key k enc blk off cap d0 w0 (.func (.func g) #[] cb) N) (A X Y B : List α) (d : Array α) (w : World)
    (hd : d.toList = A ++ X ++ Y ++ B) (ha : A.length = a) (hm : a + X.length = m) (hb : m + Y.length = b) (hX2 : 2 ≤ X.length) (hY2 : 2 ≤ Y.length) (hN : X.length + Y.length ≤ N) (hds : d.size = d0.size) (hX : Up key X) (hY : Up key Y) (S : SWK enc k w0 blk off d w)
    (mid n p lo hi : Nat) (e1 : mid = (a + b) / 2) (e2 : n = mid + m) (e3 : n = p + 1) (hway : (mid < m ∧ n = lo + b ∧ hi = mid) ∨ (¬ mid < m ∧ lo = a ∧ hi = m)) :
    Calls Tryz.prog 100 #[.slice (some ⟨blk, off, none⟩) d0.size cap, .int .i64 a, .int .i64 m, .int .i64 b, .func (.func g) #[] cb] w fun e w' => e = .returned (.tuple #[]) ∧ Mrg key k enc blk off d0 w0 A X Y B w' := by
  have mixed : Tryz.prog.follows .mixedOrders = true := by kernel_rfl
  have zE := C.zE
  have eg := C.eg
  have hsz := C.hsz
  have hl : d.size = A.length + X.length + Y.length + B.length := by rw [← Array.length_toList, hd]; simp; omega
  have hbd : b ≤ d0.size := by omega
  have hma : ((m : Int) - (a : Int) == 1) = false := by rw [beq_eq_false_iff_ne]; omega
  have hmb : ((b : Int) - (m : Int) == 1) = false := by rw [beq_eq_false_iff_ne]; omega
  have z1 : ((a : Int) + (b : Int)) / 2 = (mid : Int) := by omega
  have z2 : (mid : Int) + (m : Int) = (n : Int) := by omega
  have z3 : (n : Int) - 1 = (p : Int) := by omega
  have HB : Aside (d.toList = A ++ X ++ Y ++ B ∧ A.length = a ∧ a + X.length = m ∧ m + Y.length = b ∧ d.size = d0.size ∧ mid = (a + b) / 2 ∧ n = mid + m ∧ n = p + 1) := ⟨hd, ha, hm, hb, hds, e1, e2, e3⟩
  have HN : Aside (X.length + Y.length ≤ N) := hN
  have S0 : Aside (SWK enc k w0 blk off d w) := S
  have q1 : a + 2 ≤ m := by omega
  have q2 : m + 2 ≤ b := by omega
  have q3 : n ≤ mid + m ∧ mid + m ≤ n := by omega
  have q4 : 2 * mid ≤ a + b ∧ a + b ≤ 2 * mid + 1 := by omega
  have q5 : n ≤ p + 1 ∧ p + 1 ≤ n := by omega
  have q6 : a ≤ lo ∧ lo ≤ hi ∧ hi ≤ m ∧ m + hi ≤ n ∧ n ≤ b + lo ∧ (lo = a ∨ n = b + lo) ∧ (hi = m ∨ n = m + hi) := by omega
  have HQ : Aside ((lo = a ∨ n = b + lo) ∧ (hi = m ∨ n = m + hi)) := q6.2.2.2.2.2
  obtain ⟨q61, q62, q63, q64, q65, _⟩ := q6
  have hw1 : (mid < m → (n : Int) - (b : Int) = (lo : Int) ∧ (mid : Int) = (hi : Int)) ∧ (¬ mid < m → (a : Int) = (lo : Int) ∧ (m : Int) = (hi : Int)) := by omega
  have HW : Aside _ := hw1
  clear S hd hl ha hm hb hds e1 e2 e3 hN hX2 hY2 hway hw1
  by_cases hway : mid < m
  all_goals
    first
    | (have v1 : (mid : Int) < (m : Int) := by omega
       have v2 := (HW.out.1 hway).1)
    | (have v1 : ¬ (mid : Int) < (m : Int) := by omega)
    go_enter Tryz.func100, Tryz.ntmps100
    go_wp2
    rename_i KK hKK
    have HK := hid hKK
    clear hKK
    go_loopg [20, 21] (hi - lo) (fun kx s20 s21 wr => ∃ (st r : Nat), s20 = .int .i64 st ∧ s21 = .int .i64 r ∧ lo ≤ st ∧ st ≤ r ∧ r ≤ hi ∧ r - st ≤ kx ∧ Aside (SWK enc k w0 blk off d wr) ∧
      Aside ((st ≠ lo → ¬ key d[n - st]! < key d[st - 1]!) ∧ (r ≠ hi → key d[n - 1 - r]! < key d[r]!)))
    case atStart =>
      have hw := HW.out
      refine ⟨lo, hi, by first | rfl | (congr 1; omega), by first | rfl | (congr 1; omega), Nat.le_refl _, by omega, Nat.le_refl _, Nat.le_refl _, S0, ?_⟩
      exact ⟨fun h => absurd rfl h, fun h => absurd rfl h⟩
    case round =>
      clear S0
      obtain ⟨st, r, rfl, rfl, h1, h2, h3, hkx, S1, I⟩ := hrel
      by_cases hlt : st < r
      · have hltz : (st : Int) < (r : Int) := by omega
        obtain ⟨c, hc⟩ : ∃ c, (st + r) / 2 = c := ⟨_, rfl⟩
        have ec : ((st : Int) + (r : Int)) / 2 = (c : Int) := by omega
        have hsc : st ≤ c := by omega
        have hcr : c < r := by omega
        obtain ⟨pc, hpc⟩ : ∃ pc, p - c = pc := ⟨_, rfl⟩
        have epc : (p : Int) - (c : Int) = (pc : Int) := by omega
        have hpz : pc < d0.size := by omega
        have hpb : (pc : Int) < (d0.size : Int) := by omega
        have hcb : (c : Int) < (d0.size : Int) := by omega
        have HC : Aside ((st + r) / 2 = c ∧ p - c = pc) := ⟨hc, hpc⟩
        have rp : IntKind.i64.wrap (pc : Int) = (pc : Int) := by rw [IntKind.wrap_i64]; omega
        clear hc hpc
        have hs0 : d.size = d0.size := HB.out.2.2.2.2.1
        have l1 := S1.out.ld C.R hs0 Tryz.prog pc (by omega)
        have l2 := S1.out.ld C.R hs0 Tryz.prog c (by omega)
        have hcg := S1.out.cmp C.cmp hs0 d[pc]! d[c]!
        clear hs0
        obtain ⟨y, hy⟩ : ∃ y, d[pc]! = y := ⟨_, rfl⟩
        obtain ⟨x, hx⟩ : ∃ x, d[c]! = x := ⟨_, rfl⟩
        rw [hy] at l1 hcg
        rw [hx] at l2 hcg
        have HXY : Aside (d[pc]! = y ∧ d[c]! = x) := ⟨hy, hx⟩
        clear hy hx
        rcases Decidable.em (cf y x < 0) with hlv | hlv
        case inr =>
          have hlv2 : decide (cf y x < 0) = false := decide_eq_false (by omega)
          go_wp2_with fail
          go_quiet_grown (first | (go_at_fn g; refine Calls.grown_of (hcg _ _)))
          go_wp2
          go_roundg (r - (c + 1))
          case measure => omega
          case rel =>
            refine ⟨c + 1, r, by simp, rfl, by omega, by omega, by omega, Nat.le_refl _, S1.out.grown nq osq, ?_⟩
            refine ⟨fun _ => ?_, I.out.2⟩
            obtain ⟨c1, c2⟩ := HC.out
            obtain ⟨y1, x1⟩ := HXY.out
            rw [show n - (c + 1) = pc by omega, show c + 1 - 1 = c by omega, y1, x1]
            exact fun e => absurd ((C.hcf _ _).2 e) (by omega)
        case inl =>
          have hlv2 : decide (cf y x < 0) = true := decide_eq_true hlv
          go_wp2_with fail
          go_quiet_grown (first | (go_at_fn g; refine Calls.grown_of (hcg _ _)))
          go_wp2
          go_roundg (c - st)
          case measure => omega
          case rel =>
            refine ⟨st, c, rfl, rfl, by omega, by omega, by omega, Nat.le_refl _, S1.out.grown nq osq, ?_⟩
            refine ⟨I.out.1, fun _ => ?_⟩
            obtain ⟨c1, c2⟩ := HC.out
            obtain ⟨y1, x1⟩ := HXY.out
            rw [show n - 1 - c = pc by omega, y1, x1]
            exact (C.hcf _ _).1 (by omega)
      · obtain rfl : st = r := by omega
        have hltz : ¬ (st : Int) < (st : Int) := by omega
        go_wp2
        refine HK.out _ _ ?_
        obtain ⟨b1, b2, b3, b4, b5, b6, b7, b8⟩ := HB.out
        have hq := HQ.out
        refine symTail_any C.zE C.R C.hsz (.func (.func g) #[] cb) d0.size cap a m b mid st (n - st) N rfl hS A X Y B d wr b1 b2 b3 b4 HN.out hX hY b5 S1.out ⟨by omega, by omega⟩ ⟨by omega, by omega, by omega⟩ ⟨by omega, by omega⟩ ?_ ?_ _ n b7 (by omega) _ ?_ ?_
        · intro g1 g2
          exact I.out.1 (by omega)
        · intro g1 g2
          have := I.out.2 (by omega)
          rwa [show n - 1 - st = n - st - 1 by omega] at this
        · refine ⟨rfl, rfl, ?_⟩
          intro y hy
          simp only [baseR, List.mem_cons, List.not_mem_nil, or_false] at hy
          rcases hy with rfl | rfl | rfl | rfl | rfl | rfl | rfl | rfl <;> rfl
        · intro a' w' ka hM
          obtain ⟨f, rfl, -⟩ := ka.open
          go_end0
          exact ⟨rfl, hM⟩
end Go.Proofs.YtnalillebemglaaGreat
