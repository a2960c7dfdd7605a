/-
  slices.symMergeCmpFunc at messages: two runs of whatever length are merged, in place and in their order.
-/
import Derived.Test.YtclaagihmpghnaaLfSymB
namespace Go.Proofs.Ytclaagihmpghnaa
open Go.Shelf Go.RowKit Go.Lib Go.Sort
set_option linter.unusedVariables false
set_option linter.unusedSimpArgs false
attribute [-simp] Try.sizeOf58
variable {α : Type} [Inhabited α]

set_option maxHeartbeats 4000000 in
set_option maxRecDepth 1000000 in
theorem symRec_any {key : α → List UInt8} {k : Nat} {enc : α → List Value} {cf : α → α → Int} {g : Nat} {cb : Array Value} {blk off : Nat} {d0 : Array α} {w0 : World} (C : SortCtx key k enc cf g cb blk off d0 w0) (cap a m b N : Nat) (hS : SymOK key k enc blk off cap d0 w0 (.func (.func g) #[] cb) N) (A X Y B : List α) (d : Array α) (w : World)
    (hd : d.toList = A ++ X ++ Y ++ B) (ha : A.length = a) (hm : a + X.length = m) (hb : m + Y.length = b) (hX2 : 2 ≤ X.length) (hY2 : 2 ≤ Y.length) (hN : X.length + Y.length ≤ N) (hds : d.size = d0.size) (hX : Up key X) (hY : Up key Y) (S : SWK enc k w0 blk off d w)
    (mid n p lo hi : Nat) (e1 : mid = (a + b) / 2) (e2 : n = mid + m) (e3 : n = p + 1) (hway : (mid < m ∧ n = lo + b ∧ hi = mid) ∨ (¬ mid < m ∧ lo = a ∧ hi = m)) :
    Calls Try.prog 96 #[.slice (some ⟨blk, off, none⟩) d0.size cap, .int .i64 a, .int .i64 m, .int .i64 b, .func (.func g) #[] cb] w fun e w' => e = .returned (.tuple #[]) ∧ Mrg key k enc blk off d0 w0 A X Y B w' := by
  have mixed : Try.prog.follows .mixedOrders = true := by kernel_rfl
  have zE := C.zE
  have eg := C.eg
  have hsz := C.hsz
  have hl : d.size = A.length + X.length + Y.length + B.length := by rw [← Array.length_toList, hd]; simp; omega
  have hbd : b ≤ d0.size := by omega
  have hma : ((m : Int) - (a : Int) == 1) = false := by rw [beq_eq_false_iff_ne]; omega
  have hmb : ((b : Int) - (m : Int) == 1) = false := by rw [beq_eq_false_iff_ne]; omega
  have z1 : ((a : Int) + (b : Int)) / 2 = (mid : Int) := by omega
  have z2 : (mid : Int) + (m : Int) = (n : Int) := by omega
  have z3 : (n : Int) - 1 = (p : Int) := by omega
  have HB : Aside (d.toList = A ++ X ++ Y ++ B ∧ A.length = a ∧ a + X.length = m ∧ m + Y.length = b ∧ d.size = d0.size ∧ mid = (a + b) / 2 ∧ n = mid + m ∧ n = p + 1) := ⟨hd, ha, hm, hb, hds, e1, e2, e3⟩
  have HN : Aside (X.length + Y.length ≤ N) := hN
  have S0 : Aside (SWK enc k w0 blk off d w) := S
  have q1 : a + 2 ≤ m := by omega
  have q2 : m + 2 ≤ b := by omega
  have q3 : n ≤ mid + m ∧ mid + m ≤ n := by omega
  have q4 : 2 * mid ≤ a + b ∧ a + b ≤ 2 * mid + 1 := by omega
  have q5 : n ≤ p + 1 ∧ p + 1 ≤ n := by omega
  have q6 : a ≤ lo ∧ lo ≤ hi ∧ hi ≤ m ∧ m + hi ≤ n ∧ n ≤ b + lo ∧ (lo = a ∨ n = b + lo) ∧ (hi = m ∨ n = m + hi) := by omega
  have HQ : Aside ((lo = a ∨ n = b + lo) ∧ (hi = m ∨ n = m + hi)) := q6.2.2.2.2.2
  obtain ⟨q61, q62, q63, q64, q65, _⟩ := q6
  have hw1 : (mid < m → (n : Int) - (b : Int) = (lo : Int) ∧ (mid : Int) = (hi : Int)) ∧ (¬ mid < m → (a : Int) = (lo : Int) ∧ (m : Int) = (hi : Int)) := by omega
  have HW : Aside _ := hw1
  clear S hd hl ha hm hb hds e1 e2 e3 hN hX2 hY2 hway hw1
  by_cases hway : mid < m
  all_goals
    first
    | (have v1 : (mid : Int) < (m : Int) := by omega
       have v2 := (HW.out.1 hway).1)
    | (have v1 : ¬ (mid : Int) < (m : Int) := by omega)
    go_enter Try.func96, Try.ntmps96
    go_wp2
    rename_i KK hKK
    have HK := hid hKK
    clear hKK
    go_loopg [20, 21] (hi - lo) (fun kx s20 s21 wr => ∃ (st r : Nat), s20 = .int .i64 st ∧ s21 = .int .i64 r ∧ lo ≤ st ∧ st ≤ r ∧ r ≤ hi ∧ r - st ≤ kx ∧ Aside (SWK enc k w0 blk off d wr) ∧
      Aside ((st ≠ lo → ¬ key d[n - st]! < key d[st - 1]!) ∧ (r ≠ hi → key d[n - 1 - r]! < key d[r]!)))
    case atStart =>
      have hw := HW.out
      refine ⟨lo, hi, by first | rfl | (congr 1; omega), by first | rfl | (congr 1; omega), Nat.le_refl _, by omega, Nat.le_refl _, Nat.le_refl _, S0, ?_⟩
      exact ⟨fun h => absurd rfl h, fun h => absurd rfl h⟩
    case round =>
      clear S0
      obtain ⟨st, r, rfl, rfl, h1, h2, h3, hkx, S1, I⟩ := hrel
      by_cases hlt : st < r
      · have hltz : (st : Int) < (r : Int) := by omega
        obtain ⟨c, hc⟩ : ∃ c, (st + r) / 2 = c := ⟨_, rfl⟩
        have ec : ((st : Int) + (r : Int)) / 2 = (c : Int) := by omega
        have hsc : st ≤ c := by omega
        have hcr : c < r := by omega
        obtain ⟨pc, hpc⟩ : ∃ pc, p - c = pc := ⟨_, rfl⟩
        have epc : (p : Int) - (c : Int) = (pc : Int) := by omega
        have hpz : pc < d0.size := by omega
        have hpb : (pc : Int) < (d0.size : Int) := by omega
        have hcb : (c : Int) < (d0.size : Int) := by omega
        have HC : Aside ((st + r) / 2 = c ∧ p - c = pc) := ⟨hc, hpc⟩
        have rp : IntKind.i64.wrap (pc : Int) = (pc : Int) := by rw [IntKind.wrap_i64]; omega
        clear hc hpc
        have hs0 : d.size = d0.size := HB.out.2.2.2.2.1
        have l1 := S1.out.ld C.R hs0 Try.prog pc (by omega)
        have l2 := S1.out.ld C.R hs0 Try.prog c (by omega)
        have hcg := S1.out.cmp C.cmp hs0 d[pc]! d[c]!
        clear hs0
        obtain ⟨y, hy⟩ : ∃ y, d[pc]! = y := ⟨_, rfl⟩
        obtain ⟨x, hx⟩ : ∃ x, d[c]! = x := ⟨_, rfl⟩
        rw [hy] at l1 hcg
        rw [hx] at l2 hcg
        have HXY : Aside (d[pc]! = y ∧ d[c]! = x) := ⟨hy, hx⟩
        clear hy hx
        rcases Decidable.em (cf y x < 0) with hlv | hlv
        case inr =>
          have hlv2 : decide (cf y x < 0) = false := decide_eq_false (by omega)
          go_wp2_with fail
          go_quiet_grown (first | (go_at_fn g; refine Calls.grown_of (hcg _ _)))
          go_wp2
          go_roundg (r - (c + 1))
          case measure => omega
          case rel =>
            refine ⟨c + 1, r, by simp, rfl, by omega, by omega, by omega, Nat.le_refl _, S1.out.grown nq osq, ?_⟩
            refine ⟨fun _ => ?_, I.out.2⟩
            obtain ⟨c1, c2⟩ := HC.out
            obtain ⟨y1, x1⟩ := HXY.out
            rw [show n - (c + 1) = pc by omega, show c + 1 - 1 = c by omega, y1, x1]
            exact fun e => absurd ((C.hcf _ _).2 e) (by omega)
        case inl =>
          have hlv2 : decide (cf y x < 0) = true := decide_eq_true hlv
          go_wp2_with fail
          go_quiet_grown (first | (go_at_fn g; refine Calls.grown_of (hcg _ _)))
          go_wp2
          go_roundg (c - st)
          case measure => omega
          case rel =>
            refine ⟨st, c, rfl, rfl, by omega, by omega, by omega, Nat.le_refl _, S1.out.grown nq osq, ?_⟩
            refine ⟨I.out.1, fun _ => ?_⟩
            obtain ⟨c1, c2⟩ := HC.out
            obtain ⟨y1, x1⟩ := HXY.out
            rw [show n - 1 - c = pc by omega, y1, x1]
            exact (C.hcf _ _).1 (by omega)
      · obtain rfl : st = r := by omega
        have hltz : ¬ (st : Int) < (st : Int) := by omega
        go_wp2
        refine HK.out _ _ ?_
        obtain ⟨b1, b2, b3, b4, b5, b6, b7, b8⟩ := HB.out
        have hq := HQ.out
        refine symTail_any C.zE C.R C.hsz (.func (.func g) #[] cb) d0.size cap a m b mid st (n - st) N rfl hS A X Y B d wr b1 b2 b3 b4 HN.out hX hY b5 S1.out ⟨by omega, by omega⟩ ⟨by omega, by omega, by omega⟩ ⟨by omega, by omega⟩ ?_ ?_ _ n b7 (by omega) _ ?_ ?_
        · intro g1 g2
          exact I.out.1 (by omega)
        · intro g1 g2
          have := I.out.2 (by omega)
          rwa [show n - 1 - st = n - st - 1 by omega] at this
        · refine ⟨rfl, rfl, ?_⟩
          intro y hy
          simp only [baseR, List.mem_cons, List.not_mem_nil, or_false] at hy
          rcases hy with rfl | rfl | rfl | rfl | rfl | rfl | rfl | rfl <;> rfl
        · intro a' w' ka hM
          obtain ⟨f, rfl, -⟩ := ka.open
          go_end0
          exact ⟨rfl, hM⟩
end Go.Proofs.Ytclaagihmpghnaa
