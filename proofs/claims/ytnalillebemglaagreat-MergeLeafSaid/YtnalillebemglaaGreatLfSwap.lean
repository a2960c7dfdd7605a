/-
  slices.SortStableFunc at messages: what swapRangeCmpFunc and rotateCmpFunc do, in the worlds of the shelf's sorts.
  slices.symMergeCmpFunc at messages: one element ahead of a run, and one behind it.
-/
import Derived.Shelf.SlSortCmp.KitK
import Derived.Sort.WalkB2
import Derived.Sort.WalkB12
import Derived.Deep.LoopGhost
import Derived.Test.YtnalillebemglaaGreatRows
import Derived.Test.YtnalillebemglaaGreatStable
import Derived.Test.YtnalillebemglaaGreatFrame
namespace Go.Proofs.YtnalillebemglaaGreat
open Go.Shelf Go.RowKit Go.Lib Go.Sort
set_option linter.unusedVariables false
set_option linter.unusedSimpArgs false
attribute [-simp] Tryz.sizeOf37
variable {α : Type} [Inhabited α]

set_option maxHeartbeats 4000000 in
set_option maxRecDepth 1000000 in
theorem swapRange_any (k : Nat) (zE : ∀ w, (Go.sizeOf 37).run Tryz.prog w = .ok k w) (enc : α → List Value) (fv : Value) (blk off cap a b n : Nat) (d0 d : Array α) (w0 w : World)
    (R : RowK enc k w0 blk off d0) (hs : d0.size = d.size) (S : SWK enc k w0 blk off d w) (ha : a + n ≤ d.size) (hb : b + n ≤ d.size) (hsz : d.size < 4611686018427387904) :
    Calls Tryz.prog 118 #[.slice (some ⟨blk, off, none⟩) d.size cap, .int .i64 a, .int .i64 b, .int .i64 n, fv] w fun e w' => e = .returned (.tuple #[]) ∧ SWK enc k w0 blk off (swapN d a b n) w' := by
  have mixed : Tryz.prog.follows .mixedOrders = true := by kernel_rfl
  have S0 : Aside (SWK enc k w0 blk off d w) := S
  clear S
  go_enter Tryz.func118, Tryz.ntmps118
  go_wp2
  go_loopg [10] n (fun kx s10 wr => ∃ (i : Nat), s10 = .int .i64 i ∧ i ≤ n ∧ n - i ≤ kx ∧ Aside (SWK enc k w0 blk off (swapN d a b i) wr))
  case atStart => exact ⟨0, rfl, by omega, by omega, S0⟩
  case round =>
    clear S0
    obtain ⟨i, rfl, hin, hkx, S1⟩ := hrel
    by_cases hlt : i < n
    · have hltz : (i : Int) < (n : Int) := by omega
      go_wp2_with fail
      obtain ⟨dk, hdk⟩ : ∃ dk, swapN d a b i = dk := ⟨_, rfl⟩
      have hds : dk.size = d.size := by rw [← hdk, swapN_size]
      have DK : Aside (swapN d a b i = dk) := hdk
      have S1' : Aside (SWK enc k w0 blk off dk wr) := by rw [← hdk]; exact S1
      clear S1 hdk
      have ea : ((a : Int) + (i : Int)).toNat = a + i := by omega
      have pa : (0 : Int) ≤ (a : Int) + (i : Int) := by omega
      have ba : (a : Int) + (i : Int) < (d.size : Int) := by omega
      have ra : IntKind.i64.wrap ((a : Int) + (i : Int)) = (a : Int) + (i : Int) := by rw [IntKind.wrap_i64]; omega
      have eb : ((b : Int) + (i : Int)).toNat = b + i := by omega
      have pb : (0 : Int) ≤ (b : Int) + (i : Int) := by omega
      have bb : (b : Int) + (i : Int) < (d.size : Int) := by omega
      have rb : IntKind.i64.wrap ((b : Int) + (i : Int)) = (b : Int) + (i : Int) := by rw [IntKind.wrap_i64]; omega
      have S2 : Aside (SWK enc k w0 blk off (swp dk (a + i) (b + i)) ((wr.drew.setCells blk (off + (a + i) * k) (enc dk[b + i]!)).setCells blk (off + (b + i) * k) (enc dk[a + i]!))) := S1'.out.swapped R (a + i) (b + i) (by omega) (by omega)
      have la := S1'.out.ld1 R (by omega) Tryz.prog (a + i) (by omega)
      have lb := S1'.out.ld1 R (by omega) Tryz.prog (b + i) (by omega)
      have sa := S1'.out.st1 R (by omega) Tryz.prog (a + i) (by omega) dk[b + i]!
      have sb := S1'.out.st2 R (by omega) Tryz.prog (a + i) (b + i) (by omega) (by omega) dk[b + i]! dk[a + i]!
      have na : (enc dk[a + i]!).length = k := R.hk _
      have nb : (enc dk[b + i]!).length = k := R.hk _
      generalize enc dk[a + i]! = cI at S2 la sb na
      generalize enc dk[b + i]! = cJ at S2 lb sa sb nb
      clear S1'
      go_wp2_with fail
      go_big_region_o
      clear la lb sa sb
      generalize (wr.drew.setCells blk (off + (a + i) * k) cJ).setCells blk (off + (b + i) * k) cI = w2 at S2 ⊢
      go_wp2
      go_roundg (n - (i + 1))
      case measure => omega
      case rel =>
        refine ⟨i + 1, by simp, by omega, by omega, ?_⟩
        rw [swapN, DK.out]
        exact S2
    · obtain rfl : i = n := by omega
      go_wp2
      go_end0
      exact ⟨rfl, S1.out⟩

set_option maxHeartbeats 1000000 in
set_option maxRecDepth 100000 in
theorem rotate_any (k : Nat) (zE : ∀ w, (Go.sizeOf 37).run Tryz.prog w = .ok k w) (enc : α → List Value) (fv : Value) (blk off cap a m b : Nat) (d0 d : Array α) (w0 w : World)
    (R : RowK enc k w0 blk off d0) (hs : d0.size = d.size) (S : SWK enc k w0 blk off d w) (A U V B : List α) (hd : d.toList = A ++ U ++ V ++ B) (ha : A.length = a) (hm : a + U.length = m) (hb : m + V.length = b) (hU : 0 < U.length) (hV : 0 < V.length) (hsz : d.size < 4611686018427387904) :
    Calls Tryz.prog 113 #[.slice (some ⟨blk, off, none⟩) d.size cap, .int .i64 a, .int .i64 m, .int .i64 b, fv] w fun e w' => e = .returned (.tuple #[]) ∧ ∃ d', d'.size = d.size ∧ SWK enc k w0 blk off d' w' ∧ d'.toList = A ++ V ++ U ++ B := by
  have S0 : Aside (SWK enc k w0 blk off d w) := S
  have hl : d.size = A.length + U.length + V.length + B.length := by rw [← Array.length_toList, hd]; simp; omega
  have hbd : b ≤ d.size := by omega
  have HD : Aside (d.toList = A ++ U ++ V ++ B) := hd
  clear S hd hl
  go_enter Tryz.func113, Tryz.ntmps113
  go_wp2
  go_loopg [10, 11] (U.length + V.length) (fun kx s10 s11 wr => ∃ (i j : Nat) (dk : Array α), s10 = .int .i64 i ∧ s11 = .int .i64 j ∧ 0 < i ∧ 0 < j ∧ i + j ≤ kx ∧ i ≤ m ∧ m + j ≤ d.size ∧ dk.size = d.size ∧ Aside (SWK enc k w0 blk off dk wr) ∧
    Aside (∃ P X Y Z : List α, dk.toList = P ++ X ++ Y ++ Z ∧ X.length = i ∧ Y.length = j ∧ P.length + i = m ∧ P ++ Y ++ X ++ Z = A ++ V ++ U ++ B))
  case atStart =>
    refine ⟨U.length, V.length, d, ?_, ?_, hU, hV, Nat.le_refl _, by omega, by omega, rfl, S0, ?_⟩
    · congr 1; omega
    · congr 1; omega
    · exact ⟨A, U, V, B, HD.out, rfl, rfl, by omega, rfl⟩
  case round =>
    clear S0 HD
    obtain ⟨i, j, dk, rfl, rfl, hi, hj, hkx, him, hjm, hds, S1, I⟩ := hrel
    obtain ⟨q, hq⟩ : ∃ q, m - i = q := ⟨_, rfl⟩
    have e0 : (m : Int) - (i : Int) = (q : Int) := by omega
    have hr : IntKind.i64.wrap (q : Int) = (q : Int) := by rw [IntKind.wrap_i64]; omega
    by_cases hne : i = j
    · subst hne
      have hc := swapRange_any k zE enc fv blk off cap q m i d0 dk w0 wr R (by omega) S1.out (by omega) (by omega) (by omega)
      rw [hds] at hc
      go_wp2_with (go_at_call 118; refine hc.mono ?_; rintro e w' ⟨rfl, hS⟩)
      go_end0
      refine ⟨rfl, _, by rw [swapN_size]; exact hds, hS, ?_⟩
      obtain ⟨P, X, Y, Z, h1, h2, h3, h4, h5⟩ := I.out
      rw [← h5]
      have := swapN_all dk P X [] Y Z (by simpa using h1) (by omega) q m i (by omega) (by simp; omega) (by omega)
      simpa using this
    · have hnz : ¬ (i : Int) = (j : Int) := by omega
      by_cases hgt : j < i
      · have hgz : (j : Int) < (i : Int) := by omega
        have hc := swapRange_any k zE enc fv blk off cap q m j d0 dk w0 wr R (by omega) S1.out (by omega) (by omega) (by omega)
        rw [hds] at hc
        go_wp2_with (go_at_call 118; refine hc.mono ?_; rintro e w' ⟨rfl, hS⟩)
        have HS : Aside _ := hS
        clear hS
        go_roundg (i - j + j)
        case measure => omega
        case rel =>
          refine ⟨i - j, j, swapN dk q m j, ?_, rfl, by omega, by omega, Nat.le_refl _, by omega, by omega, by rw [swapN_size]; exact hds, HS, ?_⟩
          · congr 1; omega
          · obtain ⟨P, X, Y, Z, h1, h2, h3, h4, h5⟩ := I.out
            refine ⟨P ++ Y, X.drop j, X.take j, Z, ?_, by simp; omega, by simp; omega, by simp; omega, ?_⟩
            · have e1 : X = X.take j ++ X.drop j := (List.take_append_drop j X).symm
              have := swapN_all dk P (X.take j) (X.drop j) Y Z (by rw [h1]; simp only [List.append_assoc]; rw [← List.append_assoc (X.take j), List.take_append_drop]) (by simp; omega) q m j (by omega) (by simp; omega) (by simp; omega)
              rw [this]
            · rw [← h5]
              simp only [List.append_assoc]
              rw [← List.append_assoc (X.take j), List.take_append_drop]
      · have hgz : ¬ (j : Int) < (i : Int) := by omega
        obtain ⟨p, hp⟩ : ∃ p, m + j - i = p := ⟨_, rfl⟩
        have e1 : (m : Int) + (j : Int) - (i : Int) = (p : Int) := by omega
        have hc := swapRange_any k zE enc fv blk off cap q p i d0 dk w0 wr R (by omega) S1.out (by omega) (by omega) (by omega)
        rw [hds] at hc
        have hr1 : IntKind.i64.wrap (p : Int) = (p : Int) := by rw [IntKind.wrap_i64]; omega
        have hr2 : IntKind.i64.wrap ((m : Int) + (j : Int)) = (m : Int) + (j : Int) := by rw [IntKind.wrap_i64]; omega
        go_wp2_with (go_at_call 118; refine hc.mono ?_; rintro e w' ⟨rfl, hS⟩)
        have HS : Aside _ := hS
        clear hS
        go_roundg (i + (j - i))
        case measure => omega
        case rel =>
          refine ⟨i, j - i, swapN dk q p i, rfl, ?_, by omega, by omega, Nat.le_refl _, by omega, by omega, by rw [swapN_size]; exact hds, HS, ?_⟩
          · congr 1; omega
          · obtain ⟨P, X, Y, Z, h1, h2, h3, h4, h5⟩ := I.out
            refine ⟨P, Y.drop (j - i), Y.take (j - i), X ++ Z, ?_, by simp; omega, by simp; omega, by omega, ?_⟩
            · have := swapN_all dk P X (Y.take (j - i)) (Y.drop (j - i)) Z (by rw [h1]; simp only [List.append_assoc]; rw [← List.append_assoc (Y.take (j - i)), List.take_append_drop]) (by simp; omega) q p i (by omega) (by simp; omega) (by omega)
              rw [this]
              simp only [List.append_assoc]
            · rw [← h5]
              simp only [List.append_assoc]
              rw [← List.append_assoc (Y.take (j - i)), List.take_append_drop]
end Go.Proofs.YtnalillebemglaaGreat
namespace Go.Proofs.YtnalillebemglaaGreat
open Go.Shelf Go.RowKit Go.Lib Go.Sort
set_option linter.unusedVariables false
set_option linter.unusedSimpArgs false
attribute [-simp] Tryz.sizeOf37
variable {α : Type} [Inhabited α]

/-- What the sort is told, once. -/
structure SortCtx (key : α → List UInt8) (k : Nat) (enc : α → List Value) (cf : α → α → Int) (g : Nat) (cb : Array Value) (blk off : Nat) (d0 : Array α) (w0 : World) : Prop where
  zE : ∀ w, (Go.sizeOf 37).run Tryz.prog w = .ok k w
  R : RowK enc k w0 blk off d0
  cmp : CmpLays Tryz.prog g cb enc k cf blk off d0.size w0
  eg : ∀ args w, (callFunc g args).run Tryz.prog w = .ok (.enter g args) w
  hcf : ∀ x y, cf x y < 0 ↔ key x < key y
  hsz : d0.size < 4611686018427387904
/-- Two runs are merged. -/
def Mrg (key : α → List UInt8) (k : Nat) (enc : α → List Value) (blk off : Nat) (d0 : Array α) (w0 : World) (A X Y B : List α) (w' : World) : Prop :=
  ∃ (d' : Array α) (Z : List α), d'.size = d0.size ∧ SWK enc k w0 blk off d' w' ∧ d'.toList = A ++ Z ++ B ∧ Z.length = X.length + Y.length ∧ Up key Z ∧ Alike key Z (X ++ Y)

theorem list_at (d : Array α) (A X B : List α) (hd : d.toList = A ++ X ++ B) (i j : Nat) (hi : i = A.length + j) (hj : j < X.length) : d[i]! = X[j] := by
  subst hi
  rw [at_toList d _ (by rw [hd]; simp; omega)]
  simp only [hd]
  rw [List.getElem_append_left (by simp; omega), List.getElem_append_right (by omega)]
  congr 1
  omega

set_option maxHeartbeats 4000000 in
set_option maxRecDepth 1000000 in
theorem symLeft_any {key : α → List UInt8} {k : Nat} {enc : α → List Value} {cf : α → α → Int} {g : Nat} {cb : Array Value} {blk off : Nat} {d0 : Array α} {w0 : World} (C : SortCtx key k enc cf g cb blk off d0 w0) (cap a m b : Nat) (A Y B : List α) (x : α) (d : Array α) (w : World)
    (hd : d.toList = A ++ [x] ++ Y ++ B) (ha : A.length = a) (hm : a + 1 = m) (hb : m + Y.length = b) (hds : d.size = d0.size) (hY : Up key Y) (S : SWK enc k w0 blk off d w) :
    Calls Tryz.prog 100 #[.slice (some ⟨blk, off, none⟩) d0.size cap, .int .i64 a, .int .i64 m, .int .i64 b, .func (.func g) #[] cb] w fun e w' => e = .returned (.tuple #[]) ∧ Mrg key k enc blk off d0 w0 A [x] Y B w' := by
  have mixed : Tryz.prog.follows .mixedOrders = true := by kernel_rfl
  have zE := C.zE
  have eg := C.eg
  have hsz := C.hsz
  have hl : d.size = A.length + 1 + Y.length + B.length := by rw [← Array.length_toList, hd]; simp; omega
  have hbd : b ≤ d0.size := by omega
  have hma : (m : Int) - (a : Int) = 1 := by omega
  have hx : d[a]! = x := list_at d A [x] (Y ++ B) (by rw [hd]; simp) a 0 (by omega) (by simp)
  have hy : ∀ j (h : j < Y.length), d[m + j]! = Y[j] := fun j h => list_at d (A ++ [x]) Y B (by rw [hd]) (m + j) j (by simp; omega) h
  have HX : Aside (d[a]! = x) := hx
  have HY : Aside (∀ j (h : j < Y.length), d[m + j]! = Y[j]) := hy
  have HD : Aside (d.toList = A ++ [x] ++ Y ++ B) := hd
  have S0 : Aside (SWK enc k w0 blk off d w) := S
  have HB : Aside (A.length = a ∧ a + 1 = m ∧ m + Y.length = b ∧ d.size = d0.size) := ⟨ha, hm, hb, hds⟩
  have ham : a < m := by omega
  have hmb : m ≤ b := by omega
  clear S hd hl hx hy ha hm hb hds
  go_enter Tryz.func100, Tryz.ntmps100
  go_wp2
  go_loopg [10, 11] (b - m) (fun kx s10 s11 wr => ∃ (i j : Nat), s10 = .int .i64 i ∧ s11 = .int .i64 j ∧ m ≤ i ∧ i ≤ j ∧ j ≤ b ∧ j - i ≤ kx ∧ Aside (SWK enc k w0 blk off d wr) ∧
    Aside ((m < i → key d[i - 1]! < key x) ∧ (j < b → ¬ key d[j]! < key x)))
  case atStart =>
    refine ⟨m, b, rfl, rfl, Nat.le_refl _, by omega, Nat.le_refl _, Nat.le_refl _, S0, ?_⟩
    exact ⟨fun h => absurd h (by omega), fun h => absurd h (by omega)⟩
  case round =>
    clear S0
    obtain ⟨i, j, rfl, rfl, hmi, hij, hjb, hkx, S1, I⟩ := hrel
    by_cases hlt : i < j
    · have hltz : (i : Int) < (j : Int) := by omega
      obtain ⟨h, hh⟩ : ∃ h, (i + j) / 2 = h := ⟨_, rfl⟩
      have eh : ((i : Int) + (j : Int)) / 2 = (h : Int) := by omega
      have hih : i ≤ h := by omega
      have hhj : h < j := by omega
      have hbz : (h : Int) < (d0.size : Int) := by omega
      have haz : (a : Int) < (d0.size : Int) := by omega
      have HH : Aside ((i + j) / 2 = h) := hh
      clear hh
      have hs0 : d.size = d0.size := HB.out.2.2.2
      have lh := S1.out.ld C.R hs0 Tryz.prog h (by omega)
      have la := S1.out.ld C.R hs0 Tryz.prog a (by omega)
      have hcg := S1.out.cmp C.cmp hs0 d[h]! d[a]!
      clear hs0
      rw [HX.out] at la hcg
      obtain ⟨y, hyy⟩ : ∃ y, d[h]! = y := ⟨_, rfl⟩
      rw [hyy] at lh hcg
      have HYY : Aside (d[h]! = y) := hyy
      clear hyy
      by_cases hlv : cf y x < 0
      · go_wp2_with fail
        go_quiet_grown (first | (go_at_fn g; refine Calls.grown_of (hcg _ _)))
        go_wp2
        go_roundg (j - (h + 1))
        case measure => omega
        case rel =>
          refine ⟨h + 1, j, by simp, rfl, by omega, by omega, by omega, Nat.le_refl _, S1.out.grown nq osq, ?_⟩
          refine ⟨fun _ => ?_, I.out.2⟩
          rw [show h + 1 - 1 = h by omega, HYY.out]
          exact (C.hcf _ _).1 hlv
      · go_wp2_with fail
        go_quiet_grown (first | (go_at_fn g; refine Calls.grown_of (hcg _ _)))
        go_wp2
        go_roundg (h - i)
        case measure => omega
        case rel =>
          refine ⟨i, h, rfl, rfl, by omega, by omega, by omega, Nat.le_refl _, S1.out.grown nq osq, ?_⟩
          refine ⟨I.out.1, fun _ => ?_⟩
          rw [HYY.out]
          exact fun e => absurd ((C.hcf _ _).2 e) (by omega)
    · obtain rfl : i = j := by omega
      have hltz : ¬ (i : Int) < (i : Int) := by omega
      clear hkx hij
      go_wp2
      go_loopg [13] (i - a) (fun ky s13 wr2 => ∃ (q : Nat) (dk : Array α), s13 = .int .i64 q ∧ a ≤ q ∧ q + 1 ≤ i ∧ i - q ≤ ky ∧ dk.size = d0.size ∧ Aside (SWK enc k w0 blk off dk wr2) ∧
        Aside (dk.toList = A ++ Y.take (q - a) ++ x :: (Y.drop (q - a) ++ B)))
      case atStart =>
        refine ⟨a, d, rfl, Nat.le_refl _, by omega, Nat.le_refl _, HB.out.2.2.2, S1, ?_⟩
        show d.toList = _
        rw [HD.out]
        simp
      case round =>
        clear S1
        obtain ⟨q, dk, rfl, haq, hqi, hky, hdk, S1, J⟩ := hrel
        by_cases hlt2 : q + 1 < i
        · have hz2 : (q : Int) < (i : Int) - 1 := by omega
          have ea : ((q : Int) + 1).toNat = q + 1 := by omega
          have pa : (0 : Int) ≤ (q : Int) + 1 := by omega
          have ba : (q : Int) + 1 < (d0.size : Int) := by omega
          have bq : (q : Int) < (d0.size : Int) := by omega
          have ra : IntKind.i64.wrap ((q : Int) + 1) = (q : Int) + 1 := by rw [IntKind.wrap_i64]; omega
          have S2 : Aside (SWK enc k w0 blk off (swp dk q (q + 1)) ((wr.drew.setCells blk (off + q * k) (enc dk[q + 1]!)).setCells blk (off + (q + 1) * k) (enc dk[q]!))) := S1.out.swapped C.R q (q + 1) (by omega) (by omega)
          have la := S1.out.ld1 C.R hdk Tryz.prog q (by omega)
          have lb := S1.out.ld1 C.R hdk Tryz.prog (q + 1) (by omega)
          have sa := S1.out.st1 C.R hdk Tryz.prog q (by omega) dk[q + 1]!
          have sb := S1.out.st2 C.R hdk Tryz.prog q (q + 1) (by omega) (by omega) dk[q + 1]! dk[q]!
          have na : (enc dk[q]!).length = k := C.R.hk _
          have nb : (enc dk[q + 1]!).length = k := C.R.hk _
          generalize enc dk[q]! = cI at S2 la sb na
          generalize enc dk[q + 1]! = cJ at S2 lb sa sb nb
          clear S1
          go_wp2_with fail
          go_big_region_o
          clear la lb sa sb
          generalize (wr.drew.setCells blk (off + q * k) cJ).setCells blk (off + (q + 1) * k) cI = w2 at S2 ⊢
          go_wp2
          go_roundg (i - (q + 1))
          case measure => omega
          case rel =>
            refine ⟨q + 1, swp dk q (q + 1), by simp, by omega, by omega, Nat.le_refl _, by rw [swp_size]; exact hdk, S2, ?_⟩
            obtain ⟨b1, b2, b3, b4⟩ := HB.out
            have hj := J.out
            show (swp dk q (q + 1)).toList = _
            have hq : q - a < Y.length := by omega
            rw [List.drop_eq_getElem_cons hq] at hj
            have := (swp_list dk (A ++ Y.take (q - a)) [] (Y.drop (q - a + 1) ++ B) x Y[q - a] (by rw [hj]; simp only [List.append_assoc, List.cons_append, List.nil_append]) q (q + 1) (by simp; omega) (by simp; omega)).1
            rw [this, show q + 1 - a = q - a + 1 by omega, List.take_succ_eq_append_getElem hq]
            simp only [List.append_assoc, List.cons_append, List.nil_append]
        · have hz2 : ¬ (q : Int) < (i : Int) - 1 := by omega
          go_wp2
          (try simp only [Exit.inBlock, Exit.then])
          refine bodyPost_ret (results_none rfl _ _ _) rfl ?_
          obtain ⟨b1, b2, b3, b4⟩ := HB.out
          have hq : q - a = i - m := by omega
          have hM := merged_left x Y (i - m) hY (by omega) (fun h => by
              have := I.out.2 (by omega)
              rw [show i = m + (i - m) by omega, HY.out (i - m) h] at this
              exact this) (fun h => by
              have := I.out.1 (by omega)
              rw [show i - 1 = m + (i - m - 1) by omega, HY.out (i - m - 1) (by omega)] at this
              exact this)
          refine ⟨rfl, dk, Y.take (i - m) ++ [x] ++ Y.drop (i - m), hdk, S1.out, ?_, by simp; omega, hM.1, hM.2⟩
          rw [J.out, hq]
          simp

set_option maxHeartbeats 4000000 in
set_option maxRecDepth 1000000 in
theorem symRight_any {key : α → List UInt8} {k : Nat} {enc : α → List Value} {cf : α → α → Int} {g : Nat} {cb : Array Value} {blk off : Nat} {d0 : Array α} {w0 : World} (C : SortCtx key k enc cf g cb blk off d0 w0) (cap a m b : Nat) (A X B : List α) (y : α) (d : Array α) (w : World)
    (hd : d.toList = A ++ X ++ [y] ++ B) (ha : A.length = a) (hm : a + X.length = m) (hb : m + 1 = b) (hX2 : 2 ≤ X.length) (hds : d.size = d0.size) (hX : Up key X) (S : SWK enc k w0 blk off d w) :
    Calls Tryz.prog 100 #[.slice (some ⟨blk, off, none⟩) d0.size cap, .int .i64 a, .int .i64 m, .int .i64 b, .func (.func g) #[] cb] w fun e w' => e = .returned (.tuple #[]) ∧ Mrg key k enc blk off d0 w0 A X [y] B w' := by
  have mixed : Tryz.prog.follows .mixedOrders = true := by kernel_rfl
  have zE := C.zE
  have eg := C.eg
  have hsz := C.hsz
  have hl : d.size = A.length + X.length + 1 + B.length := by rw [← Array.length_toList, hd]; simp; omega
  have hbd : b ≤ d0.size := by omega
  have hma : ((m : Int) - (a : Int) == 1) = false := by
    rw [beq_eq_false_iff_ne]
    omega
  have hmb1 : (b : Int) - (m : Int) = 1 := by omega
  have hy : d[m]! = y := list_at d (A ++ X) [y] B (by rw [hd]) m 0 (by simp; omega) (by simp)
  have hx : ∀ j (h : j < X.length), d[a + j]! = X[j] := fun j h => list_at d A X ([y] ++ B) (by rw [hd]; simp) (a + j) j (by omega) h
  have HY : Aside (d[m]! = y) := hy
  have HX : Aside (∀ j (h : j < X.length), d[a + j]! = X[j]) := hx
  have HD : Aside (d.toList = A ++ X ++ [y] ++ B) := hd
  have S0 : Aside (SWK enc k w0 blk off d w) := S
  have HB : Aside (A.length = a ∧ a + X.length = m ∧ m + 1 = b ∧ d.size = d0.size) := ⟨ha, hm, hb, hds⟩
  have ham : a < m := by omega
  have hmb : m < b := by omega
  clear S hd hl hx hy ha hm hb hds hX2
  go_enter Tryz.func100, Tryz.ntmps100
  go_wp2
  go_loopg [14, 15] (m - a) (fun kx s14 s15 wr => ∃ (i j : Nat), s14 = .int .i64 i ∧ s15 = .int .i64 j ∧ a ≤ i ∧ i ≤ j ∧ j ≤ m ∧ j - i ≤ kx ∧ Aside (SWK enc k w0 blk off d wr) ∧
    Aside ((a < i → ¬ key y < key d[i - 1]!) ∧ (j < m → key y < key d[j]!)))
  case atStart =>
    refine ⟨a, m, rfl, rfl, Nat.le_refl _, by omega, Nat.le_refl _, Nat.le_refl _, S0, ?_⟩
    exact ⟨fun h => absurd h (by omega), fun h => absurd h (by omega)⟩
  case round =>
    clear S0
    obtain ⟨i, j, rfl, rfl, hai, hij, hjm, hkx, S1, I⟩ := hrel
    by_cases hlt : i < j
    · have hltz : (i : Int) < (j : Int) := by omega
      obtain ⟨h, hh⟩ : ∃ h, (i + j) / 2 = h := ⟨_, rfl⟩
      have eh : ((i : Int) + (j : Int)) / 2 = (h : Int) := by omega
      have hih : i ≤ h := by omega
      have hhj : h < j := by omega
      have hbz : (h : Int) < (d0.size : Int) := by omega
      have haz : (m : Int) < (d0.size : Int) := by omega
      have HH : Aside ((i + j) / 2 = h) := hh
      clear hh
      have hs0 : d.size = d0.size := HB.out.2.2.2
      have lh := S1.out.ld C.R hs0 Tryz.prog h (by omega)
      have la := S1.out.ld C.R hs0 Tryz.prog m (by omega)
      have hcg := S1.out.cmp C.cmp hs0 d[m]! d[h]!
      clear hs0
      rw [HY.out] at la hcg
      obtain ⟨x, hyy⟩ : ∃ x, d[h]! = x := ⟨_, rfl⟩
      rw [hyy] at lh hcg
      have HYY : Aside (d[h]! = x) := hyy
      clear hyy
      rcases Decidable.em (cf y x < 0) with hlv | hlv
      case inr =>
        have hlv2 : decide (cf y x < 0) = false := decide_eq_false (by omega)
        go_wp2_with fail
        go_quiet_grown (first | (go_at_fn g; refine Calls.grown_of (hcg _ _)))
        go_wp2
        go_roundg (j - (h + 1))
        case measure => omega
        case rel =>
          refine ⟨h + 1, j, by simp, rfl, by omega, by omega, by omega, Nat.le_refl _, S1.out.grown nq osq, ?_⟩
          refine ⟨fun _ => ?_, I.out.2⟩
          rw [show h + 1 - 1 = h by omega, HYY.out]
          exact fun e => absurd ((C.hcf _ _).2 e) (by omega)
      case inl =>
        have hlv2 : decide (cf y x < 0) = true := decide_eq_true hlv
        go_wp2_with fail
        go_quiet_grown (first | (go_at_fn g; refine Calls.grown_of (hcg _ _)))
        go_wp2
        go_roundg (h - i)
        case measure => omega
        case rel =>
          refine ⟨i, h, rfl, rfl, by omega, by omega, by omega, Nat.le_refl _, S1.out.grown nq osq, ?_⟩
          refine ⟨I.out.1, fun _ => ?_⟩
          rw [HYY.out]
          exact (C.hcf _ _).1 (by omega)
    · obtain rfl : i = j := by omega
      have hltz : ¬ (i : Int) < (i : Int) := by omega
      clear hkx hij
      go_wp2
      go_loopg [17] (m - i) (fun ky s17 wr2 => ∃ (q : Nat) (dk : Array α), s17 = .int .i64 q ∧ i ≤ q ∧ q ≤ m ∧ q - i ≤ ky ∧ dk.size = d0.size ∧ Aside (SWK enc k w0 blk off dk wr2) ∧
        Aside (dk.toList = A ++ X.take (q - a) ++ y :: (X.drop (q - a) ++ B)))
      case atStart =>
        refine ⟨m, d, rfl, by omega, Nat.le_refl _, Nat.le_refl _, HB.out.2.2.2, S1, ?_⟩
        show d.toList = _
        obtain ⟨b1, b2, b3, b4⟩ := HB.out
        rw [HD.out, List.take_of_length_le (by omega), List.drop_eq_nil_of_le (by omega)]
        simp
      case round =>
        clear S1
        obtain ⟨q, dk, rfl, hiq, hqm, hky, hdk, S1, J⟩ := hrel
        by_cases hlt2 : i < q
        · obtain ⟨p, rfl⟩ : ∃ p, q = p + 1 := ⟨q - 1, by omega⟩
          have hz2 : (i : Int) < (p : Int) + 1 := by omega
          have hz3 : (p : Int) + 1 - 1 = (p : Int) := by omega
          have ea : ((p : Int) + 1).toNat = p + 1 := by omega
          have pa : (0 : Int) ≤ (p : Int) + 1 := by omega
          have ba : (p : Int) + 1 < (d0.size : Int) := by omega
          have bq : (p : Int) < (d0.size : Int) := by omega
          have rp : IntKind.i64.wrap (p : Int) = (p : Int) := by rw [IntKind.wrap_i64]; omega
          have ra : IntKind.i64.wrap ((p : Int) + 1) = (p : Int) + 1 := by rw [IntKind.wrap_i64]; omega
          have S2 : Aside (SWK enc k w0 blk off (swp dk (p + 1) p) ((wr.drew.setCells blk (off + (p + 1) * k) (enc dk[p]!)).setCells blk (off + p * k) (enc dk[p + 1]!))) := S1.out.swapped C.R (p + 1) p (by omega) (by omega)
          have la := S1.out.ld1 C.R hdk Tryz.prog (p + 1) (by omega)
          have lb := S1.out.ld1 C.R hdk Tryz.prog p (by omega)
          have sa := S1.out.st1 C.R hdk Tryz.prog (p + 1) (by omega) dk[p]!
          have sb := S1.out.st2 C.R hdk Tryz.prog (p + 1) p (by omega) (by omega) dk[p]! dk[p + 1]!
          have na : (enc dk[p + 1]!).length = k := C.R.hk _
          have nb : (enc dk[p]!).length = k := C.R.hk _
          generalize enc dk[p + 1]! = cI at S2 la sb na
          generalize enc dk[p]! = cJ at S2 lb sa sb nb
          clear S1
          go_wp2_with fail
          go_big_region_o
          clear la lb sa sb
          generalize (wr.drew.setCells blk (off + (p + 1) * k) cJ).setCells blk (off + p * k) cI = w2 at S2 ⊢
          go_wp2
          go_roundg (p - i)
          case measure => omega
          case rel =>
            refine ⟨p, swp dk (p + 1) p, by simp, by omega, by omega, Nat.le_refl _, by rw [swp_size]; exact hdk, S2, ?_⟩
            obtain ⟨b1, b2, b3, b4⟩ := HB.out
            have hj := J.out
            show (swp dk (p + 1) p).toList = _
            have hq : p - a < X.length := by omega
            rw [show p + 1 - a = p - a + 1 by omega, List.take_succ_eq_append_getElem hq] at hj
            have := (swp_list dk (A ++ X.take (p - a)) [] (X.drop (p - a + 1) ++ B) X[p - a] y (by rw [hj]; simp only [List.append_assoc, List.cons_append, List.nil_append]) p (p + 1) (by simp; omega) (by simp; omega)).2
            rw [this, List.drop_eq_getElem_cons hq]
            simp only [List.append_assoc, List.cons_append, List.nil_append]
        · obtain rfl : q = i := by omega
          have hz2 : ¬ (q : Int) < (q : Int) := by omega
          go_wp2
          (try simp only [Exit.inBlock, Exit.then])
          refine bodyPost_ret (results_none rfl _ _ _) rfl ?_
          obtain ⟨b1, b2, b3, b4⟩ := HB.out
          have hM := merged_right X y (q - a) hX (by omega) (fun h => by
              have := I.out.1 (by omega)
              rw [show q - 1 = a + (q - a - 1) by omega, HX.out (q - a - 1) (by omega)] at this
              exact this) (fun h => by
              have := I.out.2 (by omega)
              have e : d[q]! = X[q - a] := by
                have := HX.out (q - a) h
                rwa [show a + (q - a) = q by omega] at this
              rw [e] at this
              exact this)
          refine ⟨rfl, dk, X.take (q - a) ++ [y] ++ X.drop (q - a), hdk, S1.out, ?_, by simp; omega, hM.1, hM.2⟩
          rw [J.out]
          simp
end Go.Proofs.YtnalillebemglaaGreat
