/-
  slices.SortStableFunc at messages: what swapRangeCmpFunc and rotateCmpFunc do, in the worlds of the shelf's sorts.
-/
import Derived.Shelf.SlSortCmp.KitK
import Derived.Sort.WalkB2
import Derived.Sort.WalkB12
import Derived.Deep.LoopGhost
import Derived.Test.YtclaagihmpghnaaRows
import Derived.Test.YtclaagihmpghnaaStable
import Derived.Test.YtclaagihmpghnaaFrame
namespace Go.Proofs.Ytclaagihmpghnaa
open Go.Shelf Go.RowKit Go.Lib Go.Sort
set_option linter.unusedVariables false
set_option linter.unusedSimpArgs false
attribute [-simp] Try.sizeOf58
variable {α : Type} [Inhabited α]

set_option maxHeartbeats 4000000 in
set_option maxRecDepth 1000000 in
theorem swapRange_any (k : Nat) (zE : ∀ w, (Go.sizeOf 58).run Try.prog w = .ok k w) (enc : α → List Value) (fv : Value) (blk off cap a b n : Nat) (d0 d : Array α) (w0 w : World)
    (R : RowK enc k w0 blk off d0) (hs : d0.size = d.size) (S : SWK enc k w0 blk off d w) (ha : a + n ≤ d.size) (hb : b + n ≤ d.size) (hsz : d.size < 4611686018427387904) :
    Calls Try.prog 116 #[.slice (some ⟨blk, off, none⟩) d.size cap, .int .i64 a, .int .i64 b, .int .i64 n, fv] w fun e w' => e = .returned (.tuple #[]) ∧ SWK enc k w0 blk off (swapN d a b n) w' := by
  have mixed : Try.prog.follows .mixedOrders = true := by kernel_rfl
  have S0 : Aside (SWK enc k w0 blk off d w) := S
  clear S
  go_enter Try.func116, Try.ntmps116
  go_wp2
  go_loopg [10] n (fun kx s10 wr => ∃ (i : Nat), s10 = .int .i64 i ∧ i ≤ n ∧ n - i ≤ kx ∧ Aside (SWK enc k w0 blk off (swapN d a b i) wr))
  case atStart => exact ⟨0, rfl, by omega, by omega, S0⟩
  case round =>
    clear S0
    obtain ⟨i, rfl, hin, hkx, S1⟩ := hrel
    by_cases hlt : i < n
    · have hltz : (i : Int) < (n : Int) := by omega
      go_wp2_with fail
      obtain ⟨dk, hdk⟩ : ∃ dk, swapN d a b i = dk := ⟨_, rfl⟩
      have hds : dk.size = d.size := by rw [← hdk, swapN_size]
      have DK : Aside (swapN d a b i = dk) := hdk
      have S1' : Aside (SWK enc k w0 blk off dk wr) := by rw [← hdk]; exact S1
      clear S1 hdk
      have ea : ((a : Int) + (i : Int)).toNat = a + i := by omega
      have pa : (0 : Int) ≤ (a : Int) + (i : Int) := by omega
      have ba : (a : Int) + (i : Int) < (d.size : Int) := by omega
      have ra : IntKind.i64.wrap ((a : Int) + (i : Int)) = (a : Int) + (i : Int) := by rw [IntKind.wrap_i64]; omega
      have eb : ((b : Int) + (i : Int)).toNat = b + i := by omega
      have pb : (0 : Int) ≤ (b : Int) + (i : Int) := by omega
      have bb : (b : Int) + (i : Int) < (d.size : Int) := by omega
      have rb : IntKind.i64.wrap ((b : Int) + (i : Int)) = (b : Int) + (i : Int) := by rw [IntKind.wrap_i64]; omega
      have S2 : Aside (SWK enc k w0 blk off (swp dk (a + i) (b + i)) ((wr.drew.setCells blk (off + (a + i) * k) (enc dk[b + i]!)).setCells blk (off + (b + i) * k) (enc dk[a + i]!))) := S1'.out.swapped R (a + i) (b + i) (by omega) (by omega)
      have la := S1'.out.ld1 R (by omega) Try.prog (a + i) (by omega)
      have lb := S1'.out.ld1 R (by omega) Try.prog (b + i) (by omega)
      have sa := S1'.out.st1 R (by omega) Try.prog (a + i) (by omega) dk[b + i]!
      have sb := S1'.out.st2 R (by omega) Try.prog (a + i) (b + i) (by omega) (by omega) dk[b + i]! dk[a + i]!
      have na : (enc dk[a + i]!).length = k := R.hk _
      have nb : (enc dk[b + i]!).length = k := R.hk _
      generalize enc dk[a + i]! = cI at S2 la sb na
      generalize enc dk[b + i]! = cJ at S2 lb sa sb nb
      clear S1'
      go_wp2_with fail
      go_big_region_o
      clear la lb sa sb
      generalize (wr.drew.setCells blk (off + (a + i) * k) cJ).setCells blk (off + (b + i) * k) cI = w2 at S2 ⊢
      go_wp2
      go_roundg (n - (i + 1))
      case measure => omega
      case rel =>
        refine ⟨i + 1, by simp, by omega, by omega, ?_⟩
        rw [swapN, DK.out]
        exact S2
    · obtain rfl : i = n := by omega
      go_wp2
      go_end0
      exact ⟨rfl, S1.out⟩

set_option maxHeartbeats 1000000 in
set_option maxRecDepth 100000 in
theorem rotate_any (k : Nat) (zE : ∀ w, (Go.sizeOf 58).run Try.prog w = .ok k w) (enc : α → List Value) (fv : Value) (blk off cap a m b : Nat) (d0 d : Array α) (w0 w : World)
    (R : RowK enc k w0 blk off d0) (hs : d0.size = d.size) (S : SWK enc k w0 blk off d w) (A U V B : List α) (hd : d.toList = A ++ U ++ V ++ B) (ha : A.length = a) (hm : a + U.length = m) (hb : m + V.length = b) (hU : 0 < U.length) (hV : 0 < V.length) (hsz : d.size < 4611686018427387904) :
    Calls Try.prog 109 #[.slice (some ⟨blk, off, none⟩) d.size cap, .int .i64 a, .int .i64 m, .int .i64 b, fv] w fun e w' => e = .returned (.tuple #[]) ∧ ∃ d', d'.size = d.size ∧ SWK enc k w0 blk off d' w' ∧ d'.toList = A ++ V ++ U ++ B := by
  have S0 : Aside (SWK enc k w0 blk off d w) := S
  have hl : d.size = A.length + U.length + V.length + B.length := by rw [← Array.length_toList, hd]; simp; omega
  have hbd : b ≤ d.size := by omega
  have HD : Aside (d.toList = A ++ U ++ V ++ B) := hd
  clear S hd hl
  go_enter Try.func109, Try.ntmps109
  go_wp2
  go_loopg [10, 11] (U.length + V.length) (fun kx s10 s11 wr => ∃ (i j : Nat) (dk : Array α), s10 = .int .i64 i ∧ s11 = .int .i64 j ∧ 0 < i ∧ 0 < j ∧ i + j ≤ kx ∧ i ≤ m ∧ m + j ≤ d.size ∧ dk.size = d.size ∧ Aside (SWK enc k w0 blk off dk wr) ∧
    Aside (∃ P X Y Z : List α, dk.toList = P ++ X ++ Y ++ Z ∧ X.length = i ∧ Y.length = j ∧ P.length + i = m ∧ P ++ Y ++ X ++ Z = A ++ V ++ U ++ B))
  case atStart =>
    refine ⟨U.length, V.length, d, ?_, ?_, hU, hV, Nat.le_refl _, by omega, by omega, rfl, S0, ?_⟩
    · congr 1; omega
    · congr 1; omega
    · exact ⟨A, U, V, B, HD.out, rfl, rfl, by omega, rfl⟩
  case round =>
    clear S0 HD
    obtain ⟨i, j, dk, rfl, rfl, hi, hj, hkx, him, hjm, hds, S1, I⟩ := hrel
    obtain ⟨q, hq⟩ : ∃ q, m - i = q := ⟨_, rfl⟩
    have e0 : (m : Int) - (i : Int) = (q : Int) := by omega
    have hr : IntKind.i64.wrap (q : Int) = (q : Int) := by rw [IntKind.wrap_i64]; omega
    by_cases hne : i = j
    · subst hne
      have hc := swapRange_any k zE enc fv blk off cap q m i d0 dk w0 wr R (by omega) S1.out (by omega) (by omega) (by omega)
      rw [hds] at hc
      go_wp2_with (go_at_call 116; refine hc.mono ?_; rintro e w' ⟨rfl, hS⟩)
      go_end0
      refine ⟨rfl, _, by rw [swapN_size]; exact hds, hS, ?_⟩
      obtain ⟨P, X, Y, Z, h1, h2, h3, h4, h5⟩ := I.out
      rw [← h5]
      have := swapN_all dk P X [] Y Z (by simpa using h1) (by omega) q m i (by omega) (by simp; omega) (by omega)
      simpa using this
    · have hnz : ¬ (i : Int) = (j : Int) := by omega
      by_cases hgt : j < i
      · have hgz : (j : Int) < (i : Int) := by omega
        have hc := swapRange_any k zE enc fv blk off cap q m j d0 dk w0 wr R (by omega) S1.out (by omega) (by omega) (by omega)
        rw [hds] at hc
        go_wp2_with (go_at_call 116; refine hc.mono ?_; rintro e w' ⟨rfl, hS⟩)
        have HS : Aside _ := hS
        clear hS
        go_roundg (i - j + j)
        case measure => omega
        case rel =>
          refine ⟨i - j, j, swapN dk q m j, ?_, rfl, by omega, by omega, Nat.le_refl _, by omega, by omega, by rw [swapN_size]; exact hds, HS, ?_⟩
          · congr 1; omega
          · obtain ⟨P, X, Y, Z, h1, h2, h3, h4, h5⟩ := I.out
            refine ⟨P ++ Y, X.drop j, X.take j, Z, ?_, by simp; omega, by simp; omega, by simp; omega, ?_⟩
            · have e1 : X = X.take j ++ X.drop j := (List.take_append_drop j X).symm
              have := swapN_all dk P (X.take j) (X.drop j) Y Z (by rw [h1]; simp only [List.append_assoc]; rw [← List.append_assoc (X.take j), List.take_append_drop]) (by simp; omega) q m j (by omega) (by simp; omega) (by simp; omega)
              rw [this]
            · rw [← h5]
              simp only [List.append_assoc]
              rw [← List.append_assoc (X.take j), List.take_append_drop]
      · have hgz : ¬ (j : Int) < (i : Int) := by omega
        obtain ⟨p, hp⟩ : ∃ p, m + j - i = p := ⟨_, rfl⟩
        have e1 : (m : Int) + (j : Int) - (i : Int) = (p : Int) := by omega
        have hc := swapRange_any k zE enc fv blk off cap q p i d0 dk w0 wr R (by omega) S1.out (by omega) (by omega) (by omega)
        rw [hds] at hc
        have hr1 : IntKind.i64.wrap (p : Int) = (p : Int) := by rw [IntKind.wrap_i64]; omega
        have hr2 : IntKind.i64.wrap ((m : Int) + (j : Int)) = (m : Int) + (j : Int) := by rw [IntKind.wrap_i64]; omega
        go_wp2_with (go_at_call 116; refine hc.mono ?_; rintro e w' ⟨rfl, hS⟩)
        have HS : Aside _ := hS
        clear hS
        go_roundg (i + (j - i))
        case measure => omega
        case rel =>
          refine ⟨i, j - i, swapN dk q p i, rfl, ?_, by omega, by omega, Nat.le_refl _, by omega, by omega, by rw [swapN_size]; exact hds, HS, ?_⟩
          · congr 1; omega
          · obtain ⟨P, X, Y, Z, h1, h2, h3, h4, h5⟩ := I.out
            refine ⟨P, Y.drop (j - i), Y.take (j - i), X ++ Z, ?_, by simp; omega, by simp; omega, by omega, ?_⟩
            · have := swapN_all dk P X (Y.take (j - i)) (Y.drop (j - i)) Z (by rw [h1]; simp only [List.append_assoc]; rw [← List.append_assoc (Y.take (j - i)), List.take_append_drop]) (by simp; omega) q p i (by omega) (by simp; omega) (by omega)
              rw [this]
              simp only [List.append_assoc]
            · rw [← h5]
              simp only [List.append_assoc]
              rw [← List.append_assoc (Y.take (j - i)), List.take_append_drop]
end Go.Proofs.Ytclaagihmpghnaa
