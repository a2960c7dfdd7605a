/-
  slices.SortStableFunc at messages: the row ends rising by its keys, with the messages of each key in their order.
-/
import Derived.Test.YtnalillebemglaaGreatLfSymB
import Derived.Test.YtnalillebemglaaGreatShelf
namespace Go.Proofs.YtnalillebemglaaGreat
open Go.Shelf Go.RowKit Go.Lib Go.Sort
set_option linter.unusedVariables false
set_option linter.unusedSimpArgs false
attribute [-simp] Tryz.sizeOf37
variable {α : Type} [Inhabited α]

theorem sym_any {key : α → List UInt8} {k : Nat} {enc : α → List Value} {cf : α → α → Int} {g : Nat} {cb : Array Value} {blk off : Nat} {d0 : Array α} {w0 : World} (C : SortCtx key k enc cf g cb blk off d0 w0) (cap : Nat) : ∀ N, SymOK key k enc blk off cap d0 w0 (.func (.func g) #[] cb) N
  | 0 => fun a m b A X Y B d w _ _ _ _ _ _ _ h => absurd h (by omega)
  | N + 1 => fun a m b A X Y B d w hd ha hm hb hds hX hY hN uX uY S => by
    by_cases h1 : X.length = 1
    · obtain ⟨x, rfl⟩ := List.length_eq_one_iff.1 h1
      exact symLeft_any C cap a m b A Y B x d w hd ha (by simpa using hm) hb hds uY S
    · by_cases h2 : Y.length = 1
      · obtain ⟨y, rfl⟩ := List.length_eq_one_iff.1 h2
        exact symRight_any C cap a m b A X B y d w hd ha hm (by simpa using hb) (by omega) hds uX S
      · by_cases hw : (a + b) / 2 < m
        · exact symRec_any C cap a m b N (sym_any C cap N) A X Y B d w hd ha hm hb (by omega) (by omega) (by omega) hds uX uY S ((a + b) / 2) ((a + b) / 2 + m) ((a + b) / 2 + m - 1) ((a + b) / 2 + m - b) ((a + b) / 2) rfl rfl (by omega) (.inl ⟨hw, by omega, rfl⟩)
        · exact symRec_any C cap a m b N (sym_any C cap N) A X Y B d w hd ha hm hb (by omega) (by omega) (by omega) hds uX uY S ((a + b) / 2) ((a + b) / 2 + m) ((a + b) / 2 + m - 1) a m rfl rfl (by omega) (.inr ⟨hw, rfl, rfl⟩)

/-- The insertion sort of a part. -/
theorem insM_any {key : α → List UInt8} {k : Nat} {enc : α → List Value} {cf : α → α → Int} {g : Nat} {cb : Array Value} {blk off : Nat} {d0 : Array α} {w0 : World} (C : SortCtx key k enc cf g cb blk off d0 w0) (hO : SWO (ltOf cf)) (cap a b : Nat) (A X B : List α) (d : Array α) (w : World) (hd : d.toList = A ++ X ++ B) (ha : A.length = a) (hb : a + X.length = b) (hds : d.size = d0.size) (S : SWK enc k w0 blk off d w) :
    Calls Tryz.prog 99 #[.slice (some ⟨blk, off, none⟩) d0.size cap, .int .i64 a, .int .i64 b, .func (.func g) #[] cb] w fun e w' => e = .returned (.tuple #[]) ∧ ∃ (d' : Array α) (Z : List α), d'.size = d0.size ∧ SWK enc k w0 blk off d' w' ∧ d'.toList = A ++ Z ++ B ∧ Z.length = X.length ∧ Up key Z ∧ Alike key Z X := by
  have hl : d.size = A.length + X.length + B.length := by rw [← Array.length_toList, hd]; simp; omega
  have hH := S.holds C.R.hblk C.R.hH hds
  have hC : CmpLays Tryz.prog g cb enc k cf blk off d.size w := by
    intro m os dk hs x y
    obtain ⟨n, os0, h⟩ := S.on C.R.hblk m dk os (by omega)
    rw [h]
    exact C.cmp n os0 dk (by omega) x y
  have h := AnyQ.insertionSortCmpFunc (P := Tryz.prog) (ρ := Tryz.insMg_ren) Tryz.insMg k (by exact Tryz.isAgg37) C.zE enc C.R.hk C.R.h1 cf g cb blk off cap a b d w C.eg hC hH (S.lt C.R.hblk) (by omega) (by omega) (by have := C.hsz; omega)
  rw [hds] at h
  refine h.mono ?_
  rintro e w' ⟨rfl, n, os, rfl⟩
  obtain ⟨Z, z1, z2, z3, z4⟩ := ins_part key (ltOf cf) hO (fun x y => by unfold ltOf; rw [decide_eq_decide]; exact C.hcf x y) d A X B a b hd ha hb
  have hsz2 : (insertionSort (ltOf cf) d a b).size = d.size := by rw [← Array.length_toList, z1]; simp; omega
  exact ⟨rfl, _, Z, by omega, S.on C.R.hblk n _ os hsz2, z1, z2, z3, z4⟩

set_option maxHeartbeats 4000000 in
set_option maxRecDepth 100000 in
theorem stable_any {key : α → List UInt8} {k : Nat} {enc : α → List Value} {cf : α → α → Int} {g : Nat} {cb : Array Value} {blk off : Nat} {d0 : Array α} {w0 : World} (C : SortCtx key k enc cf g cb blk off d0 w0) (hO : SWO (ltOf cf)) (cap : Nat) :
    Calls Tryz.prog 75 #[.slice (some ⟨blk, off, none⟩) d0.size cap, .int .i64 d0.size, .func (.func g) #[] cb] w0 fun e w' => e = .returned (.tuple #[]) ∧ ∃ d' : Array α, d'.size = d0.size ∧ SWK enc k w0 blk off d' w' ∧ Up key d'.toList ∧ Alike key d'.toList d0.toList := by
  have hsz := C.hsz
  have S0 : Aside (SWK enc k w0 blk off d0 w0) := SWK.start C.R.hH
  obtain ⟨n, hn⟩ : ∃ n, n = d0.size := ⟨_, rfl⟩
  rw [← hn] at hsz
  have hI := fun (a b : Nat) (A X B : List α) (d : Array α) (w : World) hd ha hb hds S => insM_any C hO cap a b A X B d w hd ha hb hds S
  have hM := sym_any C cap (n + 1)
  unfold SymOK at hM
  have HI : Aside _ := hI
  have HM : Aside _ := hM
  have HN : Aside (n = d0.size) := hn
  rw [← hn]
  clear hI hM
  obtain ⟨fv, hfv⟩ : ∃ fv, fv = Value.func (.func g) #[] cb := ⟨_, rfl⟩
  rw [← hfv]
  have HF : Aside (fv = Value.func (.func g) #[] cb) := hfv
  clear hn hfv
  go_enter Tryz.func75, Tryz.ntmps75
  go_wp2
  go_loopg [7, 8] n (fun kx s7 s8 wr => ∃ (a b : Nat) (dk : Array α), s7 = .int .i64 a ∧ s8 = .int .i64 b ∧ a ≤ n ∧ b ≤ a + 20 ∧ a + 20 ≤ b ∧ n - a ≤ kx ∧ Aside (SWK enc k w0 blk off dk wr) ∧
    Aside (∃ D T : List α, dk.toList = D ++ T ∧ D.length = a ∧ (∀ T', RunsN key 20 T' → RunsN key 20 (D ++ T')) ∧ Alike key dk.toList d0.toList ∧ dk.size = n))
  case atStart =>
    refine ⟨0, 20, d0, rfl, rfl, by omega, by omega, by omega, by omega, S0, ?_⟩
    exact ⟨[], d0.toList, rfl, rfl, fun T' h => h, Alike.refl _, HN.out.symm⟩
  case round =>
    clear S0
    obtain ⟨a, b, dk, rfl, rfl, han, hb1, hb2, hkx, S1, I⟩ := hrel
    by_cases hle : b ≤ n
    · have hlz : (b : Int) ≤ (n : Int) := by omega
      have hc : Calls Tryz.prog 99 #[.slice (some ⟨blk, off, none⟩) n cap, .int .i64 a, .int .i64 b, fv] wr fun e w' => e = .returned (.tuple #[]) ∧ ∃ (d' : Array α), Aside (SWK enc k w0 blk off d' w') ∧ Aside (∃ D T : List α, d'.toList = D ++ T ∧ D.length = b ∧ (∀ T', RunsN key 20 T' → RunsN key 20 (D ++ T')) ∧ Alike key d'.toList d0.toList ∧ d'.size = n) := by
        obtain ⟨D, T, t1, t2, t3, t4, t5⟩ := I.out
        have hT : 20 ≤ T.length := by
          have : dk.toList.length = D.length + T.length := by rw [t1]; simp
          simp at this
          omega
        have h := HI.out a b D (T.take 20) (T.drop 20) dk wr (by rw [t1]; simp) t2 (by simp; omega) (by rw [t5, HN.out]) S1.out
        rw [HN.out, HF.out]
        refine h.mono ?_
        rintro e w' ⟨rfl, d', Z, z1, z2, z3, z4, z5, z6⟩
        refine ⟨rfl, d', z2, D ++ Z, T.drop 20, by rw [z3], by simp [z4]; omega, fun T' hT' => ?_, ?_, by omega⟩
        · rw [List.append_assoc]
          exact t3 _ (RunsN.more Z T' (by simp [z4]; omega) z5 hT')
        · refine Alike.trans ?_ t4
          rw [z3, t1]
          conv => rhs; rw [← List.take_append_drop 20 T, ← List.append_assoc]
          exact ((Alike.refl _).append z6).append (Alike.refl _)
      go_wp2_with (go_at_call 99; refine hc.mono ?_; rintro e w' ⟨rfl, d', S2, J⟩)
      go_roundg (n - b)
      case measure => omega
      case rel => exact ⟨b, b + 20, d', rfl, by simp, hle, by omega, by omega, Nat.le_refl _, S2, J⟩
    · have hlz : ¬ (b : Int) ≤ (n : Int) := by omega
      have hc : Calls Tryz.prog 99 #[.slice (some ⟨blk, off, none⟩) n cap, .int .i64 a, .int .i64 n, fv] wr fun e w' => e = .returned (.tuple #[]) ∧ ∃ (d' : Array α), Aside (SWK enc k w0 blk off d' w') ∧ Aside (RunsN key 20 d'.toList ∧ Alike key d'.toList d0.toList ∧ d'.size = n) := by
        obtain ⟨D, T, t1, t2, t3, t4, t5⟩ := I.out
        have hT : D.length + T.length = n := by
          have : dk.toList.length = D.length + T.length := by rw [t1]; simp
          simp at this
          omega
        have h := HI.out a n D T [] dk wr (by rw [t1]; simp) t2 (by omega) (by rw [t5, HN.out]) S1.out
        rw [HN.out] at h
        rw [HN.out, HF.out]
        refine h.mono ?_
        rintro e w' ⟨rfl, d', Z, z1, z2, z3, z4, z5, z6⟩
        rw [List.append_nil] at z3
        refine ⟨rfl, d', z2, ?_, ?_, by omega⟩
        · rw [z3]
          exact t3 _ (RunsN.last Z (by omega) z5)
        · refine Alike.trans ?_ t4
          rw [z3, t1]
          exact (Alike.refl _).append z6
      go_wp2_with (go_at_call 99; refine hc.mono ?_; rintro e w' ⟨rfl, d', S2, J⟩)
      clear S1 I hc
      go_loopg [6, 7, 8, 9] n (fun kx s6 s7 s8 s9 wr => ∃ (bs : Nat) (dk : Array α), s6 = .int .i64 bs ∧ 0 < bs ∧ n - bs ≤ kx ∧ bs ≤ n + 20 + n ∧ Aside (SWK enc k w0 blk off dk wr) ∧ Aside (RunsN key bs dk.toList ∧ Alike key dk.toList d0.toList ∧ dk.size = n))
      case atStart => exact ⟨20, d', rfl, by omega, by omega, by omega, S2, J⟩
      case round =>
        clear S2 J
        obtain ⟨bs, dk, rfl, hbs, hky, hbn, S3, J⟩ := hrel
        by_cases hlt : bs < n
        · have hltz : (bs : Int) < (n : Int) := by omega
          go_wp2
          go_loopg [7, 8] n (fun kz s7 s8 wr => ∃ (a b : Nat) (dk : Array α), s7 = .int .i64 a ∧ s8 = .int .i64 b ∧ a ≤ n ∧ b ≤ a + 2 * bs ∧ a + 2 * bs ≤ b ∧ n - a ≤ kz ∧ Aside (SWK enc k w0 blk off dk wr) ∧
            Aside (∃ D T : List α, dk.toList = D ++ T ∧ D.length = a ∧ RunsN key bs T ∧ (∀ T', RunsN key (bs * 2) T' → RunsN key (bs * 2) (D ++ T')) ∧ Alike key dk.toList d0.toList ∧ dk.size = n))
          case atStart =>
            refine ⟨0, 2 * bs, dk, rfl, by simp, by omega, by omega, by omega, by omega, S3, ?_⟩
            exact ⟨[], dk.toList, rfl, rfl, J.out.1, fun T' h => h, J.out.2.1, J.out.2.2⟩
          case round =>
            clear S3 J
            obtain ⟨a, b, dk, rfl, rfl, han, hb1, hb2, hkz, S4, I⟩ := hrel
            by_cases hle : b ≤ n
            · have hlz : (b : Int) ≤ (n : Int) := by omega
              obtain ⟨m, hm⟩ : ∃ m, a + bs = m := ⟨_, rfl⟩
              have hmz : (a : Int) + (bs : Int) = (m : Int) := by omega
              have hr : IntKind.i64.wrap (m : Int) = (m : Int) := by rw [IntKind.wrap_i64]; omega
              have hc : Calls Tryz.prog 100 #[.slice (some ⟨blk, off, none⟩) n cap, .int .i64 a, .int .i64 m, .int .i64 b, fv] wr fun e w' => e = .returned (.tuple #[]) ∧ ∃ (d' : Array α), Aside (SWK enc k w0 blk off d' w') ∧ Aside (∃ D T : List α, d'.toList = D ++ T ∧ D.length = b ∧ RunsN key bs T ∧ (∀ T', RunsN key (bs * 2) T' → RunsN key (bs * 2) (D ++ T')) ∧ Alike key d'.toList d0.toList ∧ d'.size = n) := by
                obtain ⟨D, T, t1, t2, t3, t4, t5, t6⟩ := I.out
                have hT : 2 * bs ≤ T.length := by
                  have : dk.toList.length = D.length + T.length := by rw [t1]; simp
                  simp at this
                  omega
                obtain ⟨X, Y, T2, rfl, x1, y1, x2, y2, r2⟩ := t3.two hbs hT
                have hnl : dk.toList.length = D.length + (X.length + Y.length + T2.length) := by rw [t1]; simp; omega
                simp at hnl
                have h := HM.out a m b D X Y T2 dk wr (by rw [t1]; simp) t2 (by omega) (by omega) (by rw [t6, HN.out]) (by omega) (by omega) (by omega) x2 y2 S4.out
                rw [HN.out, HF.out]
                refine h.mono ?_
                rintro e w' ⟨rfl, d', Z, z1, z2, z3, z4, z5, z6⟩
                refine ⟨rfl, d', z2, D ++ Z, T2, by rw [z3], by simp [z4]; omega, r2, fun T' hT' => ?_, ?_, z1⟩
                · rw [List.append_assoc]
                  exact t4 _ (RunsN.more Z T' (by omega) z5 hT')
                · refine Alike.trans ?_ t5
                  rw [z3, t1, List.append_assoc, List.append_assoc]
                  refine (Alike.refl _).append ?_
                  rw [← List.append_assoc]
                  exact z6.append (Alike.refl _)
              have HMM : Aside (a + bs = m) := hm
              clear hm
              go_wp2_with (go_at_call 100; refine hc.mono ?_; rintro e w' ⟨rfl, d', S5, J5⟩)
              go_roundg (n - b)
              case measure => omega
              case rel => exact ⟨b, b + 2 * bs, d', rfl, by simp, hle, by omega, by omega, Nat.le_refl _, S5, J5⟩
            · have hlz : ¬ (b : Int) ≤ (n : Int) := by omega
              obtain ⟨m, hm⟩ : ∃ m, a + bs = m := ⟨_, rfl⟩
              have hmz : (a : Int) + (bs : Int) = (m : Int) := by omega
              have hr : IntKind.i64.wrap (m : Int) = (m : Int) := by rw [IntKind.wrap_i64]; omega
              by_cases hmn : m < n
              · have hmnz : (m : Int) < (n : Int) := by omega
                have hc : Calls Tryz.prog 100 #[.slice (some ⟨blk, off, none⟩) n cap, .int .i64 a, .int .i64 m, .int .i64 n, fv] wr fun e w' => e = .returned (.tuple #[]) ∧ ∃ (d' : Array α), Aside (SWK enc k w0 blk off d' w') ∧ Aside (RunsN key (bs * 2) d'.toList ∧ Alike key d'.toList d0.toList ∧ d'.size = n) := by
                  obtain ⟨D, T, t1, t2, t3, t4, t5, t6⟩ := I.out
                  have hT : D.length + T.length = n := by
                    have : dk.toList.length = D.length + T.length := by rw [t1]; simp
                    simp at this
                    omega
                  obtain ⟨X, Y, rfl, x1, x2, r2⟩ := t3.first (by omega)
                  rw [List.length_append] at hT
                  have y2 := r2.one (by omega)
                  have h := HM.out a m n D X Y [] dk wr (by rw [t1]; simp) t2 (by omega) (by omega) (by rw [t6, HN.out]) (by omega) (by omega) (by omega) x2 y2 S4.out
                  rw [HN.out] at h
                  rw [HN.out, HF.out]
                  refine h.mono ?_
                  rintro e w' ⟨rfl, d', Z, z1, z2, z3, z4, z5, z6⟩
                  rw [List.append_nil] at z3
                  refine ⟨rfl, d', z2, ?_, ?_, z1⟩
                  · rw [z3]
                    exact t4 _ (RunsN.last Z (by omega) z5)
                  · refine Alike.trans ?_ t5
                    rw [z3, t1]
                    exact (Alike.refl _).append z6
                have HMM : Aside (a + bs = m) := hm
                clear hm
                go_wp2_with (go_at_call 100; refine hc.mono ?_; rintro e w' ⟨rfl, d', S5, J5⟩)
                go_roundg (n - bs * 2)
                case measure => omega
                case rel => exact ⟨bs * 2, d', by simp, by omega, Nat.le_refl _, by omega, S5, J5⟩
              · have hmnz : ¬ (m : Int) < (n : Int) := by omega
                have J5 : Aside (RunsN key (bs * 2) dk.toList ∧ Alike key dk.toList d0.toList ∧ dk.size = n) := by
                  obtain ⟨D, T, t1, t2, t3, t4, t5, t6⟩ := I.out
                  have hT : D.length + T.length = n := by
                    have : dk.toList.length = D.length + T.length := by rw [t1]; simp
                    simp at this
                    omega
                  refine ⟨?_, t5, t6⟩
                  rw [t1]
                  exact t4 _ (RunsN.last T (by omega) (t3.one (by omega)))
                have HMM : Aside (a + bs = m) := hm
                clear hm
                go_wp2
                go_roundg (n - bs * 2)
                case measure => omega
                case rel => exact ⟨bs * 2, dk, by simp, by omega, Nat.le_refl _, by omega, S4, J5⟩
        · have hltz : ¬ (bs : Int) < (n : Int) := by omega
          go_wp2
          go_end0
          obtain ⟨j1, j2, j3⟩ := J.out
          exact ⟨rfl, dk, by rw [j3, HN.out], S3.out, j1.one (by simp; omega), j2⟩
end Go.Proofs.YtnalillebemglaaGreat
