/-
  A merger in memory: Next.
-/
import Derived.Test.YtnalillebemglaaGreatMgD
namespace Go.Proofs.YtnalillebemglaaGreat
open Go.RowKit Go.Sort
set_option linter.unusedVariables false
set_option linter.unusedSimpArgs false
set_option maxRecDepth 20000

/-- The head of run i is the first of all. -/
def FirstR (rs : List (List Mg)) (i : Nat) (m : Mg) (t : List Mg) : Prop := rs[i]? = some (m :: t) ∧ ∀ (q : Nat) (m' : Mg) (t' : List Mg), rs[q]? = some (m' :: t') → m.key < m'.key ∨ (m.key = m'.key ∧ i ≤ q)
theorem get_take {rs : List (List Mg)} {r : List Mg} (h : r ∈ rs) : ∃ q : Nat, rs[q]? = some r := List.getElem?_of_mem h
theorem FirstR.least {rs : List (List Mg)} {i : Nat} {m : Mg} {t : List Mg} (h : FirstR rs i m t) : LeastR m.key rs := by
  refine ⟨⟨_, List.mem_of_getElem? h.1, m, rfl, rfl⟩, fun r hr y hy hlt => ?_⟩
  obtain ⟨q, hq⟩ := get_take hr
  cases r with
  | nil => simp at hy
  | cons z s =>
    simp only [List.head?_cons, Option.some.injEq] at hy
    subst hy
    rcases h.2 q z s hq with h1 | ⟨h1, _⟩
    · exact lt_irrefl' (lt_trans' h1 hlt)
    · rw [h1] at hlt; exact lt_irrefl' hlt
theorem headR_some {k : List UInt8} {r : List Mg} (h : headR k r ≠ []) : ∃ m t, r = m :: t ∧ m.key = k := by
  cases r with
  | nil => exact absurd rfl h
  | cons m t =>
    rw [headR_cons] at h
    by_cases hk : m.key = k
    · exact ⟨m, t, rfl, hk⟩
    · rw [if_neg hk] at h; exact absurd rfl h
theorem FirstR.one {rs : List (List Mg)} {i : Nat} {m : Mg} {t : List Mg} (h : FirstR rs i m t) : rs.set i t = midR m.key (i + 1) rs ∧ headsR m.key (rs.take (i + 1)) = [m] := by
  obtain ⟨h1, h2⟩ := mid_set m.key rs 0 i (Nat.zero_le _) m t h.1 rfl (fun q r _ hq hr => by
    by_cases hh : headR m.key r = []
    · exact hh
    · obtain ⟨m', t', rfl, e⟩ := headR_some hh
      rcases h.2 q m' t' hr with h1 | ⟨_, h1⟩
      · rw [e] at h1; exact absurd h1 lt_irrefl'
      · omega)
  rw [mid_zero] at h1
  exact ⟨h1, by rw [h2]; simp [headsR]⟩
theorem mid_empty {rs : List (List Mg)} {k : List UInt8} {j : Nat} (h : leftR (midR k j rs) = 0) : midR k j rs = tailsR k rs ∧ headsR k (rs.take j) = headsR k rs := by
  rw [left_none0] at h
  refine mid_end k rs j (fun q r hq hr => ?_)
  have e := mid_get k j rs q
  rw [if_neg (by omega), hr] at e
  rw [h r (List.mem_of_getElem? e)]
  rfl
theorem FirstR.done {rs : List (List Mg)} (h : OkR rs) {k : List UInt8} (hk : LeastR k rs) {j i : Nat} {m : Mg} {t : List Mg} (hf : FirstR (midR k j rs) i m t) (hm : m.key ≠ k) : midR k j rs = tailsR k rs ∧ headsR k (rs.take j) = headsR k rs := by
  refine mid_end k rs j (fun q r hq hr => ?_)
  by_cases hh : headR k r = []
  · exact hh
  · obtain ⟨m', t', rfl, e⟩ := headR_some hh
    have g := mid_get k j rs q
    rw [if_neg (by omega), hr] at g
    rcases hf.2 q m' t' g with h1 | ⟨h1, _⟩
    · rw [e] at h1
      exact absurd h1 (mid_ahead h hk.2 j i m t hf.1).1
    · exact absurd (h1.trans e) hm
theorem FirstR.more {rs : List (List Mg)} (h : OkR rs) {k : List UInt8} (hk : LeastR k rs) {j i : Nat} {m : Mg} {t : List Mg} (hf : FirstR (midR k j rs) i m t) (hm : m.key = k) : (midR k j rs).set i t = midR k (i + 1) rs ∧ headsR k (rs.take (i + 1)) = headsR k (rs.take j) ++ [m] ∧ j ≤ i ∧ rs[i]? = some (m :: t) := by
  obtain ⟨h1, h2⟩ := (mid_ahead h hk.2 j i m t hf.1).2 hm
  obtain ⟨h3, h4⟩ := mid_set k rs j i h1 m t h2 hm (fun q r hq hqi hr => by
    by_cases hh : headR k r = []
    · exact hh
    · obtain ⟨m', t', rfl, e⟩ := headR_some hh
      have g := mid_get k j rs q
      rw [if_neg (by omega), hr] at g
      rcases hf.2 q m' t' g with h1 | ⟨_, h1⟩
      · rw [hm, e] at h1; exact absurd h1 lt_irrefl'
      · omega)
  exact ⟨h3, h4, h1, h2⟩
theorem onto_one (m : Mg) : ontoAll m.key [m] none = some m := by
  have := ontoAll_snoc m.key [] m none
  rw [if_pos rfl] at this
  exact this
theorem onto_more {k : List UInt8} {b : List Mg} {x : Mg} (h : ontoAll k b none = some x) (m : Mg) (hm : m.key = k) : ontoAll k (b ++ [m]) none = some (x.then m) := by
  rw [ontoAll_snoc, if_pos hm, h]; rfl
theorem mid_left (k : List UInt8) (j : Nat) (rs : List (List Mg)) : leftR (midR k j rs) ≤ leftR rs := by
  have h1 := left_split k (rs.take j)
  unfold midR
  unfold leftR at *
  rw [List.flatten_append, List.length_append]
  have h2 : rs.flatten.length = (rs.take j).flatten.length + (rs.drop j).flatten.length := by
    conv => lhs; rw [← List.take_append_drop j rs]
    rw [List.flatten_append, List.length_append]
  omega
theorem heads_good {rs : List (List Mg)} (h : OkR rs) (k : List UInt8) (j : Nat) : GoodM (headsR k (rs.take j)) := fun m hm => by
  unfold headsR at hm
  rw [List.mem_flatMap] at hm
  obtain ⟨r, hr, hm⟩ := hm
  exact (h r (List.mem_of_mem_take hr)).1 m (by rw [← head_tail k r]; simp [hm])
theorem onto_heads {rs : List (List Mg)} (h : OkR rs) {k : List UInt8} {j : Nat} {x : Mg} (hx : ontoAll k (headsR k (rs.take j)) none = some x) : x.is = true ∧ x.key = k := ontoAll_good k _ (heads_good h k j) none (fun y hy => by cases hy) x hx
theorem okR_head {rs : List (List Mg)} (h : OkR rs) {i : Nat} {m : Mg} {t : List Mg} (hi : rs[i]? = some (m :: t)) : m.is = true := (h _ (List.mem_of_getElem? hi)).1 m (List.mem_cons_self ..)
theorem FirstR.same {rs : List (List Mg)} {i j : Nat} {m n : Mg} {t u : List Mg} (h : FirstR rs i m t) (k : FirstR rs j n u) : j = i ∧ n = m ∧ u = t := by
  have e : j = i := by
    rcases h.2 j n u k.1 with h1 | ⟨h1, h2⟩
    · rcases k.2 i m t h.1 with k1 | ⟨k1, _⟩
      · exact absurd (lt_trans' h1 k1) lt_irrefl'
      · rw [k1] at h1; exact absurd h1 lt_irrefl'
    · rcases k.2 i m t h.1 with k1 | ⟨_, k2⟩
      · rw [h1] at k1; exact absurd k1 lt_irrefl'
      · omega
  subst e
  have := h.1.symm.trans k.1
  injection this with this
  injection this with h1 h2
  exact ⟨rfl, h1.symm, h2.symm⟩

set_option maxHeartbeats 4000000 in
theorem mNext_any (w : World) (F : Nat → Prop) (b p : Nat) (rs : List (List Mg)) (hok : OkR rs) (hl : leftR rs ≤ 1000000000) (hn : rs.length ≤ 900000) (h : MerAt w F b p rs) :
    Calls Tryz.prog 15 #[.pointer (some ⟨p, 0, none⟩)] w fun e w' => Step F w w' ∧ ((leftR rs = 0 ∧ e = .returned (.tuple #[.agg #[.int .i64 0, .string (str []), .string (str [])], .bool false]) ∧ MerAt w' F b p rs) ∨ ∃ k x, LeastR k rs ∧ ontoAll k (headsR k rs) none = some x ∧ e = .returned (.tuple #[.agg #[.int .i64 x.kind, .string (str x.key), .string (str x.val)], .bool true]) ∧ MerAt w' F b p (tailsR k rs)) := by
  obtain ⟨hF, hbw⟩ := h.low
  have hm1 : ∀ ob, MerAt (w.alloc ob) F b p rs := fun ob => h.step ((Step.refl noF w).alloc ob)
  have cL := fun ob => mLeft_any (w.alloc ob) F b p rs (hm1 ob)
  have T0 := trip_new w 37 ⟨0, [], []⟩
  by_cases h0 : leftR rs = 0
  · simp only [h0] at cL
    have HM := hid (hm1 (.cells #[.int .i64 0, .string (str []), .string (str [])] 37))
    have HS := hid (((Step.refl F w).alloc (.cells #[.int .i64 0, .string (str []), .string (str [])] 37)))
    obtain ⟨t0, t1, t2, f0, f1, f2⟩ := T0.all
    clear T0 hm1 h
    go_enter Tryz.func15, Tryz.ntmps15
    go_wp2_with fail
    refine (cL _).mono ?_
    rintro e w2 ⟨rfl, rfl⟩
    go_wp2_with fail
    refine bodyPost_ret (v := .tuple #[.agg #[.int .i64 0, .string (str []), .string (str [])], .bool false]) (by simp [results, Tryz.results15, go_sem, *]; rfl) rfl ?_
    exact ⟨HS.out, .inl ⟨h0, rfl, HM.out⟩⟩
  · have cT := fun ob => mTake_any (w.alloc ob) F b p rs hl hn (hm1 ob) h0
    have HOK := hid hok
    have HL := hid (And.intro hl (And.intro hn (And.intro hF hbw)))
    obtain ⟨L, hL⟩ : ∃ L, leftR rs = L := ⟨_, rfl⟩
    have h0' := h0
    rw [hL] at h0' cL
    have hLz : ¬ (L : Int) = 0 := by omega
    have hLz2 : ((L : Int) == 0) = false := by rw [beq_eq_false_iff_ne]; exact hLz
    have HT0 := hid T0
    have HL2 := hid hL
    clear T0 hm1 h hok hl hn hF hL h0
    go_enter Tryz.func15, Tryz.ntmps15
    go_wp2_with fail
    refine (cL _).mono ?_
    rintro e w2 ⟨rfl, rfl⟩
    go_wp2_with fail
    refine (cT _).mono ?_
    rintro e w2 ⟨i, m, t, r1, r2, rfl, s2, hm2⟩
    have HFI : Hid (FirstR rs i m t) := ⟨r1, r2⟩
    have HT2 := hid (HT0.out.keep s2 (fun hf => by have := HL.out.2.2.1 _ hf; omega))
    have HS2 := hid (((Step.refl F w).alloc _).trans s2)
    have HM2 := hid hm2
    have hB : w.heap.size + 1 ≤ w2.heap.size := by have := s2.size; rw [World.size_alloc] at this; exact this
    obtain ⟨K, hK⟩ : ∃ K, m.key = K := ⟨_, rfl⟩
    have HK := hid hK
    have T4 := hid (trip_new w2 37 m)
    clear r1 r2 s2 hm2 cT cL hLz hLz2 h0' hK
    go_wp2_with fail
    go_loopg [11] (leftR (midR m.key (i + 1) rs)) (fun kx x wr => ∃ j y, Hid (ontoAll m.key (headsR m.key (rs.take j)) none = some y) ∧ Hid (Step F w wr) ∧ Hid (MerAt wr F b p (midR m.key j rs)) ∧ Hid (TripAt wr w.heap.size 37 ⟨0, [], []⟩) ∧ Hid (TripAt wr w2.heap.size 37 y) ∧ leftR (midR m.key j rs) ≤ kx)
    case atStart =>
      obtain ⟨e1, e2⟩ := HFI.out.one
      refine ⟨i + 1, m, ?_, HS2.out.alloc _, ?_, HT2.out.keep ((Step.refl noF w2).alloc _) (fun x => x), T4.out, Nat.le_refl _⟩
      · show _ = _
        rw [e2]; exact onto_one m
      · show MerAt _ _ _ _ _
        rw [← e1]
        exact HM2.out.step ((Step.refl noF w2).alloc _)
    case round =>
      obtain ⟨j, y, HY, HS, HM, HZ, HB, hkx⟩ := hrel
      have hK := HFI.out.least
      have hyk := onto_heads HOK.out HY.out
      have hlj := mid_left m.key j rs
      have cI := mIsAt_any wr F b p (midR m.key j rs) (by have := HL.out.1; omega) y.key HM.out
      obtain ⟨t0, t1, t2, _, _, _⟩ := HB.out.all
      have HYK := hid hyk
      have HLK := hid hK
      obtain ⟨⟨yk, yy, yv⟩, hy⟩ : ∃ x, y = x := ⟨_, rfl⟩
      subst hy
      simp only at t0 t1 t2 cI
      clear hyk hK hlj
      go_wp2_with fail
      refine cI.mono ?_
      rintro e w3 ⟨bb, rfl, s3, hb⟩
      have HS3 := hid (HS.out.trans (s3.mono (fun _ x => x.elim)))
      have HM3 := hid (HM.out.step s3)
      have HZ3 := hid (HZ.out.step s3)
      have HB3 := hid (HB.out.step s3)
      have HBB := hid hb
      clear s3 cI t0 t1 t2 hb
      cases bb
      · obtain ⟨t0, t1, t2, _, _, _⟩ := HB3.out.all
        obtain ⟨z0, z1, z2, f0, f1, f2⟩ := HZ3.out.all
        have HEND : Hid (midR m.key j rs = tailsR m.key rs ∧ headsR m.key (rs.take j) = headsR m.key rs) := by
          rcases HBB.out with ⟨_, h⟩ | ⟨i2, m2, t2, r1, r2, r3⟩
          · exact mid_empty h
          · refine FirstR.done HOK.out HLK.out ⟨r1, r3⟩ (fun e => ?_)
            rw [← HYK.out.2] at e
            rw [decide_eq_true e] at r2
            cases r2
        simp only at t0 t1 t2
        obtain ⟨p0, p1, p2, _, _, _⟩ := (HZ3.out.put ⟨yk, yy, yv⟩).all
        simp only at p0 p1 p2
        go_wp2_with fail
        refine bodyPost_ret (v := .tuple #[.agg #[.int .i64 yk, .string (str yy), .string (str yv)], .bool true]) (by simp [results, Tryz.results15, go_sem, *]) rfl ?_
        refine ⟨HS3.out.put3 w.heap.size (Nat.le_refl _) _ _ _, .inr ⟨m.key, ⟨yk, yy, yv⟩, HLK.out, ?_, rfl, ?_⟩⟩
        · rw [← HEND.out.2]
          exact HY.out
        · rw [← HEND.out.1]
          refine HM3.out.keep (G := oneF w.heap.size) ((((Step.refl (oneF w.heap.size) w3).setCell (p := ⟨w.heap.size, 0, none⟩) (.inl (show oneF w.heap.size w.heap.size from rfl)) _).setCell (p := ⟨w.heap.size, 1, none⟩) (.inl (show oneF w.heap.size w.heap.size from rfl)) _).setCell (p := ⟨w.heap.size, 2, none⟩) (.inl (show oneF w.heap.size w.heap.size from rfl)) _) (fun k hk => ?_)
          have e : k = w.heap.size := hk
          omega
      · obtain ⟨i2, m2, t2, r1, r2, r3⟩ : ∃ i2 m2 t2, (midR m.key j rs)[i2]? = some (m2 :: t2) ∧ m2.key = yy ∧ ∀ (q : Nat) (m' : Mg) (t' : List Mg), (midR m.key j rs)[q]? = some (m' :: t') → m2.key < m'.key ∨ (m2.key = m'.key ∧ i2 ≤ q) := by
          rcases HBB.out with ⟨h, _⟩ | ⟨i2, m2, t2, r1, r2, r3⟩
          · cases h
          · exact ⟨i2, m2, t2, r1, of_decide_eq_true r2.symm, r3⟩
        have HFR : Hid (FirstR (midR m.key j rs) i2 m2 t2) := ⟨r1, r3⟩
        have hk2 : m2.key = m.key := r2.trans HYK.out.2
        have HMO := hid (HFR.out.more HOK.out HLK.out hk2)
        have hM2 := okR_head HOK.out HMO.out.2.2.2
        have hll := mid_left m.key j rs
        have hgv := left_give i2 m2 t2 r1
        rw [HMO.out.1] at hgv
        have cT4 : ∀ W, Step noF w3 W → Calls Tryz.prog 32 #[.pointer (some ⟨p, 0, none⟩)] W fun e w' => e = .returned (.agg #[.int .i64 m2.kind, .string (str m2.key), .string (str m2.val)]) ∧ Step F w3 w' ∧ MerAt w' F b p (midR m.key (i2 + 1) rs) := fun W hW => by
          refine (mTake_any W F b p (midR m.key j rs) (by have := HL.out.1; omega) (by rw [mid_len]; exact HL.out.2.1) (HM3.out.step hW) (by omega)).mono ?_
          rintro e w4 ⟨i4, m4, t4, q1, q2, rfl, s4, h4⟩
          obtain ⟨rfl, rfl, rfl⟩ := HFR.out.same ⟨q1, q2⟩
          rw [HMO.out.1] at h4
          exact ⟨rfl, (hW.mono (fun _ x => x.elim)).trans s4, h4⟩
        have cTh := fun W => then_any ⟨yk, yy, yv⟩ m2 (Mg.val_max HYK.out.1) (Mg.val_max hM2) W
        obtain ⟨⟨mk, my, mv⟩, hm2⟩ : ∃ x, m2 = x := ⟨_, rfl⟩
        subst hm2
        have e1 : (Mg.mk yk yy yv).value = .agg #[.int .i64 yk, .string (str yy), .string (str yv)] := rfl
        have e2 : (Mg.mk mk my mv).value = .agg #[.int .i64 mk, .string (str my), .string (str mv)] := rfl
        have e3 : (Mg.mk yk yy yv).thenR ⟨mk, my, mv⟩ = .tuple #[.agg #[.int .i64 ((Mg.mk yk yy yv).then ⟨mk, my, mv⟩).kind, .string (str ((Mg.mk yk yy yv).then ⟨mk, my, mv⟩).key), .string (str ((Mg.mk yk yy yv).then ⟨mk, my, mv⟩).val)], .int .i64 ((Mg.mk yk yy yv).thenE ⟨mk, my, mv⟩)] := rfl
        rw [e1, e2, e3] at cTh
        have HMORE : Hid (ontoAll m.key (headsR m.key (rs.take (i2 + 1))) none = some ((Mg.mk yk yy yv).then ⟨mk, my, mv⟩)) := by
          show _ = _
          rw [HMO.out.2.1]
          exact onto_more HY.out _ hk2
        obtain ⟨M, hM⟩ : ∃ M, (Mg.mk yk yy yv).then ⟨mk, my, mv⟩ = M := ⟨_, rfl⟩
        obtain ⟨er, her⟩ : ∃ er, (Mg.mk yk yy yv).thenE ⟨mk, my, mv⟩ = er := ⟨_, rfl⟩
        rw [hM] at cTh HMORE
        rw [her] at cTh
        obtain ⟨t0, t1, t2', _, _, _⟩ := HB3.out.all
        have HLT : Hid (leftR (midR m.key (i2 + 1) rs) < leftR (midR m.key j rs)) := by show _ < _; omega
        obtain ⟨Mk, My, Mv⟩ := M
        have hFB : Hid (¬ F w2.heap.size ∧ ¬ F w.heap.size) := ⟨fun h => by have := HL.out.2.2.1 _ h; have := HL.out.2.2.2; omega, fun h => by have := HL.out.2.2.1 _ h; have := HL.out.2.2.2; omega⟩
        simp only at t0 t1 t2' cT4
        clear e1 e2 e3 hM her r1 r2 r3 hk2 hM2 hll hgv HBB
        go_wp2_with fail
        go_region_law (first
          | (refine step_calls rfl rfl Tryz.func32 (by kernel_rfl) (by kernel_rfl) (args := #[.pointer (some ⟨p, 0, none⟩)]) (by first | rfl | (simp [Act.eval, Act.put]; done)) ?_; refine (cT4 _ (by first | exact Step.refl noF w3 | exact (Step.refl noF w3).drew | exact (Step.refl noF w3).drewN _)).mono ?_; rintro e w4 ⟨rfl, s4, hm4⟩; have HB4 := hid (HB3.out.keep s4 hFB.out.1); have HZ4 := hid (HZ3.out.keep s4 hFB.out.2); obtain ⟨c0, c1, c2, _, _, _⟩ := HB4.out.all; have HM4 := hid hm4; have HS4 := hid s4; clear s4 hm4; refine ⟨_, rfl, ?_⟩)
          | (refine step_calls rfl rfl Tryz.func34 (by kernel_rfl) (by kernel_rfl) (args := #[.agg #[.int .i64 yk, .string (str yy), .string (str yv)], .agg #[.int .i64 mk, .string (str my), .string (str mv)]]) (by first | rfl | (simp [Act.eval, Act.put]; done)) ?_; refine (cTh _).mono ?_; rintro e w5 ⟨rfl, s5⟩; have S5 : Hid (Step noF w4 w5) := (by first | exact s5 | exact ((Step.refl noF w4).drew).trans s5 | exact ((Step.refl noF w4).drewN _).trans s5); clear s5; have HB5 := hid (HB4.out.step S5.out); obtain ⟨d0, d1, d2, g0, g1, g2⟩ := HB5.out.all; refine ⟨_, rfl, ?_⟩))
        all_goals go_wp2_with fail
        all_goals go_roundg (leftR (midR m.key (i2 + 1) rs))
        all_goals first
          | (have := HLT.out; omega)
          | (have hs5 : Step (oneF w2.heap.size) w5 _ := (((Step.refl (oneF w2.heap.size) w5).setCell (p := ⟨w2.heap.size, 0, none⟩) (.inl (show oneF w2.heap.size w2.heap.size from rfl)) (.int .i64 Mk)).setCell (p := ⟨w2.heap.size, 1, none⟩) (.inl (show oneF w2.heap.size w2.heap.size from rfl)) (.string (str My))).setCell (p := ⟨w2.heap.size, 2, none⟩) (.inl (show oneF w2.heap.size w2.heap.size from rfl)) (.string (str Mv))
             refine ⟨i2 + 1, ⟨Mk, My, Mv⟩, HMORE.out, (HS3.out.trans (HS4.out.trans (S5.out.mono (fun _ x => x.elim)))).put3 w2.heap.size (by omega) _ _ _, ?_, ?_, HB5.out.put ⟨Mk, My, Mv⟩, Nat.le_refl _⟩
             · exact (HM4.out.step S5.out).keep hs5 (fun k hk => by have e : k = w2.heap.size := hk; omega)
             · exact (HZ4.out.step S5.out).keep hs5 (fun e => by have e : w.heap.size = w2.heap.size := e; omega))
end Go.Proofs.YtnalillebemglaaGreat
