/-
  What places, Shadow, Back, Turn do.
-/
import Derived.Test.YtmijbplhmjledaaTkI
import Derived.Lib.SliceRun
import Derived.BigFrame
namespace Go.Proofs.Ytmijbplhmjledaa
open Go.RowKit
set_option linter.unusedVariables false
set_option linter.unusedSimpArgs false

theorem pairs_setx (xs : List (Int × Int)) (j : Nat) (x y : Int) (h : j < xs.length) : ((pairs xs).set (2 * j) (.int .i64 x)).set (2 * j + 1) (.int .i64 y) = pairs (xs.set j (x, y)) := by
  induction xs generalizing j with
  | nil => simp at h
  | cons z xs ih =>
    cases j with
    | zero => simp [pairs]
    | succ j =>
      have := ih j (by simpa using h)
      simp only [pairs, List.flatMap_cons, List.set_cons_succ] at this ⊢
      rw [show 2 * (j + 1) = 2 * j + 1 + 1 by omega, show 2 * j + 1 + 1 + 1 = (2 * j + 1) + 1 + 1 by omega]
      simpa using this
theorem pairs_rep : ∀ n : Nat, pairs (List.replicate n (0, 0)) = List.replicate (n * 2) (.int .i64 0)
  | 0 => rfl
  | n + 1 => by
    rw [List.replicate_succ, show (n + 1) * 2 = n * 2 + 1 + 1 by omega, List.replicate_succ, List.replicate_succ, ← pairs_rep n]
    rfl
theorem made_two (n : Nat) : (madeCells #[.int .i64 0, .int .i64 0] (n * 2)).toList = pairs (List.replicate n (0, 0)) := by
  rw [pairs_rep]
  apply List.ext_getElem
  · simp [madeCells]
  · intro k h1 h2
    have hk : k % 2 = 0 ∨ k % 2 = 1 := by omega
    rcases hk with hk | hk <;> simp [madeCells, hk]
theorem mk_exts (n : Nat) (h8 : n ≤ 1000000) (u : World) : (Instr.makeSlice 29 (.int .i64 n) (.int .i64 n)).run Try.prog u =
      .ok (.slice (some ⟨u.heap.size, 0, none⟩) n n) (u.alloc (.cells (madeCells #[.int .i64 0, .int .i64 0] (n * 2)) 53)) := by
  obtain ⟨i0, hi, hz0, hz1, hz2⟩ := info_three info_ext
  have h := run_make (P := Try.prog) u 29 53 i0 _ Try.underlying29 hi hz0 .i64 .i64 n n (by omega) (Int.le_refl _) (by rw [hz2]; omega) (by omega)
  simpa [hz1, Value.cells] using h
/-- The places of the first j blocks of the list. -/
def plT (zs : List Int) : Nat → List (Int × Int)
  | 0 => List.replicate zs.length (0, 0)
  | j + 1 => (plT zs j).set j (zs.getD j 0, 1)
theorem plT_len (zs : List Int) : ∀ j, (plT zs j).length = zs.length
  | 0 => by simp [plT]
  | j + 1 => by rw [plT, List.length_set, plT_len zs j]
theorem plT_at (zs : List Int) : ∀ j, j ≤ zs.length → ∀ k, k < zs.length → (plT zs j).getD k (0, 0) = if k < j then (zs.getD k 0, 1) else (0, 0)
  | 0, _, k, hk => by rw [if_neg (by omega), plT, getD_lt _ (by simpa using hk)]; simp
  | j + 1, hj, k, hk => by
    rw [plT, getD_set _ _ _ _ _ (by rw [plT_len]; omega), plT_at zs j (by omega) k hk]
    by_cases h : k = j
    · rw [if_pos h, if_pos (by omega), h]
    · rw [if_neg h]
      by_cases h2 : k < j
      · rw [if_pos h2, if_pos (by omega)]
      · rw [if_neg h2, if_neg (by omega)]
theorem plT_all (zs : List Int) : plT zs zs.length = ones zs := by
  apply List.ext_getElem (by rw [plT_len, ones_length])
  intro k h1 h2
  rw [plT_len] at h1
  rw [← getD_lt (0, 0), plT_at zs _ (Nat.le_refl _) k h1, if_pos h1]
  simp [ones, h1]
theorem RowIn.ext {w : World} {g : Nat} {e : TypeId} {xs : List (Int × Int)} (h : RowIn w g e (pairs xs)) : ExtAt w (some ⟨g, 0, none⟩) xs := by
  refine .inr ⟨g, 0, rfl, h.lt, fun j hj => ?_⟩
  obtain ⟨h1, h2⟩ := pairs_at xs j hj
  have l := pairs_length xs
  have e1 := h.cell (2 * j) (by omega)
  have e2 := h.cell (2 * j + 1) (by omega)
  rw [List.getElem?_eq_getElem (by omega)] at h1 h2
  injection h1 with h1
  injection h2 with h2
  rw [h1] at e1
  rw [h2] at e2
  rw [Nat.zero_add, Nat.mul_comm]
  exact ⟨e1, e2⟩

set_option maxHeartbeats 2000000 in
theorem places_any (w : World) (a : Option Addr) (c n : Nat) (zs : List Int) (hn : zs.length = n) (hz : RowAt w noF a (intsOf zs)) (hl : zs.length ≤ 1000000) :
    Calls Try.prog 47 #[.slice a n c] w fun e w' => ∃ b, e = .returned (.slice (some ⟨b, 0, none⟩) n n) ∧ Step noF w w' ∧ w.heap.size ≤ b ∧ ExtAt w' (some ⟨b, 0, none⟩) (ones zs) := by
  subst hn
  have HZ := hid hz
  have hmk := mk_exts zs.length (by omega) w
  have RM : Hid (RowIn (w.alloc (.cells (madeCells #[.int .i64 0, .int .i64 0] (zs.length * 2)) 53)) w.heap.size 53 (pairs (plT zs 0))) := ⟨_, [], block_alloc_new _ _, by rw [made_two, List.append_nil]; rfl⟩
  have SM : Hid (Step noF w (w.alloc (.cells (madeCells #[.int .i64 0, .int .i64 0] (zs.length * 2)) 53))) := (Step.refl _ _).alloc _
  obtain ⟨g, hg⟩ : ∃ g, w.heap.size = g := ⟨_, rfl⟩
  rw [hg] at hmk RM
  have HG : Hid (w.heap.size ≤ g) := Nat.le_of_eq hg
  clear hz hg
  go_enter Try.func47, Try.ntmps47
  go_wp2_with fail
  go_loopw [4, 5, 11] (fun _ _ i wr => ∃ j : Nat, j ≤ zs.length ∧ i = .int .i64 j ∧ Step noF w wr ∧ RowIn wr g 53 (pairs (plT zs j))) (fun _ _ i _ => zs.length - (intOf i).toNat)
  case atStart => exact ⟨0, Nat.zero_le _, rfl, SM.out, RM.out⟩
  case round =>
    obtain ⟨j, hj, rfl, hst, hrow⟩ := hrel
    by_cases hjn : j < zs.length
    · have hji : (j : Int) < (zs.length : Int) := by omega
      obtain ⟨b, off, rfl, y0⟩ := row_int (HZ.out.step hst) j hjn
      have hgz : zs.getD j 0 = zs[j] := getD_lt _ hjn
      obtain ⟨z, hzz⟩ : ∃ z, zs[j] = z := ⟨_, rfl⟩
      rw [hzz] at y0 hgz
      have hpl : (pairs (plT zs j)).length = zs.length * 2 := by rw [pairs_length, plT_len]
      obtain ⟨v1, e1'⟩ : ∃ v, wr.cell? ⟨g, j * 2, none⟩ = some v := ⟨_, by rw [Nat.mul_comm]; exact hrow.cell (2 * j) (by omega)⟩
      obtain ⟨v2, e2'⟩ : ∃ v, wr.cell? ⟨g, j * 2 + 1, none⟩ = some v := ⟨_, by rw [Nat.mul_comm]; exact hrow.cell (2 * j + 1) (by omega)⟩
      have q1 := hrow.f (j * 2)
      have q2 := hrow.f (j * 2 + 1)
      have HRW := hid hrow
      have HPL := hid hpl
      have HGZ := hid hgz
      clear hrow hpl hgz hzz
      go_wp2_with fail
      go_roundw
      case rel =>
        refine ⟨j + 1, by omega, int_eq (by omega), (hst.setCell (p := ⟨g, j * 2, none⟩) (.inr HG.out) _).setCell (p := ⟨g, j * 2 + 1, none⟩) (.inr HG.out) _, ?_⟩
        have := (HRW.out.set (2 * j) (by have := HPL.out; omega) (.int .i64 z)).set (2 * j + 1) (by rw [List.length_set]; have := HPL.out; omega) (.int .i64 1)
        rw [pairs_setx _ _ _ _ (by rw [plT_len]; exact hjn)] at this
        rw [plT, HGZ.out]
        rw [Nat.mul_comm 2 j] at this
        exact this
      case measure => simp [intOf]; omega
    · obtain rfl : j = zs.length := by omega
      go_wp2_with fail
      go_ret
      refine ⟨g, rfl, hst, HG.out, ?_⟩
      rw [plT_all] at hrow
      exact hrow.ext

/-- Shadow. -/
def shadowT (t : Tk) (zs : List Int) : Tk := if usedE (kindsL t.l t.d) zs = 0 then ⟨t.l, markL true t.d zs, t.r, t.hs⟩ else t
set_option maxHeartbeats 2000000 in
theorem shadow_any (w : World) (p : Nat) (F : Nat → Prop) (t : Tk) (h : IsPool w p F t) (a : Option Addr) (c n : Nat) (zs : List Int) (hn : zs.length = n) (hz : RowAt w F a (intsOf zs)) (hl : zs.length ≤ 1000000) :
    Calls Try.prog 28 #[.pointer (some ⟨p, 0, none⟩), .slice a n c] w fun e w' => e = .returned (.int .i64 (usedE (kindsL t.l t.d) zs)) ∧ Step F w w' ∧ IsPool w' p (Grew F w w') (shadowT t zs) := by
  subst hn
  have hz0 : RowAt w noF a (intsOf zs) := hz.imp id (fun ⟨b, off, e, _, x⟩ => ⟨b, off, e, fun y => y, x⟩)
  obtain ⟨E, hE⟩ : ∃ E, usedE (kindsL t.l t.d) zs = E := ⟨_, rfl⟩
  have cu := areUsed_any w p F t h a c zs.length zs rfl hz0 hl E hE
  have HP := hid h
  have HZ := hid hz
  rw [hE]
  by_cases k0 : E = 0
  · subst k0
    obtain ⟨hwf, _⟩ := h.1.shadow hE
    have HW := hid hwf
    have HT : Hid (shadowT t zs = ⟨t.l, markL true t.d zs, t.r, t.hs⟩) := by show _ = _; rw [shadowT, if_pos hE]
    have HU := hid (used_ok hE).1
    clear h hz hz0 hE hwf
    go_enter Try.func28, Try.ntmps28
    go_wp2_with fail
    refine cu.mono ?_
    rintro e w1 ⟨rfl, s1⟩
    obtain ⟨hF1, q, gs, gd, cd, hv, nv, ns, hf, hp, hg, hr⟩ := HP.out.2.step s1
    have HR := hid hr
    obtain ⟨h1, h2, h3, h4, h5, _⟩ := hr
    have HB := hid h1
    have HFT := hid hf
    have HF1 := hid hF1
    have HPP := hid hp
    have HG := hid hg
    have H3 := hid h3
    have H5 := hid h5
    have hap : ¬ gd = p := fun e => HR.out.apart.2.2.1 e
    have hll := HP.out.1.n2
    obtain ⟨N, hN⟩ : ∃ N, t.l.length = N := ⟨_, rfl⟩
    have HN := hid hN
    rw [hN] at hll
    clear h1 h2 h3 h4 h5 hf hp hg hF1 hN
    go_wp2_with fail
    go_loopw [7, 16] (fun _ i wr => ∃ j : Nat, j ≤ zs.length ∧ i = .int .i64 j ∧ Step (oneF gd) w1 wr ∧ RowIn wr gd 4 (bools (markT true t.d zs j))) (fun _ i _ => zs.length - (intOf i).toNat)
    case atStart => exact ⟨0, Nat.zero_le _, rfl, Step.refl _ _, H5.out⟩
    case round =>
      obtain ⟨j, hj, rfl, hst, hrow⟩ := hrel
      by_cases hjn : j < zs.length
      · have hji : (j : Int) < (zs.length : Int) := by omega
        have hz1 : RowAt w1 F a (intsOf zs) := rowAt_keep HZ.out (fun k hk hFk => ⟨s1.block k hk (fun x => x), hFk⟩)
        have hz2 : RowAt wr noF a (intsOf zs) := rowAt_keep hz1 (fun k hk hFk => ⟨hst.block k hk (fun e => hFk (by unfold oneF at e; rw [e]; exact HFT.out.2.2.2.1)), fun x => x⟩)
        obtain ⟨b, off, rfl, y0⟩ := row_int hz2 j hjn
        obtain ⟨i1, i2, _⟩ := HU.out _ (List.getElem_mem hjn)
        rw [kindsL_len, HN.out] at i2
        obtain ⟨k, hk⟩ := Int.eq_ofNat_of_zero_le i1
        have hkN : k < N := by omega
        have hgz : zs.getD j 0 = (k : Int) := by rw [getD_lt _ hjn, hk]
        rw [hk] at y0
        obtain ⟨_, c1, _⟩ := cells6 ((hst.block p (lt_of_block HB.out) (fun e => hap e.symm)).trans HB.out)
        rw [HN.out] at c1
        have hml : (markT true t.d zs j).length = N := by rw [markT_len, H3.out, HN.out]
        have hcs := hrow.cell k (by rw [bools_length, hml]; exact hkN)
        have hfz := hrow.f k
        obtain ⟨v, hv⟩ : ∃ v, (bools (markT true t.d zs j))[k]'(by rw [bools_length, hml]; exact hkN) = v := ⟨_, rfl⟩
        rw [hv] at hcs
        have HRW := hid hrow
        have HML := hid hml
        have HGZ := hid hgz
        have hkb : k ≤ 1000 := by omega
        have HST := hid hst
        clear hz1 hz2 i1 i2 hk hgz hml hv hrow hst
        go_wp2_with fail
        go_roundw
        case rel =>
          refine ⟨j + 1, by omega, int_eq (by omega), HST.out.setCell (p := ⟨gd, k, none⟩) (.inl rfl) _, ?_⟩
          have := HRW.out.set k (by rw [bools_length, HML.out]; exact hkN) (.bool true)
          rw [bools_set] at this
          rw [markT, HGZ.out, Int.toNat_natCast]
          exact this
        case measure => simp [intOf]; omega
      · obtain rfl : j = zs.length := by omega
        go_wp2_with fail
        go_ret
        obtain ⟨r1, r2, r3⟩ := new_late (d' := markL true t.d zs) HR.out HFT.out hst hrow (by rw [markL_len]; exact H3.out)
        rw [HT.out]
        exact ⟨rfl, after_read HP.out.lt s1 ⟨r1, HW.out, grew_lt HF1.out hst.size, q, gs, gd, cd, hv, nv, ns, r2, HPP.out, HG.out, r3⟩⟩
  · have HT : Hid (shadowT t zs = t) := by show _ = _; rw [shadowT, hE, if_neg k0]
    clear h hz hz0 hE
    go_enter Try.func28, Try.ntmps28
    go_wp2_with fail
    refine cu.mono ?_
    rintro e w1 ⟨rfl, s1⟩
    go_wp2_with fail
    go_ret
    rw [HT.out]
    exact ⟨rfl, same_pool HP.out s1⟩

/-- Back. -/
def backT (t : Tk) (zs : List Int) : Tk := if usedE (kindsL t.l t.d) zs = 0 then ⟨setL true t.l (ones zs), t.d, t.r, t.hs⟩ else t
theorem ones_small {zs : List Int} (h : ∀ z ∈ zs, 0 ≤ z ∧ z < 1000000) : ∀ x ∈ ones zs, x.1 ≤ 9223372036854775807 := fun x hx => by
  obtain ⟨z, hz, rfl⟩ := List.mem_map.1 hx
  have := h z hz
  simp only
  omega
set_option maxHeartbeats 2000000 in
theorem back_any (w : World) (p : Nat) (F : Nat → Prop) (t : Tk) (h : IsPool w p F t) (a : Option Addr) (c n : Nat) (zs : List Int) (hn : zs.length = n) (hz : RowAt w noF a (intsOf zs)) (hl : zs.length ≤ 1000000) :
    Calls Try.prog 29 #[.pointer (some ⟨p, 0, none⟩), .slice a n c] w fun e w' => e = .returned (.int .i64 (usedE (kindsL t.l t.d) zs)) ∧ Step F w w' ∧ IsPool w' p (Grew F w w') (backT t zs) := by
  subst hn
  obtain ⟨E, hE⟩ : ∃ E, usedE (kindsL t.l t.d) zs = E := ⟨_, rfl⟩
  have cu := areUsed_any w p F t h a c zs.length zs rfl hz hl E hE
  have HP := hid h
  have HZ := hid hz
  rw [hE]
  by_cases k0 : E = 0
  · subst k0
    obtain ⟨hs0, hwf, _⟩ := h.1.back hE
    have HW := hid hwf
    have HS0 := hid hs0
    have HT : Hid (backT t zs = ⟨setL true t.l (ones zs), t.d, t.r, t.hs⟩) := by show _ = _; rw [backT, if_pos hE]
    have HU : Hid (∀ z ∈ zs, 0 ≤ z ∧ z < 1000000) := fun z hz => by
      have := (used_ok hE).1 z hz
      rw [kindsL_len] at this
      have := h.1.n2
      omega
    clear h hz hE hwf hs0
    go_enter Try.func29, Try.ntmps29
    go_wp2_with fail
    refine cu.mono ?_
    rintro e w1 ⟨rfl, s1⟩
    obtain ⟨hF1, q, gs, gd, cd, hv, nv, ns, hf, hp, hg, hr⟩ := HP.out.2.step s1
    have HR := hid hr
    obtain ⟨h1, h2, _⟩ := hr
    have HFT := hid hf
    have HF1 := hid hF1
    have HPP := hid hp
    have HG := hid hg
    obtain ⟨c0, _⟩ := cells6 h1
    have HC0 : Hid (∀ u, Step noF w1 u → u.cell? ⟨p, 0, none⟩ = some (.pointer (some ⟨q, 0, none⟩))) := fun u hu => hu.after c0
    have cp : Hid (∀ u, Step noF w1 u → Calls Try.prog 47 #[.slice a zs.length c] u fun e w' => ∃ b, e = .returned (.slice (some ⟨b, 0, none⟩) zs.length zs.length) ∧ Step noF u w' ∧ u.heap.size ≤ b ∧ ExtAt w' (some ⟨b, 0, none⟩) (ones zs)) := fun u hu => places_any u a c zs.length zs rfl ((HZ.out.step s1).step hu) hl
    have cg : Hid (∀ u b, Step noF w1 u → ExtAt u (some ⟨b, 0, none⟩) (ones zs) → Calls Try.prog 32 #[.pointer (some ⟨q, 0, none⟩), .slice (some ⟨b, 0, none⟩) zs.length zs.length] u fun e w' => e = .returned (.int .i64 0) ∧ Step (oneF q) u w' ∧ SpFrom u gs w' q (setL true t.l (ones zs))) := fun u b hu hx => by
      have := give_at u q gs t.l (HR.out.2.1.step hu) (some ⟨b, 0, none⟩) zs.length zs.length (ones zs) (ones_length zs) hx (ones_small HU.out) (by rw [ones_length]; omega)
      rw [HS0.out] at this
      exact this
    clear h1 h2 hf hp hg hF1
    go_wp2_with fail
    go_region_with (first | (refine (cp.out _ (by exact (Step.refl _ _).drew)).mono ?_; rintro e w2 ⟨b, rfl, s2, hb2, hx2⟩; have c0' := HC0.out w2 s2.undrew) | (refine (cg.out _ _ (by exact s2.undrew) (by exact hx2)).mono ?_; rintro e w3 ⟨rfl, s3, hsp3⟩))
    all_goals go_wp2_with fail
    all_goals go_ret
    all_goals
      have S12 : Step noF w1 w2 := s2.undrew
      obtain ⟨r1, gs', r2, r3⟩ := new_sp (HR.out.keep HFT.out S12 (fun _ _ x => x)) HFT.out s3 hsp3 (setL_len _ _ _)
      rw [HT.out]
      exact ⟨rfl, after_read HP.out.lt (s1.trans S12) ⟨r1, HW.out, grew_lt (fun k hk => Nat.lt_of_lt_of_le (HF1.out k hk) S12.size) s3.size, q, gs', gd, cd, hv, nv, ns, r2, HPP.out, HG.out, r3⟩⟩
  · have HT : Hid (backT t zs = t) := by show _ = _; rw [backT, hE, if_neg k0]
    clear h hz hE
    go_enter Try.func29, Try.ntmps29
    go_wp2_with fail
    refine cu.mono ?_
    rintro e w1 ⟨rfl, s1⟩
    go_wp2_with fail
    go_ret
    rw [HT.out]
    exact ⟨rfl, same_pool HP.out s1⟩

/-- Cells that are written one after the other. -/
theorem rowIn_cells {g : Nat} {e : TypeId} : ∀ (vs : List Value) (o : Nat) (w : World) (xs : List Value), RowIn w g e xs → o + vs.length ≤ xs.length → ∃ ys, ys.length = xs.length ∧ RowIn (w.setCells g o vs) g e ys ∧ (∀ k, k < o ∨ o + vs.length ≤ k → ys[k]? = xs[k]?) ∧ ∀ j, j < vs.length → ys[o + j]? = vs[j]?
  | [], o, w, xs, h, _ => ⟨xs, rfl, h, fun _ _ => rfl, fun j hj => by simp at hj⟩
  | v :: vs, o, w, xs, h, hl => by
    simp only [List.length_cons] at hl
    obtain ⟨ys, h1, h2, h3, h4⟩ := rowIn_cells vs (o + 1) _ _ (h.set o (by omega) v) (by rw [List.length_set]; omega)
    rw [List.length_set] at h1
    refine ⟨ys, h1, h2, fun k hk => ?_, fun j hj => ?_⟩
    · simp only [List.length_cons] at hk
      rw [h3 k (by omega), List.getElem?_set_ne (by omega)]
    · cases j with
      | zero =>
        rw [Nat.add_zero, h3 o (by omega), List.getElem?_set_self (by omega)]; rfl
      | succ j =>
        simp only [List.length_cons] at hj
        have := h4 j (by omega)
        rw [show o + (j + 1) = o + 1 + j by omega, this]; rfl
theorem step_cells (g : Nat) : ∀ (vs : List Value) (o : Nat) (w0 w : World), Step (oneF g) w0 w → Step (oneF g) w0 (w.setCells g o vs)
  | [], _, _, _, h => h
  | v :: vs, o, w0, w, h => step_cells g vs (o + 1) w0 _ (h.setCell (p := ⟨g, o, none⟩) (.inl rfl) v)
theorem clear_row {w : World} {g : Nat} {d : List Bool} {N : Nat} (h : RowIn w g 4 (bools d)) (hN : d.length = N) : RowIn (w.setCells g 0 (List.replicate N (.bool false))) g 4 (bools (List.replicate N false)) := by
  obtain ⟨ys, h1, h2, _, h4⟩ := rowIn_cells (List.replicate N (.bool false)) 0 w _ h (by rw [bools_length, List.length_replicate]; omega)
  have : ys = bools (List.replicate N false) := by
    rw [bools_length, hN] at h1
    apply List.ext_getElem (by rw [h1, bools_length, List.length_replicate])
    intro k k1 k2
    have := h4 k (by rw [List.length_replicate]; omega)
    rw [Nat.zero_add, List.getElem?_eq_getElem k1, List.getElem?_replicate, if_pos (by omega)] at this
    injection this with this
    rw [this, bools_at]; simp
  rw [← this]; exact h2
theorem zero_bool (w : World) : (zeroValue 4).run Try.prog w = .ok (.bool false) w := by kernel_rfl
/-- Turn. -/
def turnT (t : Tk) : Tk := ⟨setL true t.l (ones (lateL t.d)), List.replicate t.l.length false, t.r, t.hs⟩
set_option maxHeartbeats 2000000 in
theorem pturn_any (w : World) (p : Nat) (F : Nat → Prop) (t : Tk) (h : IsPool w p F t) (L : Nat) (hL : (lateL t.d).length = L) :
    Calls Try.prog 30 #[.pointer (some ⟨p, 0, none⟩)] w fun e w' => e = .returned (.int .i64 L) ∧ Step F w w' ∧ IsPool w' p (Grew F w w') (turnT t) := by
  have cl := late_any w p F t h
  have HP := hid h
  obtain ⟨hs0, hwf, _⟩ := h.1.turn
  have HW : Hid (Wf (turnT t)) := hwf
  have HS0 := hid hs0
  have hlb : L ≤ 512 := by
    have := (lateT_spec t.d t.d.length).2.2
    have h1 := h.1.dl
    have h2 := h.1.n2
    unfold lateL at hL
    omega
  have HU : Hid (∀ z ∈ lateL t.d, 0 ≤ z ∧ z < 1000000) := fun z hz => by
    have := lateL_range t.d z hz
    have h1 := h.1.dl
    have h2 := h.1.n2
    omega
  have HL := hid hL
  clear h hwf hs0 hL
  go_enter Try.func30, Try.ntmps30
  go_wp2_with fail
  refine cl.mono ?_
  rintro e w1 ⟨v, rfl, s1, hnew⟩
  obtain ⟨a, c, rfl, hrow, _⟩ := hnew.row
  rw [HL.out]
  obtain ⟨hF1, q, gs, gd, cd, hv, nv, ns, hf, hp, hg, hr⟩ := HP.out.2.step s1
  have HR := hid hr
  obtain ⟨h1, h2, _⟩ := hr
  have HFT := hid hf
  have HF1 := hid hF1
  have HPP := hid hp
  have HG := hid hg
  have HZ := hid hrow
  obtain ⟨c0, _⟩ := cells6 h1
  have HC0 : Hid (∀ u, Step noF w1 u → u.cell? ⟨p, 0, none⟩ = some (.pointer (some ⟨q, 0, none⟩))) := fun u hu => hu.after c0
  have cp : Hid (∀ u, Step noF w1 u → Calls Try.prog 47 #[.slice a L c] u fun e w' => ∃ b, e = .returned (.slice (some ⟨b, 0, none⟩) L L) ∧ Step noF u w' ∧ u.heap.size ≤ b ∧ ExtAt w' (some ⟨b, 0, none⟩) (ones (lateL t.d))) := fun u hu => places_any u a c L (lateL t.d) HL.out (HZ.out.step hu) (by rw [HL.out]; omega)
  have cg : Hid (∀ u b, Step noF w1 u → ExtAt u (some ⟨b, 0, none⟩) (ones (lateL t.d)) → Calls Try.prog 32 #[.pointer (some ⟨q, 0, none⟩), .slice (some ⟨b, 0, none⟩) L L] u fun e w' => e = .returned (.int .i64 0) ∧ Step (oneF q) u w' ∧ SpFrom u gs w' q (setL true t.l (ones (lateL t.d)))) := fun u b hu hx => by
    have := give_at u q gs t.l (HR.out.2.1.step hu) (some ⟨b, 0, none⟩) L L (ones (lateL t.d)) (by rw [ones_length]; exact HL.out) hx (ones_small HU.out) (by rw [ones_length, HL.out]; omega)
    rw [HS0.out] at this
    exact this
  have HAF : Hid (∀ w2 w3, Step noF w1 w2 → Step (oneF q) w2 w3 → SpFrom w2 gs w3 q (setL true t.l (ones (lateL t.d))) → Step F w w3 ∧ ∃ gs', Foot (Grew F w w3) p q gs' gd hv nv ∧ RawAt w3 p q gs' gd cd hv nv (setL true t.l (ones (lateL t.d))) t.d t.r t.hs (heldL t.hs) ns ∧ (∀ k, Grew F w w3 k → k < w3.heap.size)) := fun w2 w3 S12 s3 hsp3 => by
    obtain ⟨r1, gs', r2, r3⟩ := new_sp (HR.out.keep HFT.out S12 (fun _ _ x => x)) HFT.out s3 hsp3 (setL_len _ _ _)
    refine ⟨(step_noF (s1.trans S12)).trans r1, gs', r2.mono (fun k hk => ?_), r3, grew_lt HP.out.lt (Nat.le_trans (s1.trans S12).size s3.size)⟩
    rcases hk with hk | hk
    · exact .inl hk
    · exact .inr ⟨Nat.le_trans (s1.trans S12).size hk.1, hk.2⟩
  clear h1 h2 hf hp hg hF1 hrow hnew
  go_wp2_with fail
  go_region_with (first | (refine (cp.out _ (by exact (Step.refl _ _).drew)).mono ?_; rintro e w2 ⟨b, rfl, s2, hb2, hx2⟩; have c0' := HC0.out w2 s2.undrew) | (refine (cg.out _ _ (by exact s2.undrew) (by exact hx2)).mono ?_; rintro e w3 ⟨rfl, s3, hsp3⟩))
  all_goals
    obtain ⟨S3, gs', f3, hr3, hlt3⟩ := HAF.out w2 w3 s2.undrew s3 hsp3
    have HS3 := hid S3
    have HF3 := hid f3
    have HR3 := hid hr3
    have HLT := hid hlt3
    obtain ⟨h1, _, h3, _, h5, _⟩ := hr3
    obtain ⟨_, c1', _⟩ := cells6 h1
    rw [setL_len] at c1' h3
    have H3 := hid h3
    have H5 := hid h5
    have hn1 := HP.out.1.n1
    obtain ⟨N, hN⟩ : ∃ N, t.l.length = N := ⟨_, rfl⟩
    have HN := hid hN
    rw [hN] at c1' hn1
    have hcl : ∀ ty, (Builtin.clear_ #[51] ty #[.slice (some ⟨gd, 0, none⟩) N cd]).run Try.prog w3 = .ok (.tuple #[]) (w3.setCells gd 0 (List.replicate N (.bool false))) :=
      fun ty => Lib.run_clear_slice w3 51 4 ty (.bool false) Try.underlying51 zero_bool rfl rfl gd 0 N cd (by omega) (fun j hj => by rw [Nat.zero_add, h5.cell j (by rw [bools_length, h3, hN]; exact hj)]; rfl) (fun j hj => by rw [Nat.zero_add]; exact h5.f j)
    clear S3 f3 hlt3 h1 h3 h5 hN hsp3 s3
    go_wp2_with (simp only [hcl])
    go_ret
    have sC := step_cells gd (List.replicate N (.bool false)) 0 w3 w3 (Step.refl _ _)
    have rC := clear_row H5.out (show t.d.length = N by rw [H3.out, HN.out])
    obtain ⟨x1, x2, x3⟩ := new_late (d' := List.replicate N false) HR3.out HF3.out sC rC (by rw [List.length_replicate, setL_len, HN.out])
    refine ⟨rfl, after_pool HW.out HP.out.lt HS3.out x1 ?_⟩
    refine ⟨grew_lt HLT.out sC.size, q, gs', gd, cd, hv, nv, ns, x2, HPP.out, HG.out, ?_⟩
    unfold turnT
    simp only
    rw [HN.out]
    exact x3
end Go.Proofs.Ytmijbplhmjledaa
