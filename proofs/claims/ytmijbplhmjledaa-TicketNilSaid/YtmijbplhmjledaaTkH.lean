/-
  What Draw, Use do.
-/
import Derived.Test.YtmijbplhmjledaaTkG
namespace Go.Proofs.Ytmijbplhmjledaa
open Go.RowKit
set_option linter.unusedVariables false
set_option linter.unusedSimpArgs false

/-- Draw. -/
def drawE (t : Tk) (z : Int) : Int := if hasB t.hs z then (if t.hs.getD (idx z) 0 = 0 then 11 else 0) else 7
def drawI (t : Tk) (z : Int) : Int := if drawE t z = 0 then (takeX t.l 1).1 else 0
def drawT (t : Tk) (z : Int) : Tk := if drawE t z = 0 then ⟨takeL t.l 1, t.d, t.r, t.hs.set (idx z) (t.hs.getD (idx z) 0 - 1)⟩ else t
theorem draw_bad {t : Tk} {z e : Int} (h : drawE t z = e) (he : e ≠ 0) : drawE t z = e ∧ drawI t z = 0 ∧ drawT t z = t :=
  ⟨h, by rw [drawI, if_neg (by rw [h]; exact he)], by rw [drawT, if_neg (by rw [h]; exact he)]⟩
theorem draw_yes {t : Tk} (hw : Wf t) {i : Nat} (hi : i < t.hs.length) (hy : 1 ≤ t.hs.getD i 0) : ∃ k : Nat, k < t.l.length ∧ t.l.getD k false = true ∧ takeX t.l 1 = ((k : Int), 1) ∧ takeE t.l 1 = 0 ∧ takeL t.l 1 = t.l.set k false ∧ Wf ⟨t.l.set k false, t.d, t.r, t.hs.set i (t.hs.getD i 0 - 1)⟩ ∧
    drawE t ((i : Int) + 1) = 0 ∧ drawI t ((i : Int) + 1) = k ∧ drawT t ((i : Int) + 1) = ⟨t.l.set k false, t.d, t.r, t.hs.set i (t.hs.getD i 0 - 1)⟩ := by
  obtain ⟨k, k1, k2, k3, k4, k5, _⟩ := draw_ok (l := t.l) (by have := hw.free1 hi; omega)
  obtain ⟨e1, e2⟩ := hasB_of (hs := t.hs) (z := (i : Int) + 1) (i := i) ⟨rfl, hi, by omega⟩
  have e : drawE t ((i : Int) + 1) = 0 := by rw [drawE, e1, e2, if_pos rfl, if_neg (by omega)]
  exact ⟨k, k1, k2, k3, k4, k5, hw.draw hi hy k1 k2, e, by rw [drawI, if_pos e, k3], by rw [drawT, if_pos e, e2, k5]⟩
set_option maxHeartbeats 2000000 in
theorem draw_any (w : World) (p : Nat) (F : Nat → Prop) (t : Tk) (h : IsPool w p F t) (z : Int) (hl : t.hs.length ≤ 700000) :
    Calls Try.prog 24 #[.pointer (some ⟨p, 0, none⟩), .int .i64 z] w fun e w' => e = .returned (.tuple #[.int .i64 (drawI t z), .int .i64 (drawE t z)]) ∧ Step F w w' ∧ IsPool w' p (Grew F w w') (drawT t z) := by
  obtain ⟨b1, b2, b3, b4, b5, b6⟩ := h.1.held
  have HP := hid h
  cases hb : hasB t.hs z
  · have co := of_none w p F t h.2 z (hasB_no h.1.hm hb) (by omega)
    have hE := hid (draw_bad (t := t) (z := z) (e := 7) (by rw [drawE, hb]; rfl) (by decide))
    clear h b1 b2 b3 b4 b5 b6 hb
    go_enter Try.func24, Try.ntmps24
    go_wp2_with fail
    refine co.mono ?_
    rintro e w1 ⟨rfl, s1⟩
    go_wp2_with fail
    go_ret2
    rw [hE.out.1, hE.out.2.1, hE.out.2.2]
    exact ⟨rfl, same_pool HP.out s1⟩
  · obtain ⟨hz, hi, hy⟩ := hasB_yes hb
    have hE0 : t.hs.getD (idx z) 0 = 0 → drawE t z = 11 := fun e => by rw [drawE, hb, if_pos e]; rfl
    generalize idx z = i at hz hi hy hE0
    subst hz
    have hy5 := h.1.has hi
    have co := of_some w p F t h.2 _ i ⟨rfl, hi, hy⟩ (by omega)
    by_cases k0 : t.hs.getD i 0 = 0
    · have hE := hid (draw_bad (hE0 k0) (by decide))
      rw [k0] at co
      clear h b1 b2 b3 b4 b5 b6 hb k0 hE0 hy hy5
      go_enter Try.func24, Try.ntmps24
      go_wp2_with fail
      refine co.mono ?_
      rintro e w1 ⟨rfl, s1⟩
      go_wp2_with fail
      go_ret2
      rw [hE.out.1, hE.out.2.1, hE.out.2.2]
      exact ⟨rfl, same_pool HP.out s1⟩
    · obtain ⟨k, k1, k2, k3, k4, k5, k6, k7, k8, k9⟩ := draw_yes h.1 hi (by omega)
      have hE := hid (And.intro k6 (And.intro k7 (And.intro k8 k9)))
      have HI := hid hi
      have B2 := hid b2
      obtain ⟨y, hyy⟩ : ∃ y, t.hs.getD i 0 = y := ⟨_, rfl⟩
      rw [hyy] at co hy hy5 k0 hE
      have HYY := hid hyy
      have hkl : k ≤ 512 := by have := h.1.n2; omega
      have HK := hid (show k < t.l.length ∧ takeX t.l 1 = ((k : Int), 1) ∧ takeE t.l 1 = 0 ∧ takeL t.l 1 = t.l.set k false from ⟨k1, k3, k4, k5⟩)
      clear h b1 b2 b3 b4 b5 b6 hb hE0 hyy k1 k2 k3 k4 k5 k6 k7 k8 k9
      go_enter Try.func24, Try.ntmps24
      go_wp2_with fail
      refine co.mono ?_
      rintro e w1 ⟨rfl, s1⟩
      obtain ⟨hF1, q, gs, gd, c, hv, nv, ns, hf, hp, hg, hr⟩ := HP.out.2.step s1
      have HR := hid hr
      have HF1 := hid hF1
      have HFT := hid hf
      have HPP := hid hp
      have HG := hid hg
      obtain ⟨h1, h2, _⟩ := hr
      obtain ⟨c0, _⟩ := cells6 h1
      have ct := take_at w1 q gs t.l h2 1 (by decide)
      rw [HK.out.2.1, HK.out.2.2.1, HK.out.2.2.2] at ct
      clear h1 h2 hf hp hg hF1
      go_wp2_with fail
      refine ct.mono ?_
      rintro e w2 ⟨rfl, s2, hsp2⟩
      obtain ⟨r1, gs', r2, r3⟩ := new_sp HR.out HFT.out s2 hsp2 (by rw [List.length_set])
      have hm2 : PoolM w2 p (Grew F w1 w2) ⟨t.l.set k false, t.d, t.r, t.hs⟩ := ⟨grew_lt HF1.out s2.size, q, gs', gd, c, hv, nv, ns, r2, HPP.out, HG.out, r3⟩
      have sA : Step noF w2 (w2.alloc (.cells #[.int .i64 k, .int .i64 1] 53)) := (Step.refl _ _).alloc _
      have cs := set_any _ p _ _ (hm2.step sA) i HI.out (by simp only; omega) (by simp only; rw [HYY.out]; omega) (y - 1) (by omega) (by simp only; have := B2.out; omega) _ rfl
      have HM2 := hid hm2
      have HR1 := hid r1
      clear hm2 r1 r2 r3 ct hsp2 s2
      go_wp2_with fail
      refine cs.mono ?_
      rintro e w3 ⟨rfl, s3, h3⟩
      have hblk : w3.heap[w2.heap.size]? = some (.cells #[.int .i64 k, .int .i64 1] 53 (0, 0)) :=
        (s3.block w2.heap.size (by simp) (fun e => by have := HM2.out.1 _ e; omega)).trans (block_alloc_new _ _)
      have cK : w3.cell? ⟨w2.heap.size, 0, none⟩ = some (.int .i64 k) := cell_of_block hblk 0
      have H3 := hid h3
      have S3 := hid s3
      clear hblk h3 s3
      go_wp2_with fail
      go_ret2
      obtain ⟨e1, e2, e3, e4⟩ := hE.out
      rw [e2, e3, e4]
      refine ⟨rfl, ?_⟩
      have hF1' : ∀ k, F k → k < w1.heap.size := fun k hk => Nat.lt_of_lt_of_le (HP.out.lt k hk) s1.size
      have x := after_read (F := Grew F w1 w2) HM2.out.1 sA ⟨S3.out, e1, H3.out⟩
      exact after_read HP.out.lt s1 (after_pool e1 hF1' HR1.out x.1 x.2.2)

/-- Use. -/
def useE (t : Tk) (xs : List (Int × Int)) : Int := if setE false t.l xs = 0 then (if freeL (setL false t.l xs) - heldL t.hs - t.r < 0 then 9 else 0) else setE false t.l xs
def useT (t : Tk) (xs : List (Int × Int)) : Tk := if useE t xs = 0 then ⟨setL false t.l xs, t.d, t.r, t.hs⟩ else t
set_option maxHeartbeats 2000000 in
theorem use_any (w : World) (p : Nat) (F : Nat → Prop) (t : Tk) (h : IsPool w p F t) (a : Option Addr) (cx n : Nat) (xs : List (Int × Int)) (hn : xs.length = n) (hx : ExtAt w a xs) (hxF : xs ≠ [] → ∀ b off, a = some ⟨b, off, none⟩ → ¬ F b) (hb : ∀ x ∈ xs, x.1 ≤ 9223372036854775807) (hxl : xs.length ≤ 9223372036854775807) :
    Calls Try.prog 25 #[.pointer (some ⟨p, 0, none⟩), .slice a n cx] w fun e w' => e = .returned (.int .i64 (useE t xs)) ∧ Step F w w' ∧ IsPool w' p (Grew F w w') (useT t xs) := by
  obtain ⟨b1, b2, b3, b4, b5, b6⟩ := h.1.held
  have HP := hid h
  obtain ⟨hF1, q, gs, gd, c, hv, nv, ns, hf, hp, hg, hr⟩ := h.2
  have HR := hid hr
  obtain ⟨h1, h2, _⟩ := hr
  obtain ⟨c0, _⟩ := cells6 h1
  have ct := takeAt_at w q gs t.l h2 a cx n xs hn hx hb hxl
  have HF1 := hid hF1
  have HFT := hid hf
  have HPP := hid hp
  have HG := hid hg
  have HX := hid (And.intro hn (And.intro hx (And.intro hxF (And.intro hb hxl))))
  have hq : ∀ w1, Step (oneF q) w w1 → ExtAt w1 a xs := fun w1 s1 => by
    by_cases h0 : xs = []
    · exact .inl h0
    · exact hx.keep s1 (fun b off e _ eq => hxF h0 b off e (by unfold oneF at eq; rw [eq]; exact hf.2.1))
  have HQ := hid hq
  clear hn hx hxF hb hxl h1 h2 hf hp hg hF1 h hq
  by_cases k0 : setE false t.l xs = 0
  · rw [k0] at ct
    have hlen := setL_len false t.l xs
    have HL := hid hlen
    obtain ⟨L, hL⟩ : ∃ L, freeL (setL false t.l xs) - heldL t.hs - t.r = L := ⟨_, rfl⟩
    by_cases k1 : L < 0
    · have hE : Hid (useE t xs = 9 ∧ useT t xs = t) := by
        have e : useE t xs = 9 := by rw [useE, if_pos k0, hL, if_pos k1]
        exact ⟨e, by rw [useT, e]; rfl⟩
      have HBK := hid (take_back k0)
      have HLL := hid hL
      have B23 := hid (And.intro b2 b3)
      clear k0 b1 b2 b3 b4 b5 b6 hL hlen
      go_enter Try.func25, Try.ntmps25
      go_wp2_with fail
      refine ct.mono ?_
      rintro e w1 ⟨rfl, s1, hsp1⟩
      obtain ⟨r1, gs1, r2, r3⟩ := new_sp HR.out HFT.out s1 hsp1 HL.out
      have hm1 : PoolM w1 p (Grew F w w1) ⟨setL false t.l xs, t.d, t.r, t.hs⟩ := ⟨grew_lt HF1.out s1.size, q, gs1, gd, c, hv, nv, ns, r2, HPP.out, HG.out, r3⟩
      have cl := left_any w1 p _ _ hm1 ⟨HP.out.1.r0, by simp only; have := B23.out; omega⟩ (by simp only; have := B23.out; omega) L HLL.out
      have hx1 := HQ.out w1 s1
      have HX1 := hid hx1
      have HR1 := hid r1
      have HR2 := hid r2
      have HR3 := hid r3
      clear hm1 r1 r2 r3 hx1 hsp1
      go_wp2_with fail
      refine cl.mono ?_
      rintro e w2 ⟨rfl, s2⟩
      have hr2 := HR3.out.keep HR2.out s2 (fun _ _ x => x)
      have HRR := hid hr2
      obtain ⟨c0', _⟩ := cells6 hr2.1
      have cg := give_at w2 q gs1 (setL false t.l xs) hr2.2.1 a cx n xs HX.out.1 (HX1.out.step s2) HX.out.2.2.2.1 HX.out.2.2.2.2
      rw [HBK.out.1, HBK.out.2] at cg
      clear hr2
      go_wp2_with fail
      refine cg.mono ?_
      rintro e w3 ⟨rfl, s3, hsp3⟩
      go_wp2_with fail
      go_ret
      obtain ⟨r1, gs3, r2, r3⟩ := new_sp HRR.out HR2.out s3 hsp3 HL.out.symm
      rw [hE.out.1, hE.out.2]
      have hF2 : ∀ k, Grew F w w1 k → k < w2.heap.size := fun k hk => Nat.lt_of_lt_of_le (grew_lt HF1.out s1.size k hk) s2.size
      have x := after_read (F := Grew F w w1) (grew_lt HF1.out s1.size) s2 ⟨r1, HP.out.1, grew_lt hF2 s3.size, q, gs3, gd, c, hv, nv, ns, r2, HPP.out, HG.out, r3⟩
      exact ⟨rfl, after_pool HP.out.1 HF1.out HR1.out x.1 x.2.2⟩
    · have hE : Hid (useE t xs = 0 ∧ useT t xs = ⟨setL false t.l xs, t.d, t.r, t.hs⟩) := by
        have e : useE t xs = 0 := by rw [useE, if_pos k0, hL, if_neg k1]
        exact ⟨e, by rw [useT, if_pos e]⟩
      have HLL := hid hL
      have HWF := hid (HP.out.1.use xs (by omega))
      have B23 := hid (And.intro b2 b3)
      clear k0 b1 b2 b3 b4 b5 b6 hL hlen
      go_enter Try.func25, Try.ntmps25
      go_wp2_with fail
      refine ct.mono ?_
      rintro e w1 ⟨rfl, s1, hsp1⟩
      obtain ⟨r1, gs1, r2, r3⟩ := new_sp HR.out HFT.out s1 hsp1 HL.out
      have hm1 : PoolM w1 p (Grew F w w1) ⟨setL false t.l xs, t.d, t.r, t.hs⟩ := ⟨grew_lt HF1.out s1.size, q, gs1, gd, c, hv, nv, ns, r2, HPP.out, HG.out, r3⟩
      have cl := left_any w1 p _ _ hm1 ⟨HP.out.1.r0, by simp only; have := B23.out; omega⟩ (by simp only; have := B23.out; omega) L HLL.out
      have HM1 := hid hm1
      have HR1 := hid r1
      clear hm1 r1 r2 r3 hsp1
      go_wp2_with fail
      refine cl.mono ?_
      rintro e w2 ⟨rfl, s2⟩
      go_wp2_with fail
      go_ret
      rw [hE.out.1, hE.out.2]
      have x := same_pool (F := Grew F w w1) ⟨HWF.out, HM1.out⟩ s2
      exact ⟨rfl, after_pool HWF.out HF1.out HR1.out x.1 x.2.2⟩
  · have hbad := set_bad k0
    rw [hbad] at ct
    have hE : Hid (useE t xs = setE false t.l xs ∧ useT t xs = t) := by
      have e : useE t xs = setE false t.l xs := by rw [useE, if_neg k0]
      exact ⟨e, by rw [useT, e, if_neg k0]⟩
    obtain ⟨E, hEE⟩ : ∃ E, setE false t.l xs = E := ⟨_, rfl⟩
    rw [hEE] at ct k0 hE
    clear b1 b2 b3 b4 b5 b6 hbad hEE
    go_enter Try.func25, Try.ntmps25
    go_wp2_with fail
    refine ct.mono ?_
    rintro e w1 ⟨rfl, s1, hsp1⟩
    go_wp2_with fail
    go_ret
    obtain ⟨r1, gs1, r2, r3⟩ := new_sp HR.out HFT.out s1 hsp1 rfl
    rw [hE.out.1, hE.out.2]
    exact ⟨rfl, r1, HP.out.1, grew_lt HF1.out s1.size, q, gs1, gd, c, hv, nv, ns, r2, HPP.out, HG.out, r3⟩
end Go.Proofs.Ytmijbplhmjledaa
