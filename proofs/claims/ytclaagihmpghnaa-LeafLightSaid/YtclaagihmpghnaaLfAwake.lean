/-
  awake, great: what every law of layer 9 asks first.
-/
import Derived.Test.YtclaagihmpghnaaLfN
namespace Go.Proofs.Ytclaagihmpghnaa
open Go.RowKit Go.Sort
set_option linter.unusedVariables false
set_option linter.unusedSimpArgs false
set_option maxRecDepth 20000

def awL : List Rg := [⟨[97], [49]⟩, ⟨[98], [50]⟩]
def awM : List Rg := [⟨[98], [50]⟩, ⟨[99], [51]⟩]
theorem awL_rising : Rising awL := by
  unfold Rising awL
  simp
  decide
theorem awM_rising : Rising awM := by
  unfold Rising awM
  simp
  decide
theorem awL_ok : ∀ x ∈ awL, itOk x = true := by decide
theorem awM_ok : ∀ x ∈ awM, itOk x = true := by decide
theorem aw_of (w : World) : Calls Try.prog 11 #[.slice (some ⟨w.heap.size, 0, none⟩) 2 2] (w.alloc (.cells #[.string ⟨#[98]⟩, .string ⟨#[50]⟩, .string ⟨#[97]⟩, .string ⟨#[49]⟩] 46)) fun e w' => ∃ p, e = .returned (.tuple #[.pointer (some ⟨p, 0, none⟩), .int .i64 0]) ∧ Hid (LeafAt w' p awL) ∧ Hid (Step noF w w') := by
  have hr : RgsAt (w.alloc (.cells #[.string ⟨#[98]⟩, .string ⟨#[50]⟩, .string ⟨#[97]⟩, .string ⟨#[49]⟩] 46)) (some ⟨w.heap.size, 0, none⟩) [⟨[98], [50]⟩, ⟨[97], [49]⟩] := rgsAt_block (block_alloc_new w _) (rest := []) rfl
  refine (leafOf_any [⟨[98], [50]⟩, ⟨[97], [49]⟩] (by simp) _ 2 _ hr (by intro h; cases h)).mono ?_
  rintro e w' ⟨s, h⟩
  have e0 : ofE [⟨[98], [50]⟩, ⟨[97], [49]⟩] = 0 := by decide
  rcases h with ⟨h, _⟩ | ⟨_, p, rfl, _, l⟩
  · exact absurd e0 h
  · have es : sortL [⟨[98], [50]⟩, ⟨[97], [49]⟩] = awL := by rfl
    rw [es] at l
    exact ⟨p, rfl, l, ((Step.refl noF w).alloc _).trans s⟩
theorem aw_twin (w : World) : Calls Try.prog 11 #[.slice (some ⟨w.heap.size, 0, none⟩) 2 2] (w.alloc (.cells #[.string ⟨#[97]⟩, .string ⟨#[49]⟩, .string ⟨#[97]⟩, .string ⟨#[50]⟩] 46)) fun e w' => e = .returned (.tuple #[.pointer none, .int .i64 11]) ∧ Hid (Step noF w w') := by
  have hr : RgsAt (w.alloc (.cells #[.string ⟨#[97]⟩, .string ⟨#[49]⟩, .string ⟨#[97]⟩, .string ⟨#[50]⟩] 46)) (some ⟨w.heap.size, 0, none⟩) [⟨[97], [49]⟩, ⟨[97], [50]⟩] := rgsAt_block (block_alloc_new w _) (rest := []) rfl
  refine (leafOf_any [⟨[97], [49]⟩, ⟨[97], [50]⟩] (by simp) _ 2 _ hr (by intro h; cases h)).mono ?_
  rintro e w' ⟨s, h⟩
  have e0 : ofE [⟨[97], [49]⟩, ⟨[97], [50]⟩] = 11 := by decide
  rcases h with ⟨_, rfl⟩ | ⟨h, _⟩
  · rw [e0]
    exact ⟨rfl, ((Step.refl noF w).alloc _).trans s⟩
  · rw [e0] at h
    cases h
theorem aw_with (p : Nat) (w : World) (h : LeafAt w p awL) : Calls Try.prog 20 #[.pointer (some ⟨p, 0, none⟩), .slice (some ⟨w.heap.size, 0, none⟩) 2 2] (w.alloc (.cells #[.int .i64 2, .string ⟨#[97]⟩, .string ⟨#[]⟩, .int .i64 1, .string ⟨#[99]⟩, .string ⟨#[51]⟩] 58)) fun e w' => ∃ q, e = .returned (.tuple #[.pointer (some ⟨q, 0, none⟩), .int .i64 0]) ∧ Hid (LeafAt w' q awM) ∧ Hid (Step noF w w') := by
  have st := (Step.refl noF w).alloc (.cells #[.int .i64 2, .string ⟨#[97]⟩, .string ⟨#[]⟩, .int .i64 1, .string ⟨#[99]⟩, .string ⟨#[51]⟩] 58)
  have hb := block_alloc_new w (.cells #[.int .i64 2, .string ⟨#[97]⟩, .string ⟨#[]⟩, .int .i64 1, .string ⟨#[99]⟩, .string ⟨#[51]⟩] 58)
  have hr : MsgsAt (w.alloc (.cells #[.int .i64 2, .string ⟨#[97]⟩, .string ⟨#[]⟩, .int .i64 1, .string ⟨#[99]⟩, .string ⟨#[51]⟩] 58)) noF (some ⟨w.heap.size, 0, none⟩) [⟨2, [97], []⟩, ⟨1, [99], [51]⟩] := by
    refine .inr ⟨w.heap.size, 0, rfl, fun h => h, lt_of_block hb, fun j hj => ?_⟩
    have : j = 0 ∨ j = 1 := by simp at hj; omega
    rcases this with rfl | rfl
    · exact ⟨by rw [cell_of_block hb]; rfl, by rw [cell_of_block hb]; rfl, by rw [cell_of_block hb]; rfl⟩
    · exact ⟨by rw [cell_of_block hb]; rfl, by rw [cell_of_block hb]; rfl, by rw [cell_of_block hb]; rfl⟩
  refine (with_any p awL awL_rising awL_ok (by simp [awL]) [⟨2, [97], []⟩, ⟨1, [99], [51]⟩] (by intro m hm; simp at hm; rcases hm with rfl | rfl <;> exact le_max (by simp)) (by simp) _ 2 (by intro h; cases h) _ (h.step st) hr).mono ?_
  rintro e w' ⟨hp, s⟩
  rcases hp with ⟨h0, _⟩ | ⟨_, q, rfl, _, l⟩
  · exact absurd h0 (by decide)
  · have es : withL [⟨2, [97], []⟩, ⟨1, [99], [51]⟩] awL = awM := by rfl
    rw [es] at l
    exact ⟨q, rfl, l, st.trans s⟩
theorem aw_parts (q : Nat) (w : World) (h : LeafAt w q awM) : Calls Try.prog 25 #[.pointer (some ⟨q, 0, none⟩)] w fun e w' => ∃ a c, e = .returned (.slice a 1 c) ∧ Hid (Step noF w w') := by
  refine (parts_small q awM ⟨by simp [awM], fun x hx => by have := ok_len awM_ok x hx; omega⟩ (by decide) w h).mono ?_
  rintro e w' ⟨v, rfl, o, _, s⟩
  obtain ⟨a, c, rfl⟩ := owns_form o
  exact ⟨a, c, rfl, s⟩

set_option maxHeartbeats 4000000 in
theorem awake_any (w : World) : Calls Try.prog 8 #[] w fun e w' => e = .returned (.bool true) ∧ Step noF w w' := by
  have i1 : ∀ w, Calls Try.prog 32 #[.string ⟨#[98]⟩, .string ⟨#[50]⟩] w fun e w' => e = .returned (.agg #[.string ⟨#[98]⟩, .string ⟨#[50]⟩]) ∧ Step noF w w' := fun w => item_any [98] [50] w
  have i2 : ∀ w, Calls Try.prog 32 #[.string ⟨#[97]⟩, .string ⟨#[49]⟩] w fun e w' => e = .returned (.agg #[.string ⟨#[97]⟩, .string ⟨#[49]⟩]) ∧ Step noF w w' := fun w => item_any [97] [49] w
  have i3 : ∀ w, Calls Try.prog 32 #[.string ⟨#[97]⟩, .string ⟨#[50]⟩] w fun e w' => e = .returned (.agg #[.string ⟨#[97]⟩, .string ⟨#[50]⟩]) ∧ Step noF w w' := fun w => item_any [97] [50] w
  have i4 : ∀ w, Calls Try.prog 33 #[.string ⟨#[97]⟩] w fun e w' => e = .returned (.agg #[.int .i64 2, .string ⟨#[97]⟩, .string ⟨#[]⟩]) ∧ Step noF w w' := fun w => ofDel_any [97] w
  have i5 : ∀ w, Calls Try.prog 34 #[.string ⟨#[99]⟩, .string ⟨#[51]⟩] w fun e w' => e = .returned (.agg #[.int .i64 1, .string ⟨#[99]⟩, .string ⟨#[51]⟩]) ∧ Step noF w w' := fun w => ofPut_any [99] [51] w
  have f1 : ∀ q w, LeafAt w q awM → Calls Try.prog 22 #[.pointer (some ⟨q, 0, none⟩), .string ⟨#[99]⟩] w fun e w' => e = .returned (.tuple #[.string ⟨#[51]⟩, .bool true]) ∧ Step noF w w' := fun q w h => find_any q awM (by simp [awM]) awM_rising [99] w h
  have f2 : ∀ q w, LeafAt w q awM → Calls Try.prog 22 #[.pointer (some ⟨q, 0, none⟩), .string ⟨#[97]⟩] w fun e w' => e = .returned (.tuple #[.string ⟨#[]⟩, .bool false]) ∧ Step noF w w' := fun q w h => find_any q awM (by simp [awM]) awM_rising [97] w h
  have l1 : ∀ p w, LeafAt w p awL → Calls Try.prog 15 #[.pointer (some ⟨p, 0, none⟩)] w fun e w' => e = .returned (.int .i64 2) ∧ w = w' := fun p w h => len_any p awL w h
  have l2 : ∀ p w, LeafAt w p awL → Calls Try.prog 16 #[.pointer (some ⟨p, 0, none⟩)] w fun e w' => e = .returned (.int .i64 8) ∧ Step noF w w' := fun p w h => weight_anyL p awL ⟨by simp [awL], fun x hx => by have := ok_len awL_ok x hx; omega⟩ w h
  have l3 : ∀ p w, LeafAt w p awL → Calls Try.prog 23 #[.pointer (some ⟨p, 0, none⟩)] w fun e w' => e = .returned (.string ⟨#[97]⟩) ∧ w = w' := fun p w h => low_any p awL w h
  have l4 : ∀ q w, LeafAt w q awM → Calls Try.prog 23 #[.pointer (some ⟨q, 0, none⟩)] w fun e w' => e = .returned (.string ⟨#[98]⟩) ∧ w = w' := fun q w h => low_any q awM w h
  go_enter Try.func8, Try.ntmps8
  go_wp2_with fail
  refine (i1 _).mono ?_
  rintro e w1 ⟨rfl, s1⟩
  go_wp2_with fail
  refine (i2 _).mono ?_
  rintro e w2 ⟨rfl, s2⟩
  have S2 := hid (s1.trans s2)
  clear s1 s2
  go_wp2_with fail
  refine (aw_of w2).mono ?_
  rintro e w3 ⟨p, rfl, L3, s3⟩
  have S3 := hid (S2.out.trans s3.out)
  clear s3
  go_wp2_with fail
  refine (i4 _).mono ?_
  rintro e w4 ⟨rfl, s4⟩
  go_wp2_with fail
  refine (i5 _).mono ?_
  rintro e w5 ⟨rfl, s5⟩
  have S35 := hid (s4.trans s5)
  clear s4 s5
  go_wp2_with fail
  refine (aw_with p w5 (L3.out.step S35.out)).mono ?_
  rintro e w6 ⟨q, rfl, L6, s6⟩
  have S36 := hid (S35.out.trans s6.out)
  clear s6
  go_wp2_with fail
  refine (f1 q _ L6.out).mono ?_
  rintro e w7 ⟨rfl, s7⟩
  have S67 := hid s7
  clear s7
  go_wp2_with fail
  refine (f2 q _ (L6.out.step S67.out)).mono ?_
  rintro e w8 ⟨rfl, s8⟩
  have S68 := hid (S67.out.trans s8)
  clear s8
  go_wp2_with fail
  refine (i2 _).mono ?_
  rintro e w9 ⟨rfl, s9⟩
  go_wp2_with fail
  refine (i3 _).mono ?_
  rintro e wa ⟨rfl, sa⟩
  have S6a := hid (S68.out.trans (s9.trans sa))
  clear s9 sa
  go_wp2_with fail
  refine (aw_twin wa).mono ?_
  rintro e wb ⟨rfl, sb⟩
  have S6b := hid (S6a.out.trans sb.out)
  clear sb
  have S3b := hid (S36.out.trans S6b.out)
  go_wp2_with fail
  refine (l1 p _ (L3.out.step S3b.out)).mono ?_
  rintro e wc ⟨rfl, rfl⟩
  go_wp2_with fail
  refine (l2 p _ (L3.out.step S3b.out)).mono ?_
  rintro e wc ⟨rfl, sc⟩
  have SC := hid sc
  clear sc
  go_wp2_with fail
  refine (l3 p _ (L3.out.step (S3b.out.trans SC.out))).mono ?_
  rintro e wd ⟨rfl, rfl⟩
  go_wp2_with fail
  refine (l4 q _ (L6.out.step (S6b.out.trans SC.out))).mono ?_
  rintro e wd ⟨rfl, rfl⟩
  go_wp2_with fail
  refine (aw_parts q _ (L6.out.step (S6b.out.trans SC.out))).mono ?_
  rintro e wf ⟨pa, pc, rfl, sf⟩
  go_wp2_with fail
  go_ret
  exact ⟨rfl, S3.out.trans (S3b.out.trans (SC.out.trans sf.out))⟩

set_option maxHeartbeats 2000000 in
/-- great: true, or few items of no great length. -/
theorem great_any (xs : List Rg) (hx : xs.length ≤ maxLen) (hq : ∀ x ∈ xs, x.lo.length ≤ maxLen ∧ x.hi.length ≤ maxLen) (a : Option Addr) (c : Nat) (w : World) (h : RgsAt w a xs) :
    Calls Try.prog 9 #[.slice a xs.length c] w fun e w' => (e = .returned (.bool true) ∨ (e = .returned (.bool false) ∧ xs.length ≤ 60 ∧ ∀ x ∈ xs, x.lo.length ≤ 512 ∧ x.hi.length ≤ 512)) ∧ w = w' := by
  have hz := str_size
  have HR := hid h
  have HQ := hid hq
  unfold maxLen at hx
  clear h hq
  go_enter Try.func9, Try.ntmps9
  go_wp2_with fail
  go_loopg [3] 61 (fun kx s3 wr => ∃ (j : Nat), s3 = .int .i64 j ∧ j ≤ xs.length ∧ j ≤ 61 ∧ 61 - j ≤ kx ∧ wr = w ∧ Hid (∀ i (h : i < xs.length), i < j → xs[i].lo.length ≤ 512 ∧ xs[i].hi.length ≤ 512))
  case atStart => exact ⟨0, rfl, by omega, by omega, by omega, rfl, fun i _ h => absurd h (by omega)⟩
  case round =>
    obtain ⟨j, rfl, hj, hj2, hkx, rfl, HI⟩ := hrel
    by_cases hjl : j < xs.length
    · have hjz : (j : Int) < (xs.length : Int) := by omega
      by_cases hj61 : j < 61
      · have hjz2 : (j : Int) < 61 := by omega
        obtain ⟨g, off, rfl, c0, c1⟩ := HR.out.at j hjl
        have hb := HQ.out xs[j] (List.getElem_mem hjl)
        unfold maxLen at hb
        have HN : Hid (xs[j].lo.length ≤ 512 → xs[j].hi.length ≤ 512 → ∀ i (h : i < xs.length), i < j + 1 → xs[i].lo.length ≤ 512 ∧ xs[i].hi.length ≤ 512) := fun h1 h2 i hi hij => by
          rcases Nat.lt_or_eq_of_le (Nat.le_of_lt_succ hij) with e | e
          · exact HI.out i hi e
          · subst e; exact ⟨h1, h2⟩
        obtain ⟨⟨x, y⟩, hm⟩ : ∃ m, xs[j] = m := ⟨_, rfl⟩
        rw [hm] at c0 c1 HN hb
        clear hm
        simp only at hb
        obtain ⟨hb1, hb2⟩ := hb
        by_cases g1 : 512 < x.length
        · have gz1 : (512 : Int) < (x.length : Int) := by omega
          go_wp2_with fail
          go_ret
          exact ⟨.inl rfl, rfl⟩
        · have gz1 : ¬ (512 : Int) < (x.length : Int) := by omega
          by_cases g2 : 512 < y.length
          · have gz2 : (512 : Int) < (y.length : Int) := by omega
            go_wp2_with fail
            go_ret
            exact ⟨.inl rfl, rfl⟩
          · have gz2 : ¬ (512 : Int) < (y.length : Int) := by omega
            have HN2 := hid (HN.out (by simp; omega) (by simp; omega))
            go_wp2_with fail
            go_roundg (61 - (j + 1))
            case measure => omega
            case rel => exact ⟨j + 1, by simp, by omega, by omega, Nat.le_refl _, rfl, HN2⟩
      · have hjz2 : ¬ (j : Int) < 61 := by omega
        have hgr : (60 : Int) < (xs.length : Int) := by omega
        go_wp2_with fail
        go_ret
        exact ⟨.inl rfl, rfl⟩
    · have hjz : ¬ (j : Int) < (xs.length : Int) := by omega
      obtain rfl : j = xs.length := by omega
      by_cases hgr : 60 < xs.length
      · have hgz : (60 : Int) < (xs.length : Int) := by omega
        go_wp2_with fail
        go_ret
        exact ⟨.inl rfl, rfl⟩
      · have hgz : ¬ (60 : Int) < (xs.length : Int) := by omega
        go_wp2_with fail
        go_ret
        refine ⟨.inr ⟨rfl, by omega, fun x hx => ?_⟩, rfl⟩
        obtain ⟨i, hi, rfl⟩ := List.getElem_of_mem hx
        exact HI.out i hi hi
end Go.Proofs.Ytclaagihmpghnaa
