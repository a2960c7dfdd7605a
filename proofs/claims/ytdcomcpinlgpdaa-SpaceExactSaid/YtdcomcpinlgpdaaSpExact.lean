/-
  The walk of the law SpaceExact.
-/
import Derived.Test.YtdcomcpinlgpdaaSpExF
namespace Go.Proofs.Ytdcomcpinlgpdaa
open Go.RowKit
set_option linter.unusedVariables false
set_option linter.unusedSimpArgs false

theorem switch_any (w0 : World) (p n j xb : Nat) (x : ActS) (lv av : Value) (w : World) (hT : TailE w0 p n xb x lv w) (hxl : x.xs.length ≤ 10) (hxb : ∀ y ∈ x.xs, y.1 ≤ 9223372036854775807) (hx : ExtAt w x.la x.xs) (hz2 : x.num ≤ 9223372036854775807)
    (Q : Exit → Act → World → Prop) (a : Act) (ha : KnE ((54, .int .i64 x.kind) :: (8, .pointer (some ⟨xb, 0, none⟩)) :: baseE p n j lv av) a)
    (hend : ∀ a' w' lv', KnE ((8, .pointer (some ⟨xb, 0, none⟩)) :: baseE p n j lv' av) a' → TailE w0 p n xb x lv' w' → Q .normal a' w')
    (hcont : ∀ a' w', KnE (baseE p n j lv av) a' → BothE w0 p n lv w' → Q (.exit 1) a' w') :
    Code.wp Try.prog (navE [1, 1, 1, 1, 1, 0, 1, 0, 0, 1, 0, 0, 1, 1, 1, 0, 1, 0] (Try.f3.body.getD .skip)) Q a w := by
  by_cases h3 : x.kind = 3
  · by_cases hz : x.num < 1
    · exact sw_take3_arg w0 p n j xb x lv av w h3 hT x.num rfl hz hz2 Q a ha hcont
    · obtain ⟨⟨l, hst, hpw, hsp, hir, hln⟩, hX⟩ := hT
      cases hb : bestL l x.num with
      | none => exact sw_take3_none w0 p n j xb x lv av w h3 l hst hpw hsp hir hln hX x.num rfl (by omega) hz2 hb Q a ha hend
      | some y => exact sw_take3_some w0 p n j xb x lv av w h3 l hst hpw hsp hir hln hX x.num rfl (by omega) hz2 y.1 y.2 hb Q a ha hend
  · by_cases h4 : x.kind = 4
    · by_cases hz : x.num < 1
      · exact sw_take4_arg w0 p n j xb x lv av w h4 hT x.num rfl hz hz2 Q a ha hcont
      · obtain ⟨⟨l, hst, hpw, hsp, hir, hln⟩, hX⟩ := hT
        cases hb : bestL l x.num with
        | none => exact sw_take4_none w0 p n j xb x lv av w h4 l hst hpw hsp hir hln hX x.num rfl (by omega) hz2 hb Q a ha hend
        | some y => exact sw_take4_some w0 p n j xb x lv av w h4 l hst hpw hsp hir hln hX x.num rfl (by omega) hz2 y.1 y.2 hb Q a ha hend
    · by_cases h5 : x.kind = 5
      · exact sw_at w0 p n j xb x lv av w h5 hT hxl hxb hx Q a ha hend
      · exact sw_give w0 p n j xb x lv av w h3 h4 h5 hT hxl hxb hx Q a ha hend

theorem blk1_any (w0 : World) (p n j ab off l cap : Nat) (x : ActS) (lv av : Value) (hav : av = .slice (some ⟨ab, off, none⟩) l cap) (wr : World) (hB : BothE w0 p n lv wr) (hj : j < l) (hj5 : j < 50) (hok : x.ok w0)
    (x0 : wr.cell? ⟨ab, off + j * 3, none⟩ = some (.int .i64 x.kind)) (x1 : wr.cell? ⟨ab, off + j * 3 + 1, none⟩ = some (.int .i64 x.num)) (x2 : wr.cell? ⟨ab, off + j * 3 + 2, none⟩ = some (.slice x.la x.xs.length x.lc))
    (Q : Exit → Act → World → Prop) (a : Act) (ha : KnE (baseE p n j lv av) a)
    (hgo : ∀ a' w' lv', KnE (baseE p n j lv' av) a' → BothE w0 p n lv' w' → Q .normal a' w') (hret : ∀ a' w', KnE [(4, .bool true)] a' → Step noF w0 w' → Q .ret a' w') :
    Code.wp Try.prog (navE [1, 1, 1, 1, 1, 0, 1, 0, 0, 1, 0] (Try.f3.body.getD .skip)) Q a wr := by
  obtain ⟨hnum, hxml, hxb, hx⟩ := hok
  change Code.wp Try.prog (Code.block 1 (Code.seq (navE [1, 1, 1, 1, 1, 0, 1, 0, 0, 1, 0, 0, 0] (Try.f3.body.getD .skip)) (Code.seq (navE [1, 1, 1, 1, 1, 0, 1, 0, 0, 1, 0, 0, 1, 0] (Try.f3.body.getD .skip)) (Code.seq (navE [1, 1, 1, 1, 1, 0, 1, 0, 0, 1, 0, 0, 1, 1, 0] (Try.f3.body.getD .skip)) (Code.seq (Code.seq (navE [1, 1, 1, 1, 1, 0, 1, 0, 0, 1, 0, 0, 1, 1, 1, 0, 0] (Try.f3.body.getD .skip)) (navE [1, 1, 1, 1, 1, 0, 1, 0, 0, 1, 0, 0, 1, 1, 1, 0, 1] (Try.f3.body.getD .skip))) (navE [1, 1, 1, 1, 1, 0, 1, 0, 0, 1, 0, 0, 1, 1, 1, 1] (Try.f3.body.getD .skip))))))) Q a wr
  refine wp_block ?_
  refine wp_seq (r10_any p n j ab off l cap x lv wr x0 x1 x2 hj hj5 av hav _ a ha ?_)
  intro a1 k1
  have hX : XE (wr.alloc (xCellsE x)) wr.heap.size x := block_alloc_new _ _
  have hs1 : Step noF wr (wr.alloc (xCellsE x)) := (Step.refl noF wr).alloc _
  have hst : Step noF w0 wr := by obtain ⟨_, h, _⟩ := hB; exact h
  refine wp_seq (r11_any p n j wr.heap.size x lv av (wr.alloc (xCellsE x)) hX _ a1 k1 ⟨?_, ?_⟩ (by unfold maxLen at hxml; omega))
  · intro hkl a2 k2
    refine wp_seq (r13_any p n j wr.heap.size lv av (wr.alloc (xCellsE x)) _ a2 k2 ?_)
    intro a3 k3
    refine wp_seq (wp_seq (r14_any p n j wr.heap.size x lv av (wr.alloc (xCellsE x)) hX _ a3 k3 ?_))
    intro a4 k4
    have hT : TailE w0 p n wr.heap.size x lv (wr.alloc (xCellsE x)) := by
      obtain ⟨ll, h1, h2, h3, h4, h5⟩ := hB
      exact ⟨⟨ll, h1.trans hs1, h2, h3.step hs1, h4.step hs1, h5⟩, hX⟩
    change Code.wp Try.prog (Code.block 2 (navE [1, 1, 1, 1, 1, 0, 1, 0, 0, 1, 0, 0, 1, 1, 1, 0, 1, 0] (Try.f3.body.getD .skip))) _ a4 _
    refine wp_block ?_
    refine switch_any w0 p n j wr.heap.size x lv av _ hT hkl hxb (hx.step (hst.trans hs1)) hnum _ a4 k4 ?_ ?_
    · intro a5 w5 lv5 k5 t5
      exact tail_any w0 p n j wr.heap.size x lv5 av w5 t5 _ a5 k5 (fun a6 w6 k6 b6 => hgo a6 w6 lv5 k6 b6)
    · intro a5 w5 k5 b5
      exact hgo a5 w5 lv k5 b5
  · intro hkl a2 k2
    exact hret a2 _ k2 (hst.trans hs1)

theorem round_any (w0 : World) (p n j l cap : Nat) (aa : Option Addr) (xs : List ActS) (hl : xs.length = l) (hl2 : l ≤ 9223372036854775807) (hx : IsActsS w0 aa xs) (lv av : Value) (hav : av = .slice aa l cap) (wr : World) (hB : BothE w0 p n lv wr)
    (Q : Exit → Act → World → Prop) (a : Act) (ha : KnE (baseE p n j lv av) a)
    (hgo : j < l → ∀ a' w' lv', KnE (baseE p n (j + 1) lv' av) a' → BothE w0 p n lv' w' → Q .normal a' w') (hret : ∀ a' w', KnE [(4, .bool true)] a' → Step noF w0 w' → Q .ret a' w') (hex : ∀ a' w', KnE (baseE p n j lv av) a' → Step noF w0 w' → Q (.exit 0) a' w') :
    Code.wp Try.prog (navE [1, 1, 1, 1, 1, 0, 1, 0, 0] (Try.f3.body.getD .skip)) Q a wr := by
  change Code.wp Try.prog (Code.seq (navE [1, 1, 1, 1, 1, 0, 1, 0, 0, 0] (Try.f3.body.getD .skip)) (Code.seq (navE [1, 1, 1, 1, 1, 0, 1, 0, 0, 1, 0] (Try.f3.body.getD .skip)) (navE [1, 1, 1, 1, 1, 0, 1, 0, 0, 1, 1] (Try.f3.body.getD .skip)))) Q a wr
  have hst : Step noF w0 wr := by obtain ⟨_, h, _⟩ := hB; exact h
  refine wp_seq (r8_any p n j l cap aa lv av hav wr hl2 _ a ha ⟨?_, ?_⟩)
  · rintro ⟨h1, h5⟩ a1 k1
    obtain ⟨hok, hxs⟩ := hx
    have hj1 : j < xs.length := by omega
    rcases hxs with rfl | ⟨ib, off, rfl, hib, hxs⟩
    · simp at hj1
    have hcell := hxs j hj1
    obtain ⟨x, hax⟩ : ∃ x, xs[j]'hj1 = x := ⟨_, rfl⟩
    have hokj := hok x (by rw [← hax]; exact List.getElem_mem _)
    rw [hax] at hcell
    have x0 := hst.after (hcell 0 _ rfl)
    have x1 := hst.after (hcell 1 _ rfl)
    have x2 := hst.after (hcell 2 _ rfl)
    simp only [Nat.add_zero] at x0
    refine wp_seq (blk1_any w0 p n j ib off l cap x lv av hav wr hB h1 h5 hokj x0 x1 x2 _ a1 k1 ?_ ?_)
    · intro a2 w2 lv2 k2 b2
      exact r9_any p n j lv2 av w2 h5 Q a2 k2 (fun a3 k3 => hgo h1 a3 w2 lv2 k3 b2)
    · intro a2 w2 k2 s2
      exact hret a2 w2 k2 s2
  · intro _ a1 k1
    exact hex a1 wr k1 hst

theorem loop_any (w0 : World) (p n l cap : Nat) (aa : Option Addr) (xs : List ActS) (hl : xs.length = l) (hl2 : l ≤ 9223372036854775807) (hx : IsActsS w0 aa xs) (lv av : Value) (hav : av = .slice aa l cap) (wr : World) (hB : BothE w0 p n lv wr)
    (Q : Exit → Act → World → Prop) (a : Act) (ha : KnE (baseE p n 0 lv av) a)
    (hret : ∀ a' w', KnE [(4, .bool true)] a' → Step noF w0 w' → Q .ret a' w') (hex : ∀ a' w', KnE [] a' → Step noF w0 w' → Q (.exit 0) a' w') :
    Code.wp Try.prog (navE [1, 1, 1, 1, 1, 0, 1, 0] (Try.f3.body.getD .skip)) Q a wr := by
  change Code.wp Try.prog (Code.loop (navE [1, 1, 1, 1, 1, 0, 1, 0, 0] (Try.f3.body.getD .skip))) Q a wr
  refine wp_loop (fun a w => ∃ j lv, j ≤ l ∧ KnE (baseE p n j lv av) a ∧ BothE w0 p n lv w) (fun a _ => l - (intOf (a.tmps.getD 7 undef)).toNat) ⟨0, lv, Nat.zero_le _, ha, hB⟩ ?_
  rintro a w ⟨j, lv, hj, hk, hb⟩
  have h7 : a.tmps.getD 7 undef = .int .i64 j := hk.2.2 (7, .int .i64 j) (by simp [baseE])
  refine round_any w0 p n j l cap aa xs hl hl2 hx lv av hav w hb _ a hk ?_ ?_ ?_
  · intro hjl a' w' lv' k' b'
    refine ⟨⟨j + 1, lv', hjl, k', b'⟩, ?_⟩
    have h7' : a'.tmps.getD 7 undef = .int .i64 ((j + 1 : Nat) : Int) := k'.2.2 (7, _) (by simp [baseE])
    rw [h7, h7']
    simp [intOf]
    omega
  · intro a' w' k' s'
    exact hret a' w' k' s'
  · intro a' w' k' s'
    exact hex a' w' (k'.mono (by intro x hx; cases hx)) s'

set_option maxHeartbeats 4000000 in
set_option maxRecDepth 100000 in
theorem exact_in (z : Int) (n : Nat) (hz : z = n) (h1 : 1 ≤ n) (h2 : n ≤ 512) (xs : List ActS) (hxl : xs.length ≤ 9223372036854775807) (aa : Option Addr) (cap : Nat) (w : World) (hx : IsActsS w aa xs) :
    Calls Try.prog 3 #[.int .i64 z, .slice aa xs.length cap] w fun e w' => e = .returned (.bool true) ∧ Step noF w w' := by
  have hnew := fun u => new_any z n hz h1 h2 u
  subst hz
  have hmk := mk_bools n (by omega)
  have g1 : ¬ (n : Int) < 1 := by omega
  have g2 : ¬ (512 : Int) < (n : Int) := by omega
  have HX := hid hx
  clear hx
  go_enter Try.func3, Try.ntmps3
  go_wp2_with fail
  refine (awake_any _).mono ?_
  rintro e w1 ⟨rfl, s1⟩
  go_wp2_with fail
  refine (hnew _).mono ?_
  rintro e w2 ⟨p, rfl, hp, s2, h2'⟩
  have HB : Hid (BothE w p n (.slice (some ⟨w2.heap.size, 0, none⟩) n n) (w2.alloc (.cells (madeCells #[.bool false] n) 4))) := by
    have sa := (Step.refl noF w2).alloc (.cells (madeCells #[.bool false] n) 4)
    refine ⟨List.replicate n false, (s1.trans s2).trans sa, Nat.le_trans s1.size hp, h2'.step sa, ⟨by rw [List.length_replicate]; exact h1, by rw [List.length_replicate]; exact h2, w2.heap.size, n, by rw [List.length_replicate], by rw [List.length_replicate]; exact Nat.le_refl _, made_bools w2 n⟩, List.length_replicate⟩
  clear h2'
  go_wp2_with fail
  refine loop_any w p n xs.length cap aa xs rfl hxl HX.out _ (.slice aa xs.length cap) rfl _ HB.out _ _ ?_ ?_ ?_
  · refine ⟨rfl, rfl, ?_⟩
    intro y hy
    simp only [baseE, List.mem_cons, List.not_mem_nil, or_false] at hy
    rcases hy with rfl | rfl | rfl | rfl | rfl <;> rfl
  · intro a' w' k' s'
    obtain ⟨f, rfl, hf⟩ := k'.open
    have h4 : f 4 = .bool true := hf (4, _) (by simp)
    simp only [frE, h4]
    go_ret
    exact ⟨rfl, s'⟩
  · intro a' w' k' s'
    obtain ⟨f, rfl, hf⟩ := k'.open
    simp only [frE]
    go_wp2_with fail
    refine (take_nil _ 1).mono ?_
    rintro e w3 ⟨rfl, s3⟩
    go_wp2_with fail
    refine (give_nil _ _).mono ?_
    rintro e w4 ⟨rfl, rfl⟩
    go_wp2_with fail
    refine (takeAt_nil _ _).mono ?_
    rintro e w4 ⟨rfl, rfl⟩
    go_wp2_with fail
    refine (has_nil 0 _).mono ?_
    rintro e w4 ⟨rfl, rfl⟩
    go_wp2_with fail
    refine (free_nil _).mono ?_
    rintro e w5 ⟨rfl, s5⟩
    go_wp2_with fail
    refine (len_nil _).mono ?_
    rintro e w6 ⟨rfl, rfl⟩
    go_wp2_with fail
    refine (larg_nil _).mono ?_
    rintro e w7 ⟨rfl, s7⟩
    go_wp2_with fail
    refine (row_nil _).mono ?_
    rintro e w8 ⟨rfl, s8⟩
    go_wp2_with fail
    refine (text_nil _).mono ?_
    rintro e w9 ⟨rfl, s9⟩
    have e0 : ((str []).toList == ([] : List UInt8)) = true := by rw [ByteArray.toList_eq, str_list]; rfl
    go_wp2_with fail
    go_ret
    exact ⟨rfl, (((((s'.trans s3).alloc _).trans s5).trans s7).trans s8).trans s9⟩

set_option maxHeartbeats 1000000 in
set_option maxRecDepth 100000 in
theorem exact_walk (z : Int) (xs : List ActS) (hxl : xs.length ≤ 9223372036854775807) (aa : Option Addr) (cap : Nat) (w : World) (hx : IsActsS w aa xs) :
    Calls Try.prog 3 #[.int .i64 z, .slice aa xs.length cap] w fun e w' => e = .returned (.bool true) ∧ Step noF w w' := by
  by_cases h1 : z < 1
  · have hnew := fun u => new_none z (.inl h1) u
    go_enter Try.func3, Try.ntmps3
    go_wp2_with fail
    refine (awake_any _).mono ?_
    rintro e w1 ⟨rfl, s1⟩
    go_wp2_with fail
    refine (hnew _).mono ?_
    rintro e w2 ⟨rfl, rfl⟩
    go_wp2_with fail
    go_ret
    exact ⟨rfl, s1⟩
  · by_cases h2 : 512 < z
    · have hnew := fun u => new_none z (.inr h2) u
      go_enter Try.func3, Try.ntmps3
      go_wp2_with fail
      refine (awake_any _).mono ?_
      rintro e w1 ⟨rfl, s1⟩
      go_wp2_with fail
      refine (hnew _).mono ?_
      rintro e w2 ⟨rfl, rfl⟩
      go_wp2_with fail
      go_ret
      exact ⟨rfl, s1⟩
    · obtain ⟨k, hk⟩ := Int.eq_ofNat_of_zero_le (show 0 ≤ z by omega)
      exact exact_in z k hk (by omega) (by omega) xs hxl aa cap w hx
end Go.Proofs.Ytdcomcpinlgpdaa
