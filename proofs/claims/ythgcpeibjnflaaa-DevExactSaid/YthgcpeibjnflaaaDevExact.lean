/-
  The walk of the law DevExact.
-/
import Derived.Test.YthgcpeibjnflaaaDevRound
namespace Go.Proofs.Ythgcpeibjnflaaa
open Go.RowKit
set_option linter.unusedVariables false

theorem blk1_any (w0 : World) (p q n j ab off l cap : Nat) (x : ActD) (av : Value) (hav : av = .slice (some ⟨ab, off, none⟩) l cap) (wr : World) (hB : Both w0 p q n j wr) (hj : j < l) (hj5 : j < 50) (hok : x.ok w0)
    (x0 : wr.cell? ⟨ab, off + j * 4, none⟩ = some (.int .i64 x.kind)) (x1 : wr.cell? ⟨ab, off + j * 4 + 1, none⟩ = some (.int .i64 x.at_)) (x2 : wr.cell? ⟨ab, off + j * 4 + 2, none⟩ = some (.int .u8 x.n.toNat)) (x3 : wr.cell? ⟨ab, off + j * 4 + 3, none⟩ = some (.slice x.ka x.ks.length x.kc))
    (Q : Exit → Act → World → Prop) (a : Act) (ha : Kn (base p q n j av) a)
    (hgo : ∀ a' w', Kn (base p q n j av) a' → Both w0 p q n (j + 1) w' → Q .normal a' w') (hret : ∀ a' w', Kn [(4, .bool true)] a' → Step noF w0 w' → Q .ret a' w') :
    Code.wp Try.prog (nav [1, 1, 1, 1, 1, 1, 1, 1, 0, 1, 0, 0, 1, 0] (Try.f3.body.getD .skip)) Q a wr := by
  obtain ⟨R, d, hst, hR, hD, hQ, hW, hF, hn⟩ := hB
  change Code.wp Try.prog (Code.block 1 (Code.seq (nav [1, 1, 1, 1, 1, 1, 1, 1, 0, 1, 0, 0, 1, 0, 0, 0] (Try.f3.body.getD .skip)) (Code.seq (nav [1, 1, 1, 1, 1, 1, 1, 1, 0, 1, 0, 0, 1, 0, 0, 1, 0] (Try.f3.body.getD .skip)) (Code.seq (nav [1, 1, 1, 1, 1, 1, 1, 1, 0, 1, 0, 0, 1, 0, 0, 1, 1, 0] (Try.f3.body.getD .skip)) (Code.seq (Code.seq (nav [1, 1, 1, 1, 1, 1, 1, 1, 0, 1, 0, 0, 1, 0, 0, 1, 1, 1, 0, 0] (Try.f3.body.getD .skip)) (nav [1, 1, 1, 1, 1, 1, 1, 1, 0, 1, 0, 0, 1, 0, 0, 1, 1, 1, 0, 1] (Try.f3.body.getD .skip))) (nav [1, 1, 1, 1, 1, 1, 1, 1, 0, 1, 0, 0, 1, 0, 0, 1, 1, 1, 1] (Try.f3.body.getD .skip))))))) Q a wr
  refine wp_block ?_
  refine wp_seq (r15_any p q n j ab off l cap x wr x0 x1 x2 x3 hj hj5 av hav _ a ha ?_)
  intro a1 k1
  have hX : XB (wr.alloc (xCells x)) wr.heap.size x := block_alloc_new _ _
  have hs1 : Step noF wr (wr.alloc (xCells x)) := (Step.refl noF wr).alloc _
  refine wp_seq (r16_any p q n j wr.heap.size x av (wr.alloc (xCells x)) hX _ a1 k1 ⟨?_, ?_⟩ (by have := hok.2.1; unfold maxLen at this; omega))
  · intro hkl a2 k2
    refine wp_seq (r18_any p q n j wr.heap.size x av (wr.alloc (xCells x)) hX _ a2 k2 ?_)
    intro a3 k3
    refine wp_seq (wp_seq (r19_any p q n j wr.heap.size x av (wr.alloc (xCells x)) hX _ a3 k3 ?_))
    intro a4 k4
    have hArm : Arm w0 p q n j wr.heap.size x (fun k => if k < wr.heap.size then R k else 40) d (wr.alloc (xCells x)) :=
      { st := hst.trans hs1
        R0 := fun k hk => (if_pos (Nat.lt_of_lt_of_le hk hst.size)).trans (hR k hk)
        D := hD.mono hs1 (fun _ _ _ x => x) (fun k hk => if_pos hk)
        Q := hQ.mono hs1 (fun _ _ x => x) (fun k hk => if_pos hk)
        W := hW, F := hF, n := hn, X := hX, Rx := if_neg (Nat.lt_irrefl _)
        row := rowAt_keep hok.2.2.2 (fun k hk _ => ⟨(hst.trans hs1).block k hk (fun x => x), fun y => y ((if_pos (Nat.lt_of_lt_of_le hk hst.size)).trans (hR k hk))⟩)
        kl := hkl, kc := hok.2.2.1, az := hok.1, j5 := hj5 }
    refine switch_any w0 p q n j wr.heap.size x av _ d _ hArm _ a4 k4 ?_
    intro a5 w5 k5 b5
    refine tail_any w0 p q n j (j + 1) av w5 b5 _ a5 k5 ?_
    intro a6 w6 k6 b6
    exact hgo a6 w6 k6 b6
  · intro hkl a2 k2
    exact hret a2 _ k2 (hst.trans hs1)

theorem round_any (w0 : World) (p q n j l cap : Nat) (aa : Option Addr) (xs : List ActD) (hl : xs.length = l) (hl2 : l ≤ 9223372036854775807) (hx : IsActsD w0 aa xs) (av : Value) (hav : av = .slice aa l cap) (wr : World) (hB : Both w0 p q n j wr)
    (Q : Exit → Act → World → Prop) (a : Act) (ha : Kn (base p q n j av) a)
    (hgo : j < l → ∀ a' w', Kn (base p q n (j + 1) av) a' → Both w0 p q n (j + 1) w' → Q .normal a' w') (hret : ∀ a' w', Kn [(4, .bool true)] a' → Step noF w0 w' → Q .ret a' w') (hex : ∀ a' w', Kn (base p q n j av) a' → Step noF w0 w' → Q (.exit 0) a' w') :
    Code.wp Try.prog (nav [1, 1, 1, 1, 1, 1, 1, 1, 0, 1, 0, 0] (Try.f3.body.getD .skip)) Q a wr := by
  change Code.wp Try.prog (Code.seq (nav [1, 1, 1, 1, 1, 1, 1, 1, 0, 1, 0, 0, 0] (Try.f3.body.getD .skip)) (Code.seq (nav [1, 1, 1, 1, 1, 1, 1, 1, 0, 1, 0, 0, 1, 0] (Try.f3.body.getD .skip)) (nav [1, 1, 1, 1, 1, 1, 1, 1, 0, 1, 0, 0, 1, 1] (Try.f3.body.getD .skip)))) Q a wr
  have hst : Step noF w0 wr := by obtain ⟨R, d, h, _⟩ := hB; exact h
  refine wp_seq (r13_any p q n j l cap aa av hav wr hl2 _ a ha ⟨?_, ?_⟩)
  · rintro ⟨h1, h5⟩ a1 k1
    obtain ⟨hok, hxs⟩ := hx
    have hj1 : j < xs.length := by omega
    rcases hxs with rfl | ⟨ib, off, rfl, hib, hxs⟩
    · simp at hj1
    have hcell := hxs j hj1
    obtain ⟨x, hax⟩ : ∃ x, xs[j]'hj1 = x := ⟨_, rfl⟩
    have hokj := hok x (by rw [← hax]; exact List.getElem_mem _)
    rw [hax] at hcell
    have x0 := hst.after (hcell 0 _ rfl)
    have x1 := hst.after (hcell 1 _ rfl)
    have x2 := hst.after (hcell 2 _ rfl)
    have x3 := hst.after (hcell 3 _ rfl)
    simp only [Nat.add_zero] at x0
    refine wp_seq (blk1_any w0 p q n j ib off l cap x av hav wr hB h1 h5 hokj x0 x1 x2 x3 _ a1 k1 ?_ ?_)
    · intro a2 w2 k2 b2
      exact r14_any p q n j av w2 h5 Q a2 k2 (fun a3 k3 => hgo h1 a3 w2 k3 b2)
    · intro a2 w2 k2 s2
      exact hret a2 w2 k2 s2
  · intro _ a1 k1
    exact hex a1 wr k1 hst

theorem loop_any (w0 : World) (p q n l cap : Nat) (aa : Option Addr) (xs : List ActD) (hl : xs.length = l) (hl2 : l ≤ 9223372036854775807) (hx : IsActsD w0 aa xs) (av : Value) (hav : av = .slice aa l cap) (wr : World) (hB : Both w0 p q n 0 wr)
    (Q : Exit → Act → World → Prop) (a : Act) (ha : Kn (base p q n 0 av) a)
    (hret : ∀ a' w', Kn [(4, .bool true)] a' → Step noF w0 w' → Q .ret a' w') (hex : ∀ a' w', Kn [] a' → Step noF w0 w' → Q (.exit 0) a' w') :
    Code.wp Try.prog (nav [1, 1, 1, 1, 1, 1, 1, 1, 0, 1, 0] (Try.f3.body.getD .skip)) Q a wr := by
  change Code.wp Try.prog (Code.loop (nav [1, 1, 1, 1, 1, 1, 1, 1, 0, 1, 0, 0] (Try.f3.body.getD .skip))) Q a wr
  refine wp_loop (fun a w => ∃ j, j ≤ l ∧ Kn (base p q n j av) a ∧ Both w0 p q n j w) (fun a _ => l - (intOf (a.tmps.getD 8 undef)).toNat) ⟨0, Nat.zero_le _, ha, hB⟩ ?_
  rintro a w ⟨j, hj, hk, hb⟩
  have h8 : a.tmps.getD 8 undef = .int .i64 j := hk.2.2 (8, .int .i64 j) (by simp [base])
  refine round_any w0 p q n j l cap aa xs hl hl2 hx av hav w hb _ a hk ?_ ?_ ?_
  · intro hjl a' w' k' b'
    refine ⟨⟨j + 1, hjl, k', b'⟩, ?_⟩
    have h8' : a'.tmps.getD 8 undef = .int .i64 ((j + 1 : Nat) : Int) := k'.2.2 (8, _) (by simp [base])
    rw [h8, h8']
    simp [intOf]
    omega
  · intro a' w' k' s'
    exact hret a' w' k' s'
  · intro a' w' k' s'
    exact hex a' w' (k'.mono (by intro x hx; cases hx)) s'

set_option maxHeartbeats 4000000 in
set_option maxRecDepth 100000 in
theorem exact_in (s : ByteArray) (n : Nat) (hn : s.size / 256 = n) (h1 : 1 ≤ n) (h2 : s.size ≤ 2304) (xs : List ActD) (hxl : xs.length ≤ 9223372036854775807) (aa : Option Addr) (cap : Nat) (w : World) (hx : IsActsD w aa xs) :
    Calls Try.prog 3 #[.string s, .slice aa xs.length cap] w fun e w' => e = .returned (.bool true) ∧ Step noF w w' := by
  have k1 : ¬ (2304 : Int) < (s.size : Int) := by omega
  have hs1 : 256 * n ≤ s.size := by omega
  obtain ⟨N2, hN2⟩ : ∃ N2, n * 256 = N2 := ⟨_, rfl⟩
  have hq3 : (s.size : Int).tdiv 256 = (n : Int) := by rw [Int.tdiv_eq_ediv_of_nonneg (by omega)]; omega
  have hq2 : (s.size : Int) / 256 = (n : Int) := by omega
  have hn0 : ((n : Int) == 0) = false := by simp; omega
  have hn01 : ¬ n = 0 := by omega
  have hn9 : n ≤ 9 := by omega
  have hNs : (n : Int) * 256 ≤ (s.size : Int) := by omega
  have hNs2 : n * 256 ≤ s.size := by omega
  have hof := fun u => of_any s n hn h1 (by omega) u (fun _ => 0) 0
  obtain ⟨T, hT⟩ : ∃ T, s.extract 0 (n * 256) = T := ⟨_, rfl⟩
  have hTe : T = str (s.data.toList.take (256 * n)) := by
    rw [← hT]
    conv => lhs; rw [str_of s]
    rw [str_extract, List.drop_zero, Nat.mul_comm]
  have hnew := fun u => refNew_any (s.data.toList.take (256 * n)) u
  rw [← hTe] at hnew
  have HT := hid hTe
  have HN := hid hn
  have HX := hid hx
  clear hn hTe hs1 hN2 hx
  go_enter Try.func3, Try.ntmps3
  go_wp2_with fail
  refine (awake_any _).mono ?_
  rintro e w1 ⟨rfl, s1⟩
  go_wp2_with fail
  refine (hof _).mono ?_
  rintro e w2 ⟨p, R2, hR2, rfl, s2, hp, hd2⟩
  have H2 := hid hd2
  clear hd2
  go_wp2_with fail
  refine (hnew _).mono ?_
  rintro e w3 ⟨rfl, s3, hr3⟩
  have H3 := hid hr3
  clear hr3
  have HB : Hid (Both w p w2.heap.size n 0 w3) := by
    refine ⟨fun k => if k < w2.heap.size then R2 k else 11, newD (blocksOf s.data.toList n), (s1.trans s2).trans s3, fun k hk => ?_, H2.out.mono s3 (fun _ _ _ x => x) (fun k hk => if_pos hk), ?_, newD_wf _ (by rw [blocksOf_length]; exact h1) (by rw [blocksOf_length]; omega) (blocksOf_256 _ _ (by rw [list_len]; omega)), newD_few _, blocksOf_length _ _⟩
    · have e1 := Nat.lt_of_lt_of_le hk s1.size
      exact (if_pos (Nat.lt_of_lt_of_le e1 s2.size)).trans (hR2 k e1)
    · refine ⟨.slice none 0 0, none, 0, 0, ?_, if_neg (by omega), fun k hk => by simp [Value.ownBlock] at hk, ⟨rfl, .inl ⟨rfl, rfl⟩⟩, fun n ks h => by simp [newD] at h⟩
      show RHead w3 w2.heap.size (blocksOf s.data.toList n).flatten _ _ _ _ _ _ _
      rw [blocksOf_flat _ _ (by rw [list_len]; omega)]
      exact H3.out
  go_wp2_with fail
  refine loop_any w p w2.heap.size n xs.length cap aa xs rfl hxl HX.out (.slice aa xs.length cap) rfl w3 HB.out _ _ ?_ ?_ ?_
  · refine ⟨rfl, rfl, ?_⟩
    intro y hy
    simp only [base, List.mem_cons, List.not_mem_nil, or_false] at hy
    rcases hy with rfl | rfl | rfl | rfl | rfl <;> rfl
  · intro a' w' k' s'
    obtain ⟨f, rfl, hf⟩ := k'.open
    have h4 : f 4 = .bool true := hf (4, _) (by simp)
    simp only [fr, h4]
    go_ret
    exact ⟨rfl, s'⟩
  · intro a' w' k' s'
    obtain ⟨f, rfl, hf⟩ := k'.open
    simp only [fr]
    go_wp2_with fail
    go_ret
    exact ⟨rfl, s'⟩

set_option maxHeartbeats 4000000 in
set_option maxRecDepth 100000 in
theorem exact_walk (s : ByteArray) (hs : s.size ≤ 9223372036854775807) (xs : List ActD) (hxl : xs.length ≤ 9223372036854775807) (aa : Option Addr) (cap : Nat) (w : World) (hx : IsActsD w aa xs) :
    Calls Try.prog 3 #[.string s, .slice aa xs.length cap] w fun e w' => e = .returned (.bool true) ∧ Step noF w w' := by
  by_cases h1 : 2304 < s.size
  · have k1 : (2304 : Int) < (s.size : Int) := by omega
    clear h1
    go_enter Try.func3, Try.ntmps3
    go_wp2_with (go_at_call 7; refine (awake_any _).mono ?_; rintro e w1 ⟨rfl, s1⟩)
    go_ret
    exact ⟨rfl, s1⟩
  · by_cases h2 : s.size / 256 = 0
    · have k1 : ¬ (2304 : Int) < (s.size : Int) := by omega
      have hof := fun u => of_none s (.inl (by omega)) u hs
      have hq3 : (s.size : Int).tdiv 256 = 0 := by rw [Int.tdiv_eq_ediv_of_nonneg (by omega)]; omega
      have hq2 : (s.size : Int) / 256 = 0 := by omega
      clear h1 h2
      go_enter Try.func3, Try.ntmps3
      go_wp2_with fail
      refine (awake_any _).mono ?_
      rintro e w1 ⟨rfl, s1⟩
      go_wp2_with fail
      refine (hof _).mono ?_
      rintro e w2 ⟨rfl, rfl⟩
      go_wp2_with fail
      go_ret
      exact ⟨rfl, s1⟩
    · exact exact_in s (s.size / 256) rfl (by omega) (by omega) xs hxl aa cap w hx
end Go.Proofs.Ythgcpeibjnflaaa
