/-
  Pieces of the law SpaceExact: Give and TakeAt.
-/
import Derived.Test.YtdcomcpinlgpdaaSpExA
namespace Go.Proofs.Ytdcomcpinlgpdaa
open Go.RowKit
set_option linter.unusedVariables false
set_option linter.unusedSimpArgs false

theorem set_len_n {b : Bool} {l : List Bool} {xs : List (Int × Int)} {n : Nat} (h : l.length = n) : (setL b l xs).length = n := (setL_len b l xs).trans h

set_option maxHeartbeats 4000000 in
set_option maxRecDepth 100000 in
theorem sw_at (w0 : World) (p n j xb : Nat) (x : ActS) (lv av : Value) (w : World) (hk : x.kind = 5) (hT : TailE w0 p n xb x lv w) (hxl : x.xs.length ≤ 10) (hxb : ∀ y ∈ x.xs, y.1 ≤ 9223372036854775807) (hx : ExtAt w x.la x.xs)
    (Q : Exit → Act → World → Prop) (a : Act) (ha : KnE ((54, .int .i64 x.kind) :: (8, .pointer (some ⟨xb, 0, none⟩)) :: baseE p n j lv av) a)
    (hend : ∀ a' w' lv', KnE ((8, .pointer (some ⟨xb, 0, none⟩)) :: baseE p n j lv' av) a' → TailE w0 p n xb x lv' w' → Q .normal a' w') :
    Code.wp Try.prog (navE [1, 1, 1, 1, 1, 0, 1, 0, 0, 1, 0, 0, 1, 1, 1, 0, 1, 0] (Try.f3.body.getD .skip)) Q a w := by
  obtain ⟨⟨l, hst, hpw, hsp, hir, hln⟩, hX⟩ := hT
  rw [hk] at ha
  obtain ⟨f, rfl, hf⟩ := ha.open
  have h0 : f 0 = .int .i64 n := hf (0, _) (by simp [baseE])
  have h1 : f 1 = av := hf (1, _) (by simp [baseE])
  have h5 : f 5 = .pointer (some ⟨p, 0, none⟩) := hf (5, _) (by simp [baseE])
  have h6 : f 6 = lv := hf (6, _) (by simp [baseE])
  have h7 : f 7 = .int .i64 j := hf (7, _) (by simp [baseE])
  have h8 : f 8 = .pointer (some ⟨xb, 0, none⟩) := hf (8, _) (by simp [baseE])
  have h54 : f 54 = .int .i64 5 := hf (54, _) (by simp [baseE])
  simp only [frE, h0, h1, h5, h6, h7, h8, h54]
  clear hf ha h0 h1 h5 h6 h7 h8 h54
  conv => arg 2; whnf
  have HE := hid hend
  clear hend
  obtain ⟨x0, x1, x2⟩ := hX.cells
  have HX := hid hx
  have HXE := hid hX
  have HB := hid hxb
  have hset := refSet_any w lv l hir false x.la x.lc x.xs.length x.xs rfl hx hxb (by omega)
  clear hx hX hxb
  go_wp2_with fail
  refine hset.mono ?_
  rintro e w1 ⟨v1, rfl, hr1, s1⟩
  have y2 := s1.after x2
  go_wp2_with fail
  refine (takeAt_any w1 p l (hsp.step s1) x.la x.lc x.xs.length x.xs rfl (HX.out.step s1) HB.out (by omega)).mono ?_
  rintro e w2 ⟨rfl, s2, h2⟩
  go_wp2_with fail
  refine HE.out _ _ v1 ?_ ?_
  · skip
    refine ⟨rfl, rfl, ?_⟩
    intro y hy
    simp only [baseE, List.mem_cons, List.not_mem_nil, or_false] at hy
    rcases hy with rfl | rfl | rfl | rfl | rfl | rfl <;> rfl
  · exact ⟨⟨_, (hst.trans s1).then s2 (fun i hi => .inr (by unfold oneF at hi; omega)), hpw, h2, hr1.beside (hsp.step s1) s2, set_len_n hln⟩, (HXE.out.step s1).beside (hsp.step s1) s2⟩

set_option maxHeartbeats 4000000 in
set_option maxRecDepth 100000 in
theorem sw_give (w0 : World) (p n j xb : Nat) (x : ActS) (lv av : Value) (w : World) (hk3 : x.kind ≠ 3) (hk4 : x.kind ≠ 4) (hk5 : x.kind ≠ 5) (hT : TailE w0 p n xb x lv w) (hxl : x.xs.length ≤ 10) (hxb : ∀ y ∈ x.xs, y.1 ≤ 9223372036854775807) (hx : ExtAt w x.la x.xs)
    (Q : Exit → Act → World → Prop) (a : Act) (ha : KnE ((54, .int .i64 x.kind) :: (8, .pointer (some ⟨xb, 0, none⟩)) :: baseE p n j lv av) a)
    (hend : ∀ a' w' lv', KnE ((8, .pointer (some ⟨xb, 0, none⟩)) :: baseE p n j lv' av) a' → TailE w0 p n xb x lv' w' → Q .normal a' w') :
    Code.wp Try.prog (navE [1, 1, 1, 1, 1, 0, 1, 0, 0, 1, 0, 0, 1, 1, 1, 0, 1, 0] (Try.f3.body.getD .skip)) Q a w := by
  obtain ⟨⟨l, hst, hpw, hsp, hir, hln⟩, hX⟩ := hT
  obtain ⟨K, hK⟩ : ∃ K, x.kind = K := ⟨_, rfl⟩
  rw [hK] at ha hk3 hk4 hk5
  have b3 : (K == 3) = false := by simpa using hk3
  have b4 : (K == 4) = false := by simpa using hk4
  have b5 : (K == 5) = false := by simpa using hk5
  obtain ⟨f, rfl, hf⟩ := ha.open
  have h0 : f 0 = .int .i64 n := hf (0, _) (by simp [baseE])
  have h1 : f 1 = av := hf (1, _) (by simp [baseE])
  have h5 : f 5 = .pointer (some ⟨p, 0, none⟩) := hf (5, _) (by simp [baseE])
  have h6 : f 6 = lv := hf (6, _) (by simp [baseE])
  have h7 : f 7 = .int .i64 j := hf (7, _) (by simp [baseE])
  have h8 : f 8 = .pointer (some ⟨xb, 0, none⟩) := hf (8, _) (by simp [baseE])
  have h54 : f 54 = .int .i64 K := hf (54, _) (by simp [baseE])
  simp only [frE, h0, h1, h5, h6, h7, h8, h54]
  clear hf ha h0 h1 h5 h6 h7 h8 h54
  conv => arg 2; whnf
  have HE := hid hend
  clear hend
  obtain ⟨x0, x1, x2⟩ := hX.cells
  have HX := hid hx
  have HXE := hid hX
  have HB := hid hxb
  have hset := refSet_any w lv l hir true x.la x.lc x.xs.length x.xs rfl hx hxb (by omega)
  clear hx hX hxb hk3 hk4 hk5 hK x0
  go_wp2_with fail
  refine hset.mono ?_
  rintro e w1 ⟨v1, rfl, hr1, s1⟩
  have y2 := s1.after x2
  go_wp2_with fail
  refine (give_any w1 p l (hsp.step s1) x.la x.lc x.xs.length x.xs rfl (HX.out.step s1) HB.out (by omega)).mono ?_
  rintro e w2 ⟨rfl, s2, h2⟩
  go_wp2_with fail
  refine HE.out _ _ v1 ?_ ?_
  · skip
    refine ⟨rfl, rfl, ?_⟩
    intro y hy
    simp only [baseE, List.mem_cons, List.not_mem_nil, or_false] at hy
    rcases hy with rfl | rfl | rfl | rfl | rfl | rfl <;> rfl
  · exact ⟨⟨_, (hst.trans s1).then s2 (fun i hi => .inr (by unfold oneF at hi; omega)), hpw, h2, hr1.beside (hsp.step s1) s2, set_len_n hln⟩, (HXE.out.step s1).beside (hsp.step s1) s2⟩
end Go.Proofs.Ytdcomcpinlgpdaa
