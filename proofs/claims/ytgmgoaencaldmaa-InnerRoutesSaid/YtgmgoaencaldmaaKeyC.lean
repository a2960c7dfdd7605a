/-
  What Meet does, of the program and of the reference.
-/
import Derived.Test.YtgmgoaencaldmaaKeyMeetR
namespace Go.Proofs.Ytgmgoaencaldmaa
open Go.RowKit
set_option linter.unusedVariables false
set_option linter.unusedSimpArgs false

/-- A pair of texts in a block of its own. -/
def PairAt (w : World) (g : Nat) (t : TypeId) (x y : List UInt8) : Prop := w.heap[g]? = some (.cells #[.string (str x), .string (str y)] t (0, 0))
theorem PairAt.c0 {w : World} {g : Nat} {t : TypeId} {x y : List UInt8} (h : PairAt w g t x y) : w.cell? ⟨g, 0, none⟩ = some (.string (str x)) := by simpa using cell_of_block h 0
theorem PairAt.c1 {w : World} {g : Nat} {t : TypeId} {x y : List UInt8} (h : PairAt w g t x y) : w.cell? ⟨g, 1, none⟩ = some (.string (str y)) := by simpa using cell_of_block h 1
theorem PairAt.f {w : World} {g : Nat} {t : TypeId} {x y : List UInt8} (h : PairAt w g t x y) (j : Nat) : w.frozen? ⟨g, j, none⟩ = false := frozen_of_block h j
theorem PairAt.step {w w' : World} {g : Nat} {t : TypeId} {x y : List UInt8} (h : PairAt w g t x y) (hs : Step noF w w') : PairAt w' g t x y := (hs.block g (lt_of_block h) (fun x => x)).trans h
theorem PairAt.set0 {w : World} {g : Nat} {t : TypeId} {x y : List UInt8} (h : PairAt w g t x y) (z : List UInt8) : PairAt (w.setCell ⟨g, 0, none⟩ (.string (str z))) g t z y := by simpa [PairAt] using block_setCell h 0 (.string (str z))
theorem PairAt.set1 {w : World} {g : Nat} {t : TypeId} {x y : List UInt8} (h : PairAt w g t x y) (z : List UInt8) : PairAt (w.setCell ⟨g, 1, none⟩ (.string (str z))) g t x z := by simpa [PairAt] using block_setCell h 1 (.string (str z))
theorem pair_new (w : World) (t : TypeId) (x y : List UInt8) : PairAt (w.alloc (.cells #[.string (str x), .string (str y)] t)) w.heap.size t x y := block_alloc_new w _
theorem PairAt.alloc {w : World} {g : Nat} {t : TypeId} {x y : List UInt8} (h : PairAt w g t x y) (o : Obj) : PairAt (w.alloc o) g t x y := block_alloc_old h o

set_option maxHeartbeats 2000000 in
set_option maxRecDepth 100000 in
theorem meet_any (r o : Rg) (w : World) : Calls Try.prog 66 #[r.val, o.val] w fun e w' => e = .returned (r.meet o).val ∧ Step noF w w' := by
  have e0 : r.val = .agg #[.string (str r.lo), .string (str r.hi)] := rfl
  have e1 : o.val = .agg #[.string (str o.lo), .string (str o.hi)] := rfl
  have h0 := nil_str
  rw [e0, e1]
  clear e0 e1
  obtain ⟨W3, hW3⟩ : ∃ W3, (((w.alloc (.cells #[.string (str r.lo), .string (str r.hi)] 41)).alloc (.cells #[.string (str o.lo), .string (str o.hi)] 41)).alloc (.cells #[.string (str []), .string (str [])] 41)) = W3 := ⟨_, rfl⟩
  have S3 : Hid (Step noF w W3) := by rw [← hW3]; exact (((Step.refl noF w).alloc _).alloc _).alloc _
  have P1 : Hid (PairAt W3 w.heap.size 41 r.lo r.hi) := by rw [← hW3]; exact ((pair_new w 41 r.lo r.hi).alloc _).alloc _
  have P2 : Hid (PairAt W3 (w.heap.size + 1) 41 o.lo o.hi) := by
    have := (pair_new (w.alloc (.cells #[.string (str r.lo), .string (str r.hi)] 41)) 41 o.lo o.hi).alloc (.cells #[.string (str []), .string (str [])] 41)
    rw [← hW3]
    rw [World.size_alloc] at this
    exact this
  have P3 : Hid (PairAt W3 (w.heap.size + 1 + 1) 41 [] []) := by
    have := pair_new ((w.alloc (.cells #[.string (str r.lo), .string (str r.hi)] 41)).alloc (.cells #[.string (str o.lo), .string (str o.hi)] 41)) 41 [] []
    rw [← hW3]
    rw [World.size_alloc, World.size_alloc] at this
    exact this
  have HW := hid hW3
  clear hW3
  go_enter Try.func66, Try.ntmps66
  go_wp2_with fail
  change Code.wp _ (Code.region 1 ((Try.f66.body.bind (regionOps 1)).getD #[]) true) _ _ _
  rw [HW.out]
  refine meet_go r o w.heap.size (w.heap.size + 1) W3 P1.out.c0 P1.out.c1 P2.out.c0 P2.out.c1 _ rfl rfl rfl ?_
  intro w1 v15 g s1 hg hb
  have HG : Hid (PairAt w1 g 41 (maxL r.lo o.lo) (minH r.hi o.hi)) := hb
  have P4 : Hid (PairAt w1 (w.heap.size + 1 + 1) 41 [] []) := P3.out.step s1
  have S4 : Hid (Step noF w w1) := S3.out.trans s1
  have hne : Hid (g ≠ w.heap.size + 1 + 1) := by
    have h := lt_of_block P3.out
    show g ≠ _
    omega
  have T := turned_any ⟨maxL r.lo o.lo, minH r.hi o.hi⟩
  have g0 := HG.out.c0
  have g1 := HG.out.c1
  have HS := hid s1
  have HGE := hid hg
  clear hb hg s1
  simp only [putAll, meetDl]
  obtain ⟨lo, hlo⟩ : ∃ lo, maxL r.lo o.lo = lo := ⟨_, rfl⟩
  obtain ⟨hi, hhi⟩ : ∃ hi, minH r.hi o.hi = hi := ⟨_, rfl⟩
  rw [hlo] at g0 T HG ⊢
  rw [hhi] at g1 T HG ⊢
  have HLO := hid hlo
  have HHI := hid hhi
  clear hlo hhi
  go_wp2_with fail
  refine (T _).mono ?_
  rintro e w2 ⟨rfl, s2⟩
  have HG2 := hid (HG.out.step s2)
  have P5 := hid (P4.out.step s2)
  have S5 : Hid (Step noF w w2) := S4.out.trans s2
  clear g0 g1
  have g0 := HG2.out.c0
  have g1 := HG2.out.c1
  have f1 := HG2.out.f 1
  have HGE2 : Hid (w.heap.size ≤ g) := by
    have := S3.out.size
    have := HGE.out
    show _ ≤ _
    omega
  cases ht : (Rg.mk lo hi).turned
  · have HE : Hid (r.meet o = ⟨lo, hi⟩) := by
      show _ = _
      unfold Rg.meet
      rw [HLO.out, HHI.out, ht]
      rfl
    have q0 := P5.out.c0
    have q1 := P5.out.c1
    have qf0 := P5.out.f 0
    have qf1 := P5.out.f 1
    have P7 := hid ((P5.out.set0 lo).set1 hi)
    have x0 := P7.out.c0
    have x1 := P7.out.c1
    go_wp2_with fail
    refine bodyPost_ret (v := .agg #[.string (str lo), .string (str hi)]) (by simp [results, Try.results66, go_sem, *]) rfl ?_
    refine ⟨by rw [HE.out]; rfl, ?_⟩
    refine (S5.out.setCell (p := ⟨w.heap.size + 1 + 1, 0, none⟩) (.inr (by show _ ≤ w.heap.size + 1 + 1; omega)) _).setCell (p := ⟨w.heap.size + 1 + 1, 1, none⟩) (.inr (by show _ ≤ w.heap.size + 1 + 1; omega)) _
  · have HE : Hid (r.meet o = ⟨lo, lo⟩) := by
      show _ = _
      unfold Rg.meet
      rw [HLO.out, HHI.out, ht]
      rfl
    have HG3 : Hid (PairAt (w2.setCell ⟨g, 1, none⟩ (.string (str lo))) g 41 lo lo) := HG2.out.set1 lo
    have P6 : Hid (PairAt (w2.setCell ⟨g, 1, none⟩ (.string (str lo))) (w.heap.size + 1 + 1) 41 [] []) := by
      show _ = _
      rw [Below.heap_setCell _ _ _ _ (fun h => hne.out h.symm)]
      exact P5.out
    have k0 := HG3.out.c0
    have k1 := HG3.out.c1
    have q0 := P6.out.c0
    have q1 := P6.out.c1
    have qf0 := P6.out.f 0
    have qf1 := P6.out.f 1
    have P7 := hid ((P6.out.set0 lo).set1 lo)
    have x0 := P7.out.c0
    have x1 := P7.out.c1
    go_wp2_with fail
    refine bodyPost_ret (v := .agg #[.string (str lo), .string (str lo)]) (by simp [results, Try.results66, go_sem, *]) rfl ?_
    refine ⟨by rw [HE.out]; rfl, ?_⟩
    refine ((S5.out.setCell (p := ⟨g, 1, none⟩) (.inr HGE2.out) _).setCell (p := ⟨w.heap.size + 1 + 1, 0, none⟩) (.inr (by show _ ≤ w.heap.size + 1 + 1; omega)) _).setCell (p := ⟨w.heap.size + 1 + 1, 1, none⟩) (.inr (by show _ ≤ w.heap.size + 1 + 1; omega)) _
end Go.Proofs.Ytgmgoaencaldmaa
