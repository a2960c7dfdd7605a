/-
  The document's Parse of a node: what is read of a node's bytes, row by row; its state at work.
  The document's Parse, where the bytes have no kind.
  The document's Parse of a leaf.
  The document's Parse of an inner node.
  form; the document's Parse, whole.
  The region that draws in grangerlaw12.NodeParse (number 9), operation by operation. Written by draw6.py.
  NodeParse: what bytes are, the program's Parse and the document's answer alike.
-/
import Derived.Test.YtoobelcphcndoaaGreatNdRC
import Derived.Test.YtoobelcphcndoaaGreatNdE
import Derived.Test.YtoobelcphcndoaaGreatMsgG
import Derived.Test.YtoobelcphcndoaaGreatInRo
import Derived.Test.YtoobelcphcndoaaGreatNdPp
import Derived.Test.YtoobelcphcndoaaGreatDraw
namespace Go.Proofs.YtoobelcphcndoaaGreat
open Go.RowKit Go.Sort
set_option linter.unusedVariables false

theorem isOf_leaf {l : List UInt8} {v : Nv} (h : IsOf l v) (hk : numVal 1 l = 1) : ∃ xs, v = .leaf xs ∧ (Nv.leaf xs).good ∧ fitsL xs = true ∧ numVal 1 (numL 1 l) = (xs.length : Int) ∧
    ∀ j, j ≤ xs.length → itr itS j ([], numL 1 (numL 1 l), numE 1 (numL 1 l) (numE 1 l 0)) = (xs.take j, (xs.drop j).flatMap itB, 0) := by
  have hr := (isOf_rd h).1
  obtain ⟨h1, h2, h3⟩ := h
  cases v using Nv.two with
  | inn d =>
    rw [hk] at hr
    exact absurd (show (1 : Int) = 2 from hr) (by decide)
  | leaf xs =>
    obtain ⟨f1, f2⟩ := fits_its xs h1 h2
    have hb : l = UInt8.ofNat 1 :: (UInt8.ofNat xs.length :: (xs.flatMap itB)) := h3.symm
    obtain ⟨a, b, c⟩ := one_back 1 (by omega) (UInt8.ofNat xs.length :: (xs.flatMap itB)) 0
    obtain ⟨a2, b2, c2⟩ := one_back xs.length f2 (xs.flatMap itB) 0
    rw [← hb] at a b c
    refine ⟨xs, rfl, h1, h2, ?_, fun j hj => ?_⟩
    · rw [b, a2]
    · rw [b, c, b2, c2]
      have := itr_back itB itS itFit itS_app xs f1 [] j hj
      simpa using this
theorem isOf_inn {l : List UInt8} {v : Nv} (h : IsOf l v) (hk : numVal 1 l = 2) : ∃ d, v = .inn d ∧ (Nv.inn d).good ∧ fitsN d = true ∧ numVal 1 (numL 1 l) = (d.kids.length : Int) ∧ d.pivs.length = d.kids.length - 1 ∧
    (∀ j, j ≤ d.kids.length → itr kidS j ([], numL 1 (numL 1 l), numE 1 (numL 1 l) (numE 1 l 0)) = (d.kids.take j, (d.kids.drop j).flatMap kidB ++ (d.pivs.flatMap ntx ++ (UInt8.ofNat d.ms.length :: d.ms.flatMap mgB)), 0)) ∧
    (∀ j, j ≤ d.pivs.length → itr pivS j ([], d.pivs.flatMap ntx ++ (UInt8.ofNat d.ms.length :: d.ms.flatMap mgB), 0) = (d.pivs.take j, (d.pivs.drop j).flatMap ntx ++ (UInt8.ofNat d.ms.length :: d.ms.flatMap mgB), 0)) ∧
    numVal 1 (UInt8.ofNat d.ms.length :: d.ms.flatMap mgB) = (d.ms.length : Int) ∧ numL 1 (UInt8.ofNat d.ms.length :: d.ms.flatMap mgB) = d.ms.flatMap mgB ∧ numE 1 (UInt8.ofNat d.ms.length :: d.ms.flatMap mgB) 0 = 0 ∧
    (∀ j, j ≤ d.ms.length → itr msS j ([], d.ms.flatMap mgB, 0) = (d.ms.take j, (d.ms.drop j).flatMap mgB, 0)) := by
  have hr := (isOf_rd h).1
  obtain ⟨h1, h2, h3⟩ := h
  cases v using Nv.two with
  | leaf xs =>
    rw [hk] at hr
    exact absurd (show (2 : Int) = 1 from hr) (by decide)
  | inn d =>
    have hs := fits_small d h1 h2
    have hb : l = UInt8.ofNat 2 :: (UInt8.ofNat d.kids.length :: (d.kids.flatMap kidB ++ (d.pivs.flatMap ntx ++ (UInt8.ofNat d.ms.length :: d.ms.flatMap mgB)))) := h3.symm
    obtain ⟨a, b, c⟩ := one_back 2 (by omega) (UInt8.ofNat d.kids.length :: (d.kids.flatMap kidB ++ (d.pivs.flatMap ntx ++ (UInt8.ofNat d.ms.length :: d.ms.flatMap mgB)))) 0
    obtain ⟨a2, b2, c2⟩ := one_back d.kids.length hs.kl (d.kids.flatMap kidB ++ (d.pivs.flatMap ntx ++ (UInt8.ofNat d.ms.length :: d.ms.flatMap mgB))) 0
    obtain ⟨a3, b3, c3⟩ := one_back d.ms.length hs.ml (d.ms.flatMap mgB) 0
    rw [← hb] at a b c
    refine ⟨d, rfl, h1, h2, by rw [b, a2], hs.pl, fun j hj => ?_, fun j hj => ?_, a3, b3, c3, fun j hj => ?_⟩
    · rw [b, c, b2, c2]
      exact itr_back kidB kidS kidFit kidS_app d.kids hs.kids _ j hj
    · exact itr_back ntx pivS (fun x => x.length ≤ 8) pivS_app d.pivs hs.ps _ j hj
    · have := itr_back mgB msS (fun m => m.is = true) msS_app d.ms hs.ms [] j hj
      simpa using this

/-- What was read whole, and can be, is the node. -/
theorem leaf_of {l : List UInt8} {xs : List Rg} (hk : numVal 1 l = 1) (h : itr itS (numVal 1 (numL 1 l)).toNat ([], numL 1 (numL 1 l), numE 1 (numL 1 l) (numE 1 l 0)) = (xs, [], 0))
    (hr : Rising xs) (hn : ∀ x ∈ xs, x.lo ≠ []) (hf : fitsL xs = true) : IsOf l (.leaf xs) := by
  have h0 : rdIts (numL 1 l) (numE 1 l 0) = (xs, [], 0) := h
  have h1 : rdNode l 0 = (.leaf xs, [], 0) := by
    unfold rdNode
    rw [if_pos hk, h0]
  obtain ⟨g1, g2⟩ := rd_inv l 0 (.inl hk) (by rw [h1])
  rw [h1] at g2
  obtain ⟨i1, i2, i3, i4⟩ := rdIts_inv (numL 1 l) (numE 1 l 0) (by rw [h0])
  rw [h0] at i3
  dsimp only at i3 g2
  refine ⟨⟨ofE_of ?_ (rising_nodup _ hr), hr⟩, hf, by rw [g2, List.append_nil]⟩
  rw [List.all_eq_true]
  intro x hx
  have := i3 x hx
  unfold itOk isK
  simp only [Bool.and_eq_true, decide_eq_true_eq]
  exact ⟨⟨hn x hx, this.1⟩, this.2⟩
theorem inn_of {l : List UInt8} {ks : List Int} {ps : List (List UInt8)} {ms : List Mg} {l3 l4 : List UInt8} {e3 e4 : Int} (hk : numVal 1 l = 2)
    (h1 : itr kidS (numVal 1 (numL 1 l)).toNat ([], numL 1 (numL 1 l), numE 1 (numL 1 l) (numE 1 l 0)) = (ks, l3, e3)) (h2 : itr pivS (ks.length - 1) ([], l3, e3) = (ps, l4, e4))
    (h3 : itr msS (numVal 1 l4).toNat ([], numL 1 l4, numE 1 l4 e4) = (ms, [], 0)) (hr : RisingM ms) (hg : goodN ks ps = true) (hf : fitsN ⟨ks, ps, ms⟩ = true) : IsOf l (.inn ⟨ks, ps, ms⟩) := by
  have k1 : rdKids (numL 1 l) (numE 1 l 0) = (ks, l3, e3) := h1
  have k2 : rdPivs ks.length l3 e3 = (ps, l4, e4) := h2
  have k3 : rdMss l4 e4 = (ms, [], 0) := h3
  have k0 : rdInn (numL 1 l) (numE 1 l 0) = (⟨ks, ps, ms⟩, [], 0) := by
    unfold rdInn
    rw [k1]
    dsimp only
    rw [k2]
    dsimp only
    rw [k3]
  have hne : ¬ numVal 1 l = 1 := by omega
  have h0 : rdNode l 0 = (.inn ⟨ks, ps, ms⟩, [], 0) := by
    unfold rdNode
    rw [if_neg hne, k0]
  obtain ⟨g1, g2⟩ := rd_inv l 0 (.inr hk) (by rw [h0])
  rw [h0] at g2
  obtain ⟨_, i2, _⟩ := rdInn_inv (numL 1 l) (numE 1 l 0) (by rw [k0])
  rw [k0] at i2
  dsimp only at g2
  exact ⟨⟨hg, i2.ms, hr⟩, hf, by rw [g2, List.append_nil]⟩

/-- The document's Parse at work: the node that it answers at rb, the reader at p, the node that it builds at nb. -/
structure PaAt (w0 w : World) (rb p nb : Nat) (l : List UInt8) (e : Int) (x0 x1 x2 x3 x4 : Value) : Prop where
  st : Step noF w0 w
  lt : w0.heap.size ≤ rb ∧ rb < p ∧ p < nb
  ans : NdBox w rb (.bool false) (.slice none 0 0) (.slice none 0 0) (.slice none 0 0) (.slice none 0 0)
  rf : IsRef w p l e
  bx : NdBox w nb x0 x1 x2 x3 x4
theorem PaAt.step {w0 w w' : World} {rb p nb : Nat} {l : List UInt8} {e : Int} {x0 x1 x2 x3 x4 : Value} (h : PaAt w0 w rb p nb l e x0 x1 x2 x3 x4) (hs : Step noF w w') : PaAt w0 w' rb p nb l e x0 x1 x2 x3 x4 :=
  ⟨h.st.trans hs, h.lt, h.ans.step hs, h.rf.mono hs (fun x => x), h.bx.step hs⟩
theorem NdBox.mono {w w' : World} {g : Nat} {x0 x1 x2 x3 x4 : Value} {F : Nat → Prop} (h : NdBox w g x0 x1 x2 x3 x4) (hs : Step F w w') (hg : ¬ F g) : NdBox w' g x0 x1 x2 x3 x4 := (hs.block g (lt_of_block h) hg).trans h
theorem PaAt.read {w0 w w' : World} {rb p nb : Nat} {l l' : List UInt8} {e e' : Int} {x0 x1 x2 x3 x4 : Value} (h : PaAt w0 w rb p nb l e x0 x1 x2 x3 x4) (hs : Step (oneF p) w w') (hr : IsRef w' p l' e') : PaAt w0 w' rb p nb l' e' x0 x1 x2 x3 x4 :=
  have hl := h.lt
  ⟨h.st.then hs (fun i hi => .inr (by have : i = p := hi; omega)), h.lt, h.ans.mono hs (fun e => by have : rb = p := e; omega), hr, h.bx.mono hs (fun e => by have : nb = p := e; omega)⟩
theorem PaAt.grown {w0 w w' : World} {rb p nb base size n : Nat} {ty : TypeId} {v : Value} {xs : List Value} {l : List UInt8} {e : Int} {x0 x1 x2 x3 x4 : Value} (h : PaAt w0 w rb p nb l e x0 x1 x2 x3 x4) (ho : w.ownsRow base ty size v n xs) (hb : nb < base) (hg : w.grownBy w' v.ownBlock) : PaAt w0 w' rb p nb l e x0 x1 x2 x3 x4 := by
  have hs : Step (fun k => v.ownBlock = some k) w w' := (Step.refl (fun k => v.ownBlock = some k) _).grown hg (fun k hk => .inl hk)
  have hl := h.lt
  have hk : ∀ k, k ≤ nb → ¬ v.ownBlock = some k := fun k hk e => by
    have := (ho.lt k e).1
    omega
  exact ⟨h.st.then hs (fun i hi => .inr (by have := (ho.lt i hi).1; omega)), h.lt, h.ans.mono hs (hk _ (by omega)), h.rf.mono hs (hk _ (by omega)), h.bx.mono hs (hk _ (Nat.le_refl _))⟩
theorem PaAt.write {w0 w w' : World} {rb p nb g : Nat} {l : List UInt8} {e : Int} {x0 x1 x2 x3 x4 : Value} (h : PaAt w0 w rb p nb l e x0 x1 x2 x3 x4) (hs : Step (oneF g) w w') (hg : nb < g) : PaAt w0 w' rb p nb l e x0 x1 x2 x3 x4 :=
  have hl := h.lt
  ⟨h.st.then hs (fun i hi => .inr (by have : i = g := hi; omega)), h.lt, h.ans.mono hs (fun e => by have : rb = g := e; omega), h.rf.mono hs (fun e => by have : p = g := e; omega), h.bx.mono hs (fun e => by have : nb = g := e; omega)⟩
theorem PaAt.box {w0 w w' : World} {rb p nb : Nat} {l : List UInt8} {e : Int} {x0 x1 x2 x3 x4 y0 y1 y2 y3 y4 : Value} (h : PaAt w0 w rb p nb l e x0 x1 x2 x3 x4) (hs : Step (oneF nb) w w') (hy : NdBox w' nb y0 y1 y2 y3 y4) : PaAt w0 w' rb p nb l e y0 y1 y2 y3 y4 :=
  have hl := h.lt
  ⟨h.st.then hs (fun i hi => .inr (by have : i = nb := hi; omega)), h.lt, h.ans.mono hs (fun e => by have : rb = nb := e; omega), h.rf.mono hs (fun e => by have : p = nb := e; omega), hy⟩
theorem isRef_new (w : World) (l : List UInt8) : IsRef (w.alloc (.cells #[.string (str l), .bool false] 106)) w.heap.size l 0 := ⟨block_alloc_new _ _, .inl rfl, fun h => by simp at h⟩
/-- The state at its beginning. -/
theorem paAt_new (w : World) (l : List UInt8) : PaAt w (((w.alloc (.cells #[.bool false, .slice none 0 0, .slice none 0 0, .slice none 0 0, .slice none 0 0] 29)).alloc (.cells #[.string (str l), .bool false] 106)).alloc (.cells #[.bool false, .slice none 0 0, .slice none 0 0, .slice none 0 0, .slice none 0 0] 29))
    w.heap.size (w.heap.size + 1) (w.heap.size + 1 + 1) l 0 (.bool false) (.slice none 0 0) (.slice none 0 0) (.slice none 0 0) (.slice none 0 0) := by
  have a1 := ndBox_new w (.bool false) (.slice none 0 0) (.slice none 0 0) (.slice none 0 0) (.slice none 0 0)
  have a2 := isRef_new (w.alloc (.cells #[.bool false, .slice none 0 0, .slice none 0 0, .slice none 0 0, .slice none 0 0] 29)) l
  have a3 := ndBox_new ((w.alloc (.cells #[.bool false, .slice none 0 0, .slice none 0 0, .slice none 0 0, .slice none 0 0] 29)).alloc (.cells #[.string (str l), .bool false] 106)) (.bool false) (.slice none 0 0) (.slice none 0 0) (.slice none 0 0) (.slice none 0 0)
  rw [World.size_alloc] at a2
  rw [World.size_alloc, World.size_alloc] at a3
  exact ⟨(((Step.refl _ _).alloc _).alloc _).alloc _, ⟨Nat.le_refl _, by omega, by omega⟩, a1.step (((Step.refl _ _).alloc _).alloc _), a2.step ((Step.refl _ _).alloc _), a3⟩

/-- What the document's Parse answers. -/
def PaPost (w0 : World) (l : List UInt8) (e : Ending) (w' : World) : Prop :=
  ∃ (y : Bool) (a1 a2 a3 a4 : Option Addr) (n1 c1 n2 c2 n3 c3 n4 c4 : Nat), ((∃ v, IsOf l v ∧ e = .returned (.tuple #[.agg #[.bool y, .slice a1 n1 c1, .slice a2 n2 c2, .slice a3 n3 c3, .slice a4 n4 c4], .bool true]) ∧ NvV w' v (.agg #[.bool y, .slice a1 n1 c1, .slice a2 n2 c2, .slice a3 n3 c3, .slice a4 n4 c4]))
    ∨ ((∀ v, ¬ IsOf l v) ∧ e = .returned (.tuple #[.agg #[.bool y, .slice a1 n1 c1, .slice a2 n2 c2, .slice a3 n3 c3, .slice a4 n4 c4], .bool false]))) ∧ Step noF w0 w'
end Go.Proofs.YtoobelcphcndoaaGreat
namespace Go.Proofs.YtoobelcphcndoaaGreat
open Go.RowKit Go.Sort
set_option linter.unusedVariables false
set_option linter.unusedSimpArgs false
set_option maxRecDepth 20000
theorem NdBox.keep0 {w : World} {g : Nat} {x0 x1 x2 x3 x4 : Value} (h : NdBox w g x0 x1 x2 x3 x4) : NdBox (put5 w g x0 x1 x2 x3 x4) g x0 x1 x2 x3 x4 := h.put _ _ _ _ _
theorem isOf_err {l : List UInt8} (h : numE 1 (numL 1 l) (numE 1 l 0) = 5 ∨ ¬ (numVal 1 l = 1 ∨ numVal 1 l = 2)) : ∀ v, ¬ IsOf l v := by
  intro v hv
  have hk : numVal 1 l = 1 ∨ numVal 1 l = 2 := by
    rw [(isOf_rd hv).1]
    cases v using Nv.two with
    | leaf xs => exact .inl rfl
    | inn d => exact .inr rfl
  rcases h with h | h
  · rcases hk with hk | hk
    · obtain ⟨xs, _, _, _, _, h0⟩ := isOf_leaf hv hk
      have := h0 0 (Nat.zero_le _)
      simp only [itr, Prod.mk.injEq] at this
      omega
    · obtain ⟨d, _, _, _, _, _, h0, _⟩ := isOf_inn hv hk
      have := h0 0 (Nat.zero_le _)
      simp only [itr, Prod.mk.injEq] at this
      omega
  · exact h hk
set_option maxHeartbeats 2000000 in
theorem refParse_no (l : List UInt8) (hl : l.length ≤ 1000) (w : World) (h : numE 1 (numL 1 l) (numE 1 l 0) = 5 ∨ ¬ (numVal 1 l = 1 ∨ numVal 1 l = 2)) :
    Calls Tryz.prog 23 #[.string (str l)] w fun e w' => PaPost w l e w' := by
  have HNO := hid (isOf_err h)
  have hbd : l.length ≤ maxLen ∧ (numL 1 l).length ≤ maxLen := by have := numL_len 1 l; unfold maxLen; omega
  have HBD := hid hbd
  have P0 := paAt_new w l
  obtain ⟨W, hW⟩ : ∃ W, ((w.alloc (.cells #[.bool false, .slice none 0 0, .slice none 0 0, .slice none 0 0, .slice none 0 0] 29)).alloc (.cells #[.string (str l), .bool false] 106)).alloc (.cells #[.bool false, .slice none 0 0, .slice none 0 0, .slice none 0 0, .slice none 0 0] 29) = W := ⟨_, rfl⟩
  rw [hW] at P0
  obtain ⟨nb, hnb⟩ : ∃ g, w.heap.size + 1 + 1 = g := ⟨_, rfl⟩
  obtain ⟨p, hp⟩ : ∃ g, w.heap.size + 1 = g := ⟨_, rfl⟩
  obtain ⟨rb, hrb⟩ : ∃ g, w.heap.size = g := ⟨_, rfl⟩
  rw [hnb, hp, hrb] at P0
  have HP0 := hid P0
  have HW : Hid (_ ∧ _ ∧ _ ∧ _) := ⟨hW, hnb, hp, hrb⟩
  obtain ⟨k, hk⟩ : ∃ k, numVal 1 l = k := ⟨_, rfl⟩
  obtain ⟨l1, hl1⟩ : ∃ l1, numL 1 l = l1 := ⟨_, rfl⟩
  obtain ⟨e1, he1⟩ : ∃ e1, numE 1 l 0 = e1 := ⟨_, rfl⟩
  obtain ⟨n, hn⟩ : ∃ k, numVal 1 l1 = k := ⟨_, rfl⟩
  obtain ⟨l2, hl2⟩ : ∃ l2, numL 1 l1 = l2 := ⟨_, rfl⟩
  obtain ⟨e2, he2⟩ : ∃ e2, numE 1 l1 e1 = e2 := ⟨_, rfl⟩
  have cK := refInNum_any 1 p l 0 W P0.rf hbd.1
  have cN := fun (u : World) (hu : IsRef u p l1 e1) => refInNum_any 1 p l1 e1 u hu (by rw [← hl1]; exact hbd.2)
  rw [hk, hl1, he1] at cK
  simp only [hn, hl2, he2] at cN
  rw [hl1, he1, he2, hk] at h
  clear P0 hW hnb hp hrb hl hbd hk hl1 he1 hn hl2 he2
  go_enter Tryz.func23, Tryz.ntmps23
  go_upto_region 3 with fail
  rw [HW.out.1, HW.out.2.1, HW.out.2.2.1, HW.out.2.2.2]
  clear HW
  go_wp2_with fail
  refine cK.mono ?_
  rintro e w1 ⟨rfl, s1, r1⟩
  have P1 := hid (HP0.out.read s1 r1)
  clear s1 r1 HP0 cK
  go_wp2_with fail
  refine (cN _ P1.out.rf).mono ?_
  rintro e w2 ⟨rfl, s2, r2⟩
  have P2 := hid (P1.out.read s2 r2)
  clear s2 r2 P1 cN
  have AN := hid P2.out.ans
  obtain ⟨d0, d1, d2, d3, d4⟩ := AN.out.all
  have f0 := AN.out.fr 0
  have f1 := AN.out.fr 1
  have f2 := AN.out.fr 2
  have f3 := AN.out.fr 3
  have f4 := AN.out.fr 4
  have T3 := hid AN.out.keep0
  have SP := hid (step_put5 P2.out.st rb P2.out.lt.1 (.bool false) (.slice none 0 0) (.slice none 0 0) (.slice none 0 0) (.slice none 0 0))
  obtain ⟨y0, y1, y2, y3, y4⟩ := T3.out.all
  unfold put5 at y0 y1 y2 y3 y4
  have hz : e2 = 5 ∨ (e2 = 0 ∧ k < 1) ∨ (e2 = 0 ∧ ¬ k < 1 ∧ 2 < k) := by
    rcases P2.out.rf.two with h2 | h2
    · rcases h with h | h
      · omega
      · omega
    · exact .inl h2
  clear h
  rcases hz with rfl | ⟨rfl, hk⟩ | ⟨rfl, hk, hk2⟩
  · have c1 : w2.cell? ⟨p, 1, none⟩ = some (.bool true) := P2.out.rf.c1
    go_wp2_with fail
    refine bodyPost_ret (v := .tuple #[.agg #[.bool false, .slice none 0 0, .slice none 0 0, .slice none 0 0, .slice none 0 0], .bool false]) (by simp [results, Tryz.results23, go_sem, *]) rfl ⟨_, _, _, _, _, _, _, _, _, _, _, _, _, .inr ⟨HNO.out, rfl⟩, SP.out⟩
  · have c1 : w2.cell? ⟨p, 1, none⟩ = some (.bool false) := P2.out.rf.c1
    go_wp2_with fail
    refine bodyPost_ret (v := .tuple #[.agg #[.bool false, .slice none 0 0, .slice none 0 0, .slice none 0 0, .slice none 0 0], .bool false]) (by simp [results, Tryz.results23, go_sem, *]) rfl ⟨_, _, _, _, _, _, _, _, _, _, _, _, _, .inr ⟨HNO.out, rfl⟩, SP.out⟩
  · have c1 : w2.cell? ⟨p, 1, none⟩ = some (.bool false) := P2.out.rf.c1
    go_wp2_with fail
    refine bodyPost_ret (v := .tuple #[.agg #[.bool false, .slice none 0 0, .slice none 0 0, .slice none 0 0, .slice none 0 0], .bool false]) (by simp [results, Tryz.results23, go_sem, *]) rfl ⟨_, _, _, _, _, _, _, _, _, _, _, _, _, .inr ⟨HNO.out, rfl⟩, SP.out⟩
end Go.Proofs.YtoobelcphcndoaaGreat
namespace Go.Proofs.YtoobelcphcndoaaGreat
open Go.RowKit Go.Sort
set_option linter.unusedVariables false
set_option linter.unusedSimpArgs false
set_option maxRecDepth 20000
/-- The last key isn't smaller than the next. -/
def lastB (o : Option (List UInt8)) (x : List UInt8) : Bool := o.elim false (fun u => !decide (u < x))
theorem lastB_at {α : Type} (f : α → List UInt8) (xs : List α) (t : Nat) (h : xs.length = t + 1) (x : List UInt8) : lastB (xs.getLast?.map f) x = !decide (f (xs[t]'(by omega)) < x) := by
  have e : xs.length - 1 = t := by omega
  rw [List.getLast?_eq_getElem?, e, List.getElem?_eq_getElem (by omega)]
  rfl
theorem up_snoc {α : Type} (f : α → List UInt8) (xs : List α) (y : α) (h : xs.Pairwise (fun a b => f a < f b)) (hs : lastB (xs.getLast?.map f) (f y) = false) : (xs ++ [y]).Pairwise (fun a b => f a < f b) := by
  rcases List.eq_nil_or_concat xs with rfl | ⟨zs, u, rfl⟩
  · simp
  · rw [List.concat_eq_append] at h hs ⊢
    have hu : f u < f y := by simpa [lastB] using hs
    refine List.pairwise_append.2 ⟨h, by simp, fun a ha b hb => ?_⟩
    rw [List.mem_singleton] at hb
    subst hb
    rw [List.mem_append, List.mem_singleton] at ha
    rcases ha with ha | rfl
    · exact lt_trans' ((List.pairwise_append.1 h).2.2 a ha u (by simp)) hu
    · exact hu
theorem up_last {α : Type} (f : α → List UInt8) (xs : List α) (h : xs.Pairwise (fun a b => f a < f b)) (j : Nat) (hj : j < xs.length) : lastB ((xs.take j).getLast?.map f) (f xs[j]) = false := by
  rcases Nat.eq_zero_or_pos j with rfl | hp
  · simp [lastB]
  · obtain ⟨t, rfl⟩ : ∃ t, j = t + 1 := ⟨j - 1, by omega⟩
    rw [lastB_at f (xs.take (t + 1)) t (by rw [List.length_take]; omega), List.getElem_take]
    have := (List.pairwise_iff_getElem.1 h) t (t + 1) (by omega) hj (by omega)
    simpa using this
theorem take_snoc {α : Type} (xs : List α) (j : Nat) (acc : List α) (x : α) (h : xs.take (j + 1) = acc ++ [x]) (hl : acc.length = j) : ∃ hj : j < xs.length, xs[j] = x ∧ xs.take j = acc := by
  have h1 : (xs.take (j + 1)).length = j + 1 := by rw [h, List.length_append, hl]; rfl
  rw [List.length_take] at h1
  have hj : j < xs.length := by omega
  refine ⟨hj, ?_⟩
  rw [List.take_add_one, List.getElem?_eq_getElem hj] at h
  have h2 := List.append_inj h (by rw [List.length_take, hl]; omega)
  simp at h2
  exact ⟨h2.2, h2.1⟩

theorem ItAt.mono {w w' : World} {g : Nat} {x y : List UInt8} {F : Nat → Prop} (h : ItAt w g x y) (hs : Step F w w') (hg : ¬ F g) : ItAt w' g x y := (hs.block g (lt_of_block h) hg).trans h
theorem OwnIt.mono {w w' : World} {base : Nat} {v : Value} {xs : List Rg} {F : Nat → Prop} (h : OwnIt w base v xs) (hs : Step F w w') (hF : ∀ k, F k → k < base ∨ w.heap.size ≤ k) : OwnIt w' base v xs := owns_step h hs (fun k hk hf => by
  have a1 := h.lt k hk
  rcases hF k hf with a2 | a2
  · omega
  · omega)
theorem PaAt.num {w0 w : World} {rb p nb : Nat} {l : List UInt8} {e : Int} {x0 x1 x2 x3 x4 : Value} (h : PaAt w0 w rb p nb l e x0 x1 x2 x3 x4) : rb < w.heap.size ∧ p < w.heap.size ∧ nb < w.heap.size := ⟨lt_of_block h.ans, lt_of_block h.rf.blk, lt_of_block h.bx⟩
set_option maxHeartbeats 4000000 in
theorem refParse_leaf (l : List UInt8) (hl : l.length ≤ 1000) (w : World) (hk1 : numVal 1 l = 1) (he : numE 1 (numL 1 l) (numE 1 l 0) = 0) :
    Calls Tryz.prog 23 #[.string (str l)] w fun e w' => PaPost w l e w' := by
  have h0 := nil_str
  have HNO : Hid (∀ v, IsOf l v → _) := fun v hv => isOf_leaf hv hk1
  have HOF : Hid (∀ xs, _ → _ → _ → _ → _) := fun xs h1 h2 h3 h4 => leaf_of (l := l) (xs := xs) hk1 h1 h2 h3 h4
  have hbd : l.length ≤ maxLen ∧ (numL 1 l).length ≤ maxLen ∧ (numL 1 (numL 1 l)).length ≤ 1000 := by have := numL_len 1 l; have := numL_len 1 (numL 1 l); unfold maxLen; omega
  have HBD := hid hbd
  have P0 := paAt_new w l
  obtain ⟨W, hW⟩ : ∃ W, ((w.alloc (.cells #[.bool false, .slice none 0 0, .slice none 0 0, .slice none 0 0, .slice none 0 0] 29)).alloc (.cells #[.string (str l), .bool false] 106)).alloc (.cells #[.bool false, .slice none 0 0, .slice none 0 0, .slice none 0 0, .slice none 0 0] 29) = W := ⟨_, rfl⟩
  rw [hW] at P0
  obtain ⟨nb, hnb⟩ : ∃ g, w.heap.size + 1 + 1 = g := ⟨_, rfl⟩
  obtain ⟨p, hp⟩ : ∃ g, w.heap.size + 1 = g := ⟨_, rfl⟩
  obtain ⟨rb, hrb⟩ : ∃ g, w.heap.size = g := ⟨_, rfl⟩
  rw [hnb, hp, hrb] at P0
  have HP0 := hid P0
  have HW : Hid (_ ∧ _ ∧ _ ∧ _) := ⟨hW, hnb, hp, hrb⟩
  have hnn := numVal_nonneg (numL 1 l)
  obtain ⟨n, hn⟩ : ∃ n : Nat, numVal 1 (numL 1 l) = (n : Int) := ⟨(numVal 1 (numL 1 l)).toNat, by omega⟩
  have HN255 : Hid (n ≤ 255) := by show _ ≤ _; omega
  obtain ⟨l1, hl1⟩ : ∃ l1, numL 1 l = l1 := ⟨_, rfl⟩
  obtain ⟨e1, he1⟩ : ∃ e1, numE 1 l 0 = e1 := ⟨_, rfl⟩
  obtain ⟨l2, hl2⟩ : ∃ l2, numL 1 l1 = l2 := ⟨_, rfl⟩
  have cK := refInNum_any 1 p l 0 W P0.rf hbd.1
  have cN := fun (u : World) (hu : IsRef u p l1 e1) => refInNum_any 1 p l1 e1 u hu (by rw [← hl1]; exact hbd.2.1)
  rw [hk1, hl1, he1] at cK
  rw [hl1] at hn
  rw [hl1, he1] at he
  simp only [hn, hl2, he] at cN
  simp only [hl1, he1, hl2, he, hn] at HNO HOF HBD
  rw [Int.toNat_natCast] at HOF
  clear P0 hW hnb hp hrb hl hbd hl1 he1 hn hl2 he hk1 hnn
  go_enter Tryz.func23, Tryz.ntmps23
  go_upto_region 3 with fail
  rw [HW.out.1, HW.out.2.1, HW.out.2.2.1, HW.out.2.2.2]
  clear HW
  go_wp2_with fail
  refine cK.mono ?_
  rintro e w1 ⟨rfl, s1, r1⟩
  have P1 := hid (HP0.out.read s1 r1)
  clear s1 r1 HP0 cK
  go_wp2_with fail
  refine (cN _ P1.out.rf).mono ?_
  rintro e w2 ⟨rfl, s2, r2⟩
  have P2 := hid (P1.out.read s2 r2)
  clear s2 r2 P1 cN
  have c1 : w2.cell? ⟨p, 1, none⟩ = some (.bool false) := P2.out.rf.c1
  obtain ⟨b0, b1, b2, b3, b4⟩ := P2.out.bx.all
  have fb0 := P2.out.bx.fr 0
  have hx := P2.out.bx.set0 (.bool true)
  have P3 := hid (P2.out.box ((Step.refl (oneF nb) w2).setOne 0 (.bool true)) hx)
  obtain ⟨b0', b1', b2', b3', b4'⟩ := P3.out.bx.all
  clear hx
  go_wp2_with fail
  go_loopg [8] n (fun kx s8 wr => ∃ (j : Nat) (acc : List Rg) (la : List UInt8) (ea : Int) (a : Option Addr) (c : Nat), s8 = .int .i64 j ∧ j ≤ n ∧ n - j ≤ kx ∧ Hid (itr itS j ([], l2, 0) = (acc, la, ea)) ∧ Hid (acc.length = j) ∧ Hid (la.length ≤ 1000) ∧ Hid (PaAt w wr rb p nb la ea (.bool true) (.slice a j c) (.slice none 0 0) (.slice none 0 0) (.slice none 0 0)) ∧ Hid (OwnIt wr (nb + 1) (.slice a j c) acc) ∧ Hid (Rising acc ∧ ∀ x ∈ acc, x.lo ≠ []))
  case atStart => exact ⟨0, [], l2, 0, none, 0, rfl, Nat.zero_le _, by omega, hid rfl, hid rfl, hid HBD.out.2.2, P3, World.ownsRow_nil _ _ _ _, ⟨List.Pairwise.nil, fun x hx => by simp at hx⟩⟩
  case round =>
    clear c1 b0 b1 b2 b3 b4 b0' b1' b2' b3' b4' fb0
    obtain ⟨j, acc, la, ea, a, c, rfl, hjn, hkx, HI, HL, HA, PA, OI, HR⟩ := hrel
    obtain ⟨b0, b1, b2, b3, b4⟩ := PA.out.bx.all
    have fb1 := PA.out.bx.fr 1
    by_cases hjl : j < n
    · have hjz : (j : Int) < (n : Int) := by omega
      have HJL := hid hjl
      have cX := fun (u : World) (hu : IsRef u p la ea) => refInText_any 8 p la ea u hu (by have := HA.out; unfold maxLen; omega)
      have cY := fun (u : World) (hu : IsRef u p (textL 8 la) (textE 8 la ea)) => refInText_any 16 p (textL 8 la) (textE 8 la ea) u hu (by have := HA.out; have := textL_len 8 la; unfold maxLen; omega)
      have HS : Hid (itr itS (j + 1) ([], l2, 0) = itS (acc, la, ea)) := by show itS (itr itS j ([], l2, 0)) = _; rw [HI.out]
      obtain ⟨x, hx⟩ : ∃ x, textVal 8 la = x := ⟨_, rfl⟩
      obtain ⟨y, hy⟩ : ∃ y, textVal 16 (textL 8 la) = y := ⟨_, rfl⟩
      obtain ⟨lz, hz⟩ : ∃ z, textL 16 (textL 8 la) = z := ⟨_, rfl⟩
      obtain ⟨ez, hez⟩ : ∃ z, textE 16 (textL 8 la) (textE 8 la ea) = z := ⟨_, rfl⟩
      have hS2 : itS (acc, la, ea) = (acc ++ [⟨x, y⟩], lz, ez) := by unfold itS; dsimp only; rw [hx, hy, hz, hez]
      have HLZ : Hid (lz.length ≤ 1000) := by have a1 := textL_len 16 (textL 8 la); have a2 := textL_len 8 la; rw [hz] at a1; have := HA.out; show _ ≤ _; omega
      rw [hS2] at HS
      simp only [hx] at cX
      simp only [hy, hz, hez] at cY
      clear hS2 hx hy hz hez
      have T0 := hid (itAt_new wr [] [])
      have s0 := (Step.refl noF wr).alloc (.cells #[.string (str []), .string (str [])] 71)
      have PA0 := hid (PA.out.step s0)
      have OI0 : Hid (OwnIt (wr.alloc (.cells #[.string (str []), .string (str [])] 71)) (nb + 1) (.slice a j c) acc) := OwnIt.step OI.out s0
      have HG : Hid (nb < wr.heap.size ∧ p < wr.heap.size) := ⟨PA.out.num.2.2, PA.out.num.2.1⟩
      clear s0
      go_wp2_with fail
      refine (cX _ PA0.out.rf).mono ?_
      rintro e w3 ⟨rfl, s3, r3⟩
      have hgp : ¬ oneF p wr.heap.size := fun e => by have h1 : wr.heap.size = p := e; have := HG.out.2; omega
      have hgs : Step (oneF wr.heap.size) w3 (w3.setCell ⟨wr.heap.size, 0, none⟩ (.string (str x))) := (Step.refl (oneF wr.heap.size) w3).setOne 0 _
      have t3 := T0.out.mono s3 hgp
      have T1 := hid (t3.set0 x)
      have d0 := t3.c0
      have d1 := t3.c1
      have fd0 := t3.f 0
      have PA1 := hid ((PA0.out.read s3 r3).write hgs HG.out.1)
      have OWN : Hid (∀ k, (Value.slice a j c).ownBlock = some k → nb + 1 ≤ k ∧ k < wr.heap.size) := fun k hk => OI.out.lt k hk
      have HPN : Hid (p < nb) := PA.out.lt.2.2
      have OI1 : Hid (OwnIt (w3.setCell ⟨wr.heap.size, 0, none⟩ (.string (str x))) (nb + 1) (.slice a j c) acc) := owns_step (owns_step OI0.out s3 (fun k hk e => by have h1 : k = p := e; have := OWN.out k hk; have := HPN.out; omega)) hgs (fun k hk e => by have h1 : k = wr.heap.size := e; have := OWN.out k hk; omega)
      clear hgs t3 s3 r3
      clear b0 b1 b2 b3 b4 fb1
      go_wp2_with fail
      refine (cY _ PA1.out.rf).mono ?_
      rintro e w4 ⟨rfl, s4, r4⟩
      have hgs : Step (oneF wr.heap.size) w4 (w4.setCell ⟨wr.heap.size, 1, none⟩ (.string (str y))) := (Step.refl (oneF wr.heap.size) w4).setOne 1 _
      have t4 := T1.out.mono s4 hgp
      have hT2 := t4.set1 y
      have e0 := t4.c0
      have e1 := t4.c1
      have fe1 := t4.f 1
      have PA2 := (PA1.out.read s4 r4).write hgs HG.out.1
      have OI2 : OwnIt (w4.setCell ⟨wr.heap.size, 1, none⟩ (.string (str y))) (nb + 1) (.slice a j c) acc := owns_step (owns_step OI1.out s4 (fun k hk e => by have h1 : k = p := e; have := OWN.out k hk; have := HPN.out; omega)) hgs (fun k hk e => by have h1 : k = wr.heap.size := e; have := OWN.out k hk; omega)
      clear hgs t4 s4 r4 d0 d1 fd0 hgp
      obtain ⟨w5, hw5⟩ : ∃ w5, w4.setCell ⟨wr.heap.size, 1, none⟩ (.string (str y)) = w5 := ⟨_, rfl⟩
      rw [hw5] at hT2 PA2 OI2
      have HT2 := hid hT2
      have PB2 := hid PA2
      have OB2 := hid OI2
      have HW5 := hid hw5
      clear hT2 PA2 OI2 hw5 OI1 PA1 T1 OI0 PA0 T0
      go_upto_region 15 with fail
      rw [HW5.out]
      clear HW5 e0 e1 fe1
      obtain ⟨D, hD⟩ : ∃ D, (decide (x = []) || lastB (acc.getLast?.map Rg.lo) x) = D := ⟨_, rfl⟩
      have HD := hid hD
      clear hD
      go_cut [71] from 53 to 78 (fun s71 wx => s71 = .bool D ∧ Hid (Step noF w5 wx))
      case first =>
        have i0 := HT2.out.c0
        have i1 := HT2.out.c1
        obtain ⟨b0, b1, b2, b3, b4⟩ := PB2.out.bx.all
        have hSm := same_str
        by_cases hx : x = []
        · subst hx
          obtain rfl : D = true := by rw [← HD.out]; simp
          go_quiet (fail)
          go_wp2_with fail
          go_meet
          exact ⟨rfl, by first | exact (Step.refl noF w5).drewN _ | exact (Step.refl noF w5).drew | exact Step.refl noF w5⟩
        · have hx2 : ¬ (str x).toList = [] := by rw [str_toList]; exact hx
          rcases Nat.eq_zero_or_pos j with hj0 | hjp
          · subst hj0
            have ha : acc = [] := List.eq_nil_of_length_eq_zero HL.out
            obtain rfl : D = false := by rw [← HD.out, ha]; simp [hx, lastB]
            go_quiet (fail)
            go_wp2_with fail
            go_meet
            exact ⟨rfl, by first | exact (Step.refl noF w5).drewN _ | exact (Step.refl noF w5).drew | exact Step.refl noF w5⟩
          · obtain ⟨t, ht⟩ : ∃ t, j = t + 1 := ⟨j - 1, by omega⟩
            have hta : t < acc.length := by have := HL.out; omega
            obtain ⟨a2, c2, hsl, _, _, hrg⟩ := OB2.out.row
            injection hsl with q1 q2 q3
            subst q1
            obtain ⟨g, off, rfl, k0, -⟩ := hrg.at t hta
            have hd : D = !decide (acc[t].lo < x) := by rw [← HD.out, lastB_at Rg.lo acc t (HL.out.trans ht) x]; simp [hx]
            obtain ⟨u, hu⟩ : ∃ u, acc[t].lo = u := ⟨_, rfl⟩
            rw [hu] at k0 hd
            have hLe := less_str
            have hz1 : (0 : Int) < (j : Int) := by omega
            have hz3 : (t : Int) < (j : Int) := by omega
            have ez : (j : Int) - 1 = (t : Int) := by omega
            have hn3 : t < j := by omega
            have ew : IntKind.i64.wrap (t : Int) = (t : Int) := by have := HN255.out; rw [IntKind.wrap_i64]; omega
            clear hu hrg q2 q3 ht hta
            by_cases hlt : u < x
            · obtain rfl : D = false := by rw [hd]; simp [hlt]
              clear hd
              go_quiet (fail)
              go_wp2_with fail
              go_meet
              exact ⟨rfl, by first | exact (Step.refl noF w5).drewN _ | exact (Step.refl noF w5).drew | exact Step.refl noF w5⟩
            · obtain rfl : D = true := by rw [hd]; simp [hlt]
              clear hd
              go_quiet (fail)
              go_wp2_with fail
              go_meet
              exact ⟨rfl, by first | exact (Step.refl noF w5).drewN _ | exact (Step.refl noF w5).drew | exact Step.refl noF w5⟩
      case rest =>
        obtain ⟨rfl, S5⟩ := hcut
        have HT3 : Hid (ItAt wc wr.heap.size x y) := HT2.out.mono S5.out (fun h => h)
        have PB3 := hid (PB2.out.step S5.out)
        have OB3 : Hid (OwnIt wc (nb + 1) (.slice a j c) acc) := OwnIt.step OB2.out S5.out
        clear HT2 PB2 OB2 S5
        cases D with
        | true =>
          have HNO2 : Hid (∀ v, ¬ IsOf l v) := fun v hv => by
            obtain ⟨xs, rfl, hg, hf, hn, hall⟩ := HNO.out v hv
            have hnx : n = xs.length := by omega
            have h1 := hall (j + 1) (by have := HJL.out; omega)
            rw [HS.out] at h1
            simp only [Prod.mk.injEq] at h1
            obtain ⟨hj, hxj, htk⟩ := take_snoc xs j acc ⟨x, y⟩ h1.1.symm HL.out
            have hup := up_last Rg.lo xs hg.2 j hj
            have hok := List.all_eq_true.1 (ofE_ok hg.1).1 _ (List.getElem_mem hj)
            rw [htk, hxj] at hup
            rw [hxj] at hok
            unfold itOk isK at hok
            simp only [Bool.and_eq_true, decide_eq_true_eq] at hok
            have := HD.out
            rw [hup, decide_eq_false hok.1.1] at this
            exact absurd this (by decide)
          have AN := hid PB3.out.ans
          obtain ⟨d0, d1, d2, d3, d4⟩ := AN.out.all
          have f0 := AN.out.fr 0
          have f1 := AN.out.fr 1
          have f2 := AN.out.fr 2
          have f3 := AN.out.fr 3
          have f4 := AN.out.fr 4
          have T3 := hid AN.out.keep0
          have SP := hid (step_put5 PB3.out.st rb PB3.out.lt.1 (.bool false) (.slice none 0 0) (.slice none 0 0) (.slice none 0 0) (.slice none 0 0))
          obtain ⟨y0, y1, y2, y3, y4⟩ := T3.out.all
          unfold put5 at y0 y1 y2 y3 y4
          go_wp2_with fail
          refine bodyPost_ret (v := .tuple #[.agg #[.bool false, .slice none 0 0, .slice none 0 0, .slice none 0 0, .slice none 0 0], .bool false]) (by simp [results, Tryz.results23, go_sem, *]) rfl ⟨_, _, _, _, _, _, _, _, _, _, _, _, _, .inr ⟨HNO2.out, rfl⟩, SP.out⟩
        | false =>
          have hq : x ≠ [] ∧ lastB (acc.getLast?.map Rg.lo) x = false := by
            have := HD.out
            rw [Bool.or_eq_false_iff] at this
            exact ⟨by simpa using this.1, this.2⟩
          have HR2 : Hid (Rising (acc ++ [⟨x, y⟩]) ∧ ∀ z ∈ acc ++ [(⟨x, y⟩ : Rg)], z.lo ≠ []) := ⟨up_snoc Rg.lo acc ⟨x, y⟩ HR.out.1 hq.2, fun z hz => by
            rw [List.mem_append, List.mem_singleton] at hz
            rcases hz with hz | rfl
            · exact HR.out.2 z hz
            · exact hq.1⟩
          have HL2 : Hid ((acc ++ [(⟨x, y⟩ : Rg)]).length = j + 1) := by show _ = _; rw [List.length_append, HL.out]; rfl
          clear hq HD HR
          have i0 := HT3.out.c0
          have i1 := HT3.out.c1
          obtain ⟨b0, b1, b2, b3, b4⟩ := PB3.out.bx.all
          have s0 := (Step.refl noF wc).alloc (.cells #[.string (str x), .string (str y)] 71)
          have PB4 := hid (PB3.out.step s0)
          have OB4 : Hid (OwnIt (wc.alloc (.cells #[.string (str x), .string (str y)] 71)) (nb + 1) (.slice a j c) acc) := OwnIt.step OB3.out s0
          have HRG : Hid (RgsAt (wc.alloc (.cells #[.string (str x), .string (str y)] 71)) (some ⟨wc.heap.size, 0, none⟩) [⟨x, y⟩]) := rg_new wc x y
          have HLL : Hid (acc.length + 1 ≤ 1000000000) := by have := HL.out; have := HN255.out; have := HJL.out; show _ ≤ _; omega
          have HSZ : Hid (nb + 1 ≤ (wc.alloc (.cells #[.string (str x), .string (str y)] 71)).heap.size) := PB4.out.num.2.2
          clear s0
          go_wp2_with (at_builtin; refine wpList_append_it rfl _ _ rfl (nb + 1) _ acc rfl OB4.out (some ⟨wc.heap.size, 0, none⟩) 1 [⟨x, y⟩] rfl HRG.out (by intro h; cases h) HLL.out HSZ.out ?_)
          intro v' w6 o6 g6
          have O6 : OwnIt w6 (nb + 1) v' (acc ++ [⟨x, y⟩]) := by show w6.ownsRow _ _ _ _ _ _; rw [List.length_append]; exact o6
          obtain ⟨a6, c6, rfl, _, _, _⟩ := O6.row
          rw [HL2.out] at O6
          have P6 := PB4.out.grown OB4.out (Nat.lt_succ_self nb) g6
          have hgs : Step (oneF nb) w6 (w6.setCell ⟨nb, 1, none⟩ (.slice a6 (j + 1) c6)) := (Step.refl (oneF nb) w6).setOne 1 _
          have P7 := hid (P6.box hgs (P6.bx.set1 (.slice a6 (j + 1) c6)))
          have O7 : Hid (OwnIt (w6.setCell ⟨nb, 1, none⟩ (.slice a6 (j + 1) c6)) (nb + 1) (.slice a6 (j + 1) c6) (acc ++ [⟨x, y⟩])) := owns_step O6 hgs (fun k hk e => by have h1 : k = nb := e; have := (O6.lt k hk).1; omega)
          obtain ⟨d0, d1, d2, d3, d4⟩ := P6.bx.all
          have fd1 := P6.bx.fr 1
          have HL3 := hid HL2.out
          clear o6 O6 P6 hgs g6 b0 b1 b2 b3 b4 i0 i1
          rw [HL2.out]
          have wj : IntKind.i64.wrap ((j : Int) + 1) = (j : Int) + 1 := by have := HJL.out; have := HN255.out; rw [IntKind.wrap_i64]; omega
          go_wp2_with fail
          go_roundg (n - (j + 1))
          case measure => have := HJL.out; omega
          case rel => exact ⟨j + 1, acc ++ [⟨x, y⟩], lz, ez, a6, c6, by simp, by have := HJL.out; omega, Nat.le_refl _, HS, HL2, HLZ, P7, O7, HR2⟩
    · obtain rfl : j = n := by omega
      have hpr : p ≠ rb := by have := PA.out.lt; omega
      have hnr : nb ≠ rb := by have := PA.out.lt; omega
      have HIV : Hid (ea = 0 → ∀ x ∈ acc, itFit x) := fun h => by
        have := itr_inv itB itS itFit itS_inv l2 0 j
        rw [HI.out] at this
        exact (this h).2.2.2
      have k1 := PA.out.rf.c1
      have k0 := PA.out.rf.c0
      have HNE : Hid (¬ (la = [] ∧ ea = 0 ∧ fitsL acc = true) → ∀ v, ¬ IsOf l v) := fun h v hv => by
        obtain ⟨xs, rfl, hg, hf, hn, hall⟩ := HNO.out v hv
        have hnx : j = xs.length := by omega
        have h1 := hall j (by omega)
        rw [HI.out] at h1
        simp only [Prod.mk.injEq] at h1
        obtain ⟨h2, h3, h4⟩ := h1
        subst hnx
        rw [List.take_of_length_le (Nat.le_refl _)] at h2
        rw [List.drop_of_length_le (Nat.le_refl _)] at h3
        subst h2
        exact h ⟨by rw [h3]; rfl, h4, hf⟩
      obtain ⟨a2, c2, hsl, hnl2, hnl, hrg⟩ := OI.out.row
      injection hsl with q1 q2 q3
      subst q1 q3
      have HRG := hid hrg
      have HNL := hid hnl
      clear q2 hnl hrg hnl2
      have go_post : ∀ (wz : World) (b : Bool), Step (oneF rb) wr wz → (b = true → la = [] ∧ ea = 0 ∧ fitsL acc = true) → (b = false → ¬ (la = [] ∧ ea = 0 ∧ fitsL acc = true)) → PaPost w l (.returned (.tuple #[.agg #[.bool true, .slice a j c, .slice none 0 0, .slice none 0 0, .slice none 0 0], .bool b])) wz := fun wz b sz ht hf => by
        have hst : Step noF w wz := PA.out.st.then sz (fun i hi => .inr (by have h1 : i = rb := hi; have := PA.out.lt; omega))
        refine ⟨true, a, none, none, none, j, c, 0, 0, 0, 0, 0, 0, ?_, hst⟩
        cases b with
        | true =>
          obtain ⟨rfl, rfl, h3⟩ := ht rfl
          have hb : BoxOf wr rb := ⟨_, _, _, _, _, PA.out.ans, .inr ⟨_, rfl⟩, .inl ⟨_, _, _, rfl⟩, .inl ⟨_, _, _, rfl⟩, .inl ⟨_, _, _, rfl⟩, .inl ⟨_, _, _, rfl⟩⟩
          refine .inl ⟨.leaf acc, HOF.out acc HI.out HR.out.1 HR.out.2 h3, rfl, a, none, none, none, c, 0, 0, 0, ?_, ⟨hb.rgs sz HRG.out, HNL.out.1⟩, ⟨.inl rfl, fun _ => rfl, Nat.le_refl _⟩, ⟨.inl rfl, fun _ => rfl, Nat.le_refl _⟩, .inl rfl, fun _ => rfl⟩
          rw [show (Nv.leaf acc).its.length = j from HL.out]
          rfl
        | false => exact .inr ⟨HNE.out (hf rfl), rfl⟩
      have GP := hid go_post
      clear go_post
      rcases PA.out.rf.two with h5 | h5
      · subst h5
        by_cases hla : la = []
        · subst hla
          have cF := fun (u : World) (hu : RgsAt u a acc) => refFitsL_any acc ⟨by have := HL.out; have := HN255.out; omega, fun x hx => by have := HIV.out rfl x hx; unfold itFit at this; omega⟩ a none none none c 0 0 0 u hu
          obtain ⟨F, hF⟩ : ∃ F, fitsL acc = F := ⟨_, rfl⟩
          rw [HL.out, hF] at cF
          have hb : BoxOf wr rb := ⟨_, _, _, _, _, PA.out.ans, .inr ⟨_, rfl⟩, .inl ⟨_, _, _, rfl⟩, .inl ⟨_, _, _, rfl⟩, .inl ⟨_, _, _, rfl⟩, .inl ⟨_, _, _, rfl⟩⟩
          have cF2 := fun (u : World) (hu : Step (oneF rb) wr u) => cF u (hb.rgs hu HRG.out)
          have HFE := hid hF
          clear cF hb hF
          go_upto_region 18 with fail
          change Code.wp _ (Code.region 18 ((Tryz.f23.body.bind (regionOps 18)).getD #[]) true) _ _ _
          refine npp18f_go p nb rb a j c (str []) F wr hpr hnr k1 b0 b1 b2 b3 b4 k0 (str_toList []) cF2 _ rfl rfl rfl rfl PA.out.ans ?_
          intro ff wz sz bz f3
          have f3' : ff 3 = .bool F := f3
          have SZ := hid sz
          obtain ⟨z0, z1, z2, z3, z4⟩ := bz.all
          clear sz f3 cF2 bz b0 b1 b2 b3 b4 k0 k1 fb1
          rw [npp18b_lit, f3']
          go_wp2_with fail
          refine bodyPost_ret (v := .tuple #[.agg #[.bool true, .slice a j c, .slice none 0 0, .slice none 0 0, .slice none 0 0], .bool F]) (by simp [results, Tryz.results23, go_sem, *]) rfl (GP.out wz F SZ.out (fun h => ⟨by first | trivial | rfl, by first | trivial | rfl, HFE.out.trans h⟩) (fun h h2 => by rw [HFE.out, h] at h2; exact absurd h2.2.2 (by decide)))
        · go_upto_region 18 with fail
          change Code.wp _ (Code.region 18 ((Tryz.f23.body.bind (regionOps 18)).getD #[]) true) _ _ _
          refine npp18s_go p nb rb a j c (str la) false wr hpr hnr k1 b0 b1 b2 b3 b4 k0 (by rw [str_toList]; exact hla) _ rfl rfl rfl rfl PA.out.ans ?_
          intro ff wz sz bz f3
          have f3' : ff 3 = .bool false := f3
          have SZ := hid sz
          obtain ⟨z0, z1, z2, z3, z4⟩ := bz.all
          clear sz f3 bz b0 b1 b2 b3 b4 k0 k1 fb1
          rw [npp18b_lit, f3']
          go_wp2_with fail
          refine bodyPost_ret (v := .tuple #[.agg #[.bool true, .slice a j c, .slice none 0 0, .slice none 0 0, .slice none 0 0], .bool false]) (by simp [results, Tryz.results23, go_sem, *]) rfl (GP.out wz false SZ.out (fun h => by cases h) (fun _ h2 => hla h2.1))
      · subst h5
        go_upto_region 18 with fail
        change Code.wp _ (Code.region 18 ((Tryz.f23.body.bind (regionOps 18)).getD #[]) true) _ _ _
        refine npp18b_go p nb rb a j c (str []) false wr hpr hnr k1 b0 b1 b2 b3 b4 _ rfl rfl rfl rfl PA.out.ans ?_
        intro ff wz sz bz f3
        have f3' : ff 3 = .bool false := f3
        have SZ := hid sz
        obtain ⟨z0, z1, z2, z3, z4⟩ := bz.all
        clear sz f3 bz b0 b1 b2 b3 b4 k0 k1 fb1
        rw [npp18b_lit, f3']
        go_wp2_with fail
        refine bodyPost_ret (v := .tuple #[.agg #[.bool true, .slice a j c, .slice none 0 0, .slice none 0 0, .slice none 0 0], .bool false]) (by simp [results, Tryz.results23, go_sem, *]) rfl (GP.out wz false SZ.out (fun h => by cases h) (fun _ h2 => by have := h2.2.1; omega))
end Go.Proofs.YtoobelcphcndoaaGreat
namespace Go.Proofs.YtoobelcphcndoaaGreat
open Go.RowKit Go.Sort
set_option linter.unusedVariables false
set_option linter.unusedSimpArgs false
set_option maxRecDepth 20000
theorem refReadOk_any (p : Nat) (l : List UInt8) (e0 : Int) (w : World) (h : IsRef w p l e0) (hl : l.length ≤ maxLen) :
    Calls Tryz.prog 58 #[.pointer (some ⟨p, 0, none⟩)] w fun e w' => ∃ (k : Int) (x y : List UInt8) (lz : List UInt8) (ez : Int), e = .returned (.agg #[.int .i64 k, .string (str x), .string (str y)]) ∧ Step (oneF p) w w' ∧ IsRef w' p lz ez ∧ lz.length ≤ l.length ∧ (ez = 0 → rdOk l e0 = true ∧ rdM l = ⟨k, x, y⟩ ∧ lz = rdL l) ∧ (ez = 5 → rdOk l e0 = false) := by
  have c := refRead_any p l e0 w h hl
  have hle := rdL_len l
  obtain ⟨⟨k, x, y⟩, hm⟩ : ∃ m, rdM l = m := ⟨_, rfl⟩
  obtain ⟨L, hL⟩ : ∃ z, rdL l = z := ⟨_, rfl⟩
  obtain ⟨E, hE⟩ : ∃ z, rdE l e0 = z := ⟨_, rfl⟩
  rw [hm, hL, hE] at c
  rw [hL] at hle
  rw [hm, hL]
  have ho : rdOk l e0 = (decide (E = 0) && (Mg.mk k x y).is) := by rw [← hE, ← hm]; rfl
  rw [ho]
  clear hm hL hE ho
  refine c.mono ?_
  rintro e w' ⟨rfl, s, r⟩
  cases hi : (Mg.mk k x y).is with
  | true =>
    rw [hi, if_pos rfl, if_pos rfl] at r
    exact ⟨k, x, y, L, E, by rw [if_pos rfl]; rfl, s, r, hle, fun h0 => ⟨by rw [h0]; rfl, rfl, rfl⟩, fun h5 => by rw [h5]; rfl⟩
  | false =>
    rw [hi, if_neg (by simp), if_neg (by simp)] at r
    exact ⟨0, [], [], [], 5, by rw [if_neg (by simp)]; rfl, s, r, Nat.zero_le _, fun h0 => by omega, fun _ => by rw [Bool.and_false]⟩
set_option maxHeartbeats 8000000 in
theorem refParse_inn (l : List UInt8) (hl : l.length ≤ 1000) (w : World) (hk1 : numVal 1 l = 2) (he : numE 1 (numL 1 l) (numE 1 l 0) = 0) :
    Calls Tryz.prog 23 #[.string (str l)] w fun e w' => PaPost w l e w' := by
  have h0 := nil_str
  have HNO : Hid (∀ v, IsOf l v → _) := fun v hv => isOf_inn hv hk1
  have HOF : Hid (∀ ks ps ms l3 l4 e3 e4, _ → _ → _ → _ → _ → _ → _) := fun ks ps ms l3 l4 e3 e4 h1 h2 h3 h4 h5 h6 => inn_of (l := l) (ks := ks) (ps := ps) (ms := ms) (l3 := l3) (l4 := l4) (e3 := e3) (e4 := e4) hk1 h1 h2 h3 h4 h5 h6
  have hbd : l.length ≤ maxLen ∧ (numL 1 l).length ≤ maxLen ∧ (numL 1 (numL 1 l)).length ≤ 1000 := by have := numL_len 1 l; have := numL_len 1 (numL 1 l); unfold maxLen; omega
  have HBD := hid hbd
  have P0 := paAt_new w l
  obtain ⟨W, hW⟩ : ∃ W, ((w.alloc (.cells #[.bool false, .slice none 0 0, .slice none 0 0, .slice none 0 0, .slice none 0 0] 29)).alloc (.cells #[.string (str l), .bool false] 106)).alloc (.cells #[.bool false, .slice none 0 0, .slice none 0 0, .slice none 0 0, .slice none 0 0] 29) = W := ⟨_, rfl⟩
  rw [hW] at P0
  obtain ⟨nb, hnb⟩ : ∃ g, w.heap.size + 1 + 1 = g := ⟨_, rfl⟩
  obtain ⟨p, hp⟩ : ∃ g, w.heap.size + 1 = g := ⟨_, rfl⟩
  obtain ⟨rb, hrb⟩ : ∃ g, w.heap.size = g := ⟨_, rfl⟩
  rw [hnb, hp, hrb] at P0
  have HP0 := hid P0
  have HW : Hid (_ ∧ _ ∧ _ ∧ _) := ⟨hW, hnb, hp, hrb⟩
  have hnn := numVal_nonneg (numL 1 l)
  obtain ⟨n, hn⟩ : ∃ n : Nat, numVal 1 (numL 1 l) = (n : Int) := ⟨(numVal 1 (numL 1 l)).toNat, by omega⟩
  have HN255 : Hid (n ≤ 255) := by show _ ≤ _; omega
  obtain ⟨l1, hl1⟩ : ∃ l1, numL 1 l = l1 := ⟨_, rfl⟩
  obtain ⟨e1, he1⟩ : ∃ e1, numE 1 l 0 = e1 := ⟨_, rfl⟩
  obtain ⟨l2, hl2⟩ : ∃ l2, numL 1 l1 = l2 := ⟨_, rfl⟩
  have cK := refInNum_any 1 p l 0 W P0.rf hbd.1
  have cN := fun (u : World) (hu : IsRef u p l1 e1) => refInNum_any 1 p l1 e1 u hu (by rw [← hl1]; exact hbd.2.1)
  rw [hk1, hl1, he1] at cK
  rw [hl1] at hn
  rw [hl1, he1] at he
  simp only [hn, hl2, he] at cN
  simp only [hl1, he1, hl2, he, hn] at HNO HOF HBD
  rw [Int.toNat_natCast] at HOF
  clear P0 hW hnb hp hrb hl hbd hl1 he1 hn hl2 he hk1 hnn
  go_enter Tryz.func23, Tryz.ntmps23
  go_upto_region 3 with fail
  rw [HW.out.1, HW.out.2.1, HW.out.2.2.1, HW.out.2.2.2]
  clear HW
  go_wp2_with fail
  refine cK.mono ?_
  rintro e w1 ⟨rfl, s1, r1⟩
  have P1 := hid (HP0.out.read s1 r1)
  clear s1 r1 HP0 cK
  go_wp2_with fail
  refine (cN _ P1.out.rf).mono ?_
  rintro e w2 ⟨rfl, s2, r2⟩
  have P2 := hid (P1.out.read s2 r2)
  clear s2 r2 P1 cN
  have c1 : w2.cell? ⟨p, 1, none⟩ = some (.bool false) := P2.out.rf.c1
  obtain ⟨b0, b1, b2, b3, b4⟩ := P2.out.bx.all
  have fb0 := P2.out.bx.fr 0
  have hx := P2.out.bx.set0 (.bool false)
  have P3 := hid (P2.out.box ((Step.refl (oneF nb) w2).setOne 0 (.bool false)) hx)
  obtain ⟨b0', b1', b2', b3', b4'⟩ := P3.out.bx.all
  clear hx
  go_wp2_with fail
  go_loopg [10] n (fun kx s10 wr => ∃ (j : Nat) (acc : List Int) (la : List UInt8) (ea : Int) (a : Option Addr) (c : Nat), s10 = .int .i64 j ∧ j ≤ n ∧ n - j ≤ kx ∧ Hid (itr kidS j ([], l2, 0) = (acc, la, ea)) ∧ Hid (acc.length = j) ∧ Hid (la.length ≤ 1000) ∧ Hid (PaAt w wr rb p nb la ea (.bool false) (.slice none 0 0) (.slice a j c) (.slice none 0 0) (.slice none 0 0)) ∧ Hid (OwnI wr (nb + 1) (.slice a j c) acc))
  case atStart => exact ⟨0, [], l2, 0, none, 0, rfl, Nat.zero_le _, by omega, hid rfl, hid rfl, hid HBD.out.2.2, P3, World.ownsRow_nil _ _ _ _⟩
  case round =>
    clear c1 b0 b1 b2 b3 b4 b0' b1' b2' b3' b4' fb0
    obtain ⟨j, ks, l3, e3, ka, kc, rfl, hjn, hkx, HI, HL, HA, PA, OI⟩ := hrel
    obtain ⟨b0, b1, b2, b3, b4⟩ := PA.out.bx.all
    by_cases hjl : j < n
    · have hjz : (j : Int) < (n : Int) := by omega
      have HJL := hid hjl
      have cZ := fun (u : World) (hu : IsRef u p l3 e3) => refInNum_any 2 p l3 e3 u hu (by have := HA.out; unfold maxLen; omega)
      have HS : Hid (itr kidS (j + 1) ([], l2, 0) = kidS (ks, l3, e3)) := by show kidS (itr kidS j ([], l2, 0)) = _; rw [HI.out]
      obtain ⟨z, hz⟩ : ∃ z, numVal 2 l3 = z := ⟨_, rfl⟩
      obtain ⟨lz, hlz⟩ : ∃ z, numL 2 l3 = z := ⟨_, rfl⟩
      obtain ⟨ez, hez⟩ : ∃ z, numE 2 l3 e3 = z := ⟨_, rfl⟩
      have hS2 : kidS (ks, l3, e3) = (ks ++ [z], lz, ez) := by unfold kidS; dsimp only; rw [hz, hlz, hez]
      have HLZ : Hid (lz.length ≤ 1000) := by have a1 := numL_len 2 l3; rw [hlz] at a1; have := HA.out; show _ ≤ _; omega
      rw [hS2] at HS
      simp only [hz, hlz, hez] at cZ
      clear hS2 hz hlz hez
      have HL2 : Hid ((ks ++ [z]).length = j + 1) := by show _ = _; rw [List.length_append, HL.out]; rfl
      have HLL : Hid (ks.length + 1 ≤ 1000000000) := by have := HL.out; have := HN255.out; have := HJL.out; show _ ≤ _; omega
      have HPN : Hid (p < nb) := PA.out.lt.2.2
      go_upto_region 22 with fail
      go_region_law (first
        | (refine step_calls rfl rfl Tryz.func56 (by kernel_rfl) (by kernel_rfl) (args := #[.pointer (some ⟨p, 0, none⟩), .int .i64 2]) (by first | rfl | (simp [Act.eval, Act.put]; done)) ?_; refine (cZ _ (by first | exact PA.out.rf | exact (PA.out.step ((Step.refl noF wr).drewN _)).rf | exact (PA.out.step (Step.refl noF wr).drew).rf)).mono ?_; rintro e w3 ⟨rfl, s3, r3⟩; have PB := hid (PaAt.read (PaAt.step PA.out (by repeat (first | exact Step.refl _ _ | apply Step.drewN | apply Step.drew | apply Step.alloc))) s3 r3); have OB : Hid (OwnI w3 (nb + 1) (.slice ka j kc) ks) := owns_step (OwnI.step OI.out (by repeat (first | exact Step.refl _ _ | apply Step.drewN | apply Step.drew | apply Step.alloc))) s3 (fun k hk e => by have h1 : k = p := e; have := (OI.out.lt k hk).1; have := HPN.out; omega); obtain ⟨d0, d1, d2, d3, d4⟩ := PB.out.bx.all; have d2a := (PaAt.step PB.out ((Step.refl noF w3).alloc (.cells #[.int .i64 z] 3))).bx.all.2.2.1; clear s3 r3; refine ⟨_, rfl, ?_⟩)
        | (refine step_append_I rfl (.tmp 103) (.tmp 106) rfl (nb + 1) (.slice ka j kc) ks (by first | rfl | (simp [Act.eval, Act.put]; done)) (OwnI.step OB.out (by repeat (first | exact Step.refl _ _ | apply Step.drewN | apply Step.drew | apply Step.alloc))) _ _ [z] 1 rfl (by first | rfl | (simp [Act.eval, Act.put]; done)) (by first | exact int_one w3 z | exact rowAt_step (int_one w3 z) (by repeat (first | exact Step.refl _ _ | apply Step.drewN | apply Step.drew | apply Step.alloc)) (fun _ _ h => h) | exact int_one (w3.drewN _) z | exact int_one w3.drew z | exact rowAt_step (int_one (w3.drewN _) z) (by repeat (first | exact Step.refl _ _ | apply Step.drewN | apply Step.drew | apply Step.alloc)) (fun _ _ h => h)) (fun h => by cases h) HLL.out (PaAt.step PB.out (by repeat (first | exact Step.refl _ _ | apply Step.drewN | apply Step.drew | apply Step.alloc))).num.2.2 ?_; intro v6 w6 o6 g6; have O6 : OwnI w6 (nb + 1) v6 (ks ++ [z]) := o6; obtain ⟨a6, c6, rfl, _, _, _⟩ := O6.row; rw [HL2.out] at O6; have P6 := PaAt.grown (PaAt.step PB.out (by repeat (first | exact Step.refl _ _ | apply Step.drewN | apply Step.drew | apply Step.alloc))) (OwnI.step OB.out (by repeat (first | exact Step.refl _ _ | apply Step.drewN | apply Step.drew | apply Step.alloc))) (Nat.lt_succ_self nb) g6; obtain ⟨f0, f1, f2, f3, f4⟩ := P6.bx.all; have fd2 := P6.bx.fr 2))
      all_goals
        have hgs : Step (oneF nb) w6 (w6.setCell ⟨nb, 2, none⟩ (.slice a6 (j + 1) c6)) := (Step.refl (oneF nb) w6).setOne 2 _
        have P7 := hid (P6.box hgs (P6.bx.set2 (.slice a6 (j + 1) c6)))
        have O7 : Hid (OwnI (w6.setCell ⟨nb, 2, none⟩ (.slice a6 (j + 1) c6)) (nb + 1) (.slice a6 (j + 1) c6) (ks ++ [z])) := owns_step O6 hgs (fun k hk e => by have h1 : k = nb := e; have := (O6.lt k hk).1; omega)
        have HL3 := hid HL2.out
        clear o6 O6 P6 hgs g6 b0 b1 b2 b3 b4 d0 d1 d2 d3 d4 d2a
        first | rw [HL2.out] | rw [HL.out]
        have wj : IntKind.i64.wrap ((j : Int) + 1) = (j : Int) + 1 := by have := HJL.out; have := HN255.out; rw [IntKind.wrap_i64]; omega
        go_wp2_with fail
        go_roundg (n - (j + 1))
        case measure => have := HJL.out; omega
        case rel => exact ⟨j + 1, ks ++ [z], lz, ez, a6, c6, by simp, by have := HJL.out; omega, Nat.le_refl _, HS, HL2, HLZ, P7, O7⟩
    · obtain rfl : n = j := by omega
      have HIK := hid HI.out
      have HLK := hid HL.out
      have HLA := hid HA.out
      have PK := hid PA.out
      have OK := hid OI.out
      have hzm : ∃ zm : Int, (n : Int) - 1 = zm := ⟨_, rfl⟩
      obtain ⟨zm, ez⟩ := hzm
      have HZM : Hid (zm = (n : Int) - 1) := ez.symm
      have ew : IntKind.i64.wrap zm = zm := by have := HN255.out; rw [IntKind.wrap_i64]; omega
      clear HI HL HA PA OI b0 b1 b2 b3 b4 hjl
      go_wp2_with fail
      go_loopg [11] n (fun kx s11 wr => ∃ (j : Nat) (acc : List (List UInt8)) (la : List UInt8) (ea : Int) (a : Option Addr) (c : Nat), s11 = .int .i64 j ∧ j ≤ n - 1 ∧ n - j ≤ kx ∧ Hid (itr pivS j ([], l3, e3) = (acc, la, ea)) ∧ Hid (acc.length = j) ∧ Hid (la.length ≤ 1000) ∧ Hid (PaAt w wr rb p nb la ea (.bool false) (.slice none 0 0) (.slice ka n kc) (.slice a j c) (.slice none 0 0)) ∧ Hid (OwnI wr (nb + 1) (.slice ka n kc) ks) ∧ Hid (OwnT wr (nb + 1) (.slice a j c) acc))
      case atStart => exact ⟨0, [], l3, e3, none, 0, rfl, Nat.zero_le _, by omega, hid rfl, hid rfl, HLA, PK, OK, World.ownsRow_nil _ _ _ _⟩
      case round =>
        clear PK OK HLA
        obtain ⟨np, ps, l4, e4, pa, pc, rfl, hjn, hkx, HI, HL, HA, PA, OK, OI⟩ := hrel
        obtain ⟨b0, b1, b2, b3, b4⟩ := PA.out.bx.all
        by_cases hjl : np < n - 1
        · have hjz : (np : Int) < zm := by have := HZM.out; omega
          have HJL := hid hjl
          have cZ := fun (u : World) (hu : IsRef u p l4 e4) => refInText_any 8 p l4 e4 u hu (by have := HA.out; unfold maxLen; omega)
          have HS : Hid (itr pivS (np + 1) ([], l3, e3) = pivS (ps, l4, e4)) := by show pivS (itr pivS np ([], l3, e3)) = _; rw [HI.out]
          obtain ⟨z, hz⟩ : ∃ z, textVal 8 l4 = z := ⟨_, rfl⟩
          obtain ⟨lz, hlz⟩ : ∃ z, textL 8 l4 = z := ⟨_, rfl⟩
          obtain ⟨ez2, hez⟩ : ∃ z, textE 8 l4 e4 = z := ⟨_, rfl⟩
          have hS2 : pivS (ps, l4, e4) = (ps ++ [z], lz, ez2) := by unfold pivS; dsimp only; rw [hz, hlz, hez]
          have HLZ : Hid (lz.length ≤ 1000) := by have a1 := textL_len 8 l4; rw [hlz] at a1; have := HA.out; show _ ≤ _; omega
          rw [hS2] at HS
          simp only [hz, hlz, hez] at cZ
          clear hS2 hz hlz hez
          have HL2 : Hid ((ps ++ [z]).length = np + 1) := by show _ = _; rw [List.length_append, HL.out]; rfl
          have HLL : Hid (ps.length + 1 ≤ 1000000000) := by have := HL.out; have := HN255.out; have := HJL.out; show _ ≤ _; omega
          have HPN : Hid (p < nb) := PA.out.lt.2.2
          go_upto_region 26 with fail
          go_region_law (first
            | (refine step_calls rfl rfl Tryz.func57 (by kernel_rfl) (by kernel_rfl) (args := #[.pointer (some ⟨p, 0, none⟩), .int .i64 8]) (by first | rfl | (simp [Act.eval, Act.put]; done)) ?_; refine (cZ _ (by first | exact PA.out.rf | exact (PA.out.step ((Step.refl noF wr).drewN _)).rf | exact (PA.out.step (Step.refl noF wr).drew).rf)).mono ?_; rintro e w3 ⟨rfl, s3, r3⟩; have PB := hid (PaAt.read (PaAt.step PA.out (by repeat (first | exact Step.refl _ _ | apply Step.drewN | apply Step.drew | apply Step.alloc))) s3 r3); have OB : Hid (OwnT w3 (nb + 1) (.slice pa np pc) ps) := owns_step (OwnT.step OI.out (by repeat (first | exact Step.refl _ _ | apply Step.drewN | apply Step.drew | apply Step.alloc))) s3 (fun k hk e => by have h1 : k = p := e; have := (OI.out.lt k hk).1; have := HPN.out; omega); have OKB : Hid (OwnI w3 (nb + 1) (.slice ka n kc) ks) := owns_step (OwnI.step OK.out (by repeat (first | exact Step.refl _ _ | apply Step.drewN | apply Step.drew | apply Step.alloc))) s3 (fun k hk e => by have h1 : k = p := e; have := (OK.out.lt k hk).1; have := HPN.out; omega); obtain ⟨d0, d1, d2, d3, d4⟩ := PB.out.bx.all; have d3a := (PaAt.step PB.out ((Step.refl noF w3).alloc (.cells #[.string (str z)] 9))).bx.all.2.2.2.1; clear s3 r3; refine ⟨_, rfl, ?_⟩)
            | (refine step_append_T rfl (.tmp 118) (.tmp 121) rfl (nb + 1) (.slice pa np pc) ps (by first | rfl | (simp [Act.eval, Act.put]; done)) (OwnT.step OB.out (by repeat (first | exact Step.refl _ _ | apply Step.drewN | apply Step.drew | apply Step.alloc))) _ _ [z] 1 rfl (by first | rfl | (simp [Act.eval, Act.put]; done)) (by first | exact text_one w3 z | exact rowAt_step (text_one w3 z) (by repeat (first | exact Step.refl _ _ | apply Step.drewN | apply Step.drew | apply Step.alloc)) (fun _ _ h => h) | exact text_one (w3.drewN _) z | exact text_one w3.drew z | exact rowAt_step (text_one (w3.drewN _) z) (by repeat (first | exact Step.refl _ _ | apply Step.drewN | apply Step.drew | apply Step.alloc)) (fun _ _ h => h)) (fun h => by cases h) HLL.out (PaAt.step PB.out (by repeat (first | exact Step.refl _ _ | apply Step.drewN | apply Step.drew | apply Step.alloc))).num.2.2 ?_; intro v6 w6 o6 g6; have O6 : OwnT w6 (nb + 1) v6 (ps ++ [z]) := o6; have OK6 : OwnI w6 (nb + 1) (.slice ka n kc) ks := OwnI.beside (OwnI.step OKB.out (by repeat (first | exact Step.refl _ _ | apply Step.drewN | apply Step.drew | apply Step.alloc))) (OwnT.step OB.out (by repeat (first | exact Step.refl _ _ | apply Step.drewN | apply Step.drew | apply Step.alloc))) g6; obtain ⟨a6, c6, rfl, _, _, _⟩ := O6.row; rw [HL2.out] at O6; have P6 := PaAt.grown (PaAt.step PB.out (by repeat (first | exact Step.refl _ _ | apply Step.drewN | apply Step.drew | apply Step.alloc))) (OwnT.step OB.out (by repeat (first | exact Step.refl _ _ | apply Step.drewN | apply Step.drew | apply Step.alloc))) (Nat.lt_succ_self nb) g6; obtain ⟨f0, f1, f2, f3, f4⟩ := P6.bx.all; have fd3 := P6.bx.fr 3))
          all_goals
            have hgs : Step (oneF nb) w6 (w6.setCell ⟨nb, 3, none⟩ (.slice a6 (np + 1) c6)) := (Step.refl (oneF nb) w6).setOne 3 _
            have P7 := hid (P6.box hgs (P6.bx.set3 (.slice a6 (np + 1) c6)))
            have O7 : Hid (OwnT (w6.setCell ⟨nb, 3, none⟩ (.slice a6 (np + 1) c6)) (nb + 1) (.slice a6 (np + 1) c6) (ps ++ [z])) := owns_step O6 hgs (fun k hk e => by have h1 : k = nb := e; have := (O6.lt k hk).1; omega)
            have OK7 : Hid (OwnI (w6.setCell ⟨nb, 3, none⟩ (.slice a6 (np + 1) c6)) (nb + 1) (.slice ka n kc) ks) := owns_step OK6 hgs (fun k hk e => by have h1 : k = nb := e; have := (OK6.lt k hk).1; omega)
            have HL3 := hid HL2.out
            clear o6 O6 OK6 P6 hgs g6 b0 b1 b2 b3 b4 d0 d1 d2 d3 d4 d3a
            first | rw [HL2.out] | rw [HL.out]
            have wj : IntKind.i64.wrap ((np : Int) + 1) = (np : Int) + 1 := by have := HJL.out; have := HN255.out; rw [IntKind.wrap_i64]; omega
            go_wp2_with fail
            go_roundg (n - (np + 1))
            case measure => have := HJL.out; omega
            case rel => exact ⟨np + 1, ps ++ [z], lz, ez2, a6, c6, by simp, by have := HJL.out; omega, Nat.le_refl _, HS, HL2, HLZ, P7, OK7, O7⟩
        · have hjz : ¬ (np : Int) < zm := by have := HZM.out; omega
          have HNP : Hid (np = n - 1) := by show _ = _; omega
          have hnn := numVal_nonneg l4
          obtain ⟨m, hm⟩ : ∃ m : Nat, numVal 1 l4 = (m : Int) := ⟨(numVal 1 l4).toNat, by omega⟩
          obtain ⟨l5, hl5⟩ : ∃ z, numL 1 l4 = z := ⟨_, rfl⟩
          obtain ⟨e5, he5⟩ : ∃ z, numE 1 l4 e4 = z := ⟨_, rfl⟩
          have HM255 : Hid (m ≤ 255) := by show _ ≤ _; omega
          have HL5 : Hid (l5.length ≤ 1000) := by have := numL_len 1 l4; rw [hl5] at this; have := HA.out; show _ ≤ _; omega
          have cM := fun (u : World) (hu : IsRef u p l4 e4) => refInNum_any 1 p l4 e4 u hu (by have := HA.out; unfold maxLen; omega)
          simp only [hm, hl5, he5] at cM
          have HIM : Hid (∀ v, IsOf l v → ∃ d, v = .inn d ∧ (Nv.inn d).good ∧ fitsN d = true ∧ d.kids = ks ∧ d.pivs = ps ∧ m = d.ms.length ∧ ∀ j, j ≤ d.ms.length → itr msS j ([], l5, e5) = (d.ms.take j, (d.ms.drop j).flatMap mgB, 0)) := fun v hv => by
            obtain ⟨d, rfl, g1, g2, hn, hp, h1, h2, h3, h4, h5, h6⟩ := HNO.out v hv
            have hnk : n = d.kids.length := by omega
            have a1 := h1 n (by omega)
            rw [HIK.out, hnk, List.take_of_length_le (Nat.le_refl _), List.drop_of_length_le (Nat.le_refl _)] at a1
            simp only [Prod.mk.injEq, List.flatMap_nil, List.nil_append] at a1
            obtain ⟨q1, q2, q3⟩ := a1
            have hnp : np = d.pivs.length := by have := HNP.out; omega
            have a2 := h2 np (by omega)
            rw [← q2, ← q3, HI.out, hnp, List.take_of_length_le (Nat.le_refl _), List.drop_of_length_le (Nat.le_refl _)] at a2
            simp only [Prod.mk.injEq, List.flatMap_nil, List.nil_append] at a2
            obtain ⟨r1, r2, r3⟩ := a2
            rw [← r2] at h3 h4 h5
            have he6 : e5 = 0 := by rw [← he5, r3, q3]; exact h5
            have hl6 : l5 = d.ms.flatMap mgB := by rw [← hl5]; exact h4
            refine ⟨d, rfl, g1, g2, q1.symm, r1.symm, by omega, fun j hj => ?_⟩
            rw [he6, hl6]
            exact h6 j hj
          have HIQ : Hid (∀ ms, itr msS m ([], l5, e5) = (ms, [], 0) → RisingM ms → goodN ks ps = true → fitsN ⟨ks, ps, ms⟩ = true → IsOf l (.inn ⟨ks, ps, ms⟩)) := fun ms h1 h2 h3 h4 =>
            HOF.out ks ps ms l3 l4 e3 e4 HIK.out (by rw [HLK.out, ← HNP.out]; exact HI.out) (by rw [hm, hl5, he5, Int.toNat_natCast]; exact h1) h2 h3 h4
          have HLP := hid HL.out
          have P4 := hid PA.out
          have OK4 := hid OK.out
          have OT4 := hid OI.out
          have HPN : Hid (p < nb) := PA.out.lt.2.2
          clear HI HL HA PA OK OI b0 b1 b2 b3 b4 hjl hnn hm hl5 he5 HIK HNO HOF
          go_wp2_with fail
          refine (cM _ P4.out.rf).mono ?_
          rintro e w5 ⟨rfl, s5, r5⟩
          have P5 := hid (P4.out.read s5 r5)
          have OK5 : Hid (OwnI w5 (nb + 1) (.slice ka n kc) ks) := owns_step OK4.out s5 (fun k hk e => by have h1 : k = p := e; have := (OK4.out.lt k hk).1; have := HPN.out; omega)
          have OT5 : Hid (OwnT w5 (nb + 1) (.slice pa np pc) ps) := owns_step OT4.out s5 (fun k hk e => by have h1 : k = p := e; have := (OT4.out.lt k hk).1; have := HPN.out; omega)
          clear s5 r5 P4 OK4 OT4 cM hjz ez ew
          go_wp2_with fail
          go_loopg [13] m (fun kx s13 wr => ∃ (j : Nat) (acc : List Mg) (la : List UInt8) (ea : Int) (a : Option Addr) (c : Nat), s13 = .int .i64 j ∧ j ≤ m ∧ m - j ≤ kx ∧ Hid (itr msS j ([], l5, e5) = (acc, la, ea)) ∧ Hid (acc.length = j) ∧ Hid (la.length ≤ 1000) ∧ Hid (PaAt w wr rb p nb la ea (.bool false) (.slice none 0 0) (.slice ka n kc) (.slice pa np pc) (.slice a j c)) ∧ Hid (OwnI wr (nb + 1) (.slice ka n kc) ks) ∧ Hid (OwnT wr (nb + 1) (.slice pa np pc) ps) ∧ Hid (OwnB wr (nb + 1) (.slice a j c) acc) ∧ Hid (RisingM acc))
          case atStart => exact ⟨0, [], l5, e5, none, 0, rfl, Nat.zero_le _, by omega, hid rfl, hid rfl, HL5, P5, OK5, OT5, World.ownsRow_nil _ _ _ _, List.Pairwise.nil⟩
          case round =>
            clear P5 OK5 OT5 HL5
            obtain ⟨j, ms, l6, e6, ma, mc, rfl, hjn, hkx, HI, HL, HA, PA, OK, OT, OI, HR⟩ := hrel
            obtain ⟨b0, b1, b2, b3, b4⟩ := PA.out.bx.all
            by_cases hjl : j < m
            · have hjz : (j : Int) < (m : Int) := by omega
              have HJL := hid hjl
              have cR := fun (u : World) (hu : IsRef u p l6 e6) => refReadOk_any p l6 e6 u hu (by have := HA.out; unfold maxLen; omega)
              have HS : Hid (itr msS (j + 1) ([], l5, e5) = msS (ms, l6, e6)) := by show msS (itr msS j ([], l5, e5)) = _; rw [HI.out]
              go_wp2_with fail
              refine (cR _ PA.out.rf).mono ?_
              rintro e w3 ⟨k, x, y, lz, ez, rfl, s3, r3, hlz, hz0, hz5⟩
              have OWN : Hid (∀ q, nb + 1 ≤ q → q ≠ p) := fun q hq e => by have := HPN.out; omega
              have st := (Step.refl noF w3).alloc (.cells #[.int .i64 k, .string (str x), .string (str y)] 73)
              have HT4 := trip_new w3 73 ⟨k, x, y⟩
              dsimp only at HT4
              obtain ⟨w4, hw4⟩ : ∃ w4, w3.alloc (.cells #[.int .i64 k, .string (str x), .string (str y)] 73) = w4 := ⟨_, rfl⟩
              obtain ⟨gm, hgm⟩ : ∃ g, w3.heap.size = g := ⟨_, rfl⟩
              have PB := hid ((PA.out.read s3 r3).step st)
              have OKB : Hid (OwnI _ (nb + 1) (.slice ka n kc) ks) := OwnI.step (owns_step OK.out s3 (fun q hq e => OWN.out q (OK.out.lt q hq).1 e)) st
              have OTB : Hid (OwnT _ (nb + 1) (.slice pa np pc) ps) := OwnT.step (owns_step OT.out s3 (fun q hq e => OWN.out q (OT.out.lt q hq).1 e)) st
              have OBB : Hid (OwnB _ (nb + 1) (.slice ma j mc) ms) := OwnB.step (owns_step OI.out s3 (fun q hq e => OWN.out q (OI.out.lt q hq).1 e)) st
              rw [hw4] at PB OKB OTB OBB HT4
              rw [hgm] at HT4
              have HT5 := hid HT4
              have HW4 := hid (And.intro hw4 hgm)
              have HZ := hid (And.intro hz0 hz5)
              have HLZ : Hid (lz.length ≤ 1000) := by have := HA.out; show _ ≤ _; omega
              clear s3 r3 st hw4 hgm hz0 hz5 hlz HT4 PA OK OT OI HA cR b0 b1 b2 b3 b4
              go_upto_region 32 with fail
              rw [HW4.out.1, HW4.out.2]
              clear HW4
              obtain ⟨D, hD⟩ : ∃ D, ((ez == 5) || lastB (ms.getLast?.map Mg.key) x) = D := ⟨_, rfl⟩
              have HD := hid hD
              clear hD
              go_cut [154] from 134 to 163 (fun s154 wx => s154 = .bool D ∧ Hid (Step noF w4 wx))
              case first =>
                obtain ⟨i0, i1, i2, _, _, _⟩ := HT5.out.all
                obtain ⟨b0, b1, b2, b3, b4⟩ := PB.out.bx.all
                rcases PB.out.rf.two with h5 | h5
                · subst h5
                  have k1 : w4.cell? ⟨p, 1, none⟩ = some (.bool false) := PB.out.rf.c1
                  rcases Nat.eq_zero_or_pos j with hj0 | hjp
                  · subst hj0
                    have ha : ms = [] := List.eq_nil_of_length_eq_zero HL.out
                    obtain rfl : D = false := by rw [← HD.out, ha]; simp [lastB]
                    go_quiet (fail)
                    go_wp2_with fail
                    go_meet
                    exact ⟨rfl, by first | exact (Step.refl noF w4).drewN _ | exact (Step.refl noF w4).drew | exact Step.refl noF w4⟩
                  · obtain ⟨t, ht⟩ : ∃ t, j = t + 1 := ⟨j - 1, by omega⟩
                    have hta : t < ms.length := by have := HL.out; omega
                    obtain ⟨a2, c2, hsl, _, _, hrg⟩ := owns_msgs OBB.out
                    injection hsl with q1 q2 q3
                    subst q1
                    obtain ⟨g, off, rfl, -, k0, -⟩ := hrg.at t hta
                    have hd : D = !decide (ms[t].key < x) := by rw [← HD.out, lastB_at Mg.key ms t (HL.out.trans ht) x]; simp
                    obtain ⟨u, hu⟩ : ∃ u, ms[t].key = u := ⟨_, rfl⟩
                    rw [hu] at k0 hd
                    have hLe := less_str
                    have hz1 : (0 : Int) < (j : Int) := by omega
                    have hz3 : (t : Int) < (j : Int) := by omega
                    have ez : (j : Int) - 1 = (t : Int) := by omega
                    have hn3 : t < j := by omega
                    have ew : IntKind.i64.wrap (t : Int) = (t : Int) := by have := HM255.out; rw [IntKind.wrap_i64]; omega
                    clear hu hrg q2 q3 ht hta
                    by_cases hlt : u < x
                    · obtain rfl : D = false := by rw [hd]; simp [hlt]
                      clear hd
                      go_quiet (fail)
                      go_wp2_with fail
                      go_meet
                      exact ⟨rfl, by first | exact (Step.refl noF w4).drewN _ | exact (Step.refl noF w4).drew | exact Step.refl noF w4⟩
                    · obtain rfl : D = true := by rw [hd]; simp [hlt]
                      clear hd
                      go_quiet (fail)
                      go_wp2_with fail
                      go_meet
                      exact ⟨rfl, by first | exact (Step.refl noF w4).drewN _ | exact (Step.refl noF w4).drew | exact Step.refl noF w4⟩
                · subst h5
                  have k1 : w4.cell? ⟨p, 1, none⟩ = some (.bool true) := PB.out.rf.c1
                  obtain rfl : D = true := by rw [← HD.out]; rfl
                  go_quiet (fail)
                  go_wp2_with fail
                  go_meet
                  exact ⟨rfl, by first | exact (Step.refl noF w4).drewN _ | exact (Step.refl noF w4).drew | exact Step.refl noF w4⟩
              case rest =>
                obtain ⟨rfl, S5⟩ := hcut
                have HT6 := hid (HT5.out.step S5.out)
                have PB3 := hid (PB.out.step S5.out)
                have OKC : Hid (OwnI wc (nb + 1) (.slice ka n kc) ks) := OwnI.step OKB.out S5.out
                have OTC : Hid (OwnT wc (nb + 1) (.slice pa np pc) ps) := OwnT.step OTB.out S5.out
                have OBC : Hid (OwnB wc (nb + 1) (.slice ma j mc) ms) := OwnB.step OBB.out S5.out
                clear HT5 PB OKB OTB OBB S5
                cases D with
                | true =>
                  have HNO2 : Hid (∀ v, ¬ IsOf l v) := fun v hv => by
                    obtain ⟨d, rfl, hg, hf, _, _, hm, hall⟩ := HIM.out v hv
                    have h1 := hall (j + 1) (by have := HJL.out; omega)
                    rw [HS.out] at h1
                    unfold msS at h1
                    dsimp only at h1
                    rcases PB3.out.rf.two with h5 | h5
                    · obtain ⟨z1, z2, z3⟩ := HZ.out.1 h5
                      rw [if_pos z1, z2] at h1
                      simp only [Prod.mk.injEq] at h1
                      obtain ⟨hj, hxj, htk⟩ := take_snoc d.ms j ms ⟨k, x, y⟩ h1.1.symm HL.out
                      have hup := up_last Mg.key d.ms hg.2.2 j hj
                      rw [htk, hxj] at hup
                      have := HD.out
                      rw [hup, h5] at this
                      exact absurd this (by decide)
                    · rw [HZ.out.2 h5, if_neg (by simp)] at h1
                      simp only [Prod.mk.injEq] at h1
                      omega
                  have AN := hid PB3.out.ans
                  obtain ⟨d0, d1, d2, d3, d4⟩ := AN.out.all
                  have f0 := AN.out.fr 0
                  have f1 := AN.out.fr 1
                  have f2 := AN.out.fr 2
                  have f3 := AN.out.fr 3
                  have f4 := AN.out.fr 4
                  have T3 := hid AN.out.keep0
                  have SP := hid (step_put5 PB3.out.st rb PB3.out.lt.1 (.bool false) (.slice none 0 0) (.slice none 0 0) (.slice none 0 0) (.slice none 0 0))
                  obtain ⟨y0, y1, y2, y3, y4⟩ := T3.out.all
                  unfold put5 at y0 y1 y2 y3 y4
                  go_wp2_with fail
                  refine bodyPost_ret (v := .tuple #[.agg #[.bool false, .slice none 0 0, .slice none 0 0, .slice none 0 0, .slice none 0 0], .bool false]) (by simp [results, Tryz.results23, go_sem, *]) rfl ⟨_, _, _, _, _, _, _, _, _, _, _, _, _, .inr ⟨HNO2.out, rfl⟩, SP.out⟩
                | false =>
                  have hq : ez = 0 ∧ lastB (ms.getLast?.map Mg.key) x = false := by
                    have := HD.out
                    rw [Bool.or_eq_false_iff] at this
                    rcases PB3.out.rf.two with h5 | h5
                    · exact ⟨h5, this.2⟩
                    · rw [h5] at this; exact absurd this.1 (by decide)
                  obtain ⟨hez, hqq⟩ := hq
                  obtain ⟨z1, z2, z3⟩ := HZ.out.1 hez
                  have HS2 : Hid (itr msS (j + 1) ([], l5, e5) = (ms ++ [⟨k, x, y⟩], lz, ez)) := by
                    show _ = _
                    rw [HS.out]
                    unfold msS
                    dsimp only
                    rw [if_pos z1, z2, z3, hez]
                  have HR2 : Hid (RisingM (ms ++ [⟨k, x, y⟩])) := up_snoc Mg.key ms ⟨k, x, y⟩ HR.out hqq
                  have HL2 : Hid ((ms ++ [(⟨k, x, y⟩ : Mg)]).length = j + 1) := by show _ = _; rw [List.length_append, HL.out]; rfl
                  clear hez hqq z1 z2 z3 HD HR HS HZ
                  obtain ⟨i0, i1, i2, _, _, _⟩ := HT6.out.all
                  obtain ⟨b0, b1, b2, b3, b4⟩ := PB3.out.bx.all
                  have s0 := (Step.refl noF wc).alloc (.cells #[.int .i64 k, .string (str x), .string (str y)] 73)
                  have PB4 := hid (PB3.out.step s0)
                  have OB4 : Hid (OwnB (wc.alloc (.cells #[.int .i64 k, .string (str x), .string (str y)] 73)) (nb + 1) (.slice ma j mc) ms) := OwnB.step OBC.out s0
                  have OK4 : Hid (OwnI (wc.alloc (.cells #[.int .i64 k, .string (str x), .string (str y)] 73)) (nb + 1) (.slice ka n kc) ks) := OwnI.step OKC.out s0
                  have OT4 : Hid (OwnT (wc.alloc (.cells #[.int .i64 k, .string (str x), .string (str y)] 73)) (nb + 1) (.slice pa np pc) ps) := OwnT.step OTC.out s0
                  have HRG : Hid (MsgsAt (wc.alloc (.cells #[.int .i64 k, .string (str x), .string (str y)] 73)) noF (some ⟨wc.heap.size, 0, none⟩) [⟨k, x, y⟩]) := msB_new wc k x y
                  have HLL : Hid (ms.length + 1 ≤ 1000000000) := by have := HL.out; have := HM255.out; have := HJL.out; show _ ≤ _; omega
                  have HSZ : Hid (nb + 1 ≤ (wc.alloc (.cells #[.int .i64 k, .string (str x), .string (str y)] 73)).heap.size) := PB4.out.num.2.2
                  clear s0 PB3 OKC OTC OBC
                  go_wp2_with (at_builtin; refine wpList_append_mB rfl _ _ rfl (nb + 1) _ ms rfl OB4.out (some ⟨wc.heap.size, 0, none⟩) 1 [⟨k, x, y⟩] rfl HRG.out (by intro h; cases h) HLL.out HSZ.out ?_)
                  intro v' w6 o6 g6
                  have O6 : OwnB w6 (nb + 1) v' (ms ++ [⟨k, x, y⟩]) := by show w6.ownsRow _ _ _ _ _ _; rw [List.length_append]; exact o6
                  have OK6 : OwnI w6 (nb + 1) (.slice ka n kc) ks := own_apart OK4.out OB4.out (by decide) g6
                  have OT6 : OwnT w6 (nb + 1) (.slice pa np pc) ps := own_apart OT4.out OB4.out (by decide) g6
                  obtain ⟨a6, c6, rfl, _, _, _⟩ := owns_msgs O6
                  rw [HL2.out] at O6
                  have P6 := PB4.out.grown OB4.out (Nat.lt_succ_self nb) g6
                  have hgs : Step (oneF nb) w6 (w6.setCell ⟨nb, 4, none⟩ (.slice a6 (j + 1) c6)) := (Step.refl (oneF nb) w6).setOne 4 _
                  have P7 := hid (P6.box hgs (P6.bx.set4 (.slice a6 (j + 1) c6)))
                  have O7 : Hid (OwnB (w6.setCell ⟨nb, 4, none⟩ (.slice a6 (j + 1) c6)) (nb + 1) (.slice a6 (j + 1) c6) (ms ++ [⟨k, x, y⟩])) := owns_step O6 hgs (fun q hk e => by have h1 : q = nb := e; have := (O6.lt q hk).1; omega)
                  have OK7 : Hid (OwnI (w6.setCell ⟨nb, 4, none⟩ (.slice a6 (j + 1) c6)) (nb + 1) (.slice ka n kc) ks) := owns_step OK6 hgs (fun q hk e => by have h1 : q = nb := e; have := (OK6.lt q hk).1; omega)
                  have OT7 : Hid (OwnT (w6.setCell ⟨nb, 4, none⟩ (.slice a6 (j + 1) c6)) (nb + 1) (.slice pa np pc) ps) := owns_step OT6 hgs (fun q hk e => by have h1 : q = nb := e; have := (OT6.lt q hk).1; omega)
                  obtain ⟨d0, d1, d2, d3, d4⟩ := P6.bx.all
                  have fd4 := P6.bx.fr 4
                  clear o6 O6 OK6 OT6 P6 hgs g6 b0 b1 b2 b3 b4 i0 i1 i2 OB4 OK4 OT4 HRG HSZ PB4 HT6
                  first | rw [HL2.out] | rw [HL.out]
                  have wj : IntKind.i64.wrap ((j : Int) + 1) = (j : Int) + 1 := by have := HJL.out; have := HM255.out; rw [IntKind.wrap_i64]; omega
                  go_wp2_with fail
                  go_roundg (m - (j + 1))
                  case measure => have := HJL.out; omega
                  case rel => exact ⟨j + 1, ms ++ [⟨k, x, y⟩], lz, ez, a6, c6, by simp, by have := HJL.out; omega, Nat.le_refl _, HS2, HL2, HLZ, P7, OK7, OT7, O7, HR2⟩
            · obtain rfl : m = j := by omega
              have hpr : p ≠ rb := by have := PA.out.lt; omega
              have hnr : nb ≠ rb := by have := PA.out.lt; omega
              have HIV : Hid (e6 = 0 → GoodM ms) := fun h => by
                have := itr_inv mgB msS (fun m => m.is = true) msS_inv l5 e5 m
                rw [HI.out] at this
                exact (this h).2.2.2
              have k1 := PA.out.rf.c1
              have k0 := PA.out.rf.c0
              have HNE : Hid (¬ (l6 = [] ∧ e6 = 0 ∧ goodN ks ps = true ∧ fitsN ⟨ks, ps, ms⟩ = true) → ∀ v, ¬ IsOf l v) := fun h v hv => by
                obtain ⟨d, rfl, hg, hf, q1, q2, hm, hall⟩ := HIM.out v hv
                have h1 := hall m (by omega)
                rw [HI.out, hm, List.take_of_length_le (Nat.le_refl _), List.drop_of_length_le (Nat.le_refl _)] at h1
                simp only [Prod.mk.injEq, List.flatMap_nil] at h1
                obtain ⟨h2, h3, h4⟩ := h1
                refine h ⟨h3, h4, ?_, ?_⟩
                · rw [← q1, ← q2]; exact hg.1
                · rw [← q1, ← q2, h2]; exact hf
              obtain ⟨a2, c2, hsl, hkl, hkn, hrk⟩ := OK.out.row
              injection hsl with q1 q2 q3
              subst q1 q3
              obtain ⟨a2, c2, hsl, hpl, hpn, hrp⟩ := OT.out.row
              injection hsl with q1 q4 q3
              subst q1 q3
              obtain ⟨a2, c2, hsl, hml, hmn, hrm⟩ := owns_msgs OI.out
              injection hsl with q1 q5 q3
              subst q1 q3
              have HRK := hid hrk
              have HRP := hid hrp
              have HRM := hid hrm
              have HNN := hid (And.intro (And.intro hkn.1 hkl) (And.intro (And.intro hpn.1 hpl) hmn.1))
              clear q2 q4 q5 hkl hkn hrk hpl hpn hrp hml hmn hrm
              have hb : BoxOf wr rb := ⟨_, _, _, _, _, PA.out.ans, .inr ⟨_, rfl⟩, .inl ⟨_, _, _, rfl⟩, .inl ⟨_, _, _, rfl⟩, .inl ⟨_, _, _, rfl⟩, .inl ⟨_, _, _, rfl⟩⟩
              have go_post : ∀ (wz : World) (b : Bool), Step (oneF rb) wr wz → (b = true → l6 = [] ∧ e6 = 0 ∧ goodN ks ps = true ∧ fitsN ⟨ks, ps, ms⟩ = true) → (b = false → ¬ (l6 = [] ∧ e6 = 0 ∧ goodN ks ps = true ∧ fitsN ⟨ks, ps, ms⟩ = true)) → PaPost w l (.returned (.tuple #[.agg #[.bool false, .slice none 0 0, .slice ka n kc, .slice pa np pc, .slice ma m mc], .bool b])) wz := fun wz b sz ht hf => by
                have hst : Step noF w wz := PA.out.st.then sz (fun i hi => .inr (by have h1 : i = rb := hi; have := PA.out.lt; omega))
                refine ⟨false, none, ka, pa, ma, 0, 0, n, kc, np, pc, m, mc, ?_, hst⟩
                cases b with
                | true =>
                  obtain ⟨rfl, rfl, h3, h4⟩ := ht rfl
                  refine .inl ⟨.inn ⟨ks, ps, ms⟩, HIQ.out ms HI.out HR.out h3 h4, rfl, none, ka, pa, ma, 0, kc, pc, mc, ?_, ⟨.inl rfl, fun _ => rfl⟩, ⟨hb.ints sz HRK.out, HNN.out.1⟩, ⟨hb.txs sz HRP.out, HNN.out.2.1⟩, hb.msgs sz HRM.out, HNN.out.2.2⟩
                  rw [show (Nv.inn ⟨ks, ps, ms⟩).nd.kids.length = n from HLK.out, show (Nv.inn ⟨ks, ps, ms⟩).nd.pivs.length = np from HLP.out, show (Nv.inn ⟨ks, ps, ms⟩).nd.ms.length = m from HL.out]
                  rfl
                | false => exact .inr ⟨HNE.out (hf rfl), rfl⟩
              have GP := hid go_post
              have cG := fun (u : World) (hu : Step (oneF rb) wr u) => refGood_any ks ps (by have := HLK.out; have := HN255.out; omega) (by have := HLP.out; have := HN255.out; have := HNP.out; omega) ka pa kc pc u (hb.ints hu HRK.out) (hb.txs hu HRP.out)
              have cF := fun (he : e6 = 0) (u : World) (hu : Step (oneF rb) wr u) => refFitsI_any ⟨ks, ps, ms⟩ (by show ks.length ≤ _; have := HLK.out; have := HN255.out; omega) (good_small (HIV.out he) (by show ms.length ≤ _; have := HL.out; have := HM255.out; omega)) none ka pa ma 0 kc pc mc u (hb.ints hu HRK.out) (hb.msgs hu HRM.out)
              obtain ⟨G, hG⟩ : ∃ G, goodN ks ps = G := ⟨_, rfl⟩
              obtain ⟨F, hF⟩ : ∃ F, fitsN ⟨ks, ps, ms⟩ = F := ⟨_, rfl⟩
              dsimp only at cF
              rw [HLK.out, HLP.out, hG] at cG
              rw [HLK.out, HLP.out, HL.out, hF] at cF
              have HGE := hid hG
              have HFE := hid hF
              clear go_post hb hG hF
              rcases PA.out.rf.two with h5 | h5
              · subst h5
                have cF2 := cF rfl
                clear cF
                by_cases hla : l6 = []
                · subst hla
                  cases G with
                  | true =>
                    go_upto_region 35 with fail
                    change Code.wp _ (Code.region 35 ((Tryz.f23.body.bind (regionOps 35)).getD #[]) true) _ _ _
                    refine npp35f_go p nb rb ka pa ma n kc np pc m mc (str []) F wr hpr hnr k1 b0 b1 b2 b3 b4 k0 (str_toList []) cG cF2 _ rfl rfl rfl rfl PA.out.ans ?_
                    intro ff wz sz bz f3
                    have f3' : ff 3 = .bool F := f3
                    have SZ := hid sz
                    obtain ⟨z0, z1, z2, z3, z4⟩ := bz.all
                    clear sz f3 cF2 cG bz b0 b1 b2 b3 b4 k0 k1
                    rw [npp35b_lit, f3']
                    go_wp2_with fail
                    refine bodyPost_ret (v := .tuple #[.agg #[.bool false, .slice none 0 0, .slice ka n kc, .slice pa np pc, .slice ma m mc], .bool F]) (by simp [results, Tryz.results23, go_sem, *]) rfl (GP.out wz F SZ.out (fun h => ⟨by first | trivial | rfl, by first | trivial | rfl, HGE.out, HFE.out.trans h⟩) (fun h h2 => by rw [HFE.out, h] at h2; exact absurd h2.2.2.2 (by decide)))
                  | false =>
                    go_upto_region 35 with fail
                    change Code.wp _ (Code.region 35 ((Tryz.f23.body.bind (regionOps 35)).getD #[]) true) _ _ _
                    refine npp35g_go p nb rb ka pa ma n kc np pc m mc (str []) F wr hpr hnr k1 b0 b1 b2 b3 b4 k0 (str_toList []) cG _ rfl rfl rfl rfl PA.out.ans ?_
                    intro ff wz sz bz f3
                    have f3' : ff 3 = .bool false := f3
                    have SZ := hid sz
                    obtain ⟨z0, z1, z2, z3, z4⟩ := bz.all
                    clear sz f3 cF2 cG bz b0 b1 b2 b3 b4 k0 k1
                    rw [npp35b_lit, f3']
                    go_wp2_with fail
                    refine bodyPost_ret (v := .tuple #[.agg #[.bool false, .slice none 0 0, .slice ka n kc, .slice pa np pc, .slice ma m mc], .bool false]) (by simp [results, Tryz.results23, go_sem, *]) rfl (GP.out wz false SZ.out (fun h => by cases h) (fun _ h2 => by have := h2.2.2.1; rw [HGE.out] at this; exact absurd this (by decide)))
                · clear cG cF2
                  go_upto_region 35 with fail
                  change Code.wp _ (Code.region 35 ((Tryz.f23.body.bind (regionOps 35)).getD #[]) true) _ _ _
                  refine npp35s_go p nb rb ka pa ma n kc np pc m mc (str l6) F wr hpr hnr k1 b0 b1 b2 b3 b4 k0 (by rw [str_toList]; exact hla) _ rfl rfl rfl rfl PA.out.ans ?_
                  intro ff wz sz bz f3
                  have f3' : ff 3 = .bool false := f3
                  have SZ := hid sz
                  obtain ⟨z0, z1, z2, z3, z4⟩ := bz.all
                  clear sz f3 bz b0 b1 b2 b3 b4 k0 k1
                  rw [npp35b_lit, f3']
                  go_wp2_with fail
                  refine bodyPost_ret (v := .tuple #[.agg #[.bool false, .slice none 0 0, .slice ka n kc, .slice pa np pc, .slice ma m mc], .bool false]) (by simp [results, Tryz.results23, go_sem, *]) rfl (GP.out wz false SZ.out (fun h => by cases h) (fun _ h2 => hla h2.1))
              · subst h5
                clear cG cF
                go_upto_region 35 with fail
                change Code.wp _ (Code.region 35 ((Tryz.f23.body.bind (regionOps 35)).getD #[]) true) _ _ _
                refine npp35b_go p nb rb ka pa ma n kc np pc m mc (str []) F wr hpr hnr k1 b0 b1 b2 b3 b4 _ rfl rfl rfl rfl PA.out.ans ?_
                intro ff wz sz bz f3
                have f3' : ff 3 = .bool false := f3
                have SZ := hid sz
                obtain ⟨z0, z1, z2, z3, z4⟩ := bz.all
                clear sz f3 bz b0 b1 b2 b3 b4 k0 k1
                rw [npp35b_lit, f3']
                go_wp2_with fail
                refine bodyPost_ret (v := .tuple #[.agg #[.bool false, .slice none 0 0, .slice ka n kc, .slice pa np pc, .slice ma m mc], .bool false]) (by simp [results, Tryz.results23, go_sem, *]) rfl (GP.out wz false SZ.out (fun h => by cases h) (fun _ h2 => by have := h2.2.1; omega))
end Go.Proofs.YtoobelcphcndoaaGreat
namespace Go.Proofs.YtoobelcphcndoaaGreat
open Go.RowKit Go.Sort
set_option linter.unusedVariables false
set_option linter.unusedSimpArgs false
set_option maxRecDepth 20000
set_option maxHeartbeats 4000000 in
/-- What the law makes of a node, in the document's form. -/
theorem form12_any (v : Nv) (hs : v.small) (r : Nat) (w : World) (h : NodeAt w r v) :
    Calls Tryz.prog 24 #[.pointer (some ⟨r, 0, none⟩)] w fun e w' => ∃ x, e = .returned x ∧ Step noF w w' ∧ NvV w' v x := by
  obtain ⟨W, hW⟩ : ∃ W, w.alloc (.cells #[.bool false, .slice none 0 0, .slice none 0 0, .slice none 0 0, .slice none 0 0] 29) = W := ⟨_, rfl⟩
  have S0 : Step noF w W := by rw [← hW]; exact (Step.refl _ _).alloc _
  have br := ndBox_new w (.bool false) (.slice none 0 0) (.slice none 0 0) (.slice none 0 0) (.slice none 0 0)
  obtain ⟨g1, hg1⟩ : ∃ g, w.heap.size = g := ⟨_, rfl⟩
  rw [hW, hg1] at br
  have BR := hid br
  have HW := hid (And.intro hW hg1)
  have HG1 : Hid (w.heap.size ≤ g1) := by show _ ≤ _; omega
  have HN := hid (h.step S0)
  have SW := hid S0
  have cL := ndIsLeaf_any r v W HN.out
  clear br S0 hW hg1 h
  cases v using Nv.two with
  | leaf xs =>
    have cL1 : Calls Tryz.prog 11 #[.pointer (some ⟨r, 0, none⟩)] W fun e w' => e = .returned (.bool true) ∧ W = w' := cL
    obtain ⟨q, hq0, -, hq⟩ := HN.out.cellL
    have cQ := ndLeaf_cell r _ W hq0
    have cI := items_any q xs hs.1 W hq
    clear cL hq0 hq
    go_enter Tryz.func24, Tryz.ntmps24
    go_upto_region 1 with fail
    rw [HW.out.1, HW.out.2]
    clear HW
    go_wp2_with fail
    refine cL1.mono ?_
    rintro e w2 ⟨rfl, rfl⟩
    go_wp2_with fail
    refine cQ.mono ?_
    rintro e w2 ⟨rfl, rfl⟩
    go_wp2_with fail
    refine cI.mono ?_
    rintro e w3 ⟨v3, rfl, o3, s3⟩
    have O3 : OwnIt w3 W.heap.size v3 xs := o3
    obtain ⟨va, vc, rfl, _, o2, o4⟩ := O3.row
    have S3 := hid (SW.out.trans s3)
    have RB := hid (BR.out.step s3)
    have O2 := hid o2.1
    have O4 := hid o4
    clear s3 o3 O3 o2 o4 cL1 cQ cI
    obtain ⟨d0, d1, d2, d3, d4⟩ := RB.out.all
    have f0 := RB.out.fr 0
    have f1 := RB.out.fr 1
    have f2 := RB.out.fr 2
    have f3 := RB.out.fr 3
    have f4 := RB.out.fr 4
    have T3 := hid (((((RB.out.set0 (.bool true)).set1 (.slice va xs.length vc)).set2 (.slice none 0 0)).set3 (.slice none 0 0)).set4 (.slice none 0 0))
    have SP := hid (step_put5 S3.out g1 HG1.out (.bool true) (.slice va xs.length vc) (.slice none 0 0) (.slice none 0 0) (.slice none 0 0))
    obtain ⟨e0, e1, e2, e3, e4⟩ := T3.out.all
    have HOW := hid ((show BoxOf w3 g1 from ⟨_, _, _, _, _, RB.out, .inr ⟨_, rfl⟩, .inl ⟨_, _, _, rfl⟩, .inl ⟨_, _, _, rfl⟩, .inl ⟨_, _, _, rfl⟩, .inl ⟨_, _, _, rfl⟩⟩).rgs (step_one5 g1 (Step.refl _ w3) (.bool true) (.slice va xs.length vc) (.slice none 0 0) (.slice none 0 0) (.slice none 0 0)) O4.out)
    go_wp2_with fail
    refine bodyPost_ret (v := .agg #[.bool true, .slice va xs.length vc, .slice none 0 0, .slice none 0 0, .slice none 0 0]) (by simp [results, Tryz.results24, go_sem, *]) rfl ⟨_, rfl, SP.out, va, none, none, none, vc, 0, 0, 0, rfl, ⟨HOW.out, O2.out⟩, ⟨.inl rfl, fun _ => rfl, Nat.le_refl _⟩, ⟨.inl rfl, fun _ => rfl, Nat.le_refl _⟩, .inl rfl, fun _ => rfl⟩
  | inn d =>
    have cL1 : Calls Tryz.prog 11 #[.pointer (some ⟨r, 0, none⟩)] W fun e w' => e = .returned (.bool false) ∧ W = w' := cL
    obtain ⟨q, -, hq0, hq⟩ := HN.out.cellI
    have cQ := ndInner_cell r _ W hq0
    have cK := fun (u : World) (hu : Hid (Step noF W u)) => kidsN_any q d hs.1 u (hq.step hu.out)
    have cP := fun (u : World) (hu : Hid (Step noF W u)) => pivotsN_any q d hs.2.1 u (hq.step hu.out)
    have cB := fun (u : World) (hu : Hid (Step noF W u)) => buffN_any q d u (hq.step hu.out)
    have cM := fun (q2 : Nat) (u : World) (hu : Hid (BuffAt u q2 d.ms)) => listB_any q2 d.ms hs.2.2.1 u hu.out
    clear cL hq0 hq
    go_enter Tryz.func24, Tryz.ntmps24
    go_upto_region 1 with fail
    rw [HW.out.1, HW.out.2]
    clear HW
    go_wp2_with fail
    refine cL1.mono ?_
    rintro e w2 ⟨rfl, rfl⟩
    go_wp2_with fail
    refine cQ.mono ?_
    rintro e w2 ⟨rfl, rfl⟩
    go_wp2_with fail
    refine (cK _ (hid (Step.refl _ _))).mono ?_
    rintro e w3 ⟨ka, kc, rfl, HK, S3⟩
    go_wp2_with fail
    refine (cP _ S3).mono ?_
    rintro e w4 ⟨pa, pc, rfl, HP, s4⟩
    have S4 := hid (S3.out.trans s4.out)
    have HK4 := hid (show SlAt w4 ka d.kids.length kc (intsOf d.kids) from HK.out.step s4.out)
    clear HK S3 s4
    go_wp2_with fail
    refine (cB _ S4).mono ?_
    rintro e w5 ⟨q2, rfl, HB, rfl⟩
    go_wp2_with fail
    refine (cM q2 _ HB).mono ?_
    rintro e w5 ⟨v5, rfl, o5, s5⟩
    obtain ⟨ma, mc, rfl, _, o2, o4⟩ := owns_msgs o5
    have S5 := hid (SW.out.trans (S4.out.trans s5))
    have RB := hid (BR.out.step (S4.out.trans s5))
    have HK5 := hid (show SlAt w5 ka d.kids.length kc (intsOf d.kids) from HK4.out.step s5)
    have HP5 := hid (show SlAt w5 pa d.pivs.length pc (texts d.pivs) from HP.out.step s5)
    have O2 := hid o2.1
    have O4 := hid o4
    clear s5 o5 o2 o4 cL1 cQ cK cP cB cM HK4 HP S4 HB
    obtain ⟨d0, d1, d2, d3, d4⟩ := RB.out.all
    have f0 := RB.out.fr 0
    have f1 := RB.out.fr 1
    have f2 := RB.out.fr 2
    have f3 := RB.out.fr 3
    have f4 := RB.out.fr 4
    have T3 := hid (((((RB.out.set0 (.bool false)).set1 (.slice none 0 0)).set2 (.slice ka d.kids.length kc)).set3 (.slice pa d.pivs.length pc)).set4 (.slice ma d.ms.length mc))
    have SP := hid (step_put5 S5.out g1 HG1.out (.bool false) (.slice none 0 0) (.slice ka d.kids.length kc) (.slice pa d.pivs.length pc) (.slice ma d.ms.length mc))
    obtain ⟨e0, e1, e2, e3, e4⟩ := T3.out.all
    have HBX : Hid (BoxOf w5 g1) := ⟨_, _, _, _, _, RB.out, .inr ⟨_, rfl⟩, .inl ⟨_, _, _, rfl⟩, .inl ⟨_, _, _, rfl⟩, .inl ⟨_, _, _, rfl⟩, .inl ⟨_, _, _, rfl⟩⟩
    have HS5 := hid (step_one5 g1 (Step.refl _ w5) (.bool false) (.slice none 0 0) (.slice ka d.kids.length kc) (.slice pa d.pivs.length pc) (.slice ma d.ms.length mc))
    go_wp2_with fail
    refine bodyPost_ret (v := .agg #[.bool false, .slice none 0 0, .slice ka d.kids.length kc, .slice pa d.pivs.length pc, .slice ma d.ms.length mc]) (by simp [results, Tryz.results24, go_sem, *]) rfl ⟨_, rfl, SP.out, none, ka, pa, ma, 0, kc, pc, mc, rfl, ⟨.inl rfl, fun _ => rfl⟩, ⟨HBX.out.ints HS5.out HK5.out.2.2, HK5.out.2.1.1, HK5.out.1⟩, ⟨HBX.out.txs HS5.out HP5.out.2.2, HP5.out.2.1.1, HP5.out.1⟩, HBX.out.msgs HS5.out O4.out, O2.out⟩
theorem numE_two5 {n : Int} {l : List UInt8} {e : Int} (h : e = 0 ∨ e = 5) : numE n l e = 0 ∨ numE n l e = 5 := by
  unfold numE
  split
  · exact rawE_two h
  · exact .inr rfl
/-- The document's Parse. -/
theorem refParse12_any (l : List UInt8) (hl : l.length ≤ 1000) (w : World) : Calls Tryz.prog 23 #[.string (str l)] w fun e w' => PaPost w l e w' := by
  rcases numE_two5 (n := 1) (l := numL 1 l) (numE_two5 (n := 1) (l := l) (.inl (rfl : (0 : Int) = 0))) with he | he
  · by_cases h1 : numVal 1 l = 1
    · exact refParse_leaf l hl w h1 he
    · by_cases h2 : numVal 1 l = 2
      · exact refParse_inn l hl w h2 he
      · exact refParse_no l hl w (.inr (by omega))
  · exact refParse_no l hl w (.inl he)
end Go.Proofs.YtoobelcphcndoaaGreat
namespace Go.Proofs.YtoobelcphcndoaaGreat
open Go.RowKit
set_option linter.unusedVariables false
set_option linter.unusedSimpArgs false


def ndparDs : List Nat := [30, 31, 32, 33, 34, 35, 36, 37, 38, 39, 40, 41, 2]
def ndparDl : List (Option Nat) := [some 30, some 31, some 32, some 33, some 34, some 35, some 36, some 37, some 38, some 39, some 40, some 41, some 2]
theorem ndpar_dl : ((Tryz.f4.body.bind (regionOps 9)).getD #[]).toList.map (·.dst) = ndparDl := by kernel_rfl
theorem ndpar_back : backB ((Tryz.f4.body.bind (regionOps 9)).getD #[]) = true := by kernel_rfl
theorem ndpar_size : ((Tryz.f4.body.bind (regionOps 9)).getD #[]).size = 13 := by kernel_rfl
theorem ndpar_nd : ndparDl.Pairwise (fun x y => x = none ∨ x ≠ y) := by decide
theorem ndpar_lt (d : Nat) (h : some d ∈ ndparDl) : d < 42 := by
  have hh : ndparDl.all (fun o => o.all (fun d => decide (d < 42))) = true := by decide
  simpa using List.all_eq_true.1 hh _ h
theorem ndparOp0 : opIs ((Tryz.f4.body.bind (regionOps 9)).getD #[]) 0 (some 30) (Op.move (Operand.tmp 4)) (none) := opIs_of (by kernel_rfl)
theorem ndparOp1 : opIs ((Tryz.f4.body.bind (regionOps 9)).getD #[]) 1 (some 31) (Op.binOp BinOp.eql 37 (Operand.tmp 30) (Operand.const (Value.int IntKind.i64 0)) 37) (none) := opIs_of (by kernel_rfl)
theorem ndparOp2 : opIs ((Tryz.f4.body.bind (regionOps 9)).getD #[]) 2 (some 32) (Op.move (Operand.tmp 31)) (none) := opIs_of (by kernel_rfl)
theorem ndparOp3 : opIs ((Tryz.f4.body.bind (regionOps 9)).getD #[]) 3 (some 33) (Op.move (Operand.tmp 3)) (some (2, true)) := opIs_of (by kernel_rfl)
theorem ndparOp4 : opIs ((Tryz.f4.body.bind (regionOps 9)).getD #[]) 4 (some 34) (Op.binOp BinOp.neq 32 (Operand.tmp 33) (Operand.const (Value.pointer none)) 32) (some (2, true)) := opIs_of (by kernel_rfl)
theorem ndparOp5 : opIs ((Tryz.f4.body.bind (regionOps 9)).getD #[]) 5 (some 35) (Op.pick (Operand.tmp 32) (Operand.tmp 34) (Operand.const (Value.bool false))) (none) := opIs_of (by kernel_rfl)
theorem ndparOp6 : opIs ((Tryz.f4.body.bind (regionOps 9)).getD #[]) 6 (some 36) (Op.move (Operand.tmp 35)) (none) := opIs_of (by kernel_rfl)
theorem ndparOp7 : opIs ((Tryz.f4.body.bind (regionOps 9)).getD #[]) 7 (some 37) (Op.move (Operand.tmp 3)) (some (6, true)) := opIs_of (by kernel_rfl)
theorem ndparOp8 : opIs ((Tryz.f4.body.bind (regionOps 9)).getD #[]) 8 (some 38) (Op.call { callee := Callee.value (Operand.func 24), args := #[Operand.tmp 37], argTypes := #[32] }) (some (6, true)) := opIs_of (by kernel_rfl)
theorem ndparOp9 : opIs ((Tryz.f4.body.bind (regionOps 9)).getD #[]) 9 (some 39) (Op.load 29 (Operand.tmp 5)) (some (6, true)) := opIs_of (by kernel_rfl)
theorem ndparOp10 : opIs ((Tryz.f4.body.bind (regionOps 9)).getD #[]) 10 (some 40) (Op.call { callee := Callee.value (Operand.func 18), args := #[Operand.tmp 38, Operand.tmp 39], argTypes := #[29, 29] }) (some (6, true)) := opIs_of (by kernel_rfl)
theorem ndparOp11 : opIs ((Tryz.f4.body.bind (regionOps 9)).getD #[]) 11 (some 41) (Op.pick (Operand.tmp 36) (Operand.tmp 40) (Operand.const (Value.bool false))) (none) := opIs_of (by kernel_rfl)
theorem ndparOp12 : opIs ((Tryz.f4.body.bind (regionOps 9)).getD #[]) 12 (some 2) (Op.assign (Operand.tmp 41)) (none) := opIs_of (by kernel_rfl)
/-- What is said of each slot. -/
def ndparSp (r g5 : Nat) (vv : Nv) (U0 U1 U2 U3 U4 : Value) (i : Nat) (w : World) (v : Value) : Prop := match i with
  | 0 => v = .int .i64 0
  | 1 => v = .bool true
  | 2 => v = .bool true
  | 3 => v = .pointer (some ⟨r, 0, none⟩)
  | 4 => v = .bool true
  | 5 => v = .bool true
  | 6 => v = .bool true
  | 7 => v = .pointer (some ⟨r, 0, none⟩)
  | 8 => NvV w vv v
  | 9 => v = .agg #[U0, U1, U2, U3, U4]
  | 10 => v = .bool true
  | 11 => v = .bool true
  | 12 => v = .bool true
  | _ => True
theorem ndparKeep38 (r g5 : Nat) (vv : Nv) (U0 U1 U2 U3 U4 : Value) {w w' : World} {v : Value} (hs : Step noF w w') (h : NvV w vv v) : NvV w' vv v := by
  exact h.step hs
theorem ndparSp_mono (r g5 : Nat) (vv : Nv) (U0 U1 U2 U3 U4 : Value) : ∀ i w w' v, Step noF w w' → ndparSp r g5 vv U0 U1 U2 U3 U4 i w v → ndparSp r g5 vv U0 U1 U2 U3 U4 i w' v := by
  intro i w w' v hs h
  match i with
  | 0 => exact h
  | 1 => exact h
  | 2 => exact h
  | 3 => exact h
  | 4 => exact h
  | 5 => exact h
  | 6 => exact h
  | 7 => exact h
  | 8 => exact ndparKeep38 r g5 vv U0 U1 U2 U3 U4 hs h
  | 9 => exact h
  | 10 => exact h
  | 11 => exact h
  | 12 => exact h
  | k + 13 => exact h

set_option maxHeartbeats 4000000 in
set_option maxRecDepth 100000 in
theorem ndpar_go (r g5 : Nat) (vv : Nv) (U0 U1 U2 U3 U4 : Value) (w0 : World) (u00 : w0.cell? ⟨g5, 0, none⟩ = some U0) (u10 : w0.cell? ⟨g5, 1, none⟩ = some U1) (u20 : w0.cell? ⟨g5, 2, none⟩ = some U2) (u30 : w0.cell? ⟨g5, 3, none⟩ = some U3) (u40 : w0.cell? ⟨g5, 4, none⟩ = some U4) (c380 : ∀ w0', Step noF w0 w0' → Calls Tryz.prog 24 #[.pointer (some ⟨r, 0, none⟩)] w0' fun e w0'' => ∃ v, e = .returned v ∧ Step noF w0' w0'' ∧ NvV w0'' vv v) (c400 : ∀ x w0', Step noF w0 w0' → NvV w0' vv x → Calls Tryz.prog 18 #[x, .agg #[U0, U1, U2, U3, U4]] w0' fun e w0'' => e = .returned (.bool true) ∧ Step noF w0' w0'')
    {Q : Exit → Act → World → Prop} (a0 : Act) (hsz : a0.tmps.size = 42) (h3 : a0.tmps.getD 3 undef = .pointer (some ⟨r, 0, none⟩)) (h4 : a0.tmps.getD 4 undef = .int .i64 0) (h5 : a0.tmps.getD 5 undef = .pointer (some ⟨g5, 0, none⟩))
    (hend : ∀ (f : Nat → Value) (w : World), Step noF w0 w → ndparSp r g5 vv U0 U1 U2 U3 U4 12 w (f 2) → Q .normal (putAll a0 (ndparDs.map some) (ndparDs.map f)) w) :
    (Code.region 9 ((Tryz.f4.body.bind (regionOps 9)).getD #[]) true).wp Tryz.prog Q a0 w0 := by
  refine wp_region_preds (ndparSp r g5 vv U0 U1 U2 U3 U4) (ndparSp_mono r g5 vv U0 U1 U2 U3 U4) ndparDl (by kernel_rfl) ndpar_back ndpar_dl ndpar_nd (fun d h => by rw [hsz]; exact ndpar_lt d h) ?_ ?_
  · intro i hi a w hs hfr hat
    rw [ndpar_size] at hi
    have n3 := (hfr 3 (by decide)).trans h3
    have n4 := (hfr 4 (by decide)).trans h4
    have n5 := (hfr 5 (by decide)).trans h5
    have u0 : w.cell? ⟨g5, 0, none⟩ = some U0 := hs.after u00
    have u1 : w.cell? ⟨g5, 1, none⟩ = some U1 := hs.after u10
    have u2 : w.cell? ⟨g5, 2, none⟩ = some U2 := hs.after u20
    have u3 : w.cell? ⟨g5, 3, none⟩ = some U3 := hs.after u30
    have u4 : w.cell? ⟨g5, 4, none⟩ = some U4 := hs.after u40
    have c38 : ∀ w', Step noF w w' → Calls Tryz.prog 24 #[.pointer (some ⟨r, 0, none⟩)] w' fun e w'' => ∃ v, e = .returned v ∧ Step noF w' w'' ∧ NvV w'' vv v := fun w' s' => c380 w' (hs.trans s')
    have c40 : ∀ x w', Step noF w w' → NvV w' vv x → Calls Tryz.prog 18 #[x, .agg #[U0, U1, U2, U3, U4]] w' fun e w'' => e = .returned (.bool true) ∧ Step noF w' w'' := fun x w' s' hx => c400 x w' (hs.trans s') hx
    match i, hi with
    | 0, _ =>
      refine op_runs (d := some 30) ndparOp0 (wants_none a) (v := .int .i64 0) (w' := w) ?_ ⟨30, _, rfl, rfl, Step.refl _ _, rfl⟩
      intro oo hoo
      simp only [execOp, hoo, Act.eval, n4]
      go_simp
    | 1, _ =>
      have n30 : a.tmps.getD 30 undef = _ := hat 0 (lc (by kernel_rfl)) 30 rfl
      refine op_runs (d := some 31) ndparOp1 (wants_none a) (v := .bool true) (w' := w) ?_ ⟨31, _, rfl, rfl, Step.refl _ _, rfl⟩
      intro oo hoo
      simp only [execOp, hoo, Act.eval, n30]
      go_simp
    | 2, _ =>
      have n31 : a.tmps.getD 31 undef = _ := hat 1 (lc (by kernel_rfl)) 31 rfl
      refine op_runs (d := some 32) ndparOp2 (wants_none a) (v := .bool true) (w' := w) ?_ ⟨32, _, rfl, rfl, Step.refl _ _, rfl⟩
      intro oo hoo
      simp only [execOp, hoo, Act.eval, n31]
      go_simp
    | 3, _ =>
      have n32 : a.tmps.getD 32 undef = _ := hat 2 (lc (by kernel_rfl)) 32 rfl
      refine op_runs (d := some 33) ndparOp3 (wants_some (d := 32) (b := true) (by kernel_rfl) n32) (v := .pointer (some ⟨r, 0, none⟩)) (w' := w) ?_ ⟨33, _, rfl, rfl, Step.refl _ _, rfl⟩
      intro oo hoo
      simp only [execOp, hoo, Act.eval, n3]
      go_simp
    | 4, _ =>
      have n33 : a.tmps.getD 33 undef = _ := hat 3 (lc (by kernel_rfl)) 33 rfl
      have n32 : a.tmps.getD 32 undef = _ := hat 2 (lc (by kernel_rfl)) 32 rfl
      refine op_runs (d := some 34) ndparOp4 (wants_some (d := 32) (b := true) (by kernel_rfl) n32) (v := .bool true) (w' := w) ?_ ⟨34, _, rfl, rfl, Step.refl _ _, rfl⟩
      intro oo hoo
      simp only [execOp, hoo, Act.eval, n33]
      go_simp
    | 5, _ =>
      have n32 : a.tmps.getD 32 undef = _ := hat 2 (lc (by kernel_rfl)) 32 rfl
      have n34 : a.tmps.getD 34 undef = _ := hat 4 (lc (by kernel_rfl)) 34 rfl
      refine op_runs (d := some 35) ndparOp5 (wants_none a) (v := .bool true) (w' := w) ?_ ⟨35, _, rfl, rfl, Step.refl _ _, rfl⟩
      intro oo hoo
      simp only [execOp, hoo, Act.eval, n32, n34]
      go_simp
    | 6, _ =>
      have n35 : a.tmps.getD 35 undef = _ := hat 5 (lc (by kernel_rfl)) 35 rfl
      refine op_runs (d := some 36) ndparOp6 (wants_none a) (v := .bool true) (w' := w) ?_ ⟨36, _, rfl, rfl, Step.refl _ _, rfl⟩
      intro oo hoo
      simp only [execOp, hoo, Act.eval, n35]
      go_simp
    | 7, _ =>
      have n36 : a.tmps.getD 36 undef = _ := hat 6 (lc (by kernel_rfl)) 36 rfl
      refine op_runs (d := some 37) ndparOp7 (wants_some (d := 36) (b := true) (by kernel_rfl) n36) (v := .pointer (some ⟨r, 0, none⟩)) (w' := w) ?_ ⟨37, _, rfl, rfl, Step.refl _ _, rfl⟩
      intro oo hoo
      simp only [execOp, hoo, Act.eval, n3]
      go_simp
    | 8, _ =>
      have n37 : a.tmps.getD 37 undef = _ := hat 7 (lc (by kernel_rfl)) 37 rfl
      have n36 : a.tmps.getD 36 undef = _ := hat 6 (lc (by kernel_rfl)) 36 rfl
      refine op_calls ndparOp8 (wants_some (d := 36) (b := true) (by kernel_rfl) n36) Tryz.func24 (by kernel_rfl) (by kernel_rfl) (args := #[.pointer (some ⟨r, 0, none⟩)]) (by simp [Act.eval, n37]) ((c38 w (Step.refl _ _)).mono ?_)
      rintro e w' ⟨v, rfl, s', hv⟩
      exact ⟨_, rfl, 38, _, rfl, rfl, s', hv⟩
    | 9, _ =>
      have n36 : a.tmps.getD 36 undef = _ := hat 6 (lc (by kernel_rfl)) 36 rfl
      refine op_runs (d := some 39) ndparOp9 (wants_some (d := 36) (b := true) (by kernel_rfl) n36) (v := .agg #[U0, U1, U2, U3, U4]) (w' := w) ?_ ⟨39, _, rfl, rfl, Step.refl _ _, rfl⟩
      intro oo hoo
      simp only [execOp, hoo, Act.eval, n5]
      go_simp
    | 10, _ =>
      have hp38 : ndparSp r g5 vv U0 U1 U2 U3 U4 8 w (a.tmps.getD 38 undef) := hat 8 (lc (by kernel_rfl)) 38 rfl
      have hq38 := hp38
      obtain ⟨ia38, ka38, pa38, aa38, ic38, kc38, pc38, cc38, n38, -⟩ := hq38
      have n39 : a.tmps.getD 39 undef = _ := hat 9 (lc (by kernel_rfl)) 39 rfl
      have n36 : a.tmps.getD 36 undef = _ := hat 6 (lc (by kernel_rfl)) 36 rfl
      refine op_calls ndparOp10 (wants_some (d := 36) (b := true) (by kernel_rfl) n36) Tryz.func18 (by kernel_rfl) (by kernel_rfl) (args := #[a.tmps.getD 38 undef, .agg #[U0, U1, U2, U3, U4]]) (by simp [Act.eval, n38, n39]) ((c40 (a.tmps.getD 38 undef) w (Step.refl _ _) hp38).mono ?_)
      rintro e w' ⟨rfl, s'⟩
      exact ⟨_, rfl, 40, _, rfl, rfl, s', rfl⟩
    | 11, _ =>
      have n36 : a.tmps.getD 36 undef = _ := hat 6 (lc (by kernel_rfl)) 36 rfl
      have n40 : a.tmps.getD 40 undef = _ := hat 10 (lc (by kernel_rfl)) 40 rfl
      refine op_runs (d := some 41) ndparOp11 (wants_none a) (v := .bool true) (w' := w) ?_ ⟨41, _, rfl, rfl, Step.refl _ _, rfl⟩
      intro oo hoo
      simp only [execOp, hoo, Act.eval, n36, n40]
      go_simp
    | 12, _ =>
      have n41 : a.tmps.getD 41 undef = _ := hat 11 (lc (by kernel_rfl)) 41 rfl
      refine op_runs (d := some 2) ndparOp12 (wants_none a) (v := .bool true) (w' := w) ?_ ⟨2, _, rfl, rfl, Step.refl _ _, rfl⟩
      intro oo hoo
      simp only [execOp, hoo, Act.eval, n41]
      go_simp
    | k + 13, h => exact absurd h (by omega)
  · intro a w hs hdf hs2 hfr hat
    rw [ndpar_size] at hat
    have e := act_vals (a := a) (a0 := a0) ndparDs (by decide) (fun d hd => by rw [hsz]; exact ndpar_lt d (by revert hd; revert d; decide)) hdf hs2 (fun k hk => hfr k (fun hk2 => hk (by revert hk2; simp [ndparDl, ndparDs])))
    rw [e]
    exact hend (fun d => a.tmps.getD d undef) w hs (hat 12 (by omega) 2 rfl)
set_option maxRecDepth 100000 in
theorem ndpar_lit (f : Nat → Value) (D : List Deferred) (x0 x1 x2 x3 x4 x5 x6 x7 x8 x9 x10 x11 x12 x13 x14 x15 x16 x17 x18 x19 x20 x21 x22 x23 x24 x25 x26 x27 x28 x29 x30 x31 x32 x33 x34 x35 x36 x37 x38 x39 x40 x41 : Value) : putAll { tmps := #[x0, x1, x2, x3, x4, x5, x6, x7, x8, x9, x10, x11, x12, x13, x14, x15, x16, x17, x18, x19, x20, x21, x22, x23, x24, x25, x26, x27, x28, x29, x30, x31, x32, x33, x34, x35, x36, x37, x38, x39, x40, x41], defers := D } (ndparDs.map some) (ndparDs.map f) = { tmps := #[x0, x1, f 2, x3, x4, x5, x6, x7, x8, x9, x10, x11, x12, x13, x14, x15, x16, x17, x18, x19, x20, x21, x22, x23, x24, x25, x26, x27, x28, x29, f 30, f 31, f 32, f 33, f 34, f 35, f 36, f 37, f 38, f 39, f 40, f 41], defers := D } := by kernel_rfl
end Go.Proofs.YtoobelcphcndoaaGreat
namespace Go.Proofs.YtoobelcphcndoaaGreat
open Go.RowKit Go.Sort
set_option linter.unusedVariables false
set_option linter.unusedSimpArgs false
set_option maxRecDepth 20000
theorem isOf_small2 {l : List UInt8} {v : Nv} (h : IsOf l v) : v.small := (mkO_good (mkO_of h)).2
set_option maxHeartbeats 4000000 in
theorem nodeParse_any (l : List UInt8) (hl : l.length ≤ maxLen) (w : World) : Calls Tryz.prog 4 #[.string (str l)] w fun e w' => e = .returned (.bool true) ∧ Step noF w w' := by
  have hz := str_size
  unfold maxLen at hl
  go_enter Tryz.func4, Tryz.ntmps4
  go_wp2_with fail
  refine (awake12_any _).mono ?_
  rintro e w1 ⟨rfl, s1⟩
  have S1 := hid s1
  clear s1
  by_cases h300 : 300 < l.length
  · have hz3 : (300 : Int) < (l.length : Int) := by omega
    go_wp2_with fail
    go_ret
    exact ⟨rfl, S1.out⟩
  · have hz3 : ¬ (300 : Int) < (l.length : Int) := by omega
    have hl3 : Hid (l.length ≤ 1000) := by show _ ≤ _; omega
    clear h300
    go_wp2_with fail
    refine (ndParse_any l hl3.out _).mono ?_
    rintro e w2 ⟨s2, ⟨v, r, hv, rfl, hn⟩ | ⟨hv, rfl⟩⟩
    · have S2 := hid (S1.out.trans s2)
      have HV := hid hv
      have HN := hid hn
      clear s2 hv hn
      go_wp2_with fail
      refine (refParse12_any l hl3.out _).mono ?_
      rintro e w3 ⟨y, a1, a2, a3, a4, n1, c1, n2, c2, n3, c3, n4, c4, ⟨u, hu, rfl, hx⟩ | ⟨hu, rfl⟩, s3⟩
      · obtain rfl := isOf_one HV.out hu
        have S3 := hid (S2.out.trans s3)
        have st := (Step.refl noF w3).alloc (.cells #[.bool y, .slice a1 n1 c1, .slice a2 n2 c2, .slice a3 n3 c3, .slice a4 n4 c4] 29)
        obtain ⟨g5, hg5⟩ : ∃ g, w3.heap.size = g := ⟨_, rfl⟩
        have hb := ndBox_new w3 (.bool y) (.slice a1 n1 c1) (.slice a2 n2 c2) (.slice a3 n3 c3) (.slice a4 n4 c4)
        obtain ⟨w4, hw4⟩ : ∃ w4, w3.alloc (.cells #[.bool y, .slice a1 n1 c1, .slice a2 n2 c2, .slice a3 n3 c3, .slice a4 n4 c4] 29) = w4 := ⟨_, rfl⟩
        have S4 := hid (S3.out.trans st)
        have hx4 := hx.step st
        have hn4 := (HN.out.step s3).step st
        rw [hw4] at S4 hb hx4 hn4
        rw [hg5] at hb
        have HW4 := hid (And.intro hw4 hg5)
        obtain ⟨u0, u1, u2, u3, u4⟩ := hb.all
        have c38 := fun (x : World) (hs : Step noF w4 x) => form12_any v (isOf_small2 HV.out) r x (hn4.step hs)
        have c40 := fun (z : Value) (x : World) (hs : Step noF w4 x) (hz : NvV x v z) => refSame12_any v v (isOf_small2 HV.out) (isOf_small2 HV.out) z (.agg #[.bool y, .slice a1 n1 c1, .slice a2 n2 c2, .slice a3 n3 c3, .slice a4 n4 c4]) x hz (hx4.step hs)
        rw [sameV_self] at c40
        have C38 := hid c38
        have C40 := hid c40
        clear s3 st hu hx hx4 hn4 hb hw4 hg5 c38 c40 S3 S2 HN
        go_upto_region 7 with fail
        rw [HW4.out.1, HW4.out.2]
        clear HW4
        go_upto_region 9 with fail
        change Code.wp _ (Code.region 9 ((Tryz.f4.body.bind (regionOps 9)).getD #[]) true) _ _ _
        refine ndpar_go r g5 v (.bool y) (.slice a1 n1 c1) (.slice a2 n2 c2) (.slice a3 n3 c3) (.slice a4 n4 c4) w4 u0 u1 u2 u3 u4 C38.out C40.out _ rfl rfl rfl rfl ?_
        intro ff wz sz f2
        have f2' : ff 2 = .bool true := f2
        have SZ := hid (S4.out.trans sz)
        clear sz f2 u0 u1 u2 u3 u4
        rw [ndpar_lit, f2']
        go_wp2_with fail
        go_ret
        exact ⟨rfl, SZ.out⟩
      · exact absurd HV.out (hu v)
    · have S2 := hid (S1.out.trans s2)
      have HV := hid hv
      clear s2 hv
      go_wp2_with fail
      refine (refParse12_any l hl3.out _).mono ?_
      rintro e w3 ⟨y, a1, a2, a3, a4, n1, c1, n2, c2, n3, c3, n4, c4, ⟨u, hu, rfl, hx⟩ | ⟨hu, rfl⟩, s3⟩
      · exact absurd hu (HV.out u)
      · have S3 := hid (S2.out.trans s3)
        have S4 := hid (S3.out.alloc (.cells #[.bool y, .slice a1 n1 c1, .slice a2 n2 c2, .slice a3 n3 c3, .slice a4 n4 c4] 29))
        clear s3 hu
        go_wp2_with fail
        go_ret
        exact ⟨rfl, S4.out⟩
end Go.Proofs.YtoobelcphcndoaaGreat
