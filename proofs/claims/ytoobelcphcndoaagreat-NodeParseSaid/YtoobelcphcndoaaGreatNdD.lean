/-
  How package node reads a row of things one behind the other (written by gennode.py).
-/
import Derived.Test.YtoobelcphcndoaaGreatNdB
namespace Go.Proofs.YtoobelcphcndoaaGreat
open Go.RowKit Go.Sort
set_option linter.unusedVariables false
set_option linter.unusedSimpArgs false
set_option maxRecDepth 20000

/-- An item in a block. -/
def ItAt (w : World) (g : Nat) (x y : List UInt8) : Prop := w.heap[g]? = some (.cells #[.string (str x), .string (str y)] 71 (0, 0))
theorem ItAt.c0 {w : World} {g : Nat} {x y : List UInt8} (h : ItAt w g x y) : w.cell? ⟨g, 0, none⟩ = some (.string (str x)) := by simpa using cell_of_block h 0
theorem ItAt.c1 {w : World} {g : Nat} {x y : List UInt8} (h : ItAt w g x y) : w.cell? ⟨g, 1, none⟩ = some (.string (str y)) := by simpa using cell_of_block h 1
theorem ItAt.f {w : World} {g : Nat} {x y : List UInt8} (h : ItAt w g x y) (j : Nat) : w.frozen? ⟨g, j, none⟩ = false := frozen_of_block h j
theorem ItAt.set0 {w : World} {g : Nat} {x y : List UInt8} (h : ItAt w g x y) (z : List UInt8) : ItAt (w.setCell ⟨g, 0, none⟩ (.string (str z))) g z y := by simpa [ItAt] using block_setCell h 0 (.string (str z))
theorem ItAt.set1 {w : World} {g : Nat} {x y : List UInt8} (h : ItAt w g x y) (z : List UInt8) : ItAt (w.setCell ⟨g, 1, none⟩ (.string (str z))) g x z := by simpa [ItAt] using block_setCell h 1 (.string (str z))
theorem itAt_new (w : World) (x y : List UInt8) : ItAt (w.alloc (.cells #[.string (str x), .string (str y)] 71)) w.heap.size x y := block_alloc_new w _
theorem IsIn.put2 {w : World} {p q : Nat} {l : List UInt8} {e : Int} (h : IsIn w p l e) (hq : q ≠ p) (x y : Value) : IsIn ((w.setCell ⟨q, 0, none⟩ x).setCell ⟨q, 1, none⟩ y) p l e := by
  show _ = _
  rw [Below.heap_setCell _ _ _ _ (fun e => hq e.symm), Below.heap_setCell _ _ _ _ (fun e => hq e.symm)]
  exact h
theorem itr_left {α : Type} (f : List α × List UInt8 × Int → List α × List UInt8 × Int) (hf : ∀ s, (f s).2.1.length ≤ s.2.1.length) (s : List α × List UInt8 × Int) : ∀ n, (itr f n s).2.1.length ≤ s.2.1.length
  | 0 => Nat.le_refl _
  | n + 1 => Nat.le_trans (hf _) (itr_left f hf s n)
theorem itS_left (s : List Rg × List UInt8 × Int) : (itS s).2.1.length ≤ s.2.1.length := Nat.le_trans (textL_len 16 _) (textL_len 8 _)
theorem kidS_left (s : List Int × List UInt8 × Int) : (kidS s).2.1.length ≤ s.2.1.length := numL_len 2 _
theorem pivS_left (s : List (List UInt8) × List UInt8 × Int) : (pivS s).2.1.length ≤ s.2.1.length := textL_len 8 _
theorem rdL_len (l : List UInt8) : (rdL l).length ≤ l.length := Nat.le_trans (textL_len 16 _) (Nat.le_trans (textL_len 8 _) (numL_len 1 _))
theorem msS_left (s : List Mg × List UInt8 × Int) : (msS s).2.1.length ≤ s.2.1.length := by
  unfold msS
  split
  · dsimp only
    exact rdL_len _
  · simp

set_option maxHeartbeats 1000000 in
theorem readItem_any (p : Nat) (l : List UInt8) (e0 : Int) (w : World) (h : IsIn w p l e0) (hl : l.length ≤ maxLen) (x y l2 : List UInt8) (e2 : Int) (hx : textVal 8 l = x) (hy : textVal 16 (textL 8 l) = y) (h2 : textL 16 (textL 8 l) = l2) (h3 : textE 16 (textL 8 l) (textE 8 l e0) = e2) :
    Calls Tryz.prog 138 #[.pointer (some ⟨p, 0, none⟩)] w fun e w' => e = .returned (.agg #[.string (str x), .string (str y)]) ∧ Step (oneF p) w w' ∧ IsIn w' p l2 e2 := by
  have h0 := nil_str
  have b2 := Nat.le_trans (textL_len 8 l) hl
  have HP : Hid (p < w.heap.size) := lt_of_block h
  have T0 := hid (itAt_new w [] [])
  have H1 := hid (h.alloc (.cells #[.string (str []), .string (str [])] 71))
  have S0 := hid ((Step.refl (oneF p) w).alloc (.cells #[.string (str []), .string (str [])] 71))
  have hne : Hid (¬ oneF p w.heap.size) := fun e => by have h1 : w.heap.size = p := e; have := HP.out; omega
  obtain ⟨m, hm⟩ : ∃ m, textL 8 l = m := ⟨_, rfl⟩
  obtain ⟨e1, he1⟩ : ∃ e1, textE 8 l e0 = e1 := ⟨_, rfl⟩
  rw [hm] at hy h2 h3 b2
  rw [he1] at h3
  have HQ := hid (And.intro hx (And.intro hm (And.intro he1 (And.intro hy (And.intro h2 (And.intro h3 (And.intro hl b2)))))))
  clear h hx hy h2 h3 hm he1 hl b2
  go_enter Tryz.func138, Tryz.ntmps138
  go_wp2_with fail
  refine (inText_call 8 p l e0 _ H1.out HQ.out.2.2.2.2.2.2.1 x m e1 HQ.out.1 HQ.out.2.1 HQ.out.2.2.1).mono ?_
  rintro e w1 ⟨rfl, s1, i1⟩
  have T1 : Hid (ItAt w1 w.heap.size [] []) := (s1.block _ (lt_of_block T0.out) hne.out).trans T0.out
  have S1 := hid (S0.out.trans s1)
  have I1 := hid i1
  clear s1 i1
  go_wp2_with fail
  refine (inText_call 16 p m e1 _ I1.out HQ.out.2.2.2.2.2.2.2 y l2 e2 HQ.out.2.2.2.1 HQ.out.2.2.2.2.1 HQ.out.2.2.2.2.2.1).mono ?_
  rintro e w2 ⟨rfl, s2, i2⟩
  have T2 : Hid (ItAt w2 w.heap.size [] []) := (s2.block _ (lt_of_block T1.out) hne.out).trans T1.out
  have S2 := hid (S1.out.trans s2)
  have I2 := hid i2
  clear s2 i2
  have d0 := T2.out.c0
  have d1 := T2.out.c1
  have f0 := T2.out.f 0
  have f1 := T2.out.f 1
  have T3 := hid ((T2.out.set0 x).set1 y)
  have x0 := T3.out.c0
  have x1 := T3.out.c1
  go_wp2_with fail
  refine bodyPost_ret (v := .agg #[.string (str x), .string (str y)]) (by simp [results, Tryz.results138, go_sem, *]) rfl ⟨rfl, ?_, ?_⟩
  · exact (S2.out.setCell (p := ⟨w.heap.size, 0, none⟩) (.inr (Nat.le_refl _)) _).setCell (p := ⟨w.heap.size, 1, none⟩) (.inr (Nat.le_refl _)) _
  · exact I2.out.put2 (by have := HP.out; omega) _ _
theorem readKid_any (p : Nat) (l : List UInt8) (e0 : Int) (w : World) (h : IsIn w p l e0) (hl : l.length ≤ maxLen) (x : Int) (l2 : List UInt8) (e2 : Int) (hx : numVal 2 l = x) (h2 : numL 2 l = l2) (h3 : numE 2 l e0 = e2) :
    Calls Tryz.prog 140 #[.pointer (some ⟨p, 0, none⟩)] w fun e w' => e = .returned (.int .i64 x) ∧ Step (oneF p) w w' ∧ IsIn w' p l2 e2 := by
  have c := inNum_call 2 p l e0 w h hl x l2 e2 hx h2 h3
  clear h hl hx h2 h3
  go_enter Tryz.func140, Tryz.ntmps140
  go_wp2_with fail
  refine c.mono ?_
  rintro e w1 ⟨rfl, s1, i1⟩
  go_wp2_with fail
  go_ret
  exact ⟨rfl, s1, i1⟩
theorem readPivot_any (p : Nat) (l : List UInt8) (e0 : Int) (w : World) (h : IsIn w p l e0) (hl : l.length ≤ maxLen) (x l2 : List UInt8) (e2 : Int) (hx : textVal 8 l = x) (h2 : textL 8 l = l2) (h3 : textE 8 l e0 = e2) :
    Calls Tryz.prog 142 #[.pointer (some ⟨p, 0, none⟩)] w fun e w' => e = .returned (.string (str x)) ∧ Step (oneF p) w w' ∧ IsIn w' p l2 e2 := by
  have c := inText_call 8 p l e0 w h hl x l2 e2 hx h2 h3
  clear h hl hx h2 h3
  go_enter Tryz.func142, Tryz.ntmps142
  go_wp2_with fail
  refine c.mono ?_
  rintro e w1 ⟨rfl, s1, i1⟩
  go_wp2_with fail
  go_ret
  exact ⟨rfl, s1, i1⟩
theorem readMsg_any (p : Nat) (l : List UInt8) (e0 : Int) (w : World) (h : IsIn w p l e0) (hl : l.length ≤ maxLen) (k : Int) (x y l2 : List UInt8) (e2 : Int) (acc : List Mg) (hs : msS (acc, l, e0) = (acc ++ [⟨k, x, y⟩], l2, e2)) :
    Calls Tryz.prog 144 #[.pointer (some ⟨p, 0, none⟩)] w fun e w' => e = .returned (.agg #[.int .i64 k, .string (str x), .string (str y)]) ∧ Step (oneF p) w w' ∧ IsIn w' p l2 e2 := by
  refine (read_any p l e0 w h hl).mono ?_
  rintro e w' ⟨rfl, s1, i1⟩
  unfold msS at hs
  dsimp only at hs
  cases hk : rdOk l e0 with
  | true =>
    rw [hk] at hs i1
    rw [if_pos rfl] at hs i1
    rw [if_pos rfl] at i1
    simp only [Prod.mk.injEq, List.append_cancel_left_eq, List.cons.injEq, and_true] at hs
    obtain ⟨h1, h2, h3⟩ := hs
    rw [if_pos rfl, h1]
    subst h2 h3
    exact ⟨rfl, s1, i1⟩
  | false =>
    rw [hk] at hs i1
    rw [if_neg (by simp)] at hs i1
    rw [if_neg (by simp)] at i1
    simp only [Prod.mk.injEq, List.append_cancel_left_eq, List.cons.injEq, and_true] at hs
    obtain ⟨h1, h2, h3⟩ := hs
    rw [if_neg (by simp), h1]
    subst h2 h3
    exact ⟨rfl, s1, i1⟩

set_option maxHeartbeats 2000000 in
theorem rowIt_any (z : Int) (hz : z ≤ 255) (p : Nat) (l : List UInt8) (e0 : Int) (w : World) (h : IsIn w p l e0) (hl : l.length ≤ 1000) :
    Calls Tryz.prog 137 #[.pointer (some ⟨p, 0, none⟩), .int .i64 z, .func (.func 138) #[] #[]] w fun e w' => ∃ v, e = .returned v ∧ Hid (OwnIt w' w.heap.size v (itr itS z.toNat ([], l, e0)).1) ∧ Hid (Step (oneF p) w w') ∧ Hid (IsIn w' p (itr itS z.toNat ([], l, e0)).2.1 (itr itS z.toNat ([], l, e0)).2.2) := by
  have HP : Hid (p < w.heap.size) := lt_of_block h
  have HI := hid h
  have HL := hid hl
  obtain ⟨n, hn⟩ : ∃ n, z.toNat = n := ⟨_, rfl⟩
  have HN := hid hn
  have hn2 : Hid (n ≤ 255) := by show _ ≤ _; omega
  rw [hn]
  clear h hl hn
  go_enter Tryz.func137, Tryz.ntmps137
  go_wp2_with fail
  go_loopw [7, 9] (fun v i wr => ∃ (j : Nat), j ≤ n ∧ i = .int .i64 j ∧ Hid (OwnIt wr w.heap.size v (itr itS j ([], l, e0)).1) ∧ Hid (Step (oneF p) w wr) ∧ Hid (IsIn wr p (itr itS j ([], l, e0)).2.1 (itr itS j ([], l, e0)).2.2)) (fun _ i _ => n - (intOf i).toNat)
  case atStart => exact ⟨0, Nat.zero_le _, rfl, World.ownsRow_nil _ _ _ _, Step.refl _ _, HI.out⟩
  case round =>
    obtain ⟨j, hj, rfl, HO, ST, II⟩ := hrel
    by_cases hjl : (j : Int) < z
    · have HJ : Hid (j < n) := by have := HN.out; show _ < _; omega
      have HA : Hid ((itr itS j ([], l, e0)).1.length = j) := itr_len itS (fun s => ⟨_, rfl⟩) l e0 j
      have HB : Hid ((itr itS j ([], l, e0)).2.1.length ≤ maxLen) := by
        have a1 := itr_left itS itS_left ([], l, e0) j
        have a2 := HL.out
        dsimp only at a1
        unfold maxLen
        show _ ≤ _
        omega
      have HS : Hid (itr itS (j + 1) ([], l, e0) = itS (itr itS j ([], l, e0))) := rfl
      obtain ⟨⟨acc, l1, e1⟩, hs⟩ : ∃ s, itr itS j ([], l, e0) = s := ⟨_, rfl⟩
      rw [hs] at HO II HA HB HS
      dsimp only at HO II HA HB
      clear hs
      obtain ⟨x, hx⟩ : ∃ x, textVal 8 l1 = x := ⟨_, rfl⟩
      obtain ⟨y, hy⟩ : ∃ y, textVal 16 (textL 8 l1) = y := ⟨_, rfl⟩
      obtain ⟨l2, h2⟩ : ∃ l2, textL 16 (textL 8 l1) = l2 := ⟨_, rfl⟩
      obtain ⟨e2, h3⟩ : ∃ e2, textE 16 (textL 8 l1) (textE 8 l1 e1) = e2 := ⟨_, rfl⟩
      have hr : itS (acc, l1, e1) = (acc ++ [⟨x, y⟩], l2, e2) := by rw [← hx, ← hy, ← h2, ← h3]; rfl
      rw [hr] at HS
      have HQ := hid (And.intro hx (And.intro hy (And.intro h2 h3)))
      clear hx hy h2 h3
      clear hr
      go_wp2_with fail
      refine (readItem_any p l1 e1 wr II.out HB.out x y l2 e2 HQ.out.1 HQ.out.2.1 HQ.out.2.2.1 HQ.out.2.2.2).mono ?_
      rintro e w2 ⟨rfl, s2, i2⟩
      have O2 : Hid (OwnIt (w2.alloc (.cells #[.string (str x), .string (str y)] 71)) w.heap.size u7 acc) := OwnIt.step (owns_step HO.out s2 (fun k hk hkp => by
        have a1 := (HO.out.lt k hk).1
        have a2 := HP.out
        have a3 : k = p := hkp
        omega)) ((Step.refl noF w2).alloc _)
      have I2 := hid (i2.alloc (.cells #[.string (str x), .string (str y)] 71))
      have S2 := hid ((ST.out.trans s2).alloc (.cells #[.string (str x), .string (str y)] 71))
      have HR : Hid (RgsAt (w2.alloc (.cells #[.string (str x), .string (str y)] 71)) (some ⟨w2.heap.size, 0, none⟩) [⟨x, y⟩]) := rg_new w2 x y
      have HSZ : Hid (w.heap.size ≤ (w2.alloc (.cells #[.string (str x), .string (str y)] 71)).heap.size) := S2.out.size
      have HLL : Hid (acc.length + 1 ≤ 1000000000) := by have a1 := HA.out; have a2 := hn2.out; have a3 := HJ.out; show _ ≤ _; omega
      clear s2 i2
      go_wp2_with (at_builtin; refine wpList_append_it rfl _ _ rfl w.heap.size _ acc rfl O2.out (some ⟨w2.heap.size, 0, none⟩) 1 [⟨x, y⟩] rfl HR.out (by intro h; cases h) HLL.out HSZ.out ?_)
      intro v' w3 o3 g3
      have O3 := hid o3
      have S3 : Hid (Step (oneF p) w w3) := S2.out.grown g3 (fun k hk => .inr (O2.out.lt k hk).1)
      have I3 : Hid (IsIn w3 p l2 e2) := I2.out.mono ((Step.refl (fun k => u7.ownBlock = some k) _).grown g3 (fun k hk => .inl hk)) (fun hk => by
        have a1 := (O2.out.lt p hk).1
        have a2 := HP.out
        omega)
      clear o3 g3
      go_wp2_with fail
      go_roundw
      case rel =>
        have hJ := HJ.out
        refine ⟨j + 1, by omega, int_eq (by omega), ?_, S3.out, ?_⟩
        · rw [HS.out]
          first
            | exact O3.out
            | (show World.ownsRow _ _ _ _ _ _ _; dsimp only; rw [List.length_append]; exact O3.out)
        · rw [HS.out]
          exact I3.out
      case measure => have hJ := HJ.out; simp [intOf]; omega
    · obtain rfl : j = n := by have := HN.out; omega
      go_wp2_with fail
      go_ret
      exact ⟨_, rfl, HO, ST, II⟩

set_option maxHeartbeats 2000000 in
theorem rowKid_any (z : Int) (hz : z ≤ 255) (p : Nat) (l : List UInt8) (e0 : Int) (w : World) (h : IsIn w p l e0) (hl : l.length ≤ 1000) :
    Calls Tryz.prog 139 #[.pointer (some ⟨p, 0, none⟩), .int .i64 z, .func (.func 140) #[] #[]] w fun e w' => ∃ v, e = .returned v ∧ Hid (OwnI w' w.heap.size v (itr kidS z.toNat ([], l, e0)).1) ∧ Hid (Step (oneF p) w w') ∧ Hid (IsIn w' p (itr kidS z.toNat ([], l, e0)).2.1 (itr kidS z.toNat ([], l, e0)).2.2) := by
  have HP : Hid (p < w.heap.size) := lt_of_block h
  have HI := hid h
  have HL := hid hl
  obtain ⟨n, hn⟩ : ∃ n, z.toNat = n := ⟨_, rfl⟩
  have HN := hid hn
  have hn2 : Hid (n ≤ 255) := by show _ ≤ _; omega
  rw [hn]
  clear h hl hn
  go_enter Tryz.func139, Tryz.ntmps139
  go_wp2_with fail
  go_loopw [7, 9] (fun v i wr => ∃ (j : Nat), j ≤ n ∧ i = .int .i64 j ∧ Hid (OwnI wr w.heap.size v (itr kidS j ([], l, e0)).1) ∧ Hid (Step (oneF p) w wr) ∧ Hid (IsIn wr p (itr kidS j ([], l, e0)).2.1 (itr kidS j ([], l, e0)).2.2)) (fun _ i _ => n - (intOf i).toNat)
  case atStart => exact ⟨0, Nat.zero_le _, rfl, World.ownsRow_nil _ _ _ _, Step.refl _ _, HI.out⟩
  case round =>
    obtain ⟨j, hj, rfl, HO, ST, II⟩ := hrel
    by_cases hjl : (j : Int) < z
    · have HJ : Hid (j < n) := by have := HN.out; show _ < _; omega
      have HA : Hid ((itr kidS j ([], l, e0)).1.length = j) := itr_len kidS (fun s => ⟨_, rfl⟩) l e0 j
      have HB : Hid ((itr kidS j ([], l, e0)).2.1.length ≤ maxLen) := by
        have a1 := itr_left kidS kidS_left ([], l, e0) j
        have a2 := HL.out
        dsimp only at a1
        unfold maxLen
        show _ ≤ _
        omega
      have HS : Hid (itr kidS (j + 1) ([], l, e0) = kidS (itr kidS j ([], l, e0))) := rfl
      obtain ⟨⟨acc, l1, e1⟩, hs⟩ : ∃ s, itr kidS j ([], l, e0) = s := ⟨_, rfl⟩
      rw [hs] at HO II HA HB HS
      dsimp only at HO II HA HB
      clear hs
      obtain ⟨x, hx⟩ : ∃ x, numVal 2 l1 = x := ⟨_, rfl⟩
      obtain ⟨l2, h2⟩ : ∃ l2, numL 2 l1 = l2 := ⟨_, rfl⟩
      obtain ⟨e2, h3⟩ : ∃ e2, numE 2 l1 e1 = e2 := ⟨_, rfl⟩
      have hr : kidS (acc, l1, e1) = (acc ++ [x], l2, e2) := by rw [← hx, ← h2, ← h3]; rfl
      rw [hr] at HS
      have HQ := hid (And.intro hx (And.intro h2 h3))
      clear hx h2 h3
      clear hr
      go_wp2_with fail
      refine (readKid_any p l1 e1 wr II.out HB.out x l2 e2 HQ.out.1 HQ.out.2.1 HQ.out.2.2).mono ?_
      rintro e w2 ⟨rfl, s2, i2⟩
      have O2 : Hid (OwnI (w2.alloc (.cells #[.int .i64 x] 3)) w.heap.size u7 acc) := OwnI.step (owns_step HO.out s2 (fun k hk hkp => by
        have a1 := (HO.out.lt k hk).1
        have a2 := HP.out
        have a3 : k = p := hkp
        omega)) ((Step.refl noF w2).alloc _)
      have I2 := hid (i2.alloc (.cells #[.int .i64 x] 3))
      have S2 := hid ((ST.out.trans s2).alloc (.cells #[.int .i64 x] 3))
      have HR : Hid (RowAt (w2.alloc (.cells #[.int .i64 x] 3)) noF (some ⟨w2.heap.size, 0, none⟩) (intsOf [x])) := rowAt_new w2 noF (fun _ h => h.elim) _ _ _ rfl _ rfl
      have HSZ : Hid (w.heap.size ≤ (w2.alloc (.cells #[.int .i64 x] 3)).heap.size) := S2.out.size
      have HLL : Hid (acc.length + 1 ≤ 1000000000) := by have a1 := HA.out; have a2 := hn2.out; have a3 := HJ.out; show _ ≤ _; omega
      clear s2 i2
      go_wp2_with (at_builtin; refine wpList_append_I rfl _ _ rfl w.heap.size _ acc rfl O2.out (some ⟨w2.heap.size, 0, none⟩) 1 [x] rfl HR.out (by intro h; cases h) HLL.out HSZ.out ?_)
      intro v' w3 o3 g3
      have O3 := hid o3
      have S3 : Hid (Step (oneF p) w w3) := S2.out.grown g3 (fun k hk => .inr (O2.out.lt k hk).1)
      have I3 : Hid (IsIn w3 p l2 e2) := I2.out.mono ((Step.refl (fun k => u7.ownBlock = some k) _).grown g3 (fun k hk => .inl hk)) (fun hk => by
        have a1 := (O2.out.lt p hk).1
        have a2 := HP.out
        omega)
      clear o3 g3
      go_wp2_with fail
      go_roundw
      case rel =>
        have hJ := HJ.out
        refine ⟨j + 1, by omega, int_eq (by omega), ?_, S3.out, ?_⟩
        · rw [HS.out]
          first
            | exact O3.out
            | (show World.ownsRow _ _ _ _ _ _ _; dsimp only; rw [List.length_append]; exact O3.out)
        · rw [HS.out]
          exact I3.out
      case measure => have hJ := HJ.out; simp [intOf]; omega
    · obtain rfl : j = n := by have := HN.out; omega
      go_wp2_with fail
      go_ret
      exact ⟨_, rfl, HO, ST, II⟩

set_option maxHeartbeats 2000000 in
theorem rowPiv_any (z : Int) (hz : z ≤ 255) (p : Nat) (l : List UInt8) (e0 : Int) (w : World) (h : IsIn w p l e0) (hl : l.length ≤ 1000) :
    Calls Tryz.prog 141 #[.pointer (some ⟨p, 0, none⟩), .int .i64 z, .func (.func 142) #[] #[]] w fun e w' => ∃ v, e = .returned v ∧ Hid (OwnT w' w.heap.size v (itr pivS z.toNat ([], l, e0)).1) ∧ Hid (Step (oneF p) w w') ∧ Hid (IsIn w' p (itr pivS z.toNat ([], l, e0)).2.1 (itr pivS z.toNat ([], l, e0)).2.2) := by
  have HP : Hid (p < w.heap.size) := lt_of_block h
  have HI := hid h
  have HL := hid hl
  obtain ⟨n, hn⟩ : ∃ n, z.toNat = n := ⟨_, rfl⟩
  have HN := hid hn
  have hn2 : Hid (n ≤ 255) := by show _ ≤ _; omega
  rw [hn]
  clear h hl hn
  go_enter Tryz.func141, Tryz.ntmps141
  go_wp2_with fail
  go_loopw [7, 9] (fun v i wr => ∃ (j : Nat), j ≤ n ∧ i = .int .i64 j ∧ Hid (OwnT wr w.heap.size v (itr pivS j ([], l, e0)).1) ∧ Hid (Step (oneF p) w wr) ∧ Hid (IsIn wr p (itr pivS j ([], l, e0)).2.1 (itr pivS j ([], l, e0)).2.2)) (fun _ i _ => n - (intOf i).toNat)
  case atStart => exact ⟨0, Nat.zero_le _, rfl, World.ownsRow_nil _ _ _ _, Step.refl _ _, HI.out⟩
  case round =>
    obtain ⟨j, hj, rfl, HO, ST, II⟩ := hrel
    by_cases hjl : (j : Int) < z
    · have HJ : Hid (j < n) := by have := HN.out; show _ < _; omega
      have HA : Hid ((itr pivS j ([], l, e0)).1.length = j) := itr_len pivS (fun s => ⟨_, rfl⟩) l e0 j
      have HB : Hid ((itr pivS j ([], l, e0)).2.1.length ≤ maxLen) := by
        have a1 := itr_left pivS pivS_left ([], l, e0) j
        have a2 := HL.out
        dsimp only at a1
        unfold maxLen
        show _ ≤ _
        omega
      have HS : Hid (itr pivS (j + 1) ([], l, e0) = pivS (itr pivS j ([], l, e0))) := rfl
      obtain ⟨⟨acc, l1, e1⟩, hs⟩ : ∃ s, itr pivS j ([], l, e0) = s := ⟨_, rfl⟩
      rw [hs] at HO II HA HB HS
      dsimp only at HO II HA HB
      clear hs
      obtain ⟨x, hx⟩ : ∃ x, textVal 8 l1 = x := ⟨_, rfl⟩
      obtain ⟨l2, h2⟩ : ∃ l2, textL 8 l1 = l2 := ⟨_, rfl⟩
      obtain ⟨e2, h3⟩ : ∃ e2, textE 8 l1 e1 = e2 := ⟨_, rfl⟩
      have hr : pivS (acc, l1, e1) = (acc ++ [x], l2, e2) := by rw [← hx, ← h2, ← h3]; rfl
      rw [hr] at HS
      have HQ := hid (And.intro hx (And.intro h2 h3))
      clear hx h2 h3
      clear hr
      go_wp2_with fail
      refine (readPivot_any p l1 e1 wr II.out HB.out x l2 e2 HQ.out.1 HQ.out.2.1 HQ.out.2.2).mono ?_
      rintro e w2 ⟨rfl, s2, i2⟩
      have O2 : Hid (OwnT (w2.alloc (.cells #[.string (str x)] 9)) w.heap.size u7 acc) := OwnT.step (owns_step HO.out s2 (fun k hk hkp => by
        have a1 := (HO.out.lt k hk).1
        have a2 := HP.out
        have a3 : k = p := hkp
        omega)) ((Step.refl noF w2).alloc _)
      have I2 := hid (i2.alloc (.cells #[.string (str x)] 9))
      have S2 := hid ((ST.out.trans s2).alloc (.cells #[.string (str x)] 9))
      have HR : Hid (RowAt (w2.alloc (.cells #[.string (str x)] 9)) noF (some ⟨w2.heap.size, 0, none⟩) (texts [x])) := rowAt_new w2 noF (fun _ h => h.elim) _ _ _ rfl _ rfl
      have HSZ : Hid (w.heap.size ≤ (w2.alloc (.cells #[.string (str x)] 9)).heap.size) := S2.out.size
      have HLL : Hid (acc.length + 1 ≤ 1000000000) := by have a1 := HA.out; have a2 := hn2.out; have a3 := HJ.out; show _ ≤ _; omega
      clear s2 i2
      go_wp2_with (at_builtin; refine wpList_append_T rfl _ _ rfl w.heap.size _ acc rfl O2.out (some ⟨w2.heap.size, 0, none⟩) 1 [x] rfl HR.out (by intro h; cases h) HLL.out HSZ.out ?_)
      intro v' w3 o3 g3
      have O3 := hid o3
      have S3 : Hid (Step (oneF p) w w3) := S2.out.grown g3 (fun k hk => .inr (O2.out.lt k hk).1)
      have I3 : Hid (IsIn w3 p l2 e2) := I2.out.mono ((Step.refl (fun k => u7.ownBlock = some k) _).grown g3 (fun k hk => .inl hk)) (fun hk => by
        have a1 := (O2.out.lt p hk).1
        have a2 := HP.out
        omega)
      clear o3 g3
      go_wp2_with fail
      go_roundw
      case rel =>
        have hJ := HJ.out
        refine ⟨j + 1, by omega, int_eq (by omega), ?_, S3.out, ?_⟩
        · rw [HS.out]
          first
            | exact O3.out
            | (show World.ownsRow _ _ _ _ _ _ _; dsimp only; rw [List.length_append]; exact O3.out)
        · rw [HS.out]
          exact I3.out
      case measure => have hJ := HJ.out; simp [intOf]; omega
    · obtain rfl : j = n := by have := HN.out; omega
      go_wp2_with fail
      go_ret
      exact ⟨_, rfl, HO, ST, II⟩

set_option maxHeartbeats 2000000 in
theorem rowMs_any (z : Int) (hz : z ≤ 255) (p : Nat) (l : List UInt8) (e0 : Int) (w : World) (h : IsIn w p l e0) (hl : l.length ≤ 1000) :
    Calls Tryz.prog 143 #[.pointer (some ⟨p, 0, none⟩), .int .i64 z, .func (.func 144) #[] #[]] w fun e w' => ∃ v, e = .returned v ∧ Hid (OwnB w' w.heap.size v (itr msS z.toNat ([], l, e0)).1) ∧ Hid (Step (oneF p) w w') ∧ Hid (IsIn w' p (itr msS z.toNat ([], l, e0)).2.1 (itr msS z.toNat ([], l, e0)).2.2) := by
  have HP : Hid (p < w.heap.size) := lt_of_block h
  have HI := hid h
  have HL := hid hl
  obtain ⟨n, hn⟩ : ∃ n, z.toNat = n := ⟨_, rfl⟩
  have HN := hid hn
  have hn2 : Hid (n ≤ 255) := by show _ ≤ _; omega
  rw [hn]
  clear h hl hn
  go_enter Tryz.func143, Tryz.ntmps143
  go_wp2_with fail
  go_loopw [7, 9] (fun v i wr => ∃ (j : Nat), j ≤ n ∧ i = .int .i64 j ∧ Hid (OwnB wr w.heap.size v (itr msS j ([], l, e0)).1) ∧ Hid (Step (oneF p) w wr) ∧ Hid (IsIn wr p (itr msS j ([], l, e0)).2.1 (itr msS j ([], l, e0)).2.2)) (fun _ i _ => n - (intOf i).toNat)
  case atStart => exact ⟨0, Nat.zero_le _, rfl, World.ownsRow_nil _ _ _ _, Step.refl _ _, HI.out⟩
  case round =>
    obtain ⟨j, hj, rfl, HO, ST, II⟩ := hrel
    by_cases hjl : (j : Int) < z
    · have HJ : Hid (j < n) := by have := HN.out; show _ < _; omega
      have HA : Hid ((itr msS j ([], l, e0)).1.length = j) := itr_len msS msS_one l e0 j
      have HB : Hid ((itr msS j ([], l, e0)).2.1.length ≤ maxLen) := by
        have a1 := itr_left msS msS_left ([], l, e0) j
        have a2 := HL.out
        dsimp only at a1
        unfold maxLen
        show _ ≤ _
        omega
      have HS : Hid (itr msS (j + 1) ([], l, e0) = msS (itr msS j ([], l, e0))) := rfl
      obtain ⟨⟨acc, l1, e1⟩, hs⟩ : ∃ s, itr msS j ([], l, e0) = s := ⟨_, rfl⟩
      rw [hs] at HO II HA HB HS
      dsimp only at HO II HA HB
      clear hs
      obtain ⟨⟨k, x, y⟩, l2, e2, hr⟩ : ∃ m l2 e2, msS (acc, l1, e1) = (acc ++ [m], l2, e2) := by
        obtain ⟨m, hm⟩ := msS_one (acc, l1, e1)
        exact ⟨m, _, _, by rw [← hm]⟩
      rw [hr] at HS
      have HQ := hid hr
      clear hr
      go_wp2_with fail
      refine (readMsg_any p l1 e1 wr II.out HB.out k x y l2 e2 acc HQ.out).mono ?_
      rintro e w2 ⟨rfl, s2, i2⟩
      have O2 : Hid (OwnB (w2.alloc (.cells #[.int .i64 k, .string (str x), .string (str y)] 73)) w.heap.size u7 acc) := OwnB.step (owns_step HO.out s2 (fun k hk hkp => by
        have a1 := (HO.out.lt k hk).1
        have a2 := HP.out
        have a3 : k = p := hkp
        omega)) ((Step.refl noF w2).alloc _)
      have I2 := hid (i2.alloc (.cells #[.int .i64 k, .string (str x), .string (str y)] 73))
      have S2 := hid ((ST.out.trans s2).alloc (.cells #[.int .i64 k, .string (str x), .string (str y)] 73))
      have HR : Hid (MsgsAt (w2.alloc (.cells #[.int .i64 k, .string (str x), .string (str y)] 73)) noF (some ⟨w2.heap.size, 0, none⟩) [⟨k, x, y⟩]) := msB_new w2 k x y
      have HSZ : Hid (w.heap.size ≤ (w2.alloc (.cells #[.int .i64 k, .string (str x), .string (str y)] 73)).heap.size) := S2.out.size
      have HLL : Hid (acc.length + 1 ≤ 1000000000) := by have a1 := HA.out; have a2 := hn2.out; have a3 := HJ.out; show _ ≤ _; omega
      clear s2 i2
      go_wp2_with (at_builtin; refine wpList_append_mB rfl _ _ rfl w.heap.size _ acc rfl O2.out (some ⟨w2.heap.size, 0, none⟩) 1 [⟨k, x, y⟩] rfl HR.out (by intro h; cases h) HLL.out HSZ.out ?_)
      intro v' w3 o3 g3
      have O3 := hid o3
      have S3 : Hid (Step (oneF p) w w3) := S2.out.grown g3 (fun k hk => .inr (O2.out.lt k hk).1)
      have I3 : Hid (IsIn w3 p l2 e2) := I2.out.mono ((Step.refl (fun k => u7.ownBlock = some k) _).grown g3 (fun k hk => .inl hk)) (fun hk => by
        have a1 := (O2.out.lt p hk).1
        have a2 := HP.out
        omega)
      clear o3 g3
      go_wp2_with fail
      go_roundw
      case rel =>
        have hJ := HJ.out
        refine ⟨j + 1, by omega, int_eq (by omega), ?_, S3.out, ?_⟩
        · rw [HS.out]
          first
            | exact O3.out
            | (show World.ownsRow _ _ _ _ _ _ _; dsimp only; rw [List.length_append]; exact O3.out)
        · rw [HS.out]
          exact I3.out
      case measure => have hJ := HJ.out; simp [intOf]; omega
    · obtain rfl : j = n := by have := HN.out; omega
      go_wp2_with fail
      go_ret
      exact ⟨_, rfl, HO, ST, II⟩
end Go.Proofs.YtoobelcphcndoaaGreat
