/-
  Plain functions of a node: its bytes, and what is read off bytes: no program is named.
-/
import Derived.Test.YtoobelcphcndoaaGreatInnerM
import Derived.Test.YtoobelcphcndoaaGreatPenF
namespace Go.Proofs.YtoobelcphcndoaaGreat
open Go.RowKit Go.Sort
set_option linter.unusedVariables false

/-- A text, as it is written. -/
def ntx (l : List UInt8) : List UInt8 := UInt8.ofNat l.length :: l
theorem ntx_be (l : List UInt8) : ntx l = be 1 l.length ++ l := by simp [ntx, be]
theorem ntx_back (most : Nat) (hm : most ≤ 255) (l rest : List UInt8) (hl : l.length ≤ most) (e : Int) :
    textVal most (ntx l ++ rest) = l ∧ textL most (ntx l ++ rest) = rest ∧ textE most (ntx l ++ rest) e = e := by
  have ht : ntx l ++ rest = be 1 l.length ++ (l ++ rest) := by rw [ntx_be, List.append_assoc]
  obtain ⟨n1, n2, n3⟩ := num_app 1 (.inl rfl) l.length (by omega) (by omega) (l ++ rest) e
  obtain ⟨r1, r2, r3⟩ := raw_app l.length l rest rfl e
  have e1 : numVal 1 (ntx l ++ rest) = l.length := by rw [ht]; exact n1
  have e2 : numL 1 (ntx l ++ rest) = l ++ rest := by rw [ht]; exact n2
  have e3 : numE 1 (ntx l ++ rest) e = e := by rw [ht]; exact n3
  have hmm : ¬ (most : Int) < numVal 1 (ntx l ++ rest) := by rw [e1]; omega
  refine ⟨?_, ?_, ?_⟩
  · rw [textVal, if_neg hmm, e1, e2, r1]
  · rw [textL, if_neg hmm, e1, e2, r2]
  · rw [textE, if_neg hmm, e1, e2, e3, r3]
theorem be_beN : ∀ (k : Nat) (l : List UInt8), l.length = k → be k (beN l) = l := by
  intro k
  induction k with
  | zero => intro l h; rw [List.length_eq_zero_iff.1 h]; rfl
  | succ k ih =>
    intro l h
    obtain ⟨a, b, rfl⟩ : ∃ a b, l = a ++ [b] := ⟨l.dropLast, l.getLast (by intro e; subst e; simp at h), (List.dropLast_concat_getLast _).symm⟩
    have ha : a.length = k := by simpa using h
    rw [beN_snoc, be]
    have h1 : (beN a * 256 + b.toNat) / 256 = beN a := by have := b.toNat_lt; omega
    have h2 : UInt8.ofNat (beN a * 256 + b.toNat) = b := by
      apply UInt8.toNat_inj.1
      rw [UInt8.toNat_ofNat']
      have := b.toNat_lt
      omega
    rw [h1, h2, ih a ha]
theorem num_inv (k : Nat) (l : List UInt8) (e : Int) (h : numE k l e = 0) : e = 0 ∧ l = be k (numVal k l).toNat ++ numL k l ∧ 0 ≤ numVal k l ∧ (numVal k l).toNat < 256 ^ k := by
  unfold numE at h
  unfold numVal numL
  by_cases hk : numOk k l = true
  · rw [if_pos hk] at h ⊢
    rw [if_pos hk]
    unfold rawE at h
    unfold rawV rawL
    by_cases hl : (0 : Int) ≤ (k : Int) ∧ (k : Int) ≤ (l.length : Int)
    · rw [if_pos hl] at h
      rw [if_pos hl, if_pos hl]
      have hlen : (l.take k).length = k := by rw [List.length_take]; omega
      refine ⟨h, ?_, by omega, ?_⟩
      · rw [Int.toNat_natCast, Int.toNat_natCast, be_beN k _ hlen, List.take_append_drop]
      · rw [Int.toNat_natCast, Int.toNat_natCast]
        have := beN_lt (l.take k)
        rw [hlen] at this
        exact this
    · rw [if_neg hl] at h
      omega
  · rw [if_neg hk] at h
    omega
theorem text_inv (most : Nat) (l : List UInt8) (e : Int) (h : textE most l e = 0) : e = 0 ∧ l = ntx (textVal most l) ++ textL most l ∧ (textVal most l).length ≤ most := by
  unfold textE at h
  unfold textVal textL
  by_cases hm : (most : Int) < numVal 1 l
  · rw [if_pos hm] at h
    omega
  · rw [if_neg hm] at h
    rw [if_neg hm, if_neg hm]
    unfold rawE at h
    unfold rawV rawL
    by_cases hl : (0 : Int) ≤ numVal 1 l ∧ numVal 1 l ≤ ((numL 1 l).length : Int)
    · rw [if_pos hl] at h
      rw [if_pos hl, if_pos hl]
      obtain ⟨h1, h2, h3, h4⟩ := num_inv 1 l e h
      have hlen : ((numL 1 l).take (numVal 1 l).toNat).length = (numVal 1 l).toNat := by rw [List.length_take]; omega
      refine ⟨h1, ?_, by rw [hlen]; omega⟩
      rw [ntx_be, hlen, List.append_assoc, List.take_append_drop]
      exact h2
    · rw [if_neg hl] at h
      omega

/-- f, so often. -/
def itr {σ : Type} (f : σ → σ) : Nat → σ → σ
  | 0, s => s
  | n + 1, s => f (itr f n s)
/-- What rows of things that are written one behind the other are read as. -/
theorem itr_back {α : Type} (enc : α → List UInt8) (f : List α × List UInt8 × Int → List α × List UInt8 × Int) (ok : α → Prop) (hf : ∀ acc x rest, ok x → f (acc, enc x ++ rest, 0) = (acc ++ [x], rest, 0))
    (xs : List α) (hx : ∀ x ∈ xs, ok x) (rest : List UInt8) : ∀ j, j ≤ xs.length → itr f j ([], xs.flatMap enc ++ rest, 0) = (xs.take j, (xs.drop j).flatMap enc ++ rest, 0) := by
  intro j
  induction j with
  | zero => intro _; simp [itr]
  | succ j ih =>
    intro hj
    have hjl : j < xs.length := hj
    rw [itr, ih (by omega), List.drop_eq_getElem_cons hjl, List.flatMap_cons, List.append_assoc, hf _ _ _ (hx _ (List.getElem_mem hjl)), List.take_add_one, List.getElem?_eq_getElem hjl]
    rfl
theorem itr_all {α : Type} (enc : α → List UInt8) (f : List α × List UInt8 × Int → List α × List UInt8 × Int) (ok : α → Prop) (hf : ∀ acc x rest, ok x → f (acc, enc x ++ rest, 0) = (acc ++ [x], rest, 0))
    (xs : List α) (hx : ∀ x ∈ xs, ok x) (rest : List UInt8) : itr f xs.length ([], xs.flatMap enc ++ rest, 0) = (xs, rest, 0) := by
  rw [itr_back enc f ok hf xs hx rest xs.length (Nat.le_refl _)]
  simp
/-- What was read without a fault was there. -/
theorem itr_inv {α : Type} (enc : α → List UInt8) (f : List α × List UInt8 × Int → List α × List UInt8 × Int) (ok : α → Prop)
    (hf : ∀ s, (f s).2.2 = 0 → s.2.2 = 0 ∧ ∃ x, (f s).1 = s.1 ++ [x] ∧ s.2.1 = enc x ++ (f s).2.1 ∧ ok x)
    (l : List UInt8) (e : Int) : ∀ n, (itr f n ([], l, e)).2.2 = 0 → e = 0 ∧ (itr f n ([], l, e)).1.length = n ∧ l = (itr f n ([], l, e)).1.flatMap enc ++ (itr f n ([], l, e)).2.1 ∧ ∀ x ∈ (itr f n ([], l, e)).1, ok x := by
  intro n
  induction n with
  | zero => intro h; exact ⟨h, rfl, by simp [itr], fun x hx => by simp [itr] at hx⟩
  | succ n ih =>
    intro h
    rw [itr] at h ⊢
    obtain ⟨h1, x, h2, h3, h4⟩ := hf _ h
    obtain ⟨i1, i2, i3, i4⟩ := ih h1
    refine ⟨i1, by rw [h2, List.length_append, i2]; rfl, ?_, ?_⟩
    · rw [h2, List.flatMap_append, List.append_assoc]
      simp only [List.flatMap_cons, List.flatMap_nil, List.append_nil]
      rw [← h3]
      exact i3
    · intro y hy
      rw [h2, List.mem_append, List.mem_singleton] at hy
      rcases hy with hy | rfl
      · exact i4 y hy
      · exact h4

/-- Items, kids, pivots, messages: written, and read one more. -/
def itB (x : Rg) : List UInt8 := ntx x.lo ++ ntx x.hi
def mgB (m : Mg) : List UInt8 := be 1 m.kind.toNat ++ (ntx m.key ++ ntx m.val)
def kidB (k : Int) : List UInt8 := be 2 k.toNat
def itS (s : List Rg × List UInt8 × Int) : List Rg × List UInt8 × Int := (s.1 ++ [⟨textVal 8 s.2.1, textVal 16 (textL 8 s.2.1)⟩], textL 16 (textL 8 s.2.1), textE 16 (textL 8 s.2.1) (textE 8 s.2.1 s.2.2))
def kidS (s : List Int × List UInt8 × Int) : List Int × List UInt8 × Int := (s.1 ++ [numVal 2 s.2.1], numL 2 s.2.1, numE 2 s.2.1 s.2.2)
def pivS (s : List (List UInt8) × List UInt8 × Int) : List (List UInt8) × List UInt8 × Int := (s.1 ++ [textVal 8 s.2.1], textL 8 s.2.1, textE 8 s.2.1 s.2.2)
def mgS (s : List Mg × List UInt8 × Int) : List Mg × List UInt8 × Int :=
  (s.1 ++ [⟨numVal 1 s.2.1, textVal 8 (numL 1 s.2.1), textVal 16 (textL 8 (numL 1 s.2.1))⟩], textL 16 (textL 8 (numL 1 s.2.1)), textE 16 (textL 8 (numL 1 s.2.1)) (textE 8 (numL 1 s.2.1) (numE 1 s.2.1 s.2.2)))
def itFit (x : Rg) : Prop := x.lo.length ≤ 8 ∧ x.hi.length ≤ 16
def mgFit (m : Mg) : Prop := 0 ≤ m.kind ∧ m.kind < 256 ∧ m.key.length ≤ 8 ∧ m.val.length ≤ 16
def kidFit (k : Int) : Prop := 0 ≤ k ∧ k < 65536

theorem itS_app (acc : List Rg) (x : Rg) (rest : List UInt8) (h : itFit x) : itS (acc, itB x ++ rest, 0) = (acc ++ [x], rest, 0) := by
  have hb : itB x ++ rest = ntx x.lo ++ (ntx x.hi ++ rest) := by simp [itB]
  obtain ⟨x1, x2, x3⟩ := ntx_back 8 (by omega) x.lo (ntx x.hi ++ rest) h.1 0
  obtain ⟨y1, y2, y3⟩ := ntx_back 16 (by omega) x.hi rest h.2 0
  rw [show ((8 : Nat) : Int) = 8 from rfl] at x1 x2 x3
  rw [show ((16 : Nat) : Int) = 16 from rfl] at y1 y2 y3
  unfold itS
  simp only [hb, x1, x2, x3, y1, y2, y3]
theorem kidS_app (acc : List Int) (k : Int) (rest : List UInt8) (h : kidFit k) : kidS (acc, kidB k ++ rest, 0) = (acc ++ [k], rest, 0) := by
  obtain ⟨n1, n2, n3⟩ := num_app 2 (.inr (.inl rfl)) k.toNat (by have := h.1; have := h.2; omega) (by have := h.2; omega) rest 0
  rw [show ((2 : Nat) : Int) = 2 from rfl] at n1 n2 n3
  unfold kidS kidB
  simp only [n1, n2, n3]
  rw [show ((k.toNat : Nat) : Int) = k by have := h.1; omega]
theorem pivS_app (acc : List (List UInt8)) (x : List UInt8) (rest : List UInt8) (h : x.length ≤ 8) : pivS (acc, ntx x ++ rest, 0) = (acc ++ [x], rest, 0) := by
  obtain ⟨x1, x2, x3⟩ := ntx_back 8 (by omega) x rest h 0
  rw [show ((8 : Nat) : Int) = 8 from rfl] at x1 x2 x3
  unfold pivS
  simp only [x1, x2, x3]
theorem mgS_app (acc : List Mg) (m : Mg) (rest : List UInt8) (h : mgFit m) : mgS (acc, mgB m ++ rest, 0) = (acc ++ [m], rest, 0) := by
  obtain ⟨h1, h2, h3, h4⟩ := h
  have hb : mgB m ++ rest = be 1 m.kind.toNat ++ (ntx m.key ++ (ntx m.val ++ rest)) := by simp [mgB]
  obtain ⟨n1, n2, n3⟩ := num_app 1 (.inl rfl) m.kind.toNat (by omega) (by omega) (ntx m.key ++ (ntx m.val ++ rest)) 0
  obtain ⟨x1, x2, x3⟩ := ntx_back 8 (by omega) m.key (ntx m.val ++ rest) h3 0
  obtain ⟨y1, y2, y3⟩ := ntx_back 16 (by omega) m.val rest h4 0
  rw [show ((1 : Nat) : Int) = 1 from rfl] at n1 n2 n3
  rw [show ((8 : Nat) : Int) = 8 from rfl] at x1 x2 x3
  rw [show ((16 : Nat) : Int) = 16 from rfl] at y1 y2 y3
  unfold mgS
  simp only [hb, n1, n2, n3, x1, x2, x3, y1, y2, y3]
  rw [show ((m.kind.toNat : Nat) : Int) = m.kind by omega]
theorem itS_inv (s : List Rg × List UInt8 × Int) (h : (itS s).2.2 = 0) : s.2.2 = 0 ∧ ∃ x, (itS s).1 = s.1 ++ [x] ∧ s.2.1 = itB x ++ (itS s).2.1 ∧ itFit x := by
  obtain ⟨acc, l, e⟩ := s
  unfold itS at h ⊢
  simp only at h ⊢
  obtain ⟨h1, h2, h3⟩ := text_inv 16 (textL 8 l) (textE 8 l e) h
  obtain ⟨g1, g2, g3⟩ := text_inv 8 l e h1
  refine ⟨g1, _, rfl, ?_, g3, h3⟩
  unfold itB
  rw [List.append_assoc]
  rw [show ((16 : Nat) : Int) = 16 from rfl] at h2
  rw [show ((8 : Nat) : Int) = 8 from rfl] at g2
  show l = ntx (textVal 8 l) ++ (ntx (textVal 16 (textL 8 l)) ++ textL 16 (textL 8 l))
  rw [← h2]
  exact g2
theorem kidS_inv (s : List Int × List UInt8 × Int) (h : (kidS s).2.2 = 0) : s.2.2 = 0 ∧ ∃ x, (kidS s).1 = s.1 ++ [x] ∧ s.2.1 = kidB x ++ (kidS s).2.1 ∧ kidFit x := by
  unfold kidS at h ⊢
  simp only at h ⊢
  obtain ⟨h1, h2, h3, h4⟩ := num_inv 2 _ _ h
  rw [show ((2 : Nat) : Int) = 2 from rfl] at h2 h3 h4
  rw [show (256 : Nat) ^ 2 = 65536 from rfl] at h4
  refine ⟨h1, _, rfl, h2, h3, ?_⟩
  generalize numVal 2 s.2.1 = v at h3 h4 ⊢
  omega
theorem pivS_inv (s : List (List UInt8) × List UInt8 × Int) (h : (pivS s).2.2 = 0) : s.2.2 = 0 ∧ ∃ x, (pivS s).1 = s.1 ++ [x] ∧ s.2.1 = ntx x ++ (pivS s).2.1 ∧ x.length ≤ 8 := by
  unfold pivS at h ⊢
  simp only at h ⊢
  obtain ⟨h1, h2, h3⟩ := text_inv 8 _ _ h
  exact ⟨h1, _, rfl, h2, h3⟩
set_option maxHeartbeats 2000000 in
theorem mgS_inv (s : List Mg × List UInt8 × Int) (h : (mgS s).2.2 = 0) : s.2.2 = 0 ∧ ∃ x, (mgS s).1 = s.1 ++ [x] ∧ s.2.1 = mgB x ++ (mgS s).2.1 ∧ mgFit x := by
  obtain ⟨acc, l, e⟩ := s
  unfold mgS at h ⊢
  simp only at h ⊢
  obtain ⟨h1, h2, h3⟩ := text_inv 16 (textL 8 (numL 1 l)) (textE 8 (numL 1 l) (numE 1 l e)) h
  obtain ⟨g1, g2, g3⟩ := text_inv 8 (numL 1 l) (numE 1 l e) h1
  obtain ⟨k1, k2, k3, k4⟩ := num_inv 1 l e g1
  rw [show ((1 : Nat) : Int) = 1 from rfl] at k2 k3 k4
  rw [show (256 : Nat) ^ 1 = 256 from rfl] at k4
  have k5 : numVal 1 l < 256 := by
    generalize numVal 1 l = v at k3 k4 ⊢
    omega
  refine ⟨k1, _, rfl, ?_, k3, k5, g3, h3⟩
  unfold mgB
  rw [List.append_assoc, List.append_assoc]
  rw [show ((16 : Nat) : Int) = 16 from rfl] at h2
  rw [show ((8 : Nat) : Int) = 8 from rfl] at g2
  show l = be 1 (numVal 1 l).toNat ++ (ntx (textVal 8 (numL 1 l)) ++ (ntx (textVal 16 (textL 8 (numL 1 l))) ++ textL 16 (textL 8 (numL 1 l))))
  rw [← h2, ← g2]
  exact k2
end Go.Proofs.YtoobelcphcndoaaGreat
namespace Go.Proofs.YtoobelcphcndoaaGreat
open Go.RowKit Go.Sort

/-- A node's bytes. -/
def leafB (xs : List Rg) : List UInt8 := 1 :: UInt8.ofNat xs.length :: xs.flatMap itB
def innB (d : Nd) : List UInt8 := 2 :: UInt8.ofNat d.kids.length :: (d.kids.flatMap kidB ++ (d.pivs.flatMap ntx ++ (UInt8.ofNat d.ms.length :: d.ms.flatMap mgB)))
def fitsL (xs : List Rg) : Bool := decide (wtL xs ≤ 240)
def fitsN (d : Nd) : Bool := decide (d.kids.length ≤ 6) && d.kids.all (fun k => decide (k ≤ 511)) && decide (wtM d.ms ≤ 180)
theorem flatB_length {α : Type} (f : α → List UInt8) (g : α → Nat) (h : ∀ x, (f x).length = g x) (xs : List α) : (xs.flatMap f).length = (xs.map g).sum := by
  induction xs with
  | nil => rfl
  | cons x xs ih => rw [List.flatMap_cons, List.length_append, ih, h, List.map_cons, List.sum_cons]
theorem flatB_le {α : Type} (f : α → List UInt8) (n : Nat) (xs : List α) (h : ∀ x ∈ xs, (f x).length ≤ n) : (xs.flatMap f).length ≤ xs.length * n := by
  induction xs with
  | nil => simp
  | cons x xs ih =>
    rw [List.flatMap_cons, List.length_append, List.length_cons, Nat.add_mul, Nat.one_mul]
    have := ih (fun y hy => h y (List.mem_cons_of_mem _ hy))
    have := h x (List.mem_cons_self ..)
    omega
theorem itB_length (x : Rg) : (itB x).length = itW x := by simp [itB, ntx, itW]; omega
theorem mgB_length (m : Mg) : (mgB m).length = mgW m := by simp [mgB, ntx, be_length, mgW]; omega
theorem leafB_length (xs : List Rg) : (leafB xs).length = 2 + wtL xs := by
  unfold leafB wtL
  rw [List.length_cons, List.length_cons, flatB_length itB itW itB_length]
  omega
/-- A node that fits has at most 250 bytes. -/
theorem leafB_le (xs : List Rg) (h : fitsL xs = true) : (leafB xs).length ≤ 242 := by
  rw [leafB_length]
  unfold fitsL at h
  rw [decide_eq_true_eq] at h
  omega
theorem innB_le (d : Nd) (h : fitsN d = true) (hp : d.pivs.length + 1 = d.kids.length) (hk : ∀ p ∈ d.pivs, p.length ≤ 8) : (innB d).length ≤ 240 := by
  unfold fitsN at h
  simp only [Bool.and_eq_true, decide_eq_true_eq] at h
  obtain ⟨⟨h1, _⟩, h2⟩ := h
  have k1 := flatB_le kidB 2 d.kids (fun x _ => by simp [kidB, be_length])
  have k2 := flatB_le ntx 9 d.pivs (fun x hx => by have := hk x hx; simp [ntx]; omega)
  have k3 := flatB_length mgB mgW mgB_length d.ms
  unfold wtM at h2
  unfold innB
  simp only [List.length_cons, List.length_append]
  rw [k3]
  omega
end Go.Proofs.YtoobelcphcndoaaGreat
