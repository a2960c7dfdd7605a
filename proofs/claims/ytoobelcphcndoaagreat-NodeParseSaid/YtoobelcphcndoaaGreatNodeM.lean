/-
  Plain functions of a node: its bytes, and what is read off bytes: no program is named.
  What a node's bytes are read as: no program is named.
-/
import Derived.Test.YtoobelcphcndoaaGreatInnerM
import Derived.Test.YtoobelcphcndoaaGreatPenE
import Derived.Test.YtoobelcphcndoaaGreatMsgA
namespace Go.Proofs.YtoobelcphcndoaaGreat
open Go.RowKit Go.Sort
set_option linter.unusedVariables false

/-- A text, as it is written. -/
def ntx (l : List UInt8) : List UInt8 := UInt8.ofNat l.length :: l
theorem ntx_be (l : List UInt8) : ntx l = be 1 l.length ++ l := by simp [ntx, be]
theorem ntx_back (most : Nat) (hm : most ≤ 255) (l rest : List UInt8) (hl : l.length ≤ most) (e : Int) :
    textVal most (ntx l ++ rest) = l ∧ textL most (ntx l ++ rest) = rest ∧ textE most (ntx l ++ rest) e = e := by
  have ht : ntx l ++ rest = be 1 l.length ++ (l ++ rest) := by rw [ntx_be, List.append_assoc]
  obtain ⟨n1, n2, n3⟩ := num_app 1 (.inl rfl) l.length (by omega) (by omega) (l ++ rest) e
  obtain ⟨r1, r2, r3⟩ := raw_app l.length l rest rfl e
  have e1 : numVal 1 (ntx l ++ rest) = l.length := by rw [ht]; exact n1
  have e2 : numL 1 (ntx l ++ rest) = l ++ rest := by rw [ht]; exact n2
  have e3 : numE 1 (ntx l ++ rest) e = e := by rw [ht]; exact n3
  have hmm : ¬ (most : Int) < numVal 1 (ntx l ++ rest) := by rw [e1]; omega
  refine ⟨?_, ?_, ?_⟩
  · rw [textVal, if_neg hmm, e1, e2, r1]
  · rw [textL, if_neg hmm, e1, e2, r2]
  · rw [textE, if_neg hmm, e1, e2, e3, r3]
theorem be_beN : ∀ (k : Nat) (l : List UInt8), l.length = k → be k (beN l) = l := by
  intro k
  induction k with
  | zero => intro l h; rw [List.length_eq_zero_iff.1 h]; rfl
  | succ k ih =>
    intro l h
    obtain ⟨a, b, rfl⟩ : ∃ a b, l = a ++ [b] := ⟨l.dropLast, l.getLast (by intro e; subst e; simp at h), (List.dropLast_concat_getLast _).symm⟩
    have ha : a.length = k := by simpa using h
    rw [beN_snoc, be]
    have h1 : (beN a * 256 + b.toNat) / 256 = beN a := by have := b.toNat_lt; omega
    have h2 : UInt8.ofNat (beN a * 256 + b.toNat) = b := by
      apply UInt8.toNat_inj.1
      rw [UInt8.toNat_ofNat']
      have := b.toNat_lt
      omega
    rw [h1, h2, ih a ha]
theorem num_inv (k : Nat) (l : List UInt8) (e : Int) (h : numE k l e = 0) : e = 0 ∧ l = be k (numVal k l).toNat ++ numL k l ∧ 0 ≤ numVal k l ∧ (numVal k l).toNat < 256 ^ k := by
  unfold numE at h
  unfold numVal numL
  by_cases hk : numOk k l = true
  · rw [if_pos hk] at h ⊢
    rw [if_pos hk]
    unfold rawE at h
    unfold rawV rawL
    by_cases hl : (0 : Int) ≤ (k : Int) ∧ (k : Int) ≤ (l.length : Int)
    · rw [if_pos hl] at h
      rw [if_pos hl, if_pos hl]
      have hlen : (l.take k).length = k := by rw [List.length_take]; omega
      refine ⟨h, ?_, by omega, ?_⟩
      · rw [Int.toNat_natCast, Int.toNat_natCast, be_beN k _ hlen, List.take_append_drop]
      · rw [Int.toNat_natCast, Int.toNat_natCast]
        have := beN_lt (l.take k)
        rw [hlen] at this
        exact this
    · rw [if_neg hl] at h
      omega
  · rw [if_neg hk] at h
    omega
theorem text_inv (most : Nat) (l : List UInt8) (e : Int) (h : textE most l e = 0) : e = 0 ∧ l = ntx (textVal most l) ++ textL most l ∧ (textVal most l).length ≤ most := by
  unfold textE at h
  unfold textVal textL
  by_cases hm : (most : Int) < numVal 1 l
  · rw [if_pos hm] at h
    omega
  · rw [if_neg hm] at h
    rw [if_neg hm, if_neg hm]
    unfold rawE at h
    unfold rawV rawL
    by_cases hl : (0 : Int) ≤ numVal 1 l ∧ numVal 1 l ≤ ((numL 1 l).length : Int)
    · rw [if_pos hl] at h
      rw [if_pos hl, if_pos hl]
      obtain ⟨h1, h2, h3, h4⟩ := num_inv 1 l e h
      have hlen : ((numL 1 l).take (numVal 1 l).toNat).length = (numVal 1 l).toNat := by rw [List.length_take]; omega
      refine ⟨h1, ?_, by rw [hlen]; omega⟩
      rw [ntx_be, hlen, List.append_assoc, List.take_append_drop]
      exact h2
    · rw [if_neg hl] at h
      omega

/-- f, so often. -/
def itr {σ : Type} (f : σ → σ) : Nat → σ → σ
  | 0, s => s
  | n + 1, s => f (itr f n s)
/-- What rows of things that are written one behind the other are read as. -/
theorem itr_back {α : Type} (enc : α → List UInt8) (f : List α × List UInt8 × Int → List α × List UInt8 × Int) (ok : α → Prop) (hf : ∀ acc x rest, ok x → f (acc, enc x ++ rest, 0) = (acc ++ [x], rest, 0))
    (xs : List α) (hx : ∀ x ∈ xs, ok x) (rest : List UInt8) : ∀ j, j ≤ xs.length → itr f j ([], xs.flatMap enc ++ rest, 0) = (xs.take j, (xs.drop j).flatMap enc ++ rest, 0) := by
  intro j
  induction j with
  | zero => intro _; simp [itr]
  | succ j ih =>
    intro hj
    have hjl : j < xs.length := hj
    rw [itr, ih (by omega), List.drop_eq_getElem_cons hjl, List.flatMap_cons, List.append_assoc, hf _ _ _ (hx _ (List.getElem_mem hjl)), List.take_add_one, List.getElem?_eq_getElem hjl]
    rfl
theorem itr_all {α : Type} (enc : α → List UInt8) (f : List α × List UInt8 × Int → List α × List UInt8 × Int) (ok : α → Prop) (hf : ∀ acc x rest, ok x → f (acc, enc x ++ rest, 0) = (acc ++ [x], rest, 0))
    (xs : List α) (hx : ∀ x ∈ xs, ok x) (rest : List UInt8) : itr f xs.length ([], xs.flatMap enc ++ rest, 0) = (xs, rest, 0) := by
  rw [itr_back enc f ok hf xs hx rest xs.length (Nat.le_refl _)]
  simp
/-- What was read without a fault was there. -/
theorem itr_inv {α : Type} (enc : α → List UInt8) (f : List α × List UInt8 × Int → List α × List UInt8 × Int) (ok : α → Prop)
    (hf : ∀ s, (f s).2.2 = 0 → s.2.2 = 0 ∧ ∃ x, (f s).1 = s.1 ++ [x] ∧ s.2.1 = enc x ++ (f s).2.1 ∧ ok x)
    (l : List UInt8) (e : Int) : ∀ n, (itr f n ([], l, e)).2.2 = 0 → e = 0 ∧ (itr f n ([], l, e)).1.length = n ∧ l = (itr f n ([], l, e)).1.flatMap enc ++ (itr f n ([], l, e)).2.1 ∧ ∀ x ∈ (itr f n ([], l, e)).1, ok x := by
  intro n
  induction n with
  | zero => intro h; exact ⟨h, rfl, by simp [itr], fun x hx => by simp [itr] at hx⟩
  | succ n ih =>
    intro h
    rw [itr] at h ⊢
    obtain ⟨h1, x, h2, h3, h4⟩ := hf _ h
    obtain ⟨i1, i2, i3, i4⟩ := ih h1
    refine ⟨i1, by rw [h2, List.length_append, i2]; rfl, ?_, ?_⟩
    · rw [h2, List.flatMap_append, List.append_assoc]
      simp only [List.flatMap_cons, List.flatMap_nil, List.append_nil]
      rw [← h3]
      exact i3
    · intro y hy
      rw [h2, List.mem_append, List.mem_singleton] at hy
      rcases hy with hy | rfl
      · exact i4 y hy
      · exact h4

/-- Items, kids, pivots, messages: written, and read one more. -/
def itB (x : Rg) : List UInt8 := ntx x.lo ++ ntx x.hi
def mgB (m : Mg) : List UInt8 := be 1 m.kind.toNat ++ (ntx m.key ++ ntx m.val)
def kidB (k : Int) : List UInt8 := be 2 k.toNat
def itS (s : List Rg × List UInt8 × Int) : List Rg × List UInt8 × Int := (s.1 ++ [⟨textVal 8 s.2.1, textVal 16 (textL 8 s.2.1)⟩], textL 16 (textL 8 s.2.1), textE 16 (textL 8 s.2.1) (textE 8 s.2.1 s.2.2))
def kidS (s : List Int × List UInt8 × Int) : List Int × List UInt8 × Int := (s.1 ++ [numVal 2 s.2.1], numL 2 s.2.1, numE 2 s.2.1 s.2.2)
def pivS (s : List (List UInt8) × List UInt8 × Int) : List (List UInt8) × List UInt8 × Int := (s.1 ++ [textVal 8 s.2.1], textL 8 s.2.1, textE 8 s.2.1 s.2.2)
def mgS (s : List Mg × List UInt8 × Int) : List Mg × List UInt8 × Int :=
  (s.1 ++ [⟨numVal 1 s.2.1, textVal 8 (numL 1 s.2.1), textVal 16 (textL 8 (numL 1 s.2.1))⟩], textL 16 (textL 8 (numL 1 s.2.1)), textE 16 (textL 8 (numL 1 s.2.1)) (textE 8 (numL 1 s.2.1) (numE 1 s.2.1 s.2.2)))
def itFit (x : Rg) : Prop := x.lo.length ≤ 8 ∧ x.hi.length ≤ 16
def mgFit (m : Mg) : Prop := 0 ≤ m.kind ∧ m.kind < 256 ∧ m.key.length ≤ 8 ∧ m.val.length ≤ 16
def kidFit (k : Int) : Prop := 0 ≤ k ∧ k < 65536

theorem itS_app (acc : List Rg) (x : Rg) (rest : List UInt8) (h : itFit x) : itS (acc, itB x ++ rest, 0) = (acc ++ [x], rest, 0) := by
  have hb : itB x ++ rest = ntx x.lo ++ (ntx x.hi ++ rest) := by simp [itB]
  obtain ⟨x1, x2, x3⟩ := ntx_back 8 (by omega) x.lo (ntx x.hi ++ rest) h.1 0
  obtain ⟨y1, y2, y3⟩ := ntx_back 16 (by omega) x.hi rest h.2 0
  rw [show ((8 : Nat) : Int) = 8 from rfl] at x1 x2 x3
  rw [show ((16 : Nat) : Int) = 16 from rfl] at y1 y2 y3
  unfold itS
  simp only [hb, x1, x2, x3, y1, y2, y3]
theorem kidS_app (acc : List Int) (k : Int) (rest : List UInt8) (h : kidFit k) : kidS (acc, kidB k ++ rest, 0) = (acc ++ [k], rest, 0) := by
  obtain ⟨n1, n2, n3⟩ := num_app 2 (.inr (.inl rfl)) k.toNat (by have := h.1; have := h.2; omega) (by have := h.2; omega) rest 0
  rw [show ((2 : Nat) : Int) = 2 from rfl] at n1 n2 n3
  unfold kidS kidB
  simp only [n1, n2, n3]
  rw [show ((k.toNat : Nat) : Int) = k by have := h.1; omega]
theorem pivS_app (acc : List (List UInt8)) (x : List UInt8) (rest : List UInt8) (h : x.length ≤ 8) : pivS (acc, ntx x ++ rest, 0) = (acc ++ [x], rest, 0) := by
  obtain ⟨x1, x2, x3⟩ := ntx_back 8 (by omega) x rest h 0
  rw [show ((8 : Nat) : Int) = 8 from rfl] at x1 x2 x3
  unfold pivS
  simp only [x1, x2, x3]
theorem mgS_app (acc : List Mg) (m : Mg) (rest : List UInt8) (h : mgFit m) : mgS (acc, mgB m ++ rest, 0) = (acc ++ [m], rest, 0) := by
  obtain ⟨h1, h2, h3, h4⟩ := h
  have hb : mgB m ++ rest = be 1 m.kind.toNat ++ (ntx m.key ++ (ntx m.val ++ rest)) := by simp [mgB]
  obtain ⟨n1, n2, n3⟩ := num_app 1 (.inl rfl) m.kind.toNat (by omega) (by omega) (ntx m.key ++ (ntx m.val ++ rest)) 0
  obtain ⟨x1, x2, x3⟩ := ntx_back 8 (by omega) m.key (ntx m.val ++ rest) h3 0
  obtain ⟨y1, y2, y3⟩ := ntx_back 16 (by omega) m.val rest h4 0
  rw [show ((1 : Nat) : Int) = 1 from rfl] at n1 n2 n3
  rw [show ((8 : Nat) : Int) = 8 from rfl] at x1 x2 x3
  rw [show ((16 : Nat) : Int) = 16 from rfl] at y1 y2 y3
  unfold mgS
  simp only [hb, n1, n2, n3, x1, x2, x3, y1, y2, y3]
  rw [show ((m.kind.toNat : Nat) : Int) = m.kind by omega]
theorem itS_inv (s : List Rg × List UInt8 × Int) (h : (itS s).2.2 = 0) : s.2.2 = 0 ∧ ∃ x, (itS s).1 = s.1 ++ [x] ∧ s.2.1 = itB x ++ (itS s).2.1 ∧ itFit x := by
  obtain ⟨acc, l, e⟩ := s
  unfold itS at h ⊢
  simp only at h ⊢
  obtain ⟨h1, h2, h3⟩ := text_inv 16 (textL 8 l) (textE 8 l e) h
  obtain ⟨g1, g2, g3⟩ := text_inv 8 l e h1
  refine ⟨g1, _, rfl, ?_, g3, h3⟩
  unfold itB
  rw [List.append_assoc]
  rw [show ((16 : Nat) : Int) = 16 from rfl] at h2
  rw [show ((8 : Nat) : Int) = 8 from rfl] at g2
  show l = ntx (textVal 8 l) ++ (ntx (textVal 16 (textL 8 l)) ++ textL 16 (textL 8 l))
  rw [← h2]
  exact g2
theorem kidS_inv (s : List Int × List UInt8 × Int) (h : (kidS s).2.2 = 0) : s.2.2 = 0 ∧ ∃ x, (kidS s).1 = s.1 ++ [x] ∧ s.2.1 = kidB x ++ (kidS s).2.1 ∧ kidFit x := by
  unfold kidS at h ⊢
  simp only at h ⊢
  obtain ⟨h1, h2, h3, h4⟩ := num_inv 2 _ _ h
  rw [show ((2 : Nat) : Int) = 2 from rfl] at h2 h3 h4
  rw [show (256 : Nat) ^ 2 = 65536 from rfl] at h4
  refine ⟨h1, _, rfl, h2, h3, ?_⟩
  generalize numVal 2 s.2.1 = v at h3 h4 ⊢
  omega
theorem pivS_inv (s : List (List UInt8) × List UInt8 × Int) (h : (pivS s).2.2 = 0) : s.2.2 = 0 ∧ ∃ x, (pivS s).1 = s.1 ++ [x] ∧ s.2.1 = ntx x ++ (pivS s).2.1 ∧ x.length ≤ 8 := by
  unfold pivS at h ⊢
  simp only at h ⊢
  obtain ⟨h1, h2, h3⟩ := text_inv 8 _ _ h
  exact ⟨h1, _, rfl, h2, h3⟩
set_option maxHeartbeats 2000000 in
theorem mgS_inv (s : List Mg × List UInt8 × Int) (h : (mgS s).2.2 = 0) : s.2.2 = 0 ∧ ∃ x, (mgS s).1 = s.1 ++ [x] ∧ s.2.1 = mgB x ++ (mgS s).2.1 ∧ mgFit x := by
  obtain ⟨acc, l, e⟩ := s
  unfold mgS at h ⊢
  simp only at h ⊢
  obtain ⟨h1, h2, h3⟩ := text_inv 16 (textL 8 (numL 1 l)) (textE 8 (numL 1 l) (numE 1 l e)) h
  obtain ⟨g1, g2, g3⟩ := text_inv 8 (numL 1 l) (numE 1 l e) h1
  obtain ⟨k1, k2, k3, k4⟩ := num_inv 1 l e g1
  rw [show ((1 : Nat) : Int) = 1 from rfl] at k2 k3 k4
  rw [show (256 : Nat) ^ 1 = 256 from rfl] at k4
  have k5 : numVal 1 l < 256 := by
    generalize numVal 1 l = v at k3 k4 ⊢
    omega
  refine ⟨k1, _, rfl, ?_, k3, k5, g3, h3⟩
  unfold mgB
  rw [List.append_assoc, List.append_assoc]
  rw [show ((16 : Nat) : Int) = 16 from rfl] at h2
  rw [show ((8 : Nat) : Int) = 8 from rfl] at g2
  show l = be 1 (numVal 1 l).toNat ++ (ntx (textVal 8 (numL 1 l)) ++ (ntx (textVal 16 (textL 8 (numL 1 l))) ++ textL 16 (textL 8 (numL 1 l))))
  rw [← h2, ← g2]
  exact k2
end Go.Proofs.YtoobelcphcndoaaGreat
namespace Go.Proofs.YtoobelcphcndoaaGreat
open Go.RowKit Go.Sort

/-- A node's bytes. -/
def leafB (xs : List Rg) : List UInt8 := 1 :: UInt8.ofNat xs.length :: xs.flatMap itB
def innB (d : Nd) : List UInt8 := 2 :: UInt8.ofNat d.kids.length :: (d.kids.flatMap kidB ++ (d.pivs.flatMap ntx ++ (UInt8.ofNat d.ms.length :: d.ms.flatMap mgB)))
def fitsL (xs : List Rg) : Bool := decide (wtL xs ≤ 240)
def fitsN (d : Nd) : Bool := decide (d.kids.length ≤ 6) && d.kids.all (fun k => decide (k ≤ 511)) && decide (wtM d.ms ≤ 180)
theorem flatB_length {α : Type} (f : α → List UInt8) (g : α → Nat) (h : ∀ x, (f x).length = g x) (xs : List α) : (xs.flatMap f).length = (xs.map g).sum := by
  induction xs with
  | nil => rfl
  | cons x xs ih => rw [List.flatMap_cons, List.length_append, ih, h, List.map_cons, List.sum_cons]
theorem flatB_le {α : Type} (f : α → List UInt8) (n : Nat) (xs : List α) (h : ∀ x ∈ xs, (f x).length ≤ n) : (xs.flatMap f).length ≤ xs.length * n := by
  induction xs with
  | nil => simp
  | cons x xs ih =>
    rw [List.flatMap_cons, List.length_append, List.length_cons, Nat.add_mul, Nat.one_mul]
    have := ih (fun y hy => h y (List.mem_cons_of_mem _ hy))
    have := h x (List.mem_cons_self ..)
    omega
theorem itB_length (x : Rg) : (itB x).length = itW x := by simp [itB, ntx, itW]; omega
theorem mgB_length (m : Mg) : (mgB m).length = mgW m := by simp [mgB, ntx, be_length, mgW]; omega
theorem leafB_length (xs : List Rg) : (leafB xs).length = 2 + wtL xs := by
  unfold leafB wtL
  rw [List.length_cons, List.length_cons, flatB_length itB itW itB_length]
  omega
/-- A node that fits has at most 250 bytes. -/
theorem leafB_le (xs : List Rg) (h : fitsL xs = true) : (leafB xs).length ≤ 242 := by
  rw [leafB_length]
  unfold fitsL at h
  rw [decide_eq_true_eq] at h
  omega
theorem innB_le (d : Nd) (h : fitsN d = true) (hp : d.pivs.length + 1 = d.kids.length) (hk : ∀ p ∈ d.pivs, p.length ≤ 8) : (innB d).length ≤ 240 := by
  unfold fitsN at h
  simp only [Bool.and_eq_true, decide_eq_true_eq] at h
  obtain ⟨⟨h1, _⟩, h2⟩ := h
  have k1 := flatB_le kidB 2 d.kids (fun x _ => by simp [kidB, be_length])
  have k2 := flatB_le ntx 9 d.pivs (fun x hx => by have := hk x hx; simp [ntx]; omega)
  have k3 := flatB_length mgB mgW mgB_length d.ms
  unfold wtM at h2
  unfold innB
  simp only [List.length_cons, List.length_append]
  rw [k3]
  omega
end Go.Proofs.YtoobelcphcndoaaGreat
namespace Go.Proofs.YtoobelcphcndoaaGreat
open Go.RowKit Go.Sort
set_option linter.unusedVariables false

/-- A node, as a value: a leaf's items, or an inner node. -/
def Nv : Type := Sum (List Rg) Nd
def Nv.leaf (xs : List Rg) : Nv := Sum.inl xs
def Nv.inn (d : Nd) : Nv := Sum.inr d
theorem Nv.two {motive : Nv → Prop} (leaf : ∀ xs, motive (Nv.leaf xs)) (inn : ∀ d, motive (Nv.inn d)) (v : Nv) : motive v :=
  match v with
  | Sum.inl xs => leaf xs
  | Sum.inr d => inn d
theorem Nv.leaf_one {xs ys : List Rg} (h : Nv.leaf xs = Nv.leaf ys) : xs = ys := Sum.inl.inj h
theorem Nv.inn_one {d e : Nd} (h : Nv.inn d = Nv.inn e) : d = e := Sum.inr.inj h
theorem Nv.not_inn {xs : List Rg} {d : Nd} (h : Nv.leaf xs = Nv.inn d) : False := by
  have h2 : (Sum.inl xs : Sum (List Rg) Nd) = Sum.inr d := h
  cases h2
theorem Nv.not_leaf {xs : List Rg} {d : Nd} (h : Nv.inn d = Nv.leaf xs) : False := Nv.not_inn h.symm
def Nv.isLeaf (v : Nv) : Bool := Sum.elim (fun _ => true) (fun _ => false) v
def Nv.fits (v : Nv) : Bool := Sum.elim fitsL fitsN v
def Nv.bytes (v : Nv) : List UInt8 := Sum.elim leafB innB v
/-- Whether it can be. -/
def Nv.good (v : Nv) : Prop := Sum.elim (fun xs => ofE xs = 0 ∧ Rising xs) (fun d => goodN d.kids d.pivs = true ∧ GoodM d.ms ∧ RisingM d.ms) v

/-- One more message is read: what can't be is none, and the reader is done with. -/
def msS (s : List Mg × List UInt8 × Int) : List Mg × List UInt8 × Int :=
  if rdOk s.2.1 s.2.2 then (s.1 ++ [rdM s.2.1], rdL s.2.1, 0) else (s.1 ++ [Mg.zero], [], 5)
theorem mgB_bytes (m : Mg) : mgB m = m.bytes := rfl
theorem msS_app (acc : List Mg) (m : Mg) (rest : List UInt8) (h : m.is = true) : msS (acc, mgB m ++ rest, 0) = (acc ++ [m], rest, 0) := by
  obtain ⟨h1, h2, h3⟩ := read_back m h rest
  show msS (acc, m.bytes ++ rest, 0) = _
  unfold msS
  simp only [h3, h1, h2, if_true]
theorem msS_inv (s : List Mg × List UInt8 × Int) (h : (msS s).2.2 = 0) : s.2.2 = 0 ∧ ∃ x, (msS s).1 = s.1 ++ [x] ∧ s.2.1 = mgB x ++ (msS s).2.1 ∧ x.is = true := by
  unfold msS at h ⊢
  by_cases hk : rdOk s.2.1 s.2.2 = true
  · rw [if_pos hk] at h ⊢
    have h1 : rdE s.2.1 s.2.2 = 0 ∧ (rdM s.2.1).is = true := by simpa [rdOk] using hk
    have h2 : (mgS s).2.2 = 0 := by
      obtain ⟨acc, l, e⟩ := s
      unfold mgS
      simp only
      exact h1.1
    obtain ⟨i1, x, i2, i3, i4⟩ := mgS_inv s h2
    have i5 : s.1 ++ [rdM s.2.1] = s.1 ++ [x] := by
      unfold mgS at i2
      simp only at i2
      exact i2
    have i6 : s.2.1 = mgB x ++ rdL s.2.1 := by
      unfold mgS at i3
      simp only at i3
      exact i3
    have hx : rdM s.2.1 = x := by simpa using List.append_cancel_left i5
    clear h i2 i3 i4 i5 h2
    refine ⟨i1, rdM s.2.1, rfl, ?_, h1.2⟩
    dsimp only
    rw [hx]
    exact i6
  · rw [if_neg hk] at h
    dsimp only at h
    omega

theorem one_back (n : Nat) (h : n < 256) (rest : List UInt8) (e : Int) : numVal 1 (UInt8.ofNat n :: rest) = n ∧ numL 1 (UInt8.ofNat n :: rest) = rest ∧ numE 1 (UInt8.ofNat n :: rest) e = e := by
  have hb : UInt8.ofNat n :: rest = be 1 n ++ rest := by simp [be]
  rw [hb]
  exact num_app 1 (.inl rfl) n (by omega) (by omega) rest e
theorem one_inv (l : List UInt8) (e : Int) (h : numE 1 l e = 0) : e = 0 ∧ l = UInt8.ofNat (numVal 1 l).toNat :: numL 1 l ∧ (numVal 1 l).toNat < 256 := by
  obtain ⟨h1, h2, h3, h4⟩ := num_inv 1 l e h
  refine ⟨h1, ?_, h4⟩
  rw [show ((1 : Nat) : Int) = 1 from rfl] at h2
  have hb : be 1 (numVal 1 l).toNat ++ numL 1 l = UInt8.ofNat (numVal 1 l).toNat :: numL 1 l := by simp [be]
  rw [← hb]
  exact h2
theorem numVal_nonneg (l : List UInt8) : 0 ≤ numVal 1 l ∧ numVal 1 l < 256 := by
  unfold numVal
  split
  · rename_i h
    have h1 : (rawV 1 l).length ≤ 1 := by
      unfold rawV
      split
      · rw [List.length_take]; omega
      · simp
    have h2 := beN_lt (rawV 1 l)
    have h3 : 256 ^ (rawV 1 l).length ≤ 256 ^ 1 := Nat.pow_le_pow_right (by omega) h1
    rw [show (256 : Nat) ^ 1 = 256 from rfl] at h3
    omega
  · omega
theorem itr_len {α : Type} (f : List α × List UInt8 × Int → List α × List UInt8 × Int) (hf : ∀ s, ∃ x, (f s).1 = s.1 ++ [x]) (l : List UInt8) (e : Int) : ∀ n, (itr f n ([], l, e)).1.length = n := by
  intro n
  induction n with
  | zero => rfl
  | succ n ih =>
    rw [itr]
    obtain ⟨x, hx⟩ := hf (itr f n ([], l, e))
    rw [hx, List.length_append, ih]
    rfl
theorem msS_one (s : List Mg × List UInt8 × Int) : ∃ x, (msS s).1 = s.1 ++ [x] := by
  unfold msS
  split
  · exact ⟨_, rfl⟩
  · exact ⟨_, rfl⟩

/-- What is read of a count, and so many. -/
def rdIts (l : List UInt8) (e : Int) : List Rg × List UInt8 × Int := itr itS (numVal 1 l).toNat ([], numL 1 l, numE 1 l e)
def rdKids (l : List UInt8) (e : Int) : List Int × List UInt8 × Int := itr kidS (numVal 1 l).toNat ([], numL 1 l, numE 1 l e)
def rdMss (l : List UInt8) (e : Int) : List Mg × List UInt8 × Int := itr msS (numVal 1 l).toNat ([], numL 1 l, numE 1 l e)
def rdPivs (n : Nat) (l : List UInt8) (e : Int) : List (List UInt8) × List UInt8 × Int := itr pivS (n - 1) ([], l, e)
def rdInn (l : List UInt8) (e : Int) : Nd × List UInt8 × Int :=
  (⟨(rdKids l e).1, (rdPivs (rdKids l e).1.length (rdKids l e).2.1 (rdKids l e).2.2).1, (rdMss (rdPivs (rdKids l e).1.length (rdKids l e).2.1 (rdKids l e).2.2).2.1 (rdPivs (rdKids l e).1.length (rdKids l e).2.1 (rdKids l e).2.2).2.2).1⟩,
   (rdMss (rdPivs (rdKids l e).1.length (rdKids l e).2.1 (rdKids l e).2.2).2.1 (rdPivs (rdKids l e).1.length (rdKids l e).2.1 (rdKids l e).2.2).2.2).2)

theorem rdIts_back (xs : List Rg) (hx : ∀ x ∈ xs, itFit x) (hl : xs.length < 256) (rest : List UInt8) : rdIts (UInt8.ofNat xs.length :: (xs.flatMap itB ++ rest)) 0 = (xs, rest, 0) := by
  obtain ⟨a, b, c⟩ := one_back xs.length hl (xs.flatMap itB ++ rest) 0
  unfold rdIts
  rw [a, b, c, Int.toNat_natCast]
  exact itr_all itB itS itFit itS_app xs hx rest
theorem rdKids_back (xs : List Int) (hx : ∀ x ∈ xs, kidFit x) (hl : xs.length < 256) (rest : List UInt8) : rdKids (UInt8.ofNat xs.length :: (xs.flatMap kidB ++ rest)) 0 = (xs, rest, 0) := by
  obtain ⟨a, b, c⟩ := one_back xs.length hl (xs.flatMap kidB ++ rest) 0
  unfold rdKids
  rw [a, b, c, Int.toNat_natCast]
  exact itr_all kidB kidS kidFit kidS_app xs hx rest
theorem rdMss_back (xs : List Mg) (hx : ∀ x ∈ xs, x.is = true) (hl : xs.length < 256) (rest : List UInt8) : rdMss (UInt8.ofNat xs.length :: (xs.flatMap mgB ++ rest)) 0 = (xs, rest, 0) := by
  obtain ⟨a, b, c⟩ := one_back xs.length hl (xs.flatMap mgB ++ rest) 0
  unfold rdMss
  rw [a, b, c, Int.toNat_natCast]
  exact itr_all mgB msS (fun m => m.is = true) msS_app xs hx rest
theorem rdPivs_back (xs : List (List UInt8)) (hx : ∀ x ∈ xs, x.length ≤ 8) (n : Nat) (hn : xs.length = n - 1) (rest : List UInt8) : rdPivs n (xs.flatMap ntx ++ rest) 0 = (xs, rest, 0) := by
  unfold rdPivs
  rw [← hn]
  exact itr_all ntx pivS (fun x => x.length ≤ 8) pivS_app xs hx rest
theorem rdIts_inv (l : List UInt8) (e : Int) (h : (rdIts l e).2.2 = 0) : e = 0 ∧ l = UInt8.ofNat (rdIts l e).1.length :: ((rdIts l e).1.flatMap itB ++ (rdIts l e).2.1) ∧ (∀ x ∈ (rdIts l e).1, itFit x) ∧ (rdIts l e).1.length < 256 := by
  unfold rdIts at h ⊢
  obtain ⟨h1, h2, h3, h4⟩ := itr_inv itB itS itFit itS_inv (numL 1 l) (numE 1 l e) (numVal 1 l).toNat h
  obtain ⟨g1, g2, g3⟩ := one_inv l e h1
  refine ⟨g1, ?_, h4, by rw [h2]; exact g3⟩
  rw [h2, ← h3]
  exact g2
theorem rdKids_inv (l : List UInt8) (e : Int) (h : (rdKids l e).2.2 = 0) : e = 0 ∧ l = UInt8.ofNat (rdKids l e).1.length :: ((rdKids l e).1.flatMap kidB ++ (rdKids l e).2.1) ∧ (∀ x ∈ (rdKids l e).1, kidFit x) ∧ (rdKids l e).1.length < 256 := by
  unfold rdKids at h ⊢
  obtain ⟨h1, h2, h3, h4⟩ := itr_inv kidB kidS kidFit kidS_inv (numL 1 l) (numE 1 l e) (numVal 1 l).toNat h
  obtain ⟨g1, g2, g3⟩ := one_inv l e h1
  refine ⟨g1, ?_, h4, by rw [h2]; exact g3⟩
  rw [h2, ← h3]
  exact g2
theorem rdMss_inv (l : List UInt8) (e : Int) (h : (rdMss l e).2.2 = 0) : e = 0 ∧ l = UInt8.ofNat (rdMss l e).1.length :: ((rdMss l e).1.flatMap mgB ++ (rdMss l e).2.1) ∧ (∀ x ∈ (rdMss l e).1, x.is = true) ∧ (rdMss l e).1.length < 256 := by
  unfold rdMss at h ⊢
  obtain ⟨h1, h2, h3, h4⟩ := itr_inv mgB msS (fun m => m.is = true) msS_inv (numL 1 l) (numE 1 l e) (numVal 1 l).toNat h
  obtain ⟨g1, g2, g3⟩ := one_inv l e h1
  refine ⟨g1, ?_, h4, by rw [h2]; exact g3⟩
  rw [h2, ← h3]
  exact g2
theorem rdPivs_inv (n : Nat) (l : List UInt8) (e : Int) (h : (rdPivs n l e).2.2 = 0) : e = 0 ∧ l = (rdPivs n l e).1.flatMap ntx ++ (rdPivs n l e).2.1 ∧ (∀ x ∈ (rdPivs n l e).1, x.length ≤ 8) ∧ (rdPivs n l e).1.length = n - 1 := by
  unfold rdPivs at h ⊢
  obtain ⟨h1, h2, h3, h4⟩ := itr_inv ntx pivS (fun x => x.length ≤ 8) pivS_inv l e (n - 1) h
  exact ⟨h1, h3, h4, h2⟩

/-- What a node that can be, and fits, has. -/
structure NdSmall (d : Nd) : Prop where
  kids : ∀ k ∈ d.kids, kidFit k
  kl : d.kids.length < 256
  pl : d.pivs.length = d.kids.length - 1
  ps : ∀ p ∈ d.pivs, p.length ≤ 8
  ms : ∀ m ∈ d.ms, m.is = true
  ml : d.ms.length < 256
theorem wt_len (xs : List Rg) : xs.length * 2 ≤ wtL xs := by
  unfold wtL
  induction xs with
  | nil => simp
  | cons x xs ih => rw [List.map_cons, List.sum_cons, List.length_cons]; unfold itW at ih ⊢; omega
theorem wtm_len (xs : List Mg) : xs.length * 3 ≤ wtM xs := by
  unfold wtM
  induction xs with
  | nil => simp
  | cons x xs ih => rw [List.map_cons, List.sum_cons, List.length_cons]; unfold mgW at ih ⊢; omega
theorem fits_small (d : Nd) (h : (Nv.inn d).good) (hf : fitsN d = true) : NdSmall d := by
  obtain ⟨h1, h2, h3⟩ := h
  obtain ⟨g1, g2, g3, g4, g5⟩ := (goodN_iff _ _).1 h1
  unfold fitsN at hf
  simp only [Bool.and_eq_true, decide_eq_true_eq, List.all_eq_true] at hf
  have hm := wtm_len d.ms
  exact ⟨fun k hk => ⟨g3 k hk, by have := hf.1.2 k hk; omega⟩, by omega, by omega, fun p hp => isK_len (g4 p hp), h2, by omega⟩
theorem fits_its (xs : List Rg) (h : (Nv.leaf xs).good) (hf : fitsL xs = true) : (∀ x ∈ xs, itFit x) ∧ xs.length < 256 := by
  have h1 := h.1
  unfold ofE at h1
  have h2 : xs.all itOk = true := by
    by_cases hk : xs.all itOk = true
    · exact hk
    · rw [if_neg hk] at h1; omega
  rw [List.all_eq_true] at h2
  refine ⟨fun x hx => ?_, ?_⟩
  · have := h2 x hx
    unfold itOk at this
    simp only [Bool.and_eq_true, decide_eq_true_eq] at this
    exact ⟨isK_len this.1, this.2⟩
  · unfold fitsL at hf
    rw [decide_eq_true_eq] at hf
    have := wt_len xs
    omega
theorem rdInn_back (d : Nd) (h : NdSmall d) (rest : List UInt8) : rdInn (UInt8.ofNat d.kids.length :: (d.kids.flatMap kidB ++ (d.pivs.flatMap ntx ++ (UInt8.ofNat d.ms.length :: (d.ms.flatMap mgB ++ rest))))) 0 = (d, rest, 0) := by
  unfold rdInn
  rw [rdKids_back d.kids h.kids h.kl]
  simp only []
  rw [rdPivs_back d.pivs h.ps d.kids.length h.pl]
  simp only []
  rw [rdMss_back d.ms h.ms h.ml]
theorem rdInn_inv (l : List UInt8) (e : Int) (h : (rdInn l e).2.2 = 0) : e = 0 ∧ NdSmall (rdInn l e).1 ∧
    l = UInt8.ofNat (rdInn l e).1.kids.length :: ((rdInn l e).1.kids.flatMap kidB ++ ((rdInn l e).1.pivs.flatMap ntx ++ (UInt8.ofNat (rdInn l e).1.ms.length :: ((rdInn l e).1.ms.flatMap mgB ++ (rdInn l e).2.1)))) := by
  unfold rdInn at h ⊢
  simp only [] at h ⊢
  obtain ⟨m1, m2, m3, m4⟩ := rdMss_inv _ _ h
  obtain ⟨p1, p2, p3, p4⟩ := rdPivs_inv _ _ _ m1
  obtain ⟨k1, k2, k3, k4⟩ := rdKids_inv _ _ p1
  refine ⟨k1, ⟨k3, k4, p4, p3, m3, m4⟩, ?_⟩
  rw [← m2, ← p2]
  exact k2

/-- A node is read off its bytes, whatever lies behind. -/
def rdNode (l : List UInt8) (e : Int) : Nv × List UInt8 × Int :=
  if numVal 1 l = 1 then (.leaf (rdIts (numL 1 l) (numE 1 l e)).1, (rdIts (numL 1 l) (numE 1 l e)).2) else (.inn (rdInn (numL 1 l) (numE 1 l e)).1, (rdInn (numL 1 l) (numE 1 l e)).2)
def Nv.kind (v : Nv) : Int := Sum.elim (fun _ => 1) (fun _ => 2) v
theorem rd_back (v : Nv) (h : v.good) (hf : v.fits = true) (rest : List UInt8) : numVal 1 (v.bytes ++ rest) = v.kind ∧ rdNode (v.bytes ++ rest) 0 = (v, rest, 0) := by
  cases v using Nv.two with
  | leaf xs =>
    obtain ⟨f1, f2⟩ := fits_its xs h hf
    have hb : (Nv.leaf xs).bytes ++ rest = UInt8.ofNat 1 :: (UInt8.ofNat xs.length :: (xs.flatMap itB ++ rest)) := by
      show leafB xs ++ rest = _
      simp [leafB]
    obtain ⟨a, b, c⟩ := one_back 1 (by omega) (UInt8.ofNat xs.length :: (xs.flatMap itB ++ rest)) 0
    rw [hb]
    refine ⟨a, ?_⟩
    unfold rdNode
    rw [a, if_pos (show ((1 : Nat) : Int) = 1 from rfl), b, c, rdIts_back xs f1 f2 rest]
  | inn d =>
    have hs := fits_small d h hf
    have hb : (Nv.inn d).bytes ++ rest = UInt8.ofNat 2 :: (UInt8.ofNat d.kids.length :: (d.kids.flatMap kidB ++ (d.pivs.flatMap ntx ++ (UInt8.ofNat d.ms.length :: (d.ms.flatMap mgB ++ rest))))) := by
      show innB d ++ rest = _
      simp [innB]
    obtain ⟨a, b, c⟩ := one_back 2 (by omega) (UInt8.ofNat d.kids.length :: (d.kids.flatMap kidB ++ (d.pivs.flatMap ntx ++ (UInt8.ofNat d.ms.length :: (d.ms.flatMap mgB ++ rest))))) 0
    rw [hb]
    refine ⟨a, ?_⟩
    unfold rdNode
    rw [a, if_neg (show ¬ ((2 : Nat) : Int) = 1 from by decide), b, c, rdInn_back d hs rest]
/-- What was read without a fault was there. -/
theorem rd_inv (l : List UInt8) (e : Int) (hk : numVal 1 l = 1 ∨ numVal 1 l = 2) (h : (rdNode l e).2.2 = 0) : e = 0 ∧ l = (rdNode l e).1.bytes ++ (rdNode l e).2.1 := by
  unfold rdNode at h ⊢
  rcases hk with hk | hk
  · rw [if_pos hk] at h ⊢
    obtain ⟨h1, h2, h3, h4⟩ := rdIts_inv _ _ h
    obtain ⟨g1, g2, g3⟩ := one_inv l e h1
    refine ⟨g1, ?_⟩
    rw [hk] at g2
    generalize rdIts (numL 1 l) (numE 1 l e) = s at h1 h2 h3 h4 ⊢
    dsimp only
    show l = leafB s.1 ++ s.2.1
    unfold leafB
    rw [List.cons_append, List.cons_append, ← h2]
    exact g2
  · have hne : ¬ numVal 1 l = 1 := by omega
    rw [if_neg hne] at h ⊢
    dsimp only at h
    obtain ⟨h1, h2, h3⟩ := rdInn_inv _ _ h
    obtain ⟨g1, g2, g3⟩ := one_inv l e h1
    refine ⟨g1, ?_⟩
    rw [hk] at g2
    generalize rdInn (numL 1 l) (numE 1 l e) = s at h1 h2 h3 ⊢
    dsimp only
    show l = innB s.1 ++ s.2.1
    unfold innB
    rw [List.cons_append, List.cons_append, List.append_assoc, List.append_assoc, List.cons_append, ← h3]
    exact g2
/-- No node's bytes open another's. -/
theorem bytes_one (v u : Nv) (hv : v.good) (fv : v.fits = true) (hu : u.good) (fu : u.fits = true) (r s : List UInt8) (h : v.bytes ++ r = u.bytes ++ s) : v = u ∧ r = s := by
  have h1 := (rd_back v hv fv r).2
  have h2 := (rd_back u hu fu s).2
  rw [h] at h1
  rw [h1] at h2
  simp only [Prod.mk.injEq] at h2
  exact ⟨h2.1, h2.2.1⟩
theorem bytes_same (v u : Nv) (hv : v.good) (fv : v.fits = true) (hu : u.good) (fu : u.fits = true) (h : v.bytes = u.bytes) : v = u :=
  (bytes_one v u hv fv hu fu [] [] (by simpa using h)).1
theorem bytes_le (v : Nv) (hv : v.good) (fv : v.fits = true) : v.bytes.length ≤ 242 ∧ 1 ≤ v.bytes.length := by
  cases v using Nv.two with
  | leaf xs => exact ⟨leafB_le xs fv, by show 1 ≤ (leafB xs).length; simp [leafB]⟩
  | inn d =>
    have hs := fits_small d hv fv
    obtain ⟨g1, g2, g3, g4, g5⟩ := (goodN_iff _ _).1 hv.1
    have := innB_le d fv (by omega) hs.ps
    exact ⟨by show (innB d).length ≤ 242; omega, by show 1 ≤ (innB d).length; simp [innB]⟩
/-- What these bytes are: the node, if there is one. -/
def IsOf (l : List UInt8) (v : Nv) : Prop := v.good ∧ v.fits = true ∧ v.bytes = l
theorem isOf_one {l : List UInt8} {v u : Nv} (h : IsOf l v) (k : IsOf l u) : v = u := bytes_same v u h.1 h.2.1 k.1 k.2.1 (h.2.2.trans k.2.2.symm)
theorem isOf_rd {l : List UInt8} {v : Nv} (h : IsOf l v) : numVal 1 l = v.kind ∧ rdNode l 0 = (v, [], 0) := by
  obtain ⟨h1, h2, h3⟩ := h
  have := rd_back v h1 h2 []
  rw [List.append_nil, h3] at this
  exact this
/-- A byte more, or less: none's. -/
theorem more_none (v : Nv) (hv : v.good) (fv : v.fits = true) (b : UInt8) (u : Nv) : ¬ IsOf (v.bytes ++ [b]) u := by
  rintro ⟨h1, h2, h3⟩
  have := (bytes_one u v h1 h2 hv fv [] [b] (by simpa using h3)).2
  exact absurd this (by simp)
theorem less_none (v : Nv) (hv : v.good) (fv : v.fits = true) (u : Nv) : ¬ IsOf (v.bytes.take (v.bytes.length - 1)) u := by
  rintro ⟨h1, h2, h3⟩
  have hl := (bytes_le v hv fv).2
  have h4 : u.bytes ++ v.bytes.drop (v.bytes.length - 1) = v.bytes ++ [] := by rw [h3, List.take_append_drop, List.append_nil]
  have := (bytes_one u v h1 h2 hv fv _ _ h4).2
  have hd : (v.bytes.drop (v.bytes.length - 1)).length = 1 := by rw [List.length_drop]; omega
  rw [this] at hd
  exact absurd hd (by simp)
end Go.Proofs.YtoobelcphcndoaaGreat
