/-
  What a node's bytes are read as: no program is named.
-/
import Derived.Test.YtoobelcphcndoaaGreatNodeM
import Derived.Test.YtoobelcphcndoaaGreatMsgF
namespace Go.Proofs.YtoobelcphcndoaaGreat
open Go.RowKit Go.Sort
set_option linter.unusedVariables false

/-- A node, as a value. -/
inductive Nv where
  | leaf (xs : List Rg)
  | inn (d : Nd)
def Nv.isLeaf : Nv → Bool
  | .leaf _ => true
  | .inn _ => false
def Nv.fits : Nv → Bool
  | .leaf xs => fitsL xs
  | .inn d => fitsN d
def Nv.bytes : Nv → List UInt8
  | .leaf xs => leafB xs
  | .inn d => innB d
/-- Whether it can be. -/
def Nv.good : Nv → Prop
  | .leaf xs => ofE xs = 0 ∧ Rising xs
  | .inn d => goodN d.kids d.pivs = true ∧ GoodM d.ms ∧ RisingM d.ms

/-- One more message is read: what can't be is none, and the reader is done with. -/
def msS (s : List Mg × List UInt8 × Int) : List Mg × List UInt8 × Int :=
  if rdOk s.2.1 s.2.2 then (s.1 ++ [rdM s.2.1], rdL s.2.1, 0) else (s.1 ++ [Mg.zero], [], 5)
theorem mgB_bytes (m : Mg) : mgB m = m.bytes := rfl
theorem msS_app (acc : List Mg) (m : Mg) (rest : List UInt8) (h : m.is = true) : msS (acc, mgB m ++ rest, 0) = (acc ++ [m], rest, 0) := by
  obtain ⟨h1, h2, h3⟩ := read_back m h rest
  show msS (acc, m.bytes ++ rest, 0) = _
  unfold msS
  simp only [h3, h1, h2, if_true]
theorem msS_inv (s : List Mg × List UInt8 × Int) (h : (msS s).2.2 = 0) : s.2.2 = 0 ∧ ∃ x, (msS s).1 = s.1 ++ [x] ∧ s.2.1 = mgB x ++ (msS s).2.1 ∧ x.is = true := by
  unfold msS at h ⊢
  by_cases hk : rdOk s.2.1 s.2.2 = true
  · rw [if_pos hk] at h ⊢
    have h1 : rdE s.2.1 s.2.2 = 0 ∧ (rdM s.2.1).is = true := by simpa [rdOk] using hk
    have h2 : (mgS s).2.2 = 0 := by
      obtain ⟨acc, l, e⟩ := s
      unfold mgS
      simp only
      exact h1.1
    obtain ⟨i1, x, i2, i3, i4⟩ := mgS_inv s h2
    have i5 : s.1 ++ [rdM s.2.1] = s.1 ++ [x] := by
      unfold mgS at i2
      simp only at i2
      exact i2
    have i6 : s.2.1 = mgB x ++ rdL s.2.1 := by
      unfold mgS at i3
      simp only at i3
      exact i3
    have hx : rdM s.2.1 = x := by simpa using List.append_cancel_left i5
    clear h i2 i3 i4 i5 h2
    refine ⟨i1, rdM s.2.1, rfl, ?_, h1.2⟩
    dsimp only
    rw [hx]
    exact i6
  · rw [if_neg hk] at h
    dsimp only at h
    omega

theorem one_back (n : Nat) (h : n < 256) (rest : List UInt8) (e : Int) : numVal 1 (UInt8.ofNat n :: rest) = n ∧ numL 1 (UInt8.ofNat n :: rest) = rest ∧ numE 1 (UInt8.ofNat n :: rest) e = e := by
  have hb : UInt8.ofNat n :: rest = be 1 n ++ rest := by simp [be]
  rw [hb]
  exact num_app 1 (.inl rfl) n (by omega) (by omega) rest e
theorem one_inv (l : List UInt8) (e : Int) (h : numE 1 l e = 0) : e = 0 ∧ l = UInt8.ofNat (numVal 1 l).toNat :: numL 1 l ∧ (numVal 1 l).toNat < 256 := by
  obtain ⟨h1, h2, h3, h4⟩ := num_inv 1 l e h
  refine ⟨h1, ?_, h4⟩
  rw [show ((1 : Nat) : Int) = 1 from rfl] at h2
  have hb : be 1 (numVal 1 l).toNat ++ numL 1 l = UInt8.ofNat (numVal 1 l).toNat :: numL 1 l := by simp [be]
  rw [← hb]
  exact h2
theorem numVal_nonneg (l : List UInt8) : 0 ≤ numVal 1 l ∧ numVal 1 l < 256 := by
  unfold numVal
  split
  · rename_i h
    have h1 : (rawV 1 l).length ≤ 1 := by
      unfold rawV
      split
      · rw [List.length_take]; omega
      · simp
    have h2 := beN_lt (rawV 1 l)
    have h3 : 256 ^ (rawV 1 l).length ≤ 256 ^ 1 := Nat.pow_le_pow_right (by omega) h1
    rw [show (256 : Nat) ^ 1 = 256 from rfl] at h3
    omega
  · omega
theorem itr_len {α : Type} (f : List α × List UInt8 × Int → List α × List UInt8 × Int) (hf : ∀ s, ∃ x, (f s).1 = s.1 ++ [x]) (l : List UInt8) (e : Int) : ∀ n, (itr f n ([], l, e)).1.length = n := by
  intro n
  induction n with
  | zero => rfl
  | succ n ih =>
    rw [itr]
    obtain ⟨x, hx⟩ := hf (itr f n ([], l, e))
    rw [hx, List.length_append, ih]
    rfl
theorem msS_one (s : List Mg × List UInt8 × Int) : ∃ x, (msS s).1 = s.1 ++ [x] := by
  unfold msS
  split
  · exact ⟨_, rfl⟩
  · exact ⟨_, rfl⟩

/-- What is read of a count, and so many. -/
def rdIts (l : List UInt8) (e : Int) : List Rg × List UInt8 × Int := itr itS (numVal 1 l).toNat ([], numL 1 l, numE 1 l e)
def rdKids (l : List UInt8) (e : Int) : List Int × List UInt8 × Int := itr kidS (numVal 1 l).toNat ([], numL 1 l, numE 1 l e)
def rdMss (l : List UInt8) (e : Int) : List Mg × List UInt8 × Int := itr msS (numVal 1 l).toNat ([], numL 1 l, numE 1 l e)
def rdPivs (n : Nat) (l : List UInt8) (e : Int) : List (List UInt8) × List UInt8 × Int := itr pivS (n - 1) ([], l, e)
def rdInn (l : List UInt8) (e : Int) : Nd × List UInt8 × Int :=
  (⟨(rdKids l e).1, (rdPivs (rdKids l e).1.length (rdKids l e).2.1 (rdKids l e).2.2).1, (rdMss (rdPivs (rdKids l e).1.length (rdKids l e).2.1 (rdKids l e).2.2).2.1 (rdPivs (rdKids l e).1.length (rdKids l e).2.1 (rdKids l e).2.2).2.2).1⟩,
   (rdMss (rdPivs (rdKids l e).1.length (rdKids l e).2.1 (rdKids l e).2.2).2.1 (rdPivs (rdKids l e).1.length (rdKids l e).2.1 (rdKids l e).2.2).2.2).2)

theorem rdIts_back (xs : List Rg) (hx : ∀ x ∈ xs, itFit x) (hl : xs.length < 256) (rest : List UInt8) : rdIts (UInt8.ofNat xs.length :: (xs.flatMap itB ++ rest)) 0 = (xs, rest, 0) := by
  obtain ⟨a, b, c⟩ := one_back xs.length hl (xs.flatMap itB ++ rest) 0
  unfold rdIts
  rw [a, b, c, Int.toNat_natCast]
  exact itr_all itB itS itFit itS_app xs hx rest
theorem rdKids_back (xs : List Int) (hx : ∀ x ∈ xs, kidFit x) (hl : xs.length < 256) (rest : List UInt8) : rdKids (UInt8.ofNat xs.length :: (xs.flatMap kidB ++ rest)) 0 = (xs, rest, 0) := by
  obtain ⟨a, b, c⟩ := one_back xs.length hl (xs.flatMap kidB ++ rest) 0
  unfold rdKids
  rw [a, b, c, Int.toNat_natCast]
  exact itr_all kidB kidS kidFit kidS_app xs hx rest
theorem rdMss_back (xs : List Mg) (hx : ∀ x ∈ xs, x.is = true) (hl : xs.length < 256) (rest : List UInt8) : rdMss (UInt8.ofNat xs.length :: (xs.flatMap mgB ++ rest)) 0 = (xs, rest, 0) := by
  obtain ⟨a, b, c⟩ := one_back xs.length hl (xs.flatMap mgB ++ rest) 0
  unfold rdMss
  rw [a, b, c, Int.toNat_natCast]
  exact itr_all mgB msS (fun m => m.is = true) msS_app xs hx rest
theorem rdPivs_back (xs : List (List UInt8)) (hx : ∀ x ∈ xs, x.length ≤ 8) (n : Nat) (hn : xs.length = n - 1) (rest : List UInt8) : rdPivs n (xs.flatMap ntx ++ rest) 0 = (xs, rest, 0) := by
  unfold rdPivs
  rw [← hn]
  exact itr_all ntx pivS (fun x => x.length ≤ 8) pivS_app xs hx rest
theorem rdIts_inv (l : List UInt8) (e : Int) (h : (rdIts l e).2.2 = 0) : e = 0 ∧ l = UInt8.ofNat (rdIts l e).1.length :: ((rdIts l e).1.flatMap itB ++ (rdIts l e).2.1) ∧ (∀ x ∈ (rdIts l e).1, itFit x) ∧ (rdIts l e).1.length < 256 := by
  unfold rdIts at h ⊢
  obtain ⟨h1, h2, h3, h4⟩ := itr_inv itB itS itFit itS_inv (numL 1 l) (numE 1 l e) (numVal 1 l).toNat h
  obtain ⟨g1, g2, g3⟩ := one_inv l e h1
  refine ⟨g1, ?_, h4, by rw [h2]; exact g3⟩
  rw [h2, ← h3]
  exact g2
theorem rdKids_inv (l : List UInt8) (e : Int) (h : (rdKids l e).2.2 = 0) : e = 0 ∧ l = UInt8.ofNat (rdKids l e).1.length :: ((rdKids l e).1.flatMap kidB ++ (rdKids l e).2.1) ∧ (∀ x ∈ (rdKids l e).1, kidFit x) ∧ (rdKids l e).1.length < 256 := by
  unfold rdKids at h ⊢
  obtain ⟨h1, h2, h3, h4⟩ := itr_inv kidB kidS kidFit kidS_inv (numL 1 l) (numE 1 l e) (numVal 1 l).toNat h
  obtain ⟨g1, g2, g3⟩ := one_inv l e h1
  refine ⟨g1, ?_, h4, by rw [h2]; exact g3⟩
  rw [h2, ← h3]
  exact g2
theorem rdMss_inv (l : List UInt8) (e : Int) (h : (rdMss l e).2.2 = 0) : e = 0 ∧ l = UInt8.ofNat (rdMss l e).1.length :: ((rdMss l e).1.flatMap mgB ++ (rdMss l e).2.1) ∧ (∀ x ∈ (rdMss l e).1, x.is = true) ∧ (rdMss l e).1.length < 256 := by
  unfold rdMss at h ⊢
  obtain ⟨h1, h2, h3, h4⟩ := itr_inv mgB msS (fun m => m.is = true) msS_inv (numL 1 l) (numE 1 l e) (numVal 1 l).toNat h
  obtain ⟨g1, g2, g3⟩ := one_inv l e h1
  refine ⟨g1, ?_, h4, by rw [h2]; exact g3⟩
  rw [h2, ← h3]
  exact g2
theorem rdPivs_inv (n : Nat) (l : List UInt8) (e : Int) (h : (rdPivs n l e).2.2 = 0) : e = 0 ∧ l = (rdPivs n l e).1.flatMap ntx ++ (rdPivs n l e).2.1 ∧ (∀ x ∈ (rdPivs n l e).1, x.length ≤ 8) ∧ (rdPivs n l e).1.length = n - 1 := by
  unfold rdPivs at h ⊢
  obtain ⟨h1, h2, h3, h4⟩ := itr_inv ntx pivS (fun x => x.length ≤ 8) pivS_inv l e (n - 1) h
  exact ⟨h1, h3, h4, h2⟩

/-- What a node that can be, and fits, has. -/
structure NdSmall (d : Nd) : Prop where
  kids : ∀ k ∈ d.kids, kidFit k
  kl : d.kids.length < 256
  pl : d.pivs.length = d.kids.length - 1
  ps : ∀ p ∈ d.pivs, p.length ≤ 8
  ms : ∀ m ∈ d.ms, m.is = true
  ml : d.ms.length < 256
theorem wt_len (xs : List Rg) : xs.length * 2 ≤ wtL xs := by
  unfold wtL
  induction xs with
  | nil => simp
  | cons x xs ih => rw [List.map_cons, List.sum_cons, List.length_cons]; unfold itW at ih ⊢; omega
theorem wtm_len (xs : List Mg) : xs.length * 3 ≤ wtM xs := by
  unfold wtM
  induction xs with
  | nil => simp
  | cons x xs ih => rw [List.map_cons, List.sum_cons, List.length_cons]; unfold mgW at ih ⊢; omega
theorem fits_small (d : Nd) (h : (Nv.inn d).good) (hf : fitsN d = true) : NdSmall d := by
  obtain ⟨h1, h2, h3⟩ := h
  obtain ⟨g1, g2, g3, g4, g5⟩ := (goodN_iff _ _).1 h1
  unfold fitsN at hf
  simp only [Bool.and_eq_true, decide_eq_true_eq, List.all_eq_true] at hf
  have hm := wtm_len d.ms
  exact ⟨fun k hk => ⟨g3 k hk, by have := hf.1.2 k hk; omega⟩, by omega, by omega, fun p hp => isK_len (g4 p hp), h2, by omega⟩
theorem fits_its (xs : List Rg) (h : (Nv.leaf xs).good) (hf : fitsL xs = true) : (∀ x ∈ xs, itFit x) ∧ xs.length < 256 := by
  have h1 := h.1
  unfold ofE at h1
  have h2 : xs.all itOk = true := by
    by_cases hk : xs.all itOk = true
    · exact hk
    · rw [if_neg hk] at h1; omega
  rw [List.all_eq_true] at h2
  refine ⟨fun x hx => ?_, ?_⟩
  · have := h2 x hx
    unfold itOk at this
    simp only [Bool.and_eq_true, decide_eq_true_eq] at this
    exact ⟨isK_len this.1, this.2⟩
  · unfold fitsL at hf
    rw [decide_eq_true_eq] at hf
    have := wt_len xs
    omega
theorem rdInn_back (d : Nd) (h : NdSmall d) (rest : List UInt8) : rdInn (UInt8.ofNat d.kids.length :: (d.kids.flatMap kidB ++ (d.pivs.flatMap ntx ++ (UInt8.ofNat d.ms.length :: (d.ms.flatMap mgB ++ rest))))) 0 = (d, rest, 0) := by
  unfold rdInn
  rw [rdKids_back d.kids h.kids h.kl]
  simp only []
  rw [rdPivs_back d.pivs h.ps d.kids.length h.pl]
  simp only []
  rw [rdMss_back d.ms h.ms h.ml]
theorem rdInn_inv (l : List UInt8) (e : Int) (h : (rdInn l e).2.2 = 0) : e = 0 ∧ NdSmall (rdInn l e).1 ∧
    l = UInt8.ofNat (rdInn l e).1.kids.length :: ((rdInn l e).1.kids.flatMap kidB ++ ((rdInn l e).1.pivs.flatMap ntx ++ (UInt8.ofNat (rdInn l e).1.ms.length :: ((rdInn l e).1.ms.flatMap mgB ++ (rdInn l e).2.1)))) := by
  unfold rdInn at h ⊢
  simp only [] at h ⊢
  obtain ⟨m1, m2, m3, m4⟩ := rdMss_inv _ _ h
  obtain ⟨p1, p2, p3, p4⟩ := rdPivs_inv _ _ _ m1
  obtain ⟨k1, k2, k3, k4⟩ := rdKids_inv _ _ p1
  refine ⟨k1, ⟨k3, k4, p4, p3, m3, m4⟩, ?_⟩
  rw [← m2, ← p2]
  exact k2

/-- A node is read off its bytes, whatever lies behind. -/
def rdNode (l : List UInt8) (e : Int) : Nv × List UInt8 × Int :=
  if numVal 1 l = 1 then (.leaf (rdIts (numL 1 l) (numE 1 l e)).1, (rdIts (numL 1 l) (numE 1 l e)).2) else (.inn (rdInn (numL 1 l) (numE 1 l e)).1, (rdInn (numL 1 l) (numE 1 l e)).2)
def Nv.kind : Nv → Int
  | .leaf _ => 1
  | .inn _ => 2
theorem rd_back (v : Nv) (h : v.good) (hf : v.fits = true) (rest : List UInt8) : numVal 1 (v.bytes ++ rest) = v.kind ∧ rdNode (v.bytes ++ rest) 0 = (v, rest, 0) := by
  cases v with
  | leaf xs =>
    obtain ⟨f1, f2⟩ := fits_its xs h hf
    have hb : (Nv.leaf xs).bytes ++ rest = UInt8.ofNat 1 :: (UInt8.ofNat xs.length :: (xs.flatMap itB ++ rest)) := by simp [Nv.bytes, leafB]
    obtain ⟨a, b, c⟩ := one_back 1 (by omega) (UInt8.ofNat xs.length :: (xs.flatMap itB ++ rest)) 0
    rw [hb]
    refine ⟨a, ?_⟩
    unfold rdNode
    rw [a, if_pos (show ((1 : Nat) : Int) = 1 from rfl), b, c, rdIts_back xs f1 f2 rest]
  | inn d =>
    have hs := fits_small d h hf
    have hb : (Nv.inn d).bytes ++ rest = UInt8.ofNat 2 :: (UInt8.ofNat d.kids.length :: (d.kids.flatMap kidB ++ (d.pivs.flatMap ntx ++ (UInt8.ofNat d.ms.length :: (d.ms.flatMap mgB ++ rest))))) := by simp [Nv.bytes, innB]
    obtain ⟨a, b, c⟩ := one_back 2 (by omega) (UInt8.ofNat d.kids.length :: (d.kids.flatMap kidB ++ (d.pivs.flatMap ntx ++ (UInt8.ofNat d.ms.length :: (d.ms.flatMap mgB ++ rest))))) 0
    rw [hb]
    refine ⟨a, ?_⟩
    unfold rdNode
    rw [a, if_neg (show ¬ ((2 : Nat) : Int) = 1 from by decide), b, c, rdInn_back d hs rest]
/-- What was read without a fault was there. -/
theorem rd_inv (l : List UInt8) (e : Int) (hk : numVal 1 l = 1 ∨ numVal 1 l = 2) (h : (rdNode l e).2.2 = 0) : e = 0 ∧ l = (rdNode l e).1.bytes ++ (rdNode l e).2.1 := by
  unfold rdNode at h ⊢
  rcases hk with hk | hk
  · rw [if_pos hk] at h ⊢
    obtain ⟨h1, h2, h3, h4⟩ := rdIts_inv _ _ h
    obtain ⟨g1, g2, g3⟩ := one_inv l e h1
    refine ⟨g1, ?_⟩
    rw [hk] at g2
    generalize rdIts (numL 1 l) (numE 1 l e) = s at h1 h2 h3 h4 ⊢
    dsimp only [Nv.bytes]
    unfold leafB
    rw [List.cons_append, List.cons_append, ← h2]
    exact g2
  · have hne : ¬ numVal 1 l = 1 := by omega
    rw [if_neg hne] at h ⊢
    dsimp only at h
    obtain ⟨h1, h2, h3⟩ := rdInn_inv _ _ h
    obtain ⟨g1, g2, g3⟩ := one_inv l e h1
    refine ⟨g1, ?_⟩
    rw [hk] at g2
    generalize rdInn (numL 1 l) (numE 1 l e) = s at h1 h2 h3 ⊢
    dsimp only [Nv.bytes]
    unfold innB
    rw [List.cons_append, List.cons_append, List.append_assoc, List.append_assoc, List.cons_append, ← h3]
    exact g2
/-- No node's bytes open another's. -/
theorem bytes_one (v u : Nv) (hv : v.good) (fv : v.fits = true) (hu : u.good) (fu : u.fits = true) (r s : List UInt8) (h : v.bytes ++ r = u.bytes ++ s) : v = u ∧ r = s := by
  have h1 := (rd_back v hv fv r).2
  have h2 := (rd_back u hu fu s).2
  rw [h] at h1
  rw [h1] at h2
  simp only [Prod.mk.injEq] at h2
  exact ⟨h2.1, h2.2.1⟩
theorem bytes_same (v u : Nv) (hv : v.good) (fv : v.fits = true) (hu : u.good) (fu : u.fits = true) (h : v.bytes = u.bytes) : v = u :=
  (bytes_one v u hv fv hu fu [] [] (by simpa using h)).1
theorem bytes_le (v : Nv) (hv : v.good) (fv : v.fits = true) : v.bytes.length ≤ 242 ∧ 1 ≤ v.bytes.length := by
  cases v with
  | leaf xs => exact ⟨leafB_le xs fv, by simp [Nv.bytes, leafB]⟩
  | inn d =>
    have hs := fits_small d hv fv
    obtain ⟨g1, g2, g3, g4, g5⟩ := (goodN_iff _ _).1 hv.1
    have := innB_le d fv (by omega) hs.ps
    exact ⟨by show (innB d).length ≤ 242; omega, by simp [Nv.bytes, innB]⟩
/-- What these bytes are: the node, if there is one. -/
def IsOf (l : List UInt8) (v : Nv) : Prop := v.good ∧ v.fits = true ∧ v.bytes = l
theorem isOf_one {l : List UInt8} {v u : Nv} (h : IsOf l v) (k : IsOf l u) : v = u := bytes_same v u h.1 h.2.1 k.1 k.2.1 (h.2.2.trans k.2.2.symm)
theorem isOf_rd {l : List UInt8} {v : Nv} (h : IsOf l v) : numVal 1 l = v.kind ∧ rdNode l 0 = (v, [], 0) := by
  obtain ⟨h1, h2, h3⟩ := h
  have := rd_back v h1 h2 []
  rw [List.append_nil, h3] at this
  exact this
/-- A byte more, or less: none's. -/
theorem more_none (v : Nv) (hv : v.good) (fv : v.fits = true) (b : UInt8) (u : Nv) : ¬ IsOf (v.bytes ++ [b]) u := by
  rintro ⟨h1, h2, h3⟩
  have := (bytes_one u v h1 h2 hv fv [] [b] (by simpa using h3)).2
  exact absurd this (by simp)
theorem less_none (v : Nv) (hv : v.good) (fv : v.fits = true) (u : Nv) : ¬ IsOf (v.bytes.take (v.bytes.length - 1)) u := by
  rintro ⟨h1, h2, h3⟩
  have hl := (bytes_le v hv fv).2
  have h4 : u.bytes ++ v.bytes.drop (v.bytes.length - 1) = v.bytes ++ [] := by rw [h3, List.take_append_drop, List.append_nil]
  have := (bytes_one u v h1 h2 hv fv _ _ h4).2
  have hd : (v.bytes.drop (v.bytes.length - 1)).length = 1 := by rw [List.length_drop]; omega
  rw [this] at hd
  exact absurd hd (by simp)
end Go.Proofs.YtoobelcphcndoaaGreat
