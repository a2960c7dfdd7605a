/-
  Plain functions of merge: runs of messages gone through as one row: no program is named.
-/
import Derived.Test.YtnalillebemglaaGreatBuffM
namespace Go.Proofs.YtnalillebemglaaGreat
open Go.RowKit Go.Sort
set_option linter.unusedVariables false

/-- Runs: messages that can be, whose keys rise. -/
def OkR (rs : List (List Mg)) : Prop := ∀ r ∈ rs, GoodM r ∧ RisingM r
/-- The error of runs. -/
def upR (r : List Mg) : Bool := decide (r.Pairwise (fun a b => a.key < b.key))
theorem upR_iff (r : List Mg) : upR r = true ↔ RisingM r := by unfold upR; rw [decide_eq_true_eq]; exact Iff.rfl
def chkR (rs : List (List Mg)) : Int := if rs.all (fun r => r.all Mg.is) then (if rs.all upR then 0 else 11) else 1
/-- All as one row; how many are left. -/
def msgsR (rs : List (List Mg)) : List Mg := putsM rs.flatten []
def leftR (rs : List (List Mg)) : Nat := rs.flatten.length

theorem chkR_ok {rs : List (List Mg)} (h : chkR rs = 0) : OkR rs := by
  unfold chkR at h
  by_cases h1 : rs.all (fun r => r.all Mg.is) = true
  · rw [if_pos h1] at h
    by_cases h2 : rs.all upR = true
    · intro r hr
      exact ⟨fun m hm => List.all_eq_true.1 (List.all_eq_true.1 h1 r hr) m hm, (upR_iff r).1 (List.all_eq_true.1 h2 r hr)⟩
    · rw [if_neg h2] at h; omega
  · rw [if_neg h1] at h; omega
theorem chkR_of {rs : List (List Mg)} (h : OkR rs) : chkR rs = 0 := by
  have h1 : rs.all (fun r => r.all Mg.is) = true := List.all_eq_true.2 (fun r hr => List.all_eq_true.2 (fun m hm => (h r hr).1 m hm))
  unfold chkR
  rw [if_pos h1, if_pos (List.all_eq_true.2 (fun r hr => (upR_iff r).2 (h r hr).2))]
theorem chkR_arg {rs : List (List Mg)} (h : ¬ rs.all (fun r => r.all Mg.is) = true) : chkR rs = 1 := by unfold chkR; rw [if_neg h]
theorem chkR_state {rs : List (List Mg)} (h : rs.all (fun r => r.all Mg.is) = true) (h2 : ¬ rs.all upR = true) : chkR rs = 11 := by unfold chkR; rw [if_pos h, if_neg h2]
theorem OkR.flat {rs : List (List Mg)} (h : OkR rs) : GoodM rs.flatten := fun m hm => by
  obtain ⟨r, hr, hmr⟩ := List.mem_flatten.1 hm
  exact (h r hr).1 m hmr
theorem OkR.cons {r : List Mg} {rs : List (List Mg)} (h : OkR (r :: rs)) : (GoodM r ∧ RisingM r) ∧ OkR rs := ⟨h r (List.mem_cons_self ..), fun q hq => h q (List.mem_cons_of_mem _ hq)⟩
theorem OkR.take {rs : List (List Mg)} (h : OkR rs) (n : Nat) : OkR (rs.take n) := fun r hr => h r (List.mem_of_mem_take hr)
theorem OkR.drop {rs : List (List Mg)} (h : OkR rs) (n : Nat) : OkR (rs.drop n) := fun r hr => h r (List.mem_of_mem_drop hr)
theorem msgsR_good {rs : List (List Mg)} (h : OkR rs) : GoodM (msgsR rs) ∧ RisingM (msgsR rs) := putsM_all _ h.flat [] (fun _ h => by simp at h) List.Pairwise.nil
theorem msgsR_len (rs : List (List Mg)) : (msgsR rs).length ≤ leftR rs := by
  have := putsM_len rs.flatten []
  simpa [msgsR, leftR] using this
/-- Run by run. -/
theorem msgsR_fold (rs : List (List Mg)) : ∀ b : List Mg, rs.foldl (fun l r => putsM r l) b = putsM rs.flatten b := by
  induction rs with
  | nil => intro b; rfl
  | cons r rs ih => intro b; rw [List.foldl_cons, ih, List.flatten_cons, putsM_append]
theorem msgsR_take (rs : List (List Mg)) (j : Nat) (hj : j < rs.length) : msgsR (rs.take (j + 1)) = putsM rs[j] (msgsR (rs.take j)) := by
  unfold msgsR
  rw [List.take_add_one, List.getElem?_eq_getElem hj, List.flatten_append, putsM_append]
  simp
theorem withL_fold (rs : List (List Mg)) : ∀ xs : List It, rs.foldl (fun l r => withL r l) xs = withL rs.flatten xs := by
  induction rs with
  | nil => intro b; rfl
  | cons r rs ih => intro b; rw [List.foldl_cons, ih, List.flatten_cons]; simp [withL]
/-- What items are behind all runs is what they are behind the one row. -/
theorem withL_msgsR {rs : List (List Mg)} (h : OkR rs) (xs : List It) (hx : Rising xs) : withL (msgsR rs) xs = rs.foldl (fun l r => withL r l) xs := by
  rw [withL_fold]
  exact withL_puts _ h.flat xs hx

theorem rev_ind {α : Type} {P : List α → Prop} (h0 : P []) (h1 : ∀ b m, P b → P (b ++ [m])) (l : List α) : P l := by
  have : ∀ n (l : List α), l.length = n → P l := by
    intro n
    induction n with
    | zero => intro l hl; rw [List.length_eq_zero_iff.1 hl]; exact h0
    | succ n ih =>
      intro l hl
      rcases List.eq_nil_or_concat l with rfl | ⟨b, m, rfl⟩
      · exact h0
      · rw [List.concat_eq_append] at hl ⊢
        exact h1 b m (ih b (by simpa using hl))
  exact this _ l rfl
/-- A message put onto what others of its key make, and onto nothing. -/
theorem ontoAll_snoc (k : List UInt8) (b : List Mg) (m : Mg) (o : Option Mg) : ontoAll k (b ++ [m]) o = if m.key = k then some (m.onto (ontoAll k b o)) else ontoAll k b o := by
  rw [ontoAll_append]
  by_cases h : m.key = k
  · rw [if_pos h]; simp [ontoAll, h]
  · rw [if_neg h]; simp [ontoAll, h]
theorem ontoAll_good (k : List UInt8) (b : List Mg) (hb : GoodM b) : ∀ o : Option Mg, (∀ x, o = some x → x.is = true ∧ x.key = k) → ∀ x, ontoAll k b o = some x → x.is = true ∧ x.key = k := by
  induction b using rev_ind with
  | h0 => intro o ho x hx; exact ho x hx
  | h1 b m ih =>
    intro o ho x hx
    have hm : m.is = true := hb m (by simp)
    have hi := ih (fun y hy => hb y (by simp [hy])) o ho
    rw [ontoAll_snoc] at hx
    by_cases hk : m.key = k
    · rw [if_pos hk] at hx
      cases hx
      have := onto_good hm (o := ontoAll k b o) (fun y hy => by obtain ⟨a1, a2⟩ := hi y hy; exact ⟨a1, a2.trans hk.symm⟩)
      exact ⟨this.1, this.2.trans hk⟩
    · rw [if_neg hk] at hx
      exact hi x hx
theorem ontoAll_split (k : List UInt8) (b : List Mg) (hb : GoodM b) : ∀ o : Option Mg, (∀ x, o = some x → x.is = true ∧ x.key = k) → ontoAll k b o = match ontoAll k b none with | none => o | some x => some (x.onto o) := by
  induction b using rev_ind with
  | h0 => intro o ho; rfl
  | h1 b m ih =>
    intro o ho
    have hm : m.is = true := hb m (by simp)
    have hg : GoodM b := fun y hy => hb y (by simp [hy])
    have hi := ih hg o ho
    have hgd := ontoAll_good k b hg none (fun x hx => by cases hx)
    rw [ontoAll_snoc, ontoAll_snoc, hi]
    by_cases hk : m.key = k
    · rw [if_pos hk, if_pos hk]
      cases hn : ontoAll k b none with
      | none => rfl
      | some x =>
        obtain ⟨x1, x2⟩ := hgd x hn
        cases o with
        | none => rfl
        | some y =>
          obtain ⟨y1, y2⟩ := ho y rfl
          show some ((y.then x).then m) = some (y.then (x.then m))
          rw [then_assoc y1 x1 hm (x2.trans y2.symm) (hk.trans y2.symm)]
    · rw [if_neg hk, if_neg hk]
theorem puts_puts (b l : List Mg) (hb : GoodM b) (hl : GoodM l) (hr : RisingM l) : putsM (putsM b []) l = putsM b l := by
  obtain ⟨p1, p2⟩ := putsM_all b hb [] (fun _ h => by simp at h) List.Pairwise.nil
  refine risingM_ext _ _ (putsM_all _ p1 l hl hr).2 (putsM_all _ hb l hl hr).2 (fun k => ?_)
  rw [findM_puts k _ p1 l hl hr, findM_puts k b hb l hl hr, ontoAll_self k _ p2, findM_puts k b hb [] (fun _ h => by simp at h) List.Pairwise.nil]
  rw [ontoAll_split k b hb (findM k l) (fun x hx => by
    obtain ⟨h1, h2⟩ := findM_mem hx
    exact ⟨hl x h1, h2⟩)]
  rfl
/-- At once, or some of them first. -/
theorem msgsR_two {rs : List (List Mg)} (h : OkR rs) (n : Nat) : msgsR [msgsR (rs.take n), msgsR (rs.drop n)] = msgsR rs := by
  obtain ⟨a1, a2⟩ := msgsR_good (h.take n)
  have hf : rs.flatten = (rs.take n).flatten ++ (rs.drop n).flatten := by rw [← List.flatten_append, List.take_append_drop]
  show putsM ([msgsR (rs.take n), msgsR (rs.drop n)].flatten) [] = _
  rw [show [msgsR (rs.take n), msgsR (rs.drop n)].flatten = msgsR (rs.take n) ++ msgsR (rs.drop n) by simp, putsM_append, puts_self _ a2 a1]
  have e := puts_puts _ _ (h.drop n).flat a1 a2
  show putsM (putsM (rs.drop n).flatten []) (msgsR (rs.take n)) = _
  rw [e]
  unfold msgsR
  rw [hf, putsM_append]
theorem msgsR_step {rs : List (List Mg)} (h : OkR rs) (n : Nat) : msgsR (msgsR (rs.take n) :: rs.drop n) = msgsR rs := by
  obtain ⟨a1, a2⟩ := msgsR_good (h.take n)
  have hf : rs.flatten = (rs.take n).flatten ++ (rs.drop n).flatten := by rw [← List.flatten_append, List.take_append_drop]
  show putsM ((msgsR (rs.take n) :: rs.drop n).flatten) [] = _
  rw [List.flatten_cons, putsM_append, puts_self _ a2 a1]
  unfold msgsR
  rw [hf, putsM_append]

/-- A run's head, if it has key k, and what is behind it. -/
def headR (k : List UInt8) : List Mg → List Mg
  | [] => []
  | m :: t => if m.key = k then [m] else []
def tailR (k : List UInt8) : List Mg → List Mg
  | [] => []
  | m :: t => if m.key = k then t else m :: t
def headsR (k : List UInt8) (rs : List (List Mg)) : List Mg := rs.flatMap (headR k)
def tailsR (k : List UInt8) (rs : List (List Mg)) : List (List Mg) := rs.map (tailR k)
/-- k is the least of all that is left. -/
def LeastR (k : List UInt8) (rs : List (List Mg)) : Prop := (∃ r ∈ rs, ∃ m, r.head? = some m ∧ m.key = k) ∧ ∀ r ∈ rs, ∀ m, r.head? = some m → ¬ m.key < k
theorem headR_cons (k : List UInt8) (m : Mg) (t : List Mg) : headR k (m :: t) = if m.key = k then [m] else [] := rfl
theorem tailR_cons (k : List UInt8) (m : Mg) (t : List Mg) : tailR k (m :: t) = if m.key = k then t else m :: t := rfl
theorem head_tail (k : List UInt8) (r : List Mg) : headR k r ++ tailR k r = r := by
  cases r with
  | nil => rfl
  | cons m t => rw [headR_cons, tailR_cons]; split <;> rfl
theorem headR_keys (k : List UInt8) (r : List Mg) : ∀ m ∈ headR k r, m.key = k := by
  cases r with
  | nil => intro m hm; simp [headR] at hm
  | cons x t =>
    intro m hm
    rw [headR_cons] at hm
    by_cases h : x.key = k
    · rw [if_pos h, List.mem_singleton] at hm; rw [hm]; exact h
    · rw [if_neg h] at hm; simp at hm
theorem tailR_above (k : List UInt8) (r : List Mg) (hr : RisingM r) (hk : ∀ m, r.head? = some m → ¬ m.key < k) : ∀ m ∈ tailR k r, k < m.key := by
  cases r with
  | nil => intro m hm; simp [tailR] at hm
  | cons x t =>
    intro m hm
    have h0 := hk x rfl
    unfold RisingM at hr
    rw [List.pairwise_cons] at hr
    rw [tailR_cons] at hm
    by_cases h : x.key = k
    · rw [if_pos h] at hm
      rw [← h]
      exact hr.1 m hm
    · rw [if_neg h] at hm
      have hx : k < x.key := by
        generalize x.key = y at h h0
        grind
      rw [List.mem_cons] at hm
      rcases hm with rfl | hm
      · exact hx
      · exact lt_trans' hx (hr.1 m hm)
theorem tailR_rising (k : List UInt8) (r : List Mg) (hr : RisingM r) : RisingM (tailR k r) := by
  have := head_tail k r
  rw [← this] at hr
  exact (List.pairwise_append.1 hr).2.1
theorem tailR_good (k : List UInt8) (r : List Mg) (hg : GoodM r) : GoodM (tailR k r) := fun m hm => hg m (by rw [← head_tail k r]; simp [hm])
theorem OkR.tails {rs : List (List Mg)} (h : OkR rs) (k : List UInt8) : OkR (tailsR k rs) := fun r hr => by
  obtain ⟨q, hq, rfl⟩ := List.mem_map.1 hr
  exact ⟨tailR_good k q (h q hq).1, tailR_rising k q (h q hq).2⟩
theorem ontoAll_other (k j : List UInt8) (hj : j ≠ k) (rs : List (List Mg)) : ∀ o, ontoAll j rs.flatten o = ontoAll j (tailsR k rs).flatten o := by
  induction rs with
  | nil => intro o; rfl
  | cons r rs ih =>
    intro o
    show ontoAll j (r :: rs).flatten o = ontoAll j (tailR k r :: tailsR k rs).flatten o
    rw [List.flatten_cons, List.flatten_cons, ontoAll_append, ontoAll_append, ih]
    congr 1
    conv => lhs; rw [← head_tail k r]
    rw [ontoAll_append]
    congr 1
    unfold ontoAll
    rw [List.filter_eq_nil_iff.2 (fun m hm => by
      have := headR_keys k r m hm
      simp only [decide_eq_true_eq]
      intro e
      exact hj (e.symm.trans this))]
    rfl
theorem ontoAll_least (k : List UInt8) (rs : List (List Mg)) (h : OkR rs) (hk : ∀ r ∈ rs, ∀ m, r.head? = some m → ¬ m.key < k) : ∀ o, ontoAll k rs.flatten o = ontoAll k (headsR k rs) o := by
  induction rs with
  | nil => intro o; rfl
  | cons r rs ih =>
    intro o
    have hc := h.cons
    have e : headsR k (r :: rs) = headR k r ++ headsR k rs := by simp [headsR]
    rw [List.flatten_cons, e, ontoAll_append, ontoAll_append, ih hc.2 (fun q hq => hk q (List.mem_cons_of_mem _ hq))]
    congr 1
    conv => lhs; rw [← head_tail k r]
    rw [ontoAll_append]
    have hn : ∀ o, ontoAll k (tailR k r) o = o := fun o => by
      unfold ontoAll
      rw [List.filter_eq_nil_iff.2 (fun m hm => by
        have := tailR_above k r hc.1.2 (hk r (List.mem_cons_self ..)) m hm
        simp only [decide_eq_true_eq]
        intro e2
        rw [e2] at this
        exact absurd this lt_irrefl')]
      rfl
    rw [hn]
theorem ontoAll_some (k : List UInt8) (ms : List Mg) (hk : ∀ m ∈ ms, m.key = k) (hn : ms ≠ []) (o : Option Mg) : ∃ x, ontoAll k ms o = some x := by
  rcases List.eq_nil_or_concat ms with rfl | ⟨b, m, rfl⟩
  · exact absurd rfl hn
  · rw [List.concat_eq_append] at hk ⊢
    rw [ontoAll_snoc, if_pos (hk m (by simp))]
    exact ⟨_, rfl⟩
theorem left_split (k : List UInt8) (rs : List (List Mg)) : leftR rs = (headsR k rs).length + leftR (tailsR k rs) := by
  unfold leftR
  induction rs with
  | nil => rfl
  | cons r rs ih =>
    have e : headsR k (r :: rs) = headR k r ++ headsR k rs := by simp [headsR]
    have e2 : tailsR k (r :: rs) = tailR k r :: tailsR k rs := rfl
    have e3 := congrArg List.length (head_tail k r)
    rw [List.length_append] at e3
    rw [e, e2, List.flatten_cons, List.flatten_cons, List.length_append, List.length_append, List.length_append, ih]
    omega
/-- What comes next is the row's head, and the row goes on behind it. -/
theorem next_msgs {rs : List (List Mg)} (h : OkR rs) {k : List UInt8} (hk : LeastR k rs) : ∃ x, ontoAll k (headsR k rs) none = some x ∧ x.is = true ∧ x.key = k ∧ msgsR rs = x :: msgsR (tailsR k rs) := by
  have hne : headsR k rs ≠ [] := by
    obtain ⟨r, hr, m, hm, hmk⟩ := hk.1
    intro e
    have : m ∈ headsR k rs := by
      unfold headsR
      rw [List.mem_flatMap]
      refine ⟨r, hr, ?_⟩
      cases r with
      | nil => simp at hm
      | cons y t =>
        simp only [List.head?_cons, Option.some.injEq] at hm
        subst hm
        rw [headR_cons, if_pos hmk]
        simp
    rw [e] at this
    simp at this
  have hkeys : ∀ m ∈ headsR k rs, m.key = k := fun m hm => by
    unfold headsR at hm
    rw [List.mem_flatMap] at hm
    obtain ⟨r, _, hm⟩ := hm
    exact headR_keys k r m hm
  have hgood : GoodM (headsR k rs) := fun m hm => by
    unfold headsR at hm
    rw [List.mem_flatMap] at hm
    obtain ⟨r, hr, hm⟩ := hm
    exact (h r hr).1 m (by rw [← head_tail k r]; simp [hm])
  obtain ⟨x, hx⟩ := ontoAll_some k (headsR k rs) hkeys hne none
  obtain ⟨x1, x2⟩ := ontoAll_good k (headsR k rs) hgood none (fun y hy => by cases hy) x hx
  refine ⟨x, hx, x1, x2, ?_⟩
  have ht := h.tails k
  obtain ⟨t1, t2⟩ := msgsR_good ht
  have hab : ∀ y ∈ msgsR (tailsR k rs), x.key < y.key := fun y hy => by
    rcases puts_keys _ ht.flat [] (fun _ h => by simp at h) List.Pairwise.nil y hy with ⟨m, hm, e⟩ | ⟨m, hm, _⟩
    · obtain ⟨q, hq, hmq⟩ := List.mem_flatten.1 hm
      obtain ⟨r, hr, rfl⟩ := List.mem_map.1 hq
      rw [e, x2]
      exact tailR_above k r (h r hr).2 (hk.2 r hr) m hmq
    · simp at hm
  refine risingM_ext _ _ (msgsR_good h).2 (List.pairwise_cons.2 ⟨hab, t2⟩) (fun j => ?_)
  have hl : findM j (msgsR rs) = ontoAll j rs.flatten none := findM_puts j _ h.flat [] (fun _ h => by simp at h) List.Pairwise.nil
  have hr : findM j (msgsR (tailsR k rs)) = ontoAll j (tailsR k rs).flatten none := findM_puts j _ ht.flat [] (fun _ h => by simp at h) List.Pairwise.nil
  rw [hl]
  by_cases hj : j = k
  · subst hj
    rw [ontoAll_least j rs h hk.2, hx]
    unfold findM
    rw [if_pos x2]
  · rw [ontoAll_other k j hj]
    unfold findM
    rw [if_neg (fun e => hj (by rw [← x2]; exact e.symm)), hr]
theorem msgsR_none {rs : List (List Mg)} (h : ∀ r ∈ rs, r = []) : msgsR rs = [] := by
  unfold msgsR
  rw [List.flatten_eq_nil_iff.2 h]
  rfl
theorem left_none0 {rs : List (List Mg)} : leftR rs = 0 ↔ ∀ r ∈ rs, r = [] := by
  unfold leftR
  rw [List.length_eq_zero_iff, List.flatten_eq_nil_iff]
/-- The messages of one key, as they lie in the runs. -/
def ofK (k : List UInt8) (ms : List Mg) : List Mg := ms.filter (fun m => decide (m.key = k))
theorem ofK_append (k : List UInt8) (a b : List Mg) : ofK k (a ++ b) = ofK k a ++ ofK k b := by simp [ofK]
theorem ofK_other (k j : List UInt8) (hj : j ≠ k) (rs : List (List Mg)) : ofK j (tailsR k rs).flatten = ofK j rs.flatten := by
  induction rs with
  | nil => rfl
  | cons r rs ih =>
    show ofK j (tailR k r :: tailsR k rs).flatten = _
    rw [List.flatten_cons, List.flatten_cons, ofK_append, ofK_append, ih]
    congr 1
    conv => rhs; rw [← head_tail k r]
    rw [ofK_append]
    have : ofK j (headR k r) = [] := by
      unfold ofK
      refine List.filter_eq_nil_iff.2 (fun m hm => ?_)
      have := headR_keys k r m hm
      simp only [decide_eq_true_eq]
      intro e
      exact hj (e.symm.trans this)
    rw [this, List.nil_append]
theorem ofK_least (k : List UInt8) (rs : List (List Mg)) (h : OkR rs) (hk : ∀ r ∈ rs, ∀ m, r.head? = some m → ¬ m.key < k) : ofK k rs.flatten = headsR k rs := by
  induction rs with
  | nil => rfl
  | cons r rs ih =>
    have hc := h.cons
    have e : headsR k (r :: rs) = headR k r ++ headsR k rs := by simp [headsR]
    rw [List.flatten_cons, e, ofK_append, ih hc.2 (fun q hq => hk q (List.mem_cons_of_mem _ hq))]
    congr 1
    conv => lhs; rw [← head_tail k r]
    rw [ofK_append]
    have h1 : ofK k (headR k r) = headR k r := List.filter_eq_self.2 (fun m hm => by simpa using headR_keys k r m hm)
    have h2 : ofK k (tailR k r) = [] := by
      unfold ofK
      refine List.filter_eq_nil_iff.2 (fun m hm => ?_)
      have := tailR_above k r hc.1.2 (hk r (List.mem_cons_self ..)) m hm
      simp only [decide_eq_true_eq]
      intro e2
      rw [e2] at this
      exact absurd this lt_irrefl'
    rw [h1, h2, List.append_nil]
/-- Where something is left there is a least key. -/
theorem least_of {rs : List (List Mg)} : (∃ r ∈ rs, r ≠ []) → ∃ k, LeastR k rs := by
  induction rs with
  | nil => rintro ⟨r, hr, _⟩; simp at hr
  | cons r rs ih =>
    intro _
    by_cases hrs : ∃ q ∈ rs, q ≠ []
    · obtain ⟨k, ⟨q, hq, m, hm, hmk⟩, hk⟩ := ih hrs
      cases r with
      | nil => exact ⟨k, ⟨q, List.mem_cons_of_mem _ hq, m, hm, hmk⟩, fun q2 hq2 m2 hm2 => by
          rw [List.mem_cons] at hq2
          rcases hq2 with rfl | hq2
          · simp at hm2
          · exact hk q2 hq2 m2 hm2⟩
      | cons y t =>
        by_cases hy : y.key < k
        · refine ⟨y.key, ⟨y :: t, List.mem_cons_self .., y, rfl, rfl⟩, fun q2 hq2 m2 hm2 => ?_⟩
          rw [List.mem_cons] at hq2
          rcases hq2 with rfl | hq2
          · simp only [List.head?_cons, Option.some.injEq] at hm2
            subst hm2
            exact lt_irrefl'
          · have := hk q2 hq2 m2 hm2
            intro h
            exact this (lt_trans' h hy)
        · refine ⟨k, ⟨q, List.mem_cons_of_mem _ hq, m, hm, hmk⟩, fun q2 hq2 m2 hm2 => ?_⟩
          rw [List.mem_cons] at hq2
          rcases hq2 with rfl | hq2
          · simp only [List.head?_cons, Option.some.injEq] at hm2
            subst hm2
            exact hy
          · exact hk q2 hq2 m2 hm2
    · have hn : ∀ q ∈ rs, q = [] := fun q hq => by
        by_cases h : q = []
        · exact h
        · exact absurd ⟨q, hq, h⟩ hrs
      rename_i hx
      obtain ⟨q, hq, hne⟩ := hx
      rw [List.mem_cons] at hq
      rcases hq with rfl | hq
      · cases q with
        | nil => exact absurd rfl hne
        | cons y t =>
          refine ⟨y.key, ⟨y :: t, List.mem_cons_self .., y, rfl, rfl⟩, fun q2 hq2 m2 hm2 => ?_⟩
          rw [List.mem_cons] at hq2
          rcases hq2 with rfl | hq2
          · simp only [List.head?_cons, Option.some.injEq] at hm2
            subst hm2
            exact lt_irrefl'
          · rw [hn q2 hq2] at hm2
            simp at hm2
      · exact absurd (hn q hq) hne
/-- The runs behind i messages of the row. -/
def stR (rs : List (List Mg)) : Nat → List (List Mg)
  | 0 => rs
  | i + 1 => tailsR (((msgsR rs)[i]?.map Mg.key).getD []) (stR rs i)
theorem st_ok {rs : List (List Mg)} (h : OkR rs) : ∀ i, i ≤ (msgsR rs).length → OkR (stR rs i) ∧ msgsR (stR rs i) = (msgsR rs).drop i ∧ (∀ (hi : i < (msgsR rs).length), LeastR (msgsR rs)[i].key (stR rs i)) := by
  have key : ∀ q : List (List Mg), OkR q → ∀ x t, msgsR q = x :: t → LeastR x.key q := fun q hq x t hx => by
    have hne : ∃ r ∈ q, r ≠ [] := by
      by_cases hh : ∃ r ∈ q, r ≠ []
      · exact hh
      · have : msgsR q = [] := msgsR_none (fun r hr => by
          by_cases h2 : r = []
          · exact h2
          · exact absurd ⟨r, hr, h2⟩ hh)
        rw [this] at hx
        cases hx
    obtain ⟨k, hk⟩ := least_of hne
    obtain ⟨y, _, _, yk, hy⟩ := next_msgs hq hk
    rw [hx] at hy
    injection hy with hy _
    rw [hy, yk]
    exact hk
  intro i
  induction i with
  | zero =>
    intro _
    refine ⟨h, rfl, fun hi => key rs h _ ((msgsR rs).drop 1) (by have := List.drop_eq_getElem_cons hi; simpa using this)⟩
  | succ i ih =>
    intro hi
    obtain ⟨h1, h2, h3⟩ := ih (by omega)
    have hl := h3 (by omega)
    have e : stR rs (i + 1) = tailsR (msgsR rs)[i].key (stR rs i) := by
      show tailsR _ _ = _
      rw [List.getElem?_eq_getElem (show i < (msgsR rs).length by omega)]
      rfl
    obtain ⟨x, _, _, _, hx⟩ := next_msgs h1 hl
    have h4 : msgsR (stR rs (i + 1)) = (msgsR rs).drop (i + 1) := by
      rw [e]
      rw [h2, List.drop_eq_getElem_cons (show i < (msgsR rs).length by omega)] at hx
      injection hx with _ hx
      exact hx.symm
    have h5 : OkR (stR rs (i + 1)) := by rw [e]; exact h1.tails _
    refine ⟨h5, h4, fun hi2 => key _ h5 _ ((msgsR rs).drop (i + 2)) ?_⟩
    rw [h4, List.drop_eq_getElem_cons hi2]
theorem st_ofK {rs : List (List Mg)} (h : OkR rs) (j : Nat) (hj : j < (msgsR rs).length) : ∀ i, i ≤ j → ofK (msgsR rs)[j].key (stR rs i).flatten = ofK (msgsR rs)[j].key rs.flatten := by
  intro i
  induction i with
  | zero => intro _; rfl
  | succ i ih =>
    intro hi
    have hne : (msgsR rs)[j].key ≠ (msgsR rs)[i].key := fun e => by
      have := (List.pairwise_iff_getElem.1 (msgsR_good h).2) i j (by omega) hj (by omega)
      rw [e] at this
      exact lt_irrefl' this
    have e : stR rs (i + 1) = tailsR (msgsR rs)[i].key (stR rs i) := by
      show tailsR _ _ = _
      rw [List.getElem?_eq_getElem (show i < (msgsR rs).length by omega)]
      rfl
    rw [e, ofK_other _ _ hne, ih (by omega)]
/-- How many are left behind one more: less by those of its key in all runs. -/
theorem st_left {rs : List (List Mg)} (h : OkR rs) (j : Nat) (hj : j < (msgsR rs).length) : leftR (stR rs j) = (ofK (msgsR rs)[j].key rs.flatten).length + leftR (stR rs (j + 1)) := by
  obtain ⟨h1, _, h3⟩ := st_ok h j (by omega)
  have hl := h3 hj
  rw [left_split (msgsR rs)[j].key (stR rs j), ← ofK_least _ _ h1 hl.2, st_ofK h j hj j (Nat.le_refl _)]
  congr 2
  show _ = tailsR _ _
  rw [List.getElem?_eq_getElem hj]
  rfl
theorem st_end {rs : List (List Mg)} (h : OkR rs) : leftR (stR rs (msgsR rs).length) = 0 := by
  obtain ⟨h1, h2, _⟩ := st_ok h (msgsR rs).length (Nat.le_refl _)
  rw [List.drop_of_length_le (Nat.le_refl _)] at h2
  rw [left_none0]
  intro r hr
  by_cases hn : r = []
  · exact hn
  · obtain ⟨k, hk⟩ := least_of ⟨r, hr, hn⟩
    obtain ⟨x, _, _, _, hx⟩ := next_msgs h1 hk
    rw [h2] at hx
    cases hx
end Go.Proofs.YtnalillebemglaaGreat
