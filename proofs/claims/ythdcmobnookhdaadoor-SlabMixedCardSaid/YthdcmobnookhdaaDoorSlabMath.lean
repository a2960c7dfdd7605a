/-
  Frames and stamped blocks as rows of bytes. No function of the program is named here.
-/
import Derived.Test.YthdcmobnookhdaaDoorPenMath
import Derived.Test.YthdcmobnookhdaaDoorCrcMath
namespace Go.Proofs.YthdcmobnookhdaaDoor
set_option linter.unusedVariables false

theorem be_beN : ∀ (n : Nat) (l : List UInt8), l.length = n → be n (beN l) = l
  | 0, l, h => by rw [List.eq_nil_of_length_eq_zero h]; rfl
  | n + 1, l, h => by
    obtain ⟨m, b, rfl⟩ : ∃ m b, l = m ++ [b] := ⟨l.dropLast, l.getLast (by intro e; simp [e] at h), (List.dropLast_concat_getLast _).symm⟩
    have hb := b.toNat_lt
    rw [beN_snoc]
    show be n ((beN m * 256 + b.toNat) / 256) ++ [UInt8.ofNat (beN m * 256 + b.toNat)] = m ++ [b]
    have e1 : (beN m * 256 + b.toNat) / 256 = beN m := by omega
    have e2 : UInt8.ofNat (beN m * 256 + b.toNat) = b := by
      apply UInt8.toNat_inj.1
      simp
    rw [e1, e2, be_beN n m (by simpa using h)]
theorem be_inj {k a b : Nat} (ha : a < 256 ^ k) (hb : b < 256 ^ k) (h : be k a = be k b) : a = b := by
  rw [← beN_be k a ha, h, beN_be k b hb]

def zs (n : Nat) : List UInt8 := List.replicate n 0
theorem zs_length (n : Nat) : (zs n).length = n := by simp [zs]
/-- What is behind a frame's sum. -/
def bod (size : Nat) (s : List UInt8) : List UInt8 := be 2 s.length ++ (s ++ zs (size - 6 - s.length))
/-- The frame of size bytes with the text s. -/
def frm (size : Nat) (s : List UInt8) : List UInt8 := be 4 (moreN 0 (bod size s)) ++ bod size s
theorem bod_length {size : Nat} {s : List UInt8} (h : s.length + 6 ≤ size) : (bod size s).length = size - 4 := by
  simp only [bod, List.length_append, be_length, zs_length]; omega
theorem frm_length {size : Nat} {s : List UInt8} (h : s.length + 6 ≤ size) : (frm size s).length = size := by
  rw [frm, List.length_append, be_length, bod_length h]; omega

/-- A frame's text, and its error. -/
def lenF (f : List UInt8) : Nat := beN ((f.drop 4).take 2)
def txtF (f : List UInt8) : List UInt8 := (f.drop 6).take (lenF f)
def unfE (f : List UInt8) : Int := if lenF f + 6 ≤ f.length then (if f = frm f.length (txtF f) then 0 else 6) else 5
def unfS (f : List UInt8) : List UInt8 := if unfE f = 0 then txtF f else []
theorem unfE_zero {f : List UInt8} (h : unfE f = 0) : lenF f + 6 ≤ f.length ∧ f = frm f.length (txtF f) := by
  unfold unfE at h
  split at h
  · split at h
    · exact ⟨by assumption, by assumption⟩
    · cases h
  · cases h

theorem lenF_lt (f : List UInt8) : lenF f < 65536 := by
  have h := beN_lt ((f.drop 4).take 2)
  have h2 : ((f.drop 4).take 2).length ≤ 2 := by rw [List.length_take]; omega
  have h3 : 256 ^ ((f.drop 4).take 2).length ≤ 256 ^ 2 := Nat.pow_le_pow_right (by omega) h2
  unfold lenF; omega

theorem drop_app {α : Type} (a b : List α) (k : Nat) (h : a.length = k) : (a ++ b).drop k = b := by subst h; simp
theorem take_app {α : Type} (a b : List α) (k : Nat) (h : a.length = k) : (a ++ b).take k = a := by subst h; simp
theorem drop_past {α : Type} (a b : List α) (k n : Nat) (h : a.length = k) (hn : k ≤ n) : (a ++ b).drop n = b.drop (n - k) := by
  subst h
  obtain ⟨m, rfl⟩ : ∃ m, n = a.length + m := ⟨n - a.length, by omega⟩
  rw [← List.drop_drop, drop_app a b _ rfl]; congr 1; omega

theorem lenF_frm {size : Nat} {s : List UInt8} (hs : s.length < 65536) : lenF (frm size s) = s.length := by
  unfold lenF frm bod
  rw [drop_app _ _ 4 (be_length _ _), take_app _ _ 2 (be_length _ _), beN_be 2 _ (by omega)]
theorem txtF_frm {size : Nat} {s : List UInt8} (hs : s.length < 65536) : txtF (frm size s) = s := by
  unfold txtF
  rw [lenF_frm hs]
  unfold frm bod
  rw [drop_past _ _ 4 6 (be_length _ _) (by omega), drop_app _ _ 2 (be_length _ _), take_app _ _ _ rfl]
theorem unfE_frm {size : Nat} {s : List UInt8} (h : s.length + 6 ≤ size) (hs : s.length < 65536) : unfE (frm size s) = 0 := by
  unfold unfE
  rw [lenF_frm hs, txtF_frm hs, frm_length h, if_pos h, if_pos rfl]
theorem unfS_frm {size : Nat} {s : List UInt8} (h : s.length + 6 ≤ size) (hs : s.length < 65536) : unfS (frm size s) = s := by
  rw [unfS, if_pos (unfE_frm h hs), txtF_frm hs]

/-- What the program asks of a frame is what the document does. -/
theorem frm_iff {f : List UInt8} (h6 : 6 ≤ f.length) (hn : lenF f + 6 ≤ f.length) :
    f = frm f.length (txtF f) ↔ (beN (f.take 4) = moreN 0 (f.drop 4) ∧ f.drop (6 + lenF f) = zs (f.length - 6 - lenF f)) := by
  have hb : ((f.drop 4).take 2).length = 2 := by rw [List.length_take, List.length_drop]; omega
  have ha : (f.take 4).length = 4 := by rw [List.length_take]; omega
  have ht : (txtF f).length = lenF f := by unfold txtF; rw [List.length_take, List.length_drop]; omega
  have h2 : be 2 (lenF f) = (f.drop 4).take 2 := be_beN 2 _ hb
  have e4 : f.drop 4 = (f.drop 4).take 2 ++ (txtF f ++ f.drop (6 + lenF f)) := by
    have e1 : (f.drop 4).drop 2 = f.drop 6 := by rw [List.drop_drop]
    have e2 : f.drop 6 = txtF f ++ f.drop (6 + lenF f) := by
      unfold txtF
      rw [← List.drop_drop, List.take_append_drop]
    rw [← e2, ← e1, List.take_append_drop]
  have ef : f = f.take 4 ++ f.drop 4 := (List.take_append_drop 4 f).symm
  have hlt : moreN 0 (f.drop 4) < 256 ^ 4 := moreN_lt _ _ (by decide)
  constructor
  · intro h
    have hbod : f.drop 4 = bod f.length (txtF f) := by
      conv => lhs; rw [h]
      exact drop_app _ _ 4 (be_length _ _)
    refine ⟨?_, ?_⟩
    · have h1 : f.take 4 = be 4 (moreN 0 (bod f.length (txtF f))) := by
        conv => lhs; rw [h]
        exact take_app _ _ 4 (be_length _ _)
      rw [h1, ← hbod, beN_be 4 _ hlt]
    · have h3 : f.drop (6 + lenF f) = (bod f.length (txtF f)).drop (2 + lenF f) := by
        rw [← hbod, List.drop_drop]; congr 1; omega
      rw [h3]
      unfold bod
      rw [drop_past _ _ 2 _ (be_length _ _) (by omega), show 2 + lenF f - 2 = lenF f by omega, drop_app _ _ _ ht, ht]
  · rintro ⟨h1, h3⟩
    have hbod : bod f.length (txtF f) = f.drop 4 := by
      conv => rhs; rw [e4, h3]
      unfold bod
      rw [ht, h2]
    have hsum : be 4 (moreN 0 (f.drop 4)) = f.take 4 := by rw [← h1]; exact be_beN 4 _ ha
    unfold frm
    rw [hbod, hsum]
    exact ef

/-- With one byte turned a frame is none any more. -/
theorem run_turned (r : Nat) (hr : r < 4294967296) (pre post : List UInt8) (a b : UInt8) (h : crcRun r (pre ++ a :: post) = crcRun r (pre ++ b :: post)) : a = b := by
  rw [crcRun_append, crcRun_append, crcRun_cons, crcRun_cons] at h
  have hR := crcRun_lt pre r hr
  have ha := a.toNat_lt
  have hb := b.toNat_lt
  have h2 := crcRun_inj (stepN_lt _ _ hR ha) (stepN_lt _ _ hR hb) h
  unfold stepN at h2
  have h3 := shn_inj (xor_lt32 hR (by omega)) (xor_lt32 hR (by omega)) h2
  have h4 : a.toNat = b.toNat := by
    rw [Nat.xor_comm, Nat.xor_comm (crcRun r pre)] at h3
    exact xor_cancel h3
  exact UInt8.toNat_inj.1 h4
theorem more_turned (pre post : List UInt8) (a b : UInt8) (h : moreN 0 (pre ++ a :: post) = moreN 0 (pre ++ b :: post)) : a = b := by
  unfold moreN at h
  have h2 : crcRun (4294967295 ^^^ 0) (pre ++ a :: post) = crcRun (4294967295 ^^^ 0) (pre ++ b :: post) := by
    rw [Nat.xor_comm 4294967295, Nat.xor_comm 4294967295 (crcRun _ (pre ++ b :: post))] at h
    exact xor_cancel h
  exact run_turned _ (by decide) pre post a b h2

/-- Two frames that differ in one byte at most are the same. -/
theorem frm_turned {f g : List UInt8} (hf : f = frm f.length (txtF f)) (hg : g = frm g.length (txtF g)) (i : Nat) (c : UInt8) (hi : i < f.length) (hfg : g = f.set i c) : g = f := by
  have hl : g.length = f.length := by rw [hfg, List.length_set]
  have df : f = be 4 (moreN 0 (f.drop 4)) ++ f.drop 4 := by
    have : f.drop 4 = bod f.length (txtF f) := by
      conv => lhs; rw [hf]
      exact drop_app _ _ 4 (be_length _ _)
    rw [this]; exact hf
  have dg : g = be 4 (moreN 0 (g.drop 4)) ++ g.drop 4 := by
    have : g.drop 4 = bod g.length (txtF g) := by
      conv => lhs; rw [hg]
      exact drop_app _ _ 4 (be_length _ _)
    rw [this]; exact hg
  by_cases h4 : i < 4
  · have e : g.drop 4 = f.drop 4 := by
      rw [hfg]
      exact List.drop_set_of_lt h4
    rw [dg, e, ← df]
  · have e1 : g.take 4 = f.take 4 := by
      rw [hfg, List.take_set_of_le (by omega)]
    have e2 : g.take 4 = be 4 (moreN 0 (g.drop 4)) := by
      conv => lhs; rw [dg]
      exact take_app _ _ 4 (be_length _ _)
    have e3 : f.take 4 = be 4 (moreN 0 (f.drop 4)) := by
      conv => lhs; rw [df]
      exact take_app _ _ 4 (be_length _ _)
    have e4 : moreN 0 (g.drop 4) = moreN 0 (f.drop 4) := be_inj (k := 4) (moreN_lt 0 _ (by decide)) (moreN_lt 0 _ (by decide)) (by rw [← e2, ← e3, e1])
    have hk : i - 4 < (f.drop 4).length := by rw [List.length_drop]; omega
    have e5 : g.drop 4 = (f.drop 4).set (i - 4) c := by
      rw [hfg, List.drop_set, if_neg (by omega)]
    have e6 : f.drop 4 = (f.drop 4).take (i - 4) ++ (f.drop 4)[i - 4] :: (f.drop 4).drop (i - 4 + 1) := by
      rw [← List.drop_eq_getElem_cons hk, List.take_append_drop]
    have e7 : (f.drop 4).set (i - 4) c = (f.drop 4).take (i - 4) ++ c :: (f.drop 4).drop (i - 4 + 1) := List.set_eq_take_append_cons_drop.trans (if_pos hk)
    rw [e5, e7] at e4
    conv at e4 => rhs; rw [e6]
    have e8 := more_turned _ _ _ _ e4
    rw [dg, e5, e7, e8, ← e6, ← df]

/-! stamped blocks -/
def sec (e q : Nat) (f : List UInt8) (i : Nat) : List UInt8 := be 4 e ++ be 4 q ++ (f.drop (56 * i)).take 56
def secs (e q : Nat) (f : List UInt8) : Nat → List UInt8
  | 0 => []
  | j + 1 => secs e q f j ++ sec e q f j
theorem sec_length {e q : Nat} {f : List UInt8} {i : Nat} (h : 56 * i + 56 ≤ f.length) : (sec e q f i).length = 64 := by
  simp only [sec, List.length_append, be_length, List.length_take, List.length_drop]; omega
theorem secs_length {e q : Nat} {f : List UInt8} : ∀ {j : Nat}, 56 * j ≤ f.length → (secs e q f j).length = 64 * j
  | 0, _ => rfl
  | j + 1, h => by rw [secs, List.length_append, secs_length (by omega), sec_length (by omega)]; omega
def stp (e q : Nat) (s : List UInt8) : List UInt8 := secs e q (frm 224 s) 4
theorem stp_length {e q : Nat} {s : List UInt8} (h : s.length ≤ 218) : (stp e q s).length = 256 := by
  unfold stp; rw [secs_length (by rw [frm_length (by omega)]; omega)]
def canS (e q : Int) : Bool := decide (1 ≤ e ∧ e ≤ 2147483647 ∧ 0 ≤ q ∧ q ≤ 2147483647)

/-- The sector i of a block. -/
def sct (b : List UInt8) (i : Nat) : List UInt8 := (b.drop (64 * i)).take 64
def hd8 (b : List UInt8) (i : Nat) : List UInt8 := (b.drop (64 * i)).take 8
def pc56 (b : List UInt8) (i : Nat) : List UInt8 := (b.drop (64 * i + 8)).take 56
def gat (b : List UInt8) : Nat → List UInt8
  | 0 => []
  | j + 1 => gat b j ++ pc56 b j
theorem gat_length {b : List UInt8} : ∀ {j : Nat}, 64 * j ≤ b.length → (gat b j).length = 56 * j
  | 0, _ => rfl
  | j + 1, h => by rw [gat, List.length_append, gat_length (by omega), pc56, List.length_take, List.length_drop]; omega
def same (b : List UInt8) : Bool := decide (hd8 b 1 = b.take 8 ∧ hd8 b 2 = b.take 8 ∧ hd8 b 3 = b.take 8)
def epo (b : List UInt8) : Nat := beN (b.take 4)
def num (b : List UInt8) : Nat := beN ((b.drop 4).take 4)
def rdR (b : List UInt8) : Int := if same b && canS (epo b) (num b) then unfE (gat b 4) else 5
def rdS (b : List UInt8) : List UInt8 := if rdR b = 0 then unfS (gat b 4) else []
def rdP (b : List UInt8) : Int := if rdR b = 0 then epo b else 0
def rdQ (b : List UInt8) : Int := if rdR b = 0 then num b else 0

theorem take4_lt (l : List UInt8) : beN (l.take 4) < 4294967296 := by
  have h := beN_lt (l.take 4)
  have h2 : (l.take 4).length ≤ 4 := by rw [List.length_take]; omega
  have h3 : 256 ^ (l.take 4).length ≤ 256 ^ 4 := Nat.pow_le_pow_right (by omega) h2
  omega

/-- A block as its four sectors. -/
def four (c : Nat → List UInt8) : List UInt8 := c 0 ++ c 1 ++ c 2 ++ c 3
theorem four_length {c : Nat → List UInt8} (h : ∀ i, i < 4 → (c i).length = 64) : (four c).length = 256 := by
  simp only [four, List.length_append, h 0 (by omega), h 1 (by omega), h 2 (by omega), h 3 (by omega)]
theorem sct_four {c : Nat → List UInt8} (h : ∀ i, i < 4 → (c i).length = 64) : ∀ i, i < 4 → ∃ r, (four c).drop (64 * i) = c i ++ r := by
  intro i hi
  have h0 := h 0 (by omega)
  have h1 := h 1 (by omega)
  have h2 := h 2 (by omega)
  unfold four
  rw [List.append_assoc, List.append_assoc]
  match i, hi with
  | 0, _ => exact ⟨_, rfl⟩
  | 1, _ => exact ⟨_, by rw [show 64 * 1 = 64 from rfl, drop_app _ _ 64 h0]⟩
  | 2, _ => exact ⟨_, by rw [show 64 * 2 = 128 from rfl, drop_past _ _ 64 128 h0 (by omega), drop_app _ _ 64 h1]⟩
  | 3, _ => exact ⟨[], by rw [show 64 * 3 = 192 from rfl, drop_past _ _ 64 192 h0 (by omega), drop_past _ _ 64 _ h1 (by omega), drop_app _ _ 64 h2, List.append_nil]⟩
theorem hd8_four {c : Nat → List UInt8} (h : ∀ i, i < 4 → (c i).length = 64) (i : Nat) (hi : i < 4) : hd8 (four c) i = (c i).take 8 := by
  obtain ⟨r, hr⟩ := sct_four h i hi
  rw [hd8, hr, List.take_append_of_le_length (by rw [h i hi]; omega)]
theorem pc56_four {c : Nat → List UInt8} (h : ∀ i, i < 4 → (c i).length = 64) (i : Nat) (hi : i < 4) : pc56 (four c) i = (c i).drop 8 := by
  obtain ⟨r, hr⟩ := sct_four h i hi
  rw [pc56, ← List.drop_drop, hr, List.drop_append_of_le_length (by rw [h i hi]; omega), List.take_append_of_le_length (by rw [List.length_drop, h i hi]; omega), List.take_of_length_le (by rw [List.length_drop, h i hi]; omega)]
theorem gat_four {c : Nat → List UInt8} (h : ∀ i, i < 4 → (c i).length = 64) : gat (four c) 4 = (c 0).drop 8 ++ (c 1).drop 8 ++ (c 2).drop 8 ++ (c 3).drop 8 := by
  simp only [gat, List.nil_append]
  rw [pc56_four h 0 (by omega), pc56_four h 1 (by omega), pc56_four h 2 (by omega), pc56_four h 3 (by omega)]
theorem take8_four {c : Nat → List UInt8} (h : ∀ i, i < 4 → (c i).length = 64) : (four c).take 8 = (c 0).take 8 := by
  have := hd8_four h 0 (by omega)
  simpa [hd8] using this
theorem stp_four (e q : Nat) (s : List UInt8) : stp e q s = four (sec e q (frm 224 s)) := by simp [stp, four, secs]
theorem sec_head (e q : Nat) (f : List UInt8) (i : Nat) : (sec e q f i).take 8 = be 4 e ++ be 4 q := by
  unfold sec
  exact take_app _ _ 8 (by simp [be_length])
theorem sec_piece (e q : Nat) (f : List UInt8) (i : Nat) : (sec e q f i).drop 8 = (f.drop (56 * i)).take 56 := by
  unfold sec
  exact drop_app _ _ 8 (by simp [be_length])
theorem pieces {f : List UInt8} (h : f.length = 224) : (f.drop (56 * 0)).take 56 ++ (f.drop (56 * 1)).take 56 ++ (f.drop (56 * 2)).take 56 ++ (f.drop (56 * 3)).take 56 = f := by
  have e3 : (f.drop 168).take 56 = f.drop 168 := List.take_of_length_le (by rw [List.length_drop]; omega)
  have e2 : f.drop 168 = (f.drop 112).drop 56 := by rw [List.drop_drop]
  have e1 : f.drop 112 = (f.drop 56).drop 56 := by rw [List.drop_drop]
  show (f.drop 0).take 56 ++ (f.drop 56).take 56 ++ (f.drop 112).take 56 ++ (f.drop 168).take 56 = f
  rw [e3, e2, List.append_assoc, List.append_assoc, List.take_append_drop, e1, List.take_append_drop, List.drop_zero, List.take_append_drop]
/-- The numbers of a block whose first sector opens with them. -/
theorem nums_of {b : List UInt8} {e q : Nat} (he : e < 4294967296) (hq : q < 4294967296) (h : b.take 8 = be 4 e ++ be 4 q) : epo b = e ∧ num b = q := by
  have h4 : b.take 4 = be 4 e := by
    have : (b.take 8).take 4 = be 4 e := by rw [h]; exact take_app _ _ 4 (be_length _ _)
    rw [List.take_take] at this
    simpa using this
  have h5 : (b.drop 4).take 4 = be 4 q := by
    have : (b.take 8).drop 4 = be 4 q := by rw [h]; exact drop_app _ _ 4 (be_length _ _)
    rw [List.drop_take] at this
    simpa using this
  exact ⟨by rw [epo, h4, beN_be 4 e he], by rw [num, h5, beN_be 4 q hq]⟩
theorem read_stp {e q : Nat} {s : List UInt8} (hs : s.length ≤ 218) (hc : canS e q = true) : rdR (stp e q s) = 0 ∧ rdS (stp e q s) = s ∧ rdP (stp e q s) = e ∧ rdQ (stp e q s) = q := by
  have hf : (frm 224 s).length = 224 := frm_length (by omega)
  have hl : ∀ i, i < 4 → (sec e q (frm 224 s) i).length = 64 := fun i hi => sec_length (by rw [hf]; omega)
  have hc2 := hc
  simp only [canS, decide_eq_true_eq] at hc2
  have h8 : (stp e q s).take 8 = be 4 e ++ be 4 q := by rw [stp_four, take8_four hl, sec_head]
  obtain ⟨n1, n2⟩ := nums_of (by omega) (by omega) h8
  have hsame : same (stp e q s) = true := by
    simp only [same, decide_eq_true_eq]
    rw [h8, stp_four, hd8_four hl 1 (by omega), hd8_four hl 2 (by omega), hd8_four hl 3 (by omega), sec_head, sec_head, sec_head]
    exact ⟨rfl, rfl, rfl⟩
  have hg : gat (stp e q s) 4 = frm 224 s := by
    rw [stp_four, gat_four hl, sec_piece, sec_piece, sec_piece, sec_piece]
    exact pieces hf
  have hr : rdR (stp e q s) = 0 := by
    rw [rdR, hsame, n1, n2, hc, hg]
    exact unfE_frm (by omega) (by omega)
  refine ⟨hr, ?_, ?_, ?_⟩
  · rw [rdS, if_pos hr, hg, unfS_frm (by omega) (by omega)]
  · rw [rdP, if_pos hr, n1]
  · rw [rdQ, if_pos hr, n2]
end Go.Proofs.YthdcmobnookhdaaDoor
