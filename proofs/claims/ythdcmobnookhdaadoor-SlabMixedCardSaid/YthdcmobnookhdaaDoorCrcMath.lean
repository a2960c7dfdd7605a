/-
  The sum of 32 bits as plain numbers: the register's shift, its linearity and that it can be undone; the two tables; digits. Nothing of the program is named here.
-/
import Derived.Laws.BitsAllLaws
namespace Go.Proofs.YthdcmobnookhdaaDoor
set_option linter.unusedVariables false

/-- One shift of the register. -/
def sh (r : Nat) : Nat := if r % 2 = 1 then r / 2 ^^^ 2197175160 else r / 2
def shn : Nat → Nat → Nat
  | 0, r => r
  | k + 1, r => shn k (sh r)
/-- A byte goes into the register. -/
def stepN (r b : Nat) : Nat := shn 8 (r ^^^ b)
def crcRun (r : Nat) (l : List UInt8) : Nat := l.foldl (fun r b => stepN r b.toNat) r
/-- The sum of bytes behind bytes whose sum is s. -/
def moreN (s : Nat) (l : List UInt8) : Nat := 4294967295 ^^^ crcRun (4294967295 ^^^ s) l

theorem sh_xor (a b : Nat) : sh (a ^^^ b) = sh a ^^^ sh b := by
  have h1 : (a ^^^ b) / 2 = a / 2 ^^^ b / 2 := Nat.xor_div_two
  have h2 : (a ^^^ b) % 2 = a % 2 ^^^ b % 2 := Nat.xor_mod_two_pow (n := 1)
  unfold sh
  rw [h1, h2]
  rcases Nat.mod_two_eq_zero_or_one a with ha | ha <;> rcases Nat.mod_two_eq_zero_or_one b with hb | hb <;> rw [ha, hb]
  · simp
  · simp [Nat.xor_assoc]
  · simp only [Nat.xor_zero, if_true, Nat.zero_ne_one, if_false]
    ac_rfl
  · simp only [Nat.xor_self, if_true, Nat.zero_ne_one, if_false]
    rw [show (a / 2 ^^^ 2197175160) ^^^ (b / 2 ^^^ 2197175160) = (a / 2 ^^^ b / 2) ^^^ (2197175160 ^^^ 2197175160) by ac_rfl]
    simp
theorem shn_xor (k a b : Nat) : shn k (a ^^^ b) = shn k a ^^^ shn k b := by
  induction k generalizing a b with
  | zero => rfl
  | succ k ih => simp only [shn]; rw [sh_xor, ih]
theorem shn_add (j k r : Nat) : shn (j + k) r = shn k (shn j r) := by
  induction j generalizing r with
  | zero => simp [shn]
  | succ j ih => rw [Nat.succ_add]; simp only [shn]; exact ih _
theorem shn_shift (k m : Nat) : shn k (2 ^ k * m) = m := by
  induction k with
  | zero => simp [shn]
  | succ k ih =>
    have h : sh (2 ^ (k + 1) * m) = 2 ^ k * m := by
      have e : 2 ^ (k + 1) * m = 2 * (2 ^ k * m) := by rw [Nat.pow_succ]; ac_rfl
      rw [e]; unfold sh
      rw [if_neg (by omega)]; omega
    simp only [shn]; rw [h, ih]
theorem sh_lt (r : Nat) (h : r < 4294967296) : sh r < 4294967296 := by
  unfold sh
  split
  · exact Nat.xor_lt_two_pow (n := 32) (by omega) (by decide)
  · omega
theorem shn_lt (k r : Nat) (h : r < 4294967296) : shn k r < 4294967296 := by
  induction k generalizing r with
  | zero => exact h
  | succ k ih => exact ih _ (sh_lt r h)
theorem xor_lt32 {a b : Nat} (ha : a < 4294967296) (hb : b < 4294967296) : a ^^^ b < 4294967296 := Nat.xor_lt_two_pow (n := 32) ha hb
theorem stepN_lt (r b : Nat) (h : r < 4294967296) (hb : b < 256) : stepN r b < 4294967296 := shn_lt _ _ (xor_lt32 h (by omega))
theorem crcRun_lt (l : List UInt8) (r : Nat) (h : r < 4294967296) : crcRun r l < 4294967296 := by
  induction l generalizing r with
  | nil => exact h
  | cons b l ih => exact ih _ (stepN_lt _ _ h b.toNat_lt)
theorem moreN_lt (s : Nat) (l : List UInt8) (h : s < 4294967296) : moreN s l < 4294967296 := xor_lt32 (by decide) (crcRun_lt _ _ (xor_lt32 (by decide) h))
theorem crcRun_nil (r : Nat) : crcRun r [] = r := rfl
theorem crcRun_cons (r : Nat) (b : UInt8) (l : List UInt8) : crcRun r (b :: l) = crcRun (stepN r b.toNat) l := rfl
theorem crcRun_append (r : Nat) (a b : List UInt8) : crcRun r (a ++ b) = crcRun (crcRun r a) b := by simp [crcRun, List.foldl_append]
theorem not_not32 (x : Nat) : 4294967295 ^^^ (4294967295 ^^^ x) = x := by rw [← Nat.xor_assoc]; simp
theorem moreN_moreN (s : Nat) (a b : List UInt8) : moreN (moreN s a) b = moreN s (a ++ b) := by
  unfold moreN; rw [not_not32, crcRun_append]
theorem moreN_nil (s : Nat) : moreN s [] = s := not_not32 s

/-! the shift can be undone -/
theorem xor_cancel {a b c : Nat} (h : a ^^^ c = b ^^^ c) : a = b := by
  have h2 : (a ^^^ c) ^^^ c = (b ^^^ c) ^^^ c := by rw [h]
  simpa [Nat.xor_assoc] using h2
theorem half_xor_big (x : Nat) (h : x < 2147483648) : 2147483648 ≤ x ^^^ 2197175160 := by
  have h1 : (x ^^^ 2197175160) / 2 ^ 31 = x / 2 ^ 31 ^^^ 2197175160 / 2 ^ 31 := Nat.xor_div_two_pow
  have h2 : x / 2 ^ 31 = 0 := by omega
  rw [h2] at h1
  have h3 : (2197175160 : Nat) / 2 ^ 31 = 1 := by decide
  rw [h3] at h1
  simp at h1
  omega
theorem sh_inj {a b : Nat} (ha : a < 4294967296) (hb : b < 4294967296) (h : sh a = sh b) : a = b := by
  unfold sh at h
  have ka := half_xor_big (a / 2) (by omega)
  have kb := half_xor_big (b / 2) (by omega)
  by_cases pa : a % 2 = 1 <;> by_cases pb : b % 2 = 1
  · rw [if_pos pa, if_pos pb] at h
    have := xor_cancel h
    omega
  · rw [if_pos pa, if_neg pb] at h; omega
  · rw [if_neg pa, if_pos pb] at h; omega
  · rw [if_neg pa, if_neg pb] at h; omega
theorem shn_inj {k a b : Nat} (ha : a < 4294967296) (hb : b < 4294967296) (h : shn k a = shn k b) : a = b := by
  induction k generalizing a b with
  | zero => exact h
  | succ k ih => exact sh_inj ha hb (ih (sh_lt _ ha) (sh_lt _ hb) h)
theorem crcRun_inj {l : List UInt8} {r s : Nat} (hr : r < 4294967296) (hs : s < 4294967296) (h : crcRun r l = crcRun s l) : r = s := by
  induction l generalizing r s with
  | nil => exact h
  | cons b l ih =>
    have hb := b.toNat_lt
    have := ih (stepN_lt _ _ hr hb) (stepN_lt _ _ hs hb) h
    exact xor_cancel (shn_inj (xor_lt32 hr (by omega)) (xor_lt32 hs (by omega)) this)

/-! the tables -/
def lowT : List Nat := [0, 4067132163, 3778769143, 324072436, 3348797215, 904991772, 648144872, 3570033899, 2329499855, 2024987596, 1809983544, 2575936315, 1296289744, 3207089363, 2893594407, 1578318884]
def highT : List Nat := [0, 274646895, 549293790, 820201905, 1098587580, 1361435347, 1640403810, 1905808397, 2197175160, 2460548119, 2722870694, 2987750089, 3280807620, 3553878443, 3811616794, 4084100981]
theorem table_all : (List.range 256).all (fun t => shn 8 t == (lowT.getD (t % 16) 0 ^^^ highT.getD (t / 16 % 16) 0)) = true := by decide +kernel
theorem table_at (t : Nat) (h : t < 256) : shn 8 t = lowT.getD (t % 16) 0 ^^^ highT.getD (t / 16 % 16) 0 := by
  have := List.all_eq_true.1 table_all t (List.mem_range.2 h)
  simpa using this
theorem lowT_lt (j : Nat) : lowT.getD j 0 < 4294967296 := by
  have h : lowT.all (fun x => decide (x < 4294967296)) = true := by decide
  by_cases hj : j < lowT.length
  · rw [List.getD_eq_getElem?_getD, List.getElem?_eq_getElem hj]
    simpa using List.all_eq_true.1 h _ (List.getElem_mem hj)
  · rw [List.getD_eq_getElem?_getD, List.getElem?_eq_none (by omega)]; decide
theorem highT_lt (j : Nat) : highT.getD j 0 < 4294967296 := by
  have h : highT.all (fun x => decide (x < 4294967296)) = true := by decide
  by_cases hj : j < highT.length
  · rw [List.getD_eq_getElem?_getD, List.getElem?_eq_getElem hj]
    simpa using List.all_eq_true.1 h _ (List.getElem_mem hj)
  · rw [List.getD_eq_getElem?_getD, List.getElem?_eq_none (by omega)]; decide
theorem shn8_split (t : Nat) : shn 8 t = t / 256 ^^^ shn 8 (t % 256) := by
  have e : t = 2 ^ 8 * (t / 256) ^^^ t % 256 := by
    have h1 := Nat.two_pow_add_eq_or_of_lt (i := 8) (b := t % 256) (by omega) (t / 256)
    have h2 : 2 ^ 8 * (t / 256) ^^^ t % 256 = 2 ^ 8 * (t / 256) ||| t % 256 := by
      apply Nat.eq_of_testBit_eq
      intro i
      simp only [Nat.testBit_xor, Nat.testBit_or, Nat.testBit_two_pow_mul]
      by_cases hi : 8 ≤ i
      · have : (t % 256).testBit i = false := Nat.testBit_lt_two_pow (Nat.lt_of_lt_of_le (show t % 256 < 2 ^ 8 by omega) (Nat.pow_le_pow_right (by decide) hi))
        simp [this]
      · simp [hi]
    rw [h2, ← h1]
    omega
  conv => lhs; rw [e]
  rw [shn_xor, shn_shift]
/-- What the program does with a byte is the step. -/
theorem step_table (r b : Nat) (hb : b < 256) : r / 256 ^^^ lowT.getD ((r ^^^ b) % 16) 0 ^^^ highT.getD ((r ^^^ b) / 16 % 16) 0 = stepN r b := by
  have h1 : (r ^^^ b) / 256 = r / 256 := by
    have h : (r ^^^ b) / 2 ^ 8 = r / 2 ^ 8 ^^^ b / 2 ^ 8 := Nat.xor_div_two_pow
    rw [show b / 2 ^ 8 = 0 by omega, Nat.xor_zero] at h
    exact h
  unfold stepN
  rw [shn8_split, h1, table_at _ (Nat.mod_lt _ (by decide)), Nat.xor_assoc]
  congr 2
  · rw [Nat.mod_mod_of_dvd _ (by decide)]
  · have : (r ^^^ b) % 256 / 16 % 16 = (r ^^^ b) / 16 % 16 := by omega
    rw [this]

/-! bytes that are turned -/
theorem stepN_xor (r s b c : Nat) : stepN (r ^^^ s) (b ^^^ c) = stepN r b ^^^ stepN s c := by
  unfold stepN
  rw [← shn_xor]
  congr 1
  ac_rfl
theorem four_ne (e0 e1 e2 e3 : Nat) (h0 : e0 < 256) (h1 : e1 < 256) (h2 : e2 < 256) (h3 : e3 < 256) (hne : ¬ (e0 = 0 ∧ e1 = 0 ∧ e2 = 0 ∧ e3 = 0)) :
    stepN (stepN (stepN (stepN 0 e0) e1) e2) e3 ≠ 0 := by
  have s1 : ∀ x e : Nat, e < 256 → stepN x e = shn 8 (x ^^^ e) := fun _ _ _ => rfl
  have c8 : ∀ e : Nat, e = shn 8 (256 * e) := fun e => (shn_shift 8 e).symm
  have c16 : ∀ e : Nat, e = shn 16 (65536 * e) := fun e => (shn_shift 16 e).symm
  have c24 : ∀ e : Nat, e = shn 24 (16777216 * e) := fun e => (shn_shift 24 e).symm
  have t1 : stepN 0 e0 = shn 8 e0 := by simp [stepN]
  have t2 : stepN (stepN 0 e0) e1 = shn 16 (e0 ^^^ 256 * e1) := by
    rw [t1]; unfold stepN
    conv => lhs; rw [c8 e1]
    rw [← shn_xor, ← shn_add]
  have t3 : stepN (stepN (stepN 0 e0) e1) e2 = shn 24 (e0 ^^^ 256 * e1 ^^^ 65536 * e2) := by
    rw [t2]; unfold stepN
    conv => lhs; rw [c16 e2]
    rw [← shn_xor, ← shn_add]
  have t4 : stepN (stepN (stepN (stepN 0 e0) e1) e2) e3 = shn 32 (e0 ^^^ 256 * e1 ^^^ 65536 * e2 ^^^ 16777216 * e3) := by
    rw [t3]; unfold stepN
    conv => lhs; rw [c24 e3]
    rw [← shn_xor, ← shn_add]
  rw [t4]
  intro hz
  have z0 : shn 32 0 = 0 := by decide
  have hX := shn_inj (k := 32) (xor_lt32 (xor_lt32 (xor_lt32 (by omega) (by omega)) (by omega)) (by omega)) (by decide) (hz.trans z0.symm)
  have m8 : (e0 ^^^ 256 * e1 ^^^ 65536 * e2 ^^^ 16777216 * e3) % 2 ^ 8 = e0 := by
    rw [Nat.xor_mod_two_pow, Nat.xor_mod_two_pow, Nat.xor_mod_two_pow, show 256 * e1 % 2 ^ 8 = 0 by omega, show 65536 * e2 % 2 ^ 8 = 0 by omega, show 16777216 * e3 % 2 ^ 8 = 0 by omega, show e0 % 2 ^ 8 = e0 by omega]
    simp
  rw [hX] at m8
  have E0 : e0 = 0 := by omega
  subst E0
  rw [Nat.zero_xor] at hX
  have m16 : (256 * e1 ^^^ 65536 * e2 ^^^ 16777216 * e3) % 2 ^ 16 = 256 * e1 := by
    rw [Nat.xor_mod_two_pow, Nat.xor_mod_two_pow, show 65536 * e2 % 2 ^ 16 = 0 by omega, show 16777216 * e3 % 2 ^ 16 = 0 by omega, show 256 * e1 % 2 ^ 16 = 256 * e1 by omega]
    simp
  rw [hX] at m16
  have E1 : e1 = 0 := by omega
  subst E1
  rw [Nat.mul_zero, Nat.zero_xor] at hX
  have m24 : (65536 * e2 ^^^ 16777216 * e3) % 2 ^ 24 = 65536 * e2 := by
    rw [Nat.xor_mod_two_pow, show 16777216 * e3 % 2 ^ 24 = 0 by omega, show 65536 * e2 % 2 ^ 24 = 65536 * e2 by omega]
    simp
  rw [hX] at m24
  have E2 : e2 = 0 := by omega
  subst E2
  rw [Nat.mul_zero, Nat.zero_xor] at hX
  exact hne ⟨rfl, rfl, rfl, by omega⟩
theorem turned_ne (s : Nat) (hs : s < 4294967296) (pre post : List UInt8) (a0 a1 a2 a3 b0 b1 b2 b3 : UInt8) (e0 e1 e2 e3 : Nat) (h0 : e0 < 256) (h1 : e1 < 256) (h2 : e2 < 256) (h3 : e3 < 256) (hne : ¬ (e0 = 0 ∧ e1 = 0 ∧ e2 = 0 ∧ e3 = 0))
    (k0 : b0.toNat = a0.toNat ^^^ e0) (k1 : b1.toNat = a1.toNat ^^^ e1) (k2 : b2.toNat = a2.toNat ^^^ e2) (k3 : b3.toNat = a3.toNat ^^^ e3) :
    moreN s (pre ++ b0 :: b1 :: b2 :: b3 :: post) ≠ moreN s (pre ++ a0 :: a1 :: a2 :: a3 :: post) := by
  unfold moreN
  intro h
  have h' : crcRun (4294967295 ^^^ s) (pre ++ b0 :: b1 :: b2 :: b3 :: post) = crcRun (4294967295 ^^^ s) (pre ++ a0 :: a1 :: a2 :: a3 :: post) := xor_cancel (by rw [Nat.xor_comm, h, Nat.xor_comm])
  rw [crcRun_append, crcRun_append] at h'
  have hR := crcRun_lt pre (4294967295 ^^^ s) (xor_lt32 (by decide) hs)
  generalize crcRun (4294967295 ^^^ s) pre = R at h' hR
  simp only [crcRun_cons] at h'
  have lt4 : ∀ x0 x1 x2 x3 : UInt8, stepN (stepN (stepN (stepN R x0.toNat) x1.toNat) x2.toNat) x3.toNat < 4294967296 := fun x0 x1 x2 x3 => stepN_lt _ _ (stepN_lt _ _ (stepN_lt _ _ (stepN_lt _ _ hR x0.toNat_lt) x1.toNat_lt) x2.toNat_lt) x3.toNat_lt
  have h'' := crcRun_inj (lt4 b0 b1 b2 b3) (lt4 a0 a1 a2 a3) h'
  rw [k0, k1, k2, k3] at h''
  have e : stepN (stepN (stepN (stepN R (a0.toNat ^^^ e0)) (a1.toNat ^^^ e1)) (a2.toNat ^^^ e2)) (a3.toNat ^^^ e3) = stepN (stepN (stepN (stepN R a0.toNat) a1.toNat) a2.toNat) a3.toNat ^^^ stepN (stepN (stepN (stepN 0 e0) e1) e2) e3 := by
    rw [← stepN_xor, ← stepN_xor, ← stepN_xor, ← stepN_xor, Nat.xor_zero]
  rw [e] at h''
  refine four_ne e0 e1 e2 e3 h0 h1 h2 h3 hne ?_
  refine xor_cancel (c := stepN (stepN (stepN (stepN R a0.toNat) a1.toNat) a2.toNat) a3.toNat) ?_
  rw [Nat.zero_xor, Nat.xor_comm]
  exact h''

/-! digits -/
def hexd (d : Nat) : UInt8 := UInt8.ofNat (if d < 10 then 48 + d else 87 + d)
def hx : Nat → Nat → List UInt8
  | 0, _ => []
  | k + 1, n => hx k (n / 16) ++ [hexd (n % 16)]
theorem hx_length (k n : Nat) : (hx k n).length = k := by
  induction k generalizing n with
  | zero => rfl
  | succ k ih => simp [hx, ih]
theorem hx_cons (k n : Nat) : hx (k + 1) n = hexd (n / 16 ^ k % 16) :: hx k n := by
  induction k generalizing n with
  | zero => simp [hx]
  | succ k ih =>
    rw [hx, ih (n / 16)]
    simp only [List.cons_append, hx]
    congr 2
    rw [Nat.div_div_eq_div_mul, Nat.pow_succ]
    congr 2
    exact Nat.mul_comm _ _
/-- The number of a digit. -/
def dv (b : Nat) : Option Nat := if 48 ≤ b ∧ b ≤ 57 then some (b - 48) else if 97 ≤ b ∧ b ≤ 102 then some (b - 87) else none
theorem hexd_toNat (d : Nat) (h : d < 16) : (hexd d).toNat = if d < 10 then 48 + d else 87 + d := by
  unfold hexd
  split <;> rw [UInt8.toNat_ofNat'] <;> omega
theorem dv_hexd (d : Nat) (h : d < 16) : dv (hexd d).toNat = some d := by
  rw [hexd_toNat d h]
  unfold dv
  split
  · rw [if_pos (by omega)]; congr 1; omega
  · rw [if_neg (by omega), if_pos (by omega)]; congr 1; omega
theorem hexd_dv (b : UInt8) (d : Nat) (h : dv b.toNat = some d) : hexd d = b ∧ d < 16 := by
  unfold dv at h
  have hd : d < 16 := by
    split at h
    · injection h; omega
    · split at h
      · injection h; omega
      · cases h
  refine ⟨UInt8.toNat_inj.1 ?_, hd⟩
  rw [hexd_toNat d hd]
  split at h
  · injection h with h; split <;> omega
  · split at h
    · injection h with h; split <;> omega
    · cases h
def parseL : Nat → List UInt8 → Option Nat
  | acc, [] => some acc
  | acc, b :: l => (dv b.toNat).bind fun d => parseL (acc * 16 + d) l
def parse8 (l : List UInt8) : Option Nat := if l.length = 8 then parseL 0 l else none
theorem parseL_hx (k acc n : Nat) : parseL acc (hx k n) = some (acc * 16 ^ k + n % 16 ^ k) := by
  induction k generalizing acc with
  | zero => simp [hx, parseL, Nat.mod_one]
  | succ k ih =>
    rw [hx_cons, parseL, dv_hexd _ (Nat.mod_lt _ (by decide)), Option.bind_some, ih]
    congr 1
    rw [Nat.mod_pow_succ, Nat.pow_succ, Nat.add_mul]
    have : acc * 16 * 16 ^ k = acc * (16 ^ k * 16) := by ac_rfl
    rw [this, Nat.mul_comm (n / 16 ^ k % 16)]
    omega
theorem parse8_hx (n : Nat) (h : n < 4294967296) : parse8 (hx 8 n) = some n := by
  unfold parse8
  rw [if_pos (hx_length 8 n), parseL_hx]
  congr 1
  rw [Nat.zero_mul, Nat.zero_add]
  exact Nat.mod_eq_of_lt h
theorem hx_over (k c v : Nat) : hx k (c * 16 ^ k + v) = hx k v := by
  induction k generalizing c v with
  | zero => rfl
  | succ k ih =>
    have e : c * 16 ^ (k + 1) + v = c * 16 * 16 ^ k + v := by rw [Nat.pow_succ]; congr 1; ac_rfl
    rw [hx_cons, hx_cons, e, ih]
    congr 2
    have hp : 0 < 16 ^ k := Nat.pow_pos (by decide)
    rw [Nat.add_comm, Nat.add_mul_div_right _ _ hp]
    omega
theorem parseL_some (l : List UInt8) (acc y : Nat) (h : parseL acc l = some y) : ∃ v, v < 16 ^ l.length ∧ y = acc * 16 ^ l.length + v ∧ hx l.length v = l := by
  induction l generalizing acc with
  | nil => simp [parseL] at h; exact ⟨0, by simp, by simp [h], rfl⟩
  | cons b l ih =>
    rw [parseL] at h
    obtain ⟨d, hd, h⟩ := Option.bind_eq_some_iff.1 h
    obtain ⟨v, hv, hy, hl⟩ := ih _ h
    obtain ⟨hb, hd16⟩ := hexd_dv b d hd
    have hp : 0 < 16 ^ l.length := Nat.pow_pos (by decide)
    refine ⟨d * 16 ^ l.length + v, ?_, ?_, ?_⟩
    · rw [List.length_cons, Nat.pow_succ]
      have : d * 16 ^ l.length ≤ 15 * 16 ^ l.length := Nat.mul_le_mul_right _ (by omega)
      omega
    · rw [hy, List.length_cons, Nat.pow_succ, Nat.add_mul]
      have : acc * 16 * 16 ^ l.length = acc * (16 ^ l.length * 16) := by ac_rfl
      omega
    · rw [List.length_cons, hx_cons, hx_over, hl]
      congr 1
      rw [Nat.add_comm, Nat.add_mul_div_right _ _ hp, Nat.div_eq_of_lt hv, Nat.zero_add, Nat.mod_eq_of_lt hd16, hb]
theorem parse8_some (l : List UInt8) (y : Nat) (h : parse8 l = some y) : hx 8 y = l ∧ y < 4294967296 := by
  unfold parse8 at h
  split at h
  · rename_i h8
    obtain ⟨v, hv, hy, hl⟩ := parseL_some l 0 y h
    rw [h8] at hv hl
    have : y = v := by omega
    subst this
    exact ⟨hl, hv⟩
  · cases h
/-- A word is a sum's. -/
def isHex (l : List UInt8) : Bool := l.all (fun b => (dv b.toNat).isSome) && l.length == 8
theorem parseL_isSome (l : List UInt8) (acc : Nat) : (parseL acc l).isSome = l.all (fun b => (dv b.toNat).isSome) := by
  induction l generalizing acc with
  | nil => rfl
  | cons b l ih =>
    rw [parseL, List.all_cons]
    cases dv b.toNat with
    | none => rfl
    | some d => simp [ih]
theorem parse8_isSome (l : List UInt8) : (parse8 l).isSome = isHex l := by
  unfold parse8 isHex
  by_cases h : l.length = 8
  · rw [if_pos h, parseL_isSome, h]; simp
  · rw [if_neg h]; simp [h]
end Go.Proofs.YthdcmobnookhdaaDoor
