/-
  What the small functions of package pen do (isWidth, fits, number), said over whatever world.
-/
import Derived.Test.YtclaagihmpghnaaRows
import Derived.Test.YtclaagihmpghnaaBase
namespace Go.Proofs.Ytclaagihmpghnaa
open Go.RowKit
set_option maxRecDepth 4000
set_option linter.unusedVariables false

def isW (n : Int) : Bool := n == 1 || n == 2 || n == 4 || n == 8
theorem isW_iff (n : Int) : isW n = true ↔ n = 1 ∨ n = 2 ∨ n = 4 ∨ n = 8 := by simp [isW, or_assoc]

set_option maxHeartbeats 400000 in
theorem isWidth_any (n : Int) (w : World) :
    Calls Try.prog 110 #[.int .i64 n] w fun e w' => e = .returned (.bool (isW n)) ∧ w = w' := by
  by_cases h1 : n = 1
  · subst h1
    go_enter Try.func110, Try.ntmps110
    go_wp2
    go_ret
    exact ⟨rfl, rfl⟩
  · go_enter Try.func110, Try.ntmps110
    go_wp2
    all_goals go_ret
    all_goals exact ⟨by simp [isW, *], rfl⟩

/-- A number can be of that width. -/
def fitB (k : Nat) (n : Int) : Bool := decide (0 ≤ n ∧ n < 256 ^ k)

theorem div_eq_zero (n m : Int) (hm : 0 < m) (h0 : 0 ≤ n) : (n / m == 0) = decide (0 ≤ n ∧ n < m) := by
  rw [Bool.eq_iff_iff]
  simp only [beq_iff_eq, decide_eq_true_eq]
  constructor
  · intro h
    refine ⟨h0, ?_⟩
    have := Int.lt_ediv_add_one_mul_self n hm
    rw [h] at this
    omega
  · intro h
    exact Int.ediv_eq_zero_of_lt h.1 h.2

set_option maxHeartbeats 400000 in
theorem fits_any (k : Nat) (hk : k = 1 ∨ k = 2 ∨ k = 4 ∨ k = 8) (n : Int) (_h0 : -9223372036854775808 ≤ n) (h1 : n ≤ 9223372036854775807) (w : World) :
    Calls Try.prog 113 #[.int .i64 k, .int .i64 n] w fun e w' => e = .returned (.bool (fitB k n)) ∧ w = w' := by
  have e1 : fitB 1 n = decide (0 ≤ n ∧ n < 256) := rfl
  have e2 : fitB 2 n = decide (0 ≤ n ∧ n < 65536) := rfl
  have e4 : fitB 4 n = decide (0 ≤ n ∧ n < 4294967296) := rfl
  have e8 : fitB 8 n = decide (0 ≤ n) := by unfold fitB; congr 1; simp; omega
  by_cases hn : 0 ≤ n
  · have d1 := div_eq_zero n 256 (by omega) hn
    have d2 := div_eq_zero n 65536 (by omega) hn
    have d4 := div_eq_zero n 4294967296 (by omega) hn
    have D : Hid ((n / 256 == 0) = fitB 1 n ∧ (n / 65536 == 0) = fitB 2 n ∧ (n / 4294967296 == 0) = fitB 4 n ∧ true = fitB 8 n) :=
      ⟨d1.trans e1.symm, d2.trans e2.symm, d4.trans e4.symm, by rw [e8]; simp [hn]⟩
    clear e1 e2 e4 e8 d1 d2 d4
    rcases hk with rfl | rfl | rfl | rfl
    · go_enter Try.func113, Try.ntmps113
      go_wp2
      go_ret
      exact ⟨ret_bool D.out.1, rfl⟩
    · go_enter Try.func113, Try.ntmps113
      go_wp2
      go_ret
      exact ⟨ret_bool D.out.2.1, rfl⟩
    · go_enter Try.func113, Try.ntmps113
      go_wp2
      go_ret
      exact ⟨ret_bool D.out.2.2.1, rfl⟩
    · go_enter Try.func113, Try.ntmps113
      go_wp2
      go_ret
      exact ⟨ret_bool D.out.2.2.2, rfl⟩
  · have D : Hid (false = fitB k n) := by show false = fitB k n; simp [fitB, hn]
    clear e1 e2 e4 e8
    go_enter Try.func113, Try.ntmps113
    go_wp2
    go_ret
    exact ⟨ret_bool D.out, rfl⟩

/-- n's bytes of width k, the highest first. -/
def be : Nat → Nat → List UInt8
  | 0, _ => []
  | k + 1, n => be k (n / 256) ++ [UInt8.ofNat n]
theorem be_length (k n : Nat) : (be k n).length = k := by
  induction k generalizing n with
  | zero => rfl
  | succ k ih => simp [be, ih]

/-- What an Out at block p holds: the bytes bs; F: the blocks that are its own. -/
structure IsOut (w : World) (p : Nat) (F : Nat → Prop) (bs : List UInt8) : Prop where
  lt : ∀ k, F k → k < w.heap.size
  self : F p
  row : ∃ v, w.heap[p]? = some (.cells #[v] 129 (0, 0)) ∧ w.ownsRow 0 5 1 v bs.length (cellsOf bs) ∧ ∀ k, v.ownBlock = some k → k ≠ p ∧ F k

theorem info_u8 : (Try.prog.info? 5).map (fun i => (i.zero, i.size, i.bytes)) = some (some (.int .u8 0), 1, 1) := by kernel_rfl

/-- Behind an append and the store of what it gave. -/
theorem out_app {wr wa w' : World} {p : Nat} {F : Nat → Prop} {bs news : List UInt8} {v v' : Value} {cs : List Value} {n : Nat} (hout : IsOut wr p F bs) (hblk : wr.heap[p]? = some (.cells #[v] 129 (0, 0)))
    (hvb : ∀ k, v.ownBlock = some k → k ≠ p ∧ F k) (hwa : Step noF wr wa) (ho : w'.ownsRow 0 5 1 v' n cs) (hn : n = (bs ++ news).length) (hcs : cs = cellsOf (bs ++ news)) (hg : wa.grownBy w' v.ownBlock) (hfr : Fresh wa v v') :
    ∃ F', Step F wr (w'.setCell ⟨p, 0, none⟩ v') ∧ IsOut (w'.setCell ⟨p, 0, none⟩ v') p F' (bs ++ news) ∧ ∀ j, F' j → F j ∨ wr.heap.size ≤ j := by
  subst hn hcs
  have hpl : p < wr.heap.size := lt_of_block hblk
  have hne : some p ≠ v.ownBlock := fun e => (hvb p e.symm).1 rfl
  have hb2 : wa.heap[p]? = some (.cells #[v] 129 (0, 0)) := (hwa.block p hpl (fun h => h)).trans hblk
  have hb3 := grown_block hg hb2 hne
  have hne2 : v'.ownBlock ≠ some p := by
    rcases hfr with e | e
    · rw [e]; exact fun h => hne h.symm
    · intro h; have := e p h; have := hwa.size; omega
  refine ⟨fun k => k = p ∨ v'.ownBlock = some k, ?_, ⟨?_, .inl rfl, ⟨v', ?_, ?_, ?_⟩⟩, ?_⟩
  · exact ((hwa.mono (fun _ h => h.elim)).grown hg (fun k hk => .inl (hvb k hk).2)).setCell (.inl hout.self) _
  · intro k hk
    have e : (w'.setCell ⟨p, 0, none⟩ v').heap.size = w'.heap.size := by simp [World.setCell]
    rw [e]
    rcases hk with rfl | hk
    · exact lt_of_block hb3
    · exact (ho.lt k hk).2
  · simpa using block_setCell hb3 0 v'
  · exact owns_setCell ho _ hne2 _
  · intro k hk
    exact ⟨fun e => hne2 (by rw [← e]; exact hk), .inr hk⟩
  · intro j hj
    rcases hj with rfl | hj
    · exact .inl hout.self
    · rcases hfr with e | e
      · exact .inl (hvb j (by rw [← e]; exact hj)).2
      · exact .inr (Nat.le_trans hwa.size (e j hj))

theorem u8_wrap_div (n m : Nat) (hm : 0 < m) : IntKind.u8.wrap ((n : Int) / 2 ^ (8 * ((m : Int) - 1)).toNat) = ((UInt8.ofNat (n / 256 ^ (m - 1))).toNat : Int) := by
  have e1 : (8 * ((m : Int) - 1)).toNat = 8 * (m - 1) := by omega
  have e2 : (2 : Int) ^ (8 * (m - 1)) = ((256 ^ (m - 1) : Nat) : Int) := by rw [Int.pow_mul]; norm_cast
  rw [e1, e2, ← Int.natCast_ediv]
  simp [IntKind.wrap, IntKind.bits, IntKind.signed]

theorem be_step (j m n : Nat) (hm : 0 < m) : be j (n / 256 ^ m) ++ [UInt8.ofNat (n / 256 ^ (m - 1))] = be (j + 1) (n / 256 ^ (m - 1)) := by
  obtain ⟨q, rfl⟩ : ∃ q, m = q + 1 := ⟨m - 1, by omega⟩
  simp [be, Nat.div_div_eq_div_mul, Nat.pow_succ]

set_option maxHeartbeats 1000000 in
theorem number_any (k : Nat) (hk : k = 1 ∨ k = 2 ∨ k = 4 ∨ k = 8) (n : Nat) (h1 : n ≤ 9223372036854775807) (p : Nat) (F : Nat → Prop) (bs : List UInt8) (w : World) (ho : IsOut w p F bs) (hb : bs.length ≤ 1000000) :
    Calls Try.prog 114 #[.pointer (some ⟨p, 0, none⟩), .int .i64 k, .int .i64 n] w fun e w' => e = .returned (.tuple #[]) ∧
      ∃ F', Step F w w' ∧ IsOut w' p F' (bs ++ be k n) ∧ ∀ j, F' j → F j ∨ w.heap.size ≤ j := by
  have hk8 : (k : Int) ≤ 8 := by omega
  have hk1 : 1 ≤ (k : Int) := by omega
  go_enter Try.func114, Try.ntmps114
  go_wp2
  obtain ⟨i0, hi, hz0, hz1, hz2⟩ := info_parts info_u8
  go_loopw [6] (fun s wr => ∃ (j m : Nat) (F' : Nat → Prop), j + m = k ∧ s = .int .i64 (8 * ((m : Int) - 1)) ∧ Step F w wr ∧ IsOut wr p F' (bs ++ be j (n / 256 ^ m)) ∧ (∀ q, F' q → F q ∨ w.heap.size ≤ q)) (fun s _ => (intOf s + 8).toNat)
  case atStart => exact ⟨0, k, F, by omega, by go_num, Step.refl _ _, by simpa [be] using ho, fun q hq => .inl hq⟩
  case round =>
    obtain ⟨j, m, F', hjm, rfl, hst, hout, hF'⟩ := hrel
    by_cases hlt : 0 < m
    · obtain ⟨xs, hxs⟩ : ∃ xs, bs ++ be j (n / 256 ^ m) = xs := ⟨_, rfl⟩
      rw [hxs] at hout
      have hlen : xs.length = bs.length + j := by rw [← hxs]; simp [be_length]
      obtain ⟨v, hblk, hown, hvb⟩ := hout.row
      have hc := cell_of_block hblk 0
      have hf := frozen_of_block hblk 0
      simp at hc
      have hl1 : Hid (xs.length + 1 ≤ maxLen) := by show _ ≤ _; rw [hlen]; unfold maxLen; omega
      have hl2 : Hid ((xs.length + 1) * 1 ≤ 140737488355328) := by show _ ≤ _; rw [hlen]; omega
      have hx1 : Hid (∀ u ∈ [Value.int .u8 (IntKind.u8.wrap ((n : Int) / 2 ^ (8 * ((m : Int) - 1)).toNat))], u.oneCell' = true) := by intro u hu; simp at hu; subst hu; rfl
      have hne : Hid (some p ≠ v.ownBlock) := fun e => (hvb p e.symm).1 rfl
      have hpl : p < wr.heap.size := lt_of_block hblk
      have HB := hid hblk
      have HC : Hid (cellsOf xs ++ [Value.int .u8 (IntKind.u8.wrap ((n : Int) / 2 ^ (8 * ((m : Int) - 1)).toNat))] = cellsOf (xs ++ [UInt8.ofNat (n / 256 ^ (m - 1))])) := by
        show _ = _
        rw [u8_wrap_div n m hlt, cellsOf_append xs]; rfl
      have HE : Hid (xs ++ [UInt8.ofNat (n / 256 ^ (m - 1))] = bs ++ be (j + 1) (n / 256 ^ (m - 1))) := by
        show _ = _
        rw [← hxs, List.append_assoc, be_step j m n hlt]
      clear hlen hblk hxs
      go_wp2
      go_region_law (refine step_append_own rfl (.tmp 18) (.tmp 23) 127 rfl 5 i0 (.int .u8 0) 1 1 Try.underlying127 hi hz0 hz1 hz2 rfl (by decide) v _ _ (by simp [Act.eval]) (by exact hown.alloc _) ⟨wr.heap.size, 0, none⟩ 1 1 [Value.int .u8 (IntKind.u8.wrap ((n : Int) / 2 ^ (8 * ((m : Int) - 1)).toNat))] (by simp [Act.eval]) rfl (cell_one_new _ _ _) hx1.out hl1.out hl2.out ?_; intro v' w' ho' hg' hfr; have hb' := grown_block hg' (block_alloc_old HB.out _) hne.out; have hc' := cell_of_block hb' 0; have hf' := frozen_of_block hb' 0; have HB' := hid hb'; clear hb'; simp at hc'; obtain ⟨ao, cc, rfl⟩ := owns_form ho')
      all_goals go_wp2
      all_goals
        have hfin := out_app (news := [UInt8.ofNat (n / 256 ^ (m - 1))]) hout HB.out hvb (((Step.refl noF wr).alloc _).drew) ho' (by simp) HC.out hg' hfr
        rw [HE.out] at hfin
        obtain ⟨F2, s1, s2, s3⟩ := hfin
        go_roundw
        case rel => exact ⟨j + 1, m - 1, F2, by omega, int_eq (by omega), hst.then s1 hF', s2, fun q hq => by rcases s3 q hq with x | x; exact hF' q x; exact .inr (Nat.le_trans hst.size x)⟩
        case measure => simp [intOf]; omega
    · have hm0 : m = 0 := by omega
      subst hm0
      go_wp2
      go_end0
      obtain rfl : j = k := by omega
      exact ⟨rfl, F', hst, by simpa using hout, hF'⟩
end Go.Proofs.Ytclaagihmpghnaa
