/-
  What the small functions of package pen do (isWidth, fits, number), said over whatever world.
-/
import Derived.Test.YtnalillebemglaaGreatRows
import Derived.Test.YtnalillebemglaaGreatFrame
namespace Go.Proofs.YtnalillebemglaaGreat
open Go.RowKit
set_option maxRecDepth 4000
set_option linter.unusedVariables false

def isW (n : Int) : Bool := n == 1 || n == 2 || n == 4 || n == 8
theorem isW_iff (n : Int) : isW n = true ↔ n = 1 ∨ n = 2 ∨ n = 4 ∨ n = 8 := by simp [isW, or_assoc]

set_option maxHeartbeats 400000 in
theorem isWidth_any (n : Int) (w : World) :
    Calls Tryz.prog 102 #[.int .i64 n] w fun e w' => e = .returned (.bool (isW n)) ∧ w = w' := by
  by_cases h1 : n = 1
  · subst h1
    go_enter Tryz.func102, Tryz.ntmps102
    go_wp2
    go_ret
    exact ⟨rfl, rfl⟩
  · go_enter Tryz.func102, Tryz.ntmps102
    go_wp2
    all_goals go_ret
    all_goals exact ⟨by simp [isW, *], rfl⟩

/-- A number can be of that width. -/
def fitB (k : Nat) (n : Int) : Bool := decide (0 ≤ n ∧ n < 256 ^ k)

theorem div_eq_zero (n m : Int) (hm : 0 < m) (h0 : 0 ≤ n) : (n / m == 0) = decide (0 ≤ n ∧ n < m) := by
  rw [Bool.eq_iff_iff]
  simp only [beq_iff_eq, decide_eq_true_eq]
  constructor
  · intro h
    refine ⟨h0, ?_⟩
    have := Int.lt_ediv_add_one_mul_self n hm
    rw [h] at this
    omega
  · intro h
    exact Int.ediv_eq_zero_of_lt h.1 h.2

set_option maxHeartbeats 400000 in
theorem fits_any (k : Nat) (hk : k = 1 ∨ k = 2 ∨ k = 4 ∨ k = 8) (n : Int) (_h0 : -9223372036854775808 ≤ n) (h1 : n ≤ 9223372036854775807) (w : World) :
    Calls Tryz.prog 103 #[.int .i64 k, .int .i64 n] w fun e w' => e = .returned (.bool (fitB k n)) ∧ w = w' := by
  have e1 : fitB 1 n = decide (0 ≤ n ∧ n < 256) := rfl
  have e2 : fitB 2 n = decide (0 ≤ n ∧ n < 65536) := rfl
  have e4 : fitB 4 n = decide (0 ≤ n ∧ n < 4294967296) := rfl
  have e8 : fitB 8 n = decide (0 ≤ n) := by unfold fitB; congr 1; simp; omega
  by_cases hn : 0 ≤ n
  · have d1 := div_eq_zero n 256 (by omega) hn
    have d2 := div_eq_zero n 65536 (by omega) hn
    have d4 := div_eq_zero n 4294967296 (by omega) hn
    have D : Hid ((n / 256 == 0) = fitB 1 n ∧ (n / 65536 == 0) = fitB 2 n ∧ (n / 4294967296 == 0) = fitB 4 n ∧ true = fitB 8 n) :=
      ⟨d1.trans e1.symm, d2.trans e2.symm, d4.trans e4.symm, by rw [e8]; simp [hn]⟩
    clear e1 e2 e4 e8 d1 d2 d4
    rcases hk with rfl | rfl | rfl | rfl
    · go_enter Tryz.func103, Tryz.ntmps103
      go_wp2
      go_ret
      exact ⟨ret_bool D.out.1, rfl⟩
    · go_enter Tryz.func103, Tryz.ntmps103
      go_wp2
      go_ret
      exact ⟨ret_bool D.out.2.1, rfl⟩
    · go_enter Tryz.func103, Tryz.ntmps103
      go_wp2
      go_ret
      exact ⟨ret_bool D.out.2.2.1, rfl⟩
    · go_enter Tryz.func103, Tryz.ntmps103
      go_wp2
      go_ret
      exact ⟨ret_bool D.out.2.2.2, rfl⟩
  · have D : Hid (false = fitB k n) := by show false = fitB k n; simp [fitB, hn]
    clear e1 e2 e4 e8
    go_enter Tryz.func103, Tryz.ntmps103
    go_wp2
    go_ret
    exact ⟨ret_bool D.out, rfl⟩

/-- n's bytes of width k, the highest first. -/
def be : Nat → Nat → List UInt8
  | 0, _ => []
  | k + 1, n => be k (n / 256) ++ [UInt8.ofNat n]
theorem be_length (k n : Nat) : (be k n).length = k := by
  induction k generalizing n with
  | zero => rfl
  | succ k ih => simp [be, ih]

/-- What an Out at block p holds: the bytes bs; F: the blocks that are its own. -/
structure IsOut (w : World) (p : Nat) (F : Nat → Prop) (bs : List UInt8) : Prop where
  lt : ∀ k, F k → k < w.heap.size
  self : F p
  row : ∃ v, w.heap[p]? = some (.cells #[v] 122 (0, 0)) ∧ w.ownsRow 0 5 1 v bs.length (cellsOf bs) ∧ ∀ k, v.ownBlock = some k → k ≠ p ∧ F k

theorem info_u8 : (Tryz.prog.info? 5).map (fun i => (i.zero, i.size, i.bytes)) = some (some (.int .u8 0), 1, 1) := by kernel_rfl

/-- Behind an append and the store of what it gave. -/
theorem out_app {wr wa w' : World} {p : Nat} {F : Nat → Prop} {bs news : List UInt8} {v v' : Value} {cs : List Value} {n : Nat} (hout : IsOut wr p F bs) (hblk : wr.heap[p]? = some (.cells #[v] 122 (0, 0)))
    (hvb : ∀ k, v.ownBlock = some k → k ≠ p ∧ F k) (hwa : Step noF wr wa) (ho : w'.ownsRow 0 5 1 v' n cs) (hn : n = (bs ++ news).length) (hcs : cs = cellsOf (bs ++ news)) (hg : wa.grownBy w' v.ownBlock) (hfr : Fresh wa v v') :
    ∃ F', Step F wr (w'.setCell ⟨p, 0, none⟩ v') ∧ IsOut (w'.setCell ⟨p, 0, none⟩ v') p F' (bs ++ news) ∧ ∀ j, F' j → F j ∨ wr.heap.size ≤ j := by
  subst hn hcs
  have hpl : p < wr.heap.size := lt_of_block hblk
  have hne : some p ≠ v.ownBlock := fun e => (hvb p e.symm).1 rfl
  have hb2 : wa.heap[p]? = some (.cells #[v] 122 (0, 0)) := (hwa.block p hpl (fun h => h)).trans hblk
  have hb3 := grown_block hg hb2 hne
  have hne2 : v'.ownBlock ≠ some p := by
    rcases hfr with e | e
    · rw [e]; exact fun h => hne h.symm
    · intro h; have := e p h; have := hwa.size; omega
  refine ⟨fun k => k = p ∨ v'.ownBlock = some k, ?_, ⟨?_, .inl rfl, ⟨v', ?_, ?_, ?_⟩⟩, ?_⟩
  · exact ((hwa.mono (fun _ h => h.elim)).grown hg (fun k hk => .inl (hvb k hk).2)).setCell (.inl hout.self) _
  · intro k hk
    have e : (w'.setCell ⟨p, 0, none⟩ v').heap.size = w'.heap.size := by simp [World.setCell]
    rw [e]
    rcases hk with rfl | hk
    · exact lt_of_block hb3
    · exact (ho.lt k hk).2
  · simpa using block_setCell hb3 0 v'
  · exact owns_setCell ho _ hne2 _
  · intro k hk
    exact ⟨fun e => hne2 (by rw [← e]; exact hk), .inr hk⟩
  · intro j hj
    rcases hj with rfl | hj
    · exact .inl hout.self
    · rcases hfr with e | e
      · exact .inl (hvb j (by rw [← e]; exact hj)).2
      · exact .inr (Nat.le_trans hwa.size (e j hj))

theorem u8_wrap_div (n m : Nat) (hm : 0 < m) : IntKind.u8.wrap ((n : Int) / 2 ^ (8 * ((m : Int) - 1)).toNat) = ((UInt8.ofNat (n / 256 ^ (m - 1))).toNat : Int) := by
  have e1 : (8 * ((m : Int) - 1)).toNat = 8 * (m - 1) := by omega
  have e2 : (2 : Int) ^ (8 * (m - 1)) = ((256 ^ (m - 1) : Nat) : Int) := by rw [Int.pow_mul]; norm_cast
  rw [e1, e2, ← Int.natCast_ediv]
  simp [IntKind.wrap, IntKind.bits, IntKind.signed]

theorem be_step (j m n : Nat) (hm : 0 < m) : be j (n / 256 ^ m) ++ [UInt8.ofNat (n / 256 ^ (m - 1))] = be (j + 1) (n / 256 ^ (m - 1)) := by
  obtain ⟨q, rfl⟩ : ∃ q, m = q + 1 := ⟨m - 1, by omega⟩
  simp [be, Nat.div_div_eq_div_mul, Nat.pow_succ]

set_option maxHeartbeats 1000000 in
theorem number_any (k : Nat) (hk : k = 1 ∨ k = 2 ∨ k = 4 ∨ k = 8) (n : Nat) (h1 : n ≤ 9223372036854775807) (p : Nat) (F : Nat → Prop) (bs : List UInt8) (w : World) (ho : IsOut w p F bs) (hb : bs.length ≤ 1000000) :
    Calls Tryz.prog 104 #[.pointer (some ⟨p, 0, none⟩), .int .i64 k, .int .i64 n] w fun e w' => e = .returned (.tuple #[]) ∧
      ∃ F', Step F w w' ∧ IsOut w' p F' (bs ++ be k n) ∧ ∀ j, F' j → F j ∨ w.heap.size ≤ j := by
  have hk8 : (k : Int) ≤ 8 := by omega
  have hk1 : 1 ≤ (k : Int) := by omega
  go_enter Tryz.func104, Tryz.ntmps104
  go_wp2
  obtain ⟨i0, hi, hz0, hz1, hz2⟩ := info_parts info_u8
  go_loopw [6] (fun s wr => ∃ (j m : Nat) (F' : Nat → Prop), j + m = k ∧ s = .int .i64 (8 * ((m : Int) - 1)) ∧ Step F w wr ∧ IsOut wr p F' (bs ++ be j (n / 256 ^ m)) ∧ (∀ q, F' q → F q ∨ w.heap.size ≤ q)) (fun s _ => (intOf s + 8).toNat)
  case atStart => exact ⟨0, k, F, by omega, by go_num, Step.refl _ _, by simpa [be] using ho, fun q hq => .inl hq⟩
  case round =>
    obtain ⟨j, m, F', hjm, rfl, hst, hout, hF'⟩ := hrel
    by_cases hlt : 0 < m
    · obtain ⟨xs, hxs⟩ : ∃ xs, bs ++ be j (n / 256 ^ m) = xs := ⟨_, rfl⟩
      rw [hxs] at hout
      have hlen : xs.length = bs.length + j := by rw [← hxs]; simp [be_length]
      obtain ⟨v, hblk, hown, hvb⟩ := hout.row
      have hc := cell_of_block hblk 0
      have hf := frozen_of_block hblk 0
      simp at hc
      have hl1 : Hid (xs.length + 1 ≤ maxLen) := by show _ ≤ _; rw [hlen]; unfold maxLen; omega
      have hl2 : Hid ((xs.length + 1) * 1 ≤ 140737488355328) := by show _ ≤ _; rw [hlen]; omega
      have hx1 : Hid (∀ u ∈ [Value.int .u8 (IntKind.u8.wrap ((n : Int) / 2 ^ (8 * ((m : Int) - 1)).toNat))], u.oneCell' = true) := by intro u hu; simp at hu; subst hu; rfl
      have hne : Hid (some p ≠ v.ownBlock) := fun e => (hvb p e.symm).1 rfl
      have hpl : p < wr.heap.size := lt_of_block hblk
      have HB := hid hblk
      have HC : Hid (cellsOf xs ++ [Value.int .u8 (IntKind.u8.wrap ((n : Int) / 2 ^ (8 * ((m : Int) - 1)).toNat))] = cellsOf (xs ++ [UInt8.ofNat (n / 256 ^ (m - 1))])) := by
        show _ = _
        rw [u8_wrap_div n m hlt, cellsOf_append xs]; rfl
      have HE : Hid (xs ++ [UInt8.ofNat (n / 256 ^ (m - 1))] = bs ++ be (j + 1) (n / 256 ^ (m - 1))) := by
        show _ = _
        rw [← hxs, List.append_assoc, be_step j m n hlt]
      clear hlen hblk hxs
      go_wp2
      go_region_law (refine step_append_own rfl (.tmp 18) (.tmp 23) 120 rfl 5 i0 (.int .u8 0) 1 1 Tryz.underlying120 hi hz0 hz1 hz2 rfl (by decide) v _ _ (by simp [Act.eval]) (by exact hown.alloc _) ⟨wr.heap.size, 0, none⟩ 1 1 [Value.int .u8 (IntKind.u8.wrap ((n : Int) / 2 ^ (8 * ((m : Int) - 1)).toNat))] (by simp [Act.eval]) rfl (cell_one_new _ _ _) hx1.out hl1.out hl2.out ?_; intro v' w' ho' hg' hfr; have hb' := grown_block hg' (block_alloc_old HB.out _) hne.out; have hc' := cell_of_block hb' 0; have hf' := frozen_of_block hb' 0; have HB' := hid hb'; clear hb'; simp at hc'; obtain ⟨ao, cc, rfl⟩ := owns_form ho')
      all_goals go_wp2
      all_goals
        have hfin := out_app (news := [UInt8.ofNat (n / 256 ^ (m - 1))]) hout HB.out hvb (((Step.refl noF wr).alloc _).drew) ho' (by simp) HC.out hg' hfr
        rw [HE.out] at hfin
        obtain ⟨F2, s1, s2, s3⟩ := hfin
        go_roundw
        case rel => exact ⟨j + 1, m - 1, F2, by omega, int_eq (by omega), hst.then s1 hF', s2, fun q hq => by rcases s3 q hq with x | x; exact hF' q x; exact .inr (Nat.le_trans hst.size x)⟩
        case measure => simp [intOf]; omega
    · have hm0 : m = 0 := by omega
      subst hm0
      go_wp2
      go_end0
      obtain rfl : j = k := by omega
      exact ⟨rfl, F', hst, by simpa using hout, hF'⟩
end Go.Proofs.YtnalillebemglaaGreat
namespace Go.Proofs.YtnalillebemglaaGreat
open Go.RowKit
set_option linter.unusedVariables false

/-- The Out at p holds bs2; only its own blocks have turned. -/
def OutPost (w : World) (p : Nat) (F : Nat → Prop) (bs2 : List UInt8) (w' : World) : Prop :=
  ∃ F', Step F w w' ∧ IsOut w' p F' bs2 ∧ ∀ j, F' j → F j ∨ w.heap.size ≤ j

theorem OutPost.same {w : World} {p : Nat} {F : Nat → Prop} {bs : List UInt8} (h : IsOut w p F bs) : OutPost w p F bs w := ⟨F, Step.refl _ _, h, fun _ h => .inl h⟩

theorem IsOut.mono {w w' : World} {p : Nat} {F G : Nat → Prop} {bs : List UInt8} (h : IsOut w p F bs) (hs : Step G w w') (hd : ∀ k, F k → ¬ G k) : IsOut w' p F bs := by
  obtain ⟨v, hblk, hown, hvb⟩ := h.row
  refine ⟨fun k hk => Nat.lt_of_lt_of_le (h.lt k hk) hs.size, h.self, v, (hs.block p (lt_of_block hblk) (hd p h.self)).trans hblk, ⟨hown.1, ?_⟩, hvb⟩
  rcases hown.2 with x | ⟨g, cap, cur, rfl, hg, hh, rest⟩
  · exact .inl x
  · exact .inr ⟨g, cap, cur, rfl, hg, (hs.block g (lt_of_block hh) (hd g (hvb g rfl).2)).trans hh, rest⟩

set_option maxHeartbeats 400000 in
theorem bytes_nil (w : World) : Calls Tryz.prog 80 #[.pointer none] w fun e w' => e = .returned (.string ⟨#[]⟩) ∧ w = w' := by
  go_enter Tryz.func80, Tryz.ntmps80
  go_wp2
  go_ret
  exact ⟨rfl, rfl⟩

set_option maxHeartbeats 400000 in
theorem bytes_any (p : Nat) (F : Nat → Prop) (bs : List UInt8) (w : World) (ho : IsOut w p F bs) :
    Calls Tryz.prog 80 #[.pointer (some ⟨p, 0, none⟩)] w fun e w' => e = .returned (.string ⟨bs.toArray⟩) ∧ w = w' := by
  obtain ⟨v, hblk, hown, hvb⟩ := ho.row
  have hc := cell_of_block hblk 0
  simp at hc
  have hs := run_string_owned (P := Tryz.prog) w 120 9 5 Tryz.underlying120 Tryz.underlying5 Tryz.underlying9 rfl hown
  obtain ⟨ao, cc, rfl⟩ := owns_form hown
  clear hown hvb hblk ho
  go_enter Tryz.func80, Tryz.ntmps80
  go_wp2
  go_ret
  exact ⟨rfl, rfl⟩

set_option maxHeartbeats 400000 in
theorem len_nil (w : World) : Calls Tryz.prog 143 #[.pointer none] w fun e w' => e = .returned (.int .i64 0) ∧ w = w' := by
  go_enter Tryz.func143, Tryz.ntmps143
  go_wp2
  go_ret
  exact ⟨rfl, rfl⟩

set_option maxHeartbeats 400000 in
theorem len_any (p : Nat) (F : Nat → Prop) (bs : List UInt8) (w : World) (ho : IsOut w p F bs) :
    Calls Tryz.prog 143 #[.pointer (some ⟨p, 0, none⟩)] w fun e w' => e = .returned (.int .i64 bs.length) ∧ w = w' := by
  obtain ⟨v, hblk, hown, hvb⟩ := ho.row
  have hc := cell_of_block hblk 0
  simp at hc
  obtain ⟨ao, cc, rfl⟩ := owns_form hown
  clear hown hvb hblk ho
  go_enter Tryz.func143, Tryz.ntmps143
  go_wp2
  go_ret
  exact ⟨rfl, rfl⟩

end Go.Proofs.YtnalillebemglaaGreat
namespace Go.Proofs.YtnalillebemglaaGreat
open Go.RowKit
set_option linter.unusedVariables false

/-- All of them can be. -/
def numV (wd : Int) (zs : List Int) : Bool := isW wd && zs.all (fitB wd.toNat)
/-- What Num writes. -/
def numB (wd : Int) (zs : List Int) : List UInt8 := if numV wd zs then zs.flatMap (fun z => be wd.toNat z.toNat) else []

theorem flat_len (k : Nat) (l : List Int) : (l.flatMap (fun z => be k z.toNat)).length = l.length * k := by
  induction l with
  | nil => simp
  | cons a l ih => simp [be_length, ih, Nat.add_mul]; omega

set_option maxHeartbeats 400000 in
theorem num_nil (wd : Int) (a : Option Addr) (len cap : Nat) (w : World) : Calls Tryz.prog 79 #[.pointer none, .int .i64 wd, .slice a len cap] w fun e w' => e = .returned (.int .i64 2) ∧ w = w' := by
  go_enter Tryz.func79, Tryz.ntmps79
  go_wp2
  go_ret
  exact ⟨rfl, rfl⟩

set_option maxHeartbeats 400000 in
theorem num_wide (wd : Int) (hw : isW wd = false) (a : Option Addr) (len cap p : Nat) (w : World) : Calls Tryz.prog 79 #[.pointer (some ⟨p, 0, none⟩), .int .i64 wd, .slice a len cap] w fun e w' => e = .returned (.int .i64 1) ∧ w = w' := by
  go_enter Tryz.func79, Tryz.ntmps79
  go_wp2_with (go_at_call 102; refine (isWidth_any _ _).mono ?_; rintro e w' ⟨rfl, rfl⟩)
  go_ret
  exact ⟨rfl, rfl⟩

set_option maxHeartbeats 1000000 in
theorem num_in (k : Nat) (hk : k = 1 ∨ k = 2 ∨ k = 4 ∨ k = 8) (zs : List Int) (hz : inI64 zs) (hzl : zs.length ≤ 1000) (a : Option Addr) (cap : Nat) (p : Nat) (F : Nat → Prop) (bs : List UInt8) (w : World) (ho : IsOut w p F bs) (hb : bs.length ≤ 900000)
    (hr : RowAt w F a (intsOf zs)) :
    Calls Tryz.prog 79 #[.pointer (some ⟨p, 0, none⟩), .int .i64 k, .slice a zs.length cap] w fun e w' =>
      (zs.all (fitB k) = false ∧ e = .returned (.int .i64 1) ∧ w' = w) ∨ (zs.all (fitB k) = true ∧ e = .returned (.int .i64 0) ∧ OutPost w p F (bs ++ zs.flatMap (fun z => be k z.toNat)) w') := by
  have hw : isW (k : Int) = true := by rw [isW_iff]; omega
  have hcells : ∀ j (h : j < zs.length), ∃ b off, a = some ⟨b, off, none⟩ ∧ ¬ F b ∧ w.cell? ⟨b, off + j, none⟩ = some (.int .i64 zs[j]) := by
    intro j h
    rcases hr with h0 | ⟨b, off, rfl, hF, hc⟩
    · have : zs.length = 0 := by simpa [intsOf] using congrArg List.length h0
      omega
    · exact ⟨b, off, rfl, hF, by simpa [intsOf] using hc j (by simpa [intsOf] using h)⟩
  clear hr
  go_enter Tryz.func79, Tryz.ntmps79
  go_wp2_with (go_at_call 102; refine (isWidth_any _ _).mono ?_; rintro e w' ⟨rfl, rfl⟩)
  go_loop [18] (fun i => ∃ j : Nat, j ≤ zs.length ∧ i = .int .i64 j ∧ Hid (∀ q (h : q < zs.length), q < j → fitB k zs[q] = true)) (fun i => zs.length - (intOf i).toNat)
  case atStart => exact ⟨0, Nat.zero_le _, rfl, fun q h h2 => by omega⟩
  case round =>
    obtain ⟨j, hj, rfl, hall⟩ := hrel
    by_cases hlt : j < zs.length
    · obtain ⟨b, off, rfl, hF, hc⟩ := hcells j hlt
      have hr := hz zs[j] (List.getElem_mem hlt)
      have HC := hid hcells
      clear hcells
      cases hfb : fitB k zs[j]
      · have hA : Hid (zs.all (fitB k) = false) := by
          show _ = _
          rw [List.all_eq_false]
          exact ⟨zs[j], List.getElem_mem hlt, by simp [hfb]⟩
        go_wp2_with (go_at_call 103; refine (fits_any k hk _ (by omega) (by omega) _).mono ?_; rintro e w' ⟨rfl, rfl⟩)
        go_ret
        exact .inl ⟨hA.out, rfl, rfl⟩
      · have hA : Hid (∀ q (h : q < zs.length), q < j + 1 → fitB k zs[q] = true) := by
          intro q h h2
          by_cases e : q = j
          · subst e; exact hfb
          · exact hall.out q h (by omega)
        go_wp2_with (go_at_call 103; refine (fits_any k hk _ (by omega) (by omega) _).mono ?_; rintro e w' ⟨rfl, rfl⟩)
        go_round
        case rel => exact ⟨j + 1, by omega, by go_num, hA⟩
        case measure => simp [intOf]; omega
    · have hA : Hid (zs.all (fitB k) = true) := by
        show _ = _
        rw [List.all_eq_true]
        intro z hz
        obtain ⟨q, h, rfl⟩ := List.getElem_of_mem hz
        exact hall.out q h (by omega)
      have HC := hid hcells
      clear hcells
      go_wp2
      go_loopw [29] (fun i wr => ∃ (j : Nat) (F' : Nat → Prop), j ≤ zs.length ∧ i = .int .i64 j ∧ Step F w wr ∧ IsOut wr p F' (bs ++ (zs.take j).flatMap (fun z => be k z.toNat)) ∧ (∀ q, F' q → F q ∨ w.heap.size ≤ q)) (fun i _ => zs.length - (intOf i).toNat)
      case atStart => exact ⟨0, F, Nat.zero_le _, rfl, Step.refl _ _, by simpa using ho, fun q hq => .inl hq⟩
      case round =>
        obtain ⟨j2, F', hj2, rfl, hst, hout, hF'⟩ := hrel
        by_cases hlt2 : j2 < zs.length
        · obtain ⟨b, off, rfl, hF, hc⟩ := HC.out j2 hlt2
          have hr := hz zs[j2] (List.getElem_mem hlt2)
          have hbl : b < w.heap.size := World.block_lt_of_cell? w _ hc
          have hc2 : wr.cell? ⟨b, off + j2, none⟩ = some (.int .i64 zs[j2]) := (hst.cell (p := ⟨b, off + j2, none⟩) hF hbl).trans hc
          have hn0 : fitB k zs[j2] = true := by
            have := hA.out
            rw [List.all_eq_true] at this
            exact this _ (List.getElem_mem hlt2)
          have hn1 : 0 ≤ zs[j2] := by unfold fitB at hn0; simp at hn0; exact hn0.1
          obtain ⟨n, hn⟩ := Int.eq_ofNat_of_zero_le hn1
          have HE : Hid (bs ++ (zs.take j2).flatMap (fun z => be k z.toNat) ++ be k n = bs ++ (zs.take (j2 + 1)).flatMap (fun z => be k z.toNat)) := by
            show _ = _
            rw [List.take_succ_eq_append_getElem hlt2, List.flatMap_append, List.append_assoc, hn]
            simp
          have hlen : ((zs.take j2).flatMap (fun z => be k z.toNat)).length ≤ 8 * 1000 := by
            rw [flat_len]
            have : (zs.take j2).length * k ≤ 1000 * 8 := Nat.mul_le_mul (by rw [List.length_take]; omega) (by omega)
            omega
          have hl3 : Hid ((bs ++ (zs.take j2).flatMap (fun z => be k z.toNat)).length ≤ 1000000) := by show _ ≤ _; rw [List.length_append]; omega
          rw [hn] at hc2 hr
          clear hn0 hn1 hn hc hlen
          go_wp2_with (go_at_call 104; refine (number_any k hk n (by omega) p F' _ _ hout hl3.out).mono ?_; rintro e w2 ⟨rfl, F2, s1, s2, s3⟩)
          rw [HE.out] at s2
          go_roundw
          case rel => exact ⟨j2 + 1, F2, by omega, by go_num, hst.then s1 hF', s2, fun q hq => by rcases s3 q hq with x | x; exact hF' q x; exact .inr (Nat.le_trans hst.size x)⟩
          case measure => simp [intOf]; omega
        · go_wp2
          go_ret
          refine .inr ⟨hA.out, rfl, F', hst, ?_, hF'⟩
          rw [List.take_of_length_le (by omega)] at hout
          exact hout

theorem num_any (wd : Int) (zs : List Int) (hz : inI64 zs) (hzl : zs.length ≤ 1000) (a : Option Addr) (cap : Nat) (p : Nat) (F : Nat → Prop) (bs : List UInt8) (w : World) (ho : IsOut w p F bs) (hb : bs.length ≤ 900000)
    (hr : RowAt w F a (intsOf zs)) :
    Calls Tryz.prog 79 #[.pointer (some ⟨p, 0, none⟩), .int .i64 wd, .slice a zs.length cap] w fun e w' =>
      e = .returned (.int .i64 (if numV wd zs then 0 else 1)) ∧ OutPost w p F (bs ++ numB wd zs) w' := by
  cases hw : isW wd
  · refine (num_wide wd hw a _ cap p w).mono ?_
    rintro e w' ⟨rfl, rfl⟩
    have h1 : numV wd zs = false := by simp [numV, hw]
    simp only [numB, h1]
    exact ⟨rfl, by simpa using OutPost.same ho⟩
  · have hk := (isW_iff wd).1 hw
    obtain ⟨k, rfl⟩ := Int.eq_ofNat_of_zero_le (show 0 ≤ wd by omega)
    refine (num_in k (by omega) zs hz hzl a cap p F bs w ho hb hr).mono ?_
    rintro e w' (⟨h1, rfl, rfl⟩ | ⟨h1, rfl, h2⟩)
    · have h3 : numV (k : Int) zs = false := by simp only [numV, hw, Int.toNat_natCast, h1]; rfl
      simp only [numB, h3]
      exact ⟨rfl, by simpa using OutPost.same ho⟩
    · have h3 : numV (k : Int) zs = true := by simp only [numV, hw, Int.toNat_natCast, h1]; rfl
      simp only [numB, h3]
      exact ⟨rfl, by simpa using h2⟩

/-- A text's bytes. -/
def txt (t : ByteArray) : List UInt8 := UInt8.ofNat t.size :: t.data.toList
def textV (ts : List ByteArray) : Bool := ts.all (fun t => decide (t.size ≤ 255))
def textB (ts : List ByteArray) : List UInt8 := if textV ts then ts.flatMap txt else []
theorem flat_txt_len (l : List ByteArray) (h : ∀ t ∈ l, t.size ≤ 255) : (l.flatMap txt).length ≤ l.length * 256 := by
  induction l with
  | nil => simp
  | cons a l ih =>
    have h1 := ih (fun t ht => h t (List.mem_cons_of_mem _ ht))
    have h2 := h a List.mem_cons_self
    have e : a.data.toList.length = a.size := by rw [Array.length_toList]; rfl
    simp only [List.flatMap_cons, List.length_append, txt, List.length_cons, e] at h1 ⊢
    omega

theorem flat_txt_le (ts : List ByteArray) (j : Nat) (h : ts.length ≤ 1000) (hall : ∀ t ∈ ts, t.size ≤ 255) : ((ts.take j).flatMap txt).length ≤ 256000 := by
  have h1 := flat_txt_len (ts.take j) (fun t ht => hall t (List.mem_of_mem_take ht))
  have h2 : (ts.take j).length ≤ 1000 := by rw [List.length_take]; omega
  generalize ((ts.take j).flatMap txt).length = x at *
  generalize (ts.take j).length = y at *
  omega

end Go.Proofs.YtnalillebemglaaGreat
namespace Go.Proofs.YtnalillebemglaaGreat
open Go.RowKit
set_option linter.unusedVariables false

theorem Step.setOne {p : Nat} {a b : World} (h : Step (oneF p) a b) (j : Nat) (v : Value) : Step (oneF p) a (b.setCell ⟨p, j, none⟩ v) := h.setCell (p := ⟨p, j, none⟩) (.inl rfl) v

/-- What is left of a text, and whether something was wrong (0, or 5). -/
def rawV (n : Int) (l : List UInt8) : List UInt8 := if 0 ≤ n ∧ n ≤ l.length then l.take n.toNat else []
def rawL (n : Int) (l : List UInt8) : List UInt8 := if 0 ≤ n ∧ n ≤ l.length then l.drop n.toNat else []
def rawE (n : Int) (l : List UInt8) (e : Int) : Int := if 0 ≤ n ∧ n ≤ l.length then e else 5

/-- The In at block p. -/
def IsIn (w : World) (p : Nat) (l : List UInt8) (e : Int) : Prop := w.heap[p]? = some (.cells #[.string (str l), .int .i64 e] 168 (0, 0))
theorem IsIn.c0 {w : World} {p : Nat} {l : List UInt8} {e : Int} (h : IsIn w p l e) : w.cell? ⟨p, 0, none⟩ = some (.string (str l)) := by simpa using cell_of_block h 0
theorem IsIn.c1 {w : World} {p : Nat} {l : List UInt8} {e : Int} (h : IsIn w p l e) : w.cell? ⟨p, 1, none⟩ = some (.int .i64 e) := by simpa using cell_of_block h 1
theorem IsIn.f {w : World} {p : Nat} {l : List UInt8} {e : Int} (h : IsIn w p l e) (j : Nat) : w.frozen? ⟨p, j, none⟩ = false := frozen_of_block h j
theorem IsIn.set0 {w : World} {p : Nat} {l : List UInt8} {e : Int} (h : IsIn w p l e) (l2 : List UInt8) : IsIn (w.setCell ⟨p, 0, none⟩ (.string (str l2))) p l2 e := by
  have := block_setCell h 0 (.string (str l2)); simpa [IsIn] using this
theorem IsIn.set1 {w : World} {p : Nat} {l : List UInt8} {e : Int} (h : IsIn w p l e) (e2 : Int) : IsIn (w.setCell ⟨p, 1, none⟩ (.int .i64 e2)) p l e2 := by
  have := block_setCell h 1 (.int .i64 e2); simpa [IsIn] using this
theorem IsIn.mono {w w' : World} {p : Nat} {l : List UInt8} {e : Int} {G : Nat → Prop} (h : IsIn w p l e) (hs : Step G w w') (hd : ¬ G p) : IsIn w' p l e := (hs.block p (lt_of_block h) hd).trans h
theorem IsIn.alloc {w : World} {p : Nat} {l : List UInt8} {e : Int} (h : IsIn w p l e) (o : Obj) : IsIn (w.alloc o) p l e := block_alloc_old h o

set_option maxHeartbeats 400000 in
theorem of_any (l : List UInt8) (w : World) : Calls Tryz.prog 114 #[.string (str l)] w fun e w' => e = .returned (.pointer (some ⟨w.heap.size, 0, none⟩)) ∧ Step noF w w' ∧ IsIn w' w.heap.size l 0 ∧ w'.heap.size = w.heap.size + 1 := by
  go_enter Tryz.func114, Tryz.ntmps114
  go_wp2
  go_ret
  exact ⟨rfl, (Step.refl _ _).alloc _, block_alloc_new _ _, by simp⟩

set_option maxHeartbeats 400000 in
theorem fail_any (p : Nat) (l : List UInt8) (e0 : Int) (w : World) (h : IsIn w p l e0) : Calls Tryz.prog 119 #[.pointer (some ⟨p, 0, none⟩)] w fun e w' => e = .returned (.tuple #[]) ∧ Step (oneF p) w w' ∧ IsIn w' p [] 5 := by
  have c0 := h.c0
  have c1 := h.c1
  have f0 := h.f 0
  have f1 := h.f 1
  have H := hid h
  clear h
  go_enter Tryz.func119, Tryz.ntmps119
  go_wp2
  go_end0
  exact ⟨rfl, ((Step.refl (oneF p) _).setOne _ _).setOne _ _, (H.out.set0 []).set1 5⟩

set_option maxHeartbeats 400000 in
theorem inRaw_nil (n : Int) (w : World) : Calls Tryz.prog 120 #[.pointer none, .int .i64 n] w fun e w' => e = .returned (.string (str [])) ∧ w = w' := by
  go_enter Tryz.func120, Tryz.ntmps120
  go_wp2
  go_ret
  exact ⟨rfl, rfl⟩

set_option maxHeartbeats 400000 in
theorem inRaw_any (n : Int) (p : Nat) (l : List UInt8) (e0 : Int) (w : World) (h : IsIn w p l e0) (hl : l.length ≤ maxLen) :
    Calls Tryz.prog 120 #[.pointer (some ⟨p, 0, none⟩), .int .i64 n] w fun e w' => e = .returned (.string (str (rawV n l))) ∧ Step (oneF p) w w' ∧ IsIn w' p (rawL n l) (rawE n l e0) := by
  unfold maxLen at hl
  have c0 := h.c0
  have f0 := h.f 0
  have hsz := str_size l
  have hext := str_extract l
  generalize hs : str l = s at c0 hsz hext
  by_cases hn : 0 ≤ n ∧ n ≤ l.length
  · obtain ⟨k, rfl⟩ := Int.eq_ofNat_of_zero_le hn.1
    have hk : k ≤ s.size := by omega
    have e1 : Hid (s.extract 0 k = str (rawV k l)) := by show _ = _; rw [hext]; simp [rawV]; rw [if_pos (by omega)]
    have e2 : Hid (s.extract k s.size = str (rawL k l)) := by show _ = _; rw [hext, hsz]; simp [rawL]; rw [if_pos (by omega)]
    have e3 : Hid (rawE k l e0 = e0) := by show _ = _; simp [rawE]; intro; omega
    have H := hid h
    have hs2 : s.size ≤ 9223372036854775807 := by omega
    clear h hext hs hsz hn
    go_enter Tryz.func120, Tryz.ntmps120
    go_wp2
    go_ret
    rw [e3.out]
    refine ⟨ret_str e1.out, ?_, ?_⟩
    · exact (Step.refl (oneF p) _).setOne _ _
    · rw [e2.out]
      exact H.out.set0 _
  · have hn2 : n < 0 ∨ (s.size : Int) < n := by omega
    have e1 : Hid (str [] = str (rawV n l)) := by show _ = _; rw [rawV, if_neg hn]
    have e2 : Hid (rawL n l = []) := by show _ = _; rw [rawL, if_neg hn]
    have e3 : Hid (rawE n l e0 = 5) := by show _ = _; rw [rawE, if_neg hn]
    clear hext hs hsz hn
    have H := hid h
    clear h
    rcases hn2 with hn2 | hn2
    · go_enter Tryz.func120, Tryz.ntmps120
      go_wp2_with (go_at_call 119; refine (fail_any p l e0 _ H.out).mono ?_; rintro e w' ⟨rfl, hst, hin⟩)
      go_ret
      rw [e2.out, e3.out]
      exact ⟨ret_str e1.out, hst, hin⟩
    · go_enter Tryz.func120, Tryz.ntmps120
      go_wp2_with (go_at_call 119; refine (fail_any p l e0 _ H.out).mono ?_; rintro e w' ⟨rfl, hst, hin⟩)
      all_goals go_ret
      all_goals rw [e2.out, e3.out]
      all_goals exact ⟨ret_str e1.out, hst, hin⟩

def endE (l : List UInt8) (e : Int) : Int := if l.length = 0 then e else 5
set_option maxHeartbeats 400000 in
theorem end_nil (w : World) : Calls Tryz.prog 116 #[.pointer none] w fun e w' => e = .returned (.int .i64 2) ∧ w = w' := by
  go_enter Tryz.func116, Tryz.ntmps116
  go_wp2
  go_ret
  exact ⟨rfl, rfl⟩
set_option maxHeartbeats 400000 in
theorem end_any (p : Nat) (l : List UInt8) (e0 : Int) (w : World) (h : IsIn w p l e0) : Calls Tryz.prog 116 #[.pointer (some ⟨p, 0, none⟩)] w fun e w' => e = .returned (.int .i64 (endE l e0)) ∧ w = w' := by
  have c0 := h.c0
  have c1 := h.c1
  have hsz := str_size l
  generalize str l = s at c0 hsz
  clear h
  by_cases h0 : l.length = 0
  · have hE : Hid (e0 = endE l e0) := by show _ = _; simp [endE, h0]
    have hs0 : s.size = 0 := by omega
    clear hsz h0
    go_enter Tryz.func116, Tryz.ntmps116
    go_wp2
    go_ret
    exact ⟨ret_int hE.out, rfl⟩
  · have hE : Hid (5 = endE l e0) := by show _ = _; simp [endE, h0]
    have hs0 : 0 < s.size := by omega
    clear hsz h0
    go_enter Tryz.func116, Tryz.ntmps116
    go_wp2
    go_ret
    exact ⟨ret_int hE.out, rfl⟩
end Go.Proofs.YtnalillebemglaaGreat
