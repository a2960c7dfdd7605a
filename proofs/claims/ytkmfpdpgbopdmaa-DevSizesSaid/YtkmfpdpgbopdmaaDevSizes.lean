/-
  The walk of the law DevSizes.
-/
import Derived.Test.YtkmfpdpgbopdmaaDevAwake
namespace Go.Proofs.Ytkmfpdpgbopdmaa
open Go.RowKit
set_option linter.unusedVariables false

theorem conv_zeros (k : Nat) (hk : k ≤ 1000000) (w : World) (X : ByteArray) (hX : str (List.replicate k 0) = X) : (convert 56 9 (.slice (some ⟨w.heap.size, 0, none⟩) k k)).run Try.prog (w.alloc (.cells (madeCells #[.int .u8 0] k) 5)) = .ok (.string X) (w.alloc (.cells (madeCells #[.int .u8 0] k) 5)) := by
  subst hX
  exact run_string_row (P := Try.prog) _ 56 9 5 5 (0, 0) Try.underlying56 Try.underlying5 Try.underlying9 w.heap.size k k _ (List.replicate k 0) (block_alloc_new _ _) (by rw [toList_madeCells_one, cellsOf, List.map_replicate]; rfl) (by simp)
theorem image_nil2 (w : World) : Calls Try.prog 24 #[.pointer none] w fun e w' => e = .returned (.string ⟨#[]⟩) ∧ w = w' := image_nil w
def BigK (k : Nat) : Prop := 131328 ≤ k ∧ k < 131672
set_option maxHeartbeats 4000000 in
set_option maxRecDepth 100000 in
theorem sizes_ii (n : Nat) (h1 : 1 ≤ n) (h2 : n ≤ 512) (z : Int) (k : Nat) (hk : wrap64 ((IntKind.u64.wrap z).tmod 131672) = (k : Int)) (hk1 : 256 ≤ k) (hk2 : k < 131328) (w : World) :
    Calls Try.prog 4 #[.int .i64 n, .int .i64 z] w fun e w' => e = .returned (.bool true) ∧ Step noF w w' := by
  have HK1 := hid hk1
  have HK2 := hid hk2
  clear hk1 hk2
  have k1 : (1 : Int) ≤ (n : Int) := by omega
  have k2 : (n : Int) ≤ 512 := by omega
  go_enter Try.func4, Try.ntmps4
  go_wp2_with fail
  refine (awake_any _).mono ?_
  rintro e w1 ⟨rfl, s1⟩
  go_wp2_with fail
  refine (new_any n n rfl h1 h2 w1 (fun _ => 0) 0).mono ?_
  rintro e w2 ⟨p, R, hR, rfl, s2, hp, hd⟩
  have H2 := hid hd
  have hsf : (newD (List.replicate n zeroB)).safe.length = n := List.length_replicate
  have hlen := len_any w2 R 0 p _ hd
  rw [hsf] at hlen
  obtain ⟨I, hI⟩ : ∃ I, str (List.replicate n zeroB).flatten = I := ⟨_, rfl⟩
  have hIs : I.size = 256 * n := by rw [← hI, str_size, flat_len _ (fun x hx => by rw [List.mem_replicate] at hx; rw [hx.2]; exact zeroB_len), List.length_replicate]
  have him := image_any w2 R 0 p _ hd (newD_wf _ (by rw [List.length_replicate]; exact h1) (by rw [List.length_replicate]; exact h2) (fun x hx => by rw [List.mem_replicate] at hx; rw [hx.2]; exact zeroB_len))
  rw [show (newD (List.replicate n zeroB)).safe = List.replicate n zeroB from rfl, hI] at him
  clear hd
  go_wp2_with fail
  refine hlen.mono ?_
  rintro e w' ⟨rfl, rfl⟩
  go_wp2_with fail
  refine him.mono ?_
  rintro e w3 ⟨rfl, s3⟩
  obtain ⟨q, hq⟩ : ∃ q, 256 * n = q := ⟨_, rfl⟩
  have hq6 : q ≤ 1000000 := by omega
  have hI2 : I.size = q := by omega
  have hm : (256 : Int) * (n : Int) = (q : Int) := by omega
  have hm2 : IntKind.i64.wrap ((256 : Int) * (n : Int)) = (q : Int) := iw hm (by omega) (by omega)
  have hm3 : wrap64 ((256 : Int) * (n : Int)) = (q : Int) := w64 hm (by omega) (by omega)
  have HIS := hid hIs
  have HQ := hid hq
  clear hIs hq
  have A3 := (s1.trans s2).trans s3
  have hk6 : k ≤ 1000000 := by have := HK2.out; omega
  have hmk := mk_bytes k hk6
  obtain ⟨X, hX⟩ : ∃ X, str (List.replicate k 0) = X := ⟨_, rfl⟩
  have hXs : X.size = k := by rw [← hX, str_size, List.length_replicate]
  have hcv := fun u => conv_zeros k hk6 u X hX
  have HX := hid hX
  have HXS := hid hXs
  clear hX hXs hk6
  go_wp2_with fail
  obtain ⟨m, hm9⟩ : ∃ m, k / 256 = m := ⟨_, rfl⟩
  have hm1 : 1 ≤ m := by have := HK1.out; omega
  have hm5 : m ≤ 512 := by have := HK2.out; omega
  refine (of_any X m (by rw [HXS.out]; exact hm9) hm1 hm5 _ (fun _ => 0) 0).mono ?_
  rintro e w5 ⟨p2, R2, hR2, rfl, s5, hp2, hd5⟩
  have hl5 := len_any w5 R2 0 p2 _ hd5
  rw [show (newD (blocksOf X.data.toList m)).safe.length = m from blocksOf_length _ _] at hl5
  have q1 : (k : Int).tdiv 256 = (m : Int) := by rw [Int.tdiv_eq_ediv_of_nonneg (by omega)]; omega
  have q2 : (k : Int) / 256 = (m : Int) := by omega
  have q3 : IntKind.i64.wrap (m : Int) = (m : Int) := iw rfl (by omega) (by omega)
  have q4 : (256 : Int) ≤ (k : Int) := by have := HK1.out; omega
  have q5 : (k : Int) < 131328 := by have := HK2.out; omega
  have HM9 := hid hm9
  clear hm9 hd5
  go_wp2_with fail
  refine hl5.mono ?_
  rintro e w' ⟨rfl, rfl⟩
  have A5 := (A3.alloc _).trans s5
  go_wp2_with (first
    | (go_at_call 13; refine (cut_nil _ _).mono ?_; rintro e w' ⟨rfl, rfl⟩)
    | (go_at_call 16; refine (come_nil _).mono ?_; rintro e w' ⟨rfl, rfl⟩)
    | (go_at_call 15; refine (fuse_nil _ _ _).mono ?_; rintro e w' ⟨rfl, rfl⟩)
    | (go_at_call 17; refine (read_nil _ _).mono ?_; rintro e w' ⟨rfl, rfl⟩)
    | (go_at_call 20; refine (write_nil _ _ _).mono ?_; rintro e w' ⟨rfl, rfl⟩)
    | (go_at_call 10; refine (flush_nil _).mono ?_; rintro e w' ⟨rfl, rfl⟩)
    | (go_at_call 25; refine (len_nil _).mono ?_; rintro e w' ⟨rfl, rfl⟩)
    | (go_at_call 23; refine (loose_nil _).mono ?_; rintro e w' ⟨rfl, rfl⟩)
    | (go_at_call 21; refine (at_nil _).mono ?_; rintro e w' ⟨rfl, rfl⟩)
    | (go_at_call 22; refine (isOn_nil _).mono ?_; rintro e w' ⟨rfl, rfl⟩)
    | (go_at_call 24; refine (image_nil2 _).mono ?_; rintro e w' ⟨rfl, rfl⟩))
  refine (count_nil _).mono ?_
  rintro e w9 ⟨rfl, s9⟩
  go_wp2_with fail
  go_ret
  exact ⟨rfl, A5.trans s9⟩

set_option maxHeartbeats 4000000 in
set_option maxRecDepth 100000 in
theorem sizes_io (n : Nat) (h1 : 1 ≤ n) (h2 : n ≤ 512) (z : Int) (k : Nat) (hk : wrap64 ((IntKind.u64.wrap z).tmod 131672) = (k : Int)) (hk1 : k < 256 ∨ 131328 ≤ k) (hk2 : k < 131672) (w : World) :
    Calls Try.prog 4 #[.int .i64 n, .int .i64 z] w fun e w' => e = .returned (.bool true) ∧ Step noF w w' := by
  rcases hk1 with hk1 | hk1
  · have j1 : ¬ (256 : Int) ≤ (k : Int) := by omega
    have HK1 := hid hk1
    have HK2 := hid hk2
    clear hk1 hk2
    have k1 : (1 : Int) ≤ (n : Int) := by omega
    have k2 : (n : Int) ≤ 512 := by omega
    go_enter Try.func4, Try.ntmps4
    go_wp2_with fail
    refine (awake_any _).mono ?_
    rintro e w1 ⟨rfl, s1⟩
    go_wp2_with fail
    refine (new_any n n rfl h1 h2 w1 (fun _ => 0) 0).mono ?_
    rintro e w2 ⟨p, R, hR, rfl, s2, hp, hd⟩
    have H2 := hid hd
    have hsf : (newD (List.replicate n zeroB)).safe.length = n := List.length_replicate
    have hlen := len_any w2 R 0 p _ hd
    rw [hsf] at hlen
    obtain ⟨I, hI⟩ : ∃ I, str (List.replicate n zeroB).flatten = I := ⟨_, rfl⟩
    have hIs : I.size = 256 * n := by rw [← hI, str_size, flat_len _ (fun x hx => by rw [List.mem_replicate] at hx; rw [hx.2]; exact zeroB_len), List.length_replicate]
    have him := image_any w2 R 0 p _ hd (newD_wf _ (by rw [List.length_replicate]; exact h1) (by rw [List.length_replicate]; exact h2) (fun x hx => by rw [List.mem_replicate] at hx; rw [hx.2]; exact zeroB_len))
    rw [show (newD (List.replicate n zeroB)).safe = List.replicate n zeroB from rfl, hI] at him
    clear hd
    go_wp2_with fail
    refine hlen.mono ?_
    rintro e w' ⟨rfl, rfl⟩
    go_wp2_with fail
    refine him.mono ?_
    rintro e w3 ⟨rfl, s3⟩
    obtain ⟨q, hq⟩ : ∃ q, 256 * n = q := ⟨_, rfl⟩
    have hq6 : q ≤ 1000000 := by omega
    have hI2 : I.size = q := by omega
    have hm : (256 : Int) * (n : Int) = (q : Int) := by omega
    have hm2 : IntKind.i64.wrap ((256 : Int) * (n : Int)) = (q : Int) := iw hm (by omega) (by omega)
    have hm3 : wrap64 ((256 : Int) * (n : Int)) = (q : Int) := w64 hm (by omega) (by omega)
    have HIS := hid hIs
    have HQ := hid hq
    clear hIs hq
    have A3 := (s1.trans s2).trans s3
    have hk6 : k ≤ 1000000 := by have := HK2.out; omega
    have hmk := mk_bytes k hk6
    obtain ⟨X, hX⟩ : ∃ X, str (List.replicate k 0) = X := ⟨_, rfl⟩
    have hXs : X.size = k := by rw [← hX, str_size, List.length_replicate]
    have hcv := fun u => conv_zeros k hk6 u X hX
    have HX := hid hX
    have HXS := hid hXs
    clear hX hXs hk6
    go_wp2_with fail
    refine (of_none X (by have := HK1.out; have := HK2.out; rw [HXS.out]; omega) _ (by have := HK2.out; rw [HXS.out]; omega)).mono ?_
    rintro e w5 ⟨rfl, rfl⟩
    have A5 := A3.alloc (.cells (madeCells #[.int .u8 0] k) 5)
    go_wp2_with (first
      | (go_at_call 13; refine (cut_nil _ _).mono ?_; rintro e w' ⟨rfl, rfl⟩)
      | (go_at_call 16; refine (come_nil _).mono ?_; rintro e w' ⟨rfl, rfl⟩)
      | (go_at_call 15; refine (fuse_nil _ _ _).mono ?_; rintro e w' ⟨rfl, rfl⟩)
      | (go_at_call 17; refine (read_nil _ _).mono ?_; rintro e w' ⟨rfl, rfl⟩)
      | (go_at_call 20; refine (write_nil _ _ _).mono ?_; rintro e w' ⟨rfl, rfl⟩)
      | (go_at_call 10; refine (flush_nil _).mono ?_; rintro e w' ⟨rfl, rfl⟩)
      | (go_at_call 25; refine (len_nil _).mono ?_; rintro e w' ⟨rfl, rfl⟩)
      | (go_at_call 23; refine (loose_nil _).mono ?_; rintro e w' ⟨rfl, rfl⟩)
      | (go_at_call 21; refine (at_nil _).mono ?_; rintro e w' ⟨rfl, rfl⟩)
      | (go_at_call 22; refine (isOn_nil _).mono ?_; rintro e w' ⟨rfl, rfl⟩)
      | (go_at_call 24; refine (image_nil2 _).mono ?_; rintro e w' ⟨rfl, rfl⟩))
    refine (count_nil _).mono ?_
    rintro e w9 ⟨rfl, s9⟩
    go_wp2_with fail
    go_ret
    exact ⟨rfl, A5.trans s9⟩
  · have HB : BigK k := ⟨hk1, hk2⟩
    clear hk1 hk2
    have k1 : (1 : Int) ≤ (n : Int) := by omega
    have k2 : (n : Int) ≤ 512 := by omega
    go_enter Try.func4, Try.ntmps4
    go_wp2_with fail
    refine (awake_any _).mono ?_
    rintro e w1 ⟨rfl, s1⟩
    go_wp2_with fail
    refine (new_any n n rfl h1 h2 w1 (fun _ => 0) 0).mono ?_
    rintro e w2 ⟨p, R, hR, rfl, s2, hp, hd⟩
    have H2 := hid hd
    have hsf : (newD (List.replicate n zeroB)).safe.length = n := List.length_replicate
    have hlen := len_any w2 R 0 p _ hd
    rw [hsf] at hlen
    obtain ⟨I, hI⟩ : ∃ I, str (List.replicate n zeroB).flatten = I := ⟨_, rfl⟩
    have hIs : I.size = 256 * n := by rw [← hI, str_size, flat_len _ (fun x hx => by rw [List.mem_replicate] at hx; rw [hx.2]; exact zeroB_len), List.length_replicate]
    have him := image_any w2 R 0 p _ hd (newD_wf _ (by rw [List.length_replicate]; exact h1) (by rw [List.length_replicate]; exact h2) (fun x hx => by rw [List.mem_replicate] at hx; rw [hx.2]; exact zeroB_len))
    rw [show (newD (List.replicate n zeroB)).safe = List.replicate n zeroB from rfl, hI] at him
    clear hd
    go_wp2_with fail
    refine hlen.mono ?_
    rintro e w' ⟨rfl, rfl⟩
    go_wp2_with fail
    refine him.mono ?_
    rintro e w3 ⟨rfl, s3⟩
    obtain ⟨q, hq⟩ : ∃ q, 256 * n = q := ⟨_, rfl⟩
    have hq6 : q ≤ 1000000 := by omega
    have hI2 : I.size = q := by omega
    have hm : (256 : Int) * (n : Int) = (q : Int) := by omega
    have hm2 : IntKind.i64.wrap ((256 : Int) * (n : Int)) = (q : Int) := iw hm (by omega) (by omega)
    have hm3 : wrap64 ((256 : Int) * (n : Int)) = (q : Int) := w64 hm (by omega) (by omega)
    have HIS := hid hIs
    have HQ := hid hq
    clear hIs hq
    have A3 := (s1.trans s2).trans s3
    have hk6 : k ≤ 1000000 := by unfold BigK at HB; omega
    have hmk := mk_bytes k hk6
    obtain ⟨X, hX⟩ : ∃ X, str (List.replicate k 0) = X := ⟨_, rfl⟩
    have hXs : X.size = k := by rw [← hX, str_size, List.length_replicate]
    have hcv := fun u => conv_zeros k hk6 u X hX
    have HX := hid hX
    have HXS := hid hXs
    clear hX hXs hk6
    go_wp2_with fail
    refine (of_none X (by rw [HXS.out]; unfold BigK at HB; omega) _ (by rw [HXS.out]; unfold BigK at HB; omega)).mono ?_
    rintro e w5 ⟨rfl, rfl⟩
    have A5 := A3.alloc (.cells (madeCells #[.int .u8 0] k) 5)
    have j1 : (256 : Int) ≤ (k : Int) := by unfold BigK at HB; omega
    have j2 : decide ((k : Int) < 131328) = false := decide_eq_false (by unfold BigK at HB; omega)
    go_wp2_with (first
      | (go_at_call 13; refine (cut_nil _ _).mono ?_; rintro e w' ⟨rfl, rfl⟩)
      | (go_at_call 16; refine (come_nil _).mono ?_; rintro e w' ⟨rfl, rfl⟩)
      | (go_at_call 15; refine (fuse_nil _ _ _).mono ?_; rintro e w' ⟨rfl, rfl⟩)
      | (go_at_call 17; refine (read_nil _ _).mono ?_; rintro e w' ⟨rfl, rfl⟩)
      | (go_at_call 20; refine (write_nil _ _ _).mono ?_; rintro e w' ⟨rfl, rfl⟩)
      | (go_at_call 10; refine (flush_nil _).mono ?_; rintro e w' ⟨rfl, rfl⟩)
      | (go_at_call 25; refine (len_nil _).mono ?_; rintro e w' ⟨rfl, rfl⟩)
      | (go_at_call 23; refine (loose_nil _).mono ?_; rintro e w' ⟨rfl, rfl⟩)
      | (go_at_call 21; refine (at_nil _).mono ?_; rintro e w' ⟨rfl, rfl⟩)
      | (go_at_call 22; refine (isOn_nil _).mono ?_; rintro e w' ⟨rfl, rfl⟩)
      | (go_at_call 24; refine (image_nil2 _).mono ?_; rintro e w' ⟨rfl, rfl⟩))
    refine (count_nil _).mono ?_
    rintro e w9 ⟨rfl, s9⟩
    go_wp2_with fail
    go_ret
    exact ⟨rfl, A5.trans s9⟩

set_option maxHeartbeats 4000000 in
set_option maxRecDepth 100000 in
theorem sizes_oi (n : Int) (hn : n < 1 ∨ 512 < n) (z : Int) (k : Nat) (hk : wrap64 ((IntKind.u64.wrap z).tmod 131672) = (k : Int)) (hk1 : 256 ≤ k) (hk2 : k < 131328) (w : World) :
    Calls Try.prog 4 #[.int .i64 n, .int .i64 z] w fun e w' => e = .returned (.bool true) ∧ Step noF w w' := by
  rcases hn with hn' | hn'
  · have k1 : n < 1 := hn'
    have hn : n < 1 ∨ 512 < n := .inl hn'
    have k3 : ¬ 1 ≤ n := by omega
    have HK1 := hid hk1
    have HK2 := hid hk2
    clear hk1 hk2
    go_enter Try.func4, Try.ntmps4
    go_wp2_with fail
    refine (awake_any _).mono ?_
    rintro e w3 ⟨rfl, A3⟩
    go_wp2_with fail
    refine (new_none n hn _).mono ?_
    rintro e w' ⟨rfl, rfl⟩
    have hk6 : k ≤ 1000000 := by have := HK2.out; omega
    have hmk := mk_bytes k hk6
    obtain ⟨X, hX⟩ : ∃ X, str (List.replicate k 0) = X := ⟨_, rfl⟩
    have hXs : X.size = k := by rw [← hX, str_size, List.length_replicate]
    have hcv := fun u => conv_zeros k hk6 u X hX
    have HX := hid hX
    have HXS := hid hXs
    clear hX hXs hk6
    go_wp2_with fail
    obtain ⟨m, hm9⟩ : ∃ m, k / 256 = m := ⟨_, rfl⟩
    have hm1 : 1 ≤ m := by have := HK1.out; omega
    have hm5 : m ≤ 512 := by have := HK2.out; omega
    refine (of_any X m (by rw [HXS.out]; exact hm9) hm1 hm5 _ (fun _ => 0) 0).mono ?_
    rintro e w5 ⟨p2, R2, hR2, rfl, s5, hp2, hd5⟩
    have hl5 := len_any w5 R2 0 p2 _ hd5
    rw [show (newD (blocksOf X.data.toList m)).safe.length = m from blocksOf_length _ _] at hl5
    have q1 : (k : Int).tdiv 256 = (m : Int) := by rw [Int.tdiv_eq_ediv_of_nonneg (by omega)]; omega
    have q2 : (k : Int) / 256 = (m : Int) := by omega
    have q3 : IntKind.i64.wrap (m : Int) = (m : Int) := iw rfl (by omega) (by omega)
    have q4 : (256 : Int) ≤ (k : Int) := by have := HK1.out; omega
    have q5 : (k : Int) < 131328 := by have := HK2.out; omega
    have HM9 := hid hm9
    clear hm9 hd5
    go_wp2_with fail
    refine hl5.mono ?_
    rintro e w' ⟨rfl, rfl⟩
    have A5 := (A3.alloc _).trans s5
    go_wp2_with (first
      | (go_at_call 13; refine (cut_nil _ _).mono ?_; rintro e w' ⟨rfl, rfl⟩)
      | (go_at_call 16; refine (come_nil _).mono ?_; rintro e w' ⟨rfl, rfl⟩)
      | (go_at_call 15; refine (fuse_nil _ _ _).mono ?_; rintro e w' ⟨rfl, rfl⟩)
      | (go_at_call 17; refine (read_nil _ _).mono ?_; rintro e w' ⟨rfl, rfl⟩)
      | (go_at_call 20; refine (write_nil _ _ _).mono ?_; rintro e w' ⟨rfl, rfl⟩)
      | (go_at_call 10; refine (flush_nil _).mono ?_; rintro e w' ⟨rfl, rfl⟩)
      | (go_at_call 25; refine (len_nil _).mono ?_; rintro e w' ⟨rfl, rfl⟩)
      | (go_at_call 23; refine (loose_nil _).mono ?_; rintro e w' ⟨rfl, rfl⟩)
      | (go_at_call 21; refine (at_nil _).mono ?_; rintro e w' ⟨rfl, rfl⟩)
      | (go_at_call 22; refine (isOn_nil _).mono ?_; rintro e w' ⟨rfl, rfl⟩)
      | (go_at_call 24; refine (image_nil2 _).mono ?_; rintro e w' ⟨rfl, rfl⟩))
    refine (count_nil _).mono ?_
    rintro e w9 ⟨rfl, s9⟩
    go_wp2_with fail
    go_ret
    exact ⟨rfl, A5.trans s9⟩
  · have k1 : ¬ n < 1 := by omega
    have k3 : 1 ≤ n := by omega
    have k2 : 512 < n := hn'
    have k4 : ¬ n ≤ 512 := by omega
    have hn : n < 1 ∨ 512 < n := .inr hn'
    have HK1 := hid hk1
    have HK2 := hid hk2
    clear hk1 hk2
    go_enter Try.func4, Try.ntmps4
    go_wp2_with fail
    refine (awake_any _).mono ?_
    rintro e w3 ⟨rfl, A3⟩
    go_wp2_with fail
    refine (new_none n hn _).mono ?_
    rintro e w' ⟨rfl, rfl⟩
    have hk6 : k ≤ 1000000 := by have := HK2.out; omega
    have hmk := mk_bytes k hk6
    obtain ⟨X, hX⟩ : ∃ X, str (List.replicate k 0) = X := ⟨_, rfl⟩
    have hXs : X.size = k := by rw [← hX, str_size, List.length_replicate]
    have hcv := fun u => conv_zeros k hk6 u X hX
    have HX := hid hX
    have HXS := hid hXs
    clear hX hXs hk6
    go_wp2_with fail
    obtain ⟨m, hm9⟩ : ∃ m, k / 256 = m := ⟨_, rfl⟩
    have hm1 : 1 ≤ m := by have := HK1.out; omega
    have hm5 : m ≤ 512 := by have := HK2.out; omega
    refine (of_any X m (by rw [HXS.out]; exact hm9) hm1 hm5 _ (fun _ => 0) 0).mono ?_
    rintro e w5 ⟨p2, R2, hR2, rfl, s5, hp2, hd5⟩
    have hl5 := len_any w5 R2 0 p2 _ hd5
    rw [show (newD (blocksOf X.data.toList m)).safe.length = m from blocksOf_length _ _] at hl5
    have q1 : (k : Int).tdiv 256 = (m : Int) := by rw [Int.tdiv_eq_ediv_of_nonneg (by omega)]; omega
    have q2 : (k : Int) / 256 = (m : Int) := by omega
    have q3 : IntKind.i64.wrap (m : Int) = (m : Int) := iw rfl (by omega) (by omega)
    have q4 : (256 : Int) ≤ (k : Int) := by have := HK1.out; omega
    have q5 : (k : Int) < 131328 := by have := HK2.out; omega
    have HM9 := hid hm9
    clear hm9 hd5
    go_wp2_with fail
    refine hl5.mono ?_
    rintro e w' ⟨rfl, rfl⟩
    have A5 := (A3.alloc _).trans s5
    go_wp2_with (first
      | (go_at_call 13; refine (cut_nil _ _).mono ?_; rintro e w' ⟨rfl, rfl⟩)
      | (go_at_call 16; refine (come_nil _).mono ?_; rintro e w' ⟨rfl, rfl⟩)
      | (go_at_call 15; refine (fuse_nil _ _ _).mono ?_; rintro e w' ⟨rfl, rfl⟩)
      | (go_at_call 17; refine (read_nil _ _).mono ?_; rintro e w' ⟨rfl, rfl⟩)
      | (go_at_call 20; refine (write_nil _ _ _).mono ?_; rintro e w' ⟨rfl, rfl⟩)
      | (go_at_call 10; refine (flush_nil _).mono ?_; rintro e w' ⟨rfl, rfl⟩)
      | (go_at_call 25; refine (len_nil _).mono ?_; rintro e w' ⟨rfl, rfl⟩)
      | (go_at_call 23; refine (loose_nil _).mono ?_; rintro e w' ⟨rfl, rfl⟩)
      | (go_at_call 21; refine (at_nil _).mono ?_; rintro e w' ⟨rfl, rfl⟩)
      | (go_at_call 22; refine (isOn_nil _).mono ?_; rintro e w' ⟨rfl, rfl⟩)
      | (go_at_call 24; refine (image_nil2 _).mono ?_; rintro e w' ⟨rfl, rfl⟩))
    refine (count_nil _).mono ?_
    rintro e w9 ⟨rfl, s9⟩
    go_wp2_with fail
    go_ret
    exact ⟨rfl, A5.trans s9⟩

set_option maxHeartbeats 4000000 in
set_option maxRecDepth 100000 in
theorem sizes_oo (n : Int) (hn : n < 1 ∨ 512 < n) (z : Int) (k : Nat) (hk : wrap64 ((IntKind.u64.wrap z).tmod 131672) = (k : Int)) (hk1 : k < 256 ∨ 131328 ≤ k) (hk2 : k < 131672) (w : World) :
    Calls Try.prog 4 #[.int .i64 n, .int .i64 z] w fun e w' => e = .returned (.bool true) ∧ Step noF w w' := by
  rcases hn with hn' | hn'
  · have k1 : n < 1 := hn'
    have hn : n < 1 ∨ 512 < n := .inl hn'
    have k3 : ¬ 1 ≤ n := by omega
    rcases hk1 with hk1 | hk1
    · have j1 : ¬ (256 : Int) ≤ (k : Int) := by omega
      have HK1 := hid hk1
      have HK2 := hid hk2
      clear hk1 hk2
      go_enter Try.func4, Try.ntmps4
      go_wp2_with fail
      refine (awake_any _).mono ?_
      rintro e w3 ⟨rfl, A3⟩
      go_wp2_with fail
      refine (new_none n hn _).mono ?_
      rintro e w' ⟨rfl, rfl⟩
      have hk6 : k ≤ 1000000 := by have := HK2.out; omega
      have hmk := mk_bytes k hk6
      obtain ⟨X, hX⟩ : ∃ X, str (List.replicate k 0) = X := ⟨_, rfl⟩
      have hXs : X.size = k := by rw [← hX, str_size, List.length_replicate]
      have hcv := fun u => conv_zeros k hk6 u X hX
      have HX := hid hX
      have HXS := hid hXs
      clear hX hXs hk6
      go_wp2_with fail
      refine (of_none X (by have := HK1.out; have := HK2.out; rw [HXS.out]; omega) _ (by have := HK2.out; rw [HXS.out]; omega)).mono ?_
      rintro e w5 ⟨rfl, rfl⟩
      have A5 := A3.alloc (.cells (madeCells #[.int .u8 0] k) 5)
      go_wp2_with (first
        | (go_at_call 13; refine (cut_nil _ _).mono ?_; rintro e w' ⟨rfl, rfl⟩)
        | (go_at_call 16; refine (come_nil _).mono ?_; rintro e w' ⟨rfl, rfl⟩)
        | (go_at_call 15; refine (fuse_nil _ _ _).mono ?_; rintro e w' ⟨rfl, rfl⟩)
        | (go_at_call 17; refine (read_nil _ _).mono ?_; rintro e w' ⟨rfl, rfl⟩)
        | (go_at_call 20; refine (write_nil _ _ _).mono ?_; rintro e w' ⟨rfl, rfl⟩)
        | (go_at_call 10; refine (flush_nil _).mono ?_; rintro e w' ⟨rfl, rfl⟩)
        | (go_at_call 25; refine (len_nil _).mono ?_; rintro e w' ⟨rfl, rfl⟩)
        | (go_at_call 23; refine (loose_nil _).mono ?_; rintro e w' ⟨rfl, rfl⟩)
        | (go_at_call 21; refine (at_nil _).mono ?_; rintro e w' ⟨rfl, rfl⟩)
        | (go_at_call 22; refine (isOn_nil _).mono ?_; rintro e w' ⟨rfl, rfl⟩)
        | (go_at_call 24; refine (image_nil2 _).mono ?_; rintro e w' ⟨rfl, rfl⟩))
      refine (count_nil _).mono ?_
      rintro e w9 ⟨rfl, s9⟩
      go_wp2_with fail
      go_ret
      exact ⟨rfl, A5.trans s9⟩
    · have HB : BigK k := ⟨hk1, hk2⟩
      clear hk1 hk2
      go_enter Try.func4, Try.ntmps4
      go_wp2_with fail
      refine (awake_any _).mono ?_
      rintro e w3 ⟨rfl, A3⟩
      go_wp2_with fail
      refine (new_none n hn _).mono ?_
      rintro e w' ⟨rfl, rfl⟩
      have hk6 : k ≤ 1000000 := by unfold BigK at HB; omega
      have hmk := mk_bytes k hk6
      obtain ⟨X, hX⟩ : ∃ X, str (List.replicate k 0) = X := ⟨_, rfl⟩
      have hXs : X.size = k := by rw [← hX, str_size, List.length_replicate]
      have hcv := fun u => conv_zeros k hk6 u X hX
      have HX := hid hX
      have HXS := hid hXs
      clear hX hXs hk6
      go_wp2_with fail
      refine (of_none X (by rw [HXS.out]; unfold BigK at HB; omega) _ (by rw [HXS.out]; unfold BigK at HB; omega)).mono ?_
      rintro e w5 ⟨rfl, rfl⟩
      have A5 := A3.alloc (.cells (madeCells #[.int .u8 0] k) 5)
      have j1 : (256 : Int) ≤ (k : Int) := by unfold BigK at HB; omega
      have j2 : decide ((k : Int) < 131328) = false := decide_eq_false (by unfold BigK at HB; omega)
      go_wp2_with (first
        | (go_at_call 13; refine (cut_nil _ _).mono ?_; rintro e w' ⟨rfl, rfl⟩)
        | (go_at_call 16; refine (come_nil _).mono ?_; rintro e w' ⟨rfl, rfl⟩)
        | (go_at_call 15; refine (fuse_nil _ _ _).mono ?_; rintro e w' ⟨rfl, rfl⟩)
        | (go_at_call 17; refine (read_nil _ _).mono ?_; rintro e w' ⟨rfl, rfl⟩)
        | (go_at_call 20; refine (write_nil _ _ _).mono ?_; rintro e w' ⟨rfl, rfl⟩)
        | (go_at_call 10; refine (flush_nil _).mono ?_; rintro e w' ⟨rfl, rfl⟩)
        | (go_at_call 25; refine (len_nil _).mono ?_; rintro e w' ⟨rfl, rfl⟩)
        | (go_at_call 23; refine (loose_nil _).mono ?_; rintro e w' ⟨rfl, rfl⟩)
        | (go_at_call 21; refine (at_nil _).mono ?_; rintro e w' ⟨rfl, rfl⟩)
        | (go_at_call 22; refine (isOn_nil _).mono ?_; rintro e w' ⟨rfl, rfl⟩)
        | (go_at_call 24; refine (image_nil2 _).mono ?_; rintro e w' ⟨rfl, rfl⟩))
      refine (count_nil _).mono ?_
      rintro e w9 ⟨rfl, s9⟩
      go_wp2_with fail
      go_ret
      exact ⟨rfl, A5.trans s9⟩
  · have k1 : ¬ n < 1 := by omega
    have k3 : 1 ≤ n := by omega
    have k2 : 512 < n := hn'
    have k4 : ¬ n ≤ 512 := by omega
    have hn : n < 1 ∨ 512 < n := .inr hn'
    rcases hk1 with hk1 | hk1
    · have j1 : ¬ (256 : Int) ≤ (k : Int) := by omega
      have HK1 := hid hk1
      have HK2 := hid hk2
      clear hk1 hk2
      go_enter Try.func4, Try.ntmps4
      go_wp2_with fail
      refine (awake_any _).mono ?_
      rintro e w3 ⟨rfl, A3⟩
      go_wp2_with fail
      refine (new_none n hn _).mono ?_
      rintro e w' ⟨rfl, rfl⟩
      have hk6 : k ≤ 1000000 := by have := HK2.out; omega
      have hmk := mk_bytes k hk6
      obtain ⟨X, hX⟩ : ∃ X, str (List.replicate k 0) = X := ⟨_, rfl⟩
      have hXs : X.size = k := by rw [← hX, str_size, List.length_replicate]
      have hcv := fun u => conv_zeros k hk6 u X hX
      have HX := hid hX
      have HXS := hid hXs
      clear hX hXs hk6
      go_wp2_with fail
      refine (of_none X (by have := HK1.out; have := HK2.out; rw [HXS.out]; omega) _ (by have := HK2.out; rw [HXS.out]; omega)).mono ?_
      rintro e w5 ⟨rfl, rfl⟩
      have A5 := A3.alloc (.cells (madeCells #[.int .u8 0] k) 5)
      go_wp2_with (first
        | (go_at_call 13; refine (cut_nil _ _).mono ?_; rintro e w' ⟨rfl, rfl⟩)
        | (go_at_call 16; refine (come_nil _).mono ?_; rintro e w' ⟨rfl, rfl⟩)
        | (go_at_call 15; refine (fuse_nil _ _ _).mono ?_; rintro e w' ⟨rfl, rfl⟩)
        | (go_at_call 17; refine (read_nil _ _).mono ?_; rintro e w' ⟨rfl, rfl⟩)
        | (go_at_call 20; refine (write_nil _ _ _).mono ?_; rintro e w' ⟨rfl, rfl⟩)
        | (go_at_call 10; refine (flush_nil _).mono ?_; rintro e w' ⟨rfl, rfl⟩)
        | (go_at_call 25; refine (len_nil _).mono ?_; rintro e w' ⟨rfl, rfl⟩)
        | (go_at_call 23; refine (loose_nil _).mono ?_; rintro e w' ⟨rfl, rfl⟩)
        | (go_at_call 21; refine (at_nil _).mono ?_; rintro e w' ⟨rfl, rfl⟩)
        | (go_at_call 22; refine (isOn_nil _).mono ?_; rintro e w' ⟨rfl, rfl⟩)
        | (go_at_call 24; refine (image_nil2 _).mono ?_; rintro e w' ⟨rfl, rfl⟩))
      refine (count_nil _).mono ?_
      rintro e w9 ⟨rfl, s9⟩
      go_wp2_with fail
      go_ret
      exact ⟨rfl, A5.trans s9⟩
    · have HB : BigK k := ⟨hk1, hk2⟩
      clear hk1 hk2
      go_enter Try.func4, Try.ntmps4
      go_wp2_with fail
      refine (awake_any _).mono ?_
      rintro e w3 ⟨rfl, A3⟩
      go_wp2_with fail
      refine (new_none n hn _).mono ?_
      rintro e w' ⟨rfl, rfl⟩
      have hk6 : k ≤ 1000000 := by unfold BigK at HB; omega
      have hmk := mk_bytes k hk6
      obtain ⟨X, hX⟩ : ∃ X, str (List.replicate k 0) = X := ⟨_, rfl⟩
      have hXs : X.size = k := by rw [← hX, str_size, List.length_replicate]
      have hcv := fun u => conv_zeros k hk6 u X hX
      have HX := hid hX
      have HXS := hid hXs
      clear hX hXs hk6
      go_wp2_with fail
      refine (of_none X (by rw [HXS.out]; unfold BigK at HB; omega) _ (by rw [HXS.out]; unfold BigK at HB; omega)).mono ?_
      rintro e w5 ⟨rfl, rfl⟩
      have A5 := A3.alloc (.cells (madeCells #[.int .u8 0] k) 5)
      have j1 : (256 : Int) ≤ (k : Int) := by unfold BigK at HB; omega
      have j2 : decide ((k : Int) < 131328) = false := decide_eq_false (by unfold BigK at HB; omega)
      go_wp2_with (first
        | (go_at_call 13; refine (cut_nil _ _).mono ?_; rintro e w' ⟨rfl, rfl⟩)
        | (go_at_call 16; refine (come_nil _).mono ?_; rintro e w' ⟨rfl, rfl⟩)
        | (go_at_call 15; refine (fuse_nil _ _ _).mono ?_; rintro e w' ⟨rfl, rfl⟩)
        | (go_at_call 17; refine (read_nil _ _).mono ?_; rintro e w' ⟨rfl, rfl⟩)
        | (go_at_call 20; refine (write_nil _ _ _).mono ?_; rintro e w' ⟨rfl, rfl⟩)
        | (go_at_call 10; refine (flush_nil _).mono ?_; rintro e w' ⟨rfl, rfl⟩)
        | (go_at_call 25; refine (len_nil _).mono ?_; rintro e w' ⟨rfl, rfl⟩)
        | (go_at_call 23; refine (loose_nil _).mono ?_; rintro e w' ⟨rfl, rfl⟩)
        | (go_at_call 21; refine (at_nil _).mono ?_; rintro e w' ⟨rfl, rfl⟩)
        | (go_at_call 22; refine (isOn_nil _).mono ?_; rintro e w' ⟨rfl, rfl⟩)
        | (go_at_call 24; refine (image_nil2 _).mono ?_; rintro e w' ⟨rfl, rfl⟩))
      refine (count_nil _).mono ?_
      rintro e w9 ⟨rfl, s9⟩
      go_wp2_with fail
      go_ret
      exact ⟨rfl, A5.trans s9⟩

theorem sizes_walk (n z : Int) (w : World) : Calls Try.prog 4 #[.int .i64 n, .int .i64 z] w fun e w' => e = .returned (.bool true) ∧ Step noF w w' := by
  obtain ⟨k, hk, hkl⟩ : ∃ k : Nat, wrap64 ((IntKind.u64.wrap z).tmod 131672) = (k : Int) ∧ k < 131672 := by
    have h0 := wrap_u64_nonneg z
    have e : (IntKind.u64.wrap z).tmod 131672 = (IntKind.u64.wrap z) % 131672 := Int.tmod_eq_emod_of_nonneg h0
    have l0 := Int.emod_nonneg (IntKind.u64.wrap z) (b := 131672) (by omega)
    have l1 := Int.emod_lt_of_pos (IntKind.u64.wrap z) (b := 131672) (by omega)
    refine ⟨((IntKind.u64.wrap z) % 131672).toNat, ?_, by omega⟩
    rw [e]
    unfold wrap64
    omega
  by_cases hn : 1 ≤ n ∧ n ≤ 512
  · obtain ⟨m, rfl⟩ := Int.eq_ofNat_of_zero_le (show 0 ≤ n by omega)
    by_cases hk2 : 256 ≤ k ∧ k < 131328
    · exact sizes_ii m (by omega) (by omega) z k hk hk2.1 hk2.2 w
    · exact sizes_io m (by omega) (by omega) z k hk (by omega) hkl w
  · by_cases hk2 : 256 ≤ k ∧ k < 131328
    · exact sizes_oi n (by omega) z k hk hk2.1 hk2.2 w
    · exact sizes_oo n (by omega) z k hk (by omega) hkl w
end Go.Proofs.Ytkmfpdpgbopdmaa
