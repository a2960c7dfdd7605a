/-
  The law's own look at numbers: awake.
-/
import Derived.Test.YthgcpeibjnflaaaDevI
namespace Go.Proofs.Ythgcpeibjnflaaa
open Go.RowKit
set_option linter.unusedVariables false

def aw0 : Dv := newD (List.replicate 2 zeroB)
def aw1 : Dv := wrD aw0 1 (blk 7)
def aw3 : Dv := readD aw1 1
def aw4 : Dv := cutD aw3 [false, true]
def aw6 : Dv := comeD aw4
def aw7 : Dv := readD aw6 1
theorem aw0_wf : Wf aw0 := newD_wf _ (by decide) (by decide) (fun x hx => by rw [List.mem_replicate] at hx; rw [hx.2]; exact zeroB_len)
theorem aw1_few : Few aw1 1 := wrD_few _ _ _ _ (newD_few _)
theorem aw1_wf : Wf aw1 := wrD_wf _ _ _ aw0_wf 0 (newD_few _) (by omega)
theorem aw3_wf : Wf aw3 := readD_wf _ _ aw1_wf 1 aw1_few (by omega)
theorem aw3_few : Few aw3 2 := readD_few _ _ _ aw1_few
theorem aw4_wf : Wf aw4 := cutD_wf _ _ aw3_wf
theorem aw6_wf : Wf aw6 := comeD_wf _ aw4_wf
theorem aw_e1 : wrE aw0 1 (blk 7) = 0 := by kernel_rfl
theorem aw_e2 : wrE aw1 2 (blk 7) = 3 := by kernel_rfl
theorem aw_d2 : wrD aw1 2 (blk 7) = aw1 := by kernel_rfl
theorem aw_v1 : readV aw1 1 = blk 7 := by kernel_rfl
theorem aw_r1 : readE aw1 1 = 0 := by kernel_rfl
theorem aw_r4 : readE aw4 1 = 4 := by kernel_rfl
theorem aw_v4 : readV aw4 1 = [] := by kernel_rfl
theorem aw_d4 : readD aw4 1 = aw4 := by kernel_rfl
theorem aw_r6 : readE aw6 1 = 0 := by kernel_rfl
theorem aw_s6 : (readV aw6 1).length = 256 := by kernel_rfl
theorem aw_63 : (readV aw6 1)[63]? = some 0 := by kernel_rfl
theorem aw_64 : (readV aw6 1)[64]? = some 7 := by kernel_rfl
theorem aw_127 : (readV aw6 1)[127]? = some 7 := by kernel_rfl
theorem aw_128 : (readV aw6 1)[128]? = some 0 := by kernel_rfl
theorem aw_c : (aw7.reads, aw7.writes, aw7.flushes) = (2, 1, 0) := by kernel_rfl
theorem str_at (l : List UInt8) (q : Nat) (hq : q < (str l).size) (b : UInt8) (hb : l[q]? = some b) : (str l)[q] = b := by
  obtain ⟨h1, h2⟩ := List.getElem?_eq_some_iff.1 hb
  rw [← h2]
  rfl
set_option maxHeartbeats 4000000 in
theorem awake_any (w : World) : Calls Try.prog 7 #[] w fun e w' => e = .returned (.bool true) ∧ Step noF w w' := by
  obtain ⟨X, hX⟩ : ∃ X, str (blk 7) = X := ⟨_, rfl⟩
  obtain ⟨T, hT⟩ : ∃ T, str (readV aw6 1) = T := ⟨_, rfl⟩
  go_enter Try.func7, Try.ntmps7
  go_wp2_with fail
  refine (new_any 2 2 rfl (by omega) (by omega) w (fun _ => 0) 0).mono ?_
  rintro e w1 ⟨p, R, hR, rfl, s1, hp, hd⟩
  have H1 := hid (show IsDev w1 R 0 p aw0 from hd)
  clear hd
  go_wp2_with fail
  refine (new_none 0 (by omega) _).mono ?_
  rintro e w' ⟨rfl, rfl⟩
  go_wp2_with fail
  refine (block_call 7 7 rfl X hX _).mono ?_
  rintro e w2 ⟨rfl, s2⟩
  go_wp2_with fail
  refine (write_call w2 R 0 p aw0 (H1.out.step s2) aw0_wf 1 (blk 7) (by rw [blk_len]; omega) X hX 0 aw1 aw_e1 rfl).mono ?_
  rintro e w3 ⟨rfl, s3, R3, hR3, hd3⟩
  have H3 := hid hd3
  clear hd3
  go_wp2_with fail
  refine (block_call 7 7 rfl X hX _).mono ?_
  rintro e w4 ⟨rfl, s4⟩
  go_wp2_with fail
  refine (write_call w4 R3 0 p aw1 (H3.out.step s4) aw1_wf 2 (blk 7) (by rw [blk_len]; omega) X hX 3 aw1 aw_e2 aw_d2).mono ?_
  rintro e w5 ⟨rfl, s5, R5, hR5, hd5⟩
  have H5 := hid hd5
  clear hd5
  go_wp2_with fail
  refine (read_call w5 R5 0 p aw1 H5.out aw1_wf 1 X 0 aw3 (by rw [aw_v1, hX]) aw_r1 rfl).mono ?_
  rintro e w6 ⟨rfl, s6, hd6⟩
  have H6 := hid hd6
  clear hd6
  go_wp2_with fail
  have hlt6 := H6.out.lt
  refine (cut_call _ (fun k => if k < w6.heap.size then R5 k else 99) 0 p aw3 ((H6.out.roles (fun k hk => if_pos hk)).step ((Step.refl noF w6).alloc _)) aw3_wf _ 2 2 [false, true] rfl (by decide) (by decide) (rowAt_new w6 _ (fun k hk => by
      rcases Nat.lt_or_ge k w6.heap.size with h | h
      · exact h
      · exfalso; simp only [if_neg (Nat.not_lt.2 h)] at hk; omega) _ _ _ rfl _ rfl) aw4 rfl).mono ?_
  rintro e w7 ⟨rfl, s7, hd7⟩
  have H7 := hid hd7
  clear hd7
  go_wp2_with fail
  refine (read_call w7 _ 0 p aw4 H7.out aw4_wf 1 ⟨#[]⟩ 4 aw4 (by rw [aw_v4]; rfl) aw_r4 aw_d4).mono ?_
  rintro e w8 ⟨rfl, s8, hd8⟩
  have H8 := hid hd8
  clear hd8
  go_wp2_with fail
  refine (come_call w8 _ 0 p aw4 H8.out aw6 rfl).mono ?_
  rintro e w9 ⟨rfl, s9, hd9⟩
  have H9 := hid hd9
  clear hd9
  go_wp2_with fail
  refine (read_call w9 _ 0 p aw6 H9.out aw6_wf 1 T 0 aw7 hT aw_r6 rfl).mono ?_
  rintro e w10 ⟨rfl, s10, hd10⟩
  have H10 := hid hd10
  clear hd10
  go_wp2_with fail
  refine (block_call 7 7 rfl X hX _).mono ?_
  rintro e w11 ⟨rfl, s11⟩
  have hTs : T.size = 256 := by rw [← hT, str_size, aw_s6]
  have bt : ∀ (q : Nat) (b : UInt8) (hq : q < T.size), (readV aw6 1)[q]? = some b → T[q] = b := by
    intro q b hq hb
    subst hT
    exact str_at _ q hq b hb
  have b63 := bt 63 0 (by omega) aw_63
  have b64 := bt 64 7 (by omega) aw_64
  have b127 := bt 127 7 (by omega) aw_127
  have b128 := bt 128 0 (by omega) aw_128
  clear bt
  go_wp2_with fail
  have hct := count_any w11 _ 0 p aw7 (H10.out.step s11)
  have hcc := aw_c
  simp only [Prod.mk.injEq] at hcc
  rw [hcc.1, hcc.2.1, hcc.2.2] at hct
  refine hct.mono ?_
  rintro e w12 ⟨rfl, s12⟩
  go_wp2_with fail
  go_ret
  have nz : ∀ {Q : Nat → Nat}, (∀ q, q < w.heap.size → Q q = 0) → ∀ q, q < w.heap.size → ¬ (0 < Q q ∧ Q q ≤ 0 + 6) := fun h q hq x => by have := h q hq; omega
  have A2 := s1.trans s2
  have A3 := A2.fresh s3 (nz hR)
  have z3 := agree A2 hR hR3
  have A4 := A3.trans s4
  have A5 := A4.fresh s5 (nz z3)
  have z5 := agree A4 z3 hR5
  have A6 := A5.fresh s6 (nz z5)
  have z6 : ∀ q, q < w.heap.size → (fun k => if k < w6.heap.size then R5 k else 99) q = 0 := fun q hq => (if_pos (Nat.lt_of_lt_of_le hq A6.size)).trans (z5 q hq)
  have A7 := (A6.alloc _).fresh s7 (nz z6)
  have A8 := A7.fresh s8 (nz z6)
  have A9 := A8.fresh s9 (nz z6)
  have A10 := A9.fresh s10 (nz z6)
  exact ⟨rfl, (A10.trans s11).trans s12⟩
end Go.Proofs.Ythgcpeibjnflaaa
