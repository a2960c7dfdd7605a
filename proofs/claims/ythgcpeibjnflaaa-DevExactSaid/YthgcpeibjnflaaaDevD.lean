/-
  What a device does, 2: laidOver, Cut, goesOn.
-/
import Derived.Test.YthgcpeibjnflaaaDevC
import Derived.Lib.LazyBuf
namespace Go.Proofs.Ythgcpeibjnflaaa
open Go.RowKit
set_option linter.unusedVariables false

/-- 'copy(dst, s)', s a text no shorter than dst: as many bytes as dst holds. -/
theorem run_copy_cut {P : Program} (w : World) (dT sT ty elem : TypeId) (b o dLen dCap : Nat) (t : ByteArray)
    (hu : P.underlying dT = some (.slice elem)) (hz : ∀ w, (Go.sizeOf elem).run P w = .ok 1 w) (hle : dLen ≤ t.size)
    (hc : ∀ j, j < dLen → (w.cell? ⟨b, o + j, none⟩).isSome = true) (hf : ∀ j, j < dLen → w.frozen? ⟨b, o + j, none⟩ = false) :
    (Builtin.copy_ #[dT, sT] ty #[.slice (some ⟨b, o, none⟩) dLen dCap, .string t]).run P w = .ok (goInt dLen) (w.setCells b o (cellsOf (t.data.toList.take dLen))) := by
  have hmin : Nat.min t.size dLen = dLen := Nat.min_eq_right hle
  have hl : (cellsOf (t.data.toList.take dLen)).length = dLen := by rw [cellsOf_length, List.length_take, list_len]; omega
  have hst := run_storeCells_cells (P := P) b o (cellsOf (t.data.toList.take dLen)) 0 w (by rw [hl]; simpa using hc) (by rw [hl]; simpa using hf) (by
    intro v hv
    obtain ⟨x, _, rfl⟩ := List.mem_map.1 hv
    rfl)
  simp [Builtin.copy_, run_underlying hu, Builtin.lenOf, Builtin.firstCells, hz, hmin]
  rw [show List.take dLen (List.map (fun b : UInt8 => Value.int IntKind.u8 (b.toNat : Int)) t.data.toList) = cellsOf (t.data.toList.take dLen) from by rw [cellsOf, List.map_take]]
  simp only [Nat.add_zero] at hst
  rw [hst]
  rfl
theorem step_copy_cut {P : Program} {ops : Array Oper} {o : Oper} {a : Act} {w : World} {K : Act → World → Prop} {Q : Exit → Act → World → Prop} {E : Prop}
    (hg : o.guard = none) (d x : Operand) (dT sT : TypeId) (hop : o.op = Op.call { callee := Callee.builtin Builtin.copy, args := #[d, x], argTypes := #[dT, sT] })
    (elem : TypeId) (hu : P.underlying dT = some (.slice elem)) (hz : ∀ w, (Go.sizeOf elem).run P w = .ok 1 w)
    (b off dLen dCap : Nat) (hd : a.eval d = .slice (some ⟨b, off, none⟩) dLen dCap) (t : ByteArray) (hx : a.eval x = .string t) (hle : dLen ≤ t.size)
    (hc : ∀ j, j < dLen → (w.cell? ⟨b, off + j, none⟩).isSome = true) (hf : ∀ j, j < dLen → w.frozen? ⟨b, off + j, none⟩ = false)
    (hK : K (a.put o.dst (goInt dLen)) (w.setCells b off (cellsOf (t.data.toList.take dLen)))) :
    if Region.wanted o (yielded ops a.tmps) = true then Oper.wp P o a w K Q else E := by
  have hw : Region.wanted o (yielded ops a.tmps) = true := by simp [Region.wanted, hg]
  rw [if_pos hw]
  have hrun := run_copy_cut (P := P) w dT sT o.type elem b off dLen dCap t hu hz hle hc hf
  unfold Oper.wp
  simp [execOp, hop, resolve, invoke, builtin, hd, hx, hrun, Result.andThen]
  exact hK

theorem block_setCells {g : Nat} {e : TypeId} {fz : Nat × Nat} (vs : List Value) : ∀ (o : Nat) (w : World) (A : Array Value), w.heap[g]? = some (.cells A e fz) → o + vs.length ≤ A.size →
    ∃ A', (w.setCells g o vs).heap[g]? = some (.cells A' e fz) ∧ A'.toList = A.toList.take o ++ vs ++ A.toList.drop (o + vs.length) := by
  induction vs with
  | nil => intro o w A h hl; exact ⟨A, h, by simp⟩
  | cons v vs ih =>
    intro o w A h hl
    obtain ⟨A', h1, h2⟩ := ih (o + 1) (w.setCell ⟨g, o, none⟩ v) _ (block_setCell h o v) (by simp at hl ⊢; omega)
    refine ⟨A', h1, ?_⟩
    rw [h2, Array.toList_setIfInBounds]
    simp at hl
    rw [List.drop_set_of_lt (by omega), List.take_add_one, List.take_set_of_le (Nat.le_refl _), List.getElem?_set_self (by simpa using by omega)]
    simp [Nat.add_assoc, Nat.add_comm 1]
theorem step_setCells {F : Nat → Prop} {a : World} {g : Nat} (hg : F g ∨ a.heap.size ≤ g) (vs : List Value) : ∀ (o : Nat) (w : World), Step F a w → Step F a (w.setCells g o vs) := by
  induction vs with
  | nil => intro o w h; exact h
  | cons v vs ih => intro o w h; exact ih (o + 1) _ (h.setCell (p := ⟨g, o, none⟩) hg v)
theorem frozen_same {w w' : World} {g : Nat} {A A' : Array Value} {e : TypeId} {fz : Nat × Nat} (h : w.heap[g]? = some (.cells A e fz)) (h' : w'.heap[g]? = some (.cells A' e fz)) (q : Nat) : w'.frozen? ⟨g, q, none⟩ = w.frozen? ⟨g, q, none⟩ := by
  simp [World.frozen?, h, h']

theorem conv_bytes2 {P : Program} (src dst e : TypeId) (hs : P.underlying src = some .string) (hd : P.underlying dst = some (.slice e)) (he : P.underlying e = some (.int .u8)) (s : ByteArray) (w : World) :
    ∃ cap A fz wc rest, (convert src dst (.string s)).run P w = .ok (.slice (some ⟨w.heap.size, 0, none⟩) s.size cap) wc ∧ s.size ≤ cap ∧ Step noF w wc ∧ wc.heap[w.heap.size]? = some (.cells A e fz) ∧ A.toList = cellsOf s.data.toList ++ rest ∧
      ∀ j, j < s.size → wc.frozen? ⟨w.heap.size, j, none⟩ = false := by
  refine ⟨_, _, _, _, List.replicate (grownCap w s.size 0 e - s.size) (.int .u8 0), run_bytes_of_string w src dst e s hs hd he, grownCap_ge _ _ _ _, ((Step.refl noF w).drew).alloc _, block_alloc_new w.drew _, ?_, fun j hj => ?_⟩
  · simp [bytesRow, cellsOf]
  · have hb := block_alloc_new w.drew (.cells (bytesRow s (grownCap w s.size 0 e)) e ((bytesRow s (grownCap w s.size 0 e)).size, (bytesRow s (grownCap w s.size 0 e)).size + 1))
    have hz : s.size ≤ (bytesRow s (grownCap w s.size 0 e)).size := by simp [bytesRow]
    have hb' : (w.drew.alloc (.cells (bytesRow s (grownCap w s.size 0 e)) e ((bytesRow s (grownCap w s.size 0 e)).size, (bytesRow s (grownCap w s.size 0 e)).size + 1))).heap[w.heap.size]? = _ := hb
    unfold World.frozen?
    rw [hb']
    simp
    omega

theorem iw {z y : Int} (e : z = y) (h0 : 0 ≤ y) (h1 : y ≤ 1000000) : IntKind.i64.wrap z = y := by
  subst e
  simp [IntKind.wrap, IntKind.bits, IntKind.signed]
  omega
theorem w64 {z y : Int} (e : z = y) (h0 : 0 ≤ y) (h1 : y ≤ 1000000) : wrap64 z = y := by
  subst e
  unfold wrap64
  omega

/-- One sector of a block laid over another. -/
def sect (old new : List UInt8) (i : Nat) : List UInt8 := old.take (64 * i) ++ (new.drop (64 * i)).take 64 ++ old.drop (64 * i + 64)
/-- Those of the first n sectors that are kept. -/
def laidN (old new : List UInt8) (ks : List Bool) : Nat → List UInt8
  | 0 => old
  | j + 1 => if ks.getD j false then sect (laidN old new ks j) new j else laidN old new ks j
theorem sect_len (old new : List UInt8) (i : Nat) (h1 : old.length = 256) (h2 : new.length = 256) (hi : i < 4) : (sect old new i).length = 256 := by
  simp [sect, h1, h2]; omega
theorem laidN_len (old new : List UInt8) (ks : List Bool) (j : Nat) (h1 : old.length = 256) (h2 : new.length = 256) (hj : j ≤ 4) : (laidN old new ks j).length = 256 := by
  induction j with
  | zero => exact h1
  | succ j ih =>
    unfold laidN
    split
    · exact sect_len _ _ _ (ih (by omega)) h2 (by omega)
    · exact ih (by omega)
theorem laidN_end (old new : List UInt8) (ks : List Bool) (m : Nat) : laidN old new ks (ks.length + m) = laidN old new ks ks.length := by
  induction m with
  | zero => rfl
  | succ m ih => rw [← Nat.add_assoc, laidN, ih]; simp
theorem laidN_take (old new : List UInt8) (ks : List Bool) (n j : Nat) (h : j ≤ n) : laidN old new (ks.take n) j = laidN old new ks j := by
  induction j with
  | zero => rfl
  | succ j ih =>
    rw [laidN, laidN, ih (by omega)]
    have : (ks.take n).getD j false = ks.getD j false := by
      rw [List.getD_eq_getElem?_getD, List.getD_eq_getElem?_getD, List.getElem?_take_of_lt (by omega)]
    rw [this]

theorem bools_at {w : World} {G : Nat → Prop} {a : Option Addr} {ks : List Bool} (h : RowAt w G a (bools ks)) (j : Nat) (hj : j < ks.length) : ∃ b off, a = some ⟨b, off, none⟩ ∧ ¬ G b ∧ w.cell? ⟨b, off + j, none⟩ = some (.bool ks[j]) := by
  rcases h with h | ⟨b, off, h1, hG, h3⟩
  · simp [bools] at h; subst h; simp at hj
  · exact ⟨b, off, h1, hG, by rw [h3 j (by simpa [bools] using hj)]; simp [bools]⟩

/-- The worlds of laidOver's rounds. -/
def laidW (wc : World) (g : Nat) (new : List UInt8) (ks : List Bool) : Nat → World
  | 0 => wc
  | j + 1 => if ks.getD j false then (laidW wc g new ks j).drew.setCells g (j * 64) (cellsOf ((new.drop (64 * j)).take 64)) else laidW wc g new ks j
set_option maxHeartbeats 4000000 in
theorem laidOver_any (old new : List UInt8) (h1 : old.length = 256) (h2 : new.length = 256) (a : Option Addr) (c : Nat) (ks : List Bool) (hk : ks.length ≤ 4) (G : Nat → Prop) (w : World) (hr : RowAt w G a (bools ks)) :
    ∃ W, Step noF w W ∧ Calls Try.prog 31 #[.string (str old), .string (str new), .slice a ks.length c] w fun e w' => e = .returned (.string (str (laidN old new ks 4))) ∧ W = w' := by
  obtain ⟨cap, A, fz, wc, rest, hcv, hcap, sc, hblk, hA, hfz⟩ := conv_bytes2 (P := Try.prog) 9 56 5 Try.underlying9 Try.underlying56 Try.underlying5 (str old) w
  rw [str_size, h1] at hcv hfz hcap
  rw [str_list] at hA
  obtain ⟨O, hO⟩ : ∃ O, str old = O := ⟨_, rfl⟩
  obtain ⟨X, hX⟩ : ∃ X, str new = X := ⟨_, rfl⟩
  have hXs : X.size = 256 := by rw [← hX, str_size, h2]
  rw [hO] at hcv
  rw [hO, hX]
  have HB := hid hblk
  have HA := hid hA
  have HF := hid hfz
  have HX := hid hX
  clear hblk hA hfz hX hO
  suffices hh : Calls Try.prog 31 #[.string O, .string X, .slice a ks.length c] w fun e w' => (e = .returned (.string (str (laidN old new ks 4))) ∧ laidW wc w.heap.size new ks ks.length = w') ∧ Step noF w w' by
    obtain ⟨e, w', fr, ⟨⟨_, h3⟩, h4⟩, _⟩ := hh []
    exact ⟨_, by rw [h3]; exact h4, hh.mono (fun e w' h => h.1)⟩
  go_enter Try.func31, Try.ntmps31
  go_wp2
  go_loopw [8, 9, 10, 15] (fun _ _ _ i wr => ∃ j : Nat, j ≤ ks.length ∧ i = .int .i64 j ∧ Step noF w wr ∧ Hid (laidW wc w.heap.size new ks j = wr) ∧ ∃ A rest, wr.heap[w.heap.size]? = some (.cells A 5 fz) ∧ A.toList = cellsOf (laidN old new ks j) ++ rest) (fun _ _ _ i _ => ks.length - (intOf i).toNat)
  case atStart => exact ⟨0, Nat.zero_le _, rfl, sc, rfl, A, rest, HB.out, HA.out⟩
  case round =>
    obtain ⟨j, hj, rfl, hst, hlw, A1, rest1, hblk, hA1⟩ := hrel
    by_cases hjn : j < ks.length
    · have hji : (j : Int) < (ks.length : Int) := by omega
      obtain ⟨b, off, rfl, _, hcell⟩ := bools_at hr j hjn
      have hcw := (hst.cell (p := ⟨b, off + j, none⟩) (fun x => x) (World.block_lt_of_cell? w _ hcell)).trans hcell
      have hll := laidN_len old new ks j h1 h2 (by omega)
      cases hkj : ks[j]
      · rw [hkj] at hcw
        have HB1 := hid hblk
        have HA1 := hid hA1
        clear hblk hA1 hcell
        go_wp2
        go_roundw
        case rel =>
          refine ⟨j + 1, by omega, int_eq (by omega), hst, by show _ = _; rw [laidW, show ks.getD j false = false by simp [List.getD_eq_getElem?_getD, hjn, hkj]]; exact hlw.out, A1, rest1, HB1.out, ?_⟩
          rw [HA1.out, laidN]
          simp [List.getD_eq_getElem?_getD, hjn, hkj]
        case measure => simp [intOf]; omega
      · rw [hkj] at hcw
        have hA1s : 256 ≤ A1.size := by rw [← Array.length_toList, hA1]; simp [cellsOf_length, hll]
        obtain ⟨F, hF⟩ : ∃ F, j * 64 = F := ⟨_, rfl⟩
        have hF0 : F + 64 ≤ 256 := by omega
        have hcs : Hid (∀ q, q < 64 → (wr.cell? ⟨w.heap.size, F + q, none⟩).isSome = true) := fun q hq => by rw [cell_of_block hblk, Array.getElem?_eq_getElem (by omega)]; rfl
        have hfs : Hid (∀ q, q < 64 → wr.frozen? ⟨w.heap.size, F + q, none⟩ = false) := fun q hq => by rw [frozen_same HB.out hblk]; exact HF.out _ (by omega)
        have HB1 := hid hblk
        have HA1 := hid hA1
        have hF1 : (j : Int) * 64 = (F : Int) := by omega
        obtain ⟨E, hE⟩ : ∃ E, F + 64 = E := ⟨_, rfl⟩
        have hF4 : (F : Int) + 64 = (E : Int) := by omega
        have hE6 : (E : Int) ≤ 1000000 := by omega
        have hE0 : (0 : Int) ≤ (E : Int) := by omega
        have hc1 : E ≤ cap := by omega
        have hFE : F ≤ E := by omega
        have hEF : E - F = 64 := by omega
        have hc2 : (F : Int) ≤ 256 := by omega
        have hc4 : (F : Int) ≤ (X.size : Int) := by omega
        have hcne : ¬ cap = F := by omega
        have hle : 64 ≤ (X.extract F 256).size := by rw [ByteArray.size_extract, hXs]; omega
        have hF2 : IntKind.i64.wrap ((F : Int) + 64) = (E : Int) := iw hF4 hE0 hE6
        have hF3 : wrap64 ((F : Int) + 64) = (E : Int) := w64 hF4 hE0 hE6
        have hF5 : IntKind.i64.wrap (E : Int) = (E : Int) := iw rfl hE0 hE6
        have HE := hid hE
        clear hE hE6 hE0
        have hT : Hid (cellsOf ((X.extract F 256).data.toList.take 64) = cellsOf ((new.drop (64 * j)).take 64)) := by
          show _ = _
          rw [← HX.out, str_extract, str_list, List.take_of_length_le (l := new) (by omega), show 64 * j = F by rw [← hF, Nat.mul_comm]]
        have HFF := hid hF
        clear hblk hA1 hcell hF
        go_wp2
        go_region_law (refine step_copy_cut rfl (.tmp 27) (.tmp 30) 56 9 rfl 5 Try.underlying56 Try.sizeOf5 w.heap.size F 64 (cap - F) (by simp [Act.eval, Act.put]) (X.extract F 256) (by simp [Act.eval, Act.put]) hle hcs.out hfs.out ?_; rw [hT.out])
        go_wp2
        go_roundw
        case rel =>
          have hlc : (cellsOf ((new.drop (64 * j)).take 64)).length = 64 := by rw [cellsOf_length, List.length_take, List.length_drop, h2]; omega
          obtain ⟨A2, hb2, hA2⟩ := block_setCells (cellsOf ((new.drop (64 * j)).take 64)) F wr.drew A1 HB1.out (by rw [hlc]; omega)
          refine ⟨j + 1, by omega, int_eq (by omega), step_setCells (.inr (Nat.le_refl _)) _ _ _ hst.drew, by show _ = _; rw [laidW, show ks.getD j false = true by simp [List.getD_eq_getElem?_getD, hjn, hkj], if_pos rfl, hlw.out, HFF.out], A2, rest1, hb2, ?_⟩
          rw [hA2, HA1.out, hlc, laidN, show ks.getD j false = true by simp [List.getD_eq_getElem?_getD, hjn, hkj], if_pos rfl, sect, show 64 * j = F by omega]
          rw [List.take_append_of_le_length (by rw [cellsOf_length, hll]; omega), List.drop_append_of_le_length (by rw [cellsOf_length, hll]; omega)]
          simp only [cellsOf, List.map_append, List.map_take, List.map_drop, List.append_assoc]
        case measure => simp [intOf]; omega
    · obtain rfl : j = ks.length := by omega
      have hll := laidN_len old new ks ks.length h1 h2 hk
      have hs := run_string_pre (P := Try.prog) wr 56 9 5 5 fz Try.underlying56 Try.underlying5 Try.underlying9 w.heap.size cap 256 A1 _ rest1 hblk hA1 hll.symm
      have hE : Hid (laidN old new ks ks.length = laidN old new ks 4) := by
        show _ = _
        have := laidN_end old new ks (4 - ks.length)
        rw [show ks.length + (4 - ks.length) = 4 by omega] at this
        exact this.symm
      clear hblk hA1
      go_wp2
      go_ret
      exact ⟨⟨ret_str (by rw [hE.out]), hlw.out⟩, hst⟩
end Go.Proofs.Ythgcpeibjnflaaa
