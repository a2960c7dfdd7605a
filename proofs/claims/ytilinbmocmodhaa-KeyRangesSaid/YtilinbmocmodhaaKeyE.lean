/-
  What Next does, of the program and of the reference.
-/
import Derived.Test.YtilinbmocmodhaaKeyA
import Derived.Test.YtilinbmocmodhaaBytes
import Derived.Test.YtilinbmocmodhaaPenE
import Derived.BigRegion
namespace Go.Proofs.Ytilinbmocmodhaa
open Go.RowKit
set_option linter.unusedVariables false
set_option linter.unusedSimpArgs false

def txt0 (o : Option (List UInt8)) : List UInt8 := o.getD []
/-- A text, and whether there is one. -/
def optV (o : Option (List UInt8)) : Value := .tuple #[.string (str (txt0 o)), .bool o.isSome]
theorem ret_opt {o : Option (List UInt8)} {x : List UInt8} {b : Bool} (h1 : txt0 o = x) (h2 : o.isSome = b) : Ending.returned (.tuple #[.string (str x), .bool b]) = .returned (optV o) := by rw [← h1, ← h2]; rfl
theorem zero_str : (⟨#[0]⟩ : ByteArray) = str [0] := rfl

/-- The bytes that Next turns: the first n are still the key's. -/
def UpAt (w : World) (g : Nat) (k : List UInt8) (n : Nat) : Prop := (∃ A fz rest, w.heap[g]? = some (.cells A 5 fz) ∧ A.toList = cellsOf (k.take n) ++ rest) ∧ ∀ j, j < 8 → w.frozen? ⟨g, j, none⟩ = false
theorem UpAt.cell {w : World} {g : Nat} {k : List UInt8} {n : Nat} (h : UpAt w g k n) (j : Nat) (hj : j < n) (hk : j < k.length) : w.cell? ⟨g, j, none⟩ = some (.int .u8 (k[j].toNat : Int)) := by
  obtain ⟨⟨A, fz, rest, h1, h2⟩, _⟩ := h
  have hl : j < (cellsOf (k.take n)).length := by rw [cellsOf_length, List.length_take]; omega
  rw [cell_of_block h1, ← Array.getElem?_toList, h2, List.getElem?_append_left hl, List.getElem?_eq_getElem hl]
  simp [cellsOf]
theorem UpAt.set {w : World} {g : Nat} {k : List UInt8} {n : Nat} (h : UpAt w g k (n + 1)) (hk : n < k.length) (b : UInt8) :
    UpAt (w.setCell ⟨g, n, none⟩ (.int .u8 (b.toNat : Int))) g k n ∧ ∃ A fz rest, (w.setCell ⟨g, n, none⟩ (.int .u8 (b.toNat : Int))).heap[g]? = some (.cells A 5 fz) ∧ A.toList = cellsOf (k.take n ++ [b]) ++ rest := by
  obtain ⟨⟨A, fz, rest, h1, h2⟩, h3⟩ := h
  have e : (A.setIfInBounds n (.int .u8 (b.toNat : Int))).toList = cellsOf (k.take n ++ [b]) ++ rest := by
    rw [Array.toList_setIfInBounds, h2, List.take_succ_eq_append_getElem hk, cellsOf_append, cellsOf_append, List.append_assoc, List.append_assoc, List.set_append_right _ _ (by rw [cellsOf_length, List.length_take]; omega)]
    rw [cellsOf_length, List.length_take, Nat.min_eq_left (by omega), Nat.sub_self]
    rfl
  refine ⟨⟨⟨_, fz, .int .u8 (b.toNat : Int) :: rest, block_setCell h1 n _, ?_⟩, fun j hj => by rw [World.frozen?_setCell]; exact h3 j hj⟩, ⟨_, fz, rest, block_setCell h1 n _, e⟩⟩
  rw [e, cellsOf_append, List.append_assoc]
  rfl
theorem up_new (w : World) (k : List UInt8) (hk : k.length = 8) (cap : Nat) : UpAt (w.drew.alloc (bytesObj (str k) cap 5)) w.heap.size k 8 := by
  have hb := block_alloc_new w.drew (bytesObj (str k) cap 5)
  have hb' : (w.drew.alloc (bytesObj (str k) cap 5)).heap[w.heap.size]? = _ := hb
  refine ⟨⟨_, _, List.replicate (cap - (str k).size) (.int .u8 0), hb', ?_⟩, fun j hj => ?_⟩
  · rw [List.take_of_length_le (by omega)]
    simp [bytesRow, cellsOf, str]
  · unfold World.frozen?
    rw [hb']
    have : 8 ≤ (bytesRow (str k) cap).size := by simp [bytesRow, str, hk]
    simp [bytesObj]
    omega

set_option maxHeartbeats 1000000 in
theorem next_in (k : List UInt8) (hk : k.length = 8) (w : World) : Calls Try.prog 21 #[.string (str k)] w fun e w' => e = .returned (optV (upL k 8)) ∧ Step noF w w' := by
  have hz := str_size
  have hK : isK k = true := by simp [isK, hk]; intro h; simp [h] at hk
  have h0 := nil_str
  have hcv := fun w l => run_bytes_str (P := Try.prog) w 9 49 5 l Try.underlying9 Try.underlying49 Try.underlying5
  have HU := fun cap => hid (up_new w k hk cap)
  go_enter Try.func21, Try.ntmps21
  go_wp2_with (go_at_call 23; refine (is_any _ _).mono ?_; rintro e w' ⟨rfl, rfl⟩)
  obtain ⟨cap, hcap⟩ : ∃ cap, grownCap w 8 0 5 = cap := ⟨_, rfl⟩
  have hc8 : 8 ≤ cap := by rw [← hcap]; exact grownCap_ge _ _ _ _
  rw [hcap]
  have HU2 : Hid (UpAt (w.alloc (bytesObj (str k) cap 5)).drew w.heap.size k 8) := (HU cap).out
  have HST : Hid (Step noF w (w.alloc (bytesObj (str k) cap 5)).drew) := ((Step.refl noF w).alloc _).drew
  clear HU hcv hcap
  go_loopw [5] (fun v wr => ∃ n : Nat, n ≤ 8 ∧ v = .int .i64 ((n : Int) - 1) ∧ Hid (upL k 8 = upL k n) ∧ Hid (UpAt wr w.heap.size k n) ∧ Hid (Step noF w wr)) (fun v _ => (intOf v + 1).toNat)
  case atStart => exact ⟨8, Nat.le_refl _, rfl, rfl, HU2.out, HST.out⟩
  case round =>
    obtain ⟨n, hn, rfl, hU, hA, hS⟩ := hrel
    cases n with
    | zero =>
      have hE : Hid (upL k 8 = none) := hU.out
      go_wp2_with fail
      go_ret2
      exact ⟨ret_opt (by rw [hE.out]; rfl) (by rw [hE.out]; rfl), hS.out⟩
    | succ m =>
      have hm : m < k.length := by omega
      have e1 : ((m + 1 : Nat) : Int) - 1 = m := by omega
      rw [e1]
      have c0 := hA.out.cell m (by omega) hm
      have f0 := hA.out.2 m (by omega)
      have hg : Hid (k.getD m 0 = k[m]) := by show _ = _; simp [List.getD, List.getElem?_eq_getElem hm]
      have hlt := UInt8.toNat_lt k[m]
      obtain ⟨x, hx⟩ : ∃ x, k[m].toNat = x := ⟨_, rfl⟩
      rw [hx] at c0 hlt
      have hmc : (m : Int) + 1 ≤ cap := by omega
      by_cases h255 : x = 255
      · subst h255
        have hb : Hid (k[m] = 255) := by show _ = _; apply UInt8.toNat_inj.1; rw [hx]; rfl
        have hs := hA.out.set hm 0
        have hA2 : Hid (UpAt (wr.setCell ⟨w.heap.size, m, none⟩ (.int .u8 0)) w.heap.size k m) := hs.1
        have c1 : (wr.setCell ⟨w.heap.size, m, none⟩ (.int .u8 0)).cell? ⟨w.heap.size, m, none⟩ = some (.int .u8 0) := World.cell?_setCell_same _ _ _ c0
        have hS2 : Hid (Step noF w (wr.setCell ⟨w.heap.size, m, none⟩ (.int .u8 0))) := hS.out.setCell (p := ⟨w.heap.size, m, none⟩) (.inr (Nat.le_refl _)) _
        have hU2 : Hid (upL k 8 = upL k m) := by show _ = _; rw [hU.out, upL, hg.out, if_pos hb.out]
        clear hs
        go_wp2_with fail
        go_roundw
        case rel => exact ⟨m, by omega, int_eq (by omega), hU2.out, hA2.out, hS2.out⟩
        case measure => simp [intOf]
      · have hs := hA.out.set hm (k[m] + 1)
        have hv : ((k[m] + 1).toNat : Int) = (x : Int) + 1 := by
          rw [UInt8.toNat_add, hx]
          have : (1 : UInt8).toNat = 1 := rfl
          rw [this]
          omega
        rw [hv] at hs
        obtain ⟨A, fz, rest, hb, hA3⟩ := hs.2
        have hlen : (k.take m ++ [k[m] + 1]).length = m + 1 := by simp; omega
        have hcv2 := fun c => run_string_pre (P := Try.prog) _ 49 9 5 _ fz Try.underlying49 Try.underlying5 Try.underlying9 w.heap.size c (m + 1) A _ rest hb hA3 hlen.symm
        have c1 : (wr.setCell ⟨w.heap.size, m, none⟩ (.int .u8 ((x : Int) + 1))).cell? ⟨w.heap.size, m, none⟩ = some (.int .u8 ((x : Int) + 1)) := World.cell?_setCell_same _ _ _ c0
        have hS2 : Hid (Step noF w (wr.setCell ⟨w.heap.size, m, none⟩ (.int .u8 ((x : Int) + 1)))) := hS.out.setCell (p := ⟨w.heap.size, m, none⟩) (.inr (Nat.le_refl _)) _
        have hU2 : Hid (upL k 8 = some (k.take m ++ [k[m] + 1])) := by
          show _ = _
          rw [hU.out]
          have : ¬ k[m] = 255 := fun h => h255 (by rw [← hx, h]; rfl)
          rw [upL, hg.out, if_neg this]
        have hxw : IntKind.u8.wrap ((x : Int) + 1) = (x : Int) + 1 := by simp [IntKind.wrap, IntKind.bits, IntKind.signed]; omega
        clear hs hA3 hb hv
        go_wp2_with fail
        go_ret2
        exact ⟨ret_opt (by rw [hU2.out]; rfl) (by rw [hU2.out]; rfl), hS2.out⟩
theorem next_any (k : List UInt8) (w : World) : Calls Try.prog 21 #[.string (str k)] w fun e w' => e = .returned (optV (nextL k)) ∧ Step noF w w' := by
  have hz := str_size
  have h0 := nil_str
  have h1 := zero_str
  have hA := str_app
  cases hK : isK k
  · have HN : Hid (nextL k = none) := by show _ = _; simp [nextL, hK]
    go_enter Try.func21, Try.ntmps21
    go_wp2_with (go_at_call 23; refine (is_any _ _).mono ?_; rintro e w' ⟨rfl, rfl⟩)
    go_ret2
    exact ⟨ret_opt (by rw [HN.out]; rfl) (by rw [HN.out]; rfl), Step.refl _ _⟩
  · by_cases hl : k.length < 8
    · have HN : Hid (nextL k = some (k ++ [0])) := by show _ = _; simp [nextL, hK, hl]
      go_enter Try.func21, Try.ntmps21
      go_wp2_with (go_at_call 23; refine (is_any _ _).mono ?_; rintro e w' ⟨rfl, rfl⟩)
      go_ret2
      exact ⟨ret_opt (by rw [HN.out]; rfl) (by rw [HN.out]; rfl), Step.refl _ _⟩
    · have h8 : k.length = 8 := by simp [isK] at hK; omega
      have e : nextL k = upL k 8 := by simp [nextL, hK, hl]
      rw [e]
      exact next_in k h8 w
end Go.Proofs.Ytilinbmocmodhaa
