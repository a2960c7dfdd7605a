/-
  The law PenReads: its walk.
-/
import Derived.Test.YtfenclojhhfhbaaPenWrites
import Derived.Deep.RegionHeld
namespace Go.Proofs.Ytfenclojhhfhbaa
open Go.RowKit
set_option linter.unusedVariables false

theorem endE_eq (l : List UInt8) (e : Int) : endE l e = if 0 < l.length then 5 else e := by
  unfold endE
  by_cases h : l.length = 0
  · rw [if_pos h, if_neg (by omega)]
  · rw [if_neg h, if_pos (by omega)]

theorem textL_len (m : Int) (l : List UInt8) : (textL m l).length ≤ l.length := by
  unfold textL
  split
  · simp
  · exact Nat.le_trans (rawL_len _ _) (numL_len _ _)
theorem IsRef.drew {w : World} {p : Nat} {l : List UInt8} {e : Int} (h : IsRef w p l e) : IsRef w.drew p l e := ⟨h.blk, h.two, h.bad⟩
theorem IsRef.new (w : World) (l : List UInt8) : IsRef (w.alloc (.cells #[.string (str l), .bool false] 44)) w.heap.size l 0 := ⟨block_alloc_new _ _, .inl rfl, fun h => by simp at h⟩

set_option maxHeartbeats 8000000 in
set_option maxRecDepth 100000 in
theorem reads_walk (l0 : List UInt8) (hl0 : l0.length ≤ maxLen) (a : Option Addr) (cap : Nat) (xs : List ActV) (hlen : xs.length ≤ 9223372036854775807) (w : World) (hx : IsActs w a xs) :
    Calls Try.prog 4 #[.string (str l0), .slice a xs.length cap] w fun e w' => e = .returned (.bool true) ∧ Step noF w w' := by
  have HX := hid hx
  clear hx
  have hsz := str_size l0
  by_cases hbig : 1024 < l0.length
  · unfold maxLen at hl0
    go_enter Try.func4, Try.ntmps4
    go_wp2_with (go_at_call 6; refine (awake_any _).mono ?_; rintro e w1 ⟨rfl, st1⟩)
    go_ret
    exact ⟨rfl, st1⟩
  · go_enter Try.func4, Try.ntmps4
    go_wp2_with (first | (go_at_call 6; refine (awake_any _).mono ?_; rintro e w1 ⟨rfl, st1⟩) | (go_at_call 14; refine (of_any l0 _).mono ?_; rintro e w2 ⟨rfl, st2, in2, z2⟩; clear z2))
    go_loopw [7] (fun i wr => ∃ (k : Nat) (l : List UInt8) (e : Int), k ≤ 40 ∧ i = .int .i64 k ∧ l.length ≤ 1024 ∧ Step noF w wr ∧ IsIn wr w1.heap.size l e ∧ IsRef wr w2.heap.size l e) (fun i _ => 40 - (intOf i).toNat)
    case atStart => exact ⟨0, l0, 0, by omega, rfl, by omega, (st1.trans st2).alloc _, in2.alloc _, IsRef.new _ _⟩
    case round =>
      obtain ⟨k, l, e0, hk, rfl, hl, hst, hin, href⟩ := hrel
      by_cases hlt : k < xs.length
      · by_cases h40 : k < 40
        · obtain ⟨b, off, rfl, hb, hcs⟩ := HX.out.at k hlt
          have hcs2 : ∀ f (v : Value), xs[k].cells[f]? = some v → wr.cell? ⟨b, off + k * 6 + f, none⟩ = some v := fun f v hv => (hst.cell (p := ⟨b, off + k * 6 + f, none⟩) (fun h => h) hb).trans (hcs f v hv)
          obtain ⟨okk, okw, okn, okm, oks, okt⟩ := HX.out.1 xs[k] (List.getElem_mem hlt)
          generalize xs[k] = x at *
          obtain ⟨kind, wd, n, m, s, t⟩ := x
          simp only [in64] at okk okw okn okm oks okt
          have c0 : wr.cell? ⟨b, off + k * 6, none⟩ = some (.int .i64 kind) := hcs2 0 _ rfl
          have c1 := hcs2 1 _ rfl
          have c2 := hcs2 2 _ rfl
          have c3 := hcs2 3 _ rfl
          have c4 := hcs2 4 _ rfl
          have c5 := hcs2 5 _ rfl
          clear hcs hcs2
          have hbx : Hid (IsBox (wr.alloc (.cells #[.int .i64 kind, .int .i64 wd, .int .i64 n, .int .i64 m, .string s, .string t] 29)) wr.heap.size ⟨kind, wd, n, m, s, t⟩) := block_alloc_new _ _
          have hi0 : Hid (IsIn (wr.alloc (.cells #[.int .i64 kind, .int .i64 wd, .int .i64 n, .int .i64 m, .string s, .string t] 29)) w1.heap.size l e0) := hin.alloc _
          have hr0 : Hid (IsRef (wr.alloc (.cells #[.int .i64 kind, .int .i64 wd, .int .i64 n, .int .i64 m, .string s, .string t] 29)) w2.heap.size l e0) := href.step ((Step.refl _ _).alloc _)
          have hp1 : Hid (w1.heap.size < wr.heap.size) := lt_of_block hin
          have hp2 : Hid (w2.heap.size < wr.heap.size) := lt_of_block href.blk
          have hp3 : Hid (w1.heap.size < w2.heap.size) := lt_of_block in2
          have hlm : Hid (l.length ≤ maxLen) := le_max (by omega)
          by_cases hk4 : kind = 4
          · subst hk4
            go_wp2_with fail
            go_region_held (fun w' => w'.cell? ⟨wr.heap.size, 1, none⟩ = some (.int .i64 wd)) (first | assumption | go_keep)
              (first | (go_at_call 15; refine (inNum_any wd _ l e0 _ (by exact hi0.out) hlm.out).mono ?_; rintro e w3 ⟨rfl, s3, i3⟩; have b3 := IsBox.mono (by exact hbx.out) s3 (fun h => by have := hp1.out; have : wr.heap.size = w1.heap.size := h; omega); have d1 := b3.cells.2.1) | (go_at_call 16; refine (refInNum_any wd _ l e0 _ (IsRef.mono (IsRef.drew hr0.out) s3 (fun h => by have := hp3.out; have : w2.heap.size = w1.heap.size := h; omega)) hlm.out).mono ?_; rintro e w4 ⟨rfl, s4, i4⟩; have b4 := b3.mono s4 (fun h => by have := hp2.out; have : wr.heap.size = w2.heap.size := h; omega); have d1' := b4.cells.2.1))
            have i4' := i3.mono s4 (fun h => by have := hp3.out; have : w1.heap.size = w2.heap.size := h; omega)
            have st4 : Step noF w w4 := (((hst.alloc _).drew).then s3 (fun j hj => .inr (by rw [show j = w1.heap.size from hj]; exact st1.size))).then s4 (fun j hj => .inr (by rw [show j = w2.heap.size from hj]; exact (st1.trans st2).size))
            have hl2 : (numL wd l).length ≤ 1024 := Nat.le_trans (numL_len _ _) hl
            clear i3 s3 s4 b3 b4 d1 d1' c0 c1 c2 c3 c4 c5 hbx hi0 hr0
            generalize numL wd l = l2 at *
            generalize numE wd l e0 = e2 at *
            have u0 := i4.c0
            have u1 := i4.c1
            have hz2 := str_size l2
            rcases i4.two with he | he
            · subst he
              by_cases hl0' : 0 < l2.length
              · go_wp2
                go_region_held (fun w' => w'.cell? ⟨w2.heap.size, 0, none⟩ = some (.string (str l2))) (first | assumption | go_keep)
                  (first | (go_at_call 21; refine (left_any _ l2 _ _ (by exact i4')).mono ?_; rintro e w5 ⟨rfl, rfl⟩) | (go_at_call 22; refine (err_any _ l2 _ _ (by exact i4')).mono ?_; rintro e w5 ⟨rfl, rfl⟩) | (go_at_call 23; refine (end_call _ l2 _ _ (by exact i4') 5 (by rw [endE_eq, if_pos hl0'])).mono ?_; rintro e w5 ⟨rfl, rfl⟩))
                go_wp2
                go_roundw
                case rel => exact ⟨k + 1, l2, _, by omega, by go_num, hl2, st4.drew, i4', i4.drew⟩
                case measure => simp [intOf]; omega
              · go_wp2
                go_region_held (fun w' => w'.cell? ⟨w2.heap.size, 0, none⟩ = some (.string (str l2))) (first | assumption | go_keep)
                  (first | (go_at_call 21; refine (left_any _ l2 _ _ (by exact i4')).mono ?_; rintro e w5 ⟨rfl, rfl⟩) | (go_at_call 22; refine (err_any _ l2 _ _ (by exact i4')).mono ?_; rintro e w5 ⟨rfl, rfl⟩) | (go_at_call 23; refine (end_call _ l2 _ _ (by exact i4') 0 (by rw [endE_eq, if_neg hl0'])).mono ?_; rintro e w5 ⟨rfl, rfl⟩))
                go_wp2
                go_roundw
                case rel => exact ⟨k + 1, l2, _, by omega, by go_num, hl2, st4.drew, i4', i4.drew⟩
                case measure => simp [intOf]; omega
            · have hl0' : ¬ 0 < l2.length := by rw [i4.bad he]; simp
              subst he
              go_wp2
              go_region_held (fun w' => w'.cell? ⟨w2.heap.size, 0, none⟩ = some (.string (str l2))) (first | assumption | go_keep)
                (first | (go_at_call 21; refine (left_any _ l2 _ _ (by exact i4')).mono ?_; rintro e w5 ⟨rfl, rfl⟩) | (go_at_call 22; refine (err_any _ l2 _ _ (by exact i4')).mono ?_; rintro e w5 ⟨rfl, rfl⟩) | (go_at_call 23; refine (end_call _ l2 _ _ (by exact i4') 5 (by rw [endE_eq, if_neg hl0'])).mono ?_; rintro e w5 ⟨rfl, rfl⟩))
              go_wp2
              go_roundw
              case rel => exact ⟨k + 1, l2, _, by omega, by go_num, hl2, st4.drew, i4', i4.drew⟩
              case measure => simp [intOf]; omega
          · by_cases hk5 : kind = 5
            · subst hk5
              go_wp2_with fail
              go_region_held (fun w' => w'.cell? ⟨wr.heap.size, 2, none⟩ = some (.int .i64 n)) (first | assumption | go_keep)
                (first | (go_at_call 17; refine (inText_any n _ l e0 _ (by exact hi0.out) hlm.out).mono ?_; rintro e w3 ⟨rfl, s3, i3⟩; have b3 := IsBox.mono (by exact hbx.out) s3 (fun h => by have := hp1.out; have : wr.heap.size = w1.heap.size := h; omega); have d1 := b3.cells.2.2.1) | (go_at_call 18; refine (refInText_any n _ l e0 _ (IsRef.mono (IsRef.drew hr0.out) s3 (fun h => by have := hp3.out; have : w2.heap.size = w1.heap.size := h; omega)) hlm.out).mono ?_; rintro e w4 ⟨rfl, s4, i4⟩; have b4 := b3.mono s4 (fun h => by have := hp2.out; have : wr.heap.size = w2.heap.size := h; omega); have d1' := b4.cells.2.2.1))
              have i4' := i3.mono s4 (fun h => by have := hp3.out; have : w1.heap.size = w2.heap.size := h; omega)
              have st4 : Step noF w w4 := (((hst.alloc _).drew).then s3 (fun j hj => .inr (by rw [show j = w1.heap.size from hj]; exact st1.size))).then s4 (fun j hj => .inr (by rw [show j = w2.heap.size from hj]; exact (st1.trans st2).size))
              have hl2 : (textL n l).length ≤ 1024 := Nat.le_trans (textL_len _ _) hl
              clear i3 s3 s4 b3 b4 d1 d1' c0 c1 c2 c3 c4 c5 hbx hi0 hr0
              generalize textL n l = l2 at *
              generalize textE n l e0 = e2 at *
              have u0 := i4.c0
              have u1 := i4.c1
              have hz2 := str_size l2
              rcases i4.two with he | he
              · subst he
                by_cases hl0' : 0 < l2.length
                · go_wp2
                  go_region_held (fun w' => w'.cell? ⟨w2.heap.size, 0, none⟩ = some (.string (str l2))) (first | assumption | go_keep)
                    (first | (go_at_call 21; refine (left_any _ l2 _ _ (by exact i4')).mono ?_; rintro e w5 ⟨rfl, rfl⟩) | (go_at_call 22; refine (err_any _ l2 _ _ (by exact i4')).mono ?_; rintro e w5 ⟨rfl, rfl⟩) | (go_at_call 23; refine (end_call _ l2 _ _ (by exact i4') 5 (by rw [endE_eq, if_pos hl0'])).mono ?_; rintro e w5 ⟨rfl, rfl⟩))
                  go_wp2
                  go_roundw
                  case rel => exact ⟨k + 1, l2, _, by omega, by go_num, hl2, st4.drew, i4', i4.drew⟩
                  case measure => simp [intOf]; omega
                · go_wp2
                  go_region_held (fun w' => w'.cell? ⟨w2.heap.size, 0, none⟩ = some (.string (str l2))) (first | assumption | go_keep)
                    (first | (go_at_call 21; refine (left_any _ l2 _ _ (by exact i4')).mono ?_; rintro e w5 ⟨rfl, rfl⟩) | (go_at_call 22; refine (err_any _ l2 _ _ (by exact i4')).mono ?_; rintro e w5 ⟨rfl, rfl⟩) | (go_at_call 23; refine (end_call _ l2 _ _ (by exact i4') 0 (by rw [endE_eq, if_neg hl0'])).mono ?_; rintro e w5 ⟨rfl, rfl⟩))
                  go_wp2
                  go_roundw
                  case rel => exact ⟨k + 1, l2, _, by omega, by go_num, hl2, st4.drew, i4', i4.drew⟩
                  case measure => simp [intOf]; omega
              · have hl0' : ¬ 0 < l2.length := by rw [i4.bad he]; simp
                subst he
                go_wp2
                go_region_held (fun w' => w'.cell? ⟨w2.heap.size, 0, none⟩ = some (.string (str l2))) (first | assumption | go_keep)
                  (first | (go_at_call 21; refine (left_any _ l2 _ _ (by exact i4')).mono ?_; rintro e w5 ⟨rfl, rfl⟩) | (go_at_call 22; refine (err_any _ l2 _ _ (by exact i4')).mono ?_; rintro e w5 ⟨rfl, rfl⟩) | (go_at_call 23; refine (end_call _ l2 _ _ (by exact i4') 5 (by rw [endE_eq, if_neg hl0'])).mono ?_; rintro e w5 ⟨rfl, rfl⟩))
                go_wp2
                go_roundw
                case rel => exact ⟨k + 1, l2, _, by omega, by go_num, hl2, st4.drew, i4', i4.drew⟩
                case measure => simp [intOf]; omega
            · go_wp2_with fail
              go_region_held (fun w' => w'.cell? ⟨wr.heap.size, 2, none⟩ = some (.int .i64 n)) (first | assumption | go_keep)
                (first | (go_at_call 19; refine (inRaw_any n _ l e0 _ (by exact hi0.out) hlm.out).mono ?_; rintro e w3 ⟨rfl, s3, i3⟩; have b3 := IsBox.mono (by exact hbx.out) s3 (fun h => by have := hp1.out; have : wr.heap.size = w1.heap.size := h; omega); have d1 := b3.cells.2.2.1) | (go_at_call 20; refine (refRaw_any n _ l e0 _ (IsRef.mono (IsRef.drew hr0.out) s3 (fun h => by have := hp3.out; have : w2.heap.size = w1.heap.size := h; omega)) hlm.out).mono ?_; rintro e w4 ⟨rfl, s4, i4⟩; have b4 := b3.mono s4 (fun h => by have := hp2.out; have : wr.heap.size = w2.heap.size := h; omega); have d1' := b4.cells.2.2.1))
              have i4' := i3.mono s4 (fun h => by have := hp3.out; have : w1.heap.size = w2.heap.size := h; omega)
              have st4 : Step noF w w4 := (((hst.alloc _).drew).then s3 (fun j hj => .inr (by rw [show j = w1.heap.size from hj]; exact st1.size))).then s4 (fun j hj => .inr (by rw [show j = w2.heap.size from hj]; exact (st1.trans st2).size))
              have hl2 : (rawL n l).length ≤ 1024 := Nat.le_trans (rawL_len _ _) hl
              clear i3 s3 s4 b3 b4 d1 d1' c0 c1 c2 c3 c4 c5 hbx hi0 hr0
              generalize rawL n l = l2 at *
              generalize rawE n l e0 = e2 at *
              have u0 := i4.c0
              have u1 := i4.c1
              have hz2 := str_size l2
              rcases i4.two with he | he
              · subst he
                by_cases hl0' : 0 < l2.length
                · go_wp2
                  go_region_held (fun w' => w'.cell? ⟨w2.heap.size, 0, none⟩ = some (.string (str l2))) (first | assumption | go_keep)
                    (first | (go_at_call 21; refine (left_any _ l2 _ _ (by exact i4')).mono ?_; rintro e w5 ⟨rfl, rfl⟩) | (go_at_call 22; refine (err_any _ l2 _ _ (by exact i4')).mono ?_; rintro e w5 ⟨rfl, rfl⟩) | (go_at_call 23; refine (end_call _ l2 _ _ (by exact i4') 5 (by rw [endE_eq, if_pos hl0'])).mono ?_; rintro e w5 ⟨rfl, rfl⟩))
                  go_wp2
                  go_roundw
                  case rel => exact ⟨k + 1, l2, _, by omega, by go_num, hl2, st4.drew, i4', i4.drew⟩
                  case measure => simp [intOf]; omega
                · go_wp2
                  go_region_held (fun w' => w'.cell? ⟨w2.heap.size, 0, none⟩ = some (.string (str l2))) (first | assumption | go_keep)
                    (first | (go_at_call 21; refine (left_any _ l2 _ _ (by exact i4')).mono ?_; rintro e w5 ⟨rfl, rfl⟩) | (go_at_call 22; refine (err_any _ l2 _ _ (by exact i4')).mono ?_; rintro e w5 ⟨rfl, rfl⟩) | (go_at_call 23; refine (end_call _ l2 _ _ (by exact i4') 0 (by rw [endE_eq, if_neg hl0'])).mono ?_; rintro e w5 ⟨rfl, rfl⟩))
                  go_wp2
                  go_roundw
                  case rel => exact ⟨k + 1, l2, _, by omega, by go_num, hl2, st4.drew, i4', i4.drew⟩
                  case measure => simp [intOf]; omega
              · have hl0' : ¬ 0 < l2.length := by rw [i4.bad he]; simp
                subst he
                go_wp2
                go_region_held (fun w' => w'.cell? ⟨w2.heap.size, 0, none⟩ = some (.string (str l2))) (first | assumption | go_keep)
                  (first | (go_at_call 21; refine (left_any _ l2 _ _ (by exact i4')).mono ?_; rintro e w5 ⟨rfl, rfl⟩) | (go_at_call 22; refine (err_any _ l2 _ _ (by exact i4')).mono ?_; rintro e w5 ⟨rfl, rfl⟩) | (go_at_call 23; refine (end_call _ l2 _ _ (by exact i4') 5 (by rw [endE_eq, if_neg hl0'])).mono ?_; rintro e w5 ⟨rfl, rfl⟩))
                go_wp2
                go_roundw
                case rel => exact ⟨k + 1, l2, _, by omega, by go_num, hl2, st4.drew, i4', i4.drew⟩
                case measure => simp [intOf]; omega
        · clear HX
          have hnil : str [] = ⟨#[]⟩ := rfl
          go_wp2_with (first | (go_at_call 15; refine (inNum_nil _ _).mono ?_; rintro e w5 ⟨rfl, rfl⟩) | (go_at_call 17; refine (inText_nil _ _).mono ?_; rintro e w5 ⟨rfl, rfl⟩) | (go_at_call 19; refine (inRaw_nil _ _).mono ?_; rintro e w5 ⟨rfl, rfl⟩) | (go_at_call 21; refine (left_nil _).mono ?_; rintro e w5 ⟨rfl, rfl⟩) | (go_at_call 22; refine (err_nil _).mono ?_; rintro e w5 ⟨rfl, rfl⟩) | (go_at_call 23; refine (end_nil _).mono ?_; rintro e w5 ⟨rfl, rfl⟩))
          go_ret
          exact ⟨rfl, hst⟩
      · clear HX
        have hnil : str [] = ⟨#[]⟩ := rfl
        go_wp2_with (first | (go_at_call 15; refine (inNum_nil _ _).mono ?_; rintro e w5 ⟨rfl, rfl⟩) | (go_at_call 17; refine (inText_nil _ _).mono ?_; rintro e w5 ⟨rfl, rfl⟩) | (go_at_call 19; refine (inRaw_nil _ _).mono ?_; rintro e w5 ⟨rfl, rfl⟩) | (go_at_call 21; refine (left_nil _).mono ?_; rintro e w5 ⟨rfl, rfl⟩) | (go_at_call 22; refine (err_nil _).mono ?_; rintro e w5 ⟨rfl, rfl⟩) | (go_at_call 23; refine (end_nil _).mono ?_; rintro e w5 ⟨rfl, rfl⟩))
        go_ret
        exact ⟨rfl, hst⟩
end Go.Proofs.Ytfenclojhhfhbaa
