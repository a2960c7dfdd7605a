/-
  KeyRanges.
-/
import Derived.Test.YtilinbmocmodhaaKeyRgOut
namespace Go.Proofs.Ytilinbmocmodhaa
open Go.RowKit
set_option linter.unusedVariables false
set_option linter.unusedSimpArgs false

set_option maxHeartbeats 8000000 in
set_option maxRecDepth 100000 in
theorem ranges_in (r o : Rg) (k : List UInt8) (ps : List (List UInt8)) (a : Option Addr) (cap : Nat) (w : World) (hrow : RowAt w noF a (texts ps))
    (h0 : r.lo.length ≤ 1024) (h1 : r.hi.length ≤ 1024) (h2 : o.lo.length ≤ 1024) (h3 : o.hi.length ≤ 1024) (h4 : k.length ≤ 1024) (h5 : ps.length ≤ 20) :
    Calls Try.prog 4 #[r.val, o.val, .string (str k), .slice a ps.length cap] w fun e w' => e = .returned (.bool true) ∧ Step noF w w' := by
  have e0 : r.val = .agg #[.string (str r.lo), .string (str r.hi)] := rfl
  have e1 : o.val = .agg #[.string (str o.lo), .string (str o.hi)] := rfl
  have hz := str_size
  have HM : ∀ u, Calls Try.prog 12 #[.agg #[.string (str r.lo), .string (str r.hi)], .agg #[.string (str o.lo), .string (str o.hi)]] u fun e w' => e = .returned (.agg #[.string (str (r.meet o).lo), .string (str (r.meet o).hi)]) ∧ Step noF u w' := fun u => meet_any r o u
  have HM2 : ∀ u, Calls Try.prog 11 #[.agg #[.string (str r.lo), .string (str r.hi)], .agg #[.string (str o.lo), .string (str o.hi)]] u fun e w' => e = .returned (.agg #[.string (str (r.meet o).lo), .string (str (r.meet o).hi)]) ∧ Step noF u w' := fun u => refMeet_any r o u
  have K0 : ∀ u, Calls Try.prog 13 #[.agg #[.string (str r.lo), .string (str r.hi)]] u fun e w' => e = .returned (.bool r.may) ∧ Step noF u w' := fun u => may_any r u
  have K1 : ∀ u, Calls Try.prog 14 #[.agg #[.string (str r.lo), .string (str r.hi)]] u fun e w' => e = .returned (.bool r.may) ∧ Step noF u w' := fun u => refMay_any r u
  have K2 : ∀ u, Calls Try.prog 15 #[.agg #[.string (str r.lo), .string (str r.hi)], .string (str k)] u fun e w' => e = .returned (.bool (r.has k)) ∧ Step noF u w' := fun u => has_any r k u
  have K3 : ∀ u, Calls Try.prog 16 #[.agg #[.string (str r.lo), .string (str r.hi)], .string (str k)] u fun e w' => e = .returned (.bool (r.has k)) ∧ Step noF u w' := fun u => refHas_any r k u
  have K4 : ∀ u, Calls Try.prog 17 #[.agg #[.string (str r.lo), .string (str r.hi)]] u fun e w' => e = .returned (.bool r.none) ∧ Step noF u w' := fun u => isEmpty_any r u
  have K5 : ∀ u, Calls Try.prog 18 #[.agg #[.string (str r.lo), .string (str r.hi)]] u fun e w' => e = .returned (.bool r.none) ∧ Step noF u w' := fun u => refEmpty_any r u
  have C1 := fun u hu => cut_any r ps (by omega) a cap u hu
  have C2 := fun u hu => refCut_any r ps (by omega) a cap u hu
  have HL : Hid ((r.cut ps).length = ps.length + 1) := cut_length r ps
  rw [e0] at C1 C2
  obtain ⟨M, hM⟩ : ∃ M, r.meet o = M := ⟨_, rfl⟩
  rw [hM] at HM HM2
  obtain ⟨rs, hrs⟩ : ∃ rs, r.cut ps = rs := ⟨_, rfl⟩
  rw [hrs] at C1 C2 HL
  have HKS := hid (And.intro K0 (And.intro K1 (And.intro K2 (And.intro K3 (And.intro K4 K5)))))
  rw [e0, e1]
  clear e0 e1 hM hrs K0 K1 K2 K3 K4 K5
  obtain ⟨W, hW⟩ : ∃ W, (w.alloc (.cells #[.string (str r.lo), .string (str r.hi)] 29)).alloc (.cells #[.string (str o.lo), .string (str o.hi)] 29) = W := ⟨_, rfl⟩
  have S1 : Hid (Step noF w W) := by rw [← hW]; exact ((Step.refl noF w).alloc _).alloc _
  have P1 : Hid (PairAt W w.heap.size 29 r.lo r.hi) := by rw [← hW]; exact (pair_new w 29 r.lo r.hi).alloc _
  have P2 : Hid (PairAt W (w.heap.size + 1) 29 o.lo o.hi) := by
    have := pair_new (w.alloc (.cells #[.string (str r.lo), .string (str r.hi)] 29)) 29 o.lo o.hi
    rw [← hW]
    rw [World.size_alloc] at this
    exact this
  have HW := hid hW
  have HR := hid hrow
  clear hW hrow
  go_enter Try.func4, Try.ntmps4
  go_wp2_with fail
  rw [HW.out]
  refine (awake_any _).mono ?_
  rintro e w1 ⟨rfl, s1⟩
  have Q1 := hid (P1.out.step s1)
  have Q2 := hid (P2.out.step s1)
  have T1 : Hid (Step noF w w1) := S1.out.trans s1
  have x0 := Q1.out.c0
  have x1 := Q1.out.c1
  have y0 := Q2.out.c0
  have y1 := Q2.out.c1
  clear s1 P1 P2 S1 HW
  go_wp2_with fail
  clear x0 x1 y0 y1 h0 h1 h2 h3 h4
  go_loopw [9] (fun i wr => ∃ j : Nat, j ≤ ps.length ∧ i = .int .i64 j ∧ w1 = wr) (fun i _ => ps.length - (intOf i).toNat)
  case atStart => exact ⟨0, Nat.zero_le _, rfl, rfl⟩
  case round =>
    obtain ⟨j, hj, rfl, rfl⟩ := hrel
    by_cases hjn : j < ps.length
    · have hji : (j : Int) < (ps.length : Int) := by omega
      obtain ⟨b, off, rfl, hc⟩ := texts_at (HR.out.step T1.out) j hjn
      obtain ⟨p, hp⟩ : ∃ p, ps[j] = p := ⟨_, rfl⟩
      rw [hp] at hc
      clear hp
      by_cases hlp : p.length ≤ 1024
      · go_wp2_with fail
        go_roundw
        case rel => exact ⟨j + 1, by omega, int_eq (by omega), by first | trivial | rfl⟩
        case measure => simp [intOf]; omega
      · go_wp2_with fail
        go_ret
        exact ⟨rfl, T1.out⟩
    · clear hz
      have x0 : ∀ o, (w1.alloc o).cell? ⟨w.heap.size, 0, none⟩ = some (.string (str r.lo)) := fun o => cell_alloc Q1.out.c0 o
      have x1 : ∀ o, (w1.alloc o).cell? ⟨w.heap.size, 1, none⟩ = some (.string (str r.hi)) := fun o => cell_alloc Q1.out.c1 o
      have y0 : ∀ q, (w1.alloc q).cell? ⟨w.heap.size + 1, 0, none⟩ = some (.string (str o.lo)) := fun q => cell_alloc Q2.out.c0 q
      have y1 : ∀ q, (w1.alloc q).cell? ⟨w.heap.size + 1, 1, none⟩ = some (.string (str o.hi)) := fun q => cell_alloc Q2.out.c1 q
      have z0 := Q1.out.c0
      have z1 := Q1.out.c1
      go_wp2_with fail
      refine (HM2 _).mono ?_
      rintro e w2 ⟨rfl, s2⟩
      have R1 := hid ((Q1.out.alloc _).step s2)
      have R2 := hid ((Q2.out.alloc _).step s2)
      have U1 := hid ((pair_new w1 31 r.lo r.hi).step s2)
      have T2 : Hid (Step noF w w2) := (T1.out.alloc _).trans s2
      obtain ⟨bu, hbu⟩ : ∃ bu, w1.heap.size = bu := ⟨_, rfl⟩
      rw [hbu] at U1 ⊢
      clear s2 Q1 Q2 T1 x0 x1 y0 y1 z0 z1 hbu
      have x0 : ∀ q, (w2.alloc q).cell? ⟨w.heap.size, 0, none⟩ = some (.string (str r.lo)) := fun q => cell_alloc R1.out.c0 q
      have x1 : ∀ q, (w2.alloc q).cell? ⟨w.heap.size, 1, none⟩ = some (.string (str r.hi)) := fun q => cell_alloc R1.out.c1 q
      have y0 : ∀ q, (w2.alloc q).cell? ⟨w.heap.size + 1, 0, none⟩ = some (.string (str o.lo)) := fun q => cell_alloc R2.out.c0 q
      have y1 : ∀ q, (w2.alloc q).cell? ⟨w.heap.size + 1, 1, none⟩ = some (.string (str o.hi)) := fun q => cell_alloc R2.out.c1 q
      go_wp2_with fail
      refine (HM _).mono ?_
      rintro e w3 ⟨rfl, s3⟩
      have R3 := hid (((R1.out.alloc _).step s3).alloc (.cells #[.string (str M.lo), .string (str M.hi)] 29))
      have U3 := hid (((U1.out.alloc _).step s3).alloc (.cells #[.string (str M.lo), .string (str M.hi)] 29))
      have V3 := hid (((pair_new w2 31 M.lo M.hi).step s3).alloc (.cells #[.string (str M.lo), .string (str M.hi)] 29))
      have M3 := hid (pair_new w3 29 M.lo M.hi)
      have T3 : Hid (Step noF w (w3.alloc (.cells #[.string (str M.lo), .string (str M.hi)] 29))) := ((T2.out.alloc _).trans s3).alloc _
      obtain ⟨bw, hbw⟩ : ∃ bw, w2.heap.size = bw := ⟨_, rfl⟩
      rw [hbw] at V3 ⊢
      clear s3 R1 R2 U1 T2 x0 x1 y0 y1 hbw
      go_wp2_with fail
      change Code.wp _ (Code.region 13 ((Try.f4.body.bind (regionOps 13)).getD #[]) true) _ _ _
      obtain ⟨bm, hbm⟩ : ∃ bm, w3.heap.size = bm := ⟨_, rfl⟩
      obtain ⟨W4, hW4⟩ : ∃ W4, w3.alloc (.cells #[.string (str M.lo), .string (str M.hi)] 29) = W4 := ⟨_, rfl⟩
      rw [hbm] at M3 ⊢
      rw [hW4] at R3 U3 V3 M3 T3 ⊢
      clear hbm hW4
      refine kra_go w.heap.size bu bw bm r.lo r.hi k M.lo M.hi r.may (r.has k) r.none _ W4 rfl rfl rfl rfl rfl rfl ?_ ?_
      · intro u su
        have a1 := R3.out.step su
        have a2 := U3.out.step su
        have a3 := V3.out.step su
        have a4 := M3.out.step su
        obtain ⟨k0, k1, k2, k3, k4, k5⟩ := HKS.out
        exact ⟨a1.c0, a1.c1, a2.c0, a2.c1, a3.c0, a3.c1, a4.c0, a4.c1, k0 u, k1 u, k2 u, k3 u, k4 u, k5 u⟩
      intro w4 s4
      have R4 := hid (R3.out.step s4)
      have U4 := hid (U3.out.step s4)
      have T4 : Hid (Step noF w w4) := T3.out.trans s4
      clear s4 R3 U3 V3 M3 T3 HM HM2 HKS
      rw [kra_lit]
      have x0 := R4.out.c0
      have x1 := R4.out.c1
      go_wp2_with fail
      refine (C1 _ (HR.out.step T4.out)).mono ?_
      rintro e w5 ⟨a5, c5, rfl, hc5, G5, s5⟩
      have H5 := hid G5
      have U5 := hid (U4.out.step s5)
      have T5 : Hid (Step noF w w5) := T4.out.trans s5
      clear G5 s5 x0 x1 R4 U4 T4
      have x0 := U5.out.c0
      have x1 := U5.out.c1
      go_wp2_with fail
      refine (C2 _ (HR.out.step T5.out)).mono ?_
      rintro e w6 ⟨a6, c6, rfl, hc6, G6, s6⟩
      have H6 := hid G6
      have H56 := hid (H5.out.step s6)
      have T6 : Hid (Step noF w w6) := T5.out.trans s6
      clear G6 s6 x0 x1 U5 T5 H5 C1 C2
      go_wp2_with fail
      go_loopw [15] (fun i wr => ∃ j : Nat, j ≤ ps.length + 1 ∧ i = .int .i64 j ∧ Step noF w6 wr) (fun i _ => ps.length + 1 - (intOf i).toNat)
      case atStart => exact ⟨0, Nat.zero_le _, rfl, Step.refl _ _⟩
      case round =>
        obtain ⟨j2, hj2, rfl, hst⟩ := hrel
        by_cases hjn2 : j2 < ps.length + 1
        · have hji2 : (j2 : Int) < ((ps.length + 1 : Nat) : Int) := by omega
          have hlt2 : j2 < rs.length := by rw [HL.out]; exact hjn2
          obtain ⟨cb, co, rfl, c0, c1⟩ := (H56.out.step hst).at j2 hlt2
          obtain ⟨db, dd, rfl, d0, d1⟩ := (H6.out.step hst).at j2 hlt2
          obtain ⟨x, hx⟩ : ∃ x, rs[j2].lo = x := ⟨_, rfl⟩
          obtain ⟨y, hy⟩ : ∃ y, rs[j2].hi = y := ⟨_, rfl⟩
          rw [hx] at c0 d0
          rw [hy] at c1 d1
          clear hx hy hlt2
          have A0 := hid c0
          have A1 := hid c1
          have B0 := hid d0
          have B1 := hid d1
          clear c0 c1 d0 d1
          go_wp2_with fail
          change Code.wp _ (Code.region 22 ((Try.f4.body.bind (regionOps 22)).getD #[]) true) _ _ _
          refine krb_go cb co db dd (ps.length + 1) c5 c6 j2 x y hji2 _ wr rfl rfl rfl rfl ?_ ?_
          · intro u su
            exact ⟨su.after A0.out, su.after A1.out, su.after B0.out, su.after B1.out⟩
          intro w7 s7
          rw [krb_lit]
          go_wp2_with fail
          go_roundw
          case rel => exact ⟨j2 + 1, by omega, int_eq (by omega), hst.trans s7⟩
          case measure => simp [intOf]; omega
        · have hji2 : ¬ (j2 : Int) < ((ps.length + 1 : Nat) : Int) := by omega
          go_wp2_with fail
          go_ret
          exact ⟨rfl, T6.out.trans hst⟩
theorem ranges_walk (r o : Rg) (k : List UInt8) (ps : List (List UInt8)) (a : Option Addr) (cap : Nat) (w : World) (hrow : RowAt w noF a (texts ps)) :
    Calls Try.prog 4 #[r.val, o.val, .string (str k), .slice a ps.length cap] w fun e w' => e = .returned (.bool true) ∧ Step noF w w' := by
  by_cases h : r.lo.length ≤ 1024 ∧ r.hi.length ≤ 1024 ∧ o.lo.length ≤ 1024 ∧ o.hi.length ≤ 1024 ∧ k.length ≤ 1024 ∧ ps.length ≤ 20
  · exact ranges_in r o k ps a cap w hrow h.1 h.2.1 h.2.2.1 h.2.2.2.1 h.2.2.2.2.1 h.2.2.2.2.2
  · exact ranges_out r o k ps a cap w h
end Go.Proofs.Ytilinbmocmodhaa
