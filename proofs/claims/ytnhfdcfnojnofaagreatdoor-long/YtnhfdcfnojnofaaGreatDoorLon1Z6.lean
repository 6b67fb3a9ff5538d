/-
  Part 6 of the texts ahead of Lon1: Fra6, Fra7, Fra8.
-/
import Derived.Test.YtnhfdcfnojnofaaGreatDoorLon1Z5
import Derived.Deep.RegionHeld3
set_option linter.unusedSimpArgs false
set_option linter.unusedVariables false
/-
  What package fraction does: Over.
-/
namespace Go.Proofs.YtnhfdcfnojnofaaGreatDoor
open Go.RowKit

set_option maxRecDepth 100000 in
set_option maxHeartbeats 2000000 in
theorem fover_any (K : Nat) (hK : K + K ≤ 1073741822) (hO : OverOK (K + K)) (w : World) (x y : Value) (p r : Int) (q s : Nat) (h : FracV w x p q) (k : FracV w y r s) (hr0 : r ≠ 0) (hp : p.natAbs < 4294967296 ^ K) (hr : r.natAbs < 4294967296 ^ K) (hq : q < 4294967296 ^ K) (hs : s < 4294967296 ^ K) :
    Calls Tryz.prog 124 #[x, y] w fun e w' => ∃ t, e = .returned t ∧ FracV w' t ((p * s * r.sign) / (Nat.gcd (p * s * r.sign).natAbs (q * r.natAbs) : Int)) ((q * r.natAbs) / Nat.gcd (p * s * r.sign).natAbs (q * r.natAbs)) ∧ Below w.heap.size w w' := by
  have h0 := h
  have k0 := k
  obtain ⟨b, ao, l, cap, ao', l', cap', rfl, hv, hb, hu, hq0, hg⟩ := h.parts
  obtain ⟨c, bo, m, dap, bo', m', dap', rfl, hv', hb', hu', hq', hg'⟩ := k.parts
  have hy1 : WholeV w (.agg #[.bool c, .slice bo m dap]) r := ⟨c, _, rfl, hv', hb'⟩
  have hboxP : Box3 (((w.alloc (.cells #[.bool b, .slice ao l cap, .slice ao' l' cap'] 103)).alloc (.cells #[.bool c, .slice bo m dap, .slice bo' m' dap'] 103)).alloc (.cells #[.bool false, .slice none 0 0, .slice none 0 0] 103)) w.heap.size (.bool b) (.slice ao l cap) (.slice ao' l' cap') := ((Box3.new _ _ _ _ _).alloc _).alloc _
  have hboxQ : Box3 (((w.alloc (.cells #[.bool b, .slice ao l cap, .slice ao' l' cap'] 103)).alloc (.cells #[.bool c, .slice bo m dap, .slice bo' m' dap'] 103)).alloc (.cells #[.bool false, .slice none 0 0, .slice none 0 0] 103)) (w.heap.size + 1) (.bool c) (.slice bo m dap) (.slice bo' m' dap') := (Box3.new1 _ _ _ _ _ _).alloc _
  have hboxR : Box3 (((w.alloc (.cells #[.bool b, .slice ao l cap, .slice ao' l' cap'] 103)).alloc (.cells #[.bool c, .slice bo m dap, .slice bo' m' dap'] 103)).alloc (.cells #[.bool false, .slice none 0 0, .slice none 0 0] 103)) (w.heap.size + 1 + 1) (.bool false) (.slice none 0 0) (.slice none 0 0) := Box3.new2 _ _ _ _ _ _ _
  have hbW := below3 w (.cells #[.bool b, .slice ao l cap, .slice ao' l' cap'] 103) (.cells #[.bool c, .slice bo m dap, .slice bo' m' dap'] 103) (.cells #[.bool false, .slice none 0 0, .slice none 0 0] 103)
  have hZ : (p * s * r.sign).natAbs < 4294967296 ^ (K + K) := by
    have h1 := abs_mul_lt hp hs
    have h2 : r.sign.natAbs = 1 := Int.natAbs_sign_of_ne_zero hr0
    rw [Int.natAbs_mul, h2, Nat.mul_one]; exact h1
  have hN : q * r.natAbs < 4294967296 ^ (K + K) := mul_pow_lt hq hr
  have hN0 : q * r.natAbs ≠ 0 := Nat.pos_iff_ne_zero.1 (Nat.mul_pos hq0 (by omega))
  go_enter Tryz.func124, Tryz.ntmps124
  go_wp2_with fail
  refine (across_any _ _ _ p r q s K K (by omega) (((h0.alloc _).alloc _).alloc _) (((k0.alloc _).alloc _).alloc _) hp hs).mono ?_
  rintro e wA ⟨tA, rfl, hA1, hbA1⟩
  obtain ⟨bA, aA, lA, kA, rfl, hvA, hbA⟩ := hA1.parts
  have hP1 := hboxP.below hbA1
  have hQ1 := hboxQ.below hbA1
  have hR1 := hboxR.below hbA1
  have hh1 := (((h0.alloc _).alloc _).alloc _).below hbA1
  have hk1 := (((k0.alloc _).alloc _).alloc _).below hbA1
  have hy2 := (((hy1.alloc _).alloc _).alloc _).below hbA1
  have hB1 : Below w.heap.size w wA := hbW.trans (hbA1.mono hbW.size)
  clear hbA1 hboxP hboxQ hboxR hbW h0 k0 hy1 hv hu hv' hu'
  have hP2 := hP1.alloc (.cells #[.bool bA, .slice aA lA kA] 101)
  have hQ2 := hQ1.alloc (.cells #[.bool bA, .slice aA lA kA] 101)
  have hR2 := hR1.alloc (.cells #[.bool bA, .slice aA lA kA] 101)
  have hh2 := hh1.alloc (.cells #[.bool bA, .slice aA lA kA] 101)
  have hk2 := hk1.alloc (.cells #[.bool bA, .slice aA lA kA] 101)
  have hy3 := hy2.alloc (.cells #[.bool bA, .slice aA lA kA] 101)
  have hu5 := hA1.alloc (.cells #[.bool bA, .slice aA lA kA] 101)
  have hbox5 : Box2 (wA.alloc (.cells #[.bool bA, .slice aA lA kA] 101)) wA.heap.size (.bool bA) (.slice aA lA kA) := Box2.new _ _ _ _
  have hB2 : Below w.heap.size w (wA.alloc (.cells #[.bool bA, .slice aA lA kA] 101)) := hB1.alloc hB1.size _
  have hzA : w.heap.size + 1 + 1 < wA.heap.size := hR1.2.2.2.2.2.2
  have hQ1b := hQ1
  obtain ⟨j0, j1, j2, j3, j4, j5, j6⟩ := hQ1b
  clear hP1 hQ1 hR1 hh1 hk1 hy2
  go_wp2_with fail
  refine (fsign_any _ _ r s hk2).mono ?_
  rintro e wS ⟨rfl, hbS⟩
  have hP3 := hP2.below hbS
  have hQ3 := hQ2.below hbS
  have hR3 := hR2.below hbS
  have hh3 := hh2.below hbS
  have hy4 := hy3.below hbS
  have hu6 := hu5.below hbS
  have hbox6 := hbox5.below hbS
  have hB3 : Below w.heap.size w wS := hB2.trans (hbS.mono hB2.size)
  clear hbS hP2 hQ2 hR2 hh2 hk2 hy3 hu5 hbox5 hB2 j0 j1 j2 j3 j4 j5 j6
  by_cases hneg : r < 0
  · have hsgn : r.sign = -1 := Int.sign_eq_neg_one_of_neg hneg
    have hZe : p * s * r.sign = -(p * s) := by rw [hsgn, Int.mul_neg, Int.mul_one]
    have HZe := hide hZe
    have hbox6b := hbox6
    obtain ⟨d0, d1, d2, d3, d4⟩ := hbox6b
    rw [hsgn]
    clear hZe
    have HSG := hide hsgn
    clear hsgn
    go_wp2_with fail
    refine (wturned_any _ _ (p * s) hu6).mono ?_
    rintro e wT ⟨tT, rfl, hT1, hbT⟩
    obtain ⟨bT, aT, lT, kT, rfl, hvT, hbT2⟩ := hT1.parts
    have hP4 := hP3.below hbT
    have hQ4 := hQ3.below hbT
    have hR4 := hR3.below hbT
    have hh4 := hh3.below hbT
    have hy5 := hy4.below hbT
    have hbox7 := hbox6.below hbT
    have hB4 : Below w.heap.size w wT := hB3.trans (hbT.mono hB3.size)
    clear hbT hP3 hQ3 hR3 hh3 hy4 hu6 hbox6 hB3 d0 d1 d2 d3 d4
    obtain ⟨d0, d1, d2, d3, d4⟩ := hbox7
    have e1 : (wT.setCell ⟨wA.heap.size, 0, none⟩ (.bool bT)).cell? ⟨wA.heap.size, 1, none⟩ = some (.slice aA lA kA) := by rw [World.cell?_setCell_other _ _ _ _ (by simp)]; exact d1
    have hP5 : Box3 ((wT.setCell ⟨wA.heap.size, 0, none⟩ (.bool bT)).setCell ⟨wA.heap.size, 1, none⟩ (.slice aT lT kT)) w.heap.size (.bool b) (.slice ao l cap) (.slice ao' l' cap') := (hP4.far (by omega)).far (by omega)
    have hQ5 : Box3 ((wT.setCell ⟨wA.heap.size, 0, none⟩ (.bool bT)).setCell ⟨wA.heap.size, 1, none⟩ (.slice aT lT kT)) (w.heap.size + 1) (.bool c) (.slice bo m dap) (.slice bo' m' dap') := (hQ4.far (by omega)).far (by omega)
    have hR5 : Box3 ((wT.setCell ⟨wA.heap.size, 0, none⟩ (.bool bT)).setCell ⟨wA.heap.size, 1, none⟩ (.slice aT lT kT)) (w.heap.size + 1 + 1) (.bool false) (.slice none 0 0) (.slice none 0 0) := (hR4.far (by omega)).far (by omega)
    have hh5 : FracV ((wT.setCell ⟨wA.heap.size, 0, none⟩ (.bool bT)).setCell ⟨wA.heap.size, 1, none⟩ (.slice aT lT kT)) (.agg #[.bool b, .slice ao l cap, .slice ao' l' cap']) p q := (hh4.setCell d0 (by simp) _).setCell e1 (by simp) _
    have hy6 : WholeV ((wT.setCell ⟨wA.heap.size, 0, none⟩ (.bool bT)).setCell ⟨wA.heap.size, 1, none⟩ (.slice aT lT kT)) (.agg #[.bool c, .slice bo m dap]) r := (hy5.setCell d0 (by simp) _).setCell e1 (by simp) _
    have hu7 : WholeV ((wT.setCell ⟨wA.heap.size, 0, none⟩ (.bool bT)).setCell ⟨wA.heap.size, 1, none⟩ (.slice aT lT kT)) (.agg #[.bool bT, .slice aT lT kT]) (p * s * r.sign) := by rw [HZe.out]; exact (hT1.setCell d0 (by simp) _).setCell e1 (by simp) _
    have hbox8 : Box2 ((wT.setCell ⟨wA.heap.size, 0, none⟩ (.bool bT)).setCell ⟨wA.heap.size, 1, none⟩ (.slice aT lT kT)) wA.heap.size (.bool bT) (.slice aT lT kT) := by
      refine ⟨?_, World.cell?_setCell_same _ _ _ e1, by simpa using d2, by simpa using d3, by simpa using d4⟩
      rw [World.cell?_setCell_other _ _ _ _ (by simp)]; exact World.cell?_setCell_same _ _ _ d0
    have hB5 : Below w.heap.size w ((wT.setCell ⟨wA.heap.size, 0, none⟩ (.bool bT)).setCell ⟨wA.heap.size, 1, none⟩ (.slice aT lT kT)) := (hB4.setCell (by simp; omega) _).setCell (by simp; omega) _
    clear hP4 hQ4 hR4 hh4 hy5 hB4 hT1 hvT hbT2
    have hbox9 := hbox8
    obtain ⟨i0, i1, i2, i3, i4⟩ := hbox9
    have hP9 := hP5
    obtain ⟨u0, u1, u2, u3, u4, u5, u6⟩ := hP9
    have hQ9 := hQ5
    obtain ⟨v0, v1, v2, v3, v4, v5, v6⟩ := hQ9
    clear e1
    go_wp2
    go_region_held (fun w' => w'.cell? ⟨w.heap.size, 0, none⟩ = some (.bool b) ∧ w'.cell? ⟨w.heap.size, 1, none⟩ = some (.slice ao l cap) ∧ w'.cell? ⟨w.heap.size, 2, none⟩ = some (.slice ao' l' cap') ∧ w'.cell? ⟨w.heap.size + 1, 0, none⟩ = some (.bool c) ∧ w'.cell? ⟨w.heap.size + 1, 1, none⟩ = some (.slice bo m dap) ∧ w'.cell? ⟨wA.heap.size, 0, none⟩ = some (.bool bT) ∧ w'.cell? ⟨wA.heap.size, 1, none⟩ = some (.slice aT lT kT)) (first | (refine ⟨?_, ?_, ?_, ?_, ?_, ?_, ?_⟩ <;> (rw [far, far, far] <;> first | assumption | omega)) | go_keep) (first | (go_at_call 78; refine (reduced_any (K + K) hK hO _ _ _ (p * s * r.sign) (q * r.natAbs) (((hu7.drewN 1).below hbB1).below hbC1 |>.below hbD1) hD1 hN0 hZ hN).mono ?_; rintro e wE ⟨tE, rfl, hE1, hbE1⟩; obtain ⟨b2, a2, l2, k2, a3, l3, k3, rfl, hp1, hp2, hp3, hp4, hp5⟩ := hE1.parts; have hP6 := (((hP5.drew.below hbB1).below hbC1).below hbD1).below hbE1; obtain ⟨x0, x1, x2, x3, x4, x5, x6⟩ := hP6; have hQ6 := (((hQ5.drew.below hbB1).below hbC1).below hbD1).below hbE1; obtain ⟨y0, y1, y2, y3, y4, y5, y6⟩ := hQ6; have hU6 := (((hbox8.drew.below hbB1).below hbC1).below hbD1).below hbE1; obtain ⟨z0, z1, z2, z3, z4⟩ := hU6; have hR6 := (((hR5.drew.below hbB1).below hbC1).below hbD1).below hbE1; obtain ⟨c0, c1, c2, f0, f1, f2, g0⟩ := hR6) | (go_at_call 204; refine (times_any _ _ _ q r.natAbs K K (hB1.below hbC1) hC1 hq hr (by omega)).mono ?_; rintro e wD ⟨tD, rfl, hD1, hbD1⟩; have hP7 := ((hP5.drew.below hbB1).below hbC1).below hbD1; obtain ⟨m0, m1, m2, m3, m4, m5, m6⟩ := hP7; have hQ7 := ((hQ5.drew.below hbB1).below hbC1).below hbD1; obtain ⟨n0, n1, n2, n3, n4, n5, n6⟩ := hQ7; have hU7 := ((hbox8.drew.below hbB1).below hbC1).below hbD1; obtain ⟨o0, o1, o2, o3, o4⟩ := hU7) | (go_at_call 135; refine (size_any _ _ r ((hy6.drewN 1).below hbB1)).mono ?_; rintro e wC ⟨tC, rfl, hC1, hbC1⟩; have hP8 := (hP5.drew.below hbB1).below hbC1; obtain ⟨q0, q1, q2, q3, q4, q5, q6⟩ := hP8; have hQ8 := (hQ5.drew.below hbB1).below hbC1; obtain ⟨r0, r1, r2, r3, r4, r5, r6⟩ := hQ8; have hU8 := (hbox8.drew.below hbB1).below hbC1; obtain ⟨s0, s1, s2, s3, s4⟩ := hU8) | (go_at_call 201; refine (divisor_any _ _ p q (by exact hh5.drew)).mono ?_; rintro e wB ⟨tB, rfl, hB1, hbB1⟩; have hP10 := hP5.drew.below hbB1; obtain ⟨j0, j1, j2, j3, j4, j5, j6⟩ := hP10; have hQ10 := hQ5.drew.below hbB1; obtain ⟨t0, t1, t2, t3, t4, t5, t6⟩ := hQ10; have hU10 := hbox8.drew.below hbB1; obtain ⟨k0, k1, k2, k3, k4⟩ := hU10))
    have hbB : Below w.heap.size w wB := hB5.trans ((below_drew hbB1).mono hB5.size)
    have hbC : Below w.heap.size w wC := hbB.trans (hbC1.mono hbB.size)
    have hbD : Below w.heap.size w wD := hbC.trans (hbD1.mono hbC.size)
    have hbE : Below w.heap.size w wE := hbD.trans (hbE1.mono hbD.size)
    go_wp2
    exact bodyPost_ret (v := .agg #[.bool b2, .slice a2 l2 k2, .slice a3 l3 k3]) (by simp [results, Tryz.results124, go_sem, c0, c1, c2]) rfl ⟨_, rfl, fracV_boxed hp1 hp2 hp3 hp4 hp5 c0 c1 c2,
      ((hbE.setCell (by simp; omega) _).setCell (by simp; omega) _).setCell (by simp; omega) _⟩
  · have hpos : 0 < r := by omega
    have hsgn : r.sign = 1 := Int.sign_eq_one_of_pos hpos
    have hZe : p * s * r.sign = p * s := by rw [hsgn, Int.mul_one]
    have HZe := hide hZe
    have hP5 := hP3
    have hQ5 := hQ3
    have hR5 := hR3
    have hh5 := hh3
    have hy6 := hy4
    have hu7 : WholeV wS (.agg #[.bool bA, .slice aA lA kA]) (p * s * r.sign) := by rw [hZe]; exact hu6
    have hbox8 := hbox6
    have hB5 := hB3
    rw [hsgn]
    have HSG := hide hsgn
    clear hZe hsgn hP3 hQ3 hR3 hh3 hy4 hu6 hbox6 hB3
    have hbox9 := hbox8
    obtain ⟨i0, i1, i2, i3, i4⟩ := hbox9
    have hP9 := hP5
    obtain ⟨u0, u1, u2, u3, u4, u5, u6⟩ := hP9
    have hQ9 := hQ5
    obtain ⟨v0, v1, v2, v3, v4, v5, v6⟩ := hQ9
    go_wp2
    go_region_held (fun w' => w'.cell? ⟨w.heap.size, 0, none⟩ = some (.bool b) ∧ w'.cell? ⟨w.heap.size, 1, none⟩ = some (.slice ao l cap) ∧ w'.cell? ⟨w.heap.size, 2, none⟩ = some (.slice ao' l' cap') ∧ w'.cell? ⟨w.heap.size + 1, 0, none⟩ = some (.bool c) ∧ w'.cell? ⟨w.heap.size + 1, 1, none⟩ = some (.slice bo m dap) ∧ w'.cell? ⟨wA.heap.size, 0, none⟩ = some (.bool bA) ∧ w'.cell? ⟨wA.heap.size, 1, none⟩ = some (.slice aA lA kA)) (first | (refine ⟨?_, ?_, ?_, ?_, ?_, ?_, ?_⟩ <;> (rw [far, far, far] <;> first | assumption | omega)) | go_keep) (first | (go_at_call 78; refine (reduced_any (K + K) hK hO _ _ _ (p * s * r.sign) (q * r.natAbs) (((hu7.drewN 1).below hbB1).below hbC1 |>.below hbD1) hD1 hN0 hZ hN).mono ?_; rintro e wE ⟨tE, rfl, hE1, hbE1⟩; obtain ⟨b2, a2, l2, k2, a3, l3, k3, rfl, hp1, hp2, hp3, hp4, hp5⟩ := hE1.parts; have hP6 := (((hP5.drew.below hbB1).below hbC1).below hbD1).below hbE1; obtain ⟨x0, x1, x2, x3, x4, x5, x6⟩ := hP6; have hQ6 := (((hQ5.drew.below hbB1).below hbC1).below hbD1).below hbE1; obtain ⟨y0, y1, y2, y3, y4, y5, y6⟩ := hQ6; have hU6 := (((hbox8.drew.below hbB1).below hbC1).below hbD1).below hbE1; obtain ⟨z0, z1, z2, z3, z4⟩ := hU6; have hR6 := (((hR5.drew.below hbB1).below hbC1).below hbD1).below hbE1; obtain ⟨c0, c1, c2, f0, f1, f2, g0⟩ := hR6) | (go_at_call 204; refine (times_any _ _ _ q r.natAbs K K (hB1.below hbC1) hC1 hq hr (by omega)).mono ?_; rintro e wD ⟨tD, rfl, hD1, hbD1⟩; have hP7 := ((hP5.drew.below hbB1).below hbC1).below hbD1; obtain ⟨m0, m1, m2, m3, m4, m5, m6⟩ := hP7; have hQ7 := ((hQ5.drew.below hbB1).below hbC1).below hbD1; obtain ⟨n0, n1, n2, n3, n4, n5, n6⟩ := hQ7; have hU7 := ((hbox8.drew.below hbB1).below hbC1).below hbD1; obtain ⟨o0, o1, o2, o3, o4⟩ := hU7) | (go_at_call 135; refine (size_any _ _ r ((hy6.drewN 1).below hbB1)).mono ?_; rintro e wC ⟨tC, rfl, hC1, hbC1⟩; have hP8 := (hP5.drew.below hbB1).below hbC1; obtain ⟨q0, q1, q2, q3, q4, q5, q6⟩ := hP8; have hQ8 := (hQ5.drew.below hbB1).below hbC1; obtain ⟨r0, r1, r2, r3, r4, r5, r6⟩ := hQ8; have hU8 := (hbox8.drew.below hbB1).below hbC1; obtain ⟨s0, s1, s2, s3, s4⟩ := hU8) | (go_at_call 201; refine (divisor_any _ _ p q (by exact hh5.drew)).mono ?_; rintro e wB ⟨tB, rfl, hB1, hbB1⟩; have hP10 := hP5.drew.below hbB1; obtain ⟨j0, j1, j2, j3, j4, j5, j6⟩ := hP10; have hQ10 := hQ5.drew.below hbB1; obtain ⟨t0, t1, t2, t3, t4, t5, t6⟩ := hQ10; have hU10 := hbox8.drew.below hbB1; obtain ⟨k0, k1, k2, k3, k4⟩ := hU10))
    have hbB : Below w.heap.size w wB := hB5.trans ((below_drew hbB1).mono hB5.size)
    have hbC : Below w.heap.size w wC := hbB.trans (hbC1.mono hbB.size)
    have hbD : Below w.heap.size w wD := hbC.trans (hbD1.mono hbC.size)
    have hbE : Below w.heap.size w wE := hbD.trans (hbE1.mono hbD.size)
    go_wp2
    exact bodyPost_ret (v := .agg #[.bool b2, .slice a2 l2 k2, .slice a3 l3 k3]) (by simp [results, Tryz.results124, go_sem, c0, c1, c2]) rfl ⟨_, rfl, fracV_boxed hp1 hp2 hp3 hp4 hp5 c0 c1 c2,
      ((hbE.setCell (by simp; omega) _).setCell (by simp; omega) _).setCell (by simp; omega) _⟩
end Go.Proofs.YtnhfdcfnojnofaaGreatDoor

/-
  What package fraction does: Plus.
-/
namespace Go.Proofs.YtnhfdcfnojnofaaGreatDoor
open Go.RowKit

set_option maxRecDepth 100000 in
set_option maxHeartbeats 4000000 in
theorem fplus_any (K M : Nat) (hK : K + K + 1 ≤ 1073741822) (hM : M ≤ 1073741822) (hO : OverOK M) (w : World) (x y : Value) (p r : Int) (q s : Nat) (h : FracV w x p q) (k : FracV w y r s) (hp : p.natAbs < 4294967296 ^ K) (hr : r.natAbs < 4294967296 ^ K) (hq : q < 4294967296 ^ K) (hs : s < 4294967296 ^ K) (hZ : (p * s + r * q).natAbs < 4294967296 ^ M) (hN : q * s < 4294967296 ^ M) :
    Calls Tryz.prog 120 #[x, y] w fun e w' => ∃ t, e = .returned t ∧ FracV w' t ((p * s + r * q) / (Nat.gcd (p * s + r * q).natAbs (q * s) : Int)) ((q * s) / Nat.gcd (p * s + r * q).natAbs (q * s)) ∧ Below w.heap.size w w' := by
  obtain ⟨b, ao, l, cap, ao', l', cap', rfl, hv, hb, hu, hq0, hg⟩ := h.parts
  obtain ⟨c, bo, m, dap, bo', m', dap', rfl, hv', hb', hu', hq', hg'⟩ := k.parts
  have hH : Held w b c ao ao' bo bo' l cap l' cap' m dap m' dap' p r q s (((w.alloc (.cells #[.bool b, .slice ao l cap, .slice ao' l' cap'] 103)).alloc (.cells #[.bool c, .slice bo m dap, .slice bo' m' dap'] 103)).alloc (.cells #[.bool false, .slice none 0 0, .slice none 0 0] 103)) :=
    ⟨((Box3.new _ _ _ _ _).alloc _).alloc _, (Box3.new1 _ _ _ _ _ _).alloc _, Box3.new2 _ _ _ _ _ _ _, ((h.alloc _).alloc _).alloc _, ((k.alloc _).alloc _).alloc _, below3 w _ _ _, by simp⟩
  clear hv hb hv' hb' h k
  have hk1 := abs_mul_lt hp hs
  have hk2 := abs_mul_lt hr hq
  have hN1 : 0 < q * s := Nat.mul_pos hq0 hq'
  have hqM : q < 4294967296 ^ M := Nat.lt_of_le_of_lt (Nat.le_mul_of_pos_right q hq') hN
  have hsM : s < 4294967296 ^ M := Nat.lt_of_le_of_lt (Nat.le_mul_of_pos_left s hq0) hN
  go_enter Tryz.func120, Tryz.ntmps120
  go_wp2
  generalize (((w.alloc (.cells #[.bool b, .slice ao l cap, .slice ao' l' cap'] 103)).alloc (.cells #[.bool c, .slice bo m dap, .slice bo' m' dap'] 103)).alloc (.cells #[.bool false, .slice none 0 0, .slice none 0 0] 103)) = w0 at hH ⊢
  have i0 := hH.1
  obtain ⟨i00, i01, i02, i03, i04, i05, i06⟩ := i0
  have j0 := hH.2.1
  obtain ⟨j00, j01, j02, j03, j04, j05, j06⟩ := j0
  have hs0 := hH.2.2.2.2.2.2

  go_cut [5] (fun s5 wc => NatV wc s5 (Nat.gcd q s) ∧ Ext w0 wc)
  case first =>
    go_region_held3 (fun w' => w'.cell? ⟨w.heap.size, 0, none⟩ = some (.bool b) ∧ w'.cell? ⟨w.heap.size, 1, none⟩ = some (.slice ao l cap) ∧ w'.cell? ⟨w.heap.size, 2, none⟩ = some (.slice ao' l' cap') ∧ w'.cell? ⟨w.heap.size + 1, 0, none⟩ = some (.bool c) ∧ w'.cell? ⟨w.heap.size + 1, 1, none⟩ = some (.slice bo m dap) ∧ w'.cell? ⟨w.heap.size + 1, 2, none⟩ = some (.slice bo' m' dap')) (first | (refine ⟨?_, ?_, ?_, ?_, ?_, ?_⟩ <;> first | (rw [far, far, far] <;> first | with_reducible assumption | omega) | exact Ext.cell (w := w0) (by repeat (first | with_reducible exact Ext.refl _ | with_reducible assumption | with_reducible refine Ext.drew ?_ | with_reducible refine Ext.alloc ?_ _ | with_reducible refine Ext.set2 ?_ (by first | with_reducible assumption | omega) _ _ | with_reducible refine Ext.set3 ?_ (by first | with_reducible assumption | omega) _ _ _)) (by with_reducible assumption)) | go_keep) (first | (go_at_call 136; have _g := hB1; refine (gcd_any M (by omega) hO _ _ _ q s (hA1.ext (by repeat (first | with_reducible exact Ext.refl _ | with_reducible assumption | with_reducible refine Ext.drew ?_ | with_reducible refine Ext.alloc ?_ _))) (hB1.ext (by repeat (first | with_reducible exact Ext.refl _ | with_reducible assumption | with_reducible refine Ext.drew ?_ | with_reducible refine Ext.alloc ?_ _))) hqM hsM).mono ?_; rintro e wC ⟨tC, rfl, hC1, hbC1⟩; have eC : Ext wB wC := Ext.trans (by repeat (first | with_reducible exact Ext.refl _ | with_reducible assumption | with_reducible refine Ext.drew ?_ | with_reducible refine Ext.alloc ?_ _)) (Ext.of hbC1); have zC : Ext w0 wC := Ext.trans zB eC; have xAC : Ext wA wC := Ext.trans eB eC; have lC : w0.heap.size ≤ wC.heap.size := zC.size) | (go_at_call 201; have _g := hA1; refine (divisor_any _ _ r s (hH.ext (by repeat (first | with_reducible exact Ext.refl _ | with_reducible assumption | with_reducible refine Ext.drew ?_ | with_reducible refine Ext.alloc ?_ _))).2.2.2.2.1).mono ?_; rintro e wB ⟨tB, rfl, hB1, hbB1⟩; have eB : Ext wA wB := Ext.trans (by repeat (first | with_reducible exact Ext.refl _ | with_reducible assumption | with_reducible refine Ext.drew ?_ | with_reducible refine Ext.alloc ?_ _)) (Ext.of hbB1); have zB : Ext w0 wB := Ext.trans zA eB; have lB : w0.heap.size ≤ wB.heap.size := zB.size) | (go_at_call 201; refine (divisor_any _ _ p q (hH.ext (by repeat (first | with_reducible exact Ext.refl _ | with_reducible assumption | with_reducible refine Ext.drew ?_ | with_reducible refine Ext.alloc ?_ _))).2.2.2.1).mono ?_; rintro e wA ⟨tA, rfl, hA1, hbA1⟩; have eA : Ext w0 wA := Ext.trans (by repeat (first | with_reducible exact Ext.refl _ | with_reducible assumption | with_reducible refine Ext.drew ?_ | with_reducible refine Ext.alloc ?_ _)) (Ext.of hbA1); have zA := eA; have lA : w0.heap.size ≤ wA.heap.size := zA.size))
    go_wp2_with fail
    go_meet
    exact ⟨hC1, zC⟩
  case rest =>
    obtain ⟨h5, hx5⟩ := hcut
    obtain ⟨a5, l5, k5, rfl⟩ := h5.slice
    have hHc := hH.ext hx5
    clear hH i00 i01 i02 i03 i04 i05 i06 j00 j01 j02 j03 j04 j05 j06 hs0
    have i0 := hHc.1
    obtain ⟨i00, i01, i02, i03, i04, i05, i06⟩ := i0
    have j0 := hHc.2.1
    obtain ⟨j00, j01, j02, j03, j04, j05, j06⟩ := j0
    have hs0 := hHc.2.2.2.2.2.2
    clear hx5
    by_cases hone : Nat.gcd q s = 1
    · rw [hone] at h5
      have HG : Hid (Nat.gcd (p * s + r * q).natAbs (q * s) = 1) := plus_low1 hg.out hg'.out hone
      go_wp2_with fail
      refine (isOne_yes _ _ h5).mono ?_
      rintro e w1 ⟨rfl, rfl⟩
      go_wp2
      go_region_held3 (fun w' => w'.cell? ⟨w.heap.size, 0, none⟩ = some (.bool b) ∧ w'.cell? ⟨w.heap.size, 1, none⟩ = some (.slice ao l cap) ∧ w'.cell? ⟨w.heap.size, 2, none⟩ = some (.slice ao' l' cap') ∧ w'.cell? ⟨w.heap.size + 1, 0, none⟩ = some (.bool c) ∧ w'.cell? ⟨w.heap.size + 1, 1, none⟩ = some (.slice bo m dap) ∧ w'.cell? ⟨w.heap.size + 1, 2, none⟩ = some (.slice bo' m' dap')) (first | (refine ⟨?_, ?_, ?_, ?_, ?_, ?_⟩ <;> first | (rw [far, far, far] <;> first | with_reducible assumption | omega) | exact Ext.cell (w := w1) (by repeat (first | with_reducible exact Ext.refl _ | with_reducible assumption | with_reducible refine Ext.drew ?_ | with_reducible refine Ext.alloc ?_ _ | with_reducible refine Ext.set2 ?_ (by first | with_reducible assumption | omega) _ _ | with_reducible refine Ext.set3 ?_ (by first | with_reducible assumption | omega) _ _ _)) (by with_reducible assumption)) | go_keep) (first | (go_at_call 139; have _g := hF1; refine (flowest_any _ _ _ (p * s + r * q) (q * s) (hC1.ext (by repeat (first | with_reducible exact Ext.refl _ | with_reducible assumption | with_reducible refine Ext.drew ?_ | with_reducible refine Ext.alloc ?_ _))) (hF1.ext (by repeat (first | with_reducible exact Ext.refl _ | with_reducible assumption | with_reducible refine Ext.drew ?_ | with_reducible refine Ext.alloc ?_ _))) hN1 HG).mono ?_; rintro e wG ⟨tG, rfl, hG1, hbG1⟩; have eG : Ext wF wG := Ext.trans (by repeat (first | with_reducible exact Ext.refl _ | with_reducible assumption | with_reducible refine Ext.drew ?_ | with_reducible refine Ext.alloc ?_ _)) (Ext.of hbG1); have zG : Ext w1 wG := Ext.trans zF eG; have xAG : Ext wA wG := Ext.trans xAF eG; have xBG : Ext wB wG := Ext.trans xBF eG; have xCG : Ext wC wG := Ext.trans xCF eG; have xDG : Ext wD wG := Ext.trans xDF eG; have xEG : Ext wE wG := Ext.trans eF eG; have lG : w1.heap.size ≤ wG.heap.size := zG.size; have hHG := hHc.ext zG; have uG := hHG.1; obtain ⟨uG0, uG1, uG2, uG3, uG4, uG5, uG6⟩ := uG; have vG := hHG.2.1; obtain ⟨vG0, vG1, vG2, vG3, vG4, vG5, vG6⟩ := vG; have cG := hHG.2.2.1; obtain ⟨c0, c1, c2, f0, f1, f2, g0⟩ := cG; obtain ⟨b2, a2, l2, k2, a3, l3, k3, rfl, hp1, hp2, hp3, hp4, hp5⟩ := hG1.parts) | (go_at_call 204; have _g := hE1; refine (times_any _ _ _ q s K K (hD1.ext (by repeat (first | with_reducible exact Ext.refl _ | with_reducible assumption | with_reducible refine Ext.drew ?_ | with_reducible refine Ext.alloc ?_ _))) (hE1.ext (by repeat (first | with_reducible exact Ext.refl _ | with_reducible assumption | with_reducible refine Ext.drew ?_ | with_reducible refine Ext.alloc ?_ _))) hq hs (by omega)).mono ?_; rintro e wF ⟨tF, rfl, hF1, hbF1⟩; have eF : Ext wE wF := Ext.trans (by repeat (first | with_reducible exact Ext.refl _ | with_reducible assumption | with_reducible refine Ext.drew ?_ | with_reducible refine Ext.alloc ?_ _)) (Ext.of hbF1); have zF : Ext w1 wF := Ext.trans zE eF; have xAF : Ext wA wF := Ext.trans xAE eF; have xBF : Ext wB wF := Ext.trans xBE eF; have xCF : Ext wC wF := Ext.trans xCE eF; have xDF : Ext wD wF := Ext.trans eE eF; have lF : w1.heap.size ≤ wF.heap.size := zF.size) | (go_at_call 201; have _g := hD1; refine (divisor_any _ _ r s (hHc.ext (by repeat (first | with_reducible exact Ext.refl _ | with_reducible assumption | with_reducible refine Ext.drew ?_ | with_reducible refine Ext.alloc ?_ _))).2.2.2.2.1).mono ?_; rintro e wE ⟨tE, rfl, hE1, hbE1⟩; have eE : Ext wD wE := Ext.trans (by repeat (first | with_reducible exact Ext.refl _ | with_reducible assumption | with_reducible refine Ext.drew ?_ | with_reducible refine Ext.alloc ?_ _)) (Ext.of hbE1); have zE : Ext w1 wE := Ext.trans zD eE; have xAE : Ext wA wE := Ext.trans xAD eE; have xBE : Ext wB wE := Ext.trans xBD eE; have xCE : Ext wC wE := Ext.trans eD eE; have lE : w1.heap.size ≤ wE.heap.size := zE.size) | (go_at_call 201; have _g := hC1; refine (divisor_any _ _ p q (hHc.ext (by repeat (first | with_reducible exact Ext.refl _ | with_reducible assumption | with_reducible refine Ext.drew ?_ | with_reducible refine Ext.alloc ?_ _))).2.2.2.1).mono ?_; rintro e wD ⟨tD, rfl, hD1, hbD1⟩; have eD : Ext wC wD := Ext.trans (by repeat (first | with_reducible exact Ext.refl _ | with_reducible assumption | with_reducible refine Ext.drew ?_ | with_reducible refine Ext.alloc ?_ _)) (Ext.of hbD1); have zD : Ext w1 wD := Ext.trans zC eD; have xAD : Ext wA wD := Ext.trans xAC eD; have xBD : Ext wB wD := Ext.trans eC eD; have lD : w1.heap.size ≤ wD.heap.size := zD.size) | (go_at_call 203; have _g := hB1; refine (wplus_any _ _ _ (p * s) (r * q) (K + K) (by omega) (hA1.ext (by repeat (first | with_reducible exact Ext.refl _ | with_reducible assumption | with_reducible refine Ext.drew ?_ | with_reducible refine Ext.alloc ?_ _))) (hB1.ext (by repeat (first | with_reducible exact Ext.refl _ | with_reducible assumption | with_reducible refine Ext.drew ?_ | with_reducible refine Ext.alloc ?_ _))) hk1 hk2).mono ?_; rintro e wC ⟨tC, rfl, hC1, hbC1⟩; have eC : Ext wB wC := Ext.trans (by repeat (first | with_reducible exact Ext.refl _ | with_reducible assumption | with_reducible refine Ext.drew ?_ | with_reducible refine Ext.alloc ?_ _)) (Ext.of hbC1); have zC : Ext w1 wC := Ext.trans zB eC; have xAC : Ext wA wC := Ext.trans eB eC; have lC : w1.heap.size ≤ wC.heap.size := zC.size) | (go_at_call 202; have _g := hA1; refine (across_any _ _ _ r p s q K K (by omega) (hHc.ext (by repeat (first | with_reducible exact Ext.refl _ | with_reducible assumption | with_reducible refine Ext.drew ?_ | with_reducible refine Ext.alloc ?_ _))).2.2.2.2.1 (hHc.ext (by repeat (first | with_reducible exact Ext.refl _ | with_reducible assumption | with_reducible refine Ext.drew ?_ | with_reducible refine Ext.alloc ?_ _))).2.2.2.1 hr hq).mono ?_; rintro e wB ⟨tB, rfl, hB1, hbB1⟩; have eB : Ext wA wB := Ext.trans (by repeat (first | with_reducible exact Ext.refl _ | with_reducible assumption | with_reducible refine Ext.drew ?_ | with_reducible refine Ext.alloc ?_ _)) (Ext.of hbB1); have zB : Ext w1 wB := Ext.trans zA eB; have lB : w1.heap.size ≤ wB.heap.size := zB.size) | (go_at_call 202; refine (across_any _ _ _ p r q s K K (by omega) (hHc.ext (by repeat (first | with_reducible exact Ext.refl _ | with_reducible assumption | with_reducible refine Ext.drew ?_ | with_reducible refine Ext.alloc ?_ _))).2.2.2.1 (hHc.ext (by repeat (first | with_reducible exact Ext.refl _ | with_reducible assumption | with_reducible refine Ext.drew ?_ | with_reducible refine Ext.alloc ?_ _))).2.2.2.2.1 hp hs).mono ?_; rintro e wA ⟨tA, rfl, hA1, hbA1⟩; have eA : Ext w1 wA := Ext.trans (by repeat (first | with_reducible exact Ext.refl _ | with_reducible assumption | with_reducible refine Ext.drew ?_ | with_reducible refine Ext.alloc ?_ _)) (Ext.of hbA1); have zA := eA; have lA : w1.heap.size ≤ wA.heap.size := zA.size))
      have hbG := hHG.2.2.2.2.2.1
      go_wp2
      rw [HG.out, Nat.div_one, Int.natCast_one, Int.ediv_one]
      exact bodyPost_ret (v := .agg #[.bool b2, .slice a2 l2 k2, .slice a3 l3 k3]) (by simp [results, Tryz.results120, go_sem, c0, c1, c2]) rfl ⟨_, rfl, fracV_boxed hp1 hp2 hp3 hp4 hp5 c0 c1 c2,
        ((hbG.setCell (by simp; omega) _).setCell (by simp; omega) _).setCell (by simp; omega) _⟩
    · obtain ⟨n1, n2, n3, n4, n5⟩ := gcd_parts (s := s) hq0
      generalize hgg : Nat.gcd q s = g at *
      have hq1 : q ≠ 1 := by intro e; rw [e, Nat.gcd_one_left] at hgg; omega
      have hs1 : s ≠ 1 := by intro e; rw [e, Nat.gcd_one_right] at hgg; omega
      rw [(lowN_ne hq0 hq1).1] at hu
      rw [(lowN_ne hq' hs1).1] at hu'
      go_wp2_with fail
      refine (isOne_no _ _ _ h5 hone).mono ?_
      rintro e w1 ⟨rfl, rfl⟩
      have hu1 : NatV w1 (.slice ao' l' cap') q := by
        have h1 := hHc.2.2.2.1.parts
        obtain ⟨_, _, _, _, _, _, _, e, _, _, h2, _, _⟩ := h1
        simp only [Value.agg.injEq, Array.mk.injEq, List.cons.injEq, Value.slice.injEq, Value.bool.injEq, and_true] at e
        obtain ⟨rfl, ⟨rfl, rfl, rfl⟩, rfl, rfl, rfl⟩ := e
        rwa [(lowN_ne hq0 hq1).1] at h2
      have hu2 : NatV w1 (.slice bo' m' dap') s := by
        have h1 := hHc.2.2.2.2.1.parts
        obtain ⟨_, _, _, _, _, _, _, e, _, _, h2, _, _⟩ := h1
        simp only [Value.agg.injEq, Array.mk.injEq, List.cons.injEq, Value.slice.injEq, Value.bool.injEq, and_true] at e
        obtain ⟨rfl, ⟨rfl, rfl, rfl⟩, rfl, rfl, rfl⟩ := e
        rwa [(lowN_ne hq' hs1).1] at h2
      clear hu hu'
      have hgM : g < 4294967296 ^ M := Nat.lt_of_le_of_lt (Nat.le_of_dvd hq0 ⟨_, n1⟩) hqM
      go_wp2_with fail
      refine (hO _ _ _ q g hu1 h5 hqM hgM).mono ?_
      rintro e w2 ⟨v6, v7, rfl, h6, h7, hb2⟩
      have x12 : Ext w1 w2 := hb2
      obtain ⟨a6, l6, k6, rfl⟩ := h6.slice
      have i1 := (hHc.ext x12).1
      obtain ⟨i10, i11, i12, i13, i14, i15, i16⟩ := i1
      have j1 := (hHc.ext x12).2.1
      obtain ⟨j10, j11, j12, j13, j14, j15, j16⟩ := j1
      go_wp2_with fail
      refine (hO _ _ _ s g (hu2.ext x12) (h5.ext x12) hsM hgM).mono ?_
      rintro e w3 ⟨v8, v9, rfl, h8, h9, hb3⟩
      have x23 : Ext w2 w3 := hb3
      have x13 := x12.trans x23
      obtain ⟨a8, l8, k8, rfl⟩ := h8.slice
      have h63 := h6.ext x23
      have hH3 := hHc.ext x13
      have h53 := h5.ext x13
      have hz3 := hH3.2.2.2.2.2.2
      clear hb2 hb3 h7 h9 x12 x23 x13 h6 hHc h5 hu1 hu2 i00 i01 i02 i03 i04 i05 i06 j00 j01 j02 j03 j04 j05 j06 hs0 i10 i11 i12 i13 i14 i15 i16 j10 j11 j12 j13 j14 j15 j16
      have i0 := hH3.1
      obtain ⟨i00, i01, i02, i03, i04, i05, i06⟩ := i0
      have j0 := hH3.2.1
      obtain ⟨j00, j01, j02, j03, j04, j05, j06⟩ := j0
      go_wp2
      obtain ⟨U, hUd⟩ : ∃ U : Int, U = p * ((s / g : Nat) : Int) + r * ((q / g : Nat) : Int) := ⟨_, rfl⟩
      obtain ⟨d, hdd⟩ : ∃ d, d = Nat.gcd U.natAbs g := ⟨_, rfl⟩
      have hn3 : Nat.gcd (q / g) (s / g) = 1 := n3
      have hlo := plus_low2 hg.out hg'.out n1 n2 hn3 n4 hUd hdd
      have hs2 : s / g < 4294967296 ^ K := Nat.lt_of_le_of_lt (Nat.div_le_self _ _) hs
      have hq2 : q / g < 4294967296 ^ K := Nat.lt_of_le_of_lt (Nat.div_le_self _ _) hq
      have hk3 : (p * ((s / g : Nat) : Int)).natAbs < 4294967296 ^ (K + K) := abs_mul_lt hp hs2
      have hk4 : (r * ((q / g : Nat) : Int)).natAbs < 4294967296 ^ (K + K) := abs_mul_lt hr hq2
      have hUM : U.natAbs < 4294967296 ^ M := by
        refine Nat.lt_of_le_of_lt ?_ hZ
        have e1 : p * (s : Int) + r * (q : Int) = U * (g : Int) := by
          rw [hUd]
          conv => lhs; rw [n1, n2]
          push_cast
          grind
        rw [e1, Int.natAbs_mul, Int.natAbs_natCast]
        exact Nat.le_mul_of_pos_right _ n4
      have hd0 : 0 < d := by rw [hdd]; exact Nat.gcd_pos_of_pos_right _ n4
      have hgd1 : 0 < g / d := Nat.div_pos (by rw [hdd]; exact Nat.le_of_dvd n4 (Nat.gcd_dvd_right _ _)) hd0
      have hgle : g / d ≤ g := Nat.div_le_self _ _
      have hgq0 : g / d * (q / g) ≤ q := by
        conv => rhs; rw [n1]
        exact Nat.mul_le_mul_right _ hgle
      have hgd : g / d < 4294967296 ^ K := Nat.lt_of_le_of_lt (Nat.le_trans hgle (Nat.le_of_dvd hq0 ⟨_, n1⟩)) hq
      have hgq : g / d * (q / g) < 4294967296 ^ K := Nat.lt_of_le_of_lt hgq0 hq
      have hs3 : 0 < s / g := Nat.pos_of_ne_zero (by intro e; rw [e, Nat.mul_zero] at n2; omega)
      have hpos : 0 < g / d * (q / g) * (s / g) := Nat.mul_pos (Nat.mul_pos hgd1 n5) hs3
      have HW := hide (low_unique hpos hlo.2 hlo.1 hN1)
      have HG2 := hide hlo.1
      have HDd := hide hdd
      have HUd := hide hUd
      clear hlo hdd hUd n1 n2 n3 hn3 hgq0 hgle hd0 hgd1 hs3 hgg hZ
      have l0 : w3.heap.size ≤ w3.heap.size := Nat.le_refl _
      go_cut [10] (fun s10 w4 => ∃ (g10 : Nat) (bU : Bool) (aU : Option Addr) (lU kU : Nat), s10 = .pointer (some ⟨g10, 0, none⟩) ∧ Box2 w4 g10 (.bool bU) (.slice aU lU kU) ∧ WholeV w4 (.agg #[.bool bU, .slice aU lU kU]) U ∧ Ext w3 w4)
      case first =>
        go_region_held3 (fun w' => w'.cell? ⟨w.heap.size, 0, none⟩ = some (.bool b) ∧ w'.cell? ⟨w.heap.size, 1, none⟩ = some (.slice ao l cap) ∧ w'.cell? ⟨w.heap.size + 1, 0, none⟩ = some (.bool c) ∧ w'.cell? ⟨w.heap.size + 1, 1, none⟩ = some (.slice bo m dap)) (first | (refine ⟨?_, ?_, ?_, ?_⟩ <;> first | (rw [far, far, far] <;> first | with_reducible assumption | omega) | exact Ext.cell (w := w3) (by repeat (first | with_reducible exact Ext.refl _ | with_reducible assumption | with_reducible refine Ext.drew ?_ | with_reducible refine Ext.alloc ?_ _ | with_reducible refine Ext.set2 ?_ (by first | with_reducible assumption | omega) _ _ | with_reducible refine Ext.set3 ?_ (by first | with_reducible assumption | omega) _ _ _)) (by with_reducible assumption)) | go_keep) (first | (go_at_call 203; have _g := hD1; refine (wplus_any _ _ _ (p * ((s / g : Nat) : Int)) (r * ((q / g : Nat) : Int)) (K + K) (by omega) (hB1.ext (by repeat (first | with_reducible exact Ext.refl _ | with_reducible assumption | with_reducible refine Ext.drew ?_ | with_reducible refine Ext.alloc ?_ _))) (hD1.ext (by repeat (first | with_reducible exact Ext.refl _ | with_reducible assumption | with_reducible refine Ext.drew ?_ | with_reducible refine Ext.alloc ?_ _))) hk3 hk4).mono ?_; rintro e wE ⟨tE, rfl, hE1, hbE1⟩; have eE : Ext wD wE := Ext.trans (by repeat (first | with_reducible exact Ext.refl _ | with_reducible assumption | with_reducible refine Ext.drew ?_ | with_reducible refine Ext.alloc ?_ _)) (Ext.of hbE1); have zE : Ext w3 wE := Ext.trans zD eE; have xAE : Ext wA wE := Ext.trans xAD eE; have xBE : Ext wB wE := Ext.trans xBD eE; have xCE : Ext wC wE := Ext.trans eD eE; have lE : w3.heap.size ≤ wE.heap.size := zE.size; obtain ⟨bU, aU, lU, kU, rfl, _, _⟩ := hE1.parts; (try (have o0 : ZBox2 wE w3.heap.size := (by refine ZBox2.ext ((Ext.of hbA1).trans xAE) ?_; with_reducible exact ZBox2.oneD _); have q0 := o0; obtain ⟨q00, q01, q02, q03, q04⟩ := q0)); (try (have oA : ZBox2 wE wA.heap.size := (by refine ZBox2.ext ((Ext.of hbB1).trans xBE) ?_; with_reducible exact ZBox2.one _); have qA := oA; obtain ⟨qA0, qA1, qA2, qA3, qA4⟩ := qA)); (try (have oB : ZBox2 wE wB.heap.size := (by refine ZBox2.ext ((Ext.of hbC1).trans xCE) ?_; with_reducible exact ZBox2.one _); have qB := oB; obtain ⟨qB0, qB1, qB2, qB3, qB4⟩ := qB)); (try (have oC : ZBox2 wE wC.heap.size := (by refine ZBox2.ext ((Ext.of hbD1).trans eE) ?_; with_reducible exact ZBox2.one _); have qC := oC; obtain ⟨qC0, qC1, qC2, qC3, qC4⟩ := qC)); (try (have oD : ZBox2 wE wD.heap.size := (by refine ZBox2.ext ((Ext.of hbE1).trans (Ext.refl _)) ?_; with_reducible exact ZBox2.one _); have qD := oD; obtain ⟨qD0, qD1, qD2, qD3, qD4⟩ := qD))) | (go_at_call 205; have _g := hC1; refine (wtimes_any _ _ _ r ((q / g : Nat) : Int) K K (by omega) (hH3.ext (by repeat (first | with_reducible exact Ext.refl _ | with_reducible assumption | with_reducible refine Ext.drew ?_ | with_reducible refine Ext.alloc ?_ _))).2.2.2.2.1.whole' (hC1.ext (by repeat (first | with_reducible exact Ext.refl _ | with_reducible assumption | with_reducible refine Ext.drew ?_ | with_reducible refine Ext.alloc ?_ _))) hr (by rw [Int.natAbs_natCast]; exact hq2)).mono ?_; rintro e wD ⟨tD, rfl, hD1, hbD1⟩; have eD : Ext wC wD := Ext.trans (by repeat (first | with_reducible exact Ext.refl _ | with_reducible assumption | with_reducible refine Ext.drew ?_ | with_reducible refine Ext.alloc ?_ _)) (Ext.of hbD1); have zD : Ext w3 wD := Ext.trans zC eD; have xAD : Ext wA wD := Ext.trans xAC eD; have xBD : Ext wB wD := Ext.trans eC eD; have lD : w3.heap.size ≤ wD.heap.size := zD.size) | (go_at_call 206; have _g := hB1; refine (ofNatural_any _ _ (q / g) (h63.ext (by repeat (first | with_reducible exact Ext.refl _ | with_reducible assumption | with_reducible refine Ext.drew ?_ | with_reducible refine Ext.alloc ?_ _)))).mono ?_; rintro e wC ⟨tC, rfl, hC1, hbC1⟩; have eC : Ext wB wC := Ext.trans (by repeat (first | with_reducible exact Ext.refl _ | with_reducible assumption | with_reducible refine Ext.drew ?_ | with_reducible refine Ext.alloc ?_ _)) (Ext.of hbC1); have zC : Ext w3 wC := Ext.trans zB eC; have xAC : Ext wA wC := Ext.trans eB eC; have lC : w3.heap.size ≤ wC.heap.size := zC.size) | (go_at_call 205; have _g := hA1; refine (wtimes_any _ _ _ p ((s / g : Nat) : Int) K K (by omega) (hH3.ext (by repeat (first | with_reducible exact Ext.refl _ | with_reducible assumption | with_reducible refine Ext.drew ?_ | with_reducible refine Ext.alloc ?_ _))).2.2.2.1.whole' (hA1.ext (by repeat (first | with_reducible exact Ext.refl _ | with_reducible assumption | with_reducible refine Ext.drew ?_ | with_reducible refine Ext.alloc ?_ _))) hp (by rw [Int.natAbs_natCast]; exact hs2)).mono ?_; rintro e wB ⟨tB, rfl, hB1, hbB1⟩; have eB : Ext wA wB := Ext.trans (by repeat (first | with_reducible exact Ext.refl _ | with_reducible assumption | with_reducible refine Ext.drew ?_ | with_reducible refine Ext.alloc ?_ _)) (Ext.of hbB1); have zB : Ext w3 wB := Ext.trans zA eB; have lB : w3.heap.size ≤ wB.heap.size := zB.size) | (go_at_call 206; refine (ofNatural_any _ _ (s / g) (h8.ext (by repeat (first | with_reducible exact Ext.refl _ | with_reducible assumption | with_reducible refine Ext.drew ?_ | with_reducible refine Ext.alloc ?_ _)))).mono ?_; rintro e wA ⟨tA, rfl, hA1, hbA1⟩; have eA : Ext w3 wA := Ext.trans (by repeat (first | with_reducible exact Ext.refl _ | with_reducible assumption | with_reducible refine Ext.drew ?_ | with_reducible refine Ext.alloc ?_ _)) (Ext.of hbA1); have zA := eA; have lA : w3.heap.size ≤ wA.heap.size := zA.size))
        all_goals go_wp2_with fail
        all_goals go_meet
        all_goals rw [HUd.out]
        all_goals first | exact ⟨wE.heap.size, bU, aU, lU, kU, rfl, Box2.new _ _ _ _, hE1.alloc _, zE.alloc _⟩ | exact ⟨wD.heap.size, bU, aU, lU, kU, rfl, oD.stored, hE1.stored oD, zE.set2 lD _ _⟩ | exact ⟨wC.heap.size, bU, aU, lU, kU, rfl, oC.stored, hE1.stored oC, zE.set2 lC _ _⟩ | exact ⟨wB.heap.size, bU, aU, lU, kU, rfl, oB.stored, hE1.stored oB, zE.set2 lB _ _⟩ | exact ⟨wA.heap.size, bU, aU, lU, kU, rfl, oA.stored, hE1.stored oA, zE.set2 lA _ _⟩ | exact ⟨w3.heap.size, bU, aU, lU, kU, rfl, o0.stored, hE1.stored o0, zE.set2 l0 _ _⟩
      case rest =>
        obtain ⟨g10, bU, aU, lU, kU, rfl, x10, hU, x34⟩ := hcut
        have h54 := h53.ext x34
        have h64 := h63.ext x34
        have h84 := h8.ext x34
        have hH4 := hH3.ext x34
        clear h53 h63 h8 hH3 x34 l0 i00 i01 i02 i03 i04 i05 i06 j00 j01 j02 j03 j04 j05 j06 hz3
        have t10 := x10
        obtain ⟨t100, t101, t102, t103, t104⟩ := t10
        go_wp2_with fail
        refine (reduced_any M hM hO _ _ _ U g hU h54 (by omega) hUM hgM).mono ?_
        rintro e wA ⟨tA, rfl, hA1, hbA1⟩
        rw [← HDd.out] at hA1
        obtain ⟨b11, a11, l11, k11, a11', l11', k11', rfl, _, _, _, _, _⟩ := hA1.parts
        have hz4 := hH4.2.2.2.2.2.2
        have x45 : Ext wc (wA.alloc (.cells #[.bool b11, .slice a11 l11 k11, .slice a11' l11' k11'] 103)) := Ext.alloc (Ext.of hbA1) _
        have m11 : wc.heap.size ≤ wA.heap.size := hbA1.size
        have h65 := h64.ext x45
        have h85 := h84.ext x45
        have hH5 := hH4.ext x45
        have hz5 := hH5.2.2.1
        have x11 : Box3 (wA.alloc (.cells #[.bool b11, .slice a11 l11 k11, .slice a11' l11' k11'] 103)) wA.heap.size (.bool b11) (.slice a11 l11 k11) (.slice a11' l11' k11') := Box3.new _ _ _ _ _
        have y11 := hA1.alloc (.cells #[.bool b11, .slice a11 l11 k11, .slice a11' l11' k11'] 103)
        obtain ⟨g11, hg11⟩ : ∃ g11, wA.heap.size = g11 := ⟨_, rfl⟩
        go_wp2
        rw [hg11] at x11 m11
        clear hbA1 hA1 h54 h64 h84 x10 t100 t101 t102 t103 t104 hU hH4
        generalize wA.alloc (.cells #[.bool b11, .slice a11 l11 k11, .slice a11' l11' k11'] 103) = w5 at x45 h65 h85 hH5 hz5 x11 y11 ⊢
        clear hg11
        have t11 := x11
        obtain ⟨t110, t111, t112, t113, t114, t115, t116⟩ := t11
        go_region_held3 (fun w' => w'.cell? ⟨g11, 0, none⟩ = some (.bool b11) ∧ w'.cell? ⟨g11, 1, none⟩ = some (.slice a11 l11 k11) ∧ w'.cell? ⟨g11, 2, none⟩ = some (.slice a11' l11' k11')) (first | (refine ⟨?_, ?_, ?_⟩ <;> first | (rw [far, far, far] <;> first | with_reducible assumption | omega) | exact Ext.cell (w := w5) (by repeat (first | with_reducible exact Ext.refl _ | with_reducible assumption | with_reducible refine Ext.drew ?_ | with_reducible refine Ext.alloc ?_ _ | with_reducible refine Ext.set2 ?_ (by first | with_reducible assumption | omega) _ _ | with_reducible refine Ext.set3 ?_ (by first | with_reducible assumption | omega) _ _ _)) (by with_reducible assumption)) | go_keep) (first | (go_at_call 139; have _g := hC1; refine (flowest_any _ _ _ (U / (d : Int)) (g / d * (q / g) * (s / g)) (y11.ext (by repeat (first | with_reducible exact Ext.refl _ | with_reducible assumption | with_reducible refine Ext.drew ?_ | with_reducible refine Ext.alloc ?_ _))).whole' (hC1.ext (by repeat (first | with_reducible exact Ext.refl _ | with_reducible assumption | with_reducible refine Ext.drew ?_ | with_reducible refine Ext.alloc ?_ _))) hpos HG2).mono ?_; rintro e wD ⟨tD, rfl, hD1, hbD1⟩; have eD : Ext wC wD := Ext.trans (by repeat (first | with_reducible exact Ext.refl _ | with_reducible assumption | with_reducible refine Ext.drew ?_ | with_reducible refine Ext.alloc ?_ _)) (Ext.of hbD1); have zD : Ext w5 wD := Ext.trans zC eD; have xAD : Ext wA wD := Ext.trans xAC eD; have xBD : Ext wB wD := Ext.trans eC eD; have lD : w5.heap.size ≤ wD.heap.size := zD.size; have uD := x11.ext zD; obtain ⟨uD0, uD1, uD2, uD3, uD4, uD5, uD6⟩ := uD; have cD := Box3.ext hz5 zD; obtain ⟨c0, c1, c2, f0, f1, f2, g0⟩ := cD; obtain ⟨b2, a2, l2, k2, a3, l3, k3, rfl, hp1, hp2, hp3, hp4, hp5⟩ := hD1.parts) | (go_at_call 204; have _g := hB1; refine (times_any _ _ _ (g / d * (q / g)) (s / g) K K (hB1.ext (by repeat (first | with_reducible exact Ext.refl _ | with_reducible assumption | with_reducible refine Ext.drew ?_ | with_reducible refine Ext.alloc ?_ _))) (h85.ext (by repeat (first | with_reducible exact Ext.refl _ | with_reducible assumption | with_reducible refine Ext.drew ?_ | with_reducible refine Ext.alloc ?_ _))) hgq hs2 (by omega)).mono ?_; rintro e wC ⟨tC, rfl, hC1, hbC1⟩; have eC : Ext wB wC := Ext.trans (by repeat (first | with_reducible exact Ext.refl _ | with_reducible assumption | with_reducible refine Ext.drew ?_ | with_reducible refine Ext.alloc ?_ _)) (Ext.of hbC1); have zC : Ext w5 wC := Ext.trans zB eC; have xAC : Ext wA wC := Ext.trans eB eC; have lC : w5.heap.size ≤ wC.heap.size := zC.size) | (go_at_call 204; have _g := hA1; refine (times_any _ _ _ (g / d) (q / g) K K (hA1.ext (by repeat (first | with_reducible exact Ext.refl _ | with_reducible assumption | with_reducible refine Ext.drew ?_ | with_reducible refine Ext.alloc ?_ _))) (h65.ext (by repeat (first | with_reducible exact Ext.refl _ | with_reducible assumption | with_reducible refine Ext.drew ?_ | with_reducible refine Ext.alloc ?_ _))) hgd hq2 (by omega)).mono ?_; rintro e wB ⟨tB, rfl, hB1, hbB1⟩; have eB : Ext wA wB := Ext.trans (by repeat (first | with_reducible exact Ext.refl _ | with_reducible assumption | with_reducible refine Ext.drew ?_ | with_reducible refine Ext.alloc ?_ _)) (Ext.of hbB1); have zB : Ext w5 wB := Ext.trans zA eB; have lB : w5.heap.size ≤ wB.heap.size := zB.size) | (go_at_call 201; refine (divisor_any _ _ (U / (d : Int)) (g / d) (y11.ext (by repeat (first | with_reducible exact Ext.refl _ | with_reducible assumption | with_reducible refine Ext.drew ?_ | with_reducible refine Ext.alloc ?_ _)))).mono ?_; rintro e wA ⟨tA, rfl, hA1, hbA1⟩; have eA : Ext w5 wA := Ext.trans (by repeat (first | with_reducible exact Ext.refl _ | with_reducible assumption | with_reducible refine Ext.drew ?_ | with_reducible refine Ext.alloc ?_ _)) (Ext.of hbA1); have zA := eA; have lA : w5.heap.size ≤ wA.heap.size := zA.size))
        have hbD := (hH5.ext zD).2.2.2.2.2.1
        go_wp2
        rw [HW.out.1, HW.out.2]
        exact bodyPost_ret (v := .agg #[.bool b2, .slice a2 l2 k2, .slice a3 l3 k3]) (by simp [results, Tryz.results120, go_sem, c0, c1, c2]) rfl ⟨_, rfl, fracV_boxed hp1 hp2 hp3 hp4 hp5 c0 c1 c2,
          ((hbD.setCell (by simp; omega) _).setCell (by simp; omega) _).setCell (by simp; omega) _⟩
end Go.Proofs.YtnhfdcfnojnofaaGreatDoor

/-
  What package fraction does: Minus.
-/
namespace Go.Proofs.YtnhfdcfnojnofaaGreatDoor
open Go.RowKit

set_option maxRecDepth 100000 in
set_option maxHeartbeats 2000000 in
theorem fminus_any (K M : Nat) (hK : K + K + 1 ≤ 1073741822) (hM : M ≤ 1073741822) (hO : OverOK M) (w : World) (x y : Value) (p r : Int) (q s : Nat) (h : FracV w x p q) (k : FracV w y r s) (hp : p.natAbs < 4294967296 ^ K) (hr : r.natAbs < 4294967296 ^ K) (hq : q < 4294967296 ^ K) (hs : s < 4294967296 ^ K) (hZ : (p * s + (-r) * q).natAbs < 4294967296 ^ M) (hN : q * s < 4294967296 ^ M) :
    Calls Tryz.prog 121 #[x, y] w fun e w' => ∃ t, e = .returned t ∧ FracV w' t ((p * s + (-r) * q) / (Nat.gcd (p * s + (-r) * q).natAbs (q * s) : Int)) ((q * s) / Nat.gcd (p * s + (-r) * q).natAbs (q * s)) ∧ Below w.heap.size w w' := by
  have h0 := h
  have k0 := k
  obtain ⟨b, ao, l, cap, ao', l', cap', rfl, hv, hb, hu, hq0, hg⟩ := h.parts
  obtain ⟨c, bo, m, dap, bo', m', dap', rfl, hv', hb', hu', hq', hg'⟩ := k.parts
  have hH : Held w b c ao ao' bo bo' l cap l' cap' m dap m' dap' p r q s (((w.alloc (.cells #[.bool b, .slice ao l cap, .slice ao' l' cap'] 103)).alloc (.cells #[.bool c, .slice bo m dap, .slice bo' m' dap'] 103)).alloc (.cells #[.bool false, .slice none 0 0, .slice none 0 0] 103)) :=
    ⟨((Box3.new _ _ _ _ _).alloc _).alloc _, (Box3.new1 _ _ _ _ _ _).alloc _, Box3.new2 _ _ _ _ _ _ _, ((h0.alloc _).alloc _).alloc _, ((k0.alloc _).alloc _).alloc _, below3 w _ _ _, by simp⟩
  clear hv hb hu hg hv' hb' hu' hg'
  go_enter Tryz.func121, Tryz.ntmps121
  go_wp2
  go_region_held (fun w' => w'.cell? ⟨w.heap.size, 0, none⟩ = some (.bool b) ∧ w'.cell? ⟨w.heap.size, 1, none⟩ = some (.slice ao l cap) ∧ w'.cell? ⟨w.heap.size, 2, none⟩ = some (.slice ao' l' cap') ∧ w'.cell? ⟨w.heap.size + 1, 0, none⟩ = some (.bool c) ∧ w'.cell? ⟨w.heap.size + 1, 1, none⟩ = some (.slice bo m dap) ∧ w'.cell? ⟨w.heap.size + 1, 2, none⟩ = some (.slice bo' m' dap')) (first | (refine ⟨?_, ?_, ?_, ?_, ?_, ?_⟩ <;> (rw [far, far, far] <;> first | assumption | omega)) | go_keep) (first | (go_at_call 120; refine (fplus_any K M hK hM hO _ _ _ p (-r) q s hH2.2.2.2.1 hA1 hp (by rw [Int.natAbs_neg]; exact hr) hq hs hZ hN).mono ?_; rintro e wB ⟨tB, rfl, hB1, hbB1⟩; obtain ⟨b2, a2, l2, k2, a3, l3, k3, rfl, hp1, hp2, hp3, hp4, hp5⟩ := hB1.parts; have hH3 := hH2.below hbB1; have hP3 := hH3.1; obtain ⟨s0, s1, s2, s3, s4, s5, s6⟩ := hP3; have hQ3 := hH3.2.1; obtain ⟨t0, t1, t2, t3, t4, t5, t6⟩ := hQ3; have hR3 := hH3.2.2.1; obtain ⟨c0, c1, c2, f0, f1, f2, g0⟩ := hR3) | (go_at_call 207; refine (fturned_any _ _ r s (by exact hH.drew.2.2.2.2.1)).mono ?_; rintro e wA ⟨tA, rfl, hA1, hbA1⟩; have hH2 := hH.drew.below hbA1; have hP2 := hH2.1; obtain ⟨o0, o1, o2, o3, o4, o5, o6⟩ := hP2; have hQ2 := hH2.2.1; obtain ⟨q0, q1, q2, q3, q4, q5, q6⟩ := hQ2))
  have hbB := hH3.2.2.2.2.2.1
  go_wp2
  exact bodyPost_ret (v := .agg #[.bool b2, .slice a2 l2 k2, .slice a3 l3 k3]) (by simp [results, Tryz.results121, go_sem, c0, c1, c2]) rfl ⟨_, rfl, fracV_boxed hp1 hp2 hp3 hp4 hp5 c0 c1 c2,
    ((hbB.setCell (by simp; omega) _).setCell (by simp; omega) _).setCell (by simp; omega) _⟩
end Go.Proofs.YtnhfdcfnojnofaaGreatDoor
