/-
  What package fraction does: Over.
-/
import Derived.Test.YtcmdglfjnepahaaGreatDoorFra5
set_option linter.unusedSimpArgs false
set_option linter.unusedVariables false
namespace Go.Proofs.YtcmdglfjnepahaaGreatDoor
open Go.RowKit

set_option maxRecDepth 100000 in
set_option maxHeartbeats 2000000 in
theorem fover_any (K : Nat) (hK : K + K ≤ 1073741822) (hO : OverOK (K + K)) (w : World) (x y : Value) (p r : Int) (q s : Nat) (h : FracV w x p q) (k : FracV w y r s) (hr0 : r ≠ 0) (hp : p.natAbs < 4294967296 ^ K) (hr : r.natAbs < 4294967296 ^ K) (hq : q < 4294967296 ^ K) (hs : s < 4294967296 ^ K) :
    Calls Tryz.prog 72 #[x, y] w fun e w' => ∃ t, e = .returned t ∧ FracV w' t ((p * s * r.sign) / (Nat.gcd (p * s * r.sign).natAbs (q * r.natAbs) : Int)) ((q * r.natAbs) / Nat.gcd (p * s * r.sign).natAbs (q * r.natAbs)) ∧ Below w.heap.size w w' := by
  have h0 := h
  have k0 := k
  obtain ⟨b, ao, l, cap, ao', l', cap', rfl, hv, hb, hu, hq0, hg⟩ := h.parts
  obtain ⟨c, bo, m, dap, bo', m', dap', rfl, hv', hb', hu', hq', hg'⟩ := k.parts
  have hy1 : WholeV w (.agg #[.bool c, .slice bo m dap]) r := ⟨c, _, rfl, hv', hb'⟩
  have hboxP : Box3 (((w.alloc (.cells #[.bool b, .slice ao l cap, .slice ao' l' cap'] 64)).alloc (.cells #[.bool c, .slice bo m dap, .slice bo' m' dap'] 64)).alloc (.cells #[.bool false, .slice none 0 0, .slice none 0 0] 64)) w.heap.size (.bool b) (.slice ao l cap) (.slice ao' l' cap') := ((Box3.new _ _ _ _ _).alloc _).alloc _
  have hboxQ : Box3 (((w.alloc (.cells #[.bool b, .slice ao l cap, .slice ao' l' cap'] 64)).alloc (.cells #[.bool c, .slice bo m dap, .slice bo' m' dap'] 64)).alloc (.cells #[.bool false, .slice none 0 0, .slice none 0 0] 64)) (w.heap.size + 1) (.bool c) (.slice bo m dap) (.slice bo' m' dap') := (Box3.new1 _ _ _ _ _ _).alloc _
  have hboxR : Box3 (((w.alloc (.cells #[.bool b, .slice ao l cap, .slice ao' l' cap'] 64)).alloc (.cells #[.bool c, .slice bo m dap, .slice bo' m' dap'] 64)).alloc (.cells #[.bool false, .slice none 0 0, .slice none 0 0] 64)) (w.heap.size + 1 + 1) (.bool false) (.slice none 0 0) (.slice none 0 0) := Box3.new2 _ _ _ _ _ _ _
  have hbW := below3 w (.cells #[.bool b, .slice ao l cap, .slice ao' l' cap'] 64) (.cells #[.bool c, .slice bo m dap, .slice bo' m' dap'] 64) (.cells #[.bool false, .slice none 0 0, .slice none 0 0] 64)
  have hZ : (p * s * r.sign).natAbs < 4294967296 ^ (K + K) := by
    have h1 := abs_mul_lt hp hs
    have h2 : r.sign.natAbs = 1 := Int.natAbs_sign_of_ne_zero hr0
    rw [Int.natAbs_mul, h2, Nat.mul_one]; exact h1
  have hN : q * r.natAbs < 4294967296 ^ (K + K) := mul_pow_lt hq hr
  have hN0 : q * r.natAbs ≠ 0 := Nat.pos_iff_ne_zero.1 (Nat.mul_pos hq0 (by omega))
  go_enter Tryz.func72, Tryz.ntmps72
  go_wp2_with fail
  refine (across_any _ _ _ p r q s K K (by omega) (((h0.alloc _).alloc _).alloc _) (((k0.alloc _).alloc _).alloc _) hp hs).mono ?_
  rintro e wA ⟨tA, rfl, hA1, hbA1⟩
  obtain ⟨bA, aA, lA, kA, rfl, hvA, hbA⟩ := hA1.parts
  have hP1 := hboxP.below hbA1
  have hQ1 := hboxQ.below hbA1
  have hR1 := hboxR.below hbA1
  have hh1 := (((h0.alloc _).alloc _).alloc _).below hbA1
  have hk1 := (((k0.alloc _).alloc _).alloc _).below hbA1
  have hy2 := (((hy1.alloc _).alloc _).alloc _).below hbA1
  have hB1 : Below w.heap.size w wA := hbW.trans (hbA1.mono hbW.size)
  clear hbA1 hboxP hboxQ hboxR hbW h0 k0 hy1 hv hu hv' hu'
  have hP2 := hP1.alloc (.cells #[.bool bA, .slice aA lA kA] 62)
  have hQ2 := hQ1.alloc (.cells #[.bool bA, .slice aA lA kA] 62)
  have hR2 := hR1.alloc (.cells #[.bool bA, .slice aA lA kA] 62)
  have hh2 := hh1.alloc (.cells #[.bool bA, .slice aA lA kA] 62)
  have hk2 := hk1.alloc (.cells #[.bool bA, .slice aA lA kA] 62)
  have hy3 := hy2.alloc (.cells #[.bool bA, .slice aA lA kA] 62)
  have hu5 := hA1.alloc (.cells #[.bool bA, .slice aA lA kA] 62)
  have hbox5 : Box2 (wA.alloc (.cells #[.bool bA, .slice aA lA kA] 62)) wA.heap.size (.bool bA) (.slice aA lA kA) := Box2.new _ _ _ _
  have hB2 : Below w.heap.size w (wA.alloc (.cells #[.bool bA, .slice aA lA kA] 62)) := hB1.alloc hB1.size _
  have hzA : w.heap.size + 1 + 1 < wA.heap.size := hR1.2.2.2.2.2.2
  have hQ1b := hQ1
  obtain ⟨j0, j1, j2, j3, j4, j5, j6⟩ := hQ1b
  clear hP1 hQ1 hR1 hh1 hk1 hy2
  go_wp2_with fail
  refine (fsign_any _ _ r s hk2).mono ?_
  rintro e wS ⟨rfl, hbS⟩
  have hP3 := hP2.below hbS
  have hQ3 := hQ2.below hbS
  have hR3 := hR2.below hbS
  have hh3 := hh2.below hbS
  have hy4 := hy3.below hbS
  have hu6 := hu5.below hbS
  have hbox6 := hbox5.below hbS
  have hB3 : Below w.heap.size w wS := hB2.trans (hbS.mono hB2.size)
  clear hbS hP2 hQ2 hR2 hh2 hk2 hy3 hu5 hbox5 hB2 j0 j1 j2 j3 j4 j5 j6
  by_cases hneg : r < 0
  · have hsgn : r.sign = -1 := Int.sign_eq_neg_one_of_neg hneg
    have hZe : p * s * r.sign = -(p * s) := by rw [hsgn, Int.mul_neg, Int.mul_one]
    have HZe := hide hZe
    have hbox6b := hbox6
    obtain ⟨d0, d1, d2, d3, d4⟩ := hbox6b
    rw [hsgn]
    clear hZe
    have HSG := hide hsgn
    clear hsgn
    go_wp2_with fail
    refine (wturned_any _ _ (p * s) hu6).mono ?_
    rintro e wT ⟨tT, rfl, hT1, hbT⟩
    obtain ⟨bT, aT, lT, kT, rfl, hvT, hbT2⟩ := hT1.parts
    have hP4 := hP3.below hbT
    have hQ4 := hQ3.below hbT
    have hR4 := hR3.below hbT
    have hh4 := hh3.below hbT
    have hy5 := hy4.below hbT
    have hbox7 := hbox6.below hbT
    have hB4 : Below w.heap.size w wT := hB3.trans (hbT.mono hB3.size)
    clear hbT hP3 hQ3 hR3 hh3 hy4 hu6 hbox6 hB3 d0 d1 d2 d3 d4
    obtain ⟨d0, d1, d2, d3, d4⟩ := hbox7
    have e1 : (wT.setCell ⟨wA.heap.size, 0, none⟩ (.bool bT)).cell? ⟨wA.heap.size, 1, none⟩ = some (.slice aA lA kA) := by rw [World.cell?_setCell_other _ _ _ _ (by simp)]; exact d1
    have hP5 : Box3 ((wT.setCell ⟨wA.heap.size, 0, none⟩ (.bool bT)).setCell ⟨wA.heap.size, 1, none⟩ (.slice aT lT kT)) w.heap.size (.bool b) (.slice ao l cap) (.slice ao' l' cap') := (hP4.far (by omega)).far (by omega)
    have hQ5 : Box3 ((wT.setCell ⟨wA.heap.size, 0, none⟩ (.bool bT)).setCell ⟨wA.heap.size, 1, none⟩ (.slice aT lT kT)) (w.heap.size + 1) (.bool c) (.slice bo m dap) (.slice bo' m' dap') := (hQ4.far (by omega)).far (by omega)
    have hR5 : Box3 ((wT.setCell ⟨wA.heap.size, 0, none⟩ (.bool bT)).setCell ⟨wA.heap.size, 1, none⟩ (.slice aT lT kT)) (w.heap.size + 1 + 1) (.bool false) (.slice none 0 0) (.slice none 0 0) := (hR4.far (by omega)).far (by omega)
    have hh5 : FracV ((wT.setCell ⟨wA.heap.size, 0, none⟩ (.bool bT)).setCell ⟨wA.heap.size, 1, none⟩ (.slice aT lT kT)) (.agg #[.bool b, .slice ao l cap, .slice ao' l' cap']) p q := (hh4.setCell d0 (by simp) _).setCell e1 (by simp) _
    have hy6 : WholeV ((wT.setCell ⟨wA.heap.size, 0, none⟩ (.bool bT)).setCell ⟨wA.heap.size, 1, none⟩ (.slice aT lT kT)) (.agg #[.bool c, .slice bo m dap]) r := (hy5.setCell d0 (by simp) _).setCell e1 (by simp) _
    have hu7 : WholeV ((wT.setCell ⟨wA.heap.size, 0, none⟩ (.bool bT)).setCell ⟨wA.heap.size, 1, none⟩ (.slice aT lT kT)) (.agg #[.bool bT, .slice aT lT kT]) (p * s * r.sign) := by rw [HZe.out]; exact (hT1.setCell d0 (by simp) _).setCell e1 (by simp) _
    have hbox8 : Box2 ((wT.setCell ⟨wA.heap.size, 0, none⟩ (.bool bT)).setCell ⟨wA.heap.size, 1, none⟩ (.slice aT lT kT)) wA.heap.size (.bool bT) (.slice aT lT kT) := by
      refine ⟨?_, World.cell?_setCell_same _ _ _ e1, by simpa using d2, by simpa using d3, by simpa using d4⟩
      rw [World.cell?_setCell_other _ _ _ _ (by simp)]; exact World.cell?_setCell_same _ _ _ d0
    have hB5 : Below w.heap.size w ((wT.setCell ⟨wA.heap.size, 0, none⟩ (.bool bT)).setCell ⟨wA.heap.size, 1, none⟩ (.slice aT lT kT)) := (hB4.setCell (by simp; omega) _).setCell (by simp; omega) _
    clear hP4 hQ4 hR4 hh4 hy5 hB4 hT1 hvT hbT2
    have hbox9 := hbox8
    obtain ⟨i0, i1, i2, i3, i4⟩ := hbox9
    have hP9 := hP5
    obtain ⟨u0, u1, u2, u3, u4, u5, u6⟩ := hP9
    have hQ9 := hQ5
    obtain ⟨v0, v1, v2, v3, v4, v5, v6⟩ := hQ9
    clear e1
    go_wp2
    go_region_held (fun w' => w'.cell? ⟨w.heap.size, 0, none⟩ = some (.bool b) ∧ w'.cell? ⟨w.heap.size, 1, none⟩ = some (.slice ao l cap) ∧ w'.cell? ⟨w.heap.size, 2, none⟩ = some (.slice ao' l' cap') ∧ w'.cell? ⟨w.heap.size + 1, 0, none⟩ = some (.bool c) ∧ w'.cell? ⟨w.heap.size + 1, 1, none⟩ = some (.slice bo m dap) ∧ w'.cell? ⟨wA.heap.size, 0, none⟩ = some (.bool bT) ∧ w'.cell? ⟨wA.heap.size, 1, none⟩ = some (.slice aT lT kT)) (first | (refine ⟨?_, ?_, ?_, ?_, ?_, ?_, ?_⟩ <;> (rw [far, far, far] <;> first | assumption | omega)) | go_keep) (first | (go_at_call 45; refine (reduced_any (K + K) hK hO _ _ _ (p * s * r.sign) (q * r.natAbs) (((hu7.drewN 1).below hbB1).below hbC1 |>.below hbD1) hD1 hN0 hZ hN).mono ?_; rintro e wE ⟨tE, rfl, hE1, hbE1⟩; obtain ⟨b2, a2, l2, k2, a3, l3, k3, rfl, hp1, hp2, hp3, hp4, hp5⟩ := hE1.parts; have hP6 := (((hP5.drew.below hbB1).below hbC1).below hbD1).below hbE1; obtain ⟨x0, x1, x2, x3, x4, x5, x6⟩ := hP6; have hQ6 := (((hQ5.drew.below hbB1).below hbC1).below hbD1).below hbE1; obtain ⟨y0, y1, y2, y3, y4, y5, y6⟩ := hQ6; have hU6 := (((hbox8.drew.below hbB1).below hbC1).below hbD1).below hbE1; obtain ⟨z0, z1, z2, z3, z4⟩ := hU6; have hR6 := (((hR5.drew.below hbB1).below hbC1).below hbD1).below hbE1; obtain ⟨c0, c1, c2, f0, f1, f2, g0⟩ := hR6) | (go_at_call 118; refine (times_any _ _ _ q r.natAbs K K (hB1.below hbC1) hC1 hq hr (by omega)).mono ?_; rintro e wD ⟨tD, rfl, hD1, hbD1⟩; have hP7 := ((hP5.drew.below hbB1).below hbC1).below hbD1; obtain ⟨m0, m1, m2, m3, m4, m5, m6⟩ := hP7; have hQ7 := ((hQ5.drew.below hbB1).below hbC1).below hbD1; obtain ⟨n0, n1, n2, n3, n4, n5, n6⟩ := hQ7; have hU7 := ((hbox8.drew.below hbB1).below hbC1).below hbD1; obtain ⟨o0, o1, o2, o3, o4⟩ := hU7) | (go_at_call 83; refine (size_any _ _ r ((hy6.drewN 1).below hbB1)).mono ?_; rintro e wC ⟨tC, rfl, hC1, hbC1⟩; have hP8 := (hP5.drew.below hbB1).below hbC1; obtain ⟨q0, q1, q2, q3, q4, q5, q6⟩ := hP8; have hQ8 := (hQ5.drew.below hbB1).below hbC1; obtain ⟨r0, r1, r2, r3, r4, r5, r6⟩ := hQ8; have hU8 := (hbox8.drew.below hbB1).below hbC1; obtain ⟨s0, s1, s2, s3, s4⟩ := hU8) | (go_at_call 117; refine (divisor_any _ _ p q (by exact hh5.drew)).mono ?_; rintro e wB ⟨tB, rfl, hB1, hbB1⟩; have hP10 := hP5.drew.below hbB1; obtain ⟨j0, j1, j2, j3, j4, j5, j6⟩ := hP10; have hQ10 := hQ5.drew.below hbB1; obtain ⟨t0, t1, t2, t3, t4, t5, t6⟩ := hQ10; have hU10 := hbox8.drew.below hbB1; obtain ⟨k0, k1, k2, k3, k4⟩ := hU10))
    have hbB : Below w.heap.size w wB := hB5.trans ((below_drew hbB1).mono hB5.size)
    have hbC : Below w.heap.size w wC := hbB.trans (hbC1.mono hbB.size)
    have hbD : Below w.heap.size w wD := hbC.trans (hbD1.mono hbC.size)
    have hbE : Below w.heap.size w wE := hbD.trans (hbE1.mono hbD.size)
    go_wp2
    exact bodyPost_ret (v := .agg #[.bool b2, .slice a2 l2 k2, .slice a3 l3 k3]) (by simp [results, Tryz.results72, go_sem, c0, c1, c2]) rfl ⟨_, rfl, fracV_boxed hp1 hp2 hp3 hp4 hp5 c0 c1 c2,
      ((hbE.setCell (by simp; omega) _).setCell (by simp; omega) _).setCell (by simp; omega) _⟩
  · have hpos : 0 < r := by omega
    have hsgn : r.sign = 1 := Int.sign_eq_one_of_pos hpos
    have hZe : p * s * r.sign = p * s := by rw [hsgn, Int.mul_one]
    have HZe := hide hZe
    have hP5 := hP3
    have hQ5 := hQ3
    have hR5 := hR3
    have hh5 := hh3
    have hy6 := hy4
    have hu7 : WholeV wS (.agg #[.bool bA, .slice aA lA kA]) (p * s * r.sign) := by rw [hZe]; exact hu6
    have hbox8 := hbox6
    have hB5 := hB3
    rw [hsgn]
    have HSG := hide hsgn
    clear hZe hsgn hP3 hQ3 hR3 hh3 hy4 hu6 hbox6 hB3
    have hbox9 := hbox8
    obtain ⟨i0, i1, i2, i3, i4⟩ := hbox9
    have hP9 := hP5
    obtain ⟨u0, u1, u2, u3, u4, u5, u6⟩ := hP9
    have hQ9 := hQ5
    obtain ⟨v0, v1, v2, v3, v4, v5, v6⟩ := hQ9
    go_wp2
    go_region_held (fun w' => w'.cell? ⟨w.heap.size, 0, none⟩ = some (.bool b) ∧ w'.cell? ⟨w.heap.size, 1, none⟩ = some (.slice ao l cap) ∧ w'.cell? ⟨w.heap.size, 2, none⟩ = some (.slice ao' l' cap') ∧ w'.cell? ⟨w.heap.size + 1, 0, none⟩ = some (.bool c) ∧ w'.cell? ⟨w.heap.size + 1, 1, none⟩ = some (.slice bo m dap) ∧ w'.cell? ⟨wA.heap.size, 0, none⟩ = some (.bool bA) ∧ w'.cell? ⟨wA.heap.size, 1, none⟩ = some (.slice aA lA kA)) (first | (refine ⟨?_, ?_, ?_, ?_, ?_, ?_, ?_⟩ <;> (rw [far, far, far] <;> first | assumption | omega)) | go_keep) (first | (go_at_call 45; refine (reduced_any (K + K) hK hO _ _ _ (p * s * r.sign) (q * r.natAbs) (((hu7.drewN 1).below hbB1).below hbC1 |>.below hbD1) hD1 hN0 hZ hN).mono ?_; rintro e wE ⟨tE, rfl, hE1, hbE1⟩; obtain ⟨b2, a2, l2, k2, a3, l3, k3, rfl, hp1, hp2, hp3, hp4, hp5⟩ := hE1.parts; have hP6 := (((hP5.drew.below hbB1).below hbC1).below hbD1).below hbE1; obtain ⟨x0, x1, x2, x3, x4, x5, x6⟩ := hP6; have hQ6 := (((hQ5.drew.below hbB1).below hbC1).below hbD1).below hbE1; obtain ⟨y0, y1, y2, y3, y4, y5, y6⟩ := hQ6; have hU6 := (((hbox8.drew.below hbB1).below hbC1).below hbD1).below hbE1; obtain ⟨z0, z1, z2, z3, z4⟩ := hU6; have hR6 := (((hR5.drew.below hbB1).below hbC1).below hbD1).below hbE1; obtain ⟨c0, c1, c2, f0, f1, f2, g0⟩ := hR6) | (go_at_call 118; refine (times_any _ _ _ q r.natAbs K K (hB1.below hbC1) hC1 hq hr (by omega)).mono ?_; rintro e wD ⟨tD, rfl, hD1, hbD1⟩; have hP7 := ((hP5.drew.below hbB1).below hbC1).below hbD1; obtain ⟨m0, m1, m2, m3, m4, m5, m6⟩ := hP7; have hQ7 := ((hQ5.drew.below hbB1).below hbC1).below hbD1; obtain ⟨n0, n1, n2, n3, n4, n5, n6⟩ := hQ7; have hU7 := ((hbox8.drew.below hbB1).below hbC1).below hbD1; obtain ⟨o0, o1, o2, o3, o4⟩ := hU7) | (go_at_call 83; refine (size_any _ _ r ((hy6.drewN 1).below hbB1)).mono ?_; rintro e wC ⟨tC, rfl, hC1, hbC1⟩; have hP8 := (hP5.drew.below hbB1).below hbC1; obtain ⟨q0, q1, q2, q3, q4, q5, q6⟩ := hP8; have hQ8 := (hQ5.drew.below hbB1).below hbC1; obtain ⟨r0, r1, r2, r3, r4, r5, r6⟩ := hQ8; have hU8 := (hbox8.drew.below hbB1).below hbC1; obtain ⟨s0, s1, s2, s3, s4⟩ := hU8) | (go_at_call 117; refine (divisor_any _ _ p q (by exact hh5.drew)).mono ?_; rintro e wB ⟨tB, rfl, hB1, hbB1⟩; have hP10 := hP5.drew.below hbB1; obtain ⟨j0, j1, j2, j3, j4, j5, j6⟩ := hP10; have hQ10 := hQ5.drew.below hbB1; obtain ⟨t0, t1, t2, t3, t4, t5, t6⟩ := hQ10; have hU10 := hbox8.drew.below hbB1; obtain ⟨k0, k1, k2, k3, k4⟩ := hU10))
    have hbB : Below w.heap.size w wB := hB5.trans ((below_drew hbB1).mono hB5.size)
    have hbC : Below w.heap.size w wC := hbB.trans (hbC1.mono hbB.size)
    have hbD : Below w.heap.size w wD := hbC.trans (hbD1.mono hbC.size)
    have hbE : Below w.heap.size w wE := hbD.trans (hbE1.mono hbD.size)
    go_wp2
    exact bodyPost_ret (v := .agg #[.bool b2, .slice a2 l2 k2, .slice a3 l3 k3]) (by simp [results, Tryz.results72, go_sem, c0, c1, c2]) rfl ⟨_, rfl, fracV_boxed hp1 hp2 hp3 hp4 hp5 c0 c1 c2,
      ((hbE.setCell (by simp; omega) _).setCell (by simp; omega) _).setCell (by simp; omega) _⟩
end Go.Proofs.YtcmdglfjnepahaaGreatDoor
