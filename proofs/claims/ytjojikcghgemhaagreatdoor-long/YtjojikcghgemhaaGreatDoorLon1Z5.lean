/-
  Part 5 of the texts ahead of Lon1: Fra5, Fra6, Fra7, Fra8.
-/
import Derived.Test.YtjojikcghgemhaaGreatDoorLon1Z4
import Derived.Deep.DeepCutAuto
set_option linter.unusedSimpArgs false
set_option linter.unusedVariables false
/-
  What package fraction does: Times, Over.
-/
namespace Go.Proofs.YtjojikcghgemhaaGreatDoor
open Go.RowKit

theorem FracV.setCell {w : World} {x : Value} {p : Int} {q : Nat} (h : FracV w x p q) {a : Addr} {y : Value} (hy : w.cell? a = some y) (hn : ∀ k, y ≠ .int .u32 k) (t : Value) : FracV (w.setCell a t) x p q := by
  obtain ⟨b, v, u, h1, h2, h3, h4, h5⟩ := h
  exact ⟨b, v, u, h1, h2.setCell hy hn t, h3, h4.setCell hy hn t, h5⟩

theorem mul_pow_lt {a b K : Nat} (ha : a < 4294967296 ^ K) (hb : b < 4294967296 ^ K) : a * b < 4294967296 ^ (K + K) := by
  rw [Nat.pow_add]; exact Nat.mul_lt_mul'' ha hb

theorem abs_mul_lt {z : Int} {b K : Nat} (ha : z.natAbs < 4294967296 ^ K) (hb : b < 4294967296 ^ K) : (z * (b : Int)).natAbs < 4294967296 ^ (K + K) := by
  rw [Int.natAbs_mul, Int.natAbs_natCast]; exact mul_pow_lt ha hb

set_option maxRecDepth 100000 in
set_option maxHeartbeats 2000000 in
theorem ftimes_any (K : Nat) (hK : K + K ≤ 1073741822) (hO : OverOK (K + K)) (w : World) (x y : Value) (p r : Int) (q s : Nat) (h : FracV w x p q) (k : FracV w y r s) (hp : p.natAbs < 4294967296 ^ K) (hr : r.natAbs < 4294967296 ^ K) (hq : q < 4294967296 ^ K) (hs : s < 4294967296 ^ K) :
    Calls Tryz.prog 87 #[x, y] w fun e w' => ∃ t, e = .returned t ∧ FracV w' t ((p * r) / (Nat.gcd (p * r).natAbs (q * s) : Int)) ((q * s) / Nat.gcd (p * r).natAbs (q * s)) ∧ Below w.heap.size w w' := by
  have h0 := h
  have k0 := k
  obtain ⟨b, ao, l, cap, ao', l', cap', rfl, hv, hb, hu, hq0, hg⟩ := h.parts
  obtain ⟨c, bo, m, dap, bo', m', dap', rfl, hv', hb', hu', hq', hg'⟩ := k.parts
  have hx1 : WholeV w (.agg #[.bool b, .slice ao l cap]) p := ⟨b, _, rfl, hv, hb⟩
  have hy1 : WholeV w (.agg #[.bool c, .slice bo m dap]) r := ⟨c, _, rfl, hv', hb'⟩
  have hboxP : Box3 (((w.alloc (.cells #[.bool b, .slice ao l cap, .slice ao' l' cap'] 78)).alloc (.cells #[.bool c, .slice bo m dap, .slice bo' m' dap'] 78)).alloc (.cells #[.bool false, .slice none 0 0, .slice none 0 0] 78)) w.heap.size (.bool b) (.slice ao l cap) (.slice ao' l' cap') := ((Box3.new _ _ _ _ _).alloc _).alloc _
  have hboxQ : Box3 (((w.alloc (.cells #[.bool b, .slice ao l cap, .slice ao' l' cap'] 78)).alloc (.cells #[.bool c, .slice bo m dap, .slice bo' m' dap'] 78)).alloc (.cells #[.bool false, .slice none 0 0, .slice none 0 0] 78)) (w.heap.size + 1) (.bool c) (.slice bo m dap) (.slice bo' m' dap') := (Box3.new1 _ _ _ _ _ _).alloc _
  have hboxR : Box3 (((w.alloc (.cells #[.bool b, .slice ao l cap, .slice ao' l' cap'] 78)).alloc (.cells #[.bool c, .slice bo m dap, .slice bo' m' dap'] 78)).alloc (.cells #[.bool false, .slice none 0 0, .slice none 0 0] 78)) (w.heap.size + 1 + 1) (.bool false) (.slice none 0 0) (.slice none 0 0) := Box3.new2 _ _ _ _ _ _ _
  have hbW := below3 w (.cells #[.bool b, .slice ao l cap, .slice ao' l' cap'] 78) (.cells #[.bool c, .slice bo m dap, .slice bo' m' dap'] 78) (.cells #[.bool false, .slice none 0 0, .slice none 0 0] 78)
  have hZ : (p * r).natAbs < 4294967296 ^ (K + K) := by rw [Int.natAbs_mul]; exact mul_pow_lt hp hr
  have hN : q * s < 4294967296 ^ (K + K) := mul_pow_lt hq hs
  have hN0 : q * s ≠ 0 := Nat.pos_iff_ne_zero.1 (Nat.mul_pos hq0 hq')
  go_enter Tryz.func87, Tryz.ntmps87
  go_wp2
  go_region_held (fun w' => w'.cell? ⟨w.heap.size, 0, none⟩ = some (.bool b) ∧ w'.cell? ⟨w.heap.size, 1, none⟩ = some (.slice ao l cap) ∧ w'.cell? ⟨w.heap.size, 2, none⟩ = some (.slice ao' l' cap') ∧ w'.cell? ⟨w.heap.size + 1, 0, none⟩ = some (.bool c) ∧ w'.cell? ⟨w.heap.size + 1, 1, none⟩ = some (.slice bo m dap) ∧ w'.cell? ⟨w.heap.size + 1, 2, none⟩ = some (.slice bo' m' dap')) (first | (refine ⟨?_, ?_, ?_, ?_, ?_, ?_⟩ <;> (rw [far, far, far] <;> first | assumption | omega)) | go_keep) (first | (go_at_call 54; refine (reduced_any (K + K) hK hO _ _ _ (p * r) (q * s) (((hA1.below hbB1).below hbC1).below hbD1) hD1 hN0 hZ hN).mono ?_; rintro e wE ⟨tE, rfl, hE1, hbE1⟩; obtain ⟨b2, a2, l2, k2, a3, l3, k3, rfl, hp1, hp2, hp3, hp4, hp5⟩ := hE1.parts; have hP6 := ((((hboxP.drew.below hbA1).below hbB1).below hbC1).below hbD1).below hbE1; obtain ⟨x0, x1, x2, x3, x4, x5, x6⟩ := hP6; have hQ6 := ((((hboxQ.drew.below hbA1).below hbB1).below hbC1).below hbD1).below hbE1; obtain ⟨y0, y1, y2, y3, y4, y5, y6⟩ := hQ6; have hR6 := ((((hboxR.drew.below hbA1).below hbB1).below hbC1).below hbD1).below hbE1; obtain ⟨c0, c1, c2, f0, f1, f2, g0⟩ := hR6) | (go_at_call 144; refine (times_any _ _ _ q s K K (hB1.below hbC1) hC1 hq hs (by omega)).mono ?_; rintro e wD ⟨tD, rfl, hD1, hbD1⟩; have hP5 := (((hboxP.drew.below hbA1).below hbB1).below hbC1).below hbD1; obtain ⟨u0, u1, u2, u3, u4, u5, u6⟩ := hP5; have hQ5 := (((hboxQ.drew.below hbA1).below hbB1).below hbC1).below hbD1; obtain ⟨v0, v1, v2, v3, v4, v5, v6⟩ := hQ5) | (go_at_call 143; refine (divisor_any _ _ r s ((((((k0.alloc _).alloc _).alloc _).drew).below hbA1).below hbB1)).mono ?_; rintro e wC ⟨tC, rfl, hC1, hbC1⟩; have hP4 := ((hboxP.drew.below hbA1).below hbB1).below hbC1; obtain ⟨m0, m1, m2, m3, m4, m5, m6⟩ := hP4; have hQ4 := ((hboxQ.drew.below hbA1).below hbB1).below hbC1; obtain ⟨n0, n1, n2, n3, n4, n5, n6⟩ := hQ4) | (go_at_call 143; refine (divisor_any _ _ p q ((((((h0.alloc _).alloc _).alloc _).drew).below hbA1))).mono ?_; rintro e wB ⟨tB, rfl, hB1, hbB1⟩; have hP3 := (hboxP.drew.below hbA1).below hbB1; obtain ⟨s0, s1, s2, s3, s4, s5, s6⟩ := hP3; have hQ3 := (hboxQ.drew.below hbA1).below hbB1; obtain ⟨t0, t1, t2, t3, t4, t5, t6⟩ := hQ3) | (go_at_call 146; refine (wtimes_any _ _ _ p r K K (by omega) (by exact WholeV.drewN (((hx1.alloc _).alloc _).alloc _) 1) (by exact WholeV.drewN (((hy1.alloc _).alloc _).alloc _) 1) hp hr).mono ?_; rintro e wA ⟨tA, rfl, hA1, hbA1⟩; have hP2 := hboxP.drew.below hbA1; obtain ⟨o0, o1, o2, o3, o4, o5, o6⟩ := hP2; have hQ2 := hboxQ.drew.below hbA1; obtain ⟨q0, q1, q2, q3, q4, q5, q6⟩ := hQ2))
  have hbA : Below w.heap.size w wA := hbW.trans ((below_drew hbA1).mono hbW.size)
  have hbB : Below w.heap.size w wB := hbA.trans (hbB1.mono hbA.size)
  have hbC : Below w.heap.size w wC := hbB.trans (hbC1.mono hbB.size)
  have hbD : Below w.heap.size w wD := hbC.trans (hbD1.mono hbC.size)
  have hbE : Below w.heap.size w wE := hbD.trans (hbE1.mono hbD.size)
  go_wp2
  exact bodyPost_ret (v := .agg #[.bool b2, .slice a2 l2 k2, .slice a3 l3 k3]) (by simp [results, Tryz.results87, go_sem, c0, c1, c2]) rfl ⟨_, rfl, fracV_boxed hp1 hp2 hp3 hp4 hp5 c0 c1 c2,
    ((hbE.setCell (by simp; omega) _).setCell (by simp; omega) _).setCell (by simp; omega) _⟩
end Go.Proofs.YtjojikcghgemhaaGreatDoor

/-
  What package fraction does: Over.
-/
namespace Go.Proofs.YtjojikcghgemhaaGreatDoor
open Go.RowKit

set_option maxRecDepth 100000 in
set_option maxHeartbeats 2000000 in
theorem fover_any (K : Nat) (hK : K + K ≤ 1073741822) (hO : OverOK (K + K)) (w : World) (x y : Value) (p r : Int) (q s : Nat) (h : FracV w x p q) (k : FracV w y r s) (hr0 : r ≠ 0) (hp : p.natAbs < 4294967296 ^ K) (hr : r.natAbs < 4294967296 ^ K) (hq : q < 4294967296 ^ K) (hs : s < 4294967296 ^ K) :
    Calls Tryz.prog 89 #[x, y] w fun e w' => ∃ t, e = .returned t ∧ FracV w' t ((p * s * r.sign) / (Nat.gcd (p * s * r.sign).natAbs (q * r.natAbs) : Int)) ((q * r.natAbs) / Nat.gcd (p * s * r.sign).natAbs (q * r.natAbs)) ∧ Below w.heap.size w w' := by
  have h0 := h
  have k0 := k
  obtain ⟨b, ao, l, cap, ao', l', cap', rfl, hv, hb, hu, hq0, hg⟩ := h.parts
  obtain ⟨c, bo, m, dap, bo', m', dap', rfl, hv', hb', hu', hq', hg'⟩ := k.parts
  have hy1 : WholeV w (.agg #[.bool c, .slice bo m dap]) r := ⟨c, _, rfl, hv', hb'⟩
  have hboxP : Box3 (((w.alloc (.cells #[.bool b, .slice ao l cap, .slice ao' l' cap'] 78)).alloc (.cells #[.bool c, .slice bo m dap, .slice bo' m' dap'] 78)).alloc (.cells #[.bool false, .slice none 0 0, .slice none 0 0] 78)) w.heap.size (.bool b) (.slice ao l cap) (.slice ao' l' cap') := ((Box3.new _ _ _ _ _).alloc _).alloc _
  have hboxQ : Box3 (((w.alloc (.cells #[.bool b, .slice ao l cap, .slice ao' l' cap'] 78)).alloc (.cells #[.bool c, .slice bo m dap, .slice bo' m' dap'] 78)).alloc (.cells #[.bool false, .slice none 0 0, .slice none 0 0] 78)) (w.heap.size + 1) (.bool c) (.slice bo m dap) (.slice bo' m' dap') := (Box3.new1 _ _ _ _ _ _).alloc _
  have hboxR : Box3 (((w.alloc (.cells #[.bool b, .slice ao l cap, .slice ao' l' cap'] 78)).alloc (.cells #[.bool c, .slice bo m dap, .slice bo' m' dap'] 78)).alloc (.cells #[.bool false, .slice none 0 0, .slice none 0 0] 78)) (w.heap.size + 1 + 1) (.bool false) (.slice none 0 0) (.slice none 0 0) := Box3.new2 _ _ _ _ _ _ _
  have hbW := below3 w (.cells #[.bool b, .slice ao l cap, .slice ao' l' cap'] 78) (.cells #[.bool c, .slice bo m dap, .slice bo' m' dap'] 78) (.cells #[.bool false, .slice none 0 0, .slice none 0 0] 78)
  have hZ : (p * s * r.sign).natAbs < 4294967296 ^ (K + K) := by
    have h1 := abs_mul_lt hp hs
    have h2 : r.sign.natAbs = 1 := Int.natAbs_sign_of_ne_zero hr0
    rw [Int.natAbs_mul, h2, Nat.mul_one]; exact h1
  have hN : q * r.natAbs < 4294967296 ^ (K + K) := mul_pow_lt hq hr
  have hN0 : q * r.natAbs ≠ 0 := Nat.pos_iff_ne_zero.1 (Nat.mul_pos hq0 (by omega))
  go_enter Tryz.func89, Tryz.ntmps89
  go_wp2_with fail
  refine (across_any _ _ _ p r q s K K (by omega) (((h0.alloc _).alloc _).alloc _) (((k0.alloc _).alloc _).alloc _) hp hs).mono ?_
  rintro e wA ⟨tA, rfl, hA1, hbA1⟩
  obtain ⟨bA, aA, lA, kA, rfl, hvA, hbA⟩ := hA1.parts
  have hP1 := hboxP.below hbA1
  have hQ1 := hboxQ.below hbA1
  have hR1 := hboxR.below hbA1
  have hh1 := (((h0.alloc _).alloc _).alloc _).below hbA1
  have hk1 := (((k0.alloc _).alloc _).alloc _).below hbA1
  have hy2 := (((hy1.alloc _).alloc _).alloc _).below hbA1
  have hB1 : Below w.heap.size w wA := hbW.trans (hbA1.mono hbW.size)
  clear hbA1 hboxP hboxQ hboxR hbW h0 k0 hy1 hv hu hv' hu'
  have hP2 := hP1.alloc (.cells #[.bool bA, .slice aA lA kA] 76)
  have hQ2 := hQ1.alloc (.cells #[.bool bA, .slice aA lA kA] 76)
  have hR2 := hR1.alloc (.cells #[.bool bA, .slice aA lA kA] 76)
  have hh2 := hh1.alloc (.cells #[.bool bA, .slice aA lA kA] 76)
  have hk2 := hk1.alloc (.cells #[.bool bA, .slice aA lA kA] 76)
  have hy3 := hy2.alloc (.cells #[.bool bA, .slice aA lA kA] 76)
  have hu5 := hA1.alloc (.cells #[.bool bA, .slice aA lA kA] 76)
  have hbox5 : Box2 (wA.alloc (.cells #[.bool bA, .slice aA lA kA] 76)) wA.heap.size (.bool bA) (.slice aA lA kA) := Box2.new _ _ _ _
  have hB2 : Below w.heap.size w (wA.alloc (.cells #[.bool bA, .slice aA lA kA] 76)) := hB1.alloc hB1.size _
  have hzA : w.heap.size + 1 + 1 < wA.heap.size := hR1.2.2.2.2.2.2
  have hQ1b := hQ1
  obtain ⟨j0, j1, j2, j3, j4, j5, j6⟩ := hQ1b
  clear hP1 hQ1 hR1 hh1 hk1 hy2
  go_wp2_with fail
  refine (fsign_any _ _ r s hk2).mono ?_
  rintro e wS ⟨rfl, hbS⟩
  have hP3 := hP2.below hbS
  have hQ3 := hQ2.below hbS
  have hR3 := hR2.below hbS
  have hh3 := hh2.below hbS
  have hy4 := hy3.below hbS
  have hu6 := hu5.below hbS
  have hbox6 := hbox5.below hbS
  have hB3 : Below w.heap.size w wS := hB2.trans (hbS.mono hB2.size)
  clear hbS hP2 hQ2 hR2 hh2 hk2 hy3 hu5 hbox5 hB2 j0 j1 j2 j3 j4 j5 j6
  by_cases hneg : r < 0
  · have hsgn : r.sign = -1 := Int.sign_eq_neg_one_of_neg hneg
    have hZe : p * s * r.sign = -(p * s) := by rw [hsgn, Int.mul_neg, Int.mul_one]
    have HZe := hide hZe
    have hbox6b := hbox6
    obtain ⟨d0, d1, d2, d3, d4⟩ := hbox6b
    rw [hsgn]
    clear hZe
    have HSG := hide hsgn
    clear hsgn
    go_wp2_with fail
    refine (wturned_any _ _ (p * s) hu6).mono ?_
    rintro e wT ⟨tT, rfl, hT1, hbT⟩
    obtain ⟨bT, aT, lT, kT, rfl, hvT, hbT2⟩ := hT1.parts
    have hP4 := hP3.below hbT
    have hQ4 := hQ3.below hbT
    have hR4 := hR3.below hbT
    have hh4 := hh3.below hbT
    have hy5 := hy4.below hbT
    have hbox7 := hbox6.below hbT
    have hB4 : Below w.heap.size w wT := hB3.trans (hbT.mono hB3.size)
    clear hbT hP3 hQ3 hR3 hh3 hy4 hu6 hbox6 hB3 d0 d1 d2 d3 d4
    obtain ⟨d0, d1, d2, d3, d4⟩ := hbox7
    have e1 : (wT.setCell ⟨wA.heap.size, 0, none⟩ (.bool bT)).cell? ⟨wA.heap.size, 1, none⟩ = some (.slice aA lA kA) := by rw [World.cell?_setCell_other _ _ _ _ (by simp)]; exact d1
    have hP5 : Box3 ((wT.setCell ⟨wA.heap.size, 0, none⟩ (.bool bT)).setCell ⟨wA.heap.size, 1, none⟩ (.slice aT lT kT)) w.heap.size (.bool b) (.slice ao l cap) (.slice ao' l' cap') := (hP4.far (by omega)).far (by omega)
    have hQ5 : Box3 ((wT.setCell ⟨wA.heap.size, 0, none⟩ (.bool bT)).setCell ⟨wA.heap.size, 1, none⟩ (.slice aT lT kT)) (w.heap.size + 1) (.bool c) (.slice bo m dap) (.slice bo' m' dap') := (hQ4.far (by omega)).far (by omega)
    have hR5 : Box3 ((wT.setCell ⟨wA.heap.size, 0, none⟩ (.bool bT)).setCell ⟨wA.heap.size, 1, none⟩ (.slice aT lT kT)) (w.heap.size + 1 + 1) (.bool false) (.slice none 0 0) (.slice none 0 0) := (hR4.far (by omega)).far (by omega)
    have hh5 : FracV ((wT.setCell ⟨wA.heap.size, 0, none⟩ (.bool bT)).setCell ⟨wA.heap.size, 1, none⟩ (.slice aT lT kT)) (.agg #[.bool b, .slice ao l cap, .slice ao' l' cap']) p q := (hh4.setCell d0 (by simp) _).setCell e1 (by simp) _
    have hy6 : WholeV ((wT.setCell ⟨wA.heap.size, 0, none⟩ (.bool bT)).setCell ⟨wA.heap.size, 1, none⟩ (.slice aT lT kT)) (.agg #[.bool c, .slice bo m dap]) r := (hy5.setCell d0 (by simp) _).setCell e1 (by simp) _
    have hu7 : WholeV ((wT.setCell ⟨wA.heap.size, 0, none⟩ (.bool bT)).setCell ⟨wA.heap.size, 1, none⟩ (.slice aT lT kT)) (.agg #[.bool bT, .slice aT lT kT]) (p * s * r.sign) := by rw [HZe.out]; exact (hT1.setCell d0 (by simp) _).setCell e1 (by simp) _
    have hbox8 : Box2 ((wT.setCell ⟨wA.heap.size, 0, none⟩ (.bool bT)).setCell ⟨wA.heap.size, 1, none⟩ (.slice aT lT kT)) wA.heap.size (.bool bT) (.slice aT lT kT) := by
      refine ⟨?_, World.cell?_setCell_same _ _ _ e1, by simpa using d2, by simpa using d3, by simpa using d4⟩
      rw [World.cell?_setCell_other _ _ _ _ (by simp)]; exact World.cell?_setCell_same _ _ _ d0
    have hB5 : Below w.heap.size w ((wT.setCell ⟨wA.heap.size, 0, none⟩ (.bool bT)).setCell ⟨wA.heap.size, 1, none⟩ (.slice aT lT kT)) := (hB4.setCell (by simp; omega) _).setCell (by simp; omega) _
    clear hP4 hQ4 hR4 hh4 hy5 hB4 hT1 hvT hbT2
    have hbox9 := hbox8
    obtain ⟨i0, i1, i2, i3, i4⟩ := hbox9
    have hP9 := hP5
    obtain ⟨u0, u1, u2, u3, u4, u5, u6⟩ := hP9
    have hQ9 := hQ5
    obtain ⟨v0, v1, v2, v3, v4, v5, v6⟩ := hQ9
    clear e1
    go_wp2
    go_region_held (fun w' => w'.cell? ⟨w.heap.size, 0, none⟩ = some (.bool b) ∧ w'.cell? ⟨w.heap.size, 1, none⟩ = some (.slice ao l cap) ∧ w'.cell? ⟨w.heap.size, 2, none⟩ = some (.slice ao' l' cap') ∧ w'.cell? ⟨w.heap.size + 1, 0, none⟩ = some (.bool c) ∧ w'.cell? ⟨w.heap.size + 1, 1, none⟩ = some (.slice bo m dap) ∧ w'.cell? ⟨wA.heap.size, 0, none⟩ = some (.bool bT) ∧ w'.cell? ⟨wA.heap.size, 1, none⟩ = some (.slice aT lT kT)) (first | (refine ⟨?_, ?_, ?_, ?_, ?_, ?_, ?_⟩ <;> (rw [far, far, far] <;> first | assumption | omega)) | go_keep) (first | (go_at_call 54; refine (reduced_any (K + K) hK hO _ _ _ (p * s * r.sign) (q * r.natAbs) (((hu7.drewN 1).below hbB1).below hbC1 |>.below hbD1) hD1 hN0 hZ hN).mono ?_; rintro e wE ⟨tE, rfl, hE1, hbE1⟩; obtain ⟨b2, a2, l2, k2, a3, l3, k3, rfl, hp1, hp2, hp3, hp4, hp5⟩ := hE1.parts; have hP6 := (((hP5.drew.below hbB1).below hbC1).below hbD1).below hbE1; obtain ⟨x0, x1, x2, x3, x4, x5, x6⟩ := hP6; have hQ6 := (((hQ5.drew.below hbB1).below hbC1).below hbD1).below hbE1; obtain ⟨y0, y1, y2, y3, y4, y5, y6⟩ := hQ6; have hU6 := (((hbox8.drew.below hbB1).below hbC1).below hbD1).below hbE1; obtain ⟨z0, z1, z2, z3, z4⟩ := hU6; have hR6 := (((hR5.drew.below hbB1).below hbC1).below hbD1).below hbE1; obtain ⟨c0, c1, c2, f0, f1, f2, g0⟩ := hR6) | (go_at_call 144; refine (times_any _ _ _ q r.natAbs K K (hB1.below hbC1) hC1 hq hr (by omega)).mono ?_; rintro e wD ⟨tD, rfl, hD1, hbD1⟩; have hP7 := ((hP5.drew.below hbB1).below hbC1).below hbD1; obtain ⟨m0, m1, m2, m3, m4, m5, m6⟩ := hP7; have hQ7 := ((hQ5.drew.below hbB1).below hbC1).below hbD1; obtain ⟨n0, n1, n2, n3, n4, n5, n6⟩ := hQ7; have hU7 := ((hbox8.drew.below hbB1).below hbC1).below hbD1; obtain ⟨o0, o1, o2, o3, o4⟩ := hU7) | (go_at_call 100; refine (size_any _ _ r ((hy6.drewN 1).below hbB1)).mono ?_; rintro e wC ⟨tC, rfl, hC1, hbC1⟩; have hP8 := (hP5.drew.below hbB1).below hbC1; obtain ⟨q0, q1, q2, q3, q4, q5, q6⟩ := hP8; have hQ8 := (hQ5.drew.below hbB1).below hbC1; obtain ⟨r0, r1, r2, r3, r4, r5, r6⟩ := hQ8; have hU8 := (hbox8.drew.below hbB1).below hbC1; obtain ⟨s0, s1, s2, s3, s4⟩ := hU8) | (go_at_call 143; refine (divisor_any _ _ p q (by exact hh5.drew)).mono ?_; rintro e wB ⟨tB, rfl, hB1, hbB1⟩; have hP10 := hP5.drew.below hbB1; obtain ⟨j0, j1, j2, j3, j4, j5, j6⟩ := hP10; have hQ10 := hQ5.drew.below hbB1; obtain ⟨t0, t1, t2, t3, t4, t5, t6⟩ := hQ10; have hU10 := hbox8.drew.below hbB1; obtain ⟨k0, k1, k2, k3, k4⟩ := hU10))
    have hbB : Below w.heap.size w wB := hB5.trans ((below_drew hbB1).mono hB5.size)
    have hbC : Below w.heap.size w wC := hbB.trans (hbC1.mono hbB.size)
    have hbD : Below w.heap.size w wD := hbC.trans (hbD1.mono hbC.size)
    have hbE : Below w.heap.size w wE := hbD.trans (hbE1.mono hbD.size)
    go_wp2
    exact bodyPost_ret (v := .agg #[.bool b2, .slice a2 l2 k2, .slice a3 l3 k3]) (by simp [results, Tryz.results89, go_sem, c0, c1, c2]) rfl ⟨_, rfl, fracV_boxed hp1 hp2 hp3 hp4 hp5 c0 c1 c2,
      ((hbE.setCell (by simp; omega) _).setCell (by simp; omega) _).setCell (by simp; omega) _⟩
  · have hpos : 0 < r := by omega
    have hsgn : r.sign = 1 := Int.sign_eq_one_of_pos hpos
    have hZe : p * s * r.sign = p * s := by rw [hsgn, Int.mul_one]
    have HZe := hide hZe
    have hP5 := hP3
    have hQ5 := hQ3
    have hR5 := hR3
    have hh5 := hh3
    have hy6 := hy4
    have hu7 : WholeV wS (.agg #[.bool bA, .slice aA lA kA]) (p * s * r.sign) := by rw [hZe]; exact hu6
    have hbox8 := hbox6
    have hB5 := hB3
    rw [hsgn]
    have HSG := hide hsgn
    clear hZe hsgn hP3 hQ3 hR3 hh3 hy4 hu6 hbox6 hB3
    have hbox9 := hbox8
    obtain ⟨i0, i1, i2, i3, i4⟩ := hbox9
    have hP9 := hP5
    obtain ⟨u0, u1, u2, u3, u4, u5, u6⟩ := hP9
    have hQ9 := hQ5
    obtain ⟨v0, v1, v2, v3, v4, v5, v6⟩ := hQ9
    go_wp2
    go_region_held (fun w' => w'.cell? ⟨w.heap.size, 0, none⟩ = some (.bool b) ∧ w'.cell? ⟨w.heap.size, 1, none⟩ = some (.slice ao l cap) ∧ w'.cell? ⟨w.heap.size, 2, none⟩ = some (.slice ao' l' cap') ∧ w'.cell? ⟨w.heap.size + 1, 0, none⟩ = some (.bool c) ∧ w'.cell? ⟨w.heap.size + 1, 1, none⟩ = some (.slice bo m dap) ∧ w'.cell? ⟨wA.heap.size, 0, none⟩ = some (.bool bA) ∧ w'.cell? ⟨wA.heap.size, 1, none⟩ = some (.slice aA lA kA)) (first | (refine ⟨?_, ?_, ?_, ?_, ?_, ?_, ?_⟩ <;> (rw [far, far, far] <;> first | assumption | omega)) | go_keep) (first | (go_at_call 54; refine (reduced_any (K + K) hK hO _ _ _ (p * s * r.sign) (q * r.natAbs) (((hu7.drewN 1).below hbB1).below hbC1 |>.below hbD1) hD1 hN0 hZ hN).mono ?_; rintro e wE ⟨tE, rfl, hE1, hbE1⟩; obtain ⟨b2, a2, l2, k2, a3, l3, k3, rfl, hp1, hp2, hp3, hp4, hp5⟩ := hE1.parts; have hP6 := (((hP5.drew.below hbB1).below hbC1).below hbD1).below hbE1; obtain ⟨x0, x1, x2, x3, x4, x5, x6⟩ := hP6; have hQ6 := (((hQ5.drew.below hbB1).below hbC1).below hbD1).below hbE1; obtain ⟨y0, y1, y2, y3, y4, y5, y6⟩ := hQ6; have hU6 := (((hbox8.drew.below hbB1).below hbC1).below hbD1).below hbE1; obtain ⟨z0, z1, z2, z3, z4⟩ := hU6; have hR6 := (((hR5.drew.below hbB1).below hbC1).below hbD1).below hbE1; obtain ⟨c0, c1, c2, f0, f1, f2, g0⟩ := hR6) | (go_at_call 144; refine (times_any _ _ _ q r.natAbs K K (hB1.below hbC1) hC1 hq hr (by omega)).mono ?_; rintro e wD ⟨tD, rfl, hD1, hbD1⟩; have hP7 := ((hP5.drew.below hbB1).below hbC1).below hbD1; obtain ⟨m0, m1, m2, m3, m4, m5, m6⟩ := hP7; have hQ7 := ((hQ5.drew.below hbB1).below hbC1).below hbD1; obtain ⟨n0, n1, n2, n3, n4, n5, n6⟩ := hQ7; have hU7 := ((hbox8.drew.below hbB1).below hbC1).below hbD1; obtain ⟨o0, o1, o2, o3, o4⟩ := hU7) | (go_at_call 100; refine (size_any _ _ r ((hy6.drewN 1).below hbB1)).mono ?_; rintro e wC ⟨tC, rfl, hC1, hbC1⟩; have hP8 := (hP5.drew.below hbB1).below hbC1; obtain ⟨q0, q1, q2, q3, q4, q5, q6⟩ := hP8; have hQ8 := (hQ5.drew.below hbB1).below hbC1; obtain ⟨r0, r1, r2, r3, r4, r5, r6⟩ := hQ8; have hU8 := (hbox8.drew.below hbB1).below hbC1; obtain ⟨s0, s1, s2, s3, s4⟩ := hU8) | (go_at_call 143; refine (divisor_any _ _ p q (by exact hh5.drew)).mono ?_; rintro e wB ⟨tB, rfl, hB1, hbB1⟩; have hP10 := hP5.drew.below hbB1; obtain ⟨j0, j1, j2, j3, j4, j5, j6⟩ := hP10; have hQ10 := hQ5.drew.below hbB1; obtain ⟨t0, t1, t2, t3, t4, t5, t6⟩ := hQ10; have hU10 := hbox8.drew.below hbB1; obtain ⟨k0, k1, k2, k3, k4⟩ := hU10))
    have hbB : Below w.heap.size w wB := hB5.trans ((below_drew hbB1).mono hB5.size)
    have hbC : Below w.heap.size w wC := hbB.trans (hbC1.mono hbB.size)
    have hbD : Below w.heap.size w wD := hbC.trans (hbD1.mono hbC.size)
    have hbE : Below w.heap.size w wE := hbD.trans (hbE1.mono hbD.size)
    go_wp2
    exact bodyPost_ret (v := .agg #[.bool b2, .slice a2 l2 k2, .slice a3 l3 k3]) (by simp [results, Tryz.results89, go_sem, c0, c1, c2]) rfl ⟨_, rfl, fracV_boxed hp1 hp2 hp3 hp4 hp5 c0 c1 c2,
      ((hbE.setCell (by simp; omega) _).setCell (by simp; omega) _).setCell (by simp; omega) _⟩
end Go.Proofs.YtjojikcghgemhaaGreatDoor

/-
  What package fraction does: Plus.
-/
namespace Go.Proofs.YtjojikcghgemhaaGreatDoor
open Go.RowKit

/-- What is known of the two boxes and the result's, of the two fractions, and of old memory. -/
def Held (w : World) (b c : Bool) (ao ao' bo bo' : Option Addr) (l cap l' cap' m dap m' dap' : Nat) (p r : Int) (q s : Nat) (wc : World) : Prop :=
  Box3 wc w.heap.size (.bool b) (.slice ao l cap) (.slice ao' l' cap') ∧ Box3 wc (w.heap.size + 1) (.bool c) (.slice bo m dap) (.slice bo' m' dap') ∧ Box3 wc (w.heap.size + 1 + 1) (.bool false) (.slice none 0 0) (.slice none 0 0) ∧ FracV wc (.agg #[.bool b, .slice ao l cap, .slice ao' l' cap']) p q ∧ FracV wc (.agg #[.bool c, .slice bo m dap, .slice bo' m' dap']) r s ∧ Below w.heap.size w wc ∧ w.heap.size + 1 + 1 < wc.heap.size

theorem Held.below {w : World} {b c : Bool} {ao ao' bo bo' : Option Addr} {l cap l' cap' m dap m' dap' : Nat} {p r : Int} {q s : Nat} {u v : World} (h : Held w b c ao ao' bo bo' l cap l' cap' m dap m' dap' p r q s u) (hb : Below u.heap.size u v) : Held w b c ao ao' bo bo' l cap l' cap' m dap m' dap' p r q s v := by
  obtain ⟨h1, h2, h3, h4, h5, h6, h7⟩ := h
  exact ⟨h1.below hb, h2.below hb, h3.below hb, h4.below hb, h5.below hb, h6.trans (hb.mono h6.size), Nat.lt_of_lt_of_le h7 hb.size⟩

theorem Held.drew {w : World} {b c : Bool} {ao ao' bo bo' : Option Addr} {l cap l' cap' m dap m' dap' : Nat} {p r : Int} {q s : Nat} {u : World} (h : Held w b c ao ao' bo bo' l cap l' cap' m dap m' dap' p r q s u) : Held w b c ao ao' bo bo' l cap l' cap' m dap m' dap' p r q s u.drew := by
  obtain ⟨h1, h2, h3, h4, h5, h6, h7⟩ := h
  exact ⟨h1, h2, h3, h4, h5, ⟨h6.os, h6.tape, h6.output, h6.size, h6.block⟩, h7⟩

theorem Held.alloc {w : World} {b c : Bool} {ao ao' bo bo' : Option Addr} {l cap l' cap' m dap m' dap' : Nat} {p r : Int} {q s : Nat} {u : World} (h : Held w b c ao ao' bo bo' l cap l' cap' m dap m' dap' p r q s u) (o : Obj) : Held w b c ao ao' bo bo' l cap l' cap' m dap m' dap' p r q s (u.alloc o) :=
  h.below ((Below.refl _ _).alloc (Nat.le_refl _) o)

theorem Held.setCell {w : World} {b c : Bool} {ao ao' bo bo' : Option Addr} {l cap l' cap' m dap m' dap' : Nat} {p r : Int} {q s : Nat} {u : World} (h : Held w b c ao ao' bo bo' l cap l' cap' m dap m' dap' p r q s u) {g o : Nat} {y : Value} (hg : w.heap.size + 1 + 1 < g) (hy : u.cell? ⟨g, o, none⟩ = some y) (hn : ∀ k, y ≠ .int .u32 k) (x : Value) :
    Held w b c ao ao' bo bo' l cap l' cap' m dap m' dap' p r q s (u.setCell ⟨g, o, none⟩ x) := by
  obtain ⟨h1, h2, h3, h4, h5, h6, h7⟩ := h
  exact ⟨h1.far (by omega), h2.far (by omega), h3.far (by omega), h4.setCell hy hn x, h5.setCell hy hn x, h6.setCell (by simp; omega) x, by simpa using h7⟩

theorem Box2.stored {w : World} {g : Nat} {b0 b : Bool} {a0 a : Option Addr} {l0 k0 l k : Nat} (h : Box2 w g (.bool b0) (.slice a0 l0 k0)) : Box2 ((w.setCell ⟨g, 0, none⟩ (.bool b)).setCell ⟨g, 1, none⟩ (.slice a l k)) g (.bool b) (.slice a l k) := by
  obtain ⟨d0, d1, d2, d3, d4⟩ := h
  have e1 : (w.setCell ⟨g, 0, none⟩ (.bool b)).cell? ⟨g, 1, none⟩ = some (.slice a0 l0 k0) := by rw [World.cell?_setCell_other _ _ _ _ (by simp)]; exact d1
  refine ⟨?_, World.cell?_setCell_same _ _ _ e1, by simpa using d2, by simpa using d3, by simpa using d4⟩
  rw [World.cell?_setCell_other _ _ _ _ (by simp)]; exact World.cell?_setCell_same _ _ _ d0

theorem WholeV.stored {w : World} {x : Value} {z : Int} (hx : WholeV w x z) {g : Nat} {b0 b : Bool} {a0 a : Option Addr} {l0 k0 l k : Nat} (h : Box2 w g (.bool b0) (.slice a0 l0 k0)) : WholeV ((w.setCell ⟨g, 0, none⟩ (.bool b)).setCell ⟨g, 1, none⟩ (.slice a l k)) x z := by
  obtain ⟨d0, d1, d2, d3, d4⟩ := h
  have e1 : (w.setCell ⟨g, 0, none⟩ (.bool b)).cell? ⟨g, 1, none⟩ = some (.slice a0 l0 k0) := by rw [World.cell?_setCell_other _ _ _ _ (by simp)]; exact d1
  exact (hx.setCell d0 (by simp) _).setCell e1 (by simp) _

theorem Held.stored {w : World} {b c : Bool} {ao ao' bo bo' : Option Addr} {l cap l' cap' m dap m' dap' : Nat} {p r : Int} {q s : Nat} {u : World} (hH : Held w b c ao ao' bo bo' l cap l' cap' m dap m' dap' p r q s u) {g : Nat} {b0 b1 : Bool} {a0 a1 : Option Addr} {l0 k0 l1 k1 : Nat} (h : Box2 u g (.bool b0) (.slice a0 l0 k0)) (hg : w.heap.size + 1 + 1 < g) :
    Held w b c ao ao' bo bo' l cap l' cap' m dap m' dap' p r q s ((u.setCell ⟨g, 0, none⟩ (.bool b1)).setCell ⟨g, 1, none⟩ (.slice a1 l1 k1)) := by
  obtain ⟨d0, d1, d2, d3, d4⟩ := h
  have e1 : (u.setCell ⟨g, 0, none⟩ (.bool b1)).cell? ⟨g, 1, none⟩ = some (.slice a0 l0 k0) := by rw [World.cell?_setCell_other _ _ _ _ (by simp)]; exact d1
  exact (hH.setCell hg d0 (by simp) _).setCell hg e1 (by simp) _

theorem Box2.new3 (w : World) (A B C : Obj) (x y : Value) (t : TypeId) : Box2 ((((w.alloc A).alloc B).alloc C).alloc (.cells #[x, y] t)) (w.heap.size + 1 + 1 + 1) x y := by
  have := Box2.new (((w.alloc A).alloc B).alloc C) x y t; simpa using this

set_option maxRecDepth 100000 in
set_option maxHeartbeats 4000000 in
theorem fplus_any (K M : Nat) (hK : K + K + 1 ≤ 1073741822) (hM : M ≤ 1073741822) (hO : OverOK M) (w : World) (x y : Value) (p r : Int) (q s : Nat) (h : FracV w x p q) (k : FracV w y r s) (hp : p.natAbs < 4294967296 ^ K) (hr : r.natAbs < 4294967296 ^ K) (hq : q < 4294967296 ^ K) (hs : s < 4294967296 ^ K) (hZ : (p * s + r * q).natAbs < 4294967296 ^ M) (hN : q * s < 4294967296 ^ M) :
    Calls Tryz.prog 85 #[x, y] w fun e w' => ∃ t, e = .returned t ∧ FracV w' t ((p * s + r * q) / (Nat.gcd (p * s + r * q).natAbs (q * s) : Int)) ((q * s) / Nat.gcd (p * s + r * q).natAbs (q * s)) ∧ Below w.heap.size w w' := by
  obtain ⟨b, ao, l, cap, ao', l', cap', rfl, hv, hb, hu, hq0, hg⟩ := h.parts
  obtain ⟨c, bo, m, dap, bo', m', dap', rfl, hv', hb', hu', hq', hg'⟩ := k.parts
  have hH : Held w b c ao ao' bo bo' l cap l' cap' m dap m' dap' p r q s (((w.alloc (.cells #[.bool b, .slice ao l cap, .slice ao' l' cap'] 78)).alloc (.cells #[.bool c, .slice bo m dap, .slice bo' m' dap'] 78)).alloc (.cells #[.bool false, .slice none 0 0, .slice none 0 0] 78)) :=
    ⟨((Box3.new _ _ _ _ _).alloc _).alloc _, (Box3.new1 _ _ _ _ _ _).alloc _, Box3.new2 _ _ _ _ _ _ _, ((h.alloc _).alloc _).alloc _, ((k.alloc _).alloc _).alloc _, below3 w _ _ _, by simp⟩
  have hk1 := abs_mul_lt hp hs
  have hk2 := abs_mul_lt hr hq
  have hN0 : q * s ≠ 0 := Nat.pos_iff_ne_zero.1 (Nat.mul_pos hq0 hq')
  clear hv hb hu hg hv' hb' hu' hg'
  go_enter Tryz.func85, Tryz.ntmps85
  go_wp2
  go_cut [5] (fun sv wc => ∃ (g5 : Nat) (bU : Bool) (aU : Option Addr) (lU kU : Nat), sv = .pointer (some ⟨g5, 0, none⟩) ∧ Box2 wc g5 (.bool bU) (.slice aU lU kU) ∧ WholeV wc (.agg #[.bool bU, .slice aU lU kU]) (p * s + r * q) ∧ Held w b c ao ao' bo bo' l cap l' cap' m dap m' dap' p r q s wc ∧ w.heap.size + 1 + 1 < g5)
  case first =>
    go_region_held (fun w' => w'.cell? ⟨w.heap.size, 0, none⟩ = some (.bool b) ∧ w'.cell? ⟨w.heap.size, 1, none⟩ = some (.slice ao l cap) ∧ w'.cell? ⟨w.heap.size, 2, none⟩ = some (.slice ao' l' cap') ∧ w'.cell? ⟨w.heap.size + 1, 0, none⟩ = some (.bool c) ∧ w'.cell? ⟨w.heap.size + 1, 1, none⟩ = some (.slice bo m dap) ∧ w'.cell? ⟨w.heap.size + 1, 2, none⟩ = some (.slice bo' m' dap')) (first | (refine ⟨?_, ?_, ?_, ?_, ?_, ?_⟩ <;> (rw [far, far] <;> first | assumption | omega)) | go_keep) (first | (go_at_call 142; refine (wplus_any _ _ _ (p * s) (r * q) (K + K) (by omega) (by first | exact hA1.below hbB1 | exact (hA1.alloc _).below hbB1 | exact (hA1.below hbB1).alloc _) (by first | exact hB1 | exact hB1.alloc _) hk1 hk2).mono ?_; rintro e wC ⟨tC, rfl, hC1, hbC1⟩; obtain ⟨b2, a2, l2, k2, rfl, hv2, hb2⟩ := hC1.parts; have hH4 : Held w b c ao ao' bo bo' l cap l' cap' m dap m' dap' p r q s wC := (by first | exact hH3.below hbC1 | exact (hH3.alloc _).below hbC1); have hP4 := hH4.1; obtain ⟨u0, u1, u2, u3, u4, u5, u6⟩ := hP4; have hQ4 := hH4.2.1; obtain ⟨v0, v1, v2, v3, v4, v5, v6⟩ := hQ4; have hsC := hH4.2.2.2.2.2.2; (first | (have h5C := h5B.below hbC1; have h5c := h5C; obtain ⟨n0, n1, n2, n3, n4⟩ := h5c) | (have h5C : Box2 wC wB.heap.size (.bool false) (.slice none 0 0) := (by exact (Box2.new wB _ _ _).below hbC1); have h5c := h5C; obtain ⟨n0, n1, n2, n3, n4⟩ := h5c) | skip)) | (go_at_call 141; refine (across_any _ _ _ r p s q K K (by omega) (by first | exact hH2.2.2.2.2.1 | exact (hH2.alloc _).2.2.2.2.1) (by first | exact hH2.2.2.2.1 | exact (hH2.alloc _).2.2.2.1) hr hq).mono ?_; rintro e wB ⟨tB, rfl, hB1, hbB1⟩; have hH3 : Held w b c ao ao' bo bo' l cap l' cap' m dap m' dap' p r q s wB := (by first | exact hH2.below hbB1 | exact (hH2.alloc _).below hbB1); have hP3 := hH3.1; obtain ⟨s0, s1, s2, s3, s4, s5, s6⟩ := hP3; have hQ3 := hH3.2.1; obtain ⟨t0, t1, t2, t3, t4, t5, t6⟩ := hQ3; have hsB := hH3.2.2.2.2.2.2; (first | (have h5B : Box2 wB (w.heap.size + 1 + 1 + 1) (.bool false) (.slice none 0 0) := (by exact h5A.below hbB1); have h5b := h5B; obtain ⟨j0, j1, j2, j3, j4⟩ := h5b) | (have h5B : Box2 wB wA.heap.size (.bool false) (.slice none 0 0) := (by exact (Box2.new wA _ _ _).below hbB1); have h5b := h5B; obtain ⟨j0, j1, j2, j3, j4⟩ := h5b) | skip)) | (go_at_call 141; refine (across_any _ _ _ p r q s K K (by omega) (by first | exact hH.drew.2.2.2.1 | exact (hH.alloc _).drew.2.2.2.1) (by first | exact hH.drew.2.2.2.2.1 | exact (hH.alloc _).drew.2.2.2.2.1) hp hs).mono ?_; rintro e wA ⟨tA, rfl, hA1, hbA1⟩; have hH2 : Held w b c ao ao' bo bo' l cap l' cap' m dap m' dap' p r q s wA := (by first | exact hH.drew.below hbA1 | exact ((hH.alloc _).drew).below hbA1); have hP2 := hH2.1; obtain ⟨o0, o1, o2, o3, o4, o5, o6⟩ := hP2; have hQ2 := hH2.2.1; obtain ⟨q0, q1, q2, q3, q4, q5, q6⟩ := hQ2; have hsA := hH2.2.2.2.2.2.2; (try (have h5A : Box2 wA (w.heap.size + 1 + 1 + 1) (.bool false) (.slice none 0 0) := (by exact (Box2.new3 w _ _ _ _ _ _).drew.below hbA1); have h5a := h5A; obtain ⟨i0, i1, i2, i3, i4⟩ := h5a))))
    all_goals go_wp2_with fail
    all_goals go_meet
    all_goals first | exact ⟨wC.heap.size, b2, a2, l2, k2, rfl, Box2.new _ _ _ _, hC1.alloc _, hH4.alloc _, hsC⟩ | exact ⟨wB.heap.size, b2, a2, l2, k2, rfl, h5C.stored, hC1.stored h5C, hH4.stored h5C hsB, hsB⟩ | exact ⟨wA.heap.size, b2, a2, l2, k2, rfl, h5C.stored, hC1.stored h5C, hH4.stored h5C hsA, hsA⟩ | exact ⟨w.heap.size + 1 + 1 + 1, b2, a2, l2, k2, rfl, h5C.stored, hC1.stored h5C, hH4.stored h5C (by omega), by omega⟩
  case rest =>
    obtain ⟨g5, bU, aU, lU, kU, rfl, hbox5, hU, hHc, hg5⟩ := hcut
    have hP1 := hHc.1
    have hQ1 := hHc.2.1
    have hR1 := hHc.2.2.1
    have hf1 := hHc.2.2.2.1
    have hg1 := hHc.2.2.2.2.1
    have hB1 := hHc.2.2.2.2.2.1
    have hs1 := hHc.2.2.2.2.2.2
    have hP2 := hP1
    obtain ⟨o0, o1, o2, o3, o4, o5, o6⟩ := hP2
    have hQ2 := hQ1
    obtain ⟨q0, q1, q2, q3, q4, q5, q6⟩ := hQ2
    have hU2 := hbox5
    obtain ⟨n0, n1, n2, n3, n4⟩ := hU2
    clear hHc hH
    go_wp2
    go_region_held (fun w' => w'.cell? ⟨w.heap.size, 0, none⟩ = some (.bool b) ∧ w'.cell? ⟨w.heap.size, 1, none⟩ = some (.slice ao l cap) ∧ w'.cell? ⟨w.heap.size, 2, none⟩ = some (.slice ao' l' cap') ∧ w'.cell? ⟨w.heap.size + 1, 0, none⟩ = some (.bool c) ∧ w'.cell? ⟨w.heap.size + 1, 1, none⟩ = some (.slice bo m dap) ∧ w'.cell? ⟨w.heap.size + 1, 2, none⟩ = some (.slice bo' m' dap') ∧ w'.cell? ⟨g5, 0, none⟩ = some (.bool bU) ∧ w'.cell? ⟨g5, 1, none⟩ = some (.slice aU lU kU)) (first | (refine ⟨?_, ?_, ?_, ?_, ?_, ?_, ?_, ?_⟩ <;> (rw [far, far, far] <;> first | assumption | omega)) | go_keep) (first | (go_at_call 54; refine (reduced_any M hM hO _ _ _ (p * s + r * q) (q * s) ((((hU.drewN 1).below hbA1).below hbB1).below hbC1) hC1 hN0 hZ hN).mono ?_; rintro e wD ⟨tD, rfl, hD1, hbD1⟩; obtain ⟨b2, a2, l2, k2, a3, l3, k3, rfl, hp1, hp2, hp3, hp4, hp5⟩ := hD1.parts; have hP5 := (((hP1.drew.below hbA1).below hbB1).below hbC1).below hbD1; obtain ⟨x0, x1, x2, x3, x4, x5, x6⟩ := hP5; have hQ5 := (((hQ1.drew.below hbA1).below hbB1).below hbC1).below hbD1; obtain ⟨y0, y1, y2, y3, y4, y5, y6⟩ := hQ5; have hU5 := (((hbox5.drew.below hbA1).below hbB1).below hbC1).below hbD1; obtain ⟨z0, z1, z2, z3, z4⟩ := hU5; have hR5 := (((hR1.drew.below hbA1).below hbB1).below hbC1).below hbD1; obtain ⟨c0, c1, c2, f0, f1, f2, g0⟩ := hR5) | (go_at_call 144; refine (times_any _ _ _ q s K K (hA1.below hbB1) hB2 hq hs (by omega)).mono ?_; rintro e wC ⟨tC, rfl, hC1, hbC1⟩; have hP4 := ((hP1.drew.below hbA1).below hbB1).below hbC1; obtain ⟨u0, u1, u2, u3, u4, u5, u6⟩ := hP4; have hQ4 := ((hQ1.drew.below hbA1).below hbB1).below hbC1; obtain ⟨v0, v1, v2, v3, v4, v5, v6⟩ := hQ4; have hU4 := ((hbox5.drew.below hbA1).below hbB1).below hbC1; obtain ⟨m0, m1, m2, m3, m4⟩ := hU4) | (go_at_call 143; refine (divisor_any _ _ r s (hg1.drew.below hbA1)).mono ?_; rintro e wB ⟨tB, rfl, hB2, hbB1⟩; have hP3 := (hP1.drew.below hbA1).below hbB1; obtain ⟨s0, s1, s2, s3, s4, s5, s6⟩ := hP3; have hQ3 := (hQ1.drew.below hbA1).below hbB1; obtain ⟨t0, t1, t2, t3, t4, t5, t6⟩ := hQ3; have hU3 := (hbox5.drew.below hbA1).below hbB1; obtain ⟨i0, i1, i2, i3, i4⟩ := hU3) | (go_at_call 143; refine (divisor_any _ _ p q (by exact hf1.drew)).mono ?_; rintro e wA ⟨tA, rfl, hA1, hbA1⟩; have hP6 := hP1.drew.below hbA1; obtain ⟨j0, j1, j2, j3, j4, j5, j6⟩ := hP6; have hQ6 := hQ1.drew.below hbA1; obtain ⟨d0, d1, d2, d3, d4, d5, d6⟩ := hQ6; have hU6 := hbox5.drew.below hbA1; obtain ⟨e0, e1, e2, e3, e4⟩ := hU6))
    have hbA : Below w.heap.size w wA := hB1.trans ((below_drew hbA1).mono hB1.size)
    have hbB : Below w.heap.size w wB := hbA.trans (hbB1.mono hbA.size)
    have hbC : Below w.heap.size w wC := hbB.trans (hbC1.mono hbB.size)
    have hbD : Below w.heap.size w wD := hbC.trans (hbD1.mono hbC.size)
    go_wp2
    exact bodyPost_ret (v := .agg #[.bool b2, .slice a2 l2 k2, .slice a3 l3 k3]) (by simp [results, Tryz.results85, go_sem, c0, c1, c2]) rfl ⟨_, rfl, fracV_boxed hp1 hp2 hp3 hp4 hp5 c0 c1 c2,
      ((hbD.setCell (by simp; omega) _).setCell (by simp; omega) _).setCell (by simp; omega) _⟩
end Go.Proofs.YtjojikcghgemhaaGreatDoor

/-
  What package fraction does: Minus.
-/
namespace Go.Proofs.YtjojikcghgemhaaGreatDoor
open Go.RowKit

set_option maxRecDepth 100000 in
set_option maxHeartbeats 2000000 in
theorem fminus_any (K M : Nat) (hK : K + K + 1 ≤ 1073741822) (hM : M ≤ 1073741822) (hO : OverOK M) (w : World) (x y : Value) (p r : Int) (q s : Nat) (h : FracV w x p q) (k : FracV w y r s) (hp : p.natAbs < 4294967296 ^ K) (hr : r.natAbs < 4294967296 ^ K) (hq : q < 4294967296 ^ K) (hs : s < 4294967296 ^ K) (hZ : (p * s + (-r) * q).natAbs < 4294967296 ^ M) (hN : q * s < 4294967296 ^ M) :
    Calls Tryz.prog 86 #[x, y] w fun e w' => ∃ t, e = .returned t ∧ FracV w' t ((p * s + (-r) * q) / (Nat.gcd (p * s + (-r) * q).natAbs (q * s) : Int)) ((q * s) / Nat.gcd (p * s + (-r) * q).natAbs (q * s)) ∧ Below w.heap.size w w' := by
  have h0 := h
  have k0 := k
  obtain ⟨b, ao, l, cap, ao', l', cap', rfl, hv, hb, hu, hq0, hg⟩ := h.parts
  obtain ⟨c, bo, m, dap, bo', m', dap', rfl, hv', hb', hu', hq', hg'⟩ := k.parts
  have hH : Held w b c ao ao' bo bo' l cap l' cap' m dap m' dap' p r q s (((w.alloc (.cells #[.bool b, .slice ao l cap, .slice ao' l' cap'] 78)).alloc (.cells #[.bool c, .slice bo m dap, .slice bo' m' dap'] 78)).alloc (.cells #[.bool false, .slice none 0 0, .slice none 0 0] 78)) :=
    ⟨((Box3.new _ _ _ _ _).alloc _).alloc _, (Box3.new1 _ _ _ _ _ _).alloc _, Box3.new2 _ _ _ _ _ _ _, ((h0.alloc _).alloc _).alloc _, ((k0.alloc _).alloc _).alloc _, below3 w _ _ _, by simp⟩
  clear hv hb hu hg hv' hb' hu' hg'
  go_enter Tryz.func86, Tryz.ntmps86
  go_wp2
  go_region_held (fun w' => w'.cell? ⟨w.heap.size, 0, none⟩ = some (.bool b) ∧ w'.cell? ⟨w.heap.size, 1, none⟩ = some (.slice ao l cap) ∧ w'.cell? ⟨w.heap.size, 2, none⟩ = some (.slice ao' l' cap') ∧ w'.cell? ⟨w.heap.size + 1, 0, none⟩ = some (.bool c) ∧ w'.cell? ⟨w.heap.size + 1, 1, none⟩ = some (.slice bo m dap) ∧ w'.cell? ⟨w.heap.size + 1, 2, none⟩ = some (.slice bo' m' dap')) (first | (refine ⟨?_, ?_, ?_, ?_, ?_, ?_⟩ <;> (rw [far, far, far] <;> first | assumption | omega)) | go_keep) (first | (go_at_call 85; refine (fplus_any K M hK hM hO _ _ _ p (-r) q s hH2.2.2.2.1 hA1 hp (by rw [Int.natAbs_neg]; exact hr) hq hs hZ hN).mono ?_; rintro e wB ⟨tB, rfl, hB1, hbB1⟩; obtain ⟨b2, a2, l2, k2, a3, l3, k3, rfl, hp1, hp2, hp3, hp4, hp5⟩ := hB1.parts; have hH3 := hH2.below hbB1; have hP3 := hH3.1; obtain ⟨s0, s1, s2, s3, s4, s5, s6⟩ := hP3; have hQ3 := hH3.2.1; obtain ⟨t0, t1, t2, t3, t4, t5, t6⟩ := hQ3; have hR3 := hH3.2.2.1; obtain ⟨c0, c1, c2, f0, f1, f2, g0⟩ := hR3) | (go_at_call 145; refine (fturned_any _ _ r s (by exact hH.drew.2.2.2.2.1)).mono ?_; rintro e wA ⟨tA, rfl, hA1, hbA1⟩; have hH2 := hH.drew.below hbA1; have hP2 := hH2.1; obtain ⟨o0, o1, o2, o3, o4, o5, o6⟩ := hP2; have hQ2 := hH2.2.1; obtain ⟨q0, q1, q2, q3, q4, q5, q6⟩ := hQ2))
  have hbB := hH3.2.2.2.2.2.1
  go_wp2
  exact bodyPost_ret (v := .agg #[.bool b2, .slice a2 l2 k2, .slice a3 l3 k3]) (by simp [results, Tryz.results86, go_sem, c0, c1, c2]) rfl ⟨_, rfl, fracV_boxed hp1 hp2 hp3 hp4 hp5 c0 c1 c2,
    ((hbB.setCell (by simp; omega) _).setCell (by simp; omega) _).setCell (by simp; omega) _⟩
end Go.Proofs.YtjojikcghgemhaaGreatDoor
