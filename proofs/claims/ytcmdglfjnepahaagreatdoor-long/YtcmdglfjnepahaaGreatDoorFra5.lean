/-
  What package fraction does: Times, Over.
-/
import Derived.Test.YtcmdglfjnepahaaGreatDoorFra4
set_option linter.unusedSimpArgs false
set_option linter.unusedVariables false
namespace Go.Proofs.YtcmdglfjnepahaaGreatDoor
open Go.RowKit

theorem FracV.setCell {w : World} {x : Value} {p : Int} {q : Nat} (h : FracV w x p q) {a : Addr} {y : Value} (hy : w.cell? a = some y) (hn : ∀ k, y ≠ .int .u32 k) (t : Value) : FracV (w.setCell a t) x p q := by
  obtain ⟨b, v, u, h1, h2, h3, h4, h5⟩ := h
  exact ⟨b, v, u, h1, h2.setCell hy hn t, h3, h4.setCell hy hn t, h5⟩

theorem mul_pow_lt {a b K : Nat} (ha : a < 4294967296 ^ K) (hb : b < 4294967296 ^ K) : a * b < 4294967296 ^ (K + K) := by
  rw [Nat.pow_add]; exact Nat.mul_lt_mul'' ha hb

theorem abs_mul_lt {z : Int} {b K : Nat} (ha : z.natAbs < 4294967296 ^ K) (hb : b < 4294967296 ^ K) : (z * (b : Int)).natAbs < 4294967296 ^ (K + K) := by
  rw [Int.natAbs_mul, Int.natAbs_natCast]; exact mul_pow_lt ha hb

set_option maxRecDepth 100000 in
set_option maxHeartbeats 2000000 in
theorem ftimes_any (K : Nat) (hK : K + K ≤ 1073741822) (hO : OverOK (K + K)) (w : World) (x y : Value) (p r : Int) (q s : Nat) (h : FracV w x p q) (k : FracV w y r s) (hp : p.natAbs < 4294967296 ^ K) (hr : r.natAbs < 4294967296 ^ K) (hq : q < 4294967296 ^ K) (hs : s < 4294967296 ^ K) :
    Calls Tryz.prog 70 #[x, y] w fun e w' => ∃ t, e = .returned t ∧ FracV w' t ((p * r) / (Nat.gcd (p * r).natAbs (q * s) : Int)) ((q * s) / Nat.gcd (p * r).natAbs (q * s)) ∧ Below w.heap.size w w' := by
  have h0 := h
  have k0 := k
  obtain ⟨b, ao, l, cap, ao', l', cap', rfl, hv, hb, hu, hq0, hg⟩ := h.parts
  obtain ⟨c, bo, m, dap, bo', m', dap', rfl, hv', hb', hu', hq', hg'⟩ := k.parts
  have hx1 : WholeV w (.agg #[.bool b, .slice ao l cap]) p := ⟨b, _, rfl, hv, hb⟩
  have hy1 : WholeV w (.agg #[.bool c, .slice bo m dap]) r := ⟨c, _, rfl, hv', hb'⟩
  have hboxP : Box3 (((w.alloc (.cells #[.bool b, .slice ao l cap, .slice ao' l' cap'] 64)).alloc (.cells #[.bool c, .slice bo m dap, .slice bo' m' dap'] 64)).alloc (.cells #[.bool false, .slice none 0 0, .slice none 0 0] 64)) w.heap.size (.bool b) (.slice ao l cap) (.slice ao' l' cap') := ((Box3.new _ _ _ _ _).alloc _).alloc _
  have hboxQ : Box3 (((w.alloc (.cells #[.bool b, .slice ao l cap, .slice ao' l' cap'] 64)).alloc (.cells #[.bool c, .slice bo m dap, .slice bo' m' dap'] 64)).alloc (.cells #[.bool false, .slice none 0 0, .slice none 0 0] 64)) (w.heap.size + 1) (.bool c) (.slice bo m dap) (.slice bo' m' dap') := (Box3.new1 _ _ _ _ _ _).alloc _
  have hboxR : Box3 (((w.alloc (.cells #[.bool b, .slice ao l cap, .slice ao' l' cap'] 64)).alloc (.cells #[.bool c, .slice bo m dap, .slice bo' m' dap'] 64)).alloc (.cells #[.bool false, .slice none 0 0, .slice none 0 0] 64)) (w.heap.size + 1 + 1) (.bool false) (.slice none 0 0) (.slice none 0 0) := Box3.new2 _ _ _ _ _ _ _
  have hbW := below3 w (.cells #[.bool b, .slice ao l cap, .slice ao' l' cap'] 64) (.cells #[.bool c, .slice bo m dap, .slice bo' m' dap'] 64) (.cells #[.bool false, .slice none 0 0, .slice none 0 0] 64)
  have hZ : (p * r).natAbs < 4294967296 ^ (K + K) := by rw [Int.natAbs_mul]; exact mul_pow_lt hp hr
  have hN : q * s < 4294967296 ^ (K + K) := mul_pow_lt hq hs
  have hN0 : q * s ≠ 0 := Nat.pos_iff_ne_zero.1 (Nat.mul_pos hq0 hq')
  go_enter Tryz.func70, Tryz.ntmps70
  go_wp2
  go_region_held (fun w' => w'.cell? ⟨w.heap.size, 0, none⟩ = some (.bool b) ∧ w'.cell? ⟨w.heap.size, 1, none⟩ = some (.slice ao l cap) ∧ w'.cell? ⟨w.heap.size, 2, none⟩ = some (.slice ao' l' cap') ∧ w'.cell? ⟨w.heap.size + 1, 0, none⟩ = some (.bool c) ∧ w'.cell? ⟨w.heap.size + 1, 1, none⟩ = some (.slice bo m dap) ∧ w'.cell? ⟨w.heap.size + 1, 2, none⟩ = some (.slice bo' m' dap')) (first | (refine ⟨?_, ?_, ?_, ?_, ?_, ?_⟩ <;> (rw [far, far, far] <;> first | assumption | omega)) | go_keep) (first | (go_at_call 45; refine (reduced_any (K + K) hK hO _ _ _ (p * r) (q * s) (((hA1.below hbB1).below hbC1).below hbD1) hD1 hN0 hZ hN).mono ?_; rintro e wE ⟨tE, rfl, hE1, hbE1⟩; obtain ⟨b2, a2, l2, k2, a3, l3, k3, rfl, hp1, hp2, hp3, hp4, hp5⟩ := hE1.parts; have hP6 := ((((hboxP.drew.below hbA1).below hbB1).below hbC1).below hbD1).below hbE1; obtain ⟨x0, x1, x2, x3, x4, x5, x6⟩ := hP6; have hQ6 := ((((hboxQ.drew.below hbA1).below hbB1).below hbC1).below hbD1).below hbE1; obtain ⟨y0, y1, y2, y3, y4, y5, y6⟩ := hQ6; have hR6 := ((((hboxR.drew.below hbA1).below hbB1).below hbC1).below hbD1).below hbE1; obtain ⟨c0, c1, c2, f0, f1, f2, g0⟩ := hR6) | (go_at_call 118; refine (times_any _ _ _ q s K K (hB1.below hbC1) hC1 hq hs (by omega)).mono ?_; rintro e wD ⟨tD, rfl, hD1, hbD1⟩; have hP5 := (((hboxP.drew.below hbA1).below hbB1).below hbC1).below hbD1; obtain ⟨u0, u1, u2, u3, u4, u5, u6⟩ := hP5; have hQ5 := (((hboxQ.drew.below hbA1).below hbB1).below hbC1).below hbD1; obtain ⟨v0, v1, v2, v3, v4, v5, v6⟩ := hQ5) | (go_at_call 117; refine (divisor_any _ _ r s ((((((k0.alloc _).alloc _).alloc _).drew).below hbA1).below hbB1)).mono ?_; rintro e wC ⟨tC, rfl, hC1, hbC1⟩; have hP4 := ((hboxP.drew.below hbA1).below hbB1).below hbC1; obtain ⟨m0, m1, m2, m3, m4, m5, m6⟩ := hP4; have hQ4 := ((hboxQ.drew.below hbA1).below hbB1).below hbC1; obtain ⟨n0, n1, n2, n3, n4, n5, n6⟩ := hQ4) | (go_at_call 117; refine (divisor_any _ _ p q ((((((h0.alloc _).alloc _).alloc _).drew).below hbA1))).mono ?_; rintro e wB ⟨tB, rfl, hB1, hbB1⟩; have hP3 := (hboxP.drew.below hbA1).below hbB1; obtain ⟨s0, s1, s2, s3, s4, s5, s6⟩ := hP3; have hQ3 := (hboxQ.drew.below hbA1).below hbB1; obtain ⟨t0, t1, t2, t3, t4, t5, t6⟩ := hQ3) | (go_at_call 120; refine (wtimes_any _ _ _ p r K K (by omega) (by exact WholeV.drewN (((hx1.alloc _).alloc _).alloc _) 1) (by exact WholeV.drewN (((hy1.alloc _).alloc _).alloc _) 1) hp hr).mono ?_; rintro e wA ⟨tA, rfl, hA1, hbA1⟩; have hP2 := hboxP.drew.below hbA1; obtain ⟨o0, o1, o2, o3, o4, o5, o6⟩ := hP2; have hQ2 := hboxQ.drew.below hbA1; obtain ⟨q0, q1, q2, q3, q4, q5, q6⟩ := hQ2))
  have hbA : Below w.heap.size w wA := hbW.trans ((below_drew hbA1).mono hbW.size)
  have hbB : Below w.heap.size w wB := hbA.trans (hbB1.mono hbA.size)
  have hbC : Below w.heap.size w wC := hbB.trans (hbC1.mono hbB.size)
  have hbD : Below w.heap.size w wD := hbC.trans (hbD1.mono hbC.size)
  have hbE : Below w.heap.size w wE := hbD.trans (hbE1.mono hbD.size)
  go_wp2
  exact bodyPost_ret (v := .agg #[.bool b2, .slice a2 l2 k2, .slice a3 l3 k3]) (by simp [results, Tryz.results70, go_sem, c0, c1, c2]) rfl ⟨_, rfl, fracV_boxed hp1 hp2 hp3 hp4 hp5 c0 c1 c2,
    ((hbE.setCell (by simp; omega) _).setCell (by simp; omega) _).setCell (by simp; omega) _⟩
end Go.Proofs.YtcmdglfjnepahaaGreatDoor
