/-
  What package fraction does: Plus.
-/
import Derived.Test.YtcmdglfjnepahaaGreatDoorFra6
import Derived.Deep.DeepCutAuto
set_option linter.unusedSimpArgs false
set_option linter.unusedVariables false
namespace Go.Proofs.YtcmdglfjnepahaaGreatDoor
open Go.RowKit

/-- What is known of the two boxes and the result's, of the two fractions, and of old memory. -/
def Held (w : World) (b c : Bool) (ao ao' bo bo' : Option Addr) (l cap l' cap' m dap m' dap' : Nat) (p r : Int) (q s : Nat) (wc : World) : Prop :=
  Box3 wc w.heap.size (.bool b) (.slice ao l cap) (.slice ao' l' cap') ∧ Box3 wc (w.heap.size + 1) (.bool c) (.slice bo m dap) (.slice bo' m' dap') ∧ Box3 wc (w.heap.size + 1 + 1) (.bool false) (.slice none 0 0) (.slice none 0 0) ∧ FracV wc (.agg #[.bool b, .slice ao l cap, .slice ao' l' cap']) p q ∧ FracV wc (.agg #[.bool c, .slice bo m dap, .slice bo' m' dap']) r s ∧ Below w.heap.size w wc ∧ w.heap.size + 1 + 1 < wc.heap.size

theorem Held.below {w : World} {b c : Bool} {ao ao' bo bo' : Option Addr} {l cap l' cap' m dap m' dap' : Nat} {p r : Int} {q s : Nat} {u v : World} (h : Held w b c ao ao' bo bo' l cap l' cap' m dap m' dap' p r q s u) (hb : Below u.heap.size u v) : Held w b c ao ao' bo bo' l cap l' cap' m dap m' dap' p r q s v := by
  obtain ⟨h1, h2, h3, h4, h5, h6, h7⟩ := h
  exact ⟨h1.below hb, h2.below hb, h3.below hb, h4.below hb, h5.below hb, h6.trans (hb.mono h6.size), Nat.lt_of_lt_of_le h7 hb.size⟩

theorem Held.drew {w : World} {b c : Bool} {ao ao' bo bo' : Option Addr} {l cap l' cap' m dap m' dap' : Nat} {p r : Int} {q s : Nat} {u : World} (h : Held w b c ao ao' bo bo' l cap l' cap' m dap m' dap' p r q s u) : Held w b c ao ao' bo bo' l cap l' cap' m dap m' dap' p r q s u.drew := by
  obtain ⟨h1, h2, h3, h4, h5, h6, h7⟩ := h
  exact ⟨h1, h2, h3, h4, h5, ⟨h6.os, h6.tape, h6.output, h6.size, h6.block⟩, h7⟩

theorem Held.alloc {w : World} {b c : Bool} {ao ao' bo bo' : Option Addr} {l cap l' cap' m dap m' dap' : Nat} {p r : Int} {q s : Nat} {u : World} (h : Held w b c ao ao' bo bo' l cap l' cap' m dap m' dap' p r q s u) (o : Obj) : Held w b c ao ao' bo bo' l cap l' cap' m dap m' dap' p r q s (u.alloc o) :=
  h.below ((Below.refl _ _).alloc (Nat.le_refl _) o)

theorem Held.setCell {w : World} {b c : Bool} {ao ao' bo bo' : Option Addr} {l cap l' cap' m dap m' dap' : Nat} {p r : Int} {q s : Nat} {u : World} (h : Held w b c ao ao' bo bo' l cap l' cap' m dap m' dap' p r q s u) {g o : Nat} {y : Value} (hg : w.heap.size + 1 + 1 < g) (hy : u.cell? ⟨g, o, none⟩ = some y) (hn : ∀ k, y ≠ .int .u32 k) (x : Value) :
    Held w b c ao ao' bo bo' l cap l' cap' m dap m' dap' p r q s (u.setCell ⟨g, o, none⟩ x) := by
  obtain ⟨h1, h2, h3, h4, h5, h6, h7⟩ := h
  exact ⟨h1.far (by omega), h2.far (by omega), h3.far (by omega), h4.setCell hy hn x, h5.setCell hy hn x, h6.setCell (by simp; omega) x, by simpa using h7⟩

theorem Box2.stored {w : World} {g : Nat} {b0 b : Bool} {a0 a : Option Addr} {l0 k0 l k : Nat} (h : Box2 w g (.bool b0) (.slice a0 l0 k0)) : Box2 ((w.setCell ⟨g, 0, none⟩ (.bool b)).setCell ⟨g, 1, none⟩ (.slice a l k)) g (.bool b) (.slice a l k) := by
  obtain ⟨d0, d1, d2, d3, d4⟩ := h
  have e1 : (w.setCell ⟨g, 0, none⟩ (.bool b)).cell? ⟨g, 1, none⟩ = some (.slice a0 l0 k0) := by rw [World.cell?_setCell_other _ _ _ _ (by simp)]; exact d1
  refine ⟨?_, World.cell?_setCell_same _ _ _ e1, by simpa using d2, by simpa using d3, by simpa using d4⟩
  rw [World.cell?_setCell_other _ _ _ _ (by simp)]; exact World.cell?_setCell_same _ _ _ d0

theorem WholeV.stored {w : World} {x : Value} {z : Int} (hx : WholeV w x z) {g : Nat} {b0 b : Bool} {a0 a : Option Addr} {l0 k0 l k : Nat} (h : Box2 w g (.bool b0) (.slice a0 l0 k0)) : WholeV ((w.setCell ⟨g, 0, none⟩ (.bool b)).setCell ⟨g, 1, none⟩ (.slice a l k)) x z := by
  obtain ⟨d0, d1, d2, d3, d4⟩ := h
  have e1 : (w.setCell ⟨g, 0, none⟩ (.bool b)).cell? ⟨g, 1, none⟩ = some (.slice a0 l0 k0) := by rw [World.cell?_setCell_other _ _ _ _ (by simp)]; exact d1
  exact (hx.setCell d0 (by simp) _).setCell e1 (by simp) _

theorem Held.stored {w : World} {b c : Bool} {ao ao' bo bo' : Option Addr} {l cap l' cap' m dap m' dap' : Nat} {p r : Int} {q s : Nat} {u : World} (hH : Held w b c ao ao' bo bo' l cap l' cap' m dap m' dap' p r q s u) {g : Nat} {b0 b1 : Bool} {a0 a1 : Option Addr} {l0 k0 l1 k1 : Nat} (h : Box2 u g (.bool b0) (.slice a0 l0 k0)) (hg : w.heap.size + 1 + 1 < g) :
    Held w b c ao ao' bo bo' l cap l' cap' m dap m' dap' p r q s ((u.setCell ⟨g, 0, none⟩ (.bool b1)).setCell ⟨g, 1, none⟩ (.slice a1 l1 k1)) := by
  obtain ⟨d0, d1, d2, d3, d4⟩ := h
  have e1 : (u.setCell ⟨g, 0, none⟩ (.bool b1)).cell? ⟨g, 1, none⟩ = some (.slice a0 l0 k0) := by rw [World.cell?_setCell_other _ _ _ _ (by simp)]; exact d1
  exact (hH.setCell hg d0 (by simp) _).setCell hg e1 (by simp) _

theorem Box2.new3 (w : World) (A B C : Obj) (x y : Value) (t : TypeId) : Box2 ((((w.alloc A).alloc B).alloc C).alloc (.cells #[x, y] t)) (w.heap.size + 1 + 1 + 1) x y := by
  have := Box2.new (((w.alloc A).alloc B).alloc C) x y t; simpa using this

set_option maxRecDepth 100000 in
set_option maxHeartbeats 4000000 in
theorem fplus_any (K M : Nat) (hK : K + K + 1 ≤ 1073741822) (hM : M ≤ 1073741822) (hO : OverOK M) (w : World) (x y : Value) (p r : Int) (q s : Nat) (h : FracV w x p q) (k : FracV w y r s) (hp : p.natAbs < 4294967296 ^ K) (hr : r.natAbs < 4294967296 ^ K) (hq : q < 4294967296 ^ K) (hs : s < 4294967296 ^ K) (hZ : (p * s + r * q).natAbs < 4294967296 ^ M) (hN : q * s < 4294967296 ^ M) :
    Calls Tryz.prog 68 #[x, y] w fun e w' => ∃ t, e = .returned t ∧ FracV w' t ((p * s + r * q) / (Nat.gcd (p * s + r * q).natAbs (q * s) : Int)) ((q * s) / Nat.gcd (p * s + r * q).natAbs (q * s)) ∧ Below w.heap.size w w' := by
  obtain ⟨b, ao, l, cap, ao', l', cap', rfl, hv, hb, hu, hq0, hg⟩ := h.parts
  obtain ⟨c, bo, m, dap, bo', m', dap', rfl, hv', hb', hu', hq', hg'⟩ := k.parts
  have hH : Held w b c ao ao' bo bo' l cap l' cap' m dap m' dap' p r q s (((w.alloc (.cells #[.bool b, .slice ao l cap, .slice ao' l' cap'] 64)).alloc (.cells #[.bool c, .slice bo m dap, .slice bo' m' dap'] 64)).alloc (.cells #[.bool false, .slice none 0 0, .slice none 0 0] 64)) :=
    ⟨((Box3.new _ _ _ _ _).alloc _).alloc _, (Box3.new1 _ _ _ _ _ _).alloc _, Box3.new2 _ _ _ _ _ _ _, ((h.alloc _).alloc _).alloc _, ((k.alloc _).alloc _).alloc _, below3 w _ _ _, by simp⟩
  have hk1 := abs_mul_lt hp hs
  have hk2 := abs_mul_lt hr hq
  have hN0 : q * s ≠ 0 := Nat.pos_iff_ne_zero.1 (Nat.mul_pos hq0 hq')
  clear hv hb hu hg hv' hb' hu' hg'
  go_enter Tryz.func68, Tryz.ntmps68
  go_wp2
  go_cut [5] (fun sv wc => ∃ (g5 : Nat) (bU : Bool) (aU : Option Addr) (lU kU : Nat), sv = .pointer (some ⟨g5, 0, none⟩) ∧ Box2 wc g5 (.bool bU) (.slice aU lU kU) ∧ WholeV wc (.agg #[.bool bU, .slice aU lU kU]) (p * s + r * q) ∧ Held w b c ao ao' bo bo' l cap l' cap' m dap m' dap' p r q s wc ∧ w.heap.size + 1 + 1 < g5)
  case first =>
    go_region_held (fun w' => w'.cell? ⟨w.heap.size, 0, none⟩ = some (.bool b) ∧ w'.cell? ⟨w.heap.size, 1, none⟩ = some (.slice ao l cap) ∧ w'.cell? ⟨w.heap.size, 2, none⟩ = some (.slice ao' l' cap') ∧ w'.cell? ⟨w.heap.size + 1, 0, none⟩ = some (.bool c) ∧ w'.cell? ⟨w.heap.size + 1, 1, none⟩ = some (.slice bo m dap) ∧ w'.cell? ⟨w.heap.size + 1, 2, none⟩ = some (.slice bo' m' dap')) (first | (refine ⟨?_, ?_, ?_, ?_, ?_, ?_⟩ <;> (rw [far, far] <;> first | assumption | omega)) | go_keep) (first | (go_at_call 116; refine (wplus_any _ _ _ (p * s) (r * q) (K + K) (by omega) (by first | exact hA1.below hbB1 | exact (hA1.alloc _).below hbB1 | exact (hA1.below hbB1).alloc _) (by first | exact hB1 | exact hB1.alloc _) hk1 hk2).mono ?_; rintro e wC ⟨tC, rfl, hC1, hbC1⟩; obtain ⟨b2, a2, l2, k2, rfl, hv2, hb2⟩ := hC1.parts; have hH4 : Held w b c ao ao' bo bo' l cap l' cap' m dap m' dap' p r q s wC := (by first | exact hH3.below hbC1 | exact (hH3.alloc _).below hbC1); have hP4 := hH4.1; obtain ⟨u0, u1, u2, u3, u4, u5, u6⟩ := hP4; have hQ4 := hH4.2.1; obtain ⟨v0, v1, v2, v3, v4, v5, v6⟩ := hQ4; have hsC := hH4.2.2.2.2.2.2; (first | (have h5C := h5B.below hbC1; have h5c := h5C; obtain ⟨n0, n1, n2, n3, n4⟩ := h5c) | (have h5C : Box2 wC wB.heap.size (.bool false) (.slice none 0 0) := (by exact (Box2.new wB _ _ _).below hbC1); have h5c := h5C; obtain ⟨n0, n1, n2, n3, n4⟩ := h5c) | skip)) | (go_at_call 115; refine (across_any _ _ _ r p s q K K (by omega) (by first | exact hH2.2.2.2.2.1 | exact (hH2.alloc _).2.2.2.2.1) (by first | exact hH2.2.2.2.1 | exact (hH2.alloc _).2.2.2.1) hr hq).mono ?_; rintro e wB ⟨tB, rfl, hB1, hbB1⟩; have hH3 : Held w b c ao ao' bo bo' l cap l' cap' m dap m' dap' p r q s wB := (by first | exact hH2.below hbB1 | exact (hH2.alloc _).below hbB1); have hP3 := hH3.1; obtain ⟨s0, s1, s2, s3, s4, s5, s6⟩ := hP3; have hQ3 := hH3.2.1; obtain ⟨t0, t1, t2, t3, t4, t5, t6⟩ := hQ3; have hsB := hH3.2.2.2.2.2.2; (first | (have h5B : Box2 wB (w.heap.size + 1 + 1 + 1) (.bool false) (.slice none 0 0) := (by exact h5A.below hbB1); have h5b := h5B; obtain ⟨j0, j1, j2, j3, j4⟩ := h5b) | (have h5B : Box2 wB wA.heap.size (.bool false) (.slice none 0 0) := (by exact (Box2.new wA _ _ _).below hbB1); have h5b := h5B; obtain ⟨j0, j1, j2, j3, j4⟩ := h5b) | skip)) | (go_at_call 115; refine (across_any _ _ _ p r q s K K (by omega) (by first | exact hH.drew.2.2.2.1 | exact (hH.alloc _).drew.2.2.2.1) (by first | exact hH.drew.2.2.2.2.1 | exact (hH.alloc _).drew.2.2.2.2.1) hp hs).mono ?_; rintro e wA ⟨tA, rfl, hA1, hbA1⟩; have hH2 : Held w b c ao ao' bo bo' l cap l' cap' m dap m' dap' p r q s wA := (by first | exact hH.drew.below hbA1 | exact ((hH.alloc _).drew).below hbA1); have hP2 := hH2.1; obtain ⟨o0, o1, o2, o3, o4, o5, o6⟩ := hP2; have hQ2 := hH2.2.1; obtain ⟨q0, q1, q2, q3, q4, q5, q6⟩ := hQ2; have hsA := hH2.2.2.2.2.2.2; (try (have h5A : Box2 wA (w.heap.size + 1 + 1 + 1) (.bool false) (.slice none 0 0) := (by exact (Box2.new3 w _ _ _ _ _ _).drew.below hbA1); have h5a := h5A; obtain ⟨i0, i1, i2, i3, i4⟩ := h5a))))
    all_goals go_wp2_with fail
    all_goals go_meet
    all_goals first | exact ⟨wC.heap.size, b2, a2, l2, k2, rfl, Box2.new _ _ _ _, hC1.alloc _, hH4.alloc _, hsC⟩ | exact ⟨wB.heap.size, b2, a2, l2, k2, rfl, h5C.stored, hC1.stored h5C, hH4.stored h5C hsB, hsB⟩ | exact ⟨wA.heap.size, b2, a2, l2, k2, rfl, h5C.stored, hC1.stored h5C, hH4.stored h5C hsA, hsA⟩ | exact ⟨w.heap.size + 1 + 1 + 1, b2, a2, l2, k2, rfl, h5C.stored, hC1.stored h5C, hH4.stored h5C (by omega), by omega⟩
  case rest =>
    obtain ⟨g5, bU, aU, lU, kU, rfl, hbox5, hU, hHc, hg5⟩ := hcut
    have hP1 := hHc.1
    have hQ1 := hHc.2.1
    have hR1 := hHc.2.2.1
    have hf1 := hHc.2.2.2.1
    have hg1 := hHc.2.2.2.2.1
    have hB1 := hHc.2.2.2.2.2.1
    have hs1 := hHc.2.2.2.2.2.2
    have hP2 := hP1
    obtain ⟨o0, o1, o2, o3, o4, o5, o6⟩ := hP2
    have hQ2 := hQ1
    obtain ⟨q0, q1, q2, q3, q4, q5, q6⟩ := hQ2
    have hU2 := hbox5
    obtain ⟨n0, n1, n2, n3, n4⟩ := hU2
    clear hHc hH
    go_wp2
    go_region_held (fun w' => w'.cell? ⟨w.heap.size, 0, none⟩ = some (.bool b) ∧ w'.cell? ⟨w.heap.size, 1, none⟩ = some (.slice ao l cap) ∧ w'.cell? ⟨w.heap.size, 2, none⟩ = some (.slice ao' l' cap') ∧ w'.cell? ⟨w.heap.size + 1, 0, none⟩ = some (.bool c) ∧ w'.cell? ⟨w.heap.size + 1, 1, none⟩ = some (.slice bo m dap) ∧ w'.cell? ⟨w.heap.size + 1, 2, none⟩ = some (.slice bo' m' dap') ∧ w'.cell? ⟨g5, 0, none⟩ = some (.bool bU) ∧ w'.cell? ⟨g5, 1, none⟩ = some (.slice aU lU kU)) (first | (refine ⟨?_, ?_, ?_, ?_, ?_, ?_, ?_, ?_⟩ <;> (rw [far, far, far] <;> first | assumption | omega)) | go_keep) (first | (go_at_call 45; refine (reduced_any M hM hO _ _ _ (p * s + r * q) (q * s) ((((hU.drewN 1).below hbA1).below hbB1).below hbC1) hC1 hN0 hZ hN).mono ?_; rintro e wD ⟨tD, rfl, hD1, hbD1⟩; obtain ⟨b2, a2, l2, k2, a3, l3, k3, rfl, hp1, hp2, hp3, hp4, hp5⟩ := hD1.parts; have hP5 := (((hP1.drew.below hbA1).below hbB1).below hbC1).below hbD1; obtain ⟨x0, x1, x2, x3, x4, x5, x6⟩ := hP5; have hQ5 := (((hQ1.drew.below hbA1).below hbB1).below hbC1).below hbD1; obtain ⟨y0, y1, y2, y3, y4, y5, y6⟩ := hQ5; have hU5 := (((hbox5.drew.below hbA1).below hbB1).below hbC1).below hbD1; obtain ⟨z0, z1, z2, z3, z4⟩ := hU5; have hR5 := (((hR1.drew.below hbA1).below hbB1).below hbC1).below hbD1; obtain ⟨c0, c1, c2, f0, f1, f2, g0⟩ := hR5) | (go_at_call 118; refine (times_any _ _ _ q s K K (hA1.below hbB1) hB2 hq hs (by omega)).mono ?_; rintro e wC ⟨tC, rfl, hC1, hbC1⟩; have hP4 := ((hP1.drew.below hbA1).below hbB1).below hbC1; obtain ⟨u0, u1, u2, u3, u4, u5, u6⟩ := hP4; have hQ4 := ((hQ1.drew.below hbA1).below hbB1).below hbC1; obtain ⟨v0, v1, v2, v3, v4, v5, v6⟩ := hQ4; have hU4 := ((hbox5.drew.below hbA1).below hbB1).below hbC1; obtain ⟨m0, m1, m2, m3, m4⟩ := hU4) | (go_at_call 117; refine (divisor_any _ _ r s (hg1.drew.below hbA1)).mono ?_; rintro e wB ⟨tB, rfl, hB2, hbB1⟩; have hP3 := (hP1.drew.below hbA1).below hbB1; obtain ⟨s0, s1, s2, s3, s4, s5, s6⟩ := hP3; have hQ3 := (hQ1.drew.below hbA1).below hbB1; obtain ⟨t0, t1, t2, t3, t4, t5, t6⟩ := hQ3; have hU3 := (hbox5.drew.below hbA1).below hbB1; obtain ⟨i0, i1, i2, i3, i4⟩ := hU3) | (go_at_call 117; refine (divisor_any _ _ p q (by exact hf1.drew)).mono ?_; rintro e wA ⟨tA, rfl, hA1, hbA1⟩; have hP6 := hP1.drew.below hbA1; obtain ⟨j0, j1, j2, j3, j4, j5, j6⟩ := hP6; have hQ6 := hQ1.drew.below hbA1; obtain ⟨d0, d1, d2, d3, d4, d5, d6⟩ := hQ6; have hU6 := hbox5.drew.below hbA1; obtain ⟨e0, e1, e2, e3, e4⟩ := hU6))
    have hbA : Below w.heap.size w wA := hB1.trans ((below_drew hbA1).mono hB1.size)
    have hbB : Below w.heap.size w wB := hbA.trans (hbB1.mono hbA.size)
    have hbC : Below w.heap.size w wC := hbB.trans (hbC1.mono hbB.size)
    have hbD : Below w.heap.size w wD := hbC.trans (hbD1.mono hbC.size)
    go_wp2
    exact bodyPost_ret (v := .agg #[.bool b2, .slice a2 l2 k2, .slice a3 l3 k3]) (by simp [results, Tryz.results68, go_sem, c0, c1, c2]) rfl ⟨_, rfl, fracV_boxed hp1 hp2 hp3 hp4 hp5 c0 c1 c2,
      ((hbD.setCell (by simp; omega) _).setCell (by simp; omega) _).setCell (by simp; omega) _⟩
end Go.Proofs.YtcmdglfjnepahaaGreatDoor
