/-
  Part 5 of the texts ahead of Lon1: Fra4, Frb1, Fra5.
-/
import Derived.Test.YtnhfdcfnojnofaaGreatDoorLon1Z4
import Derived.Deep.DeepCutAuto
import Derived.Deep.RegionHeld3
set_option linter.unusedSimpArgs false
set_option linter.unusedVariables false
/-
  What package fraction does: Turned, Floor, Compare.
-/
namespace Go.Proofs.YtnhfdcfnojnofaaGreatDoor
open Go.RowKit

set_option maxRecDepth 100000 in
set_option maxHeartbeats 1000000 in
theorem fturned_any (w : World) (x : Value) (p : Int) (q : Nat) (h : FracV w x p q) :
    Calls Tryz.prog 207 #[x] w fun e w' => ∃ t, e = .returned t ∧ FracV w' t (-p) q ∧ Below w.heap.size w w' := by
  obtain ⟨b, ao, l, cap, ao', l', cap', rfl, hv, hb, hu, hq, hg⟩ := h.parts
  have hx1 : WholeV w (.agg #[.bool b, .slice ao l cap]) p := ⟨b, _, rfl, hv, hb⟩
  have hboxP : Box3 ((w.alloc (.cells #[.bool b, .slice ao l cap, .slice ao' l' cap'] 103)).alloc (.cells #[.bool false, .slice none 0 0, .slice none 0 0] 103)) w.heap.size (.bool b) (.slice ao l cap) (.slice ao' l' cap') := (Box3.new _ _ _ _ _).alloc _
  have hboxR : Box3 ((w.alloc (.cells #[.bool b, .slice ao l cap, .slice ao' l' cap'] 103)).alloc (.cells #[.bool false, .slice none 0 0, .slice none 0 0] 103)) (w.heap.size + 1) (.bool false) (.slice none 0 0) (.slice none 0 0) := Box3.new1 _ _ _ _ _ _
  have hbW := below2 w (.cells #[.bool b, .slice ao l cap, .slice ao' l' cap'] 103) (.cells #[.bool false, .slice none 0 0, .slice none 0 0] 103)
  have hg2 : Hid (Nat.gcd (-p).natAbs q = 1) := by rw [Hid, Int.natAbs_neg]; exact hg.out
  go_enter Tryz.func207, Tryz.ntmps207
  go_wp2
  go_region_held (fun w' => w'.cell? ⟨w.heap.size, 0, none⟩ = some (.bool b) ∧ w'.cell? ⟨w.heap.size, 1, none⟩ = some (.slice ao l cap) ∧ w'.cell? ⟨w.heap.size, 2, none⟩ = some (.slice ao' l' cap')) (first | (refine ⟨?_, ?_, ?_⟩ <;> (rw [far, far, far] <;> first | assumption | omega)) | go_keep) (first | (go_at_call 209; refine (wturned_any _ _ p (by exact WholeV.drewN ((hx1.alloc _).alloc _) 1)).mono ?_; rintro e wA ⟨ov, rfl, ho, hbo⟩; obtain ⟨b2, a2, l2, k2, rfl, hv2, hb2⟩ := ho.parts; have hboxP3 := hboxP.drew.below hbo; obtain ⟨r0, r1, r2, r3, r4, r5, r6⟩ := hboxP3; have hboxR3 := hboxR.drew.below hbo; obtain ⟨c0, c1, c2, f0, f1, f2, g0⟩ := hboxR3; have hu2 := (((hu.alloc _).alloc _).drew).below hbo))
  have hbA : Below w.heap.size w wA := hbW.trans ((below_drew hbo).mono hbW.size)
  go_wp2
  exact bodyPost_ret (v := .agg #[.bool b2, .slice a2 l2 k2, .slice ao' l' cap']) (by simp [results, Tryz.results207, go_sem, c0, c1, c2]) rfl ⟨_, rfl, fracV_boxed hv2 hb2 hu2 hq hg2 c0 c1 c2,
    ((hbA.setCell (by simp) _).setCell (by simp) _).setCell (by simp) _⟩

set_option maxRecDepth 100000 in
set_option maxHeartbeats 1000000 in
theorem floor_any (K : Nat) (hK : K ≤ 1073741822) (hO : OverOK K) (w : World) (x : Value) (p : Int) (q : Nat) (h : FracV w x p q) (hp : p.natAbs < 4294967296 ^ K) (hqk : q < 4294967296 ^ K) :
    Calls Tryz.prog 210 #[x] w fun e w' => ∃ t, e = .returned t ∧ WholeV w' t (p / (q : Int)) ∧ Below w.heap.size w w' := by
  have h0 := h
  obtain ⟨b, ao, l, cap, ao', l', cap', rfl, hv, hb, hu, hq, hg⟩ := h.parts
  have hboxP : Box3 ((w.alloc (.cells #[.bool b, .slice ao l cap, .slice ao' l' cap'] 103)).alloc (.cells #[.bool false, .slice none 0 0] 101)) w.heap.size (.bool b) (.slice ao l cap) (.slice ao' l' cap') := (Box3.new _ _ _ _ _).alloc _
  have hboxR : Box2 ((w.alloc (.cells #[.bool b, .slice ao l cap, .slice ao' l' cap'] 103)).alloc (.cells #[.bool false, .slice none 0 0] 101)) (w.heap.size + 1) (.bool false) (.slice none 0 0) := Box2.new1 _ _ _ _ _
  have hbW := below2 w (.cells #[.bool b, .slice ao l cap, .slice ao' l' cap'] 103) (.cells #[.bool false, .slice none 0 0] 101)
  by_cases h1 : q = 1
  · subst h1
    go_enter Tryz.func210, Tryz.ntmps210
    go_wp2_with fail
    refine (isWhole_yes _ _ p ((h0.alloc _).alloc _)).mono ?_
    rintro e w1 ⟨rfl, hb1⟩
    have hv1 := ((hv.alloc _).alloc _).below hb1
    have hboxP1 := hboxP.below hb1
    have hboxR1 := hboxR.below hb1
    obtain ⟨p0, p1, p2, p3, p4, p5, p6⟩ := hboxP1
    obtain ⟨c0, c1, f0, f1, g0⟩ := hboxR1
    have hbA : Below w.heap.size w w1 := hbW.trans (hb1.mono hbW.size)
    clear hb1 hboxP hboxR
    go_wp2
    exact bodyPost_ret (v := .agg #[.bool b, .slice ao l cap]) (by simp [results, Tryz.results210, go_sem, c0, c1]) rfl ⟨_, rfl, by rw [Int.natCast_one, Int.ediv_one]; exact wholeV_boxed hv1 hb c0 c1,
      (hbA.setCell (by simp) _).setCell (by simp) _⟩
  · rw [(lowN_ne hq h1).1] at hu
    go_enter Tryz.func210, Tryz.ntmps210
    go_wp2_with fail
    refine (isWhole_no _ _ p q ((h0.alloc _).alloc _) h1).mono ?_
    rintro e w1 ⟨rfl, hb1⟩
    have hx1 : WholeV w1 (.agg #[.bool b, .slice ao l cap]) p := ⟨b, _, rfl, ((hv.alloc _).alloc _).below hb1, hb⟩
    have hu1 := ((hu.alloc _).alloc _).below hb1
    have hboxP1 := hboxP.below hb1
    have hboxR1 := hboxR.below hb1
    obtain ⟨p0, p1, p2, p3, p4, p5, p6⟩ := hboxP1
    have hbA : Below w.heap.size w w1 := hbW.trans (hb1.mono hbW.size)
    clear hb1 hboxP hboxR
    go_wp2_with fail
    refine (floorOver_any K hK hO _ _ _ p q hx1 hu1 (by omega) hp hqk).mono ?_
    rintro e w2 ⟨s, rfl, hs, hbs⟩
    obtain ⟨b2, a2, l2, k2, rfl, hv2, hb2⟩ := hs.parts
    have hboxR2 := hboxR1.below hbs
    have hbB : Below w.heap.size w w2 := hbA.trans (hbs.mono hbA.size)
    obtain ⟨c0, c1, f0, f1, g0⟩ := hboxR2
    clear hbs p0 p1 p2 p3 p4 p5 p6 hboxR1
    go_wp2
    exact bodyPost_ret (v := .agg #[.bool b2, .slice a2 l2 k2]) (by simp [results, Tryz.results210, go_sem, c0, c1]) rfl ⟨_, rfl, wholeV_boxed hv2 hb2 c0 c1,
      (hbB.setCell (by simp) _).setCell (by simp) _⟩

set_option maxRecDepth 100000 in
set_option maxHeartbeats 1000000 in
theorem fcompare_any (w : World) (x y : Value) (p r : Int) (q s K : Nat) (hK : K + K ≤ 1073741823) (h : FracV w x p q) (k : FracV w y r s) (hp : p.natAbs < 4294967296 ^ K) (hr : r.natAbs < 4294967296 ^ K) (hq : q < 4294967296 ^ K) (hs : s < 4294967296 ^ K) :
    Calls Tryz.prog 211 #[x, y] w fun e w' => ∃ c : Int, e = .returned (.int .i64 c) ∧ (c < 0 ↔ p * (s : Int) < r * (q : Int)) ∧ (c = 0 ↔ p * (s : Int) = r * (q : Int)) ∧ -2 ≤ c ∧ c ≤ 2 ∧ Below w.heap.size w w' := by
  have h0 := h
  have k0 := k
  obtain ⟨b, ao, l, cap, ao', l', cap', rfl, hv, hb, hu, hq0, hg⟩ := h.parts
  obtain ⟨c, bo, m, dap, bo', m', dap', rfl, hv', hb', hu', hq', hg'⟩ := k.parts
  have hboxP : Box3 ((w.alloc (.cells #[.bool b, .slice ao l cap, .slice ao' l' cap'] 103)).alloc (.cells #[.bool c, .slice bo m dap, .slice bo' m' dap'] 103)) w.heap.size (.bool b) (.slice ao l cap) (.slice ao' l' cap') := (Box3.new _ _ _ _ _).alloc _
  have hboxQ : Box3 ((w.alloc (.cells #[.bool b, .slice ao l cap, .slice ao' l' cap'] 103)).alloc (.cells #[.bool c, .slice bo m dap, .slice bo' m' dap'] 103)) (w.heap.size + 1) (.bool c) (.slice bo m dap) (.slice bo' m' dap') := Box3.new1 _ _ _ _ _ _
  have hbW := below2 w (.cells #[.bool b, .slice ao l cap, .slice ao' l' cap'] 103) (.cells #[.bool c, .slice bo m dap, .slice bo' m' dap'] 103)
  have hk1 : (p * (s : Int)).natAbs < 4294967296 ^ (K + K) := by
    rw [Int.natAbs_mul, Int.natAbs_natCast, Nat.pow_add]
    exact Nat.mul_lt_mul'' hp hs
  have hk2 : (r * (q : Int)).natAbs < 4294967296 ^ (K + K) := by
    rw [Int.natAbs_mul, Int.natAbs_natCast, Nat.pow_add]
    exact Nat.mul_lt_mul'' hr hq
  go_enter Tryz.func211, Tryz.ntmps211
  go_wp2
  go_region_held (fun w' => w'.cell? ⟨w.heap.size, 0, none⟩ = some (.bool b) ∧ w'.cell? ⟨w.heap.size, 1, none⟩ = some (.slice ao l cap) ∧ w'.cell? ⟨w.heap.size, 2, none⟩ = some (.slice ao' l' cap') ∧ w'.cell? ⟨w.heap.size + 1, 0, none⟩ = some (.bool c) ∧ w'.cell? ⟨w.heap.size + 1, 1, none⟩ = some (.slice bo m dap) ∧ w'.cell? ⟨w.heap.size + 1, 2, none⟩ = some (.slice bo' m' dap')) (go_keep) (first | (go_at_call 151; refine (wcompare_any _ _ _ (p * (s : Int)) (r * (q : Int)) (K + K) hK (hA1.below hbB1) hB1 hk1 hk2).mono ?_; rintro e wC ⟨cc, rfl, hc1, hc2, hc3, hc4, hbC1⟩; have hP4 := ((hboxP.drew.below hbA1).below hbB1).below hbC1; obtain ⟨u0, u1, u2, u3, u4, u5, u6⟩ := hP4; have hQ4 := ((hboxQ.drew.below hbA1).below hbB1).below hbC1; obtain ⟨v0, v1, v2, v3, v4, v5, v6⟩ := hQ4) | (go_at_call 202; refine (across_any _ _ _ r p s q K K hK (((k0.alloc _).alloc _).drew.below hbA1) (((h0.alloc _).alloc _).drew.below hbA1) hr hq).mono ?_; rintro e wB ⟨tB, rfl, hB1, hbB1⟩; have hP3 := (hboxP.drew.below hbA1).below hbB1; obtain ⟨s0, s1, s2, s3, s4, s5, s6⟩ := hP3; have hQ3 := (hboxQ.drew.below hbA1).below hbB1; obtain ⟨t0, t1, t2, t3, t4, t5, t6⟩ := hQ3) | (go_at_call 202; refine (across_any _ _ _ p r q s K K hK (by exact ((h0.alloc _).alloc _).drew) (by exact ((k0.alloc _).alloc _).drew) hp hs).mono ?_; rintro e wA ⟨tA, rfl, hA1, hbA1⟩; have hP2 := hboxP.drew.below hbA1; obtain ⟨o0, o1, o2, o3, o4, o5, o6⟩ := hP2; have hQ2 := hboxQ.drew.below hbA1; obtain ⟨q0, q1, q2, q3, q4, q5, q6⟩ := hQ2))
  have hbA : Below w.heap.size w wA := hbW.trans ((below_drew hbA1).mono hbW.size)
  have hbB : Below w.heap.size w wB := hbA.trans (hbB1.mono hbA.size)
  have hbC : Below w.heap.size w wC := hbB.trans (hbC1.mono hbB.size)
  go_wp2
  go_ret
  exact ⟨_, rfl, hc1, hc2, hc3, hc4, hbC⟩
end Go.Proofs.YtnhfdcfnojnofaaGreatDoor

/-
  Boxes of fractions, and worlds with more blocks.
-/
namespace Go.Proofs.YtnhfdcfnojnofaaGreatDoor
open Go.RowKit

theorem FracV.setCell {w : World} {x : Value} {p : Int} {q : Nat} (h : FracV w x p q) {a : Addr} {y : Value} (hy : w.cell? a = some y) (hn : ∀ k, y ≠ .int .u32 k) (t : Value) : FracV (w.setCell a t) x p q := by
  obtain ⟨b, v, u, h1, h2, h3, h4, h5⟩ := h
  exact ⟨b, v, u, h1, h2.setCell hy hn t, h3, h4.setCell hy hn t, h5⟩

theorem mul_pow_lt {a b K : Nat} (ha : a < 4294967296 ^ K) (hb : b < 4294967296 ^ K) : a * b < 4294967296 ^ (K + K) := by
  rw [Nat.pow_add]; exact Nat.mul_lt_mul'' ha hb

theorem abs_mul_lt {z : Int} {b K : Nat} (ha : z.natAbs < 4294967296 ^ K) (hb : b < 4294967296 ^ K) : (z * (b : Int)).natAbs < 4294967296 ^ (K + K) := by
  rw [Int.natAbs_mul, Int.natAbs_natCast]; exact mul_pow_lt ha hb

/-- What is known of the two boxes and the result's, of the two fractions, and of old memory. -/
def Held (w : World) (b c : Bool) (ao ao' bo bo' : Option Addr) (l cap l' cap' m dap m' dap' : Nat) (p r : Int) (q s : Nat) (wc : World) : Prop :=
  Box3 wc w.heap.size (.bool b) (.slice ao l cap) (.slice ao' l' cap') ∧ Box3 wc (w.heap.size + 1) (.bool c) (.slice bo m dap) (.slice bo' m' dap') ∧ Box3 wc (w.heap.size + 1 + 1) (.bool false) (.slice none 0 0) (.slice none 0 0) ∧ FracV wc (.agg #[.bool b, .slice ao l cap, .slice ao' l' cap']) p q ∧ FracV wc (.agg #[.bool c, .slice bo m dap, .slice bo' m' dap']) r s ∧ Below w.heap.size w wc ∧ w.heap.size + 1 + 1 < wc.heap.size

theorem Held.below {w : World} {b c : Bool} {ao ao' bo bo' : Option Addr} {l cap l' cap' m dap m' dap' : Nat} {p r : Int} {q s : Nat} {u v : World} (h : Held w b c ao ao' bo bo' l cap l' cap' m dap m' dap' p r q s u) (hb : Below u.heap.size u v) : Held w b c ao ao' bo bo' l cap l' cap' m dap m' dap' p r q s v := by
  obtain ⟨h1, h2, h3, h4, h5, h6, h7⟩ := h
  exact ⟨h1.below hb, h2.below hb, h3.below hb, h4.below hb, h5.below hb, h6.trans (hb.mono h6.size), Nat.lt_of_lt_of_le h7 hb.size⟩

theorem Held.drew {w : World} {b c : Bool} {ao ao' bo bo' : Option Addr} {l cap l' cap' m dap m' dap' : Nat} {p r : Int} {q s : Nat} {u : World} (h : Held w b c ao ao' bo bo' l cap l' cap' m dap m' dap' p r q s u) : Held w b c ao ao' bo bo' l cap l' cap' m dap m' dap' p r q s u.drew := by
  obtain ⟨h1, h2, h3, h4, h5, h6, h7⟩ := h
  exact ⟨h1, h2, h3, h4, h5, ⟨h6.os, h6.tape, h6.output, h6.size, h6.block⟩, h7⟩

theorem Held.alloc {w : World} {b c : Bool} {ao ao' bo bo' : Option Addr} {l cap l' cap' m dap m' dap' : Nat} {p r : Int} {q s : Nat} {u : World} (h : Held w b c ao ao' bo bo' l cap l' cap' m dap m' dap' p r q s u) (o : Obj) : Held w b c ao ao' bo bo' l cap l' cap' m dap m' dap' p r q s (u.alloc o) :=
  h.below ((Below.refl _ _).alloc (Nat.le_refl _) o)

theorem Held.setCell {w : World} {b c : Bool} {ao ao' bo bo' : Option Addr} {l cap l' cap' m dap m' dap' : Nat} {p r : Int} {q s : Nat} {u : World} (h : Held w b c ao ao' bo bo' l cap l' cap' m dap m' dap' p r q s u) {g o : Nat} {y : Value} (hg : w.heap.size + 1 + 1 < g) (hy : u.cell? ⟨g, o, none⟩ = some y) (hn : ∀ k, y ≠ .int .u32 k) (x : Value) :
    Held w b c ao ao' bo bo' l cap l' cap' m dap m' dap' p r q s (u.setCell ⟨g, o, none⟩ x) := by
  obtain ⟨h1, h2, h3, h4, h5, h6, h7⟩ := h
  exact ⟨h1.far (by omega), h2.far (by omega), h3.far (by omega), h4.setCell hy hn x, h5.setCell hy hn x, h6.setCell (by simp; omega) x, by simpa using h7⟩

theorem Box2.stored {w : World} {g : Nat} {b0 b : Bool} {a0 a : Option Addr} {l0 k0 l k : Nat} (h : Box2 w g (.bool b0) (.slice a0 l0 k0)) : Box2 ((w.setCell ⟨g, 0, none⟩ (.bool b)).setCell ⟨g, 1, none⟩ (.slice a l k)) g (.bool b) (.slice a l k) := by
  obtain ⟨d0, d1, d2, d3, d4⟩ := h
  have e1 : (w.setCell ⟨g, 0, none⟩ (.bool b)).cell? ⟨g, 1, none⟩ = some (.slice a0 l0 k0) := by rw [World.cell?_setCell_other _ _ _ _ (by simp)]; exact d1
  refine ⟨?_, World.cell?_setCell_same _ _ _ e1, by simpa using d2, by simpa using d3, by simpa using d4⟩
  rw [World.cell?_setCell_other _ _ _ _ (by simp)]; exact World.cell?_setCell_same _ _ _ d0

theorem WholeV.stored {w : World} {x : Value} {z : Int} (hx : WholeV w x z) {g : Nat} {b0 b : Bool} {a0 a : Option Addr} {l0 k0 l k : Nat} (h : Box2 w g (.bool b0) (.slice a0 l0 k0)) : WholeV ((w.setCell ⟨g, 0, none⟩ (.bool b)).setCell ⟨g, 1, none⟩ (.slice a l k)) x z := by
  obtain ⟨d0, d1, d2, d3, d4⟩ := h
  have e1 : (w.setCell ⟨g, 0, none⟩ (.bool b)).cell? ⟨g, 1, none⟩ = some (.slice a0 l0 k0) := by rw [World.cell?_setCell_other _ _ _ _ (by simp)]; exact d1
  exact (hx.setCell d0 (by simp) _).setCell e1 (by simp) _

theorem Held.stored {w : World} {b c : Bool} {ao ao' bo bo' : Option Addr} {l cap l' cap' m dap m' dap' : Nat} {p r : Int} {q s : Nat} {u : World} (hH : Held w b c ao ao' bo bo' l cap l' cap' m dap m' dap' p r q s u) {g : Nat} {b0 b1 : Bool} {a0 a1 : Option Addr} {l0 k0 l1 k1 : Nat} (h : Box2 u g (.bool b0) (.slice a0 l0 k0)) (hg : w.heap.size + 1 + 1 < g) :
    Held w b c ao ao' bo bo' l cap l' cap' m dap m' dap' p r q s ((u.setCell ⟨g, 0, none⟩ (.bool b1)).setCell ⟨g, 1, none⟩ (.slice a1 l1 k1)) := by
  obtain ⟨d0, d1, d2, d3, d4⟩ := h
  have e1 : (u.setCell ⟨g, 0, none⟩ (.bool b1)).cell? ⟨g, 1, none⟩ = some (.slice a0 l0 k0) := by rw [World.cell?_setCell_other _ _ _ _ (by simp)]; exact d1
  exact (hH.setCell hg d0 (by simp) _).setCell hg e1 (by simp) _

theorem Box2.new3 (w : World) (A B C : Obj) (x y : Value) (t : TypeId) : Box2 ((((w.alloc A).alloc B).alloc C).alloc (.cells #[x, y] t)) (w.heap.size + 1 + 1 + 1) x y := by
  have := Box2.new (((w.alloc A).alloc B).alloc C) x y t; simpa using this


/-- A box that holds a fraction. -/
def FracBox (w : World) (g : Nat) (p : Int) (q : Nat) : Prop :=
  ∃ b a l k a' l' k', Box3 w g (.bool b) (.slice a l k) (.slice a' l' k') ∧ FracV w (.agg #[.bool b, .slice a l k, .slice a' l' k']) p q

/-- Three cells of a box, written. -/
abbrev set3 (w : World) (g : Nat) (x y z : Value) : World := ((w.setCell ⟨g, 0, none⟩ x).setCell ⟨g, 1, none⟩ y).setCell ⟨g, 2, none⟩ z

/-- A box of a fraction, empty. -/
abbrev ZBox (w : World) (g : Nat) : Prop := Box3 w g (.bool false) (.slice none 0 0) (.slice none 0 0)

theorem FracBox.below {w w' : World} {g : Nat} {p : Int} {q : Nat} (h : FracBox w g p q) (hb : Below w.heap.size w w') : FracBox w' g p q := by
  obtain ⟨b, a, l, k, a', l', k', h1, h2⟩ := h
  exact ⟨b, a, l, k, a', l', k', h1.below hb, h2.below hb⟩
theorem FracBox.alloc {w : World} {g : Nat} {p : Int} {q : Nat} (h : FracBox w g p q) (o : Obj) : FracBox (w.alloc o) g p q := h.below ((Below.refl _ _).alloc (Nat.le_refl _) o)

theorem Box3.written {w : World} {g : Nat} {b0 : Bool} {a0 a1 : Option Addr} {l0 k0 l1 k1 : Nat} (h : Box3 w g (.bool b0) (.slice a0 l0 k0) (.slice a1 l1 k1)) (x y z : Value) : Box3 (set3 w g x y z) g x y z := by
  obtain ⟨c0, c1, c2, f0, f1, f2, g0⟩ := h
  have e1 : (w.setCell ⟨g, 0, none⟩ x).cell? ⟨g, 1, none⟩ = some (.slice a0 l0 k0) := by rw [World.cell?_setCell_other _ _ _ _ (by simp)]; exact c1
  have e2 : ((w.setCell ⟨g, 0, none⟩ x).setCell ⟨g, 1, none⟩ y).cell? ⟨g, 2, none⟩ = some (.slice a1 l1 k1) := by
    rw [World.cell?_setCell_other _ _ _ _ (by simp), World.cell?_setCell_other _ _ _ _ (by simp)]; exact c2
  refine ⟨?_, ?_, World.cell?_setCell_same _ _ _ e2, by simpa using f0, by simpa using f1, by simpa using f2, by simpa using g0⟩
  · rw [World.cell?_setCell_other _ _ _ _ (by simp), World.cell?_setCell_other _ _ _ _ (by simp)]; exact World.cell?_setCell_same _ _ _ c0
  · rw [World.cell?_setCell_other _ _ _ _ (by simp)]; exact World.cell?_setCell_same _ _ _ e1

theorem NatV.set3 {w : World} {v : Value} {n : Nat} (h : NatV w v n) {g : Nat} {b0 : Bool} {a0 a1 : Option Addr} {l0 k0 l1 k1 : Nat} (hb : Box3 w g (.bool b0) (.slice a0 l0 k0) (.slice a1 l1 k1)) (x y z : Value) : NatV (Go.Proofs.YtnhfdcfnojnofaaGreatDoor.set3 w g x y z) v n := by
  obtain ⟨c0, c1, c2, f0, f1, f2, g0⟩ := hb
  have e1 : (w.setCell ⟨g, 0, none⟩ x).cell? ⟨g, 1, none⟩ = some (.slice a0 l0 k0) := by rw [World.cell?_setCell_other _ _ _ _ (by simp)]; exact c1
  have e2 : ((w.setCell ⟨g, 0, none⟩ x).setCell ⟨g, 1, none⟩ y).cell? ⟨g, 2, none⟩ = some (.slice a1 l1 k1) := by
    rw [World.cell?_setCell_other _ _ _ _ (by simp), World.cell?_setCell_other _ _ _ _ (by simp)]; exact c2
  exact ((h.setCell c0 (by simp) _).setCell e1 (by simp) _).setCell e2 (by simp) _

theorem FracV.set3 {w : World} {v : Value} {p : Int} {q : Nat} (h : FracV w v p q) {g : Nat} {b0 : Bool} {a0 a1 : Option Addr} {l0 k0 l1 k1 : Nat} (hb : Box3 w g (.bool b0) (.slice a0 l0 k0) (.slice a1 l1 k1)) (x y z : Value) : FracV (Go.Proofs.YtnhfdcfnojnofaaGreatDoor.set3 w g x y z) v p q := by
  obtain ⟨b, v, u, h1, h2, h3, h4, h5⟩ := h
  exact ⟨b, v, u, h1, h2.set3 hb x y z, h3, h4.set3 hb x y z, h5⟩

theorem Box3.far3 {w : World} {g h : Nat} {x y z u v t : Value} (b : Box3 w g x y z) (hne : h ≠ g) : Box3 (set3 w h u v t) g x y z := ((b.far hne).far hne).far hne

theorem below_set3 {B : Nat} {w w' : World} (h : Below B w w') {g : Nat} (hg : B ≤ g) (x y z : Value) : Below B w (set3 w' g x y z) :=
  ((h.setCell (p := ⟨g, 0, none⟩) hg x).setCell (p := ⟨g, 1, none⟩) hg y).setCell (p := ⟨g, 2, none⟩) hg z

theorem Held.set3 {w : World} {b c : Bool} {ao ao' bo bo' : Option Addr} {l cap l' cap' m dap m' dap' : Nat} {p r : Int} {q s : Nat} {u : World} (h : Held w b c ao ao' bo bo' l cap l' cap' m dap m' dap' p r q s u) {g : Nat} {b0 : Bool} {a0 a1 : Option Addr} {l0 k0 l1 k1 : Nat} (hb : Box3 u g (.bool b0) (.slice a0 l0 k0) (.slice a1 l1 k1)) (hg : w.heap.size + 1 + 1 < g) (x y z : Value) :
    Held w b c ao ao' bo bo' l cap l' cap' m dap m' dap' p r q s (Go.Proofs.YtnhfdcfnojnofaaGreatDoor.set3 u g x y z) := by
  obtain ⟨h1, h2, h3, h4, h5, h6, h7⟩ := h
  exact ⟨h1.far3 (by omega), h2.far3 (by omega), h3.far3 (by omega), h4.set3 hb x y z, h5.set3 hb x y z, below_set3 h6 (by omega) x y z, by simpa using h7⟩

theorem cell_alloc_old {w : World} {o : Obj} {p : Addr} {v : Value} (h : w.cell? p = some v) : (w.alloc o).cell? p = some v :=
  (((Below.refl _ w).alloc (Nat.le_refl _) o).cell (block_lt_of_cell h)).trans h

theorem ZBox.new1a (w : World) (A : Obj) (t : TypeId) : ZBox ((w.alloc A).alloc (.cells #[.bool false, .slice none 0 0, .slice none 0 0] t)) (w.heap.size + 1) := Box3.new1 w A _ _ _ t

/-- What is known of the boxes of the two that are multiplied, and of the result's. -/
def Held2 (w : World) (g5 g6 : Nat) (b5 b6 : Bool) (a5 a5' a6 a6' : Option Addr) (l5 k5 l5' k5' l6 k6 l6' k6' : Nat) (p r : Int) (q s : Nat) (wc : World) : Prop :=
  Box3 wc g5 (.bool b5) (.slice a5 l5 k5) (.slice a5' l5' k5') ∧ Box3 wc g6 (.bool b6) (.slice a6 l6 k6) (.slice a6' l6' k6') ∧ ZBox wc (w.heap.size + 1 + 1) ∧ FracV wc (.agg #[.bool b5, .slice a5 l5 k5, .slice a5' l5' k5']) p q ∧ FracV wc (.agg #[.bool b6, .slice a6 l6 k6, .slice a6' l6' k6']) r s ∧ Below w.heap.size w wc

theorem Held2.below {w : World} {g5 g6 : Nat} {b5 b6 : Bool} {a5 a5' a6 a6' : Option Addr} {l5 k5 l5' k5' l6 k6 l6' k6' : Nat} {p r : Int} {q s : Nat} {u v : World} (h : Held2 w g5 g6 b5 b6 a5 a5' a6 a6' l5 k5 l5' k5' l6 k6 l6' k6' p r q s u) (hb : Below u.heap.size u v) : Held2 w g5 g6 b5 b6 a5 a5' a6 a6' l5 k5 l5' k5' l6 k6 l6' k6' p r q s v := by
  obtain ⟨h1, h2, h3, h4, h5, h6⟩ := h
  exact ⟨h1.below hb, h2.below hb, h3.below hb, h4.below hb, h5.below hb, h6.trans (hb.mono h6.size)⟩
theorem Held2.drew {w : World} {g5 g6 : Nat} {b5 b6 : Bool} {a5 a5' a6 a6' : Option Addr} {l5 k5 l5' k5' l6 k6 l6' k6' : Nat} {p r : Int} {q s : Nat} {u : World} (h : Held2 w g5 g6 b5 b6 a5 a5' a6 a6' l5 k5 l5' k5' l6 k6 l6' k6' p r q s u) : Held2 w g5 g6 b5 b6 a5 a5' a6 a6' l5 k5 l5' k5' l6 k6 l6' k6' p r q s u.drew := by
  obtain ⟨h1, h2, h3, h4, h5, h6⟩ := h
  exact ⟨h1, h2, h3, h4, h5, ⟨h6.os, h6.tape, h6.output, h6.size, h6.block⟩⟩
theorem FracV.whole' {w : World} {b : Bool} {v u : Value} {p : Int} {q : Nat} (h : FracV w (.agg #[.bool b, v, u]) p q) : WholeV w (.agg #[.bool b, v]) p := by
  obtain ⟨b', v', u', h1, h2, h3, _⟩ := h
  simp only [Value.agg.injEq, Array.mk.injEq, List.cons.injEq, Value.bool.injEq, and_true] at h1
  obtain ⟨rfl, rfl, rfl⟩ := h1
  exact ⟨_, _, rfl, h2, h3⟩

/-- w' is w with more blocks. -/
def Ext (w w' : World) : Prop := Below w.heap.size w w'
theorem Ext.refl (w : World) : Ext w w := Below.refl _ _
theorem Ext.alloc {w w' : World} (h : Ext w w') (o : Obj) : Ext w (w'.alloc o) := Below.alloc h h.size o
theorem Ext.drew {w w' : World} (h : Ext w w') : Ext w w'.drew := ⟨h.os, h.tape, h.output, h.size, h.block⟩
theorem Ext.trans {u v w : World} (h : Ext u v) (k : Ext v w) : Ext u w := Below.trans h (k.mono h.size)
theorem Ext.of {u v : World} (h : Below u.heap.size u v) : Ext u v := h
theorem Ext.size {w w' : World} (h : Ext w w') : w.heap.size ≤ w'.heap.size := Below.size h
/-- Two cells of a box, written. -/
abbrev set2 (w : World) (g : Nat) (x y : Value) : World := (w.setCell ⟨g, 0, none⟩ x).setCell ⟨g, 1, none⟩ y
theorem Ext.set2 {w w' : World} (h : Ext w w') {g : Nat} (hg : w.heap.size ≤ g) (x y : Value) : Ext w (Go.Proofs.YtnhfdcfnojnofaaGreatDoor.set2 w' g x y) :=
  (Below.setCell (p := ⟨g, 0, none⟩) h hg x).setCell (p := ⟨g, 1, none⟩) hg y
theorem Ext.set3 {w w' : World} (h : Ext w w') {g : Nat} (hg : w.heap.size ≤ g) (x y z : Value) : Ext w (Go.Proofs.YtnhfdcfnojnofaaGreatDoor.set3 w' g x y z) := below_set3 h hg x y z

/-- A cell that was there holds what it held. -/
theorem Ext.cell {w w' : World} (h : Ext w w') {p : Addr} {v : Value} (hv : w.cell? p = some v) : w'.cell? p = some v :=
  (Below.cell h (block_lt_of_cell hv)).trans hv

abbrev Z3 : Obj := .cells #[.bool false, .slice none 0 0, .slice none 0 0] 103
theorem ZBox.one (w : World) : ZBox (w.alloc Z3) w.heap.size := Box3.new w _ _ _ _
theorem ZBox.one' (w : World) (o : Obj) : ZBox ((w.alloc Z3).alloc o) w.heap.size := Box3.alloc (Box3.new w _ _ _ _) o
theorem ZBox.two (w : World) (o : Obj) : ZBox ((w.alloc o).alloc Z3) (w.heap.size + 1) := Box3.new1 w o _ _ _ _
theorem ZBox.oneD (w : World) : ZBox (w.alloc Z3).drew w.heap.size := ZBox.one w
theorem ZBox.oneD' (w : World) (o : Obj) : ZBox ((w.alloc Z3).alloc o).drew w.heap.size := ZBox.one' w o
theorem ZBox.twoD (w : World) (o : Obj) : ZBox ((w.alloc o).alloc Z3).drew (w.heap.size + 1) := ZBox.two w o
abbrev ZBox2 (w : World) (g : Nat) : Prop := Box2 w g (.bool false) (.slice none 0 0)
theorem ZBox2.one (w : World) : ZBox2 (w.alloc (.cells #[.bool false, .slice none 0 0] 101)) w.heap.size := Box2.new w _ _ _
theorem ZBox2.oneD (w : World) : ZBox2 (w.alloc (.cells #[.bool false, .slice none 0 0] 101)).drew w.heap.size := Box2.new w _ _ _
theorem ZBox2.ext {u v : World} {g : Nat} (hb : Ext u v) (h : ZBox2 u g) : ZBox2 v g := Box2.below h hb
theorem ZBox.ext {u v : World} {g : Nat} (hb : Ext u v) (h : ZBox u g) : ZBox v g := Box3.below h hb
theorem Box3.ext {u v : World} {g : Nat} {x y z : Value} (h : Box3 u g x y z) (hb : Ext u v) : Box3 v g x y z := Box3.below h hb
theorem NatV.ext {u v : World} {x : Value} {n : Nat} (h : NatV u x n) (hb : Ext u v) : NatV v x n := h.below hb
theorem WholeV.ext {u v : World} {x : Value} {n : Int} (h : WholeV u x n) (hb : Ext u v) : WholeV v x n := h.below hb
theorem FracV.ext {u v : World} {x : Value} {p : Int} {q : Nat} (h : FracV u x p q) (hb : Ext u v) : FracV v x p q := h.below hb
theorem Held.ext {w : World} {b c : Bool} {ao ao' bo bo' : Option Addr} {l cap l' cap' m dap m' dap' : Nat} {p r : Int} {q s : Nat} {u v : World} (h : Held w b c ao ao' bo bo' l cap l' cap' m dap m' dap' p r q s u) (hb : Ext u v) : Held w b c ao ao' bo bo' l cap l' cap' m dap m' dap' p r q s v := h.below hb

/-- Two boxes that hold fractions, and the result's, behind a statement. -/
def Cut2 (w : World) (p r : Int) (q s : Nat) (s5 s6 : Value) (wc : World) : Prop :=
  ∃ g5 g6 : Nat, s5 = .pointer (some ⟨g5, 0, none⟩) ∧ s6 = .pointer (some ⟨g6, 0, none⟩) ∧ FracBox wc g5 p q ∧ FracBox wc g6 r s ∧ ZBox wc (w.heap.size + 1 + 1) ∧ Below w.heap.size w wc ∧ w.heap.size + 1 + 1 < g5 ∧ w.heap.size + 1 + 1 < g6

theorem cut2_old {w u : World} {p r : Int} {q s : Nat} {g5 g6 : Nat} {b5 b6 : Bool} {a5 a5' a6 a6' : Option Addr} {l5 k5 l5' k5' l6 k6 l6' k6' : Nat} (h5 : FracV u (.agg #[.bool b5, .slice a5 l5 k5, .slice a5' l5' k5']) p q) (h6 : FracV u (.agg #[.bool b6, .slice a6 l6 k6, .slice a6' l6' k6']) r s) (hz : ZBox u (w.heap.size + 1 + 1)) (hb : Below w.heap.size w u)
    (z5 : ZBox u g5) (z6 : ZBox u g6) (hne : g5 ≠ g6) (m5 : w.heap.size + 1 + 1 < g5) (m6 : w.heap.size + 1 + 1 < g6) :
    Cut2 w p r q s (.pointer (some ⟨g5, 0, none⟩)) (.pointer (some ⟨g6, 0, none⟩)) (set3 (set3 u g5 (.bool b5) (.slice a5 l5 k5) (.slice a5' l5' k5')) g6 (.bool b6) (.slice a6 l6 k6) (.slice a6' l6' k6')) := by
  have z6' := z6.far3 (u := .bool b5) (v := .slice a5 l5 k5) (t := .slice a5' l5' k5') hne
  refine ⟨g5, g6, rfl, rfl, ⟨b5, a5, l5, k5, a5', l5', k5', (z5.written _ _ _).far3 (fun e => hne e.symm), (h5.set3 z5 _ _ _).set3 z6' _ _ _⟩, ⟨b6, a6, l6, k6, a6', l6', k6', z6'.written _ _ _, (h6.set3 z5 _ _ _).set3 z6' _ _ _⟩, (hz.far3 (by omega)).far3 (by omega), below_set3 (below_set3 hb (by omega) _ _ _) (by omega) _ _ _, m5, m6⟩

theorem cut2_new6 {w u : World} {p r : Int} {q s : Nat} {g5 : Nat} {b5 b6 : Bool} {a5 a5' a6 a6' : Option Addr} {l5 k5 l5' k5' l6 k6 l6' k6' : Nat} {t : TypeId} (h5 : FracV u (.agg #[.bool b5, .slice a5 l5 k5, .slice a5' l5' k5']) p q) (h6 : FracV u (.agg #[.bool b6, .slice a6 l6 k6, .slice a6' l6' k6']) r s) (hz : ZBox u (w.heap.size + 1 + 1)) (hb : Below w.heap.size w u)
    (z5 : ZBox u g5) (m5 : w.heap.size + 1 + 1 < g5) :
    Cut2 w p r q s (.pointer (some ⟨g5, 0, none⟩)) (.pointer (some ⟨u.heap.size, 0, none⟩)) ((set3 u g5 (.bool b5) (.slice a5 l5 k5) (.slice a5' l5' k5')).alloc (.cells #[.bool b6, .slice a6 l6 k6, .slice a6' l6' k6'] t)) := by
  have hb2 := below_set3 hb (show w.heap.size ≤ g5 by omega) (.bool b5) (.slice a5 l5 k5) (.slice a5' l5' k5')
  have hn := Box3.new (set3 u g5 (.bool b5) (.slice a5 l5 k5) (.slice a5' l5' k5')) (.bool b6) (.slice a6 l6 k6) (.slice a6' l6' k6') t
  have e : (set3 u g5 (.bool b5) (.slice a5 l5 k5) (.slice a5' l5' k5')).heap.size = u.heap.size := by simp
  rw [e] at hn
  exact ⟨g5, u.heap.size, rfl, rfl, ⟨b5, a5, l5, k5, a5', l5', k5', (z5.written _ _ _).alloc _, (h5.set3 z5 _ _ _).alloc _⟩, ⟨b6, a6, l6, k6, a6', l6', k6', hn, (h6.set3 z5 _ _ _).alloc _⟩, (hz.far3 (by omega)).alloc _, hb2.alloc hb2.size _, m5, hz.2.2.2.2.2.2⟩

theorem cut2_new5 {w u : World} {p r : Int} {q s : Nat} {g6 : Nat} {b5 b6 : Bool} {a5 a5' a6 a6' : Option Addr} {l5 k5 l5' k5' l6 k6 l6' k6' : Nat} {t : TypeId} (h5 : FracV u (.agg #[.bool b5, .slice a5 l5 k5, .slice a5' l5' k5']) p q) (h6 : FracV u (.agg #[.bool b6, .slice a6 l6 k6, .slice a6' l6' k6']) r s) (hz : ZBox u (w.heap.size + 1 + 1)) (hb : Below w.heap.size w u)
    (z6 : ZBox u g6) (m6 : w.heap.size + 1 + 1 < g6) :
    Cut2 w p r q s (.pointer (some ⟨u.heap.size, 0, none⟩)) (.pointer (some ⟨g6, 0, none⟩)) ((set3 u g6 (.bool b6) (.slice a6 l6 k6) (.slice a6' l6' k6')).alloc (.cells #[.bool b5, .slice a5 l5 k5, .slice a5' l5' k5'] t)) := by
  obtain ⟨g, g', e1, e2, h1, h2, h3, h4, h5', h6'⟩ := cut2_new6 (w := w) (t := t) h6 h5 hz hb z6 m6
  exact ⟨g', g, e2, e1, h2, h1, h3, h4, h6', h5'⟩

theorem cut2_both {w u : World} {p r : Int} {q s : Nat} {b5 b6 : Bool} {a5 a5' a6 a6' : Option Addr} {l5 k5 l5' k5' l6 k6 l6' k6' : Nat} {t : TypeId} (h5 : FracV u (.agg #[.bool b5, .slice a5 l5 k5, .slice a5' l5' k5']) p q) (h6 : FracV u (.agg #[.bool b6, .slice a6 l6 k6, .slice a6' l6' k6']) r s) (hz : ZBox u (w.heap.size + 1 + 1)) (hb : Below w.heap.size w u) :
    Cut2 w p r q s (.pointer (some ⟨u.heap.size, 0, none⟩)) (.pointer (some ⟨u.heap.size + 1, 0, none⟩)) ((u.alloc (.cells #[.bool b5, .slice a5 l5 k5, .slice a5' l5' k5'] t)).alloc (.cells #[.bool b6, .slice a6 l6 k6, .slice a6' l6' k6'] t)) :=
  ⟨u.heap.size, u.heap.size + 1, rfl, rfl, ⟨b5, a5, l5, k5, a5', l5', k5', (Box3.new _ _ _ _ _).alloc _, (h5.alloc _).alloc _⟩, ⟨b6, a6, l6, k6, a6', l6', k6', Box3.new1 _ _ _ _ _ _, (h6.alloc _).alloc _⟩, (hz.alloc _).alloc _, (hb.alloc hb.size _).alloc (Nat.le_trans hb.size (by simp)) _, hz.2.2.2.2.2.2, Nat.lt_succ_of_lt hz.2.2.2.2.2.2⟩

theorem cut2_both' {w u : World} {p r : Int} {q s : Nat} {b5 b6 : Bool} {a5 a5' a6 a6' : Option Addr} {l5 k5 l5' k5' l6 k6 l6' k6' : Nat} {t : TypeId} (h5 : FracV u (.agg #[.bool b5, .slice a5 l5 k5, .slice a5' l5' k5']) p q) (h6 : FracV u (.agg #[.bool b6, .slice a6 l6 k6, .slice a6' l6' k6']) r s) (hz : ZBox u (w.heap.size + 1 + 1)) (hb : Below w.heap.size w u) :
    Cut2 w p r q s (.pointer (some ⟨u.heap.size + 1, 0, none⟩)) (.pointer (some ⟨u.heap.size, 0, none⟩)) ((u.alloc (.cells #[.bool b6, .slice a6 l6 k6, .slice a6' l6' k6'] t)).alloc (.cells #[.bool b5, .slice a5 l5 k5, .slice a5' l5' k5'] t)) := by
  obtain ⟨g, g', e1, e2, h1, h2, h3, h4, h5', h6'⟩ := cut2_both (w := w) (t := t) h6 h5 hz hb
  exact ⟨g', g, e2, e1, h2, h1, h3, h4, h6', h5'⟩

end Go.Proofs.YtnhfdcfnojnofaaGreatDoor

/-
  What package fraction does: Times.
-/
namespace Go.Proofs.YtnhfdcfnojnofaaGreatDoor
open Go.RowKit

set_option maxRecDepth 100000 in
set_option maxHeartbeats 40000000 in
theorem ftimes_any (K : Nat) (hK : K + K ≤ 1073741822) (hO : OverOK (K + K)) (w : World) (x y : Value) (p r : Int) (q s : Nat) (h : FracV w x p q) (k : FracV w y r s) (hp : p.natAbs < 4294967296 ^ K) (hr : r.natAbs < 4294967296 ^ K) (hq : q < 4294967296 ^ K) (hs : s < 4294967296 ^ K) :
    Calls Tryz.prog 122 #[x, y] w fun e w' => ∃ t, e = .returned t ∧ FracV w' t ((p * r) / (Nat.gcd (p * r).natAbs (q * s) : Int)) ((q * s) / Nat.gcd (p * r).natAbs (q * s)) ∧ Below w.heap.size w w' := by
  obtain ⟨b, ao, l, cap, ao', l', cap', rfl, hv, hb, hu, hq0, hg⟩ := h.parts
  obtain ⟨c, bo, m, dap, bo', m', dap', rfl, hv', hb', hu', hq', hg'⟩ := k.parts
  have hH : Held w b c ao ao' bo bo' l cap l' cap' m dap m' dap' p r q s (((w.alloc (.cells #[.bool b, .slice ao l cap, .slice ao' l' cap'] 103)).alloc (.cells #[.bool c, .slice bo m dap, .slice bo' m' dap'] 103)).alloc (.cells #[.bool false, .slice none 0 0, .slice none 0 0] 103)) :=
    ⟨((Box3.new _ _ _ _ _).alloc _).alloc _, (Box3.new1 _ _ _ _ _ _).alloc _, Box3.new2 _ _ _ _ _ _ _, ((h.alloc _).alloc _).alloc _, ((k.alloc _).alloc _).alloc _, below3 w _ _ _, by simp⟩
  clear hv hb hu hv' hb' hu' h k
  obtain ⟨d1, hd1⟩ : ∃ d1, d1 = Nat.gcd p.natAbs s := ⟨_, rfl⟩
  obtain ⟨d2, hd2⟩ : ∃ d2, d2 = Nat.gcd r.natAbs q := ⟨_, rfl⟩
  have HL := hide (times_low hg.out hg'.out hq0 hq' hd1 hd2)
  have HD1 := hide hd1
  have HD2 := hide hd2
  have hKK : 4294967296 ^ K ≤ 4294967296 ^ (K + K) := Nat.pow_le_pow_right (by omega) (by omega)
  have hpp := Nat.lt_of_lt_of_le hp hKK
  have hrr := Nat.lt_of_lt_of_le hr hKK
  have hqq := Nat.lt_of_lt_of_le hq hKK
  have hss := Nat.lt_of_lt_of_le hs hKK
  obtain ⟨w1, hs1, wx⟩ := gcd_low (z := p) (n := s) (by omega)
  obtain ⟨w2, hq1, wy⟩ := gcd_low (z := r) (n := q) (by omega)
  rw [← hd1] at w1 hs1
  rw [← hd2] at w2 hq1
  have hN0 := Nat.mul_pos hq0 hq'
  have hsk : s / d1 < 4294967296 ^ K := Nat.lt_of_le_of_lt (Nat.div_le_self _ _) hs
  have hqk : q / d2 < 4294967296 ^ K := Nat.lt_of_le_of_lt (Nat.div_le_self _ _) hq
  have hp1 : (p / (d1 : Int)).natAbs < 4294967296 ^ K := by
    refine Nat.lt_of_le_of_lt ?_ hp
    by_cases hp0 : p = 0
    · subst hp0; simp
    · rw [hd1]; exact Nat.le_of_dvd (by omega) zdiv_abs_dvd
  have hr1 : (r / (d2 : Int)).natAbs < 4294967296 ^ K := by
    refine Nat.lt_of_le_of_lt ?_ hr
    by_cases hr0 : r = 0
    · subst hr0; simp
    · rw [hd2]; exact Nat.le_of_dvd (by omega) zdiv_abs_dvd
  clear hd1 hd2 hg hg' hKK w1 w2 wx wy
  go_enter Tryz.func122, Tryz.ntmps122
  go_wp2
  generalize (((w.alloc (.cells #[.bool b, .slice ao l cap, .slice ao' l' cap'] 103)).alloc (.cells #[.bool c, .slice bo m dap, .slice bo' m' dap'] 103)).alloc (.cells #[.bool false, .slice none 0 0, .slice none 0 0] 103)) = w0 at hH ⊢
  have i0 := hH.1
  obtain ⟨i00, i01, i02, i03, i04, i05, i06⟩ := i0
  have j0 := hH.2.1
  obtain ⟨j00, j01, j02, j03, j04, j05, j06⟩ := j0
  have hs0 := hH.2.2.2.2.2.2
  have l0 : w0.heap.size ≤ w0.heap.size := Nat.le_refl _
  have r0 : w0.heap.size ≤ w0.heap.size + 1 := Nat.le_succ _
  go_cut [5, 6] (fun s5 s6 wc => Cut2 w (p / (d1 : Int)) (r / (d2 : Int)) (s / d1) (q / d2) s5 s6 wc)
  case first =>
    rename_i hrest J1 K1 hJ1 hK1
    clear hrest
    go_region_held3 (fun w' => w'.cell? ⟨w.heap.size, 0, none⟩ = some (.bool b) ∧ w'.cell? ⟨w.heap.size, 1, none⟩ = some (.slice ao l cap) ∧ w'.cell? ⟨w.heap.size, 2, none⟩ = some (.slice ao' l' cap') ∧ w'.cell? ⟨w.heap.size + 1, 0, none⟩ = some (.bool c) ∧ w'.cell? ⟨w.heap.size + 1, 1, none⟩ = some (.slice bo m dap) ∧ w'.cell? ⟨w.heap.size + 1, 2, none⟩ = some (.slice bo' m' dap')) (first | (refine ⟨?_, ?_, ?_, ?_, ?_, ?_⟩ <;> first | (rw [far, far, far] <;> first | with_reducible assumption | omega) | exact Ext.cell (w := w0) (by repeat (first | with_reducible exact Ext.refl _ | with_reducible assumption | with_reducible refine Ext.drew ?_ | with_reducible refine Ext.alloc ?_ _ | with_reducible refine Ext.set3 ?_ (by first | with_reducible assumption | omega) _ _ _)) (by with_reducible assumption)) | go_keep) (first | (go_at_call 78; have _g := hC1; refine (reduced_any (K + K) hK hO _ _ _ r q (hH.ext (by repeat (first | with_reducible exact Ext.refl _ | with_reducible assumption | with_reducible refine Ext.drew ?_ | with_reducible refine Ext.alloc ?_ _))).2.2.2.2.1.whole' (hC1.ext (by repeat (first | with_reducible exact Ext.refl _ | with_reducible assumption | with_reducible refine Ext.drew ?_ | with_reducible refine Ext.alloc ?_ _))) (by omega) hrr hqq).mono ?_; rintro e wD ⟨tD, rfl, hD1, hbD1⟩; have eD : Ext wC wD := Ext.trans (by repeat (first | with_reducible exact Ext.refl _ | with_reducible assumption | with_reducible refine Ext.drew ?_ | with_reducible refine Ext.alloc ?_ _)) (Ext.of hbD1); have nD := hbD1.size; (try simp only [World.size_alloc, World.size_drew] at nD); have mD := eD.size;  have zD : Ext w0 wD := Ext.trans zC eD; have lD : w0.heap.size ≤ wD.heap.size := zD.size; have rD : w0.heap.size ≤ wD.heap.size + 1 := Nat.le_succ_of_le lD;  rw [← HD2.out] at hD1; have hB3 := hB1.ext (eC.trans eD); obtain ⟨b5, a5, l5, k5, a5', l5', k5', rfl, _, _, _, _, _⟩ := hB3.parts; obtain ⟨b6, a6, l6, k6, a6', l6', k6', rfl, _, _, _, _, _⟩ := hD1.parts; (try (have o00 : ZBox wD w0.heap.size := (by refine ZBox.ext ((Ext.of hbA1).trans (eB.trans (eC.trans eD))) ?_; first | with_reducible exact ZBox.oneD _ | with_reducible exact ZBox.oneD' _ _); have q00 := o00; obtain ⟨q000, q001, q002, q003, q004, q005, q006⟩ := q00)); (try (have o01 : ZBox wD (w0.heap.size + 1) := (by refine ZBox.ext ((Ext.of hbA1).trans (eB.trans (eC.trans eD))) ?_; first | with_reducible exact ZBox.twoD _ _); have q01 := o01; obtain ⟨q010, q011, q012, q013, q014, q015, q016⟩ := q01)); (try (have oA0 : ZBox wD wA.heap.size := (by refine ZBox.ext ((Ext.of hbB1).trans (eC.trans eD)) ?_; first | with_reducible exact ZBox.one _ | with_reducible exact ZBox.one' _ _); have qA0 := oA0; obtain ⟨qA00, qA01, qA02, qA03, qA04, qA05, qA06⟩ := qA0)); (try (have oA1 : ZBox wD (wA.heap.size + 1) := (by refine ZBox.ext ((Ext.of hbB1).trans (eC.trans eD)) ?_; first | with_reducible exact ZBox.two _ _); have qA1 := oA1; obtain ⟨qA10, qA11, qA12, qA13, qA14, qA15, qA16⟩ := qA1)); (try (have oB0 : ZBox wD wB.heap.size := (by refine ZBox.ext ((Ext.of hbC1).trans eD) ?_; first | with_reducible exact ZBox.one _ | with_reducible exact ZBox.one' _ _); have qB0 := oB0; obtain ⟨qB00, qB01, qB02, qB03, qB04, qB05, qB06⟩ := qB0)); (try (have oB1 : ZBox wD (wB.heap.size + 1) := (by refine ZBox.ext ((Ext.of hbC1).trans eD) ?_; first | with_reducible exact ZBox.two _ _); have qB1 := oB1; obtain ⟨qB10, qB11, qB12, qB13, qB14, qB15, qB16⟩ := qB1)); (try (have oC0 : ZBox wD wC.heap.size := (by refine ZBox.ext ((Ext.of hbD1).trans (Ext.refl _)) ?_; first | with_reducible exact ZBox.one _ | with_reducible exact ZBox.one' _ _); have qC0 := oC0; obtain ⟨qC00, qC01, qC02, qC03, qC04, qC05, qC06⟩ := qC0)); (try (have oC1 : ZBox wD (wC.heap.size + 1) := (by refine ZBox.ext ((Ext.of hbD1).trans (Ext.refl _)) ?_; first | with_reducible exact ZBox.two _ _); have qC1 := oC1; obtain ⟨qC10, qC11, qC12, qC13, qC14, qC15, qC16⟩ := qC1));  skip) | (go_at_call 201; have _g := hB1; refine (divisor_any _ _ p q (hH.ext (by repeat (first | with_reducible exact Ext.refl _ | with_reducible assumption | with_reducible refine Ext.drew ?_ | with_reducible refine Ext.alloc ?_ _))).2.2.2.1).mono ?_; rintro e wC ⟨tC, rfl, hC1, hbC1⟩; have eC : Ext wB wC := Ext.trans (by repeat (first | with_reducible exact Ext.refl _ | with_reducible assumption | with_reducible refine Ext.drew ?_ | with_reducible refine Ext.alloc ?_ _)) (Ext.of hbC1); have nC := hbC1.size; (try simp only [World.size_alloc, World.size_drew] at nC); have mC := eC.size;  have zC : Ext w0 wC := Ext.trans zB eC; have lC : w0.heap.size ≤ wC.heap.size := zC.size; have rC : w0.heap.size ≤ wC.heap.size + 1 := Nat.le_succ_of_le lC;  skip) | (go_at_call 78; have _g := hA1; refine (reduced_any (K + K) hK hO _ _ _ p s (hH.ext (by repeat (first | with_reducible exact Ext.refl _ | with_reducible assumption | with_reducible refine Ext.drew ?_ | with_reducible refine Ext.alloc ?_ _))).2.2.2.1.whole' (hA1.ext (by repeat (first | with_reducible exact Ext.refl _ | with_reducible assumption | with_reducible refine Ext.drew ?_ | with_reducible refine Ext.alloc ?_ _))) (by omega) hpp hss).mono ?_; rintro e wB ⟨tB, rfl, hB1, hbB1⟩; have eB : Ext wA wB := Ext.trans (by repeat (first | with_reducible exact Ext.refl _ | with_reducible assumption | with_reducible refine Ext.drew ?_ | with_reducible refine Ext.alloc ?_ _)) (Ext.of hbB1); have nB := hbB1.size; (try simp only [World.size_alloc, World.size_drew] at nB); have mB := eB.size;  have zB : Ext w0 wB := Ext.trans zA eB; have lB : w0.heap.size ≤ wB.heap.size := zB.size; have rB : w0.heap.size ≤ wB.heap.size + 1 := Nat.le_succ_of_le lB;  rw [← HD1.out] at hB1) | (go_at_call 201; refine (divisor_any _ _ r s (hH.ext (by repeat (first | with_reducible exact Ext.refl _ | with_reducible assumption | with_reducible refine Ext.drew ?_ | with_reducible refine Ext.alloc ?_ _))).2.2.2.2.1).mono ?_; rintro e wA ⟨tA, rfl, hA1, hbA1⟩; have eA : Ext w0 wA := Ext.trans (by repeat (first | with_reducible exact Ext.refl _ | with_reducible assumption | with_reducible refine Ext.drew ?_ | with_reducible refine Ext.alloc ?_ _)) (Ext.of hbA1); have nA := hbA1.size; (try simp only [World.size_alloc, World.size_drew] at nA); have mA := eA.size;  have zA := eA; have lA : w0.heap.size ≤ wA.heap.size := zA.size; have rA : w0.heap.size ≤ wA.heap.size + 1 := Nat.le_succ_of_le lA;  skip))
    all_goals go_wp2_with fail
    all_goals go_meet
    all_goals have hzD := (hH.ext zD).2.2.1
    all_goals have hwD := (hH.ext zD).2.2.2.2.2.1
    all_goals first | (with_reducible refine cut2_both hB3 hD1 hzD hwD) | (with_reducible refine cut2_both' hB3 hD1 hzD hwD) | (with_reducible refine cut2_new6 hB3 hD1 hzD hwD ?_ ?_) | (with_reducible refine cut2_new5 hB3 hD1 hzD hwD ?_ ?_) | (with_reducible refine cut2_old hB3 hD1 hzD hwD ?_ ?_ ?_ ?_ ?_)
    all_goals first | with_reducible assumption | omega

  case rest =>
    obtain ⟨g5, g6, rfl, rfl, ⟨b5, a5, l5, k5, a5', l5', k5', x5, y5⟩, ⟨b6, a6, l6, k6, a6', l6', k6', x6, y6⟩, hz, hbW, m5, m6⟩ := hcut
    clear hH i00 i01 i02 i03 i04 i05 i06 j00 j01 j02 j03 j04 j05 j06 hs0 l0 r0
    have t5 := x5
    have t6 := x6
    obtain ⟨t50, t51, t52, t53, t54, t55, t56⟩ := t5
    obtain ⟨t60, t61, t62, t63, t64, t65, t66⟩ := t6
    have hlow := low_unique (Nat.mul_pos hs1 hq1) HL.out.2 HL.out.1 hN0
    have HW := hide hlow
    have HG := hide HL.out.1
    have hn0 := Nat.mul_pos hs1 hq1
    clear hlow HL HD1 HD2
    go_wp2
    go_region_held3 (fun w' => w'.cell? ⟨g5, 0, none⟩ = some (.bool b5) ∧ w'.cell? ⟨g5, 1, none⟩ = some (.slice a5 l5 k5) ∧ w'.cell? ⟨g5, 2, none⟩ = some (.slice a5' l5' k5') ∧ w'.cell? ⟨g6, 0, none⟩ = some (.bool b6) ∧ w'.cell? ⟨g6, 1, none⟩ = some (.slice a6 l6 k6) ∧ w'.cell? ⟨g6, 2, none⟩ = some (.slice a6' l6' k6')) (first | (refine ⟨?_, ?_, ?_, ?_, ?_, ?_⟩ <;> first | (rw [far, far, far] <;> first | with_reducible assumption | omega) | exact Ext.cell (w := wc) (by repeat (first | with_reducible exact Ext.refl _ | with_reducible assumption | with_reducible refine Ext.drew ?_ | with_reducible refine Ext.alloc ?_ _ | with_reducible refine Ext.set3 ?_ (by first | with_reducible assumption | omega) _ _ _)) (by with_reducible assumption)) | go_keep) (first | (go_at_call 139; have _g := hD1; refine (flowest_any _ _ _ (p / (d1 : Int) * (r / (d2 : Int))) (s / d1 * (q / d2)) (hA1.ext (by repeat (first | with_reducible exact Ext.refl _ | with_reducible assumption | with_reducible refine Ext.drew ?_ | with_reducible refine Ext.alloc ?_ _))) (hD1.ext (by repeat (first | with_reducible exact Ext.refl _ | with_reducible assumption | with_reducible refine Ext.drew ?_ | with_reducible refine Ext.alloc ?_ _))) hn0 HG).mono ?_; rintro e wE ⟨tE, rfl, hE1, hbE1⟩; have eE : Ext wD wE := Ext.trans (by repeat (first | with_reducible exact Ext.refl _ | with_reducible assumption | with_reducible refine Ext.drew ?_ | with_reducible refine Ext.alloc ?_ _)) (Ext.of hbE1); have zE : Ext wc wE := Ext.trans zD eE; have xAE : Ext wA wE := Ext.trans xAD eE; have xBE : Ext wB wE := Ext.trans xBD eE; have xCE : Ext wC wE := Ext.trans eD eE; have uE := x5.ext zE; obtain ⟨uE0, uE1, uE2, uE3, uE4, uE5, uE6⟩ := uE; have vE := x6.ext zE; obtain ⟨vE0, vE1, vE2, vE3, vE4, vE5, vE6⟩ := vE; have cE := Box3.ext hz zE; obtain ⟨c0, c1, c2, f0, f1, f2, g0⟩ := cE; obtain ⟨b2, a2, l2, k2, a3, l3, k3, rfl, hp1', hp2', hp3', hp4', hp5'⟩ := hE1.parts) | (go_at_call 204; have _g := hC1; refine (times_any _ _ _ (s / d1) (q / d2) K K (hB1.ext (by repeat (first | with_reducible exact Ext.refl _ | with_reducible assumption | with_reducible refine Ext.drew ?_ | with_reducible refine Ext.alloc ?_ _))) (hC1.ext (by repeat (first | with_reducible exact Ext.refl _ | with_reducible assumption | with_reducible refine Ext.drew ?_ | with_reducible refine Ext.alloc ?_ _))) hsk hqk (by omega)).mono ?_; rintro e wD ⟨tD, rfl, hD1, hbD1⟩; have eD : Ext wC wD := Ext.trans (by repeat (first | with_reducible exact Ext.refl _ | with_reducible assumption | with_reducible refine Ext.drew ?_ | with_reducible refine Ext.alloc ?_ _)) (Ext.of hbD1); have zD : Ext wc wD := Ext.trans zC eD; have xAD : Ext wA wD := Ext.trans xAC eD; have xBD : Ext wB wD := Ext.trans eC eD) | (go_at_call 201; have _g := hB1; refine (divisor_any _ _ (r / (d2 : Int)) (q / d2) (y6.ext (by repeat (first | with_reducible exact Ext.refl _ | with_reducible assumption | with_reducible refine Ext.drew ?_ | with_reducible refine Ext.alloc ?_ _)))).mono ?_; rintro e wC ⟨tC, rfl, hC1, hbC1⟩; have eC : Ext wB wC := Ext.trans (by repeat (first | with_reducible exact Ext.refl _ | with_reducible assumption | with_reducible refine Ext.drew ?_ | with_reducible refine Ext.alloc ?_ _)) (Ext.of hbC1); have zC : Ext wc wC := Ext.trans zB eC; have xAC : Ext wA wC := Ext.trans eB eC) | (go_at_call 201; have _g := hA1; refine (divisor_any _ _ (p / (d1 : Int)) (s / d1) (y5.ext (by repeat (first | with_reducible exact Ext.refl _ | with_reducible assumption | with_reducible refine Ext.drew ?_ | with_reducible refine Ext.alloc ?_ _)))).mono ?_; rintro e wB ⟨tB, rfl, hB1, hbB1⟩; have eB : Ext wA wB := Ext.trans (by repeat (first | with_reducible exact Ext.refl _ | with_reducible assumption | with_reducible refine Ext.drew ?_ | with_reducible refine Ext.alloc ?_ _)) (Ext.of hbB1); have zB : Ext wc wB := Ext.trans zA eB) | (go_at_call 205; refine (wtimes_any _ _ _ (p / (d1 : Int)) (r / (d2 : Int)) K K (by omega) (y5.ext (by repeat (first | with_reducible exact Ext.refl _ | with_reducible assumption | with_reducible refine Ext.drew ?_ | with_reducible refine Ext.alloc ?_ _))).whole' (y6.ext (by repeat (first | with_reducible exact Ext.refl _ | with_reducible assumption | with_reducible refine Ext.drew ?_ | with_reducible refine Ext.alloc ?_ _))).whole' hp1 hr1).mono ?_; rintro e wA ⟨tA, rfl, hA1, hbA1⟩; have eA : Ext wc wA := Ext.trans (by repeat (first | with_reducible exact Ext.refl _ | with_reducible assumption | with_reducible refine Ext.drew ?_ | with_reducible refine Ext.alloc ?_ _)) (Ext.of hbA1); have zA := eA))
    have hbE : Below w.heap.size w wE := hbW.trans (zE.mono hbW.size)
    go_wp2
    rw [HW.out.1, HW.out.2]
    exact bodyPost_ret (v := .agg #[.bool b2, .slice a2 l2 k2, .slice a3 l3 k3]) (by simp [results, Tryz.results122, go_sem, c0, c1, c2]) rfl ⟨_, rfl, fracV_boxed hp1' hp2' hp3' hp4' hp5' c0 c1 c2,
      ((hbE.setCell (by simp; omega) _).setCell (by simp; omega) _).setCell (by simp; omega) _⟩

end Go.Proofs.YtnhfdcfnojnofaaGreatDoor
