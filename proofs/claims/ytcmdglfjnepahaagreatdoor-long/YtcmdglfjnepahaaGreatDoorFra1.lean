/-
  What package fraction does: Of, IsWhole, Sign, divisor, reduced.
-/
import Derived.Test.YtcmdglfjnepahaaGreatDoorWho4
set_option linter.unusedSimpArgs false
set_option linter.unusedVariables false
namespace Go.Proofs.YtcmdglfjnepahaaGreatDoor
open Go.RowKit

/-- The lower part as it is kept: a 1 is left empty. -/
def lowN (q : Nat) : Nat := if q = 1 then 0 else q

/-- A struct value that stands for the fraction p / q in lowest terms. -/
def FracV (w : World) (x : Value) (p : Int) (q : Nat) : Prop :=
  ∃ b v u, x = .agg #[.bool b, v, u] ∧ NatV w v p.natAbs ∧ Hid (b = decide (p < 0)) ∧ NatV w u (lowN q) ∧ 0 < q ∧ Hid (Nat.gcd p.natAbs q = 1)

theorem FracV.below {w w' : World} {x : Value} {p : Int} {q : Nat} (h : FracV w x p q) (hb : Below w.heap.size w w') : FracV w' x p q := by
  obtain ⟨b, v, u, h1, h2, h3, h4, h5⟩ := h
  exact ⟨b, v, u, h1, h2.below hb, h3, h4.below hb, h5⟩
theorem FracV.alloc {w : World} {x : Value} {p : Int} {q : Nat} (h : FracV w x p q) (o : Obj) : FracV (w.alloc o) x p q := h.below ((Below.refl _ _).alloc (Nat.le_refl _) o)
theorem FracV.drewN {w : World} {x : Value} {p : Int} {q : Nat} (h : FracV w x p q) (k : Nat) : FracV (w.drewN k) x p q := h
theorem FracV.drew {w : World} {x : Value} {p : Int} {q : Nat} (h : FracV w x p q) : FracV w.drew x p q := h

theorem FracV.parts {w : World} {x : Value} {p : Int} {q : Nat} (h : FracV w x p q) : ∃ b ao l cap ao' l' cap', x = .agg #[.bool b, .slice ao l cap, .slice ao' l' cap'] ∧ NatV w (.slice ao l cap) p.natAbs ∧ Hid (b = decide (p < 0)) ∧ NatV w (.slice ao' l' cap') (lowN q) ∧ 0 < q ∧ Hid (Nat.gcd p.natAbs q = 1) := by
  obtain ⟨b, v, u, h1, h2, h3, h4, h5⟩ := h
  obtain ⟨ao, l, cap, rfl⟩ := h2.slice
  obtain ⟨ao', l', cap', rfl⟩ := h4.slice
  exact ⟨b, ao, l, cap, ao', l', cap', h1, h2, h3, h4, h5⟩

/-- A box of three cells that may be written. -/
def Box3 (w : World) (g : Nat) (x y z : Value) : Prop :=
  w.cell? ⟨g, 0, none⟩ = some x ∧ w.cell? ⟨g, 1, none⟩ = some y ∧ w.cell? ⟨g, 2, none⟩ = some z ∧ w.frozen? ⟨g, 0, none⟩ = false ∧ w.frozen? ⟨g, 1, none⟩ = false ∧ w.frozen? ⟨g, 2, none⟩ = false ∧ g < w.heap.size
theorem Box3.below {w w' : World} {g : Nat} {x y z : Value} (h : Box3 w g x y z) (hb : Below w.heap.size w w') : Box3 w' g x y z := by
  obtain ⟨h1, h2, h3, h4, h5, h6, h7⟩ := h
  exact ⟨(hb.cell (p := ⟨g, 0, none⟩) h7).trans h1, (hb.cell (p := ⟨g, 1, none⟩) h7).trans h2, (hb.cell (p := ⟨g, 2, none⟩) h7).trans h3, (hb.frozen (p := ⟨g, 0, none⟩) h7).trans h4, (hb.frozen (p := ⟨g, 1, none⟩) h7).trans h5, (hb.frozen (p := ⟨g, 2, none⟩) h7).trans h6, Nat.lt_of_lt_of_le h7 hb.size⟩
theorem Box3.new (w : World) (x y z : Value) (t : TypeId) : Box3 (w.alloc (.cells #[x, y, z] t)) w.heap.size x y z := by
  refine ⟨?_, ?_, ?_, ?_, ?_, ?_, ?_⟩ <;> simp
theorem Box3.alloc {w : World} {g : Nat} {x y z : Value} (h : Box3 w g x y z) (o : Obj) : Box3 (w.alloc o) g x y z := h.below ((Below.refl _ _).alloc (Nat.le_refl _) o)
theorem Box3.drew {w : World} {g : Nat} {x y z : Value} (h : Box3 w g x y z) : Box3 w.drew g x y z := h
theorem Box3.drewN {w : World} {g : Nat} {x y z : Value} (h : Box3 w g x y z) (q : Nat) : Box3 (w.drewN q) g x y z := h
theorem Box3.new1 (w : World) (A : Obj) (x y z : Value) (t : TypeId) : Box3 ((w.alloc A).alloc (.cells #[x, y, z] t)) (w.heap.size + 1) x y z := by
  have := Box3.new (w.alloc A) x y z t; simpa using this
theorem Box3.new2 (w : World) (A B : Obj) (x y z : Value) (t : TypeId) : Box3 (((w.alloc A).alloc B).alloc (.cells #[x, y, z] t)) (w.heap.size + 1 + 1) x y z := by
  have := Box3.new ((w.alloc A).alloc B) x y z t; simpa using this
theorem Box2.new1 (w : World) (A : Obj) (x y : Value) (t : TypeId) : Box2 ((w.alloc A).alloc (.cells #[x, y] t)) (w.heap.size + 1) x y := by
  have := Box2.new (w.alloc A) x y t; simpa using this

/-- A fraction laid into a box of its own and read from there. -/
theorem fracV_boxed {w : World} {g : Nat} {b0 b : Bool} {a0 a1 : Option Addr} {l0 c0 l1 c1 : Nat} {v u : Value} {p : Int} {q : Nat} (hv : NatV w v p.natAbs) (hb : Hid (b = decide (p < 0))) (hu : NatV w u (lowN q)) (hq : 0 < q) (hg : Hid (Nat.gcd p.natAbs q = 1))
    (h0 : w.cell? ⟨g, 0, none⟩ = some (.bool b0)) (h1 : w.cell? ⟨g, 1, none⟩ = some (.slice a0 l0 c0)) (h2 : w.cell? ⟨g, 2, none⟩ = some (.slice a1 l1 c1)) :
    FracV (((w.setCell ⟨g, 0, none⟩ (.bool b)).setCell ⟨g, 1, none⟩ v).setCell ⟨g, 2, none⟩ u) (.agg #[.bool b, v, u]) p q := by
  have e1 : (w.setCell ⟨g, 0, none⟩ (.bool b)).cell? ⟨g, 1, none⟩ = some (.slice a0 l0 c0) := by rw [World.cell?_setCell_other _ _ _ _ (by simp)]; exact h1
  have e2 : ((w.setCell ⟨g, 0, none⟩ (.bool b)).setCell ⟨g, 1, none⟩ v).cell? ⟨g, 2, none⟩ = some (.slice a1 l1 c1) := by
    rw [World.cell?_setCell_other _ _ _ _ (by simp), World.cell?_setCell_other _ _ _ _ (by simp)]; exact h2
  exact ⟨b, v, u, rfl, ((hv.setCell h0 (by simp) _).setCell e1 (by simp) _).setCell e2 (by simp) _, hb, ((hu.setCell h0 (by simp) _).setCell e1 (by simp) _).setCell e2 (by simp) _, hq, hg⟩

set_option maxRecDepth 100000 in
set_option maxHeartbeats 400000 in
theorem fof_any (w : World) (x : Value) (z : Int) (h : WholeV w x z) :
    Calls Tryz.prog 42 #[x] w fun e w' => ∃ s, e = .returned s ∧ FracV w' s z 1 ∧ Below w.heap.size w w' := by
  obtain ⟨b, ao, l, cap, rfl, hv, hb⟩ := h.parts
  go_enter Tryz.func42, Tryz.ntmps42
  go_wp2
  exact bodyPost_ret (v := .agg #[.bool b, .slice ao l cap, .slice none 0 0]) (by simp [results, Tryz.results42, go_sem]) rfl ⟨_, rfl, ⟨b, _, _, rfl, (hv.alloc _).alloc _, hb, NatV.zero _ _ _, by omega, Nat.gcd_one_right _⟩, below2 w _ _⟩

set_option maxRecDepth 100000 in
set_option maxHeartbeats 400000 in
theorem isWhole_yes (w : World) (x : Value) (p : Int) (h : FracV w x p 1) :
    Calls Tryz.prog 46 #[x] w fun e w' => e = .returned (.bool true) ∧ Below w.heap.size w w' := by
  obtain ⟨b, ao, l, cap, ao', l', cap', rfl, hv, hb, hu, hq, hg⟩ := h.parts
  rw [show lowN 1 = 0 from rfl] at hu
  go_enter Tryz.func46, Tryz.ntmps46
  go_wp2_with fail
  refine (isZero_yes _ _ (hu.alloc _)).mono ?_
  rintro e w' ⟨rfl, rfl⟩
  go_wp2
  go_ret
  exact ⟨rfl, (Below.refl _ _).alloc (Nat.le_refl _) _⟩

theorem lowN_ne {q : Nat} (hq : 0 < q) (h1 : q ≠ 1) : lowN q = q ∧ lowN q ≠ 0 := by
  unfold lowN; rw [if_neg h1]; omega

set_option maxRecDepth 100000 in
set_option maxHeartbeats 400000 in
theorem isWhole_no (w : World) (x : Value) (p : Int) (q : Nat) (h : FracV w x p q) (h1 : q ≠ 1) :
    Calls Tryz.prog 46 #[x] w fun e w' => e = .returned (.bool false) ∧ Below w.heap.size w w' := by
  obtain ⟨b, ao, l, cap, ao', l', cap', rfl, hv, hb, hu, hq, hg⟩ := h.parts
  go_enter Tryz.func46, Tryz.ntmps46
  go_wp2_with fail
  refine (isZero_no _ _ _ (hu.alloc _) (lowN_ne hq h1).2).mono ?_
  rintro e w' ⟨rfl, rfl⟩
  go_wp2
  go_ret
  exact ⟨rfl, (Below.refl _ _).alloc (Nat.le_refl _) _⟩

set_option maxRecDepth 100000 in
set_option maxHeartbeats 400000 in
theorem fsign_any (w : World) (x : Value) (p : Int) (q : Nat) (h : FracV w x p q) :
    Calls Tryz.prog 121 #[x] w fun e w' => e = .returned (.int .i64 p.sign) ∧ Below w.heap.size w w' := by
  obtain ⟨b, ao, l, cap, ao', l', cap', rfl, hv, hb, hu, hq, hg⟩ := h.parts
  have hb1 : Below w.heap.size w (w.alloc (.cells #[.bool b, .slice ao l cap, .slice ao' l' cap'] 64)) := (Below.refl _ _).alloc (Nat.le_refl _) _
  go_enter Tryz.func121, Tryz.ntmps121
  go_wp2_with fail
  refine (sign_any _ _ p ⟨b, _, rfl, hv.alloc _, hb⟩).mono ?_
  rintro e w' ⟨rfl, hbel⟩
  go_wp2
  go_ret
  exact ⟨rfl, hb1.trans (hbel.mono hb1.size)⟩

set_option maxRecDepth 100000 in
set_option maxHeartbeats 400000 in
theorem divisor_any (w : World) (x : Value) (p : Int) (q : Nat) (h : FracV w x p q) :
    Calls Tryz.prog 117 #[x] w fun e w' => ∃ v, e = .returned v ∧ NatV w' v q ∧ Below w.heap.size w w' := by
  have h0 := h
  obtain ⟨b, ao, l, cap, ao', l', cap', rfl, hv, hb, hu, hq, hg⟩ := h.parts
  have hb1 : Below w.heap.size w (w.alloc (.cells #[.bool b, .slice ao l cap, .slice ao' l' cap'] 64)) := (Below.refl _ _).alloc (Nat.le_refl _) _
  have hbox : Box3 (w.alloc (.cells #[.bool b, .slice ao l cap, .slice ao' l' cap'] 64)) w.heap.size (.bool b) (.slice ao l cap) (.slice ao' l' cap') := Box3.new _ _ _ _ _
  by_cases h1 : q = 1
  · subst h1
    go_enter Tryz.func117, Tryz.ntmps117
    go_wp2_with fail
    refine (isWhole_yes _ _ p (h0.alloc _)).mono ?_
    rintro e w' ⟨rfl, hbel⟩
    go_wp2_with fail
    refine (of_int _ _ 1 (by simp) (by omega)).mono ?_
    rintro e w2 ⟨v, rfl, hv2, hbv⟩
    go_wp2
    go_ret
    have hb2 := hb1.trans (hbel.mono hb1.size)
    exact ⟨_, rfl, hv2, hb2.trans (hbv.mono hb2.size)⟩
  · rw [(lowN_ne hq h1).1] at hu
    go_enter Tryz.func117, Tryz.ntmps117
    go_wp2_with fail
    refine (isWhole_no _ _ p q (h0.alloc _) h1).mono ?_
    rintro e w' ⟨rfl, hbel⟩
    have hbox2 := hbox.below hbel
    obtain ⟨c0, c1, c2, f0, f1, f2, g0⟩ := hbox2
    go_wp2
    go_ret
    exact ⟨_, rfl, (hu.alloc _).below hbel, hb1.trans (hbel.mono hb1.size)⟩
end Go.Proofs.YtcmdglfjnepahaaGreatDoor
