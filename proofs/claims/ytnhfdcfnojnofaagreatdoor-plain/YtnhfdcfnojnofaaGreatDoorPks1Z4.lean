/-
  Part 4 of the texts ahead of Pks1: Who4, Fra1, Fra2, Fra3, Frb1.
-/
import Derived.Test.YtnhfdcfnojnofaaGreatDoorPks1Z3
import Derived.Deep.DeepCutAuto
set_option linter.unusedSimpArgs false
set_option linter.unusedVariables false
/-
  What package whole does: Compare.
-/
namespace Go.Proofs.YtnhfdcfnojnofaaGreatDoor
open Go.RowKit

theorem cmpI_iff (a b : Nat) : (cmpI a b < 0 ↔ a < b) ∧ (cmpI a b = 0 ↔ a = b) := by
  rcases Nat.lt_trichotomy a b with h | h | h
  · rw [cmpI_lt h]; omega
  · rw [cmpI_eq h]; omega
  · rw [cmpI_gt h]; omega

set_option maxRecDepth 100000 in
set_option maxHeartbeats 1000000 in
theorem wcompare_any (w : World) (x y : Value) (z t : Int) (K : Nat) (hK : K ≤ 1073741823) (h : WholeV w x z) (k : WholeV w y t) (hz : z.natAbs < 4294967296 ^ K) (ht : t.natAbs < 4294967296 ^ K) :
    Calls Tryz.prog 151 #[x, y] w fun e w' => ∃ c : Int, e = .returned (.int .i64 c) ∧ (c < 0 ↔ z < t) ∧ (c = 0 ↔ z = t) ∧ -2 ≤ c ∧ c ≤ 2 ∧ Below w.heap.size w w' := by
  have h0 := h
  have k0 := k
  obtain ⟨b, ao, l, cap, rfl, hv, hb⟩ := h.parts
  obtain ⟨c, ao', l', cap', rfl, hv', hb'⟩ := k.parts
  have hb2 := below2 w (.cells #[.bool b, .slice ao l cap] 101) (.cells #[.bool c, .slice ao' l' cap'] 101)
  have hbd : ∀ a b, -2 ≤ cmpI a b ∧ cmpI a b ≤ 2 := by
    intro a b; unfold cmpI; split
    · omega
    · split <;> omega
  by_cases hbc : b = c
  · subst hbc
    have hbb : (b == b) = true := by simp
    cases b with
    | true =>
      have hz0 : z < 0 := by have := hb.out; simp at this; omega
      have ht0 : t < 0 := by have := hb'.out; simp at this; omega
      have hcmp := cmpI_iff t.natAbs z.natAbs
      have HC : Hid ((cmpI t.natAbs z.natAbs < 0 ↔ z < t) ∧ (cmpI t.natAbs z.natAbs = 0 ↔ z = t)) := by
        rw [Hid, hcmp.1, hcmp.2]; omega
      have HB := hide (hbd t.natAbs z.natAbs)
      clear hcmp hbd
      go_enter Tryz.func151, Tryz.ntmps151
      go_wp2_with fail
      refine (compare_any _ _ _ t.natAbs z.natAbs K ((hv'.alloc _).alloc _) ((hv.alloc _).alloc _) ht hz (by omega)).mono ?_
      rintro e w1 ⟨rfl, q, rfl⟩
      go_wp2
      go_ret
      exact ⟨_, rfl, HC.out.1, HC.out.2, HB.out.1, HB.out.2, below_toDrewN hb2⟩
    | false =>
      have hz0 : 0 ≤ z := by have := hb.out; simp at this; omega
      have ht0 : 0 ≤ t := by have := hb'.out; simp at this; omega
      have hcmp := cmpI_iff z.natAbs t.natAbs
      have HC : Hid ((cmpI z.natAbs t.natAbs < 0 ↔ z < t) ∧ (cmpI z.natAbs t.natAbs = 0 ↔ z = t)) := by
        rw [Hid, hcmp.1, hcmp.2]; omega
      have HB := hide (hbd z.natAbs t.natAbs)
      clear hcmp hbd
      go_enter Tryz.func151, Tryz.ntmps151
      go_wp2_with fail
      refine (compare_any _ _ _ z.natAbs t.natAbs K ((hv.alloc _).alloc _) ((hv'.alloc _).alloc _) hz ht (by omega)).mono ?_
      rintro e w1 ⟨rfl, q, rfl⟩
      go_wp2
      go_ret
      exact ⟨_, rfl, HC.out.1, HC.out.2, HB.out.1, HB.out.2, below_toDrewN hb2⟩
  · have hbb : (b == c) = false := by simpa using hbc
    have hboxQ : Box2 ((w.alloc (.cells #[.bool b, .slice ao l cap] 101)).alloc (.cells #[.bool c, .slice ao' l' cap'] 101)) (w.heap.size + 1) (.bool c) (.slice ao' l' cap') := by
      have := Box2.new (w.alloc (.cells #[.bool b, .slice ao l cap] 101)) (.bool c) (.slice ao' l' cap') 101
      simpa using this
    have hboxP : Box2 ((w.alloc (.cells #[.bool b, .slice ao l cap] 101)).alloc (.cells #[.bool c, .slice ao' l' cap'] 101)) w.heap.size (.bool b) (.slice ao l cap) := (Box2.new w _ _ _).alloc _
    have hsg : -1 ≤ z.sign ∧ z.sign ≤ 1 ∧ -1 ≤ t.sign ∧ t.sign ≤ 1 := by
      rcases Int.lt_trichotomy z 0 with h | h | h <;> rcases Int.lt_trichotomy t 0 with k | k | k <;> simp [Int.sign_eq_neg_one_of_neg, Int.sign_eq_one_of_pos, h, k]
    have HC : Hid ((z.sign - t.sign < 0 ↔ z < t) ∧ (z.sign - t.sign = 0 ↔ z = t)) := by
      have e1 := hb.out
      have e2 := hb'.out
      rw [Hid]
      by_cases hz0 : z < 0
      · have ht0 : 0 ≤ t := by
          rcases Int.lt_or_le t 0 with h | h
          · exact absurd (by rw [e1, e2]; simp [hz0, h]) hbc
          · exact h
        rw [Int.sign_eq_neg_one_of_neg hz0]
        rcases Int.lt_or_eq_of_le ht0 with h | h
        · rw [Int.sign_eq_one_of_pos h]; omega
        · rw [← h]; simp; omega
      · have ht0 : t < 0 := by
          rcases Int.lt_or_le t 0 with h | h
          · exact h
          · exact absurd (by rw [e1, e2]; simp [hz0]; omega) hbc
        rw [Int.sign_eq_neg_one_of_neg ht0]
        rcases Int.lt_or_eq_of_le (show 0 ≤ z by omega) with h | h
        · rw [Int.sign_eq_one_of_pos h]; omega
        · rw [← h]; simp; omega
    obtain ⟨s1, s2, s3, s4⟩ := hsg
    have HW : Hid (IntKind.i64.wrap (z.sign - t.sign) = z.sign - t.sign) := by
      rw [Hid]
      have hd : -2 ≤ z.sign - t.sign ∧ z.sign - t.sign ≤ 2 := by omega
      generalize z.sign - t.sign = d at hd
      simp [IntKind.wrap, IntKind.signed, IntKind.bits]
      omega
    clear hbd hbc
    go_enter Tryz.func151, Tryz.ntmps151
    go_wp2
    go_region_held (fun w' => w'.cell? ⟨w.heap.size, 0, none⟩ = some (.bool b) ∧ w'.cell? ⟨w.heap.size, 1, none⟩ = some (.slice ao l cap) ∧ w'.cell? ⟨w.heap.size + 1, 0, none⟩ = some (.bool c) ∧ w'.cell? ⟨w.heap.size + 1, 1, none⟩ = some (.slice ao' l' cap')) (go_keep) (first | (go_at_call_of 242 (Value.bool b); refine (sign_any _ _ z (by exact WholeV.drewN ((h0.alloc _).alloc _) 1)).mono ?_; rintro e wA ⟨rfl, hbs⟩; have hboxP2 := hboxP.drew.below hbs; obtain ⟨p0, p1, p2, p3, p4⟩ := hboxP2; have hboxQ2 := hboxQ.drew.below hbs; obtain ⟨q0, q1, q2, q3, q4⟩ := hboxQ2) | (go_at_call_of 242 (Value.bool c); refine (sign_any _ _ t (by exact (WholeV.drewN ((k0.alloc _).alloc _) 1).below hbs)).mono ?_; rintro e wB ⟨rfl, hbr⟩; have hboxP3 := (hboxP.drew.below hbs).below hbr; obtain ⟨r0, r1, r2, r3, r4⟩ := hboxP3; have hboxQ3 := (hboxQ.drew.below hbs).below hbr; obtain ⟨t0, t1, t2, t3, t4⟩ := hboxQ3))
    have hbA : Below w.heap.size w wA := hb2.trans (Below.mono (w := (w.alloc (.cells #[.bool b, .slice ao l cap] 101)).alloc (.cells #[.bool c, .slice ao' l' cap'] 101)) ⟨hbs.os, hbs.tape, hbs.output, hbs.size, hbs.block⟩ hb2.size)
    have hbB : Below w.heap.size w wB := hbA.trans (hbr.mono hbA.size)
    go_wp2
    go_ret
    exact ⟨z.sign - t.sign, ret_int (by rw [HW.out]), HC.out.1, HC.out.2, by omega, by omega, hbB⟩
end Go.Proofs.YtnhfdcfnojnofaaGreatDoor

/-
  What package fraction does: Of, IsWhole, Sign, divisor, reduced.
-/
namespace Go.Proofs.YtnhfdcfnojnofaaGreatDoor
open Go.RowKit

/-- The lower part as it is kept: a 1 is left empty. -/
def lowN (q : Nat) : Nat := if q = 1 then 0 else q

/-- A struct value that stands for the fraction p / q in lowest terms. -/
def FracV (w : World) (x : Value) (p : Int) (q : Nat) : Prop :=
  ∃ b v u, x = .agg #[.bool b, v, u] ∧ NatV w v p.natAbs ∧ Hid (b = decide (p < 0)) ∧ NatV w u (lowN q) ∧ 0 < q ∧ Hid (Nat.gcd p.natAbs q = 1)

theorem FracV.below {w w' : World} {x : Value} {p : Int} {q : Nat} (h : FracV w x p q) (hb : Below w.heap.size w w') : FracV w' x p q := by
  obtain ⟨b, v, u, h1, h2, h3, h4, h5⟩ := h
  exact ⟨b, v, u, h1, h2.below hb, h3, h4.below hb, h5⟩
theorem FracV.alloc {w : World} {x : Value} {p : Int} {q : Nat} (h : FracV w x p q) (o : Obj) : FracV (w.alloc o) x p q := h.below ((Below.refl _ _).alloc (Nat.le_refl _) o)
/-- A box of three cells that may be written. -/
def Box3 (w : World) (g : Nat) (x y z : Value) : Prop :=
  w.cell? ⟨g, 0, none⟩ = some x ∧ w.cell? ⟨g, 1, none⟩ = some y ∧ w.cell? ⟨g, 2, none⟩ = some z ∧ w.frozen? ⟨g, 0, none⟩ = false ∧ w.frozen? ⟨g, 1, none⟩ = false ∧ w.frozen? ⟨g, 2, none⟩ = false ∧ g < w.heap.size
theorem Box3.below {w w' : World} {g : Nat} {x y z : Value} (h : Box3 w g x y z) (hb : Below w.heap.size w w') : Box3 w' g x y z := by
  obtain ⟨h1, h2, h3, h4, h5, h6, h7⟩ := h
  exact ⟨(hb.cell (p := ⟨g, 0, none⟩) h7).trans h1, (hb.cell (p := ⟨g, 1, none⟩) h7).trans h2, (hb.cell (p := ⟨g, 2, none⟩) h7).trans h3, (hb.frozen (p := ⟨g, 0, none⟩) h7).trans h4, (hb.frozen (p := ⟨g, 1, none⟩) h7).trans h5, (hb.frozen (p := ⟨g, 2, none⟩) h7).trans h6, Nat.lt_of_lt_of_le h7 hb.size⟩
theorem Box3.new (w : World) (x y z : Value) (t : TypeId) : Box3 (w.alloc (.cells #[x, y, z] t)) w.heap.size x y z := by
  refine ⟨?_, ?_, ?_, ?_, ?_, ?_, ?_⟩ <;> simp
theorem Box3.alloc {w : World} {g : Nat} {x y z : Value} (h : Box3 w g x y z) (o : Obj) : Box3 (w.alloc o) g x y z := h.below ((Below.refl _ _).alloc (Nat.le_refl _) o)
theorem Box3.new1 (w : World) (A : Obj) (x y z : Value) (t : TypeId) : Box3 ((w.alloc A).alloc (.cells #[x, y, z] t)) (w.heap.size + 1) x y z := by
  have := Box3.new (w.alloc A) x y z t; simpa using this
theorem Box2.new1 (w : World) (A : Obj) (x y : Value) (t : TypeId) : Box2 ((w.alloc A).alloc (.cells #[x, y] t)) (w.heap.size + 1) x y := by
  have := Box2.new (w.alloc A) x y t; simpa using this

end Go.Proofs.YtnhfdcfnojnofaaGreatDoor

/-
  What package fraction does: reduced.
-/
namespace Go.Proofs.YtnhfdcfnojnofaaGreatDoor
open Go.RowKit

theorem Box3.far {w : World} {g h o : Nat} {x y z u : Value} (b : Box3 w g x y z) (hne : h ≠ g) : Box3 (w.setCell ⟨h, o, none⟩ u) g x y z := by
  obtain ⟨h1, h2, h3, h4, h5, h6, h7⟩ := b
  exact ⟨by rw [Go.Proofs.YtnhfdcfnojnofaaGreatDoor.far hne]; exact h1, by rw [Go.Proofs.YtnhfdcfnojnofaaGreatDoor.far hne]; exact h2, by rw [Go.Proofs.YtnhfdcfnojnofaaGreatDoor.far hne]; exact h3, by simpa using h4, by simpa using h5, by simpa using h6, by simpa using h7⟩

theorem FracV.whole {w : World} {x : Value} {p : Int} {q : Nat} (h : FracV w x p q) : ∃ b v u, x = .agg #[.bool b, v, u] ∧ WholeV w (.agg #[.bool b, v]) p := by
  obtain ⟨b, v, u, h1, h2, h3, _⟩ := h
  exact ⟨b, v, u, h1, b, v, rfl, h2, h3⟩

end Go.Proofs.YtnhfdcfnojnofaaGreatDoor

/-
  What package fraction does: across, Turned, Floor.
-/
namespace Go.Proofs.YtnhfdcfnojnofaaGreatDoor
open Go.RowKit

theorem Box2.new2 (w : World) (A B : Obj) (x y : Value) (t : TypeId) : Box2 (((w.alloc A).alloc B).alloc (.cells #[x, y] t)) (w.heap.size + 1 + 1) x y := by
  have := Box2.new ((w.alloc A).alloc B) x y t; simpa using this

end Go.Proofs.YtnhfdcfnojnofaaGreatDoor

/-
  Boxes of fractions, and worlds with more blocks.
-/
namespace Go.Proofs.YtnhfdcfnojnofaaGreatDoor
open Go.RowKit

theorem FracV.setCell {w : World} {x : Value} {p : Int} {q : Nat} (h : FracV w x p q) {a : Addr} {y : Value} (hy : w.cell? a = some y) (hn : ∀ k, y ≠ .int .u32 k) (t : Value) : FracV (w.setCell a t) x p q := by
  obtain ⟨b, v, u, h1, h2, h3, h4, h5⟩ := h
  exact ⟨b, v, u, h1, h2.setCell hy hn t, h3, h4.setCell hy hn t, h5⟩

/-- What is known of the two boxes and the result's, of the two fractions, and of old memory. -/
def Held (w : World) (b c : Bool) (ao ao' bo bo' : Option Addr) (l cap l' cap' m dap m' dap' : Nat) (p r : Int) (q s : Nat) (wc : World) : Prop :=
  Box3 wc w.heap.size (.bool b) (.slice ao l cap) (.slice ao' l' cap') ∧ Box3 wc (w.heap.size + 1) (.bool c) (.slice bo m dap) (.slice bo' m' dap') ∧ Box3 wc (w.heap.size + 1 + 1) (.bool false) (.slice none 0 0) (.slice none 0 0) ∧ FracV wc (.agg #[.bool b, .slice ao l cap, .slice ao' l' cap']) p q ∧ FracV wc (.agg #[.bool c, .slice bo m dap, .slice bo' m' dap']) r s ∧ Below w.heap.size w wc ∧ w.heap.size + 1 + 1 < wc.heap.size

theorem Held.below {w : World} {b c : Bool} {ao ao' bo bo' : Option Addr} {l cap l' cap' m dap m' dap' : Nat} {p r : Int} {q s : Nat} {u v : World} (h : Held w b c ao ao' bo bo' l cap l' cap' m dap m' dap' p r q s u) (hb : Below u.heap.size u v) : Held w b c ao ao' bo bo' l cap l' cap' m dap m' dap' p r q s v := by
  obtain ⟨h1, h2, h3, h4, h5, h6, h7⟩ := h
  exact ⟨h1.below hb, h2.below hb, h3.below hb, h4.below hb, h5.below hb, h6.trans (hb.mono h6.size), Nat.lt_of_lt_of_le h7 hb.size⟩

theorem Held.alloc {w : World} {b c : Bool} {ao ao' bo bo' : Option Addr} {l cap l' cap' m dap m' dap' : Nat} {p r : Int} {q s : Nat} {u : World} (h : Held w b c ao ao' bo bo' l cap l' cap' m dap m' dap' p r q s u) (o : Obj) : Held w b c ao ao' bo bo' l cap l' cap' m dap m' dap' p r q s (u.alloc o) :=
  h.below ((Below.refl _ _).alloc (Nat.le_refl _) o)

theorem Held.setCell {w : World} {b c : Bool} {ao ao' bo bo' : Option Addr} {l cap l' cap' m dap m' dap' : Nat} {p r : Int} {q s : Nat} {u : World} (h : Held w b c ao ao' bo bo' l cap l' cap' m dap m' dap' p r q s u) {g o : Nat} {y : Value} (hg : w.heap.size + 1 + 1 < g) (hy : u.cell? ⟨g, o, none⟩ = some y) (hn : ∀ k, y ≠ .int .u32 k) (x : Value) :
    Held w b c ao ao' bo bo' l cap l' cap' m dap m' dap' p r q s (u.setCell ⟨g, o, none⟩ x) := by
  obtain ⟨h1, h2, h3, h4, h5, h6, h7⟩ := h
  exact ⟨h1.far (by omega), h2.far (by omega), h3.far (by omega), h4.setCell hy hn x, h5.setCell hy hn x, h6.setCell (by simp; omega) x, by simpa using h7⟩

theorem Box2.stored {w : World} {g : Nat} {b0 b : Bool} {a0 a : Option Addr} {l0 k0 l k : Nat} (h : Box2 w g (.bool b0) (.slice a0 l0 k0)) : Box2 ((w.setCell ⟨g, 0, none⟩ (.bool b)).setCell ⟨g, 1, none⟩ (.slice a l k)) g (.bool b) (.slice a l k) := by
  obtain ⟨d0, d1, d2, d3, d4⟩ := h
  have e1 : (w.setCell ⟨g, 0, none⟩ (.bool b)).cell? ⟨g, 1, none⟩ = some (.slice a0 l0 k0) := by rw [World.cell?_setCell_other _ _ _ _ (by simp)]; exact d1
  refine ⟨?_, World.cell?_setCell_same _ _ _ e1, by simpa using d2, by simpa using d3, by simpa using d4⟩
  rw [World.cell?_setCell_other _ _ _ _ (by simp)]; exact World.cell?_setCell_same _ _ _ d0

theorem WholeV.stored {w : World} {x : Value} {z : Int} (hx : WholeV w x z) {g : Nat} {b0 b : Bool} {a0 a : Option Addr} {l0 k0 l k : Nat} (h : Box2 w g (.bool b0) (.slice a0 l0 k0)) : WholeV ((w.setCell ⟨g, 0, none⟩ (.bool b)).setCell ⟨g, 1, none⟩ (.slice a l k)) x z := by
  obtain ⟨d0, d1, d2, d3, d4⟩ := h
  have e1 : (w.setCell ⟨g, 0, none⟩ (.bool b)).cell? ⟨g, 1, none⟩ = some (.slice a0 l0 k0) := by rw [World.cell?_setCell_other _ _ _ _ (by simp)]; exact d1
  exact (hx.setCell d0 (by simp) _).setCell e1 (by simp) _

theorem Held.stored {w : World} {b c : Bool} {ao ao' bo bo' : Option Addr} {l cap l' cap' m dap m' dap' : Nat} {p r : Int} {q s : Nat} {u : World} (hH : Held w b c ao ao' bo bo' l cap l' cap' m dap m' dap' p r q s u) {g : Nat} {b0 b1 : Bool} {a0 a1 : Option Addr} {l0 k0 l1 k1 : Nat} (h : Box2 u g (.bool b0) (.slice a0 l0 k0)) (hg : w.heap.size + 1 + 1 < g) :
    Held w b c ao ao' bo bo' l cap l' cap' m dap m' dap' p r q s ((u.setCell ⟨g, 0, none⟩ (.bool b1)).setCell ⟨g, 1, none⟩ (.slice a1 l1 k1)) := by
  obtain ⟨d0, d1, d2, d3, d4⟩ := h
  have e1 : (u.setCell ⟨g, 0, none⟩ (.bool b1)).cell? ⟨g, 1, none⟩ = some (.slice a0 l0 k0) := by rw [World.cell?_setCell_other _ _ _ _ (by simp)]; exact d1
  exact (hH.setCell hg d0 (by simp) _).setCell hg e1 (by simp) _

/-- A box that holds a fraction. -/
def FracBox (w : World) (g : Nat) (p : Int) (q : Nat) : Prop :=
  ∃ b a l k a' l' k', Box3 w g (.bool b) (.slice a l k) (.slice a' l' k') ∧ FracV w (.agg #[.bool b, .slice a l k, .slice a' l' k']) p q

/-- Three cells of a box, written. -/
abbrev set3 (w : World) (g : Nat) (x y z : Value) : World := ((w.setCell ⟨g, 0, none⟩ x).setCell ⟨g, 1, none⟩ y).setCell ⟨g, 2, none⟩ z

/-- A box of a fraction, empty. -/
abbrev ZBox (w : World) (g : Nat) : Prop := Box3 w g (.bool false) (.slice none 0 0) (.slice none 0 0)

theorem FracBox.below {w w' : World} {g : Nat} {p : Int} {q : Nat} (h : FracBox w g p q) (hb : Below w.heap.size w w') : FracBox w' g p q := by
  obtain ⟨b, a, l, k, a', l', k', h1, h2⟩ := h
  exact ⟨b, a, l, k, a', l', k', h1.below hb, h2.below hb⟩
theorem FracBox.alloc {w : World} {g : Nat} {p : Int} {q : Nat} (h : FracBox w g p q) (o : Obj) : FracBox (w.alloc o) g p q := h.below ((Below.refl _ _).alloc (Nat.le_refl _) o)

theorem Box3.written {w : World} {g : Nat} {b0 : Bool} {a0 a1 : Option Addr} {l0 k0 l1 k1 : Nat} (h : Box3 w g (.bool b0) (.slice a0 l0 k0) (.slice a1 l1 k1)) (x y z : Value) : Box3 (set3 w g x y z) g x y z := by
  obtain ⟨c0, c1, c2, f0, f1, f2, g0⟩ := h
  have e1 : (w.setCell ⟨g, 0, none⟩ x).cell? ⟨g, 1, none⟩ = some (.slice a0 l0 k0) := by rw [World.cell?_setCell_other _ _ _ _ (by simp)]; exact c1
  have e2 : ((w.setCell ⟨g, 0, none⟩ x).setCell ⟨g, 1, none⟩ y).cell? ⟨g, 2, none⟩ = some (.slice a1 l1 k1) := by
    rw [World.cell?_setCell_other _ _ _ _ (by simp), World.cell?_setCell_other _ _ _ _ (by simp)]; exact c2
  refine ⟨?_, ?_, World.cell?_setCell_same _ _ _ e2, by simpa using f0, by simpa using f1, by simpa using f2, by simpa using g0⟩
  · rw [World.cell?_setCell_other _ _ _ _ (by simp), World.cell?_setCell_other _ _ _ _ (by simp)]; exact World.cell?_setCell_same _ _ _ c0
  · rw [World.cell?_setCell_other _ _ _ _ (by simp)]; exact World.cell?_setCell_same _ _ _ e1

theorem NatV.set3 {w : World} {v : Value} {n : Nat} (h : NatV w v n) {g : Nat} {b0 : Bool} {a0 a1 : Option Addr} {l0 k0 l1 k1 : Nat} (hb : Box3 w g (.bool b0) (.slice a0 l0 k0) (.slice a1 l1 k1)) (x y z : Value) : NatV (Go.Proofs.YtnhfdcfnojnofaaGreatDoor.set3 w g x y z) v n := by
  obtain ⟨c0, c1, c2, f0, f1, f2, g0⟩ := hb
  have e1 : (w.setCell ⟨g, 0, none⟩ x).cell? ⟨g, 1, none⟩ = some (.slice a0 l0 k0) := by rw [World.cell?_setCell_other _ _ _ _ (by simp)]; exact c1
  have e2 : ((w.setCell ⟨g, 0, none⟩ x).setCell ⟨g, 1, none⟩ y).cell? ⟨g, 2, none⟩ = some (.slice a1 l1 k1) := by
    rw [World.cell?_setCell_other _ _ _ _ (by simp), World.cell?_setCell_other _ _ _ _ (by simp)]; exact c2
  exact ((h.setCell c0 (by simp) _).setCell e1 (by simp) _).setCell e2 (by simp) _

theorem FracV.set3 {w : World} {v : Value} {p : Int} {q : Nat} (h : FracV w v p q) {g : Nat} {b0 : Bool} {a0 a1 : Option Addr} {l0 k0 l1 k1 : Nat} (hb : Box3 w g (.bool b0) (.slice a0 l0 k0) (.slice a1 l1 k1)) (x y z : Value) : FracV (Go.Proofs.YtnhfdcfnojnofaaGreatDoor.set3 w g x y z) v p q := by
  obtain ⟨b, v, u, h1, h2, h3, h4, h5⟩ := h
  exact ⟨b, v, u, h1, h2.set3 hb x y z, h3, h4.set3 hb x y z, h5⟩

theorem Box3.far3 {w : World} {g h : Nat} {x y z u v t : Value} (b : Box3 w g x y z) (hne : h ≠ g) : Box3 (set3 w h u v t) g x y z := ((b.far hne).far hne).far hne

theorem below_set3 {B : Nat} {w w' : World} (h : Below B w w') {g : Nat} (hg : B ≤ g) (x y z : Value) : Below B w (set3 w' g x y z) :=
  ((h.setCell (p := ⟨g, 0, none⟩) hg x).setCell (p := ⟨g, 1, none⟩) hg y).setCell (p := ⟨g, 2, none⟩) hg z

theorem Held.set3 {w : World} {b c : Bool} {ao ao' bo bo' : Option Addr} {l cap l' cap' m dap m' dap' : Nat} {p r : Int} {q s : Nat} {u : World} (h : Held w b c ao ao' bo bo' l cap l' cap' m dap m' dap' p r q s u) {g : Nat} {b0 : Bool} {a0 a1 : Option Addr} {l0 k0 l1 k1 : Nat} (hb : Box3 u g (.bool b0) (.slice a0 l0 k0) (.slice a1 l1 k1)) (hg : w.heap.size + 1 + 1 < g) (x y z : Value) :
    Held w b c ao ao' bo bo' l cap l' cap' m dap m' dap' p r q s (Go.Proofs.YtnhfdcfnojnofaaGreatDoor.set3 u g x y z) := by
  obtain ⟨h1, h2, h3, h4, h5, h6, h7⟩ := h
  exact ⟨h1.far3 (by omega), h2.far3 (by omega), h3.far3 (by omega), h4.set3 hb x y z, h5.set3 hb x y z, below_set3 h6 (by omega) x y z, by simpa using h7⟩

/-- What is known of the boxes of the two that are multiplied, and of the result's. -/
def Held2 (w : World) (g5 g6 : Nat) (b5 b6 : Bool) (a5 a5' a6 a6' : Option Addr) (l5 k5 l5' k5' l6 k6 l6' k6' : Nat) (p r : Int) (q s : Nat) (wc : World) : Prop :=
  Box3 wc g5 (.bool b5) (.slice a5 l5 k5) (.slice a5' l5' k5') ∧ Box3 wc g6 (.bool b6) (.slice a6 l6 k6) (.slice a6' l6' k6') ∧ ZBox wc (w.heap.size + 1 + 1) ∧ FracV wc (.agg #[.bool b5, .slice a5 l5 k5, .slice a5' l5' k5']) p q ∧ FracV wc (.agg #[.bool b6, .slice a6 l6 k6, .slice a6' l6' k6']) r s ∧ Below w.heap.size w wc

theorem Held2.below {w : World} {g5 g6 : Nat} {b5 b6 : Bool} {a5 a5' a6 a6' : Option Addr} {l5 k5 l5' k5' l6 k6 l6' k6' : Nat} {p r : Int} {q s : Nat} {u v : World} (h : Held2 w g5 g6 b5 b6 a5 a5' a6 a6' l5 k5 l5' k5' l6 k6 l6' k6' p r q s u) (hb : Below u.heap.size u v) : Held2 w g5 g6 b5 b6 a5 a5' a6 a6' l5 k5 l5' k5' l6 k6 l6' k6' p r q s v := by
  obtain ⟨h1, h2, h3, h4, h5, h6⟩ := h
  exact ⟨h1.below hb, h2.below hb, h3.below hb, h4.below hb, h5.below hb, h6.trans (hb.mono h6.size)⟩
/-- w' is w with more blocks. -/
def Ext (w w' : World) : Prop := Below w.heap.size w w'
theorem Ext.refl (w : World) : Ext w w := Below.refl _ _
theorem Ext.alloc {w w' : World} (h : Ext w w') (o : Obj) : Ext w (w'.alloc o) := Below.alloc h h.size o
theorem Ext.drew {w w' : World} (h : Ext w w') : Ext w w'.drew := ⟨h.os, h.tape, h.output, h.size, h.block⟩
theorem Ext.trans {u v w : World} (h : Ext u v) (k : Ext v w) : Ext u w := Below.trans h (k.mono h.size)
theorem Ext.of {u v : World} (h : Below u.heap.size u v) : Ext u v := h
theorem Ext.size {w w' : World} (h : Ext w w') : w.heap.size ≤ w'.heap.size := Below.size h
/-- Two cells of a box, written. -/
abbrev set2 (w : World) (g : Nat) (x y : Value) : World := (w.setCell ⟨g, 0, none⟩ x).setCell ⟨g, 1, none⟩ y
theorem Ext.set2 {w w' : World} (h : Ext w w') {g : Nat} (hg : w.heap.size ≤ g) (x y : Value) : Ext w (Go.Proofs.YtnhfdcfnojnofaaGreatDoor.set2 w' g x y) :=
  (Below.setCell (p := ⟨g, 0, none⟩) h hg x).setCell (p := ⟨g, 1, none⟩) hg y
theorem Ext.set3 {w w' : World} (h : Ext w w') {g : Nat} (hg : w.heap.size ≤ g) (x y z : Value) : Ext w (Go.Proofs.YtnhfdcfnojnofaaGreatDoor.set3 w' g x y z) := below_set3 h hg x y z

/-- A cell that was there holds what it held. -/
theorem Ext.cell {w w' : World} (h : Ext w w') {p : Addr} {v : Value} (hv : w.cell? p = some v) : w'.cell? p = some v :=
  (Below.cell h (block_lt_of_cell hv)).trans hv

abbrev Z3 : Obj := .cells #[.bool false, .slice none 0 0, .slice none 0 0] 103
theorem ZBox.one (w : World) : ZBox (w.alloc Z3) w.heap.size := Box3.new w _ _ _ _
theorem ZBox.two (w : World) (o : Obj) : ZBox ((w.alloc o).alloc Z3) (w.heap.size + 1) := Box3.new1 w o _ _ _ _
abbrev ZBox2 (w : World) (g : Nat) : Prop := Box2 w g (.bool false) (.slice none 0 0)
theorem ZBox2.one (w : World) : ZBox2 (w.alloc (.cells #[.bool false, .slice none 0 0] 101)) w.heap.size := Box2.new w _ _ _
/-- Two boxes that hold fractions, and the result's, behind a statement. -/
def Cut2 (w : World) (p r : Int) (q s : Nat) (s5 s6 : Value) (wc : World) : Prop :=
  ∃ g5 g6 : Nat, s5 = .pointer (some ⟨g5, 0, none⟩) ∧ s6 = .pointer (some ⟨g6, 0, none⟩) ∧ FracBox wc g5 p q ∧ FracBox wc g6 r s ∧ ZBox wc (w.heap.size + 1 + 1) ∧ Below w.heap.size w wc ∧ w.heap.size + 1 + 1 < g5 ∧ w.heap.size + 1 + 1 < g6

end Go.Proofs.YtnhfdcfnojnofaaGreatDoor
