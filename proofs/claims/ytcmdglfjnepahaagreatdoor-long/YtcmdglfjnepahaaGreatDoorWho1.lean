/-
  What package whole does.
-/
import Derived.Test.YtcmdglfjnepahaaGreatDoorNat11
set_option linter.unusedSimpArgs false
set_option linter.unusedVariables false
namespace Go.Proofs.YtcmdglfjnepahaaGreatDoor
open Go.RowKit

theorem NatV.slice {w : World} {v : Value} {n : Nat} (h : NatV w v n) : ∃ ao l cap, v = .slice ao l cap := by
  obtain ⟨ds, ⟨ao, cap, hv, _⟩, _⟩ := h
  exact ⟨ao, _, cap, hv⟩

/-- A store into a cell that holds no digit leaves every natural alone. -/
theorem NatV.setCell {w : World} {v : Value} {n : Nat} (h : NatV w v n) {a : Addr} {y : Value} (hy : w.cell? a = some y) (hn : ∀ k, y ≠ .int .u32 k) (x : Value) : NatV (w.setCell a x) v n := by
  obtain ⟨ds, ⟨ao, cap, hv, hc, hr⟩, h2⟩ := h
  refine ⟨ds, ⟨ao, cap, hv, hc, fun hne => ?_⟩, h2⟩
  obtain ⟨b, off, ha, hb, hrow⟩ := hr hne
  refine ⟨b, off, ha, by simpa using hb, fun i hi => ?_⟩
  rw [World.cell?_setCell_other _ _ _ _ (by
    intro he
    have := hrow i hi
    rw [← he, hy, Option.some.injEq] at this
    exact hn _ this)]
  exact hrow i hi

/-- A struct value that stands for a whole number. -/
def WholeV (w : World) (x : Value) (z : Int) : Prop := ∃ b v, x = .agg #[.bool b, v] ∧ NatV w v z.natAbs ∧ Hid (b = decide (z < 0))

theorem WholeV.below {w w' : World} {x : Value} {z : Int} (h : WholeV w x z) (hb : Below w.heap.size w w') : WholeV w' x z := by
  obtain ⟨b, v, h1, h2, h3⟩ := h
  exact ⟨b, v, h1, h2.below hb, h3⟩

/-- The number of a sign and a size. -/
def sg (b : Bool) (n : Nat) : Int := if b then -(n : Int) else n

theorem sg_abs (b : Bool) (n : Nat) : (sg b n).natAbs = n := by cases b <;> simp [sg]
theorem sg_neg (b : Bool) (n : Nat) : decide (sg b n < 0) = (b && !(n == 0)) := by
  cases b
  · simp [sg]
  · by_cases h : n = 0
    · subst h; simp [sg]
    · have h1 : 0 < n := Nat.pos_of_ne_zero h
      have h2 : (n == 0) = false := beq_eq_false_iff_ne.2 h
      simp [sg, h1, h2]

theorem wholeV_sg {w : World} {b c : Bool} {v : Value} {n : Nat} (h : NatV w v n) (hc : c = (b && !(n == 0))) : WholeV w (.agg #[.bool c, v]) (sg b n) :=
  ⟨c, v, rfl, by rw [sg_abs]; exact h, by rw [Hid, sg_neg]; exact hc⟩

/-- A whole laid into a box of its own and read from there. -/
theorem wholeV_boxed {w : World} {g : Nat} {b0 b : Bool} {a0 : Option Addr} {l0 c0 : Nat} {v : Value} {z : Int} (hv : NatV w v z.natAbs) (hb : Hid (b = decide (z < 0))) (h0 : w.cell? ⟨g, 0, none⟩ = some (.bool b0)) (h1 : w.cell? ⟨g, 1, none⟩ = some (.slice a0 l0 c0)) :
    WholeV ((w.setCell ⟨g, 0, none⟩ (.bool b)).setCell ⟨g, 1, none⟩ v) (.agg #[.bool b, v]) z := by
  refine ⟨b, v, rfl, ?_, hb⟩
  refine (hv.setCell h0 (by simp) _).setCell (y := .slice a0 l0 c0) ?_ (by simp) _
  rw [World.cell?_setCell_other _ _ _ _ (by simp)]
  exact h1

theorem WholeV.setCell {w : World} {x : Value} {z : Int} (h : WholeV w x z) {a : Addr} {y : Value} (hy : w.cell? a = some y) (hn : ∀ k, y ≠ .int .u32 k) (u : Value) : WholeV (w.setCell a u) x z := by
  obtain ⟨b, v, h1, h2, h3⟩ := h
  exact ⟨b, v, h1, h2.setCell hy hn u, h3⟩

theorem WholeV.drewN {w : World} {x : Value} {z : Int} (h : WholeV w x z) (q : Nat) : WholeV (w.drewN q) x z := h
theorem WholeV.alloc {w : World} {x : Value} {z : Int} (h : WholeV w x z) (o : Obj) : WholeV (w.alloc o) x z := h.below ((Below.refl _ _).alloc (Nat.le_refl _) o)
theorem WholeV.parts {w : World} {x : Value} {z : Int} (h : WholeV w x z) : ∃ b ao l cap, x = .agg #[.bool b, .slice ao l cap] ∧ NatV w (.slice ao l cap) z.natAbs ∧ Hid (b = decide (z < 0)) := by
  obtain ⟨b, v, h1, h2, h3⟩ := h
  obtain ⟨ao, l, cap, rfl⟩ := h2.slice
  exact ⟨b, ao, l, cap, h1, h2, h3⟩

set_option maxRecDepth 100000 in
set_option maxHeartbeats 400000 in
theorem signed_any (w : World) (b : Bool) (v : Value) (n : Nat) (h : NatV w v n) :
    Calls Tryz.prog 77 #[.bool b, v] w fun e w' => ∃ x, e = .returned x ∧ WholeV w' x (sg b n) ∧ Below w.heap.size w w' := by
  obtain ⟨ao, l, cap, rfl⟩ := h.slice
  cases b with
  | false =>
    go_enter Tryz.func77, Tryz.ntmps77
    go_wp2
    exact bodyPost_ret (v := .agg #[.bool false, .slice ao l cap]) (by simp [results, Tryz.results77, go_sem]) rfl ⟨_, rfl, wholeV_sg (h.alloc _) rfl, (Below.refl _ _).alloc (Nat.le_refl _) _⟩
  | true =>
    by_cases h0 : n = 0
    · subst h0
      go_enter Tryz.func77, Tryz.ntmps77
      go_wp2_with fail
      refine (isZero_yes _ _ (h.alloc _)).mono ?_
      rintro e w' ⟨rfl, rfl⟩
      go_wp2
      exact bodyPost_ret (v := .agg #[.bool false, .slice ao l cap]) (by simp [results, Tryz.results77, go_sem]) rfl ⟨_, rfl, wholeV_sg (h.alloc _) rfl, (Below.refl _ _).alloc (Nat.le_refl _) _⟩
    · go_enter Tryz.func77, Tryz.ntmps77
      go_wp2_with fail
      refine (isZero_no _ _ n (h.alloc _) h0).mono ?_
      rintro e w' ⟨rfl, rfl⟩
      go_wp2
      exact bodyPost_ret (v := .agg #[.bool true, .slice ao l cap]) (by simp [results, Tryz.results77, go_sem]) rfl ⟨_, rfl, wholeV_sg (h.alloc _) (by simp [h0]), (Below.refl _ _).alloc (Nat.le_refl _) _⟩

set_option maxRecDepth 100000 in
set_option maxHeartbeats 400000 in
theorem ofNatural_any (w : World) (v : Value) (n : Nat) (h : NatV w v n) :
    Calls Tryz.prog 156 #[v] w fun e w' => ∃ x, e = .returned x ∧ WholeV w' x (n : Int) ∧ Below w.heap.size w w' := by
  go_enter Tryz.func156, Tryz.ntmps156
  go_wp2_with fail
  refine (signed_any _ _ _ n (h.alloc _)).mono ?_
  rintro e w' ⟨x, rfl, hx, hb⟩
  have hfin := hx
  rw [show sg false n = (n : Int) from rfl] at hx
  obtain ⟨b, ao, l, cap, rfl, hv', hbb⟩ := hx.parts
  obtain ⟨hc, hf⟩ := bcell hb
  have hz := hb.size
  have c0 : w'.cell? ⟨w.heap.size, 0, none⟩ = some (.bool false) := by rw [hc _ _ (by simp)]; simp
  have c1 : w'.cell? ⟨w.heap.size, 1, none⟩ = some (.slice none 0 0) := by rw [hc _ _ (by simp)]; simp
  have f0 : w'.frozen? ⟨w.heap.size, 0, none⟩ = false := by rw [hf _ _ (by simp)]; simp
  have f1 : w'.frozen? ⟨w.heap.size, 1, none⟩ = false := by rw [hf _ _ (by simp)]; simp
  clear hc hf
  go_wp2
  exact bodyPost_ret (v := .agg #[.bool b, .slice ao l cap]) (by simp [results, Tryz.results156, go_sem, c0, c1]) rfl ⟨_, rfl, wholeV_boxed hv' hbb c0 c1,
    ((((Below.refl _ _).alloc (Nat.le_refl _) _).trans (hb.mono (by simp))).setCell (Nat.le_refl _) _).setCell (Nat.le_refl _) _⟩
end Go.Proofs.YtcmdglfjnepahaaGreatDoor
