/-
  Part 7 of the texts ahead of Pls1: Who2, Who3, Who4, Fra1, Fra2, Fra3.
-/
import Derived.Test.YtnhfdcfnojnofaaGreatDoorPls1Z6
import Derived.Deep.RegionHeld
set_option linter.unusedSimpArgs false
set_option linter.unusedVariables false
/-
  What package whole does: Size, Sign, Turned, Times, Plus.
-/
namespace Go.Proofs.YtnhfdcfnojnofaaGreatDoor
open Go.RowKit

theorem neg_of {z : Int} {b : Bool} (h : Hid (b = decide (z < 0))) : z = sg b z.natAbs := by
  have h1 := h.out
  subst h1
  by_cases hz : z < 0
  · simp [sg, hz]; omega
  · simp [sg, hz]; omega

theorem below2 (w : World) (A B : Obj) : Below w.heap.size w ((w.alloc A).alloc B) := ((Below.refl _ _).alloc (Nat.le_refl _) _).alloc (by simp) _
theorem below3 (w : World) (A B C : Obj) : Below w.heap.size w (((w.alloc A).alloc B).alloc C) := (below2 w A B).alloc (by simp; omega) _

theorem far {w : World} {g o h p : Nat} {x : Value} (hne : g ≠ h) : (w.setCell ⟨g, o, none⟩ x).cell? ⟨h, p, none⟩ = w.cell? ⟨h, p, none⟩ :=
  World.cell?_setCell_other _ _ _ _ (fun e => hne (by injection e))

/-- A box of two cells that may be written. -/
def Box2 (w : World) (g : Nat) (x y : Value) : Prop :=
  w.cell? ⟨g, 0, none⟩ = some x ∧ w.cell? ⟨g, 1, none⟩ = some y ∧ w.frozen? ⟨g, 0, none⟩ = false ∧ w.frozen? ⟨g, 1, none⟩ = false ∧ g < w.heap.size
theorem Box2.below {w w' : World} {g : Nat} {x y : Value} (h : Box2 w g x y) (hb : Below w.heap.size w w') : Box2 w' g x y := by
  obtain ⟨h1, h2, h3, h4, h5⟩ := h
  exact ⟨(hb.cell (p := ⟨g, 0, none⟩) h5).trans h1, (hb.cell (p := ⟨g, 1, none⟩) h5).trans h2, (hb.frozen (p := ⟨g, 0, none⟩) h5).trans h3, (hb.frozen (p := ⟨g, 1, none⟩) h5).trans h4, Nat.lt_of_lt_of_le h5 hb.size⟩
theorem Box2.new (w : World) (x y : Value) (t : TypeId) : Box2 (w.alloc (.cells #[x, y] t)) w.heap.size x y := by
  refine ⟨?_, ?_, ?_, ?_, ?_⟩ <;> simp
theorem Box2.alloc {w : World} {g : Nat} {x y : Value} (h : Box2 w g x y) (o : Obj) : Box2 (w.alloc o) g x y := h.below ((Below.refl _ _).alloc (Nat.le_refl _) o)
theorem Box2.drew {w : World} {g : Nat} {x y : Value} (h : Box2 w g x y) : Box2 w.drew g x y := h
theorem Box2.drewN {w : World} {g : Nat} {x y : Value} (h : Box2 w g x y) (q : Nat) : Box2 (w.drewN q) g x y := h

set_option maxRecDepth 100000 in
set_option maxHeartbeats 400000 in
theorem sign_any (w : World) (x : Value) (z : Int) (h : WholeV w x z) :
    Calls Tryz.prog 242 #[x] w fun e w' => e = .returned (.int .i64 z.sign) ∧ Below w.heap.size w w' := by
  obtain ⟨b, ao, l, cap, rfl, hv, hb⟩ := h.parts
  cases b with
  | true =>
    have hz : z < 0 := by have := hb.out; simpa using this
    go_enter Tryz.func242, Tryz.ntmps242
    go_wp2
    go_ret
    exact ⟨ret_int (by rw [Int.sign_eq_neg_one_of_neg hz]), (Below.refl _ _).alloc (Nat.le_refl _) _⟩
  | false =>
    have hz : ¬ z < 0 := by have := hb.out; simpa using this
    by_cases h0 : z.natAbs = 0
    · have hz0 : z = 0 := by omega
      subst hz0
      go_enter Tryz.func242, Tryz.ntmps242
      go_wp2_with fail
      refine (isZero_yes _ _ (hv.alloc _)).mono ?_
      rintro e w' ⟨rfl, rfl⟩
      go_wp2
      go_ret
      exact ⟨rfl, (Below.refl _ _).alloc (Nat.le_refl _) _⟩
    · have hz1 : 0 < z := by omega
      go_enter Tryz.func242, Tryz.ntmps242
      go_wp2_with fail
      refine (isZero_no _ _ _ (hv.alloc _) h0).mono ?_
      rintro e w' ⟨rfl, rfl⟩
      go_wp2
      go_ret
      exact ⟨ret_int (by rw [Int.sign_eq_one_of_pos hz1]), (Below.refl _ _).alloc (Nat.le_refl _) _⟩

set_option maxRecDepth 100000 in
set_option maxHeartbeats 400000 in
theorem wturned_any (w : World) (x : Value) (z : Int) (h : WholeV w x z) :
    Calls Tryz.prog 209 #[x] w fun e w' => ∃ y, e = .returned y ∧ WholeV w' y (-z) ∧ Below w.heap.size w w' := by
  obtain ⟨b, ao, l, cap, rfl, hv, hb⟩ := h.parts
  have hs : sg (!b) z.natAbs = -z := by
    rw [neg_of hb]
    cases b <;> simp [sg]
  go_enter Tryz.func209, Tryz.ntmps209
  go_wp2_with fail
  refine (signed_any _ _ _ z.natAbs ((hv.alloc _).alloc _)).mono ?_
  rintro e w' ⟨y, rfl, hy, hbel⟩
  rw [hs] at hy
  obtain ⟨b2, ao2, l2, cap2, rfl, hv2, hb2⟩ := hy.parts
  obtain ⟨hc, hf⟩ := bcell hbel
  have c0 : w'.cell? ⟨w.heap.size + 1, 0, none⟩ = some (.bool false) := by rw [hc _ _ (by simp)]; simp
  have c1 : w'.cell? ⟨w.heap.size + 1, 1, none⟩ = some (.slice none 0 0) := by rw [hc _ _ (by simp)]; simp
  clear hs
  go_wp2
  exact bodyPost_ret (v := .agg #[.bool b2, .slice ao2 l2 cap2]) (by simp [results, Tryz.results209, go_sem, c0, c1]) rfl ⟨_, rfl, wholeV_boxed hv2 hb2 c0 c1,
    (((below2 w _ _).trans (hbel.mono (below2 w _ _).size)).setCell (by simp) _).setCell (by simp) _⟩

set_option maxRecDepth 100000 in
set_option maxHeartbeats 1000000 in
theorem wplus_any (w : World) (x y : Value) (z t : Int) (K : Nat) (hK : K ≤ 1073741823) (h : WholeV w x z) (k : WholeV w y t) (hz : z.natAbs < 4294967296 ^ K) (ht : t.natAbs < 4294967296 ^ K) :
    Calls Tryz.prog 203 #[x, y] w fun e w' => ∃ s, e = .returned s ∧ WholeV w' s (z + t) ∧ Below w.heap.size w w' := by
  obtain ⟨b, ao, l, cap, rfl, hv, hb⟩ := h.parts
  obtain ⟨c, ao', l', cap', rfl, hv', hb'⟩ := k.parts
  have e1 := neg_of hb
  have e2 := neg_of hb'
  by_cases hbc : b = c
  · subst hbc
    have hs : sg b (z.natAbs + t.natAbs) = z + t := by
      cases b <;> simp [sg] at * <;> omega
    have HS := hide hs
    have hbb : (b == b) = true := by simp
    clear e1 e2 hs
    go_enter Tryz.func203, Tryz.ntmps203
    go_wp2
    have hbox : Box2 (((w.alloc (.cells #[.bool b, .slice ao l cap] 101)).alloc (.cells #[.bool b, .slice ao' l' cap'] 101)).alloc (.cells #[.bool false, .slice none 0 0] 101)) (w.heap.size + 1 + 1) (.bool false) (.slice none 0 0) := by
      have := Box2.new ((w.alloc (.cells #[.bool b, .slice ao l cap] 101)).alloc (.cells #[.bool b, .slice ao' l' cap'] 101)) (.bool false) (.slice none 0 0) 101
      simpa using this
    have hboxQ : Box2 (((w.alloc (.cells #[.bool b, .slice ao l cap] 101)).alloc (.cells #[.bool b, .slice ao' l' cap'] 101)).alloc (.cells #[.bool false, .slice none 0 0] 101)) (w.heap.size + 1) (.bool b) (.slice ao' l' cap') := by
      have := (Box2.new (w.alloc (.cells #[.bool b, .slice ao l cap] 101)) (.bool b) (.slice ao' l' cap') 101).alloc (.cells #[.bool false, .slice none 0 0] 101)
      simpa using this
    have hboxP : Box2 (((w.alloc (.cells #[.bool b, .slice ao l cap] 101)).alloc (.cells #[.bool b, .slice ao' l' cap'] 101)).alloc (.cells #[.bool false, .slice none 0 0] 101)) w.heap.size (.bool b) (.slice ao l cap) := ((Box2.new w _ _ _).alloc _).alloc _
    have hb3 := below3 w (.cells #[.bool b, .slice ao l cap] 101) (.cells #[.bool b, .slice ao' l' cap'] 101) (.cells #[.bool false, .slice none 0 0] 101)
    go_region_held (fun w' => w'.cell? ⟨w.heap.size, 0, none⟩ = some (.bool b) ∧ w'.cell? ⟨w.heap.size, 1, none⟩ = some (.slice ao l cap) ∧ w'.cell? ⟨w.heap.size + 1, 1, none⟩ = some (.slice ao' l' cap')) (first | (refine ⟨?_, ?_, ?_⟩ <;> (rw [far, far] <;> first | assumption | omega)) | go_keep) (first | (go_at_call 221; refine (plus_any _ _ _ z.natAbs t.natAbs K (by exact NatV.drew (((hv.alloc _).alloc _).alloc _)) (by exact NatV.drew (((hv'.alloc _).alloc _).alloc _)) hz ht hK).mono ?_; rintro e wA ⟨s, rfl, hs, hbs⟩; have hboxP2 := hboxP.drew.below hbs; obtain ⟨p0, p1, p2, p3, p4⟩ := hboxP2; have hboxQ2 := hboxQ.drew.below hbs; obtain ⟨q0, q1, q2, q3, q4⟩ := hboxQ2) | (go_at_call 129; refine (signed_any _ _ _ _ hs).mono ?_; rintro e wB ⟨r, rfl, hr, hbr⟩; rw [HS.out] at hr; obtain ⟨b2, ao2, l2, cap2, rfl, hv2, hb2⟩ := hr.parts; have hboxP3 := (hboxP.drew.below hbs).below hbr; obtain ⟨r0, r1, r2, r3, r4⟩ := hboxP3; have hboxQ3 := (hboxQ.drew.below hbs).below hbr; obtain ⟨t0, t1, t2, t3, t4⟩ := hboxQ3; have hbox2 := (hbox.drew.below hbs).below hbr; obtain ⟨c0, c1, f0, f1, g0⟩ := hbox2))
    have hbA : Below w.heap.size w wA := hb3.trans (Below.mono (w := ((w.alloc (.cells #[.bool b, .slice ao l cap] 101)).alloc (.cells #[.bool b, .slice ao' l' cap'] 101)).alloc (.cells #[.bool false, .slice none 0 0] 101)) ⟨hbs.os, hbs.tape, hbs.output, hbs.size, hbs.block⟩ hb3.size)
    have hbB : Below w.heap.size w wB := hbA.trans (hbr.mono hbA.size)
    go_wp2
    exact bodyPost_ret (v := .agg #[.bool b2, .slice ao2 l2 cap2]) (by simp [results, Tryz.results203, go_sem, c0, c1]) rfl ⟨_, rfl, wholeV_boxed hv2 hb2 c0 c1,
      (hbB.setCell (by simp; omega) _).setCell (by simp; omega) _⟩
  · have hbc2 : (b == c) = false := by simpa using hbc
    have hbox : Box2 (((w.alloc (.cells #[.bool b, .slice ao l cap] 101)).alloc (.cells #[.bool c, .slice ao' l' cap'] 101)).alloc (.cells #[.bool false, .slice none 0 0] 101)) (w.heap.size + 1 + 1) (.bool false) (.slice none 0 0) := by
      have := Box2.new ((w.alloc (.cells #[.bool b, .slice ao l cap] 101)).alloc (.cells #[.bool c, .slice ao' l' cap'] 101)) (.bool false) (.slice none 0 0) 101
      simpa using this
    have hb3 := below3 w (.cells #[.bool b, .slice ao l cap] 101) (.cells #[.bool c, .slice ao' l' cap'] 101) (.cells #[.bool false, .slice none 0 0] 101)
    by_cases hlt : z.natAbs < t.natAbs
    · have hs : sg c ((z.natAbs - t.natAbs) + (t.natAbs - z.natAbs)) = z + t := by
        cases b <;> cases c <;> simp [sg] at * <;> omega
      have HS := hide hs
      clear e1 e2 hs hbc
      go_enter Tryz.func203, Tryz.ntmps203
      go_wp2_with fail
      refine (compare_any _ _ _ z.natAbs t.natAbs K (((hv.alloc _).alloc _).alloc _) (((hv'.alloc _).alloc _).alloc _) hz ht (by omega)).mono ?_
      rintro e w1 ⟨rfl, q, rfl⟩
      rw [cmpI_lt hlt]
      go_wp2_with fail
      refine (apart_any _ _ _ z.natAbs t.natAbs K (by exact NatV.drewN (((hv.alloc _).alloc _).alloc _) q) (by exact NatV.drewN (((hv'.alloc _).alloc _).alloc _) q) hz ht hK).mono ?_
      rintro e wA ⟨s, rfl, hs, hbs⟩
      go_wp2_with fail
      refine (signed_any _ _ _ _ hs).mono ?_
      rintro e wB ⟨r, rfl, hr, hbr⟩
      rw [HS.out] at hr
      obtain ⟨b2, ao2, l2, cap2, rfl, hv2, hb2⟩ := hr.parts
      have hbox2 := ((hbox.drewN q).below hbs).below hbr
      have hbA : Below w.heap.size w wA := hb3.trans ((below_ofDrewN hbs).mono hb3.size)
      have hbB : Below w.heap.size w wB := hbA.trans (hbr.mono hbA.size)
      obtain ⟨c0, c1, f0, f1, g0⟩ := hbox2
      clear hbs hbr hbA hs hbox
      go_wp2
      exact bodyPost_ret (v := .agg #[.bool b2, .slice ao2 l2 cap2]) (by simp [results, Tryz.results203, go_sem, c0, c1]) rfl ⟨_, rfl, wholeV_boxed hv2 hb2 c0 c1,
        (hbB.setCell (by simp; omega) _).setCell (by simp; omega) _⟩
    · have hs : sg b ((z.natAbs - t.natAbs) + (t.natAbs - z.natAbs)) = z + t := by
        cases b <;> cases c <;> simp [sg] at * <;> omega
      have HS := hide hs
      have hc0 : 0 ≤ cmpI z.natAbs t.natAbs := by
        rcases Nat.lt_or_ge t.natAbs z.natAbs with h | h
        · rw [cmpI_gt h]; omega
        · rw [cmpI_eq (by omega)]; omega
      clear e1 e2 hs hbc
      go_enter Tryz.func203, Tryz.ntmps203
      go_wp2_with fail
      refine (compare_any _ _ _ z.natAbs t.natAbs K (((hv.alloc _).alloc _).alloc _) (((hv'.alloc _).alloc _).alloc _) hz ht (by omega)).mono ?_
      rintro e w1 ⟨rfl, q, rfl⟩
      generalize cmpI z.natAbs t.natAbs = cc at *
      go_wp2_with fail
      refine (apart_any _ _ _ z.natAbs t.natAbs K (by exact NatV.drewN (((hv.alloc _).alloc _).alloc _) q) (by exact NatV.drewN (((hv'.alloc _).alloc _).alloc _) q) hz ht hK).mono ?_
      rintro e wA ⟨s, rfl, hs, hbs⟩
      go_wp2_with fail
      refine (signed_any _ _ _ _ hs).mono ?_
      rintro e wB ⟨r, rfl, hr, hbr⟩
      rw [HS.out] at hr
      obtain ⟨b2, ao2, l2, cap2, rfl, hv2, hb2⟩ := hr.parts
      have hbox2 := ((hbox.drewN q).below hbs).below hbr
      have hbA : Below w.heap.size w wA := hb3.trans ((below_ofDrewN hbs).mono hb3.size)
      have hbB : Below w.heap.size w wB := hbA.trans (hbr.mono hbA.size)
      obtain ⟨c0, c1, f0, f1, g0⟩ := hbox2
      clear hbs hbr hbA hs hbox
      go_wp2
      exact bodyPost_ret (v := .agg #[.bool b2, .slice ao2 l2 cap2]) (by simp [results, Tryz.results203, go_sem, c0, c1]) rfl ⟨_, rfl, wholeV_boxed hv2 hb2 c0 c1,
        (hbB.setCell (by simp; omega) _).setCell (by simp; omega) _⟩
end Go.Proofs.YtnhfdcfnojnofaaGreatDoor

/-
  What package whole does: Times, Of, FloorOver, Compare.
-/
namespace Go.Proofs.YtnhfdcfnojnofaaGreatDoor
open Go.RowKit

set_option maxRecDepth 100000 in
set_option maxHeartbeats 400000 in
theorem wof_any (w : World) (n : Nat) (hn : n < 9223372036854775808) :
    Calls Tryz.prog 152 #[.int .i64 (n : Nat)] w fun e w' => ∃ s, e = .returned s ∧ WholeV w' s (n : Int) ∧ Below w.heap.size w w' := by
  have hbox : Box2 (w.alloc (.cells #[.bool false, .slice none 0 0] 101)) w.heap.size (.bool false) (.slice none 0 0) := Box2.new _ _ _ _
  have hb1 : Below w.heap.size w (w.alloc (.cells #[.bool false, .slice none 0 0] 101)) := (Below.refl _ _).alloc (Nat.le_refl _) _
  go_enter Tryz.func152, Tryz.ntmps152
  go_wp2_with fail
  refine (of_int _ _ n (by simp) (by omega)).mono ?_
  rintro e wA ⟨s, rfl, hs, hbs⟩
  go_wp2_with fail
  refine (signed_any _ _ _ _ hs).mono ?_
  rintro e wB ⟨r, rfl, hr, hbr⟩
  rw [show sg false n = (n : Int) from rfl] at hr
  obtain ⟨b2, ao2, l2, cap2, rfl, hv2, hb2⟩ := hr.parts
  have hbox2 := (hbox.below hbs).below hbr
  have hbA : Below w.heap.size w wA := hb1.trans (hbs.mono hb1.size)
  have hbB : Below w.heap.size w wB := hbA.trans (hbr.mono hbA.size)
  obtain ⟨c0, c1, f0, f1, g0⟩ := hbox2
  clear hbs hbr hbA hs hbox
  go_wp2
  exact bodyPost_ret (v := .agg #[.bool b2, .slice ao2 l2 cap2]) (by simp [results, Tryz.results152, go_sem, c0, c1]) rfl ⟨_, rfl, wholeV_boxed hv2 hb2 c0 c1,
    (hbB.setCell (by simp) _).setCell (by simp) _⟩

end Go.Proofs.YtnhfdcfnojnofaaGreatDoor

/-
  What package whole does: Compare.
-/
namespace Go.Proofs.YtnhfdcfnojnofaaGreatDoor
open Go.RowKit

theorem cmpI_iff (a b : Nat) : (cmpI a b < 0 ↔ a < b) ∧ (cmpI a b = 0 ↔ a = b) := by
  rcases Nat.lt_trichotomy a b with h | h | h
  · rw [cmpI_lt h]; omega
  · rw [cmpI_eq h]; omega
  · rw [cmpI_gt h]; omega

set_option maxRecDepth 100000 in
set_option maxHeartbeats 1000000 in
theorem wcompare_any (w : World) (x y : Value) (z t : Int) (K : Nat) (hK : K ≤ 1073741823) (h : WholeV w x z) (k : WholeV w y t) (hz : z.natAbs < 4294967296 ^ K) (ht : t.natAbs < 4294967296 ^ K) :
    Calls Tryz.prog 151 #[x, y] w fun e w' => ∃ c : Int, e = .returned (.int .i64 c) ∧ (c < 0 ↔ z < t) ∧ (c = 0 ↔ z = t) ∧ -2 ≤ c ∧ c ≤ 2 ∧ Below w.heap.size w w' := by
  have h0 := h
  have k0 := k
  obtain ⟨b, ao, l, cap, rfl, hv, hb⟩ := h.parts
  obtain ⟨c, ao', l', cap', rfl, hv', hb'⟩ := k.parts
  have hb2 := below2 w (.cells #[.bool b, .slice ao l cap] 101) (.cells #[.bool c, .slice ao' l' cap'] 101)
  have hbd : ∀ a b, -2 ≤ cmpI a b ∧ cmpI a b ≤ 2 := by
    intro a b; unfold cmpI; split
    · omega
    · split <;> omega
  by_cases hbc : b = c
  · subst hbc
    have hbb : (b == b) = true := by simp
    cases b with
    | true =>
      have hz0 : z < 0 := by have := hb.out; simp at this; omega
      have ht0 : t < 0 := by have := hb'.out; simp at this; omega
      have hcmp := cmpI_iff t.natAbs z.natAbs
      have HC : Hid ((cmpI t.natAbs z.natAbs < 0 ↔ z < t) ∧ (cmpI t.natAbs z.natAbs = 0 ↔ z = t)) := by
        rw [Hid, hcmp.1, hcmp.2]; omega
      have HB := hide (hbd t.natAbs z.natAbs)
      clear hcmp hbd
      go_enter Tryz.func151, Tryz.ntmps151
      go_wp2_with fail
      refine (compare_any _ _ _ t.natAbs z.natAbs K ((hv'.alloc _).alloc _) ((hv.alloc _).alloc _) ht hz (by omega)).mono ?_
      rintro e w1 ⟨rfl, q, rfl⟩
      go_wp2
      go_ret
      exact ⟨_, rfl, HC.out.1, HC.out.2, HB.out.1, HB.out.2, below_toDrewN hb2⟩
    | false =>
      have hz0 : 0 ≤ z := by have := hb.out; simp at this; omega
      have ht0 : 0 ≤ t := by have := hb'.out; simp at this; omega
      have hcmp := cmpI_iff z.natAbs t.natAbs
      have HC : Hid ((cmpI z.natAbs t.natAbs < 0 ↔ z < t) ∧ (cmpI z.natAbs t.natAbs = 0 ↔ z = t)) := by
        rw [Hid, hcmp.1, hcmp.2]; omega
      have HB := hide (hbd z.natAbs t.natAbs)
      clear hcmp hbd
      go_enter Tryz.func151, Tryz.ntmps151
      go_wp2_with fail
      refine (compare_any _ _ _ z.natAbs t.natAbs K ((hv.alloc _).alloc _) ((hv'.alloc _).alloc _) hz ht (by omega)).mono ?_
      rintro e w1 ⟨rfl, q, rfl⟩
      go_wp2
      go_ret
      exact ⟨_, rfl, HC.out.1, HC.out.2, HB.out.1, HB.out.2, below_toDrewN hb2⟩
  · have hbb : (b == c) = false := by simpa using hbc
    have hboxQ : Box2 ((w.alloc (.cells #[.bool b, .slice ao l cap] 101)).alloc (.cells #[.bool c, .slice ao' l' cap'] 101)) (w.heap.size + 1) (.bool c) (.slice ao' l' cap') := by
      have := Box2.new (w.alloc (.cells #[.bool b, .slice ao l cap] 101)) (.bool c) (.slice ao' l' cap') 101
      simpa using this
    have hboxP : Box2 ((w.alloc (.cells #[.bool b, .slice ao l cap] 101)).alloc (.cells #[.bool c, .slice ao' l' cap'] 101)) w.heap.size (.bool b) (.slice ao l cap) := (Box2.new w _ _ _).alloc _
    have hsg : -1 ≤ z.sign ∧ z.sign ≤ 1 ∧ -1 ≤ t.sign ∧ t.sign ≤ 1 := by
      rcases Int.lt_trichotomy z 0 with h | h | h <;> rcases Int.lt_trichotomy t 0 with k | k | k <;> simp [Int.sign_eq_neg_one_of_neg, Int.sign_eq_one_of_pos, h, k]
    have HC : Hid ((z.sign - t.sign < 0 ↔ z < t) ∧ (z.sign - t.sign = 0 ↔ z = t)) := by
      have e1 := hb.out
      have e2 := hb'.out
      rw [Hid]
      by_cases hz0 : z < 0
      · have ht0 : 0 ≤ t := by
          rcases Int.lt_or_le t 0 with h | h
          · exact absurd (by rw [e1, e2]; simp [hz0, h]) hbc
          · exact h
        rw [Int.sign_eq_neg_one_of_neg hz0]
        rcases Int.lt_or_eq_of_le ht0 with h | h
        · rw [Int.sign_eq_one_of_pos h]; omega
        · rw [← h]; simp; omega
      · have ht0 : t < 0 := by
          rcases Int.lt_or_le t 0 with h | h
          · exact h
          · exact absurd (by rw [e1, e2]; simp [hz0]; omega) hbc
        rw [Int.sign_eq_neg_one_of_neg ht0]
        rcases Int.lt_or_eq_of_le (show 0 ≤ z by omega) with h | h
        · rw [Int.sign_eq_one_of_pos h]; omega
        · rw [← h]; simp; omega
    obtain ⟨s1, s2, s3, s4⟩ := hsg
    have HW : Hid (IntKind.i64.wrap (z.sign - t.sign) = z.sign - t.sign) := by
      rw [Hid]
      have hd : -2 ≤ z.sign - t.sign ∧ z.sign - t.sign ≤ 2 := by omega
      generalize z.sign - t.sign = d at hd
      simp [IntKind.wrap, IntKind.signed, IntKind.bits]
      omega
    clear hbd hbc
    go_enter Tryz.func151, Tryz.ntmps151
    go_wp2
    go_region_held (fun w' => w'.cell? ⟨w.heap.size, 0, none⟩ = some (.bool b) ∧ w'.cell? ⟨w.heap.size, 1, none⟩ = some (.slice ao l cap) ∧ w'.cell? ⟨w.heap.size + 1, 0, none⟩ = some (.bool c) ∧ w'.cell? ⟨w.heap.size + 1, 1, none⟩ = some (.slice ao' l' cap')) (go_keep) (first | (go_at_call_of 242 (Value.bool b); refine (sign_any _ _ z (by exact WholeV.drewN ((h0.alloc _).alloc _) 1)).mono ?_; rintro e wA ⟨rfl, hbs⟩; have hboxP2 := hboxP.drew.below hbs; obtain ⟨p0, p1, p2, p3, p4⟩ := hboxP2; have hboxQ2 := hboxQ.drew.below hbs; obtain ⟨q0, q1, q2, q3, q4⟩ := hboxQ2) | (go_at_call_of 242 (Value.bool c); refine (sign_any _ _ t (by exact (WholeV.drewN ((k0.alloc _).alloc _) 1).below hbs)).mono ?_; rintro e wB ⟨rfl, hbr⟩; have hboxP3 := (hboxP.drew.below hbs).below hbr; obtain ⟨r0, r1, r2, r3, r4⟩ := hboxP3; have hboxQ3 := (hboxQ.drew.below hbs).below hbr; obtain ⟨t0, t1, t2, t3, t4⟩ := hboxQ3))
    have hbA : Below w.heap.size w wA := hb2.trans (Below.mono (w := (w.alloc (.cells #[.bool b, .slice ao l cap] 101)).alloc (.cells #[.bool c, .slice ao' l' cap'] 101)) ⟨hbs.os, hbs.tape, hbs.output, hbs.size, hbs.block⟩ hb2.size)
    have hbB : Below w.heap.size w wB := hbA.trans (hbr.mono hbA.size)
    go_wp2
    go_ret
    exact ⟨z.sign - t.sign, ret_int (by rw [HW.out]), HC.out.1, HC.out.2, by omega, by omega, hbB⟩
end Go.Proofs.YtnhfdcfnojnofaaGreatDoor

/-
  What package fraction does: Of, IsWhole, Sign, divisor, reduced.
-/
namespace Go.Proofs.YtnhfdcfnojnofaaGreatDoor
open Go.RowKit

/-- The lower part as it is kept: a 1 is left empty. -/
def lowN (q : Nat) : Nat := if q = 1 then 0 else q

/-- A struct value that stands for the fraction p / q in lowest terms. -/
def FracV (w : World) (x : Value) (p : Int) (q : Nat) : Prop :=
  ∃ b v u, x = .agg #[.bool b, v, u] ∧ NatV w v p.natAbs ∧ Hid (b = decide (p < 0)) ∧ NatV w u (lowN q) ∧ 0 < q ∧ Hid (Nat.gcd p.natAbs q = 1)

theorem FracV.below {w w' : World} {x : Value} {p : Int} {q : Nat} (h : FracV w x p q) (hb : Below w.heap.size w w') : FracV w' x p q := by
  obtain ⟨b, v, u, h1, h2, h3, h4, h5⟩ := h
  exact ⟨b, v, u, h1, h2.below hb, h3, h4.below hb, h5⟩
theorem FracV.alloc {w : World} {x : Value} {p : Int} {q : Nat} (h : FracV w x p q) (o : Obj) : FracV (w.alloc o) x p q := h.below ((Below.refl _ _).alloc (Nat.le_refl _) o)
/-- A box of three cells that may be written. -/
def Box3 (w : World) (g : Nat) (x y z : Value) : Prop :=
  w.cell? ⟨g, 0, none⟩ = some x ∧ w.cell? ⟨g, 1, none⟩ = some y ∧ w.cell? ⟨g, 2, none⟩ = some z ∧ w.frozen? ⟨g, 0, none⟩ = false ∧ w.frozen? ⟨g, 1, none⟩ = false ∧ w.frozen? ⟨g, 2, none⟩ = false ∧ g < w.heap.size
theorem Box3.below {w w' : World} {g : Nat} {x y z : Value} (h : Box3 w g x y z) (hb : Below w.heap.size w w') : Box3 w' g x y z := by
  obtain ⟨h1, h2, h3, h4, h5, h6, h7⟩ := h
  exact ⟨(hb.cell (p := ⟨g, 0, none⟩) h7).trans h1, (hb.cell (p := ⟨g, 1, none⟩) h7).trans h2, (hb.cell (p := ⟨g, 2, none⟩) h7).trans h3, (hb.frozen (p := ⟨g, 0, none⟩) h7).trans h4, (hb.frozen (p := ⟨g, 1, none⟩) h7).trans h5, (hb.frozen (p := ⟨g, 2, none⟩) h7).trans h6, Nat.lt_of_lt_of_le h7 hb.size⟩
theorem Box3.new (w : World) (x y z : Value) (t : TypeId) : Box3 (w.alloc (.cells #[x, y, z] t)) w.heap.size x y z := by
  refine ⟨?_, ?_, ?_, ?_, ?_, ?_, ?_⟩ <;> simp
theorem Box3.alloc {w : World} {g : Nat} {x y z : Value} (h : Box3 w g x y z) (o : Obj) : Box3 (w.alloc o) g x y z := h.below ((Below.refl _ _).alloc (Nat.le_refl _) o)
theorem Box3.drew {w : World} {g : Nat} {x y z : Value} (h : Box3 w g x y z) : Box3 w.drew g x y z := h
theorem Box3.drewN {w : World} {g : Nat} {x y z : Value} (h : Box3 w g x y z) (q : Nat) : Box3 (w.drewN q) g x y z := h
theorem Box3.new1 (w : World) (A : Obj) (x y z : Value) (t : TypeId) : Box3 ((w.alloc A).alloc (.cells #[x, y, z] t)) (w.heap.size + 1) x y z := by
  have := Box3.new (w.alloc A) x y z t; simpa using this
theorem Box3.new2 (w : World) (A B : Obj) (x y z : Value) (t : TypeId) : Box3 (((w.alloc A).alloc B).alloc (.cells #[x, y, z] t)) (w.heap.size + 1 + 1) x y z := by
  have := Box3.new ((w.alloc A).alloc B) x y z t; simpa using this
theorem Box2.new1 (w : World) (A : Obj) (x y : Value) (t : TypeId) : Box2 ((w.alloc A).alloc (.cells #[x, y] t)) (w.heap.size + 1) x y := by
  have := Box2.new (w.alloc A) x y t; simpa using this

end Go.Proofs.YtnhfdcfnojnofaaGreatDoor

/-
  What package fraction does: reduced.
-/
namespace Go.Proofs.YtnhfdcfnojnofaaGreatDoor
open Go.RowKit

theorem Box3.far {w : World} {g h o : Nat} {x y z u : Value} (b : Box3 w g x y z) (hne : h ≠ g) : Box3 (w.setCell ⟨h, o, none⟩ u) g x y z := by
  obtain ⟨h1, h2, h3, h4, h5, h6, h7⟩ := b
  exact ⟨by rw [Go.Proofs.YtnhfdcfnojnofaaGreatDoor.far hne]; exact h1, by rw [Go.Proofs.YtnhfdcfnojnofaaGreatDoor.far hne]; exact h2, by rw [Go.Proofs.YtnhfdcfnojnofaaGreatDoor.far hne]; exact h3, by simpa using h4, by simpa using h5, by simpa using h6, by simpa using h7⟩

theorem FracV.whole {w : World} {x : Value} {p : Int} {q : Nat} (h : FracV w x p q) : ∃ b v u, x = .agg #[.bool b, v, u] ∧ WholeV w (.agg #[.bool b, v]) p := by
  obtain ⟨b, v, u, h1, h2, h3, _⟩ := h
  exact ⟨b, v, u, h1, b, v, rfl, h2, h3⟩

end Go.Proofs.YtnhfdcfnojnofaaGreatDoor

/-
  What package fraction does: across, Turned, Floor.
-/
namespace Go.Proofs.YtnhfdcfnojnofaaGreatDoor
open Go.RowKit

theorem Box2.new2 (w : World) (A B : Obj) (x y : Value) (t : TypeId) : Box2 (((w.alloc A).alloc B).alloc (.cells #[x, y] t)) (w.heap.size + 1 + 1) x y := by
  have := Box2.new ((w.alloc A).alloc B) x y t; simpa using this

theorem below_drew {B : Nat} {w w' : World} (h : Below B w.drew w') : Below B w w' := ⟨h.os, h.tape, h.output, h.size, h.block⟩

end Go.Proofs.YtnhfdcfnojnofaaGreatDoor
