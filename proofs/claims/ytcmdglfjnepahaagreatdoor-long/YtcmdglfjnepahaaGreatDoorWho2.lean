/-
  What package whole does: Size, Sign, Turned, Times, Plus.
-/
import Derived.Test.YtcmdglfjnepahaaGreatDoorWho1
import Derived.Deep.RegionHeld
set_option linter.unusedSimpArgs false
set_option linter.unusedVariables false
namespace Go.Proofs.YtcmdglfjnepahaaGreatDoor
open Go.RowKit

theorem neg_of {z : Int} {b : Bool} (h : Hid (b = decide (z < 0))) : z = sg b z.natAbs := by
  have h1 := h.out
  subst h1
  by_cases hz : z < 0
  · simp [sg, hz]; omega
  · simp [sg, hz]; omega

theorem below2 (w : World) (A B : Obj) : Below w.heap.size w ((w.alloc A).alloc B) := ((Below.refl _ _).alloc (Nat.le_refl _) _).alloc (by simp) _
theorem below3 (w : World) (A B C : Obj) : Below w.heap.size w (((w.alloc A).alloc B).alloc C) := (below2 w A B).alloc (by simp; omega) _

theorem far {w : World} {g o h p : Nat} {x : Value} (hne : g ≠ h) : (w.setCell ⟨g, o, none⟩ x).cell? ⟨h, p, none⟩ = w.cell? ⟨h, p, none⟩ :=
  World.cell?_setCell_other _ _ _ _ (fun e => hne (by injection e))

/-- A box of two cells that may be written. -/
def Box2 (w : World) (g : Nat) (x y : Value) : Prop :=
  w.cell? ⟨g, 0, none⟩ = some x ∧ w.cell? ⟨g, 1, none⟩ = some y ∧ w.frozen? ⟨g, 0, none⟩ = false ∧ w.frozen? ⟨g, 1, none⟩ = false ∧ g < w.heap.size
theorem Box2.below {w w' : World} {g : Nat} {x y : Value} (h : Box2 w g x y) (hb : Below w.heap.size w w') : Box2 w' g x y := by
  obtain ⟨h1, h2, h3, h4, h5⟩ := h
  exact ⟨(hb.cell (p := ⟨g, 0, none⟩) h5).trans h1, (hb.cell (p := ⟨g, 1, none⟩) h5).trans h2, (hb.frozen (p := ⟨g, 0, none⟩) h5).trans h3, (hb.frozen (p := ⟨g, 1, none⟩) h5).trans h4, Nat.lt_of_lt_of_le h5 hb.size⟩
theorem Box2.new (w : World) (x y : Value) (t : TypeId) : Box2 (w.alloc (.cells #[x, y] t)) w.heap.size x y := by
  refine ⟨?_, ?_, ?_, ?_, ?_⟩ <;> simp
theorem Box2.alloc {w : World} {g : Nat} {x y : Value} (h : Box2 w g x y) (o : Obj) : Box2 (w.alloc o) g x y := h.below ((Below.refl _ _).alloc (Nat.le_refl _) o)
theorem Box2.drew {w : World} {g : Nat} {x y : Value} (h : Box2 w g x y) : Box2 w.drew g x y := h
theorem Box2.drewN {w : World} {g : Nat} {x y : Value} (h : Box2 w g x y) (q : Nat) : Box2 (w.drewN q) g x y := h

set_option maxRecDepth 100000 in
set_option maxHeartbeats 400000 in
theorem size_any (w : World) (x : Value) (z : Int) (h : WholeV w x z) :
    Calls Tryz.prog 83 #[x] w fun e w' => ∃ v, e = .returned v ∧ NatV w' v z.natAbs ∧ Below w.heap.size w w' := by
  obtain ⟨b, ao, l, cap, rfl, hv, hb⟩ := h.parts
  go_enter Tryz.func83, Tryz.ntmps83
  go_wp2
  go_ret
  exact ⟨_, rfl, hv.alloc _, (Below.refl _ _).alloc (Nat.le_refl _) _⟩

set_option maxRecDepth 100000 in
set_option maxHeartbeats 400000 in
theorem sign_any (w : World) (x : Value) (z : Int) (h : WholeV w x z) :
    Calls Tryz.prog 158 #[x] w fun e w' => e = .returned (.int .i64 z.sign) ∧ Below w.heap.size w w' := by
  obtain ⟨b, ao, l, cap, rfl, hv, hb⟩ := h.parts
  cases b with
  | true =>
    have hz : z < 0 := by have := hb.out; simpa using this
    go_enter Tryz.func158, Tryz.ntmps158
    go_wp2
    go_ret
    exact ⟨ret_int (by rw [Int.sign_eq_neg_one_of_neg hz]), (Below.refl _ _).alloc (Nat.le_refl _) _⟩
  | false =>
    have hz : ¬ z < 0 := by have := hb.out; simpa using this
    by_cases h0 : z.natAbs = 0
    · have hz0 : z = 0 := by omega
      subst hz0
      go_enter Tryz.func158, Tryz.ntmps158
      go_wp2_with fail
      refine (isZero_yes _ _ (hv.alloc _)).mono ?_
      rintro e w' ⟨rfl, rfl⟩
      go_wp2
      go_ret
      exact ⟨rfl, (Below.refl _ _).alloc (Nat.le_refl _) _⟩
    · have hz1 : 0 < z := by omega
      go_enter Tryz.func158, Tryz.ntmps158
      go_wp2_with fail
      refine (isZero_no _ _ _ (hv.alloc _) h0).mono ?_
      rintro e w' ⟨rfl, rfl⟩
      go_wp2
      go_ret
      exact ⟨ret_int (by rw [Int.sign_eq_one_of_pos hz1]), (Below.refl _ _).alloc (Nat.le_refl _) _⟩

set_option maxRecDepth 100000 in
set_option maxHeartbeats 400000 in
theorem wturned_any (w : World) (x : Value) (z : Int) (h : WholeV w x z) :
    Calls Tryz.prog 122 #[x] w fun e w' => ∃ y, e = .returned y ∧ WholeV w' y (-z) ∧ Below w.heap.size w w' := by
  obtain ⟨b, ao, l, cap, rfl, hv, hb⟩ := h.parts
  have hs : sg (!b) z.natAbs = -z := by
    rw [neg_of hb]
    cases b <;> simp [sg]
  go_enter Tryz.func122, Tryz.ntmps122
  go_wp2_with fail
  refine (signed_any _ _ _ z.natAbs ((hv.alloc _).alloc _)).mono ?_
  rintro e w' ⟨y, rfl, hy, hbel⟩
  rw [hs] at hy
  obtain ⟨b2, ao2, l2, cap2, rfl, hv2, hb2⟩ := hy.parts
  obtain ⟨hc, hf⟩ := bcell hbel
  have c0 : w'.cell? ⟨w.heap.size + 1, 0, none⟩ = some (.bool false) := by rw [hc _ _ (by simp)]; simp
  have c1 : w'.cell? ⟨w.heap.size + 1, 1, none⟩ = some (.slice none 0 0) := by rw [hc _ _ (by simp)]; simp
  clear hs
  go_wp2
  exact bodyPost_ret (v := .agg #[.bool b2, .slice ao2 l2 cap2]) (by simp [results, Tryz.results122, go_sem, c0, c1]) rfl ⟨_, rfl, wholeV_boxed hv2 hb2 c0 c1,
    (((below2 w _ _).trans (hbel.mono (below2 w _ _).size)).setCell (by simp) _).setCell (by simp) _⟩

set_option maxRecDepth 100000 in
set_option maxHeartbeats 1000000 in
theorem wplus_any (w : World) (x y : Value) (z t : Int) (K : Nat) (hK : K ≤ 1073741823) (h : WholeV w x z) (k : WholeV w y t) (hz : z.natAbs < 4294967296 ^ K) (ht : t.natAbs < 4294967296 ^ K) :
    Calls Tryz.prog 116 #[x, y] w fun e w' => ∃ s, e = .returned s ∧ WholeV w' s (z + t) ∧ Below w.heap.size w w' := by
  obtain ⟨b, ao, l, cap, rfl, hv, hb⟩ := h.parts
  obtain ⟨c, ao', l', cap', rfl, hv', hb'⟩ := k.parts
  have e1 := neg_of hb
  have e2 := neg_of hb'
  by_cases hbc : b = c
  · subst hbc
    have hs : sg b (z.natAbs + t.natAbs) = z + t := by
      cases b <;> simp [sg] at * <;> omega
    have HS := hide hs
    have hbb : (b == b) = true := by simp
    clear e1 e2 hs
    go_enter Tryz.func116, Tryz.ntmps116
    go_wp2
    have hbox : Box2 (((w.alloc (.cells #[.bool b, .slice ao l cap] 62)).alloc (.cells #[.bool b, .slice ao' l' cap'] 62)).alloc (.cells #[.bool false, .slice none 0 0] 62)) (w.heap.size + 1 + 1) (.bool false) (.slice none 0 0) := by
      have := Box2.new ((w.alloc (.cells #[.bool b, .slice ao l cap] 62)).alloc (.cells #[.bool b, .slice ao' l' cap'] 62)) (.bool false) (.slice none 0 0) 62
      simpa using this
    have hboxQ : Box2 (((w.alloc (.cells #[.bool b, .slice ao l cap] 62)).alloc (.cells #[.bool b, .slice ao' l' cap'] 62)).alloc (.cells #[.bool false, .slice none 0 0] 62)) (w.heap.size + 1) (.bool b) (.slice ao' l' cap') := by
      have := (Box2.new (w.alloc (.cells #[.bool b, .slice ao l cap] 62)) (.bool b) (.slice ao' l' cap') 62).alloc (.cells #[.bool false, .slice none 0 0] 62)
      simpa using this
    have hboxP : Box2 (((w.alloc (.cells #[.bool b, .slice ao l cap] 62)).alloc (.cells #[.bool b, .slice ao' l' cap'] 62)).alloc (.cells #[.bool false, .slice none 0 0] 62)) w.heap.size (.bool b) (.slice ao l cap) := ((Box2.new w _ _ _).alloc _).alloc _
    have hb3 := below3 w (.cells #[.bool b, .slice ao l cap] 62) (.cells #[.bool b, .slice ao' l' cap'] 62) (.cells #[.bool false, .slice none 0 0] 62)
    go_region_held (fun w' => w'.cell? ⟨w.heap.size, 0, none⟩ = some (.bool b) ∧ w'.cell? ⟨w.heap.size, 1, none⟩ = some (.slice ao l cap) ∧ w'.cell? ⟨w.heap.size + 1, 1, none⟩ = some (.slice ao' l' cap')) (first | (refine ⟨?_, ?_, ?_⟩ <;> (rw [far, far] <;> first | assumption | omega)) | go_keep) (first | (go_at_call 135; refine (plus_any _ _ _ z.natAbs t.natAbs K (by exact NatV.drew (((hv.alloc _).alloc _).alloc _)) (by exact NatV.drew (((hv'.alloc _).alloc _).alloc _)) hz ht hK).mono ?_; rintro e wA ⟨s, rfl, hs, hbs⟩; have hboxP2 := hboxP.drew.below hbs; obtain ⟨p0, p1, p2, p3, p4⟩ := hboxP2; have hboxQ2 := hboxQ.drew.below hbs; obtain ⟨q0, q1, q2, q3, q4⟩ := hboxQ2) | (go_at_call 77; refine (signed_any _ _ _ _ hs).mono ?_; rintro e wB ⟨r, rfl, hr, hbr⟩; rw [HS.out] at hr; obtain ⟨b2, ao2, l2, cap2, rfl, hv2, hb2⟩ := hr.parts; have hboxP3 := (hboxP.drew.below hbs).below hbr; obtain ⟨r0, r1, r2, r3, r4⟩ := hboxP3; have hboxQ3 := (hboxQ.drew.below hbs).below hbr; obtain ⟨t0, t1, t2, t3, t4⟩ := hboxQ3; have hbox2 := (hbox.drew.below hbs).below hbr; obtain ⟨c0, c1, f0, f1, g0⟩ := hbox2))
    have hbA : Below w.heap.size w wA := hb3.trans (Below.mono (w := ((w.alloc (.cells #[.bool b, .slice ao l cap] 62)).alloc (.cells #[.bool b, .slice ao' l' cap'] 62)).alloc (.cells #[.bool false, .slice none 0 0] 62)) ⟨hbs.os, hbs.tape, hbs.output, hbs.size, hbs.block⟩ hb3.size)
    have hbB : Below w.heap.size w wB := hbA.trans (hbr.mono hbA.size)
    go_wp2
    exact bodyPost_ret (v := .agg #[.bool b2, .slice ao2 l2 cap2]) (by simp [results, Tryz.results116, go_sem, c0, c1]) rfl ⟨_, rfl, wholeV_boxed hv2 hb2 c0 c1,
      (hbB.setCell (by simp; omega) _).setCell (by simp; omega) _⟩
  · have hbc2 : (b == c) = false := by simpa using hbc
    have hbox : Box2 (((w.alloc (.cells #[.bool b, .slice ao l cap] 62)).alloc (.cells #[.bool c, .slice ao' l' cap'] 62)).alloc (.cells #[.bool false, .slice none 0 0] 62)) (w.heap.size + 1 + 1) (.bool false) (.slice none 0 0) := by
      have := Box2.new ((w.alloc (.cells #[.bool b, .slice ao l cap] 62)).alloc (.cells #[.bool c, .slice ao' l' cap'] 62)) (.bool false) (.slice none 0 0) 62
      simpa using this
    have hb3 := below3 w (.cells #[.bool b, .slice ao l cap] 62) (.cells #[.bool c, .slice ao' l' cap'] 62) (.cells #[.bool false, .slice none 0 0] 62)
    by_cases hlt : z.natAbs < t.natAbs
    · have hs : sg c ((z.natAbs - t.natAbs) + (t.natAbs - z.natAbs)) = z + t := by
        cases b <;> cases c <;> simp [sg] at * <;> omega
      have HS := hide hs
      clear e1 e2 hs hbc
      go_enter Tryz.func116, Tryz.ntmps116
      go_wp2_with fail
      refine (compare_any _ _ _ z.natAbs t.natAbs K (((hv.alloc _).alloc _).alloc _) (((hv'.alloc _).alloc _).alloc _) hz ht (by omega)).mono ?_
      rintro e w1 ⟨rfl, q, rfl⟩
      rw [cmpI_lt hlt]
      go_wp2_with fail
      refine (apart_any _ _ _ z.natAbs t.natAbs K (by exact NatV.drewN (((hv.alloc _).alloc _).alloc _) q) (by exact NatV.drewN (((hv'.alloc _).alloc _).alloc _) q) hz ht hK).mono ?_
      rintro e wA ⟨s, rfl, hs, hbs⟩
      go_wp2_with fail
      refine (signed_any _ _ _ _ hs).mono ?_
      rintro e wB ⟨r, rfl, hr, hbr⟩
      rw [HS.out] at hr
      obtain ⟨b2, ao2, l2, cap2, rfl, hv2, hb2⟩ := hr.parts
      have hbox2 := ((hbox.drewN q).below hbs).below hbr
      have hbA : Below w.heap.size w wA := hb3.trans ((below_ofDrewN hbs).mono hb3.size)
      have hbB : Below w.heap.size w wB := hbA.trans (hbr.mono hbA.size)
      obtain ⟨c0, c1, f0, f1, g0⟩ := hbox2
      clear hbs hbr hbA hs hbox
      go_wp2
      exact bodyPost_ret (v := .agg #[.bool b2, .slice ao2 l2 cap2]) (by simp [results, Tryz.results116, go_sem, c0, c1]) rfl ⟨_, rfl, wholeV_boxed hv2 hb2 c0 c1,
        (hbB.setCell (by simp; omega) _).setCell (by simp; omega) _⟩
    · have hs : sg b ((z.natAbs - t.natAbs) + (t.natAbs - z.natAbs)) = z + t := by
        cases b <;> cases c <;> simp [sg] at * <;> omega
      have HS := hide hs
      have hc0 : 0 ≤ cmpI z.natAbs t.natAbs := by
        rcases Nat.lt_or_ge t.natAbs z.natAbs with h | h
        · rw [cmpI_gt h]; omega
        · rw [cmpI_eq (by omega)]; omega
      clear e1 e2 hs hbc
      go_enter Tryz.func116, Tryz.ntmps116
      go_wp2_with fail
      refine (compare_any _ _ _ z.natAbs t.natAbs K (((hv.alloc _).alloc _).alloc _) (((hv'.alloc _).alloc _).alloc _) hz ht (by omega)).mono ?_
      rintro e w1 ⟨rfl, q, rfl⟩
      generalize cmpI z.natAbs t.natAbs = cc at *
      go_wp2_with fail
      refine (apart_any _ _ _ z.natAbs t.natAbs K (by exact NatV.drewN (((hv.alloc _).alloc _).alloc _) q) (by exact NatV.drewN (((hv'.alloc _).alloc _).alloc _) q) hz ht hK).mono ?_
      rintro e wA ⟨s, rfl, hs, hbs⟩
      go_wp2_with fail
      refine (signed_any _ _ _ _ hs).mono ?_
      rintro e wB ⟨r, rfl, hr, hbr⟩
      rw [HS.out] at hr
      obtain ⟨b2, ao2, l2, cap2, rfl, hv2, hb2⟩ := hr.parts
      have hbox2 := ((hbox.drewN q).below hbs).below hbr
      have hbA : Below w.heap.size w wA := hb3.trans ((below_ofDrewN hbs).mono hb3.size)
      have hbB : Below w.heap.size w wB := hbA.trans (hbr.mono hbA.size)
      obtain ⟨c0, c1, f0, f1, g0⟩ := hbox2
      clear hbs hbr hbA hs hbox
      go_wp2
      exact bodyPost_ret (v := .agg #[.bool b2, .slice ao2 l2 cap2]) (by simp [results, Tryz.results116, go_sem, c0, c1]) rfl ⟨_, rfl, wholeV_boxed hv2 hb2 c0 c1,
        (hbB.setCell (by simp; omega) _).setCell (by simp; omega) _⟩
end Go.Proofs.YtcmdglfjnepahaaGreatDoor
