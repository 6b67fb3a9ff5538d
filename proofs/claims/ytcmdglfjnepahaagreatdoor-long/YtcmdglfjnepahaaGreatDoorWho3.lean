/-
  What package whole does: Times, Of, FloorOver, Compare.
-/
import Derived.Test.YtcmdglfjnepahaaGreatDoorWho2
set_option linter.unusedSimpArgs false
set_option linter.unusedVariables false
namespace Go.Proofs.YtcmdglfjnepahaaGreatDoor
open Go.RowKit

theorem sg_mul {z t : Int} {b c : Bool} (hb : Hid (b = decide (z < 0))) (hc : Hid (c = decide (t < 0))) : sg (!(b == c)) (z.natAbs * t.natAbs) = z * t := by
  have e1 := neg_of hb
  have e2 := neg_of hc
  rw [e1, e2]
  generalize z.natAbs = m
  generalize t.natAbs = n
  cases b <;> cases c <;> simp [sg, Int.neg_mul, Int.mul_neg]

set_option maxRecDepth 100000 in
set_option maxHeartbeats 1000000 in
theorem wtimes_any (w : World) (x y : Value) (z t : Int) (J K : Nat) (hK : J + K ≤ 1073741823) (h : WholeV w x z) (k : WholeV w y t) (hz : z.natAbs < 4294967296 ^ J) (ht : t.natAbs < 4294967296 ^ K) :
    Calls Tryz.prog 120 #[x, y] w fun e w' => ∃ s, e = .returned s ∧ WholeV w' s (z * t) ∧ Below w.heap.size w w' := by
  obtain ⟨b, ao, l, cap, rfl, hv, hb⟩ := h.parts
  obtain ⟨c, ao', l', cap', rfl, hv', hb'⟩ := k.parts
  have HS := hide (sg_mul hb hb')
  have hbox : Box2 (((w.alloc (.cells #[.bool b, .slice ao l cap] 62)).alloc (.cells #[.bool c, .slice ao' l' cap'] 62)).alloc (.cells #[.bool false, .slice none 0 0] 62)) (w.heap.size + 1 + 1) (.bool false) (.slice none 0 0) := by
    have := Box2.new ((w.alloc (.cells #[.bool b, .slice ao l cap] 62)).alloc (.cells #[.bool c, .slice ao' l' cap'] 62)) (.bool false) (.slice none 0 0) 62
    simpa using this
  have hboxQ : Box2 (((w.alloc (.cells #[.bool b, .slice ao l cap] 62)).alloc (.cells #[.bool c, .slice ao' l' cap'] 62)).alloc (.cells #[.bool false, .slice none 0 0] 62)) (w.heap.size + 1) (.bool c) (.slice ao' l' cap') := by
    have := (Box2.new (w.alloc (.cells #[.bool b, .slice ao l cap] 62)) (.bool c) (.slice ao' l' cap') 62).alloc (.cells #[.bool false, .slice none 0 0] 62)
    simpa using this
  have hboxP : Box2 (((w.alloc (.cells #[.bool b, .slice ao l cap] 62)).alloc (.cells #[.bool c, .slice ao' l' cap'] 62)).alloc (.cells #[.bool false, .slice none 0 0] 62)) w.heap.size (.bool b) (.slice ao l cap) := ((Box2.new w _ _ _).alloc _).alloc _
  have hb3 := below3 w (.cells #[.bool b, .slice ao l cap] 62) (.cells #[.bool c, .slice ao' l' cap'] 62) (.cells #[.bool false, .slice none 0 0] 62)
  go_enter Tryz.func120, Tryz.ntmps120
  go_wp2
  go_region_held (fun w' => w'.cell? ⟨w.heap.size, 0, none⟩ = some (.bool b) ∧ w'.cell? ⟨w.heap.size, 1, none⟩ = some (.slice ao l cap) ∧ w'.cell? ⟨w.heap.size + 1, 0, none⟩ = some (.bool c) ∧ w'.cell? ⟨w.heap.size + 1, 1, none⟩ = some (.slice ao' l' cap')) (first | (refine ⟨?_, ?_, ?_, ?_⟩ <;> (rw [far, far] <;> first | assumption | omega)) | go_keep) (first | (go_at_call 118; refine (times_any _ _ _ z.natAbs t.natAbs J K (by exact NatV.drew (((hv.alloc _).alloc _).alloc _)) (by exact NatV.drew (((hv'.alloc _).alloc _).alloc _)) hz ht (by omega)).mono ?_; rintro e wA ⟨s, rfl, hs, hbs⟩; have hboxP2 := hboxP.drew.below hbs; obtain ⟨p0, p1, p2, p3, p4⟩ := hboxP2; have hboxQ2 := hboxQ.drew.below hbs; obtain ⟨q0, q1, q2, q3, q4⟩ := hboxQ2) | (go_at_call 77; refine (signed_any _ _ _ _ hs).mono ?_; rintro e wB ⟨r, rfl, hr, hbr⟩; rw [HS.out] at hr; obtain ⟨b2, ao2, l2, cap2, rfl, hv2, hb2⟩ := hr.parts; have hboxP3 := (hboxP.drew.below hbs).below hbr; obtain ⟨r0, r1, r2, r3, r4⟩ := hboxP3; have hboxQ3 := (hboxQ.drew.below hbs).below hbr; obtain ⟨t0, t1, t2, t3, t4⟩ := hboxQ3; have hbox2 := (hbox.drew.below hbs).below hbr; obtain ⟨c0, c1, f0, f1, g0⟩ := hbox2))
  have hbA : Below w.heap.size w wA := hb3.trans (Below.mono (w := ((w.alloc (.cells #[.bool b, .slice ao l cap] 62)).alloc (.cells #[.bool c, .slice ao' l' cap'] 62)).alloc (.cells #[.bool false, .slice none 0 0] 62)) ⟨hbs.os, hbs.tape, hbs.output, hbs.size, hbs.block⟩ hb3.size)
  have hbB : Below w.heap.size w wB := hbA.trans (hbr.mono hbA.size)
  go_wp2
  exact bodyPost_ret (v := .agg #[.bool b2, .slice ao2 l2 cap2]) (by simp [results, Tryz.results120, go_sem, c0, c1]) rfl ⟨_, rfl, wholeV_boxed hv2 hb2 c0 c1,
    (hbB.setCell (by simp; omega) _).setCell (by simp; omega) _⟩

set_option maxRecDepth 100000 in
set_option maxHeartbeats 400000 in
theorem wof_any (w : World) (n : Nat) (hn : n < 9223372036854775808) :
    Calls Tryz.prog 125 #[.int .i64 (n : Nat)] w fun e w' => ∃ s, e = .returned s ∧ WholeV w' s (n : Int) ∧ Below w.heap.size w w' := by
  have hbox : Box2 (w.alloc (.cells #[.bool false, .slice none 0 0] 62)) w.heap.size (.bool false) (.slice none 0 0) := Box2.new _ _ _ _
  have hb1 : Below w.heap.size w (w.alloc (.cells #[.bool false, .slice none 0 0] 62)) := (Below.refl _ _).alloc (Nat.le_refl _) _
  go_enter Tryz.func125, Tryz.ntmps125
  go_wp2_with fail
  refine (of_int _ _ n (by simp) (by omega)).mono ?_
  rintro e wA ⟨s, rfl, hs, hbs⟩
  go_wp2_with fail
  refine (signed_any _ _ _ _ hs).mono ?_
  rintro e wB ⟨r, rfl, hr, hbr⟩
  rw [show sg false n = (n : Int) from rfl] at hr
  obtain ⟨b2, ao2, l2, cap2, rfl, hv2, hb2⟩ := hr.parts
  have hbox2 := (hbox.below hbs).below hbr
  have hbA : Below w.heap.size w wA := hb1.trans (hbs.mono hb1.size)
  have hbB : Below w.heap.size w wB := hbA.trans (hbr.mono hbA.size)
  obtain ⟨c0, c1, f0, f1, g0⟩ := hbox2
  clear hbs hbr hbA hs hbox
  go_wp2
  exact bodyPost_ret (v := .agg #[.bool b2, .slice ao2 l2 cap2]) (by simp [results, Tryz.results125, go_sem, c0, c1]) rfl ⟨_, rfl, wholeV_boxed hv2 hb2 c0 c1,
    (hbB.setCell (by simp) _).setCell (by simp) _⟩

theorem floor_pos {z : Int} {n : Nat} (h : 0 ≤ z) : sg false (z.natAbs / n) = z / (n : Int) := by
  obtain ⟨m, rfl⟩ := Int.eq_ofNat_of_zero_le h
  simp [sg]

theorem floor_neg0 {z : Int} {n : Nat} (hn : n ≠ 0) (h : z < 0) (hr : z.natAbs % n = 0) : sg true (z.natAbs / n) = z / (n : Int) := by
  obtain ⟨m, hm⟩ : ∃ m : Nat, z = -(m : Int) := ⟨z.natAbs, by omega⟩
  subst hm
  rw [Int.natAbs_neg, Int.natAbs_natCast] at *
  have h1 := Nat.div_add_mod m n
  rw [hr, Nat.add_zero] at h1
  simp only [sg, if_true]
  rw [← h1, Nat.mul_div_cancel_left _ (Nat.pos_of_ne_zero hn)]
  rw [Int.natCast_mul, ← Int.mul_neg, Int.mul_ediv_cancel_left _ (by omega)]

theorem floor_neg1 {z : Int} {n : Nat} (hn : n ≠ 0) (h : z < 0) (hr : z.natAbs % n ≠ 0) : sg true (z.natAbs / n + 1) = z / (n : Int) := by
  obtain ⟨m, hm⟩ : ∃ m : Nat, z = -(m : Int) := ⟨z.natAbs, by omega⟩
  subst hm
  rw [Int.natAbs_neg, Int.natAbs_natCast] at *
  have h1 := Nat.div_add_mod m n
  have h2 := Nat.mod_lt m (Nat.pos_of_ne_zero hn)
  generalize m / n = q at *
  generalize m % n = r at *
  simp only [sg, if_true]
  have h3 : (-(m : Int)) = (n : Int) * (-((q + 1 : Nat) : Int)) + ((n - r : Nat) : Int) := by
    rw [← h1, Int.mul_neg]
    have e1 : ((n : Int) * ((q + 1 : Nat) : Int)) = (n : Int) * q + n := by rw [Int.natCast_add, Int.mul_add]; simp
    have e2 : (((n * q + r : Nat)) : Int) = (n : Int) * q + r := by simp
    rw [e1, e2]
    omega
  rw [h3, Int.mul_add_ediv_left _ _ (by omega)]
  rw [Int.ediv_eq_zero_of_lt (by omega) (by omega), Int.add_zero]

set_option maxRecDepth 100000 in
set_option maxHeartbeats 1000000 in
theorem floorOver_any (K : Nat) (hK : K ≤ 1073741822) (hO : OverOK K) (w : World) (x v : Value) (z : Int) (n : Nat) (h : WholeV w x z) (hv : NatV w v n) (hn : n ≠ 0) (hz : z.natAbs < 4294967296 ^ K) (hnk : n < 4294967296 ^ K) :
    Calls Tryz.prog 85 #[x, v] w fun e w' => ∃ s, e = .returned s ∧ WholeV w' s (z / (n : Int)) ∧ Below w.heap.size w w' := by
  obtain ⟨b, ao, l, cap, rfl, hx, hb⟩ := h.parts
  have hbox : Box2 ((w.alloc (.cells #[.bool b, .slice ao l cap] 62)).alloc (.cells #[.bool false, .slice none 0 0] 62)) (w.heap.size + 1) (.bool false) (.slice none 0 0) := by
    have := Box2.new (w.alloc (.cells #[.bool b, .slice ao l cap] 62)) (.bool false) (.slice none 0 0) 62
    simpa using this
  have hboxP : Box2 ((w.alloc (.cells #[.bool b, .slice ao l cap] 62)).alloc (.cells #[.bool false, .slice none 0 0] 62)) w.heap.size (.bool b) (.slice ao l cap) := (Box2.new w _ _ _).alloc _
  have hb2 := below2 w (.cells #[.bool b, .slice ao l cap] 62) (.cells #[.bool false, .slice none 0 0] 62)
  have hql : z.natAbs / n < 4294967296 ^ K := Nat.lt_of_le_of_lt (Nat.div_le_self _ _) hz
  cases b with
  | false =>
    have hz0 : 0 ≤ z := by have := hb.out; simp at this; omega
    have HS := hide (floor_pos (n := n) hz0)
    go_enter Tryz.func85, Tryz.ntmps85
    go_wp2_with fail
    refine (hO _ _ _ z.natAbs n ((hx.alloc _).alloc _) ((hv.alloc _).alloc _) hz hnk).mono ?_
    rintro e wA ⟨s, r, rfl, hs, hr, hbs⟩
    have hboxP2 := hboxP.below hbs
    obtain ⟨p0, p1, p2, p3, p4⟩ := hboxP2
    go_wp2_with fail
    refine (signed_any _ _ _ _ hs).mono ?_
    rintro e wB ⟨y, rfl, hy, hbr⟩
    rw [HS.out] at hy
    obtain ⟨b2, ao2, l2, cap2, rfl, hv2, hb3⟩ := hy.parts
    have hbox2 := (hbox.below hbs).below hbr
    have hbA : Below w.heap.size w wA := hb2.trans (hbs.mono hb2.size)
    have hbB : Below w.heap.size w wB := hbA.trans (hbr.mono hbA.size)
    obtain ⟨c0, c1, f0, f1, g0⟩ := hbox2
    clear hbs hbr hbA hs hbox p0 p1 p2 p3 p4
    go_wp2
    exact bodyPost_ret (v := .agg #[.bool b2, .slice ao2 l2 cap2]) (by simp [results, Tryz.results85, go_sem, c0, c1]) rfl ⟨_, rfl, wholeV_boxed hv2 hb3 c0 c1,
      (hbB.setCell (by simp) _).setCell (by simp) _⟩
  | true =>
    have hz0 : z < 0 := by have := hb.out; simp at this; omega
    by_cases hr0 : z.natAbs % n = 0
    · have HS := hide (floor_neg0 hn hz0 hr0)
      go_enter Tryz.func85, Tryz.ntmps85
      go_wp2_with fail
      refine (hO _ _ _ z.natAbs n ((hx.alloc _).alloc _) ((hv.alloc _).alloc _) hz hnk).mono ?_
      rintro e wA ⟨s, r, rfl, hs, hr, hbs⟩
      rw [hr0] at hr
      have hboxP2 := hboxP.below hbs
      obtain ⟨p0, p1, p2, p3, p4⟩ := hboxP2
      go_wp2_with fail
      refine (isZero_yes _ _ hr).mono ?_
      rintro e w1 ⟨rfl, rfl⟩
      go_wp2_with fail
      refine (signed_any _ _ _ _ hs).mono ?_
      rintro e wB ⟨y, rfl, hy, hbr⟩
      rw [HS.out] at hy
      obtain ⟨b2, ao2, l2, cap2, rfl, hv2, hb3⟩ := hy.parts
      have hbox2 := (hbox.below hbs).below hbr
      have hbA : Below w.heap.size w w1 := hb2.trans (hbs.mono hb2.size)
      have hbB : Below w.heap.size w wB := hbA.trans (hbr.mono hbA.size)
      obtain ⟨c0, c1, f0, f1, g0⟩ := hbox2
      clear hbs hbr hbA hs hbox p0 p1 p2 p3 p4
      go_wp2
      exact bodyPost_ret (v := .agg #[.bool b2, .slice ao2 l2 cap2]) (by simp [results, Tryz.results85, go_sem, c0, c1]) rfl ⟨_, rfl, wholeV_boxed hv2 hb3 c0 c1,
        (hbB.setCell (by simp) _).setCell (by simp) _⟩
    · have HS := hide (floor_neg1 hn hz0 hr0)
      go_enter Tryz.func85, Tryz.ntmps85
      go_wp2_with fail
      refine (hO _ _ _ z.natAbs n ((hx.alloc _).alloc _) ((hv.alloc _).alloc _) hz hnk).mono ?_
      rintro e wA ⟨s, r, rfl, hs, hr, hbs⟩
      have hboxP2 := hboxP.below hbs
      obtain ⟨p0, p1, p2, p3, p4⟩ := hboxP2
      go_wp2_with fail
      refine (isZero_no _ _ _ hr hr0).mono ?_
      rintro e w1 ⟨rfl, rfl⟩
      go_wp2_with fail
      refine (of_int _ _ 1 (by simp) (by omega)).mono ?_
      rintro e w2 ⟨o1, rfl, ho1, hbo⟩
      go_wp2_with fail
      refine (plus_any _ _ _ _ 1 (K + 1) (hs.below hbo) ho1 (Nat.lt_of_lt_of_le hql (pow_mono (by omega))) (Nat.lt_of_lt_of_le (by decide) (pow_mono (show 1 ≤ K + 1 by omega))) (by omega)).mono ?_
      rintro e w3 ⟨s3, rfl, hs3, hb4⟩
      have hboxP3 := ((hboxP.below hbs).below hbo).below hb4
      obtain ⟨q0, q1, q2, q3, q4⟩ := hboxP3
      go_wp2_with fail
      refine (signed_any _ _ _ _ hs3).mono ?_
      rintro e wB ⟨y, rfl, hy, hbr⟩
      rw [HS.out] at hy
      obtain ⟨b2, ao2, l2, cap2, rfl, hv2, hb3⟩ := hy.parts
      have hbox2 := (((hbox.below hbs).below hbo).below hb4).below hbr
      have hbA : Below w.heap.size w w1 := hb2.trans (hbs.mono hb2.size)
      have hbA2 : Below w.heap.size w w2 := hbA.trans (hbo.mono hbA.size)
      have hbA3 : Below w.heap.size w w3 := hbA2.trans (hb4.mono hbA2.size)
      have hbB : Below w.heap.size w wB := hbA3.trans (hbr.mono hbA3.size)
      obtain ⟨c0, c1, f0, f1, g0⟩ := hbox2
      clear hbs hbr hbA hs hbox p0 p1 p2 p3 p4 q0 q1 q2 q3 q4
      go_wp2
      exact bodyPost_ret (v := .agg #[.bool b2, .slice ao2 l2 cap2]) (by simp [results, Tryz.results85, go_sem, c0, c1]) rfl ⟨_, rfl, wholeV_boxed hv2 hb3 c0 c1,
        (hbB.setCell (by simp) _).setCell (by simp) _⟩
end Go.Proofs.YtcmdglfjnepahaaGreatDoor
