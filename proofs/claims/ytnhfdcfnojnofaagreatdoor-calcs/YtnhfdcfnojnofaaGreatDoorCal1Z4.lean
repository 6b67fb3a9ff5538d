/-
  Part 4 of the texts ahead of Cal1: Who3, Who4, Fra0, Fra1, Fra2, Fra3.
-/
import Derived.Test.YtnhfdcfnojnofaaGreatDoorCal1Z3
set_option linter.unusedSimpArgs false
set_option linter.unusedVariables false
/-
  What package whole does: Times, Of, FloorOver, Compare.
-/
namespace Go.Proofs.YtnhfdcfnojnofaaGreatDoor
open Go.RowKit

theorem sg_mul {z t : Int} {b c : Bool} (hb : Hid (b = decide (z < 0))) (hc : Hid (c = decide (t < 0))) : sg (!(b == c)) (z.natAbs * t.natAbs) = z * t := by
  have e1 := neg_of hb
  have e2 := neg_of hc
  rw [e1, e2]
  generalize z.natAbs = m
  generalize t.natAbs = n
  cases b <;> cases c <;> simp [sg, Int.neg_mul, Int.mul_neg]

set_option maxRecDepth 100000 in
set_option maxHeartbeats 1000000 in
theorem wtimes_any (w : World) (x y : Value) (z t : Int) (J K : Nat) (hK : J + K ≤ 1073741823) (h : WholeV w x z) (k : WholeV w y t) (hz : z.natAbs < 4294967296 ^ J) (ht : t.natAbs < 4294967296 ^ K) :
    Calls Tryz.prog 205 #[x, y] w fun e w' => ∃ s, e = .returned s ∧ WholeV w' s (z * t) ∧ Below w.heap.size w w' := by
  obtain ⟨b, ao, l, cap, rfl, hv, hb⟩ := h.parts
  obtain ⟨c, ao', l', cap', rfl, hv', hb'⟩ := k.parts
  have HS := hide (sg_mul hb hb')
  have hbox : Box2 (((w.alloc (.cells #[.bool b, .slice ao l cap] 101)).alloc (.cells #[.bool c, .slice ao' l' cap'] 101)).alloc (.cells #[.bool false, .slice none 0 0] 101)) (w.heap.size + 1 + 1) (.bool false) (.slice none 0 0) := by
    have := Box2.new ((w.alloc (.cells #[.bool b, .slice ao l cap] 101)).alloc (.cells #[.bool c, .slice ao' l' cap'] 101)) (.bool false) (.slice none 0 0) 101
    simpa using this
  have hboxQ : Box2 (((w.alloc (.cells #[.bool b, .slice ao l cap] 101)).alloc (.cells #[.bool c, .slice ao' l' cap'] 101)).alloc (.cells #[.bool false, .slice none 0 0] 101)) (w.heap.size + 1) (.bool c) (.slice ao' l' cap') := by
    have := (Box2.new (w.alloc (.cells #[.bool b, .slice ao l cap] 101)) (.bool c) (.slice ao' l' cap') 101).alloc (.cells #[.bool false, .slice none 0 0] 101)
    simpa using this
  have hboxP : Box2 (((w.alloc (.cells #[.bool b, .slice ao l cap] 101)).alloc (.cells #[.bool c, .slice ao' l' cap'] 101)).alloc (.cells #[.bool false, .slice none 0 0] 101)) w.heap.size (.bool b) (.slice ao l cap) := ((Box2.new w _ _ _).alloc _).alloc _
  have hb3 := below3 w (.cells #[.bool b, .slice ao l cap] 101) (.cells #[.bool c, .slice ao' l' cap'] 101) (.cells #[.bool false, .slice none 0 0] 101)
  go_enter Tryz.func205, Tryz.ntmps205
  go_wp2
  go_region_held (fun w' => w'.cell? ⟨w.heap.size, 0, none⟩ = some (.bool b) ∧ w'.cell? ⟨w.heap.size, 1, none⟩ = some (.slice ao l cap) ∧ w'.cell? ⟨w.heap.size + 1, 0, none⟩ = some (.bool c) ∧ w'.cell? ⟨w.heap.size + 1, 1, none⟩ = some (.slice ao' l' cap')) (first | (refine ⟨?_, ?_, ?_, ?_⟩ <;> (rw [far, far] <;> first | assumption | omega)) | go_keep) (first | (go_at_call 204; refine (times_any _ _ _ z.natAbs t.natAbs J K (by exact NatV.drew (((hv.alloc _).alloc _).alloc _)) (by exact NatV.drew (((hv'.alloc _).alloc _).alloc _)) hz ht (by omega)).mono ?_; rintro e wA ⟨s, rfl, hs, hbs⟩; have hboxP2 := hboxP.drew.below hbs; obtain ⟨p0, p1, p2, p3, p4⟩ := hboxP2; have hboxQ2 := hboxQ.drew.below hbs; obtain ⟨q0, q1, q2, q3, q4⟩ := hboxQ2) | (go_at_call 129; refine (signed_any _ _ _ _ hs).mono ?_; rintro e wB ⟨r, rfl, hr, hbr⟩; rw [HS.out] at hr; obtain ⟨b2, ao2, l2, cap2, rfl, hv2, hb2⟩ := hr.parts; have hboxP3 := (hboxP.drew.below hbs).below hbr; obtain ⟨r0, r1, r2, r3, r4⟩ := hboxP3; have hboxQ3 := (hboxQ.drew.below hbs).below hbr; obtain ⟨t0, t1, t2, t3, t4⟩ := hboxQ3; have hbox2 := (hbox.drew.below hbs).below hbr; obtain ⟨c0, c1, f0, f1, g0⟩ := hbox2))
  have hbA : Below w.heap.size w wA := hb3.trans (Below.mono (w := ((w.alloc (.cells #[.bool b, .slice ao l cap] 101)).alloc (.cells #[.bool c, .slice ao' l' cap'] 101)).alloc (.cells #[.bool false, .slice none 0 0] 101)) ⟨hbs.os, hbs.tape, hbs.output, hbs.size, hbs.block⟩ hb3.size)
  have hbB : Below w.heap.size w wB := hbA.trans (hbr.mono hbA.size)
  go_wp2
  exact bodyPost_ret (v := .agg #[.bool b2, .slice ao2 l2 cap2]) (by simp [results, Tryz.results205, go_sem, c0, c1]) rfl ⟨_, rfl, wholeV_boxed hv2 hb2 c0 c1,
    (hbB.setCell (by simp; omega) _).setCell (by simp; omega) _⟩

set_option maxRecDepth 100000 in
set_option maxHeartbeats 400000 in
theorem wof_any (w : World) (n : Nat) (hn : n < 9223372036854775808) :
    Calls Tryz.prog 152 #[.int .i64 (n : Nat)] w fun e w' => ∃ s, e = .returned s ∧ WholeV w' s (n : Int) ∧ Below w.heap.size w w' := by
  have hbox : Box2 (w.alloc (.cells #[.bool false, .slice none 0 0] 101)) w.heap.size (.bool false) (.slice none 0 0) := Box2.new _ _ _ _
  have hb1 : Below w.heap.size w (w.alloc (.cells #[.bool false, .slice none 0 0] 101)) := (Below.refl _ _).alloc (Nat.le_refl _) _
  go_enter Tryz.func152, Tryz.ntmps152
  go_wp2_with fail
  refine (of_int _ _ n (by simp) (by omega)).mono ?_
  rintro e wA ⟨s, rfl, hs, hbs⟩
  go_wp2_with fail
  refine (signed_any _ _ _ _ hs).mono ?_
  rintro e wB ⟨r, rfl, hr, hbr⟩
  rw [show sg false n = (n : Int) from rfl] at hr
  obtain ⟨b2, ao2, l2, cap2, rfl, hv2, hb2⟩ := hr.parts
  have hbox2 := (hbox.below hbs).below hbr
  have hbA : Below w.heap.size w wA := hb1.trans (hbs.mono hb1.size)
  have hbB : Below w.heap.size w wB := hbA.trans (hbr.mono hbA.size)
  obtain ⟨c0, c1, f0, f1, g0⟩ := hbox2
  clear hbs hbr hbA hs hbox
  go_wp2
  exact bodyPost_ret (v := .agg #[.bool b2, .slice ao2 l2 cap2]) (by simp [results, Tryz.results152, go_sem, c0, c1]) rfl ⟨_, rfl, wholeV_boxed hv2 hb2 c0 c1,
    (hbB.setCell (by simp) _).setCell (by simp) _⟩

theorem floor_pos {z : Int} {n : Nat} (h : 0 ≤ z) : sg false (z.natAbs / n) = z / (n : Int) := by
  obtain ⟨m, rfl⟩ := Int.eq_ofNat_of_zero_le h
  simp [sg]

theorem floor_neg0 {z : Int} {n : Nat} (hn : n ≠ 0) (h : z < 0) (hr : z.natAbs % n = 0) : sg true (z.natAbs / n) = z / (n : Int) := by
  obtain ⟨m, hm⟩ : ∃ m : Nat, z = -(m : Int) := ⟨z.natAbs, by omega⟩
  subst hm
  rw [Int.natAbs_neg, Int.natAbs_natCast] at *
  have h1 := Nat.div_add_mod m n
  rw [hr, Nat.add_zero] at h1
  simp only [sg, if_true]
  rw [← h1, Nat.mul_div_cancel_left _ (Nat.pos_of_ne_zero hn)]
  rw [Int.natCast_mul, ← Int.mul_neg, Int.mul_ediv_cancel_left _ (by omega)]

theorem floor_neg1 {z : Int} {n : Nat} (hn : n ≠ 0) (h : z < 0) (hr : z.natAbs % n ≠ 0) : sg true (z.natAbs / n + 1) = z / (n : Int) := by
  obtain ⟨m, hm⟩ : ∃ m : Nat, z = -(m : Int) := ⟨z.natAbs, by omega⟩
  subst hm
  rw [Int.natAbs_neg, Int.natAbs_natCast] at *
  have h1 := Nat.div_add_mod m n
  have h2 := Nat.mod_lt m (Nat.pos_of_ne_zero hn)
  generalize m / n = q at *
  generalize m % n = r at *
  simp only [sg, if_true]
  have h3 : (-(m : Int)) = (n : Int) * (-((q + 1 : Nat) : Int)) + ((n - r : Nat) : Int) := by
    rw [← h1, Int.mul_neg]
    have e1 : ((n : Int) * ((q + 1 : Nat) : Int)) = (n : Int) * q + n := by rw [Int.natCast_add, Int.mul_add]; simp
    have e2 : (((n * q + r : Nat)) : Int) = (n : Int) * q + r := by simp
    rw [e1, e2]
    omega
  rw [h3, Int.mul_add_ediv_left _ _ (by omega)]
  rw [Int.ediv_eq_zero_of_lt (by omega) (by omega), Int.add_zero]

set_option maxRecDepth 100000 in
set_option maxHeartbeats 1000000 in
theorem floorOver_any (K : Nat) (hK : K ≤ 1073741822) (hO : OverOK K) (w : World) (x v : Value) (z : Int) (n : Nat) (h : WholeV w x z) (hv : NatV w v n) (hn : n ≠ 0) (hz : z.natAbs < 4294967296 ^ K) (hnk : n < 4294967296 ^ K) :
    Calls Tryz.prog 137 #[x, v] w fun e w' => ∃ s, e = .returned s ∧ WholeV w' s (z / (n : Int)) ∧ Below w.heap.size w w' := by
  obtain ⟨b, ao, l, cap, rfl, hx, hb⟩ := h.parts
  have hbox : Box2 ((w.alloc (.cells #[.bool b, .slice ao l cap] 101)).alloc (.cells #[.bool false, .slice none 0 0] 101)) (w.heap.size + 1) (.bool false) (.slice none 0 0) := by
    have := Box2.new (w.alloc (.cells #[.bool b, .slice ao l cap] 101)) (.bool false) (.slice none 0 0) 101
    simpa using this
  have hboxP : Box2 ((w.alloc (.cells #[.bool b, .slice ao l cap] 101)).alloc (.cells #[.bool false, .slice none 0 0] 101)) w.heap.size (.bool b) (.slice ao l cap) := (Box2.new w _ _ _).alloc _
  have hb2 := below2 w (.cells #[.bool b, .slice ao l cap] 101) (.cells #[.bool false, .slice none 0 0] 101)
  have hql : z.natAbs / n < 4294967296 ^ K := Nat.lt_of_le_of_lt (Nat.div_le_self _ _) hz
  cases b with
  | false =>
    have hz0 : 0 ≤ z := by have := hb.out; simp at this; omega
    have HS := hide (floor_pos (n := n) hz0)
    go_enter Tryz.func137, Tryz.ntmps137
    go_wp2_with fail
    refine (hO _ _ _ z.natAbs n ((hx.alloc _).alloc _) ((hv.alloc _).alloc _) hz hnk).mono ?_
    rintro e wA ⟨s, r, rfl, hs, hr, hbs⟩
    have hboxP2 := hboxP.below hbs
    obtain ⟨p0, p1, p2, p3, p4⟩ := hboxP2
    go_wp2_with fail
    refine (signed_any _ _ _ _ hs).mono ?_
    rintro e wB ⟨y, rfl, hy, hbr⟩
    rw [HS.out] at hy
    obtain ⟨b2, ao2, l2, cap2, rfl, hv2, hb3⟩ := hy.parts
    have hbox2 := (hbox.below hbs).below hbr
    have hbA : Below w.heap.size w wA := hb2.trans (hbs.mono hb2.size)
    have hbB : Below w.heap.size w wB := hbA.trans (hbr.mono hbA.size)
    obtain ⟨c0, c1, f0, f1, g0⟩ := hbox2
    clear hbs hbr hbA hs hbox p0 p1 p2 p3 p4
    go_wp2
    exact bodyPost_ret (v := .agg #[.bool b2, .slice ao2 l2 cap2]) (by simp [results, Tryz.results137, go_sem, c0, c1]) rfl ⟨_, rfl, wholeV_boxed hv2 hb3 c0 c1,
      (hbB.setCell (by simp) _).setCell (by simp) _⟩
  | true =>
    have hz0 : z < 0 := by have := hb.out; simp at this; omega
    by_cases hr0 : z.natAbs % n = 0
    · have HS := hide (floor_neg0 hn hz0 hr0)
      go_enter Tryz.func137, Tryz.ntmps137
      go_wp2_with fail
      refine (hO _ _ _ z.natAbs n ((hx.alloc _).alloc _) ((hv.alloc _).alloc _) hz hnk).mono ?_
      rintro e wA ⟨s, r, rfl, hs, hr, hbs⟩
      rw [hr0] at hr
      have hboxP2 := hboxP.below hbs
      obtain ⟨p0, p1, p2, p3, p4⟩ := hboxP2
      go_wp2_with fail
      refine (isZero_yes _ _ hr).mono ?_
      rintro e w1 ⟨rfl, rfl⟩
      go_wp2_with fail
      refine (signed_any _ _ _ _ hs).mono ?_
      rintro e wB ⟨y, rfl, hy, hbr⟩
      rw [HS.out] at hy
      obtain ⟨b2, ao2, l2, cap2, rfl, hv2, hb3⟩ := hy.parts
      have hbox2 := (hbox.below hbs).below hbr
      have hbA : Below w.heap.size w w1 := hb2.trans (hbs.mono hb2.size)
      have hbB : Below w.heap.size w wB := hbA.trans (hbr.mono hbA.size)
      obtain ⟨c0, c1, f0, f1, g0⟩ := hbox2
      clear hbs hbr hbA hs hbox p0 p1 p2 p3 p4
      go_wp2
      exact bodyPost_ret (v := .agg #[.bool b2, .slice ao2 l2 cap2]) (by simp [results, Tryz.results137, go_sem, c0, c1]) rfl ⟨_, rfl, wholeV_boxed hv2 hb3 c0 c1,
        (hbB.setCell (by simp) _).setCell (by simp) _⟩
    · have HS := hide (floor_neg1 hn hz0 hr0)
      go_enter Tryz.func137, Tryz.ntmps137
      go_wp2_with fail
      refine (hO _ _ _ z.natAbs n ((hx.alloc _).alloc _) ((hv.alloc _).alloc _) hz hnk).mono ?_
      rintro e wA ⟨s, r, rfl, hs, hr, hbs⟩
      have hboxP2 := hboxP.below hbs
      obtain ⟨p0, p1, p2, p3, p4⟩ := hboxP2
      go_wp2_with fail
      refine (isZero_no _ _ _ hr hr0).mono ?_
      rintro e w1 ⟨rfl, rfl⟩
      go_wp2_with fail
      refine (of_int _ _ 1 (by simp) (by omega)).mono ?_
      rintro e w2 ⟨o1, rfl, ho1, hbo⟩
      go_wp2_with fail
      refine (plus_any _ _ _ _ 1 (K + 1) (hs.below hbo) ho1 (Nat.lt_of_lt_of_le hql (pow_mono (by omega))) (Nat.lt_of_lt_of_le (by decide) (pow_mono (show 1 ≤ K + 1 by omega))) (by omega)).mono ?_
      rintro e w3 ⟨s3, rfl, hs3, hb4⟩
      have hboxP3 := ((hboxP.below hbs).below hbo).below hb4
      obtain ⟨q0, q1, q2, q3, q4⟩ := hboxP3
      go_wp2_with fail
      refine (signed_any _ _ _ _ hs3).mono ?_
      rintro e wB ⟨y, rfl, hy, hbr⟩
      rw [HS.out] at hy
      obtain ⟨b2, ao2, l2, cap2, rfl, hv2, hb3⟩ := hy.parts
      have hbox2 := (((hbox.below hbs).below hbo).below hb4).below hbr
      have hbA : Below w.heap.size w w1 := hb2.trans (hbs.mono hb2.size)
      have hbA2 : Below w.heap.size w w2 := hbA.trans (hbo.mono hbA.size)
      have hbA3 : Below w.heap.size w w3 := hbA2.trans (hb4.mono hbA2.size)
      have hbB : Below w.heap.size w wB := hbA3.trans (hbr.mono hbA3.size)
      obtain ⟨c0, c1, f0, f1, g0⟩ := hbox2
      clear hbs hbr hbA hs hbox p0 p1 p2 p3 p4 q0 q1 q2 q3 q4
      go_wp2
      exact bodyPost_ret (v := .agg #[.bool b2, .slice ao2 l2 cap2]) (by simp [results, Tryz.results137, go_sem, c0, c1]) rfl ⟨_, rfl, wholeV_boxed hv2 hb3 c0 c1,
        (hbB.setCell (by simp) _).setCell (by simp) _⟩
end Go.Proofs.YtnhfdcfnojnofaaGreatDoor

/-
  What package whole does: Compare.
-/
namespace Go.Proofs.YtnhfdcfnojnofaaGreatDoor
open Go.RowKit

theorem cmpI_iff (a b : Nat) : (cmpI a b < 0 ↔ a < b) ∧ (cmpI a b = 0 ↔ a = b) := by
  rcases Nat.lt_trichotomy a b with h | h | h
  · rw [cmpI_lt h]; omega
  · rw [cmpI_eq h]; omega
  · rw [cmpI_gt h]; omega

set_option maxRecDepth 100000 in
set_option maxHeartbeats 1000000 in
theorem wcompare_any (w : World) (x y : Value) (z t : Int) (K : Nat) (hK : K ≤ 1073741823) (h : WholeV w x z) (k : WholeV w y t) (hz : z.natAbs < 4294967296 ^ K) (ht : t.natAbs < 4294967296 ^ K) :
    Calls Tryz.prog 151 #[x, y] w fun e w' => ∃ c : Int, e = .returned (.int .i64 c) ∧ (c < 0 ↔ z < t) ∧ (c = 0 ↔ z = t) ∧ -2 ≤ c ∧ c ≤ 2 ∧ Below w.heap.size w w' := by
  have h0 := h
  have k0 := k
  obtain ⟨b, ao, l, cap, rfl, hv, hb⟩ := h.parts
  obtain ⟨c, ao', l', cap', rfl, hv', hb'⟩ := k.parts
  have hb2 := below2 w (.cells #[.bool b, .slice ao l cap] 101) (.cells #[.bool c, .slice ao' l' cap'] 101)
  have hbd : ∀ a b, -2 ≤ cmpI a b ∧ cmpI a b ≤ 2 := by
    intro a b; unfold cmpI; split
    · omega
    · split <;> omega
  by_cases hbc : b = c
  · subst hbc
    have hbb : (b == b) = true := by simp
    cases b with
    | true =>
      have hz0 : z < 0 := by have := hb.out; simp at this; omega
      have ht0 : t < 0 := by have := hb'.out; simp at this; omega
      have hcmp := cmpI_iff t.natAbs z.natAbs
      have HC : Hid ((cmpI t.natAbs z.natAbs < 0 ↔ z < t) ∧ (cmpI t.natAbs z.natAbs = 0 ↔ z = t)) := by
        rw [Hid, hcmp.1, hcmp.2]; omega
      have HB := hide (hbd t.natAbs z.natAbs)
      clear hcmp hbd
      go_enter Tryz.func151, Tryz.ntmps151
      go_wp2_with fail
      refine (compare_any _ _ _ t.natAbs z.natAbs K ((hv'.alloc _).alloc _) ((hv.alloc _).alloc _) ht hz (by omega)).mono ?_
      rintro e w1 ⟨rfl, q, rfl⟩
      go_wp2
      go_ret
      exact ⟨_, rfl, HC.out.1, HC.out.2, HB.out.1, HB.out.2, below_toDrewN hb2⟩
    | false =>
      have hz0 : 0 ≤ z := by have := hb.out; simp at this; omega
      have ht0 : 0 ≤ t := by have := hb'.out; simp at this; omega
      have hcmp := cmpI_iff z.natAbs t.natAbs
      have HC : Hid ((cmpI z.natAbs t.natAbs < 0 ↔ z < t) ∧ (cmpI z.natAbs t.natAbs = 0 ↔ z = t)) := by
        rw [Hid, hcmp.1, hcmp.2]; omega
      have HB := hide (hbd z.natAbs t.natAbs)
      clear hcmp hbd
      go_enter Tryz.func151, Tryz.ntmps151
      go_wp2_with fail
      refine (compare_any _ _ _ z.natAbs t.natAbs K ((hv.alloc _).alloc _) ((hv'.alloc _).alloc _) hz ht (by omega)).mono ?_
      rintro e w1 ⟨rfl, q, rfl⟩
      go_wp2
      go_ret
      exact ⟨_, rfl, HC.out.1, HC.out.2, HB.out.1, HB.out.2, below_toDrewN hb2⟩
  · have hbb : (b == c) = false := by simpa using hbc
    have hboxQ : Box2 ((w.alloc (.cells #[.bool b, .slice ao l cap] 101)).alloc (.cells #[.bool c, .slice ao' l' cap'] 101)) (w.heap.size + 1) (.bool c) (.slice ao' l' cap') := by
      have := Box2.new (w.alloc (.cells #[.bool b, .slice ao l cap] 101)) (.bool c) (.slice ao' l' cap') 101
      simpa using this
    have hboxP : Box2 ((w.alloc (.cells #[.bool b, .slice ao l cap] 101)).alloc (.cells #[.bool c, .slice ao' l' cap'] 101)) w.heap.size (.bool b) (.slice ao l cap) := (Box2.new w _ _ _).alloc _
    have hsg : -1 ≤ z.sign ∧ z.sign ≤ 1 ∧ -1 ≤ t.sign ∧ t.sign ≤ 1 := by
      rcases Int.lt_trichotomy z 0 with h | h | h <;> rcases Int.lt_trichotomy t 0 with k | k | k <;> simp [Int.sign_eq_neg_one_of_neg, Int.sign_eq_one_of_pos, h, k]
    have HC : Hid ((z.sign - t.sign < 0 ↔ z < t) ∧ (z.sign - t.sign = 0 ↔ z = t)) := by
      have e1 := hb.out
      have e2 := hb'.out
      rw [Hid]
      by_cases hz0 : z < 0
      · have ht0 : 0 ≤ t := by
          rcases Int.lt_or_le t 0 with h | h
          · exact absurd (by rw [e1, e2]; simp [hz0, h]) hbc
          · exact h
        rw [Int.sign_eq_neg_one_of_neg hz0]
        rcases Int.lt_or_eq_of_le ht0 with h | h
        · rw [Int.sign_eq_one_of_pos h]; omega
        · rw [← h]; simp; omega
      · have ht0 : t < 0 := by
          rcases Int.lt_or_le t 0 with h | h
          · exact h
          · exact absurd (by rw [e1, e2]; simp [hz0]; omega) hbc
        rw [Int.sign_eq_neg_one_of_neg ht0]
        rcases Int.lt_or_eq_of_le (show 0 ≤ z by omega) with h | h
        · rw [Int.sign_eq_one_of_pos h]; omega
        · rw [← h]; simp; omega
    obtain ⟨s1, s2, s3, s4⟩ := hsg
    have HW : Hid (IntKind.i64.wrap (z.sign - t.sign) = z.sign - t.sign) := by
      rw [Hid]
      have hd : -2 ≤ z.sign - t.sign ∧ z.sign - t.sign ≤ 2 := by omega
      generalize z.sign - t.sign = d at hd
      simp [IntKind.wrap, IntKind.signed, IntKind.bits]
      omega
    clear hbd hbc
    go_enter Tryz.func151, Tryz.ntmps151
    go_wp2
    go_region_held (fun w' => w'.cell? ⟨w.heap.size, 0, none⟩ = some (.bool b) ∧ w'.cell? ⟨w.heap.size, 1, none⟩ = some (.slice ao l cap) ∧ w'.cell? ⟨w.heap.size + 1, 0, none⟩ = some (.bool c) ∧ w'.cell? ⟨w.heap.size + 1, 1, none⟩ = some (.slice ao' l' cap')) (go_keep) (first | (go_at_call_of 242 (Value.bool b); refine (sign_any _ _ z (by exact WholeV.drewN ((h0.alloc _).alloc _) 1)).mono ?_; rintro e wA ⟨rfl, hbs⟩; have hboxP2 := hboxP.drew.below hbs; obtain ⟨p0, p1, p2, p3, p4⟩ := hboxP2; have hboxQ2 := hboxQ.drew.below hbs; obtain ⟨q0, q1, q2, q3, q4⟩ := hboxQ2) | (go_at_call_of 242 (Value.bool c); refine (sign_any _ _ t (by exact (WholeV.drewN ((k0.alloc _).alloc _) 1).below hbs)).mono ?_; rintro e wB ⟨rfl, hbr⟩; have hboxP3 := (hboxP.drew.below hbs).below hbr; obtain ⟨r0, r1, r2, r3, r4⟩ := hboxP3; have hboxQ3 := (hboxQ.drew.below hbs).below hbr; obtain ⟨t0, t1, t2, t3, t4⟩ := hboxQ3))
    have hbA : Below w.heap.size w wA := hb2.trans (Below.mono (w := (w.alloc (.cells #[.bool b, .slice ao l cap] 101)).alloc (.cells #[.bool c, .slice ao' l' cap'] 101)) ⟨hbs.os, hbs.tape, hbs.output, hbs.size, hbs.block⟩ hb2.size)
    have hbB : Below w.heap.size w wB := hbA.trans (hbr.mono hbA.size)
    go_wp2
    go_ret
    exact ⟨z.sign - t.sign, ret_int (by rw [HW.out]), HC.out.1, HC.out.2, by omega, by omega, hbB⟩
end Go.Proofs.YtnhfdcfnojnofaaGreatDoor

/-
  Numbers alone: lowest terms of sums and products of fractions.
-/
namespace Go.Proofs.YtnhfdcfnojnofaaGreatDoor
open Go.RowKit

theorem low_unique {Z a : Int} {N b : Nat} (hb : 0 < b) (h : a * (N : Int) = Z * (b : Int)) (hg : Nat.gcd a.natAbs b = 1) (hN : 0 < N) : Z / (Nat.gcd Z.natAbs N : Int) = a ∧ N / Nat.gcd Z.natAbs N = b := by
  have h1 : a.natAbs * N = Z.natAbs * b := by
    have := congrArg Int.natAbs h
    simpa [Int.natAbs_mul] using this
  have h2 : b ∣ N := by
    have : b ∣ a.natAbs * N := ⟨Z.natAbs, by rw [h1, Nat.mul_comm]⟩
    exact Nat.Coprime.dvd_of_dvd_mul_left (Nat.Coprime.symm hg) this
  obtain ⟨k, rfl⟩ := h2
  have hk : 0 < k := Nat.pos_of_ne_zero (by rintro rfl; simp at hN)
  have h3 : Z = a * (k : Int) := by
    have : (Z - a * k) * (b : Int) = 0 := by
      rw [Int.sub_mul, ← h, Int.natCast_mul]; grind
    rcases Int.mul_eq_zero.1 this with h | h
    · omega
    · omega
  have h4 : Z.natAbs = a.natAbs * k := by rw [h3, Int.natAbs_mul]; simp
  have h5 : Nat.gcd Z.natAbs (b * k) = k := by rw [h4, Nat.gcd_mul_right, hg, Nat.one_mul]
  rw [h5]
  refine ⟨?_, Nat.mul_div_cancel _ hk⟩
  rw [h3]; exact Int.mul_ediv_cancel _ (by omega)


theorem cop_add {p r : Int} {q s : Nat} (h : Nat.gcd p.natAbs q = 1) (hs : Nat.gcd s q = 1) : Nat.gcd (p * (s : Int) + r * (q : Int)).natAbs q = 1 := by
  have h1 : Int.gcd (p * (s : Int) + r * (q : Int)) (q : Int) = Int.gcd (p * (s : Int)) (q : Int) := Int.gcd_add_mul_right_left _ _ _
  have h2 : Nat.gcd (p * (s : Int)).natAbs q = 1 := by
    rw [Int.natAbs_mul, Int.natAbs_natCast]; exact Nat.Coprime.mul_left h hs
  simpa [Int.gcd] using h1.trans h2

theorem cop_sum {p r : Int} {q s g q' s' : Nat} (h : Nat.gcd p.natAbs q = 1) (k : Nat.gcd r.natAbs s = 1) (hq : q = g * q') (hs : s = g * s') (hc : Nat.gcd q' s' = 1) : Nat.gcd (p * (s' : Int) + r * (q' : Int)).natAbs (q' * s') = 1 := by
  have h' : Nat.gcd p.natAbs q' = 1 := Nat.Coprime.coprime_dvd_right ⟨g, by rw [hq, Nat.mul_comm]⟩ h
  have k' : Nat.gcd r.natAbs s' = 1 := Nat.Coprime.coprime_dvd_right ⟨g, by rw [hs, Nat.mul_comm]⟩ k
  have a1 := cop_add (r := r) h' ((Nat.gcd_comm _ _).trans hc)
  have a2 := cop_add (r := p) k' hc
  rw [Int.add_comm] at a2
  exact Nat.Coprime.mul_right a1 a2

theorem plus_low1 {p r : Int} {q s : Nat} (h : Nat.gcd p.natAbs q = 1) (k : Nat.gcd r.natAbs s = 1) (hc : Nat.gcd q s = 1) : Nat.gcd (p * (s : Int) + r * (q : Int)).natAbs (q * s) = 1 :=
  cop_sum (g := 1) h k (Nat.one_mul _).symm (Nat.one_mul _).symm hc

theorem gcd_parts {q s : Nat} (hq : 0 < q) : q = Nat.gcd q s * (q / Nat.gcd q s) ∧ s = Nat.gcd q s * (s / Nat.gcd q s) ∧ Nat.gcd (q / Nat.gcd q s) (s / Nat.gcd q s) = 1 ∧ 0 < Nat.gcd q s ∧ 0 < q / Nat.gcd q s := by
  have h0 : 0 < Nat.gcd q s := Nat.gcd_pos_of_pos_left _ hq
  refine ⟨(Nat.mul_div_cancel' (Nat.gcd_dvd_left _ _)).symm, (Nat.mul_div_cancel' (Nat.gcd_dvd_right _ _)).symm, ?_, h0, Nat.div_pos (Nat.le_of_dvd hq (Nat.gcd_dvd_left _ _)) h0⟩
  rw [Nat.gcd_div (Nat.gcd_dvd_left _ _) (Nat.gcd_dvd_right _ _), Nat.div_self h0]

theorem gcd_low0 {z : Int} {n : Nat} (hn : n ≠ 0) : 0 < Nat.gcd z.natAbs n ∧ 0 < n / Nat.gcd z.natAbs n ∧ Nat.gcd (z / (Nat.gcd z.natAbs n : Int)).natAbs (n / Nat.gcd z.natAbs n) = 1 := by
  have h1 : 0 < Nat.gcd z.natAbs n := Nat.gcd_pos_of_pos_right _ (Nat.pos_of_ne_zero hn)
  refine ⟨h1, Nat.div_pos (Nat.le_of_dvd (Nat.pos_of_ne_zero hn) (Nat.gcd_dvd_right _ _)) h1, ?_⟩
  have h2 : (z / (Nat.gcd z.natAbs n : Int)).natAbs = z.natAbs / Nat.gcd z.natAbs n := by
    rw [Int.natAbs_ediv_of_dvd]
    · simp
    · exact Int.ofNat_dvd_left.2 (Nat.gcd_dvd_left _ _)
  rw [h2]
  rw [Nat.gcd_div (Nat.gcd_dvd_left _ _) (Nat.gcd_dvd_right _ _), Nat.div_self h1]

theorem zdiv_abs_dvd {z : Int} {n : Nat} : (z / (Nat.gcd z.natAbs n : Int)).natAbs ∣ z.natAbs := by
  have h2 : (z / (Nat.gcd z.natAbs n : Int)).natAbs = z.natAbs / Nat.gcd z.natAbs n := by
    rw [Int.natAbs_ediv_of_dvd]
    · simp
    · exact Int.ofNat_dvd_left.2 (Nat.gcd_dvd_left _ _)
  rw [h2]; exact Nat.div_dvd_of_dvd (Nat.gcd_dvd_left _ _)

theorem zdiv_mul {z : Int} {n : Nat} : (z / (Nat.gcd z.natAbs n : Int)) * (Nat.gcd z.natAbs n : Int) = z :=
  Int.ediv_mul_cancel (Int.ofNat_dvd_left.2 (Nat.gcd_dvd_left _ _))

/-- The sum by way of what the lower parts share. -/
theorem plus_low2 {p r : Int} {q s g q' s' d : Nat} {U : Int} (h : Nat.gcd p.natAbs q = 1) (k : Nat.gcd r.natAbs s = 1) (hq : q = g * q') (hs : s = g * s') (hc : Nat.gcd q' s' = 1) (hg : 0 < g) (hU : U = p * (s' : Int) + r * (q' : Int)) (hd : d = Nat.gcd U.natAbs g) :
    Nat.gcd (U / (d : Int)).natAbs (g / d * q' * s') = 1 ∧ (U / (d : Int)) * ((q * s : Nat) : Int) = (p * (s : Int) + r * (q : Int)) * ((g / d * q' * s' : Nat) : Int) := by
  have hcop := cop_sum h k hq hs hc
  rw [← hU] at hcop
  obtain ⟨e1, e2, e3⟩ := gcd_low0 (z := U) (n := g) (by omega)
  have e4 : (U / (Nat.gcd U.natAbs g : Int)) * (Nat.gcd U.natAbs g : Int) = U := zdiv_mul
  have e5 : (U / (Nat.gcd U.natAbs g : Int)).natAbs ∣ U.natAbs := zdiv_abs_dvd
  have e6 : g / Nat.gcd U.natAbs g * Nat.gcd U.natAbs g = g := Nat.div_mul_cancel (Nat.gcd_dvd_right _ _)
  rw [← hd] at e1 e2 e3 e4 e5 e6
  refine ⟨?_, ?_⟩
  · rw [Nat.mul_assoc]
    exact Nat.Coprime.mul_right e3 (Nat.Coprime.coprime_dvd_left e5 hcop)
  · generalize U / (d : Int) = a at *
    generalize g / d = b at *
    subst hq hs e6
    have : p * ((b * d * s' : Nat) : Int) + r * ((b * d * q' : Nat) : Int) = (b : Int) * (d : Int) * U := by rw [hU]; push_cast; grind
    rw [this, ← e4]; push_cast; grind

theorem times_low {p r : Int} {q s d1 d2 : Nat} (h : Nat.gcd p.natAbs q = 1) (k : Nat.gcd r.natAbs s = 1) (hq : 0 < q) (hs : 0 < s) (hd1 : d1 = Nat.gcd p.natAbs s) (hd2 : d2 = Nat.gcd r.natAbs q) :
    Nat.gcd (p / (d1 : Int) * (r / (d2 : Int))).natAbs (s / d1 * (q / d2)) = 1 ∧ (p / (d1 : Int) * (r / (d2 : Int))) * ((q * s : Nat) : Int) = (p * r) * ((s / d1 * (q / d2) : Nat) : Int) := by
  obtain ⟨a1, a2, a3⟩ := gcd_low0 (z := p) (n := s) (by omega)
  obtain ⟨b1, b2, b3⟩ := gcd_low0 (z := r) (n := q) (by omega)
  have a4 : (p / (Nat.gcd p.natAbs s : Int)) * (Nat.gcd p.natAbs s : Int) = p := zdiv_mul
  have b4 : (r / (Nat.gcd r.natAbs q : Int)) * (Nat.gcd r.natAbs q : Int) = r := zdiv_mul
  have a5 : (p / (Nat.gcd p.natAbs s : Int)).natAbs ∣ p.natAbs := zdiv_abs_dvd
  have b5 : (r / (Nat.gcd r.natAbs q : Int)).natAbs ∣ r.natAbs := zdiv_abs_dvd
  have a6 : s / Nat.gcd p.natAbs s * Nat.gcd p.natAbs s = s := Nat.div_mul_cancel (Nat.gcd_dvd_right _ _)
  have b6 : q / Nat.gcd r.natAbs q * Nat.gcd r.natAbs q = q := Nat.div_mul_cancel (Nat.gcd_dvd_right _ _)
  rw [← hd1] at a1 a2 a3 a4 a5 a6
  rw [← hd2] at b1 b2 b3 b4 b5 b6
  refine ⟨?_, ?_⟩
  · rw [Int.natAbs_mul]
    have c1 : Nat.gcd (p / (d1 : Int)).natAbs (q / d2) = 1 := Nat.Coprime.coprime_dvd_left a5 (Nat.Coprime.coprime_dvd_right ⟨d2, b6.symm⟩ h)
    have c2 : Nat.gcd (r / (d2 : Int)).natAbs (s / d1) = 1 := Nat.Coprime.coprime_dvd_left b5 (Nat.Coprime.coprime_dvd_right ⟨d1, a6.symm⟩ k)
    exact Nat.Coprime.mul_left (Nat.Coprime.mul_right a3 c1) (Nat.Coprime.mul_right c2 b3)
  · generalize p / (d1 : Int) = a at *
    generalize r / (d2 : Int) = b at *
    generalize s / d1 = c at *
    generalize q / d2 = e at *
    rw [← a4, ← b4, ← a6, ← b6]; push_cast; grind
end Go.Proofs.YtnhfdcfnojnofaaGreatDoor

/-
  What package fraction does: Of, IsWhole, Sign, divisor, reduced.
-/
namespace Go.Proofs.YtnhfdcfnojnofaaGreatDoor
open Go.RowKit

/-- The lower part as it is kept: a 1 is left empty. -/
def lowN (q : Nat) : Nat := if q = 1 then 0 else q

/-- A struct value that stands for the fraction p / q in lowest terms. -/
def FracV (w : World) (x : Value) (p : Int) (q : Nat) : Prop :=
  ∃ b v u, x = .agg #[.bool b, v, u] ∧ NatV w v p.natAbs ∧ Hid (b = decide (p < 0)) ∧ NatV w u (lowN q) ∧ 0 < q ∧ Hid (Nat.gcd p.natAbs q = 1)

theorem FracV.below {w w' : World} {x : Value} {p : Int} {q : Nat} (h : FracV w x p q) (hb : Below w.heap.size w w') : FracV w' x p q := by
  obtain ⟨b, v, u, h1, h2, h3, h4, h5⟩ := h
  exact ⟨b, v, u, h1, h2.below hb, h3, h4.below hb, h5⟩
theorem FracV.alloc {w : World} {x : Value} {p : Int} {q : Nat} (h : FracV w x p q) (o : Obj) : FracV (w.alloc o) x p q := h.below ((Below.refl _ _).alloc (Nat.le_refl _) o)
theorem FracV.drewN {w : World} {x : Value} {p : Int} {q : Nat} (h : FracV w x p q) (k : Nat) : FracV (w.drewN k) x p q := h
theorem FracV.drew {w : World} {x : Value} {p : Int} {q : Nat} (h : FracV w x p q) : FracV w.drew x p q := h

theorem FracV.parts {w : World} {x : Value} {p : Int} {q : Nat} (h : FracV w x p q) : ∃ b ao l cap ao' l' cap', x = .agg #[.bool b, .slice ao l cap, .slice ao' l' cap'] ∧ NatV w (.slice ao l cap) p.natAbs ∧ Hid (b = decide (p < 0)) ∧ NatV w (.slice ao' l' cap') (lowN q) ∧ 0 < q ∧ Hid (Nat.gcd p.natAbs q = 1) := by
  obtain ⟨b, v, u, h1, h2, h3, h4, h5⟩ := h
  obtain ⟨ao, l, cap, rfl⟩ := h2.slice
  obtain ⟨ao', l', cap', rfl⟩ := h4.slice
  exact ⟨b, ao, l, cap, ao', l', cap', h1, h2, h3, h4, h5⟩

/-- A box of three cells that may be written. -/
def Box3 (w : World) (g : Nat) (x y z : Value) : Prop :=
  w.cell? ⟨g, 0, none⟩ = some x ∧ w.cell? ⟨g, 1, none⟩ = some y ∧ w.cell? ⟨g, 2, none⟩ = some z ∧ w.frozen? ⟨g, 0, none⟩ = false ∧ w.frozen? ⟨g, 1, none⟩ = false ∧ w.frozen? ⟨g, 2, none⟩ = false ∧ g < w.heap.size
theorem Box3.below {w w' : World} {g : Nat} {x y z : Value} (h : Box3 w g x y z) (hb : Below w.heap.size w w') : Box3 w' g x y z := by
  obtain ⟨h1, h2, h3, h4, h5, h6, h7⟩ := h
  exact ⟨(hb.cell (p := ⟨g, 0, none⟩) h7).trans h1, (hb.cell (p := ⟨g, 1, none⟩) h7).trans h2, (hb.cell (p := ⟨g, 2, none⟩) h7).trans h3, (hb.frozen (p := ⟨g, 0, none⟩) h7).trans h4, (hb.frozen (p := ⟨g, 1, none⟩) h7).trans h5, (hb.frozen (p := ⟨g, 2, none⟩) h7).trans h6, Nat.lt_of_lt_of_le h7 hb.size⟩
theorem Box3.new (w : World) (x y z : Value) (t : TypeId) : Box3 (w.alloc (.cells #[x, y, z] t)) w.heap.size x y z := by
  refine ⟨?_, ?_, ?_, ?_, ?_, ?_, ?_⟩ <;> simp
theorem Box3.alloc {w : World} {g : Nat} {x y z : Value} (h : Box3 w g x y z) (o : Obj) : Box3 (w.alloc o) g x y z := h.below ((Below.refl _ _).alloc (Nat.le_refl _) o)
theorem Box3.drew {w : World} {g : Nat} {x y z : Value} (h : Box3 w g x y z) : Box3 w.drew g x y z := h
theorem Box3.drewN {w : World} {g : Nat} {x y z : Value} (h : Box3 w g x y z) (q : Nat) : Box3 (w.drewN q) g x y z := h
theorem Box3.new1 (w : World) (A : Obj) (x y z : Value) (t : TypeId) : Box3 ((w.alloc A).alloc (.cells #[x, y, z] t)) (w.heap.size + 1) x y z := by
  have := Box3.new (w.alloc A) x y z t; simpa using this
theorem Box3.new2 (w : World) (A B : Obj) (x y z : Value) (t : TypeId) : Box3 (((w.alloc A).alloc B).alloc (.cells #[x, y, z] t)) (w.heap.size + 1 + 1) x y z := by
  have := Box3.new ((w.alloc A).alloc B) x y z t; simpa using this
theorem Box2.new1 (w : World) (A : Obj) (x y : Value) (t : TypeId) : Box2 ((w.alloc A).alloc (.cells #[x, y] t)) (w.heap.size + 1) x y := by
  have := Box2.new (w.alloc A) x y t; simpa using this

/-- A fraction laid into a box of its own and read from there. -/
theorem fracV_boxed {w : World} {g : Nat} {b0 b : Bool} {a0 a1 : Option Addr} {l0 c0 l1 c1 : Nat} {v u : Value} {p : Int} {q : Nat} (hv : NatV w v p.natAbs) (hb : Hid (b = decide (p < 0))) (hu : NatV w u (lowN q)) (hq : 0 < q) (hg : Hid (Nat.gcd p.natAbs q = 1))
    (h0 : w.cell? ⟨g, 0, none⟩ = some (.bool b0)) (h1 : w.cell? ⟨g, 1, none⟩ = some (.slice a0 l0 c0)) (h2 : w.cell? ⟨g, 2, none⟩ = some (.slice a1 l1 c1)) :
    FracV (((w.setCell ⟨g, 0, none⟩ (.bool b)).setCell ⟨g, 1, none⟩ v).setCell ⟨g, 2, none⟩ u) (.agg #[.bool b, v, u]) p q := by
  have e1 : (w.setCell ⟨g, 0, none⟩ (.bool b)).cell? ⟨g, 1, none⟩ = some (.slice a0 l0 c0) := by rw [World.cell?_setCell_other _ _ _ _ (by simp)]; exact h1
  have e2 : ((w.setCell ⟨g, 0, none⟩ (.bool b)).setCell ⟨g, 1, none⟩ v).cell? ⟨g, 2, none⟩ = some (.slice a1 l1 c1) := by
    rw [World.cell?_setCell_other _ _ _ _ (by simp), World.cell?_setCell_other _ _ _ _ (by simp)]; exact h2
  exact ⟨b, v, u, rfl, ((hv.setCell h0 (by simp) _).setCell e1 (by simp) _).setCell e2 (by simp) _, hb, ((hu.setCell h0 (by simp) _).setCell e1 (by simp) _).setCell e2 (by simp) _, hq, hg⟩

set_option maxRecDepth 100000 in
set_option maxHeartbeats 400000 in
theorem fof_any (w : World) (x : Value) (z : Int) (h : WholeV w x z) :
    Calls Tryz.prog 75 #[x] w fun e w' => ∃ s, e = .returned s ∧ FracV w' s z 1 ∧ Below w.heap.size w w' := by
  obtain ⟨b, ao, l, cap, rfl, hv, hb⟩ := h.parts
  go_enter Tryz.func75, Tryz.ntmps75
  go_wp2
  exact bodyPost_ret (v := .agg #[.bool b, .slice ao l cap, .slice none 0 0]) (by simp [results, Tryz.results75, go_sem]) rfl ⟨_, rfl, ⟨b, _, _, rfl, (hv.alloc _).alloc _, hb, NatV.zero _ _ _, by omega, Nat.gcd_one_right _⟩, below2 w _ _⟩

set_option maxRecDepth 100000 in
set_option maxHeartbeats 400000 in
theorem isWhole_yes (w : World) (x : Value) (p : Int) (h : FracV w x p 1) :
    Calls Tryz.prog 79 #[x] w fun e w' => e = .returned (.bool true) ∧ Below w.heap.size w w' := by
  obtain ⟨b, ao, l, cap, ao', l', cap', rfl, hv, hb, hu, hq, hg⟩ := h.parts
  rw [show lowN 1 = 0 from rfl] at hu
  go_enter Tryz.func79, Tryz.ntmps79
  go_wp2_with fail
  refine (isZero_yes _ _ (hu.alloc _)).mono ?_
  rintro e w' ⟨rfl, rfl⟩
  go_wp2
  go_ret
  exact ⟨rfl, (Below.refl _ _).alloc (Nat.le_refl _) _⟩

theorem lowN_ne {q : Nat} (hq : 0 < q) (h1 : q ≠ 1) : lowN q = q ∧ lowN q ≠ 0 := by
  unfold lowN; rw [if_neg h1]; omega

set_option maxRecDepth 100000 in
set_option maxHeartbeats 400000 in
theorem isWhole_no (w : World) (x : Value) (p : Int) (q : Nat) (h : FracV w x p q) (h1 : q ≠ 1) :
    Calls Tryz.prog 79 #[x] w fun e w' => e = .returned (.bool false) ∧ Below w.heap.size w w' := by
  obtain ⟨b, ao, l, cap, ao', l', cap', rfl, hv, hb, hu, hq, hg⟩ := h.parts
  go_enter Tryz.func79, Tryz.ntmps79
  go_wp2_with fail
  refine (isZero_no _ _ _ (hu.alloc _) (lowN_ne hq h1).2).mono ?_
  rintro e w' ⟨rfl, rfl⟩
  go_wp2
  go_ret
  exact ⟨rfl, (Below.refl _ _).alloc (Nat.le_refl _) _⟩

set_option maxRecDepth 100000 in
set_option maxHeartbeats 400000 in
theorem fsign_any (w : World) (x : Value) (p : Int) (q : Nat) (h : FracV w x p q) :
    Calls Tryz.prog 208 #[x] w fun e w' => e = .returned (.int .i64 p.sign) ∧ Below w.heap.size w w' := by
  obtain ⟨b, ao, l, cap, ao', l', cap', rfl, hv, hb, hu, hq, hg⟩ := h.parts
  have hb1 : Below w.heap.size w (w.alloc (.cells #[.bool b, .slice ao l cap, .slice ao' l' cap'] 103)) := (Below.refl _ _).alloc (Nat.le_refl _) _
  go_enter Tryz.func208, Tryz.ntmps208
  go_wp2_with fail
  refine (sign_any _ _ p ⟨b, _, rfl, hv.alloc _, hb⟩).mono ?_
  rintro e w' ⟨rfl, hbel⟩
  go_wp2
  go_ret
  exact ⟨rfl, hb1.trans (hbel.mono hb1.size)⟩

set_option maxRecDepth 100000 in
set_option maxHeartbeats 400000 in
theorem divisor_any (w : World) (x : Value) (p : Int) (q : Nat) (h : FracV w x p q) :
    Calls Tryz.prog 201 #[x] w fun e w' => ∃ v, e = .returned v ∧ NatV w' v q ∧ Below w.heap.size w w' := by
  have h0 := h
  obtain ⟨b, ao, l, cap, ao', l', cap', rfl, hv, hb, hu, hq, hg⟩ := h.parts
  have hb1 : Below w.heap.size w (w.alloc (.cells #[.bool b, .slice ao l cap, .slice ao' l' cap'] 103)) := (Below.refl _ _).alloc (Nat.le_refl _) _
  have hbox : Box3 (w.alloc (.cells #[.bool b, .slice ao l cap, .slice ao' l' cap'] 103)) w.heap.size (.bool b) (.slice ao l cap) (.slice ao' l' cap') := Box3.new _ _ _ _ _
  by_cases h1 : q = 1
  · subst h1
    go_enter Tryz.func201, Tryz.ntmps201
    go_wp2_with fail
    refine (isWhole_yes _ _ p (h0.alloc _)).mono ?_
    rintro e w' ⟨rfl, hbel⟩
    go_wp2_with fail
    refine (of_int _ _ 1 (by simp) (by omega)).mono ?_
    rintro e w2 ⟨v, rfl, hv2, hbv⟩
    go_wp2
    go_ret
    have hb2 := hb1.trans (hbel.mono hb1.size)
    exact ⟨_, rfl, hv2, hb2.trans (hbv.mono hb2.size)⟩
  · rw [(lowN_ne hq h1).1] at hu
    go_enter Tryz.func201, Tryz.ntmps201
    go_wp2_with fail
    refine (isWhole_no _ _ p q (h0.alloc _) h1).mono ?_
    rintro e w' ⟨rfl, hbel⟩
    have hbox2 := hbox.below hbel
    obtain ⟨c0, c1, c2, f0, f1, f2, g0⟩ := hbox2
    go_wp2
    go_ret
    exact ⟨_, rfl, (hu.alloc _).below hbel, hb1.trans (hbel.mono hb1.size)⟩
end Go.Proofs.YtnhfdcfnojnofaaGreatDoor

/-
  What package fraction does: reduced.
-/
namespace Go.Proofs.YtnhfdcfnojnofaaGreatDoor
open Go.RowKit

theorem Box3.far {w : World} {g h o : Nat} {x y z u : Value} (b : Box3 w g x y z) (hne : h ≠ g) : Box3 (w.setCell ⟨h, o, none⟩ u) g x y z := by
  obtain ⟨h1, h2, h3, h4, h5, h6, h7⟩ := b
  exact ⟨by rw [Go.Proofs.YtnhfdcfnojnofaaGreatDoor.far hne]; exact h1, by rw [Go.Proofs.YtnhfdcfnojnofaaGreatDoor.far hne]; exact h2, by rw [Go.Proofs.YtnhfdcfnojnofaaGreatDoor.far hne]; exact h3, by simpa using h4, by simpa using h5, by simpa using h6, by simpa using h7⟩

theorem FracV.whole {w : World} {x : Value} {p : Int} {q : Nat} (h : FracV w x p q) : ∃ b v u, x = .agg #[.bool b, v, u] ∧ WholeV w (.agg #[.bool b, v]) p := by
  obtain ⟨b, v, u, h1, h2, h3, _⟩ := h
  exact ⟨b, v, u, h1, b, v, rfl, h2, h3⟩

theorem gcd_low {z : Int} {n : Nat} (hn : n ≠ 0) : 0 < Nat.gcd z.natAbs n ∧ 0 < n / Nat.gcd z.natAbs n ∧ Nat.gcd (z / (Nat.gcd z.natAbs n : Int)).natAbs (n / Nat.gcd z.natAbs n) = 1 := by
  have h1 : 0 < Nat.gcd z.natAbs n := Nat.gcd_pos_of_pos_right _ (Nat.pos_of_ne_zero hn)
  refine ⟨h1, Nat.div_pos (Nat.le_of_dvd (Nat.pos_of_ne_zero hn) (Nat.gcd_dvd_right _ _)) h1, ?_⟩
  have h2 : (z / (Nat.gcd z.natAbs n : Int)).natAbs = z.natAbs / Nat.gcd z.natAbs n := by
    rw [Int.natAbs_ediv_of_dvd]
    · simp
    · exact Int.ofNat_dvd_left.2 (Nat.gcd_dvd_left _ _)
  rw [h2]
  rw [Nat.gcd_div (Nat.gcd_dvd_left _ _) (Nat.gcd_dvd_right _ _), Nat.div_self h1]

set_option maxRecDepth 100000 in
set_option maxHeartbeats 1000000 in
theorem flowest_any (w : World) (x v : Value) (z : Int) (n : Nat) (h : WholeV w x z) (hv : NatV w v n) (hn : 0 < n) (hg : Hid (Nat.gcd z.natAbs n = 1)) :
    Calls Tryz.prog 139 #[x, v] w fun e w' => ∃ s, e = .returned s ∧ FracV w' s z n ∧ Below w.heap.size w w' := by
  have h0 := h
  obtain ⟨b, ao, l, cap, rfl, hx, hb⟩ := h.parts
  obtain ⟨ao', l', cap', rfl⟩ := hv.slice
  have hbox2 : Box2 ((w.alloc (.cells #[.bool b, .slice ao l cap] 101)).alloc (.cells #[.bool false, .slice none 0 0, .slice none 0 0] 103)) w.heap.size (.bool b) (.slice ao l cap) := (Box2.new _ _ _ _).alloc _
  have hbox3 : Box3 ((w.alloc (.cells #[.bool b, .slice ao l cap] 101)).alloc (.cells #[.bool false, .slice none 0 0, .slice none 0 0] 103)) (w.heap.size + 1) (.bool false) (.slice none 0 0) (.slice none 0 0) := Box3.new1 _ _ _ _ _ _
  have hbW := below2 w (.cells #[.bool b, .slice ao l cap] 101) (.cells #[.bool false, .slice none 0 0, .slice none 0 0] 103)
  by_cases h1 : n = 1
  · subst h1
    go_enter Tryz.func139, Tryz.ntmps139
    go_wp2_with fail
    refine (isOne_yes _ _ ((hv.alloc _).alloc _)).mono ?_
    rintro e w' ⟨rfl, rfl⟩
    go_wp2_with fail
    refine (fof_any _ _ z ((h0.alloc _).alloc _)).mono ?_
    rintro e w2 ⟨s, rfl, hs, hbs⟩
    obtain ⟨b2, a2, l2, k2, a3, l3, k3, rfl, hp1, hp2, hp3, hp4, hp5⟩ := hs.parts
    have hbox := hbox3.below hbs
    have hbA : Below w.heap.size w w2 := hbW.trans (hbs.mono hbW.size)
    obtain ⟨c0, c1, c2, f0, f1, f2, g0⟩ := hbox
    clear hbs hs hbox2 hbox3
    go_wp2
    exact bodyPost_ret (v := .agg #[.bool b2, .slice a2 l2 k2, .slice a3 l3 k3]) (by simp [results, Tryz.results139, go_sem, c0, c1, c2]) rfl ⟨_, rfl, fracV_boxed hp1 hp2 hp3 hp4 hp5 c0 c1 c2,
      ((hbA.setCell (by simp) _).setCell (by simp) _).setCell (by simp) _⟩
  · have hlow : lowN n = n := (lowN_ne hn h1).1
    have hv2 := (hv.alloc (.cells #[.bool b, .slice ao l cap] 101)).alloc (.cells #[.bool false, .slice none 0 0, .slice none 0 0] 103)
    have hx2 := (hx.alloc (.cells #[.bool b, .slice ao l cap] 101)).alloc (.cells #[.bool false, .slice none 0 0, .slice none 0 0] 103)
    have HL := hide hlow
    clear hlow
    go_enter Tryz.func139, Tryz.ntmps139
    go_wp2_with fail
    refine (isOne_no _ _ _ hv2 h1).mono ?_
    rintro e w' ⟨rfl, hw'⟩
    rw [← hw'] at hv2 hx2 hbox2 hbox3 hbW
    clear hw'
    obtain ⟨p0, p1, p2, p3, p4⟩ := hbox2
    obtain ⟨c0, c1, c2, f0, f1, f2, g0⟩ := hbox3
    go_wp2
    exact bodyPost_ret (v := .agg #[.bool b, .slice ao l cap, .slice ao' l' cap']) (by simp [results, Tryz.results139, go_sem, c0, c1, c2]) rfl ⟨_, rfl, fracV_boxed hx2 hb (by rw [HL.out]; exact hv2) hn hg c0 c1 c2,
      ((hbW.setCell (by simp) _).setCell (by simp) _).setCell (by simp) _⟩

set_option maxRecDepth 100000 in
set_option maxHeartbeats 1000000 in
theorem reduced_any (K : Nat) (hK : K ≤ 1073741822) (hO : OverOK K) (w : World) (x v : Value) (z : Int) (n : Nat) (h : WholeV w x z) (hv : NatV w v n) (hn : n ≠ 0) (hz : z.natAbs < 4294967296 ^ K) (hnk : n < 4294967296 ^ K) :
    Calls Tryz.prog 78 #[x, v] w fun e w' => ∃ s, e = .returned s ∧ FracV w' s (z / (Nat.gcd z.natAbs n : Int)) (n / Nat.gcd z.natAbs n) ∧ Below w.heap.size w w' := by
  have h0 := h
  obtain ⟨b, ao, l, cap, rfl, hx, hb⟩ := h.parts
  obtain ⟨ao', l', cap', rfl⟩ := hv.slice
  have hbox2 : Box2 ((w.alloc (.cells #[.bool b, .slice ao l cap] 101)).alloc (.cells #[.bool false, .slice none 0 0, .slice none 0 0] 103)) w.heap.size (.bool b) (.slice ao l cap) := (Box2.new _ _ _ _).alloc _
  have hbox3 : Box3 ((w.alloc (.cells #[.bool b, .slice ao l cap] 101)).alloc (.cells #[.bool false, .slice none 0 0, .slice none 0 0] 103)) (w.heap.size + 1) (.bool false) (.slice none 0 0) (.slice none 0 0) := Box3.new1 _ _ _ _ _ _
  have hbW := below2 w (.cells #[.bool b, .slice ao l cap] 101) (.cells #[.bool false, .slice none 0 0, .slice none 0 0] 103)
  by_cases h1 : n = 1
  · subst h1
    have e1 : Nat.gcd z.natAbs 1 = 1 := Nat.gcd_one_right _
    rw [e1, Nat.div_self (by omega), Int.natCast_one, Int.ediv_one]
    go_enter Tryz.func78, Tryz.ntmps78
    go_wp2_with fail
    refine (isOne_yes _ _ ((hv.alloc _).alloc _)).mono ?_
    rintro e w' ⟨rfl, rfl⟩
    go_wp2_with fail
    refine (fof_any _ _ z ((h0.alloc _).alloc _)).mono ?_
    rintro e w2 ⟨s, rfl, hs, hbs⟩
    obtain ⟨b2, a2, l2, k2, a3, l3, k3, rfl, hp1, hp2, hp3, hp4, hp5⟩ := hs.parts
    have hbox := hbox3.below hbs
    have hbA : Below w.heap.size w w2 := hbW.trans (hbs.mono hbW.size)
    obtain ⟨c0, c1, c2, f0, f1, f2, g0⟩ := hbox
    clear hbs hs hbox2 hbox3
    go_wp2
    exact bodyPost_ret (v := .agg #[.bool b2, .slice a2 l2 k2, .slice a3 l3 k3]) (by simp [results, Tryz.results78, go_sem, c0, c1, c2]) rfl ⟨_, rfl, fracV_boxed hp1 hp2 hp3 hp4 hp5 c0 c1 c2,
      ((hbA.setCell (by simp) _).setCell (by simp) _).setCell (by simp) _⟩
  · obtain ⟨hg0, hg1, hg2⟩ := gcd_low (z := z) hn
    have hgle : Nat.gcd z.natAbs n ≤ n := Nat.le_of_dvd (Nat.pos_of_ne_zero hn) (Nat.gcd_dvd_right _ _)
    have hgk : Nat.gcd z.natAbs n < 4294967296 ^ K := Nat.lt_of_le_of_lt hgle hnk
    have hnd : lowN (n / Nat.gcd z.natAbs n) = if n / Nat.gcd z.natAbs n = 1 then 0 else n / Nat.gcd z.natAbs n := rfl
    generalize hgg : Nat.gcd z.natAbs n = g at *
    have HG := hide hgg
    have HG2 := hide hg2
    have HND := hide hnd
    clear hgg hg2 hnd
    go_enter Tryz.func78, Tryz.ntmps78
    go_wp2_with fail
    refine (isOne_no _ _ _ ((hv.alloc _).alloc _) h1).mono ?_
    rintro e w' ⟨rfl, rfl⟩
    go_wp2_with fail
    refine (size_any _ _ z ((h0.alloc _).alloc _)).mono ?_
    rintro e w2 ⟨sv, rfl, hs, hbs⟩
    go_wp2_with fail
    refine (gcd_any K (by omega) hO _ _ _ z.natAbs n hs (((hv.alloc _).alloc _).below hbs) hz hnk).mono ?_
    rintro e w3 ⟨gv, rfl, hgv, hbg⟩
    rw [HG.out] at hgv
    have hb23 : Below ((w.alloc (.cells #[.bool b, .slice ao l cap] 101)).alloc (.cells #[.bool false, .slice none 0 0, .slice none 0 0] 103)).heap.size ((w.alloc (.cells #[.bool b, .slice ao l cap] 101)).alloc (.cells #[.bool false, .slice none 0 0, .slice none 0 0] 103)) w3 := hbs.trans (hbg.mono hbs.size)
    have hv3 := ((hv.alloc _).alloc _).below hb23
    have hx3 := ((hx.alloc _).alloc _).below hb23
    have h03 := ((h0.alloc _).alloc _).below hb23
    have hbox23 := hbox2.below hb23
    have hbox33 := hbox3.below hb23
    have hb3 : Below w.heap.size w w3 := hbW.trans (hb23.mono hbW.size)
    clear hbs hbg hb23 hs hbox2 hbox3
    by_cases hg1' : g = 1
    · subst hg1'
      rw [Nat.div_one, Int.natCast_one, Int.ediv_one] at *
      obtain ⟨p0, p1, p2, p3, p4⟩ := hbox23
      obtain ⟨c0, c1, c2, f0, f1, f2, g0⟩ := hbox33
      go_wp2_with fail
      refine (isOne_yes _ _ hgv).mono ?_
      rintro e w4 ⟨rfl, rfl⟩
      go_wp2_with fail
      refine (flowest_any _ _ _ z n ⟨b, _, rfl, hx3, hb⟩ hv3 hg1 HG2).mono ?_
      rintro e w9 ⟨s, rfl, hs, hbs⟩
      obtain ⟨b3, a5, l5, k5, a6, l6, k6, rfl, hr1, hr2, hr3, hr4, hr5⟩ := hs.parts
      have hb9 : Below w.heap.size w w9 := hb3.trans (hbs.mono hb3.size)
      have hbox := Box3.below ⟨c0, c1, c2, f0, f1, f2, g0⟩ hbs
      clear c0 c1 c2 f0 f1 f2 g0 p0 p1 p2 p3 p4
      obtain ⟨c0, c1, c2, f0, f1, f2, g0⟩ := hbox
      clear hbs hs
      go_wp2
      exact bodyPost_ret (v := .agg #[.bool b3, .slice a5 l5 k5, .slice a6 l6 k6]) (by simp [results, Tryz.results78, go_sem, c0, c1, c2]) rfl ⟨_, rfl, by rw [Int.natCast_one, Int.ediv_one, Nat.div_one]; exact fracV_boxed hr1 hr2 hr3 hr4 hr5 c0 c1 c2,
        ((hb9.setCell (by simp) _).setCell (by simp) _).setCell (by simp) _⟩
    · have hgg2 : g ≠ 0 := by omega
      obtain ⟨p0, p1, p2, p3, p4⟩ := hbox23
      go_wp2_with fail
      refine (isOne_no _ _ _ hgv hg1').mono ?_
      rintro e w4 ⟨rfl, rfl⟩
      go_wp2_with fail
      refine (floorOver_any K hK hO _ _ _ z g h03 hgv hgg2 hz hgk).mono ?_
      rintro e w5 ⟨fv, rfl, hfv, hbf⟩
      have hb5 : Below w.heap.size w w5 := hb3.trans (hbf.mono hb3.size)
      have hbox35 := hbox33.below hbf
      have hv5 := hv3.below hbf
      have hgv5 := hgv.below hbf
      have q0 : w5.cell? ⟨w.heap.size, 0, none⟩ = some (.bool b) := (hbf.cell (p := ⟨w.heap.size, 0, none⟩) p4).trans p0
      have q1 : w5.cell? ⟨w.heap.size, 1, none⟩ = some (.slice ao l cap) := (hbf.cell (p := ⟨w.heap.size, 1, none⟩) p4).trans p1
      have q2 : w5.frozen? ⟨w.heap.size, 0, none⟩ = false := (hbf.frozen (p := ⟨w.heap.size, 0, none⟩) p4).trans p2
      have q3 : w5.frozen? ⟨w.heap.size, 1, none⟩ = false := (hbf.frozen (p := ⟨w.heap.size, 1, none⟩) p4).trans p3
      have q4 : w.heap.size < w5.heap.size := Nat.lt_of_lt_of_le p4 hbf.size
      obtain ⟨b2, a2, l2, k2, rfl, hp1, hp2⟩ := hfv.parts
      clear hbf hbox33 p0 p1 p2 p3 p4 hv3 hgv h03 hx3
      have e1 : (w5.setCell ⟨w.heap.size, 0, none⟩ (.bool b2)).cell? ⟨w.heap.size, 1, none⟩ = some (.slice ao l cap) := by rw [World.cell?_setCell_other _ _ _ _ (by simp)]; exact q1
      have hup6 := (hp1.setCell q0 (by simp) (.bool b2)).setCell e1 (by simp) (.slice a2 l2 k2)
      have hv6 := (hv5.setCell q0 (by simp) (.bool b2)).setCell e1 (by simp) (.slice a2 l2 k2)
      have hgv6 := (hgv5.setCell q0 (by simp) (.bool b2)).setCell e1 (by simp) (.slice a2 l2 k2)
      have hbox36 : Box3 ((w5.setCell ⟨w.heap.size, 0, none⟩ (.bool b2)).setCell ⟨w.heap.size, 1, none⟩ (.slice a2 l2 k2)) (w.heap.size + 1) (.bool false) (.slice none 0 0) (.slice none 0 0) := (hbox35.far (by omega)).far (by omega)
      have hb6 : Below w.heap.size w ((w5.setCell ⟨w.heap.size, 0, none⟩ (.bool b2)).setCell ⟨w.heap.size, 1, none⟩ (.slice a2 l2 k2)) := (hb5.setCell (by simp) _).setCell (by simp) _
      have r0 : ((w5.setCell ⟨w.heap.size, 0, none⟩ (.bool b2)).setCell ⟨w.heap.size, 1, none⟩ (.slice a2 l2 k2)).cell? ⟨w.heap.size, 0, none⟩ = some (.bool b2) := by
        rw [World.cell?_setCell_other _ _ _ _ (by simp)]; exact World.cell?_setCell_same _ _ _ q0
      have r1 : ((w5.setCell ⟨w.heap.size, 0, none⟩ (.bool b2)).setCell ⟨w.heap.size, 1, none⟩ (.slice a2 l2 k2)).cell? ⟨w.heap.size, 1, none⟩ = some (.slice a2 l2 k2) := World.cell?_setCell_same _ _ _ e1
      have r4 : w.heap.size < ((w5.setCell ⟨w.heap.size, 0, none⟩ (.bool b2)).setCell ⟨w.heap.size, 1, none⟩ (.slice a2 l2 k2)).heap.size := by simpa using q4
      go_wp2_with fail
      refine (hO _ _ _ n g hv6 hgv6 hnk hgk).mono ?_
      rintro e w7 ⟨qv, rv, rfl, hq, hrv, hb7⟩
      have hbox37 := hbox36.below hb7
      have hup7 := hup6.below hb7
      have hb7' : Below w.heap.size w w7 := hb6.trans (hb7.mono hb6.size)
      have s0 : w7.cell? ⟨w.heap.size, 0, none⟩ = some (.bool b2) := (hb7.cell (p := ⟨w.heap.size, 0, none⟩) r4).trans r0
      have s1 : w7.cell? ⟨w.heap.size, 1, none⟩ = some (.slice a2 l2 k2) := (hb7.cell (p := ⟨w.heap.size, 1, none⟩) r4).trans r1
      clear hb7 hbox36 hup6 hv6 hgv6 hb6 r0 r1 r4 e1 q0 q1 q2 q3 q4 hv5 hgv5 hbox35 hb5 hp1
      obtain ⟨a4, l4, k4, rfl⟩ := hq.slice
      go_wp2_with fail
      refine (flowest_any _ _ _ (z / (g : Int)) (n / g) ⟨b2, _, rfl, hup7, hp2⟩ hq hg1 HG2).mono ?_
      rintro e w9 ⟨s, rfl, hs, hbs⟩
      obtain ⟨b3, a5, l5, k5, a6, l6, k6, rfl, hr1, hr2, hr3, hr4, hr5⟩ := hs.parts
      have hbox := hbox37.below hbs
      have hb9 : Below w.heap.size w w9 := hb7'.trans (hbs.mono hb7'.size)
      obtain ⟨c0, c1, c2, f0, f1, f2, g0⟩ := hbox
      clear hbs hs hbox37 s0 s1
      go_wp2
      exact bodyPost_ret (v := .agg #[.bool b3, .slice a5 l5 k5, .slice a6 l6 k6]) (by simp [results, Tryz.results78, go_sem, c0, c1, c2]) rfl ⟨_, rfl, fracV_boxed hr1 hr2 hr3 hr4 hr5 c0 c1 c2,
        ((hb9.setCell (by simp) _).setCell (by simp) _).setCell (by simp) _⟩
end Go.Proofs.YtnhfdcfnojnofaaGreatDoor

/-
  What package fraction does: across, Turned, Floor.
-/
namespace Go.Proofs.YtnhfdcfnojnofaaGreatDoor
open Go.RowKit

theorem Box2.new2 (w : World) (A B : Obj) (x y : Value) (t : TypeId) : Box2 (((w.alloc A).alloc B).alloc (.cells #[x, y] t)) (w.heap.size + 1 + 1) x y := by
  have := Box2.new ((w.alloc A).alloc B) x y t; simpa using this

theorem below_drew {B : Nat} {w w' : World} (h : Below B w.drew w') : Below B w w' := ⟨h.os, h.tape, h.output, h.size, h.block⟩

set_option maxRecDepth 100000 in
set_option maxHeartbeats 1000000 in
theorem across_any (w : World) (x y : Value) (p r : Int) (q s J K : Nat) (hJK : J + K ≤ 1073741823) (h : FracV w x p q) (k : FracV w y r s) (hp : p.natAbs < 4294967296 ^ J) (hs : s < 4294967296 ^ K) :
    Calls Tryz.prog 202 #[x, y] w fun e w' => ∃ t, e = .returned t ∧ WholeV w' t (p * (s : Int)) ∧ Below w.heap.size w w' := by
  have h0 := h
  have k0 := k
  obtain ⟨b, ao, l, cap, ao', l', cap', rfl, hv, hb, hu, hq, hg⟩ := h.parts
  obtain ⟨c, bo, m, dap, bo', m', dap', rfl, hv', hb', hu', hq', hg'⟩ := k.parts
  have hboxP : Box3 (((w.alloc (.cells #[.bool b, .slice ao l cap, .slice ao' l' cap'] 103)).alloc (.cells #[.bool c, .slice bo m dap, .slice bo' m' dap'] 103)).alloc (.cells #[.bool false, .slice none 0 0] 101)) w.heap.size (.bool b) (.slice ao l cap) (.slice ao' l' cap') := ((Box3.new _ _ _ _ _).alloc _).alloc _
  have hboxQ : Box3 (((w.alloc (.cells #[.bool b, .slice ao l cap, .slice ao' l' cap'] 103)).alloc (.cells #[.bool c, .slice bo m dap, .slice bo' m' dap'] 103)).alloc (.cells #[.bool false, .slice none 0 0] 101)) (w.heap.size + 1) (.bool c) (.slice bo m dap) (.slice bo' m' dap') := (Box3.new1 _ _ _ _ _ _).alloc _
  have hboxR : Box2 (((w.alloc (.cells #[.bool b, .slice ao l cap, .slice ao' l' cap'] 103)).alloc (.cells #[.bool c, .slice bo m dap, .slice bo' m' dap'] 103)).alloc (.cells #[.bool false, .slice none 0 0] 101)) (w.heap.size + 1 + 1) (.bool false) (.slice none 0 0) := Box2.new2 _ _ _ _ _ _
  have hbW := below3 w (.cells #[.bool b, .slice ao l cap, .slice ao' l' cap'] 103) (.cells #[.bool c, .slice bo m dap, .slice bo' m' dap'] 103) (.cells #[.bool false, .slice none 0 0] 101)
  by_cases h1 : s = 1
  · subst h1
    rw [Int.natCast_one, Int.mul_one]
    go_enter Tryz.func202, Tryz.ntmps202
    go_wp2_with fail
    refine (isWhole_yes _ _ r (((k0.alloc _).alloc _).alloc _)).mono ?_
    rintro e w1 ⟨rfl, hb1⟩
    have hv1 := (((hv.alloc _).alloc _).alloc _).below hb1
    have hboxP1 := hboxP.below hb1
    have hboxR1 := hboxR.below hb1
    obtain ⟨p0, p1, p2, p3, p4, p5, p6⟩ := hboxP1
    obtain ⟨c0, c1, f0, f1, g0⟩ := hboxR1
    have hbA : Below w.heap.size w w1 := hbW.trans (hb1.mono hbW.size)
    clear hb1 hboxP hboxQ hboxR
    go_wp2
    exact bodyPost_ret (v := .agg #[.bool b, .slice ao l cap]) (by simp [results, Tryz.results202, go_sem, c0, c1]) rfl ⟨_, rfl, wholeV_boxed hv1 hb c0 c1,
      (hbA.setCell (by simp; omega) _).setCell (by simp; omega) _⟩
  · go_enter Tryz.func202, Tryz.ntmps202
    go_wp2_with fail
    refine (isWhole_no _ _ r s (((k0.alloc _).alloc _).alloc _) h1).mono ?_
    rintro e w1 ⟨rfl, hb1⟩
    rw [(lowN_ne hq' h1).1] at hu'
    have hx1 : WholeV w1 (.agg #[.bool b, .slice ao l cap]) p := ⟨b, _, rfl, (((hv.alloc _).alloc _).alloc _).below hb1, hb⟩
    have hu1 := (((hu'.alloc _).alloc _).alloc _).below hb1
    have hboxP1 := hboxP.below hb1
    have hboxQ1 := hboxQ.below hb1
    have hboxR1 := hboxR.below hb1
    have hbA : Below w.heap.size w w1 := hbW.trans (hb1.mono hbW.size)
    clear hb1 hboxP hboxQ hboxR hv hu hv' hu' h0 k0 hbW
    have hboxP2 := hboxP1
    obtain ⟨p0, p1, p2, p3, p4, p5, p6⟩ := hboxP2
    have hboxQ2 := hboxQ1
    obtain ⟨q0, q1, q2, q3, q4, q5, q6⟩ := hboxQ2
    go_wp2
    go_region_held (fun w' => w'.cell? ⟨w.heap.size, 0, none⟩ = some (.bool b) ∧ w'.cell? ⟨w.heap.size, 1, none⟩ = some (.slice ao l cap) ∧ w'.cell? ⟨w.heap.size + 1, 2, none⟩ = some (.slice bo' m' dap')) (first | (refine ⟨?_, ?_, ?_⟩ <;> (rw [far, far] <;> first | assumption | omega)) | go_keep) (first | (go_at_call 206; refine (ofNatural_any _ _ s (by exact NatV.drew hu1)).mono ?_; rintro e wA ⟨ov, rfl, ho, hbo⟩; have hboxP3 := hboxP1.drew.below hbo; obtain ⟨r0, r1, r2, r3, r4, r5, r6⟩ := hboxP3; have hboxQ3 := hboxQ1.drew.below hbo; obtain ⟨t0, t1, t2, t3, t4, t5, t6⟩ := hboxQ3) | (go_at_call 205; refine (wtimes_any _ _ _ p (s : Int) J K hJK (by exact (hx1.drewN 1).below hbo) ho hp (by simpa using hs)).mono ?_; rintro e wB ⟨yv, rfl, hy, hby⟩; obtain ⟨b2, a2, l2, k2, rfl, hv2, hb2⟩ := hy.parts; have hboxP4 := (hboxP1.drew.below hbo).below hby; obtain ⟨u0, u1, u2, u3, u4, u5, u6⟩ := hboxP4; have hboxQ4 := (hboxQ1.drew.below hbo).below hby; obtain ⟨v0, v1, v2, v3, v4, v5, v6⟩ := hboxQ4; have hboxR4 := (hboxR1.drew.below hbo).below hby; obtain ⟨c0, c1, f0, f1, g0⟩ := hboxR4))
    have hbB : Below w.heap.size w wA := hbA.trans ((below_drew hbo).mono hbA.size)
    have hbC : Below w.heap.size w wB := hbB.trans (hby.mono hbB.size)
    go_wp2
    exact bodyPost_ret (v := .agg #[.bool b2, .slice a2 l2 k2]) (by simp [results, Tryz.results202, go_sem, c0, c1]) rfl ⟨_, rfl, wholeV_boxed hv2 hb2 c0 c1,
      (hbC.setCell (by simp; omega) _).setCell (by simp; omega) _⟩
end Go.Proofs.YtnhfdcfnojnofaaGreatDoor
