/-
  What package whole does: Compare.
-/
import Derived.Test.YtcmdglfjnepahaaGreatDoorWho3
set_option linter.unusedSimpArgs false
set_option linter.unusedVariables false
namespace Go.Proofs.YtcmdglfjnepahaaGreatDoor
open Go.RowKit

theorem cmpI_iff (a b : Nat) : (cmpI a b < 0 ↔ a < b) ∧ (cmpI a b = 0 ↔ a = b) := by
  rcases Nat.lt_trichotomy a b with h | h | h
  · rw [cmpI_lt h]; omega
  · rw [cmpI_eq h]; omega
  · rw [cmpI_gt h]; omega

set_option maxRecDepth 100000 in
set_option maxHeartbeats 1000000 in
theorem wcompare_any (w : World) (x y : Value) (z t : Int) (K : Nat) (hK : K ≤ 1073741823) (h : WholeV w x z) (k : WholeV w y t) (hz : z.natAbs < 4294967296 ^ K) (ht : t.natAbs < 4294967296 ^ K) :
    Calls Tryz.prog 159 #[x, y] w fun e w' => ∃ c : Int, e = .returned (.int .i64 c) ∧ (c < 0 ↔ z < t) ∧ (c = 0 ↔ z = t) ∧ -2 ≤ c ∧ c ≤ 2 ∧ Below w.heap.size w w' := by
  have h0 := h
  have k0 := k
  obtain ⟨b, ao, l, cap, rfl, hv, hb⟩ := h.parts
  obtain ⟨c, ao', l', cap', rfl, hv', hb'⟩ := k.parts
  have hb2 := below2 w (.cells #[.bool b, .slice ao l cap] 62) (.cells #[.bool c, .slice ao' l' cap'] 62)
  have hbd : ∀ a b, -2 ≤ cmpI a b ∧ cmpI a b ≤ 2 := by
    intro a b; unfold cmpI; split
    · omega
    · split <;> omega
  by_cases hbc : b = c
  · subst hbc
    have hbb : (b == b) = true := by simp
    cases b with
    | true =>
      have hz0 : z < 0 := by have := hb.out; simp at this; omega
      have ht0 : t < 0 := by have := hb'.out; simp at this; omega
      have hcmp := cmpI_iff t.natAbs z.natAbs
      have HC : Hid ((cmpI t.natAbs z.natAbs < 0 ↔ z < t) ∧ (cmpI t.natAbs z.natAbs = 0 ↔ z = t)) := by
        rw [Hid, hcmp.1, hcmp.2]; omega
      have HB := hide (hbd t.natAbs z.natAbs)
      clear hcmp hbd
      go_enter Tryz.func159, Tryz.ntmps159
      go_wp2_with fail
      refine (compare_any _ _ _ t.natAbs z.natAbs K ((hv'.alloc _).alloc _) ((hv.alloc _).alloc _) ht hz (by omega)).mono ?_
      rintro e w1 ⟨rfl, q, rfl⟩
      go_wp2
      go_ret
      exact ⟨_, rfl, HC.out.1, HC.out.2, HB.out.1, HB.out.2, below_toDrewN hb2⟩
    | false =>
      have hz0 : 0 ≤ z := by have := hb.out; simp at this; omega
      have ht0 : 0 ≤ t := by have := hb'.out; simp at this; omega
      have hcmp := cmpI_iff z.natAbs t.natAbs
      have HC : Hid ((cmpI z.natAbs t.natAbs < 0 ↔ z < t) ∧ (cmpI z.natAbs t.natAbs = 0 ↔ z = t)) := by
        rw [Hid, hcmp.1, hcmp.2]; omega
      have HB := hide (hbd z.natAbs t.natAbs)
      clear hcmp hbd
      go_enter Tryz.func159, Tryz.ntmps159
      go_wp2_with fail
      refine (compare_any _ _ _ z.natAbs t.natAbs K ((hv.alloc _).alloc _) ((hv'.alloc _).alloc _) hz ht (by omega)).mono ?_
      rintro e w1 ⟨rfl, q, rfl⟩
      go_wp2
      go_ret
      exact ⟨_, rfl, HC.out.1, HC.out.2, HB.out.1, HB.out.2, below_toDrewN hb2⟩
  · have hbb : (b == c) = false := by simpa using hbc
    have hboxQ : Box2 ((w.alloc (.cells #[.bool b, .slice ao l cap] 62)).alloc (.cells #[.bool c, .slice ao' l' cap'] 62)) (w.heap.size + 1) (.bool c) (.slice ao' l' cap') := by
      have := Box2.new (w.alloc (.cells #[.bool b, .slice ao l cap] 62)) (.bool c) (.slice ao' l' cap') 62
      simpa using this
    have hboxP : Box2 ((w.alloc (.cells #[.bool b, .slice ao l cap] 62)).alloc (.cells #[.bool c, .slice ao' l' cap'] 62)) w.heap.size (.bool b) (.slice ao l cap) := (Box2.new w _ _ _).alloc _
    have hsg : -1 ≤ z.sign ∧ z.sign ≤ 1 ∧ -1 ≤ t.sign ∧ t.sign ≤ 1 := by
      rcases Int.lt_trichotomy z 0 with h | h | h <;> rcases Int.lt_trichotomy t 0 with k | k | k <;> simp [Int.sign_eq_neg_one_of_neg, Int.sign_eq_one_of_pos, h, k]
    have HC : Hid ((z.sign - t.sign < 0 ↔ z < t) ∧ (z.sign - t.sign = 0 ↔ z = t)) := by
      have e1 := hb.out
      have e2 := hb'.out
      rw [Hid]
      by_cases hz0 : z < 0
      · have ht0 : 0 ≤ t := by
          rcases Int.lt_or_le t 0 with h | h
          · exact absurd (by rw [e1, e2]; simp [hz0, h]) hbc
          · exact h
        rw [Int.sign_eq_neg_one_of_neg hz0]
        rcases Int.lt_or_eq_of_le ht0 with h | h
        · rw [Int.sign_eq_one_of_pos h]; omega
        · rw [← h]; simp; omega
      · have ht0 : t < 0 := by
          rcases Int.lt_or_le t 0 with h | h
          · exact h
          · exact absurd (by rw [e1, e2]; simp [hz0]; omega) hbc
        rw [Int.sign_eq_neg_one_of_neg ht0]
        rcases Int.lt_or_eq_of_le (show 0 ≤ z by omega) with h | h
        · rw [Int.sign_eq_one_of_pos h]; omega
        · rw [← h]; simp; omega
    obtain ⟨s1, s2, s3, s4⟩ := hsg
    have HW : Hid (IntKind.i64.wrap (z.sign - t.sign) = z.sign - t.sign) := by
      rw [Hid]
      have hd : -2 ≤ z.sign - t.sign ∧ z.sign - t.sign ≤ 2 := by omega
      generalize z.sign - t.sign = d at hd
      simp [IntKind.wrap, IntKind.signed, IntKind.bits]
      omega
    clear hbd hbc
    go_enter Tryz.func159, Tryz.ntmps159
    go_wp2
    go_region_held (fun w' => w'.cell? ⟨w.heap.size, 0, none⟩ = some (.bool b) ∧ w'.cell? ⟨w.heap.size, 1, none⟩ = some (.slice ao l cap) ∧ w'.cell? ⟨w.heap.size + 1, 0, none⟩ = some (.bool c) ∧ w'.cell? ⟨w.heap.size + 1, 1, none⟩ = some (.slice ao' l' cap')) (go_keep) (first | (go_at_call_of 158 (Value.bool b); refine (sign_any _ _ z (by exact WholeV.drewN ((h0.alloc _).alloc _) 1)).mono ?_; rintro e wA ⟨rfl, hbs⟩; have hboxP2 := hboxP.drew.below hbs; obtain ⟨p0, p1, p2, p3, p4⟩ := hboxP2; have hboxQ2 := hboxQ.drew.below hbs; obtain ⟨q0, q1, q2, q3, q4⟩ := hboxQ2) | (go_at_call_of 158 (Value.bool c); refine (sign_any _ _ t (by exact (WholeV.drewN ((k0.alloc _).alloc _) 1).below hbs)).mono ?_; rintro e wB ⟨rfl, hbr⟩; have hboxP3 := (hboxP.drew.below hbs).below hbr; obtain ⟨r0, r1, r2, r3, r4⟩ := hboxP3; have hboxQ3 := (hboxQ.drew.below hbs).below hbr; obtain ⟨t0, t1, t2, t3, t4⟩ := hboxQ3))
    have hbA : Below w.heap.size w wA := hb2.trans (Below.mono (w := (w.alloc (.cells #[.bool b, .slice ao l cap] 62)).alloc (.cells #[.bool c, .slice ao' l' cap'] 62)) ⟨hbs.os, hbs.tape, hbs.output, hbs.size, hbs.block⟩ hb2.size)
    have hbB : Below w.heap.size w wB := hbA.trans (hbr.mono hbA.size)
    go_wp2
    go_ret
    exact ⟨z.sign - t.sign, ret_int (by rw [HW.out]), HC.out.1, HC.out.2, by omega, by omega, hbB⟩
end Go.Proofs.YtcmdglfjnepahaaGreatDoor
