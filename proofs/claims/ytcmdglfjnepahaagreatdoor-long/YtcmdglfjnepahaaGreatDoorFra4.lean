/-
  What package fraction does: Turned, Floor, Compare.
-/
import Derived.Test.YtcmdglfjnepahaaGreatDoorFra3
set_option linter.unusedSimpArgs false
set_option linter.unusedVariables false
namespace Go.Proofs.YtcmdglfjnepahaaGreatDoor
open Go.RowKit

set_option maxRecDepth 100000 in
set_option maxHeartbeats 1000000 in
theorem fturned_any (w : World) (x : Value) (p : Int) (q : Nat) (h : FracV w x p q) :
    Calls Tryz.prog 119 #[x] w fun e w' => ∃ t, e = .returned t ∧ FracV w' t (-p) q ∧ Below w.heap.size w w' := by
  obtain ⟨b, ao, l, cap, ao', l', cap', rfl, hv, hb, hu, hq, hg⟩ := h.parts
  have hx1 : WholeV w (.agg #[.bool b, .slice ao l cap]) p := ⟨b, _, rfl, hv, hb⟩
  have hboxP : Box3 ((w.alloc (.cells #[.bool b, .slice ao l cap, .slice ao' l' cap'] 64)).alloc (.cells #[.bool false, .slice none 0 0, .slice none 0 0] 64)) w.heap.size (.bool b) (.slice ao l cap) (.slice ao' l' cap') := (Box3.new _ _ _ _ _).alloc _
  have hboxR : Box3 ((w.alloc (.cells #[.bool b, .slice ao l cap, .slice ao' l' cap'] 64)).alloc (.cells #[.bool false, .slice none 0 0, .slice none 0 0] 64)) (w.heap.size + 1) (.bool false) (.slice none 0 0) (.slice none 0 0) := Box3.new1 _ _ _ _ _ _
  have hbW := below2 w (.cells #[.bool b, .slice ao l cap, .slice ao' l' cap'] 64) (.cells #[.bool false, .slice none 0 0, .slice none 0 0] 64)
  have hg2 : Hid (Nat.gcd (-p).natAbs q = 1) := by rw [Hid, Int.natAbs_neg]; exact hg.out
  go_enter Tryz.func119, Tryz.ntmps119
  go_wp2
  go_region_held (fun w' => w'.cell? ⟨w.heap.size, 0, none⟩ = some (.bool b) ∧ w'.cell? ⟨w.heap.size, 1, none⟩ = some (.slice ao l cap) ∧ w'.cell? ⟨w.heap.size, 2, none⟩ = some (.slice ao' l' cap')) (first | (refine ⟨?_, ?_, ?_⟩ <;> (rw [far, far, far] <;> first | assumption | omega)) | go_keep) (first | (go_at_call 122; refine (wturned_any _ _ p (by exact WholeV.drewN ((hx1.alloc _).alloc _) 1)).mono ?_; rintro e wA ⟨ov, rfl, ho, hbo⟩; obtain ⟨b2, a2, l2, k2, rfl, hv2, hb2⟩ := ho.parts; have hboxP3 := hboxP.drew.below hbo; obtain ⟨r0, r1, r2, r3, r4, r5, r6⟩ := hboxP3; have hboxR3 := hboxR.drew.below hbo; obtain ⟨c0, c1, c2, f0, f1, f2, g0⟩ := hboxR3; have hu2 := (((hu.alloc _).alloc _).drew).below hbo))
  have hbA : Below w.heap.size w wA := hbW.trans ((below_drew hbo).mono hbW.size)
  go_wp2
  exact bodyPost_ret (v := .agg #[.bool b2, .slice a2 l2 k2, .slice ao' l' cap']) (by simp [results, Tryz.results119, go_sem, c0, c1, c2]) rfl ⟨_, rfl, fracV_boxed hv2 hb2 hu2 hq hg2 c0 c1 c2,
    ((hbA.setCell (by simp) _).setCell (by simp) _).setCell (by simp) _⟩

set_option maxRecDepth 100000 in
set_option maxHeartbeats 1000000 in
theorem floor_any (K : Nat) (hK : K ≤ 1073741822) (hO : OverOK K) (w : World) (x : Value) (p : Int) (q : Nat) (h : FracV w x p q) (hp : p.natAbs < 4294967296 ^ K) (hqk : q < 4294967296 ^ K) :
    Calls Tryz.prog 123 #[x] w fun e w' => ∃ t, e = .returned t ∧ WholeV w' t (p / (q : Int)) ∧ Below w.heap.size w w' := by
  have h0 := h
  obtain ⟨b, ao, l, cap, ao', l', cap', rfl, hv, hb, hu, hq, hg⟩ := h.parts
  have hboxP : Box3 ((w.alloc (.cells #[.bool b, .slice ao l cap, .slice ao' l' cap'] 64)).alloc (.cells #[.bool false, .slice none 0 0] 62)) w.heap.size (.bool b) (.slice ao l cap) (.slice ao' l' cap') := (Box3.new _ _ _ _ _).alloc _
  have hboxR : Box2 ((w.alloc (.cells #[.bool b, .slice ao l cap, .slice ao' l' cap'] 64)).alloc (.cells #[.bool false, .slice none 0 0] 62)) (w.heap.size + 1) (.bool false) (.slice none 0 0) := Box2.new1 _ _ _ _ _
  have hbW := below2 w (.cells #[.bool b, .slice ao l cap, .slice ao' l' cap'] 64) (.cells #[.bool false, .slice none 0 0] 62)
  by_cases h1 : q = 1
  · subst h1
    go_enter Tryz.func123, Tryz.ntmps123
    go_wp2_with fail
    refine (isWhole_yes _ _ p ((h0.alloc _).alloc _)).mono ?_
    rintro e w1 ⟨rfl, hb1⟩
    have hv1 := ((hv.alloc _).alloc _).below hb1
    have hboxP1 := hboxP.below hb1
    have hboxR1 := hboxR.below hb1
    obtain ⟨p0, p1, p2, p3, p4, p5, p6⟩ := hboxP1
    obtain ⟨c0, c1, f0, f1, g0⟩ := hboxR1
    have hbA : Below w.heap.size w w1 := hbW.trans (hb1.mono hbW.size)
    clear hb1 hboxP hboxR
    go_wp2
    exact bodyPost_ret (v := .agg #[.bool b, .slice ao l cap]) (by simp [results, Tryz.results123, go_sem, c0, c1]) rfl ⟨_, rfl, by rw [Int.natCast_one, Int.ediv_one]; exact wholeV_boxed hv1 hb c0 c1,
      (hbA.setCell (by simp) _).setCell (by simp) _⟩
  · rw [(lowN_ne hq h1).1] at hu
    go_enter Tryz.func123, Tryz.ntmps123
    go_wp2_with fail
    refine (isWhole_no _ _ p q ((h0.alloc _).alloc _) h1).mono ?_
    rintro e w1 ⟨rfl, hb1⟩
    have hx1 : WholeV w1 (.agg #[.bool b, .slice ao l cap]) p := ⟨b, _, rfl, ((hv.alloc _).alloc _).below hb1, hb⟩
    have hu1 := ((hu.alloc _).alloc _).below hb1
    have hboxP1 := hboxP.below hb1
    have hboxR1 := hboxR.below hb1
    obtain ⟨p0, p1, p2, p3, p4, p5, p6⟩ := hboxP1
    have hbA : Below w.heap.size w w1 := hbW.trans (hb1.mono hbW.size)
    clear hb1 hboxP hboxR
    go_wp2_with fail
    refine (floorOver_any K hK hO _ _ _ p q hx1 hu1 (by omega) hp hqk).mono ?_
    rintro e w2 ⟨s, rfl, hs, hbs⟩
    obtain ⟨b2, a2, l2, k2, rfl, hv2, hb2⟩ := hs.parts
    have hboxR2 := hboxR1.below hbs
    have hbB : Below w.heap.size w w2 := hbA.trans (hbs.mono hbA.size)
    obtain ⟨c0, c1, f0, f1, g0⟩ := hboxR2
    clear hbs p0 p1 p2 p3 p4 p5 p6 hboxR1
    go_wp2
    exact bodyPost_ret (v := .agg #[.bool b2, .slice a2 l2 k2]) (by simp [results, Tryz.results123, go_sem, c0, c1]) rfl ⟨_, rfl, wholeV_boxed hv2 hb2 c0 c1,
      (hbB.setCell (by simp) _).setCell (by simp) _⟩

set_option maxRecDepth 100000 in
set_option maxHeartbeats 1000000 in
theorem fcompare_any (w : World) (x y : Value) (p r : Int) (q s K : Nat) (hK : K + K ≤ 1073741823) (h : FracV w x p q) (k : FracV w y r s) (hp : p.natAbs < 4294967296 ^ K) (hr : r.natAbs < 4294967296 ^ K) (hq : q < 4294967296 ^ K) (hs : s < 4294967296 ^ K) :
    Calls Tryz.prog 124 #[x, y] w fun e w' => ∃ c : Int, e = .returned (.int .i64 c) ∧ (c < 0 ↔ p * (s : Int) < r * (q : Int)) ∧ (c = 0 ↔ p * (s : Int) = r * (q : Int)) ∧ -2 ≤ c ∧ c ≤ 2 ∧ Below w.heap.size w w' := by
  have h0 := h
  have k0 := k
  obtain ⟨b, ao, l, cap, ao', l', cap', rfl, hv, hb, hu, hq0, hg⟩ := h.parts
  obtain ⟨c, bo, m, dap, bo', m', dap', rfl, hv', hb', hu', hq', hg'⟩ := k.parts
  have hboxP : Box3 ((w.alloc (.cells #[.bool b, .slice ao l cap, .slice ao' l' cap'] 64)).alloc (.cells #[.bool c, .slice bo m dap, .slice bo' m' dap'] 64)) w.heap.size (.bool b) (.slice ao l cap) (.slice ao' l' cap') := (Box3.new _ _ _ _ _).alloc _
  have hboxQ : Box3 ((w.alloc (.cells #[.bool b, .slice ao l cap, .slice ao' l' cap'] 64)).alloc (.cells #[.bool c, .slice bo m dap, .slice bo' m' dap'] 64)) (w.heap.size + 1) (.bool c) (.slice bo m dap) (.slice bo' m' dap') := Box3.new1 _ _ _ _ _ _
  have hbW := below2 w (.cells #[.bool b, .slice ao l cap, .slice ao' l' cap'] 64) (.cells #[.bool c, .slice bo m dap, .slice bo' m' dap'] 64)
  have hk1 : (p * (s : Int)).natAbs < 4294967296 ^ (K + K) := by
    rw [Int.natAbs_mul, Int.natAbs_natCast, Nat.pow_add]
    exact Nat.mul_lt_mul'' hp hs
  have hk2 : (r * (q : Int)).natAbs < 4294967296 ^ (K + K) := by
    rw [Int.natAbs_mul, Int.natAbs_natCast, Nat.pow_add]
    exact Nat.mul_lt_mul'' hr hq
  go_enter Tryz.func124, Tryz.ntmps124
  go_wp2
  go_region_held (fun w' => w'.cell? ⟨w.heap.size, 0, none⟩ = some (.bool b) ∧ w'.cell? ⟨w.heap.size, 1, none⟩ = some (.slice ao l cap) ∧ w'.cell? ⟨w.heap.size, 2, none⟩ = some (.slice ao' l' cap') ∧ w'.cell? ⟨w.heap.size + 1, 0, none⟩ = some (.bool c) ∧ w'.cell? ⟨w.heap.size + 1, 1, none⟩ = some (.slice bo m dap) ∧ w'.cell? ⟨w.heap.size + 1, 2, none⟩ = some (.slice bo' m' dap')) (go_keep) (first | (go_at_call 159; refine (wcompare_any _ _ _ (p * (s : Int)) (r * (q : Int)) (K + K) hK (hA1.below hbB1) hB1 hk1 hk2).mono ?_; rintro e wC ⟨cc, rfl, hc1, hc2, hc3, hc4, hbC1⟩; have hP4 := ((hboxP.drew.below hbA1).below hbB1).below hbC1; obtain ⟨u0, u1, u2, u3, u4, u5, u6⟩ := hP4; have hQ4 := ((hboxQ.drew.below hbA1).below hbB1).below hbC1; obtain ⟨v0, v1, v2, v3, v4, v5, v6⟩ := hQ4) | (go_at_call 115; refine (across_any _ _ _ r p s q K K hK (((k0.alloc _).alloc _).drew.below hbA1) (((h0.alloc _).alloc _).drew.below hbA1) hr hq).mono ?_; rintro e wB ⟨tB, rfl, hB1, hbB1⟩; have hP3 := (hboxP.drew.below hbA1).below hbB1; obtain ⟨s0, s1, s2, s3, s4, s5, s6⟩ := hP3; have hQ3 := (hboxQ.drew.below hbA1).below hbB1; obtain ⟨t0, t1, t2, t3, t4, t5, t6⟩ := hQ3) | (go_at_call 115; refine (across_any _ _ _ p r q s K K hK (by exact ((h0.alloc _).alloc _).drew) (by exact ((k0.alloc _).alloc _).drew) hp hs).mono ?_; rintro e wA ⟨tA, rfl, hA1, hbA1⟩; have hP2 := hboxP.drew.below hbA1; obtain ⟨o0, o1, o2, o3, o4, o5, o6⟩ := hP2; have hQ2 := hboxQ.drew.below hbA1; obtain ⟨q0, q1, q2, q3, q4, q5, q6⟩ := hQ2))
  have hbA : Below w.heap.size w wA := hbW.trans ((below_drew hbA1).mono hbW.size)
  have hbB : Below w.heap.size w wB := hbA.trans (hbB1.mono hbA.size)
  have hbC : Below w.heap.size w wC := hbB.trans (hbC1.mono hbB.size)
  go_wp2
  go_ret
  exact ⟨_, rfl, hc1, hc2, hc3, hc4, hbC⟩
end Go.Proofs.YtcmdglfjnepahaaGreatDoor
