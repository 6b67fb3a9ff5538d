/-
  Part 14 of the texts ahead of Pls1: Tr9, Tr10.
-/
import Derived.Test.YtnhfdcfnojnofaaGreatDoorPls1Z13
import Derived.Deep.DeepCutAuto
set_option linter.unusedSimpArgs false
set_option linter.unusedVariables false
/-
  What the document's own Add does (package planesref).
-/
namespace Go.Proofs.YtnhfdcfnojnofaaGreatDoor.T
open Go.RowKit

theorem mul_sign (p : Int) (s : Nat) (hs : 0 < s) : (p * (s : Int)).natAbs = p.natAbs * s ∧ (p < 0 ↔ p * (s : Int) < 0) := by
  refine ⟨by rw [Int.natAbs_mul, Int.natAbs_natCast], ?_, ?_⟩
  · intro h; exact Int.mul_neg_of_neg_of_pos h (by omega)
  · intro h
    by_cases h1 : p < 0
    · exact h1
    · have := Int.mul_nonneg (a := p) (b := (s : Int)) (by omega) (by omega)
      omega

theorem sg_same (p r : Int) (q s : Nat) (hq : 0 < q) (hs : 0 < s) (h : decide (p < 0) = decide (r < 0)) : sg (decide (p < 0)) (p.natAbs * s + r.natAbs * q) = p * s + r * q := by
  obtain ⟨h1, h2⟩ := mul_sign p s hs
  obtain ⟨h3, h4⟩ := mul_sign r q hq
  rw [← h1, ← h3]
  have h5 := decide_eq_decide.1 h
  by_cases hp : p < 0
  · have := h2.1 hp
    have := h4.1 (h5.1 hp)
    simp only [hp, decide_true, sg, if_true]
    omega
  · have := fun e => hp (h2.2 e)
    have := fun e => hp (h5.2 (h4.2 e))
    simp only [hp, decide_false, sg, Bool.false_eq_true, if_false]
    omega

theorem sg_apart (p r : Int) (q s : Nat) (hq : 0 < q) (hs : 0 < s) (h : decide (p < 0) ≠ decide (r < 0)) (hle : r.natAbs * q ≤ p.natAbs * s) : sg (decide (p < 0)) (p.natAbs * s - r.natAbs * q) = p * s + r * q := by
  obtain ⟨h1, h2⟩ := mul_sign p s hs
  obtain ⟨h3, h4⟩ := mul_sign r q hq
  rw [← h1, ← h3] at hle ⊢
  by_cases hp : p < 0
  · have hr : ¬ r < 0 := fun e => h (by simp [hp, e])
    have := h2.1 hp
    have := fun e => hr (h4.2 e)
    simp only [hp, decide_true, sg, if_true]
    omega
  · have hr : r < 0 := by
      by_cases e : r < 0
      · exact e
      · exact absurd (by simp [hp, e]) h
    have := fun e => hp (h2.2 e)
    have := h4.1 hr
    simp only [hp, decide_false, sg, Bool.false_eq_true, if_false]
    omega

theorem cmpI_ge {a b : Nat} : 0 ≤ cmpI a b ↔ b ≤ a := by
  unfold cmpI
  split
  · omega
  · split <;> omega

theorem lt_succ_pow {n K : Nat} (h : n < 10000 ^ (K + K)) : n < 10000 ^ (K + K + 1) := Nat.lt_trans h (Nat.pow_lt_pow_right (by omega) (by omega))
theorem add_succ_pow {m n K : Nat} (h : m < 10000 ^ (K + K)) (h' : n < 10000 ^ (K + K)) : m + n < 10000 ^ (K + K + 1) := by
  rw [Nat.pow_succ]
  omega

set_option maxRecDepth 100000 in
set_option maxHeartbeats 4000000 in
theorem add_any (K : Nat) (hK : K + K < 100000000) (w : World) (x y : Value) (p r : Int) (q s : Nat) (h : NumV w x p q) (k : NumV w y r s) (hp : p.natAbs < 10000 ^ K) (hr : r.natAbs < 10000 ^ K) (hq : q < 10000 ^ K) (hs : s < 10000 ^ K) :
    Calls Tryz.prog 103 #[x, y] w fun e w' => ∃ t, e = .returned t ∧ NumV w' t ((p * s + r * q) / (Nat.gcd (p * s + r * q).natAbs (q * s) : Int)) ((q * s) / Nat.gcd (p * s + r * q).natAbs (q * s)) ∧ Below w.heap.size w w' := by
  obtain ⟨b, ao, l, cap, ao', l', cap', rfl, hv, hb, hu, hq0⟩ := h.parts
  obtain ⟨c, bo, m, dap, bo', m', dap', rfl, hv', hb', hu', hq'⟩ := k.parts
  have hboxP : Box3 (((w.alloc (.cells #[.bool b, .slice ao l cap, .slice ao' l' cap'] 118)).alloc (.cells #[.bool c, .slice bo m dap, .slice bo' m' dap'] 118)).alloc (.cells #[.bool false, .slice none 0 0, .slice none 0 0] 118)) w.heap.size (.bool b) (.slice ao l cap) (.slice ao' l' cap') := ((Box3.new _ _ _ _ _).alloc _).alloc _
  have hboxQ : Box3 (((w.alloc (.cells #[.bool b, .slice ao l cap, .slice ao' l' cap'] 118)).alloc (.cells #[.bool c, .slice bo m dap, .slice bo' m' dap'] 118)).alloc (.cells #[.bool false, .slice none 0 0, .slice none 0 0] 118)) (w.heap.size + 1) (.bool c) (.slice bo m dap) (.slice bo' m' dap') := (Box3.new1 _ _ _ _ _ _).alloc _
  have hboxR : Box3 (((w.alloc (.cells #[.bool b, .slice ao l cap, .slice ao' l' cap'] 118)).alloc (.cells #[.bool c, .slice bo m dap, .slice bo' m' dap'] 118)).alloc (.cells #[.bool false, .slice none 0 0, .slice none 0 0] 118)) (w.heap.size + 1 + 1) (.bool false) (.slice none 0 0) (.slice none 0 0) := Box3.new2 _ _ _ _ _ _ _
  have hbW := below3 w (.cells #[.bool b, .slice ao l cap, .slice ao' l' cap'] 118) (.cells #[.bool c, .slice bo m dap, .slice bo' m' dap'] 118) (.cells #[.bool false, .slice none 0 0, .slice none 0 0] 118)
  have hX : p.natAbs * s < 10000 ^ (K + K) := mul_lt_pow hp hs
  have hY : r.natAbs * q < 10000 ^ (K + K) := mul_lt_pow hr hq
  have hN : q * s < 10000 ^ (K + K) := mul_lt_pow hq hs
  have hNb := lt_succ_pow hN
  have hN0 : q * s ≠ 0 := Nat.pos_iff_ne_zero.1 (Nat.mul_pos hq0 hq')
  have HB := hide hb.out
  have HB' := hide hb'.out
  clear hb hb'
  go_enter Tryz.func103, Tryz.ntmps103
  go_wp2_with fail
  refine (product_any _ _ _ p.natAbs s K (((hv.alloc _).alloc _).alloc _) (((hu'.alloc _).alloc _).alloc _) hp hs (by omega)).mono ?_
  rintro e w1 ⟨t1, rfl, h1, hb1⟩
  obtain ⟨o1, l1, k1, rfl⟩ := h1.slice
  have hP1 := hboxP.below hb1
  have hQ1 := hboxQ.below hb1
  have hR1 := hboxR.below hb1
  have hbl1 := hbW.trans (hb1.mono hbW.size)
  have hv1 := (((hv.alloc (.cells #[.bool b, .slice ao l cap, .slice ao' l' cap'] 118)).alloc (.cells #[.bool c, .slice bo m dap, .slice bo' m' dap'] 118)).alloc (.cells #[.bool false, .slice none 0 0, .slice none 0 0] 118)).below hb1
  have hv1' := (((hv'.alloc (.cells #[.bool b, .slice ao l cap, .slice ao' l' cap'] 118)).alloc (.cells #[.bool c, .slice bo m dap, .slice bo' m' dap'] 118)).alloc (.cells #[.bool false, .slice none 0 0, .slice none 0 0] 118)).below hb1
  have hu1 := (((hu.alloc (.cells #[.bool b, .slice ao l cap, .slice ao' l' cap'] 118)).alloc (.cells #[.bool c, .slice bo m dap, .slice bo' m' dap'] 118)).alloc (.cells #[.bool false, .slice none 0 0, .slice none 0 0] 118)).below hb1
  have hu1' := (((hu'.alloc (.cells #[.bool b, .slice ao l cap, .slice ao' l' cap'] 118)).alloc (.cells #[.bool c, .slice bo m dap, .slice bo' m' dap'] 118)).alloc (.cells #[.bool false, .slice none 0 0, .slice none 0 0] 118)).below hb1
  clear hb1 hbW hboxP hboxQ hboxR hv hv' hu hu' h k
  have hP := hP1
  have hQ := hQ1
  obtain ⟨i0, i1, i2, i3, i4, i5, i6⟩ := hP
  obtain ⟨j0, j1, j2, j3, j4, j5, j6⟩ := hQ
  go_wp2_with fail
  refine (product_any _ _ _ r.natAbs q K hv1' hu1 hr hq (by omega)).mono ?_
  rintro e w2 ⟨t2, rfl, h2, hb2⟩
  obtain ⟨o2, l2', k2', rfl⟩ := h2.slice
  have hP2 := hP1.below hb2
  have hQ2 := hQ1.below hb2
  have hR2 := hR1.below hb2
  have hbl2 := hbl1.trans (hb2.mono hbl1.size)
  have h12 := h1.below hb2
  have hu2 := hu1.below hb2
  have hu2' := hu1'.below hb2
  clear hb2 hbl1 hP1 hQ1 hR1 h1 hu1 hu1' hv1 hv1' i0 i1 i2 i3 i4 i5 i6 j0 j1 j2 j3 j4 j5 j6
  have hP := hP2
  have hQ := hQ2
  obtain ⟨i0, i1, i2, i3, i4, i5, i6⟩ := hP
  obtain ⟨j0, j1, j2, j3, j4, j5, j6⟩ := hQ
  go_wp2_with fail
  refine (product_any _ _ _ q s K hu2 hu2' hq hs (by omega)).mono ?_
  rintro e w3 ⟨t3, rfl, hd3, hb3'⟩
  obtain ⟨o3, l3', k3', rfl⟩ := hd3.slice
  have hP3 := hP2.below hb3'
  have hQ3 := hQ2.below hb3'
  have hR3 := hR2.below hb3'
  have hb3 := hbl2.trans (hb3'.mono hbl2.size)
  have hx3 := h12.below hb3'
  have hy3 := h2.below hb3'
  clear hb3' hbl2 hP2 hQ2 hR2 h12 h2 hu2 hu2' i0 i1 i2 i3 i4 i5 i6 j0 j1 j2 j3 j4 j5 j6
  have hP := hP3
  have hQ := hQ3
  obtain ⟨i0, i1, i2, i3, i4, i5, i6⟩ := hP
  obtain ⟨j0, j1, j2, j3, j4, j5, j6⟩ := hQ
  by_cases hbc : b = c
  · have HZ : Hid (sg b (p.natAbs * s + r.natAbs * q) = p * s + r * q) := by
      rw [Hid, HB.out]
      exact sg_same p r q s hq0 hq' (by rw [← HB.out, ← HB'.out, hbc])
    have hZb := add_succ_pow hX hY
    have hbct : (b == c) = true := by simpa using hbc
    clear hbc
    go_wp2_with fail
    go_region_held (fun w' => w'.cell? ⟨w.heap.size, 0, none⟩ = some (.bool b) ∧ w'.cell? ⟨w.heap.size, 1, none⟩ = some (.slice ao l cap) ∧ w'.cell? ⟨w.heap.size, 2, none⟩ = some (.slice ao' l' cap') ∧ w'.cell? ⟨w.heap.size + 1, 0, none⟩ = some (.bool c) ∧ w'.cell? ⟨w.heap.size + 1, 1, none⟩ = some (.slice bo m dap) ∧ w'.cell? ⟨w.heap.size + 1, 2, none⟩ = some (.slice bo' m' dap')) (first | (refine ⟨?_, ?_, ?_, ?_, ?_, ?_⟩ <;> (rw [far, far, far] <;> first | assumption | omega)) | go_keep) (first | (go_at_call 183; refine (lowest_any _ _ _ _ (p.natAbs * s + r.natAbs * q) (q * s) (K + K + 1) hE1 ((hd3.drew).below hbE1) hZb hNb hN0 (by omega)).mono ?_; rintro e wF ⟨tF, rfl, hF1, hbF1⟩; obtain ⟨b2, a2, l2, k2, a3, l3, k3, rfl, hp1, hp2, hp3, hp4⟩ := hF1.parts; have hP5 := (hP3.drew.below hbE1).below hbF1; obtain ⟨x0, x1, x2, x3, x4, x5, x6⟩ := hP5; have hQ5 := (hQ3.drew.below hbE1).below hbF1; obtain ⟨y0, y1, y2, y3, y4, y5, y6⟩ := hQ5; have hR5 := (hR3.drew.below hbE1).below hbF1; obtain ⟨c0, c1, c2, f0, f1, f2, g0⟩ := hR5) | (go_at_call 185; refine (plus_any _ _ _ (p.natAbs * s) (r.natAbs * q) (K + K) (hx3.drew) (hy3.drew) hX hY (by omega)).mono ?_; rintro e wE ⟨tE, rfl, hE1, hbE1⟩; have hP4 := hP3.drew.below hbE1; obtain ⟨s0, s1, s2, s3, s4, s5, s6⟩ := hP4; have hQ4 := hQ3.drew.below hbE1; obtain ⟨t0, t1, t2, t3, t4, t5, t6⟩ := hQ4))
    have hbE : Below w.heap.size w wE := hb3.trans ((below_drew hbE1).mono hb3.size)
    have hbF : Below w.heap.size w wF := hbE.trans (hbF1.mono hbE.size)
    have HE := HZ.out
    have HN := congrArg Int.natAbs HE
    rw [sg_abs] at HN
    rw [HE, HN] at hp1 hp2
    rw [HN] at hp3 hp4
    go_wp2
    exact bodyPost_ret (v := .agg #[.bool b2, .slice a2 l2 k2, .slice a3 l3 k3]) (by simp [results, Tryz.results103, go_sem, c0, c1, c2]) rfl ⟨_, rfl, numV_boxed hp1 hp2 hp3 hp4 c0 c1 c2,
      ((hbF.setCell (by simp; omega) _).setCell (by simp; omega) _).setCell (by simp; omega) _⟩
  · have hbcf : (b == c) = false := by simpa using hbc
    go_wp2_with fail
    refine (compare_any _ _ _ (p.natAbs * s) (r.natAbs * q) (K + K) hx3 hy3 hX hY (by omega)).mono ?_
    rintro e w4 ⟨rfl, q4, rfl⟩
    have hP4 := hP3.drewN q4
    have hQ4 := hQ3.drewN q4
    have hR4 := hR3.drewN q4
    have hx4 := hx3.drewN q4
    have hy4 := hy3.drewN q4
    have hd4 := hd3.drewN q4
    have hb4 := toDrewN hb3 q4
    clear hP3 hQ3 hR3 hx3 hy3 hd3 hb3 i0 i1 i2 i3 i4 i5 i6 j0 j1 j2 j3 j4 j5 j6
    generalize w3.drewN q4 = wz at *
    have hP3 := hP4
    have hQ3 := hQ4
    have hR3 := hR4
    have hd3 := hd4
    have hb3 := hb4
    clear hR4 hd4 hb4
    obtain ⟨i0, i1, i2, i3, i4, i5, i6⟩ := hP4
    obtain ⟨j0, j1, j2, j3, j4, j5, j6⟩ := hQ4
    by_cases hle : r.natAbs * q ≤ p.natAbs * s
    · have hz := cmpI_ge.2 hle
      have HZ : Hid (sg b (p.natAbs * s - r.natAbs * q) = p * s + r * q) := by
        rw [Hid, HB.out]
        exact sg_apart p r q s hq0 hq' (by rw [← HB.out, ← HB'.out]; exact hbc) hle
      have hZb : p.natAbs * s - r.natAbs * q < 10000 ^ (K + K + 1) := Nat.lt_of_le_of_lt (Nat.sub_le _ _) (lt_succ_pow hX)
      generalize cmpI (p.natAbs * s) (r.natAbs * q) = z at *
      go_wp2_with fail
      go_region_held (fun w' => w'.cell? ⟨w.heap.size, 0, none⟩ = some (.bool b) ∧ w'.cell? ⟨w.heap.size, 1, none⟩ = some (.slice ao l cap) ∧ w'.cell? ⟨w.heap.size, 2, none⟩ = some (.slice ao' l' cap') ∧ w'.cell? ⟨w.heap.size + 1, 0, none⟩ = some (.bool c) ∧ w'.cell? ⟨w.heap.size + 1, 1, none⟩ = some (.slice bo m dap) ∧ w'.cell? ⟨w.heap.size + 1, 2, none⟩ = some (.slice bo' m' dap')) (first | (refine ⟨?_, ?_, ?_, ?_, ?_, ?_⟩ <;> (rw [far, far, far] <;> first | assumption | omega)) | go_keep) (first | (go_at_call 183; refine (lowest_any _ _ _ _ (p.natAbs * s - r.natAbs * q) (q * s) (K + K + 1) hE1 ((hd3.drew).below hbE1) hZb hNb hN0 (by omega)).mono ?_; rintro e wF ⟨tF, rfl, hF1, hbF1⟩; obtain ⟨b2, a2, l2, k2, a3, l3, k3, rfl, hp1, hp2, hp3, hp4⟩ := hF1.parts; have hP5 := (hP3.drew.below hbE1).below hbF1; obtain ⟨x0, x1, x2, x3, x4, x5, x6⟩ := hP5; have hQ5 := (hQ3.drew.below hbE1).below hbF1; obtain ⟨y0, y1, y2, y3, y4, y5, y6⟩ := hQ5; have hR5 := (hR3.drew.below hbE1).below hbF1; obtain ⟨c0, c1, c2, f0, f1, f2, g0⟩ := hR5) | (go_at_call 187; refine (less_any _ _ _ (p.natAbs * s) (r.natAbs * q) (K + K) (hx4.drew) (hy4.drew) hX hle (by omega)).mono ?_; rintro e wE ⟨tE, rfl, hE1, hbE1⟩; have hP4 := hP3.drew.below hbE1; obtain ⟨s0, s1, s2, s3, s4, s5, s6⟩ := hP4; have hQ4 := hQ3.drew.below hbE1; obtain ⟨t0, t1, t2, t3, t4, t5, t6⟩ := hQ4))
      have hbE : Below w.heap.size w wE := hb3.trans ((below_drew hbE1).mono hb3.size)
      have hbF : Below w.heap.size w wF := hbE.trans (hbF1.mono hbE.size)
      have HE := HZ.out
      have HN := congrArg Int.natAbs HE
      rw [sg_abs] at HN
      rw [HE, HN] at hp1 hp2
      rw [HN] at hp3 hp4
      go_wp2
      exact bodyPost_ret (v := .agg #[.bool b2, .slice a2 l2 k2, .slice a3 l3 k3]) (by simp [results, Tryz.results103, go_sem, c0, c1, c2]) rfl ⟨_, rfl, numV_boxed hp1 hp2 hp3 hp4 c0 c1 c2,
        ((hbF.setCell (by simp; omega) _).setCell (by simp; omega) _).setCell (by simp; omega) _⟩
    · have hz : cmpI (p.natAbs * s) (r.natAbs * q) < 0 := by
        rcases Int.lt_or_le (cmpI (p.natAbs * s) (r.natAbs * q)) 0 with h | h
        · exact h
        · exact absurd (cmpI_ge.1 h) hle
      have hle2 : p.natAbs * s ≤ r.natAbs * q := by omega
      have HZ : Hid (sg c (r.natAbs * q - p.natAbs * s) = p * s + r * q) := by
        rw [Hid, HB'.out, Int.add_comm]
        exact sg_apart r p s q hq' hq0 (by rw [← HB.out, ← HB'.out]; exact fun e => hbc e.symm) hle2
      have hZb : r.natAbs * q - p.natAbs * s < 10000 ^ (K + K + 1) := Nat.lt_of_le_of_lt (Nat.sub_le _ _) (lt_succ_pow hY)
      generalize cmpI (p.natAbs * s) (r.natAbs * q) = z at *
      go_wp2_with fail
      go_region_held (fun w' => w'.cell? ⟨w.heap.size, 0, none⟩ = some (.bool b) ∧ w'.cell? ⟨w.heap.size, 1, none⟩ = some (.slice ao l cap) ∧ w'.cell? ⟨w.heap.size, 2, none⟩ = some (.slice ao' l' cap') ∧ w'.cell? ⟨w.heap.size + 1, 0, none⟩ = some (.bool c) ∧ w'.cell? ⟨w.heap.size + 1, 1, none⟩ = some (.slice bo m dap) ∧ w'.cell? ⟨w.heap.size + 1, 2, none⟩ = some (.slice bo' m' dap')) (first | (refine ⟨?_, ?_, ?_, ?_, ?_, ?_⟩ <;> (rw [far, far, far] <;> first | assumption | omega)) | go_keep) (first | (go_at_call 183; refine (lowest_any _ _ _ _ (r.natAbs * q - p.natAbs * s) (q * s) (K + K + 1) hE1 ((hd3.drew).below hbE1) hZb hNb hN0 (by omega)).mono ?_; rintro e wF ⟨tF, rfl, hF1, hbF1⟩; obtain ⟨b2, a2, l2, k2, a3, l3, k3, rfl, hp1, hp2, hp3, hp4⟩ := hF1.parts; have hP5 := (hP3.drew.below hbE1).below hbF1; obtain ⟨x0, x1, x2, x3, x4, x5, x6⟩ := hP5; have hQ5 := (hQ3.drew.below hbE1).below hbF1; obtain ⟨y0, y1, y2, y3, y4, y5, y6⟩ := hQ5; have hR5 := (hR3.drew.below hbE1).below hbF1; obtain ⟨c0, c1, c2, f0, f1, f2, g0⟩ := hR5) | (go_at_call 187; refine (less_any _ _ _ (r.natAbs * q) (p.natAbs * s) (K + K) (hy4.drew) (hx4.drew) hY hle2 (by omega)).mono ?_; rintro e wE ⟨tE, rfl, hE1, hbE1⟩; have hP4 := hP3.drew.below hbE1; obtain ⟨s0, s1, s2, s3, s4, s5, s6⟩ := hP4; have hQ4 := hQ3.drew.below hbE1; obtain ⟨t0, t1, t2, t3, t4, t5, t6⟩ := hQ4))
      have hbE : Below w.heap.size w wE := hb3.trans ((below_drew hbE1).mono hb3.size)
      have hbF : Below w.heap.size w wF := hbE.trans (hbF1.mono hbE.size)
      have HE := HZ.out
      have HN := congrArg Int.natAbs HE
      rw [sg_abs] at HN
      rw [HE, HN] at hp1 hp2
      rw [HN] at hp3 hp4
      go_wp2
      exact bodyPost_ret (v := .agg #[.bool b2, .slice a2 l2 k2, .slice a3 l3 k3]) (by simp [results, Tryz.results103, go_sem, c0, c1, c2]) rfl ⟨_, rfl, numV_boxed hp1 hp2 hp3 hp4 c0 c1 c2,
        ((hbF.setCell (by simp; omega) _).setCell (by simp; omega) _).setCell (by simp; omega) _⟩
end Go.Proofs.YtnhfdcfnojnofaaGreatDoor.T

/-
  What the document's own Compare does (package planesref).
-/
namespace Go.Proofs.YtnhfdcfnojnofaaGreatDoor.T
open Go.RowKit

/-- What stands while Compare makes its difference. -/
def HeldC (w : World) (b c : Bool) (ao ao' bo bo' : Option Addr) (l cap l' cap' m dap m' dap' : Nat) (p r : Int) (q s : Nat) (wc : World) : Prop :=
  Box3 wc w.heap.size (.bool b) (.slice ao l cap) (.slice ao' l' cap') ∧ Box3 wc (w.heap.size + 1) (.bool c) (.slice bo m dap) (.slice bo' m' dap') ∧ NumV wc (.agg #[.bool b, .slice ao l cap, .slice ao' l' cap']) p q ∧ NumV wc (.agg #[.bool c, .slice bo m dap, .slice bo' m' dap']) r s ∧ Below w.heap.size w wc ∧ w.heap.size + 1 < wc.heap.size

theorem HeldC.below {w : World} {b c : Bool} {ao ao' bo bo' : Option Addr} {l cap l' cap' m dap m' dap' : Nat} {p r : Int} {q s : Nat} {u v : World} (h : HeldC w b c ao ao' bo bo' l cap l' cap' m dap m' dap' p r q s u) (hb : Below u.heap.size u v) : HeldC w b c ao ao' bo bo' l cap l' cap' m dap m' dap' p r q s v := by
  obtain ⟨h1, h2, h4, h5, h6, h7⟩ := h
  exact ⟨h1.below hb, h2.below hb, h4.below hb, h5.below hb, h6.trans (hb.mono h6.size), Nat.lt_of_lt_of_le h7 hb.size⟩

theorem HeldC.drew {w : World} {b c : Bool} {ao ao' bo bo' : Option Addr} {l cap l' cap' m dap m' dap' : Nat} {p r : Int} {q s : Nat} {u : World} (h : HeldC w b c ao ao' bo bo' l cap l' cap' m dap m' dap' p r q s u) : HeldC w b c ao ao' bo bo' l cap l' cap' m dap m' dap' p r q s u.drew := by
  obtain ⟨h1, h2, h4, h5, h6, h7⟩ := h
  exact ⟨h1, h2, h4, h5, ⟨h6.os, h6.tape, h6.output, h6.size, h6.block⟩, h7⟩

theorem HeldC.alloc {w : World} {b c : Bool} {ao ao' bo bo' : Option Addr} {l cap l' cap' m dap m' dap' : Nat} {p r : Int} {q s : Nat} {u : World} (h : HeldC w b c ao ao' bo bo' l cap l' cap' m dap m' dap' p r q s u) (o : Obj) : HeldC w b c ao ao' bo bo' l cap l' cap' m dap m' dap' p r q s (u.alloc o) :=
  h.below ((Below.refl _ _).alloc (Nat.le_refl _) o)

theorem Box3.stored {w : World} {g : Nat} {b0 b : Bool} {a0 a a1 a2 : Option Addr} {l0 k0 l k l1 k1 l2 k2 : Nat} (h : Box3 w g (.bool b0) (.slice a0 l0 k0) (.slice a1 l1 k1)) : Box3 (((w.setCell ⟨g, 0, none⟩ (.bool b)).setCell ⟨g, 1, none⟩ (.slice a l k)).setCell ⟨g, 2, none⟩ (.slice a2 l2 k2)) g (.bool b) (.slice a l k) (.slice a2 l2 k2) := by
  obtain ⟨d0, d1, d2, d3, d4, d5, d6⟩ := h
  have e1 : (w.setCell ⟨g, 0, none⟩ (.bool b)).cell? ⟨g, 1, none⟩ = some (.slice a0 l0 k0) := by rw [World.cell?_setCell_other _ _ _ _ (by simp)]; exact d1
  have e2 : ((w.setCell ⟨g, 0, none⟩ (.bool b)).setCell ⟨g, 1, none⟩ (.slice a l k)).cell? ⟨g, 2, none⟩ = some (.slice a1 l1 k1) := by
    rw [World.cell?_setCell_other _ _ _ _ (by simp), World.cell?_setCell_other _ _ _ _ (by simp)]; exact d2
  refine ⟨?_, ?_, World.cell?_setCell_same _ _ _ e2, by simpa using d3, by simpa using d4, by simpa using d5, by simpa using d6⟩
  · rw [World.cell?_setCell_other _ _ _ _ (by simp), World.cell?_setCell_other _ _ _ _ (by simp)]; exact World.cell?_setCell_same _ _ _ d0
  · rw [World.cell?_setCell_other _ _ _ _ (by simp)]; exact World.cell?_setCell_same _ _ _ e1

theorem NumV.setCell {w : World} {x : Value} {p : Int} {q : Nat} (h : NumV w x p q) {a : Addr} {y : Value} (hy : w.cell? a = some y) (hn : ∀ k, y ≠ .int .i64 k) (z : Value) : NumV (w.setCell a z) x p q := by
  obtain ⟨b, v, u, h1, h2, h3, h4, h5⟩ := h
  exact ⟨b, v, u, h1, h2.setCell hy hn z, h3, h4.setCell hy hn z, h5⟩

theorem NumV.stored {w : World} {x : Value} {p : Int} {q : Nat} (hx : NumV w x p q) {g : Nat} {b0 b : Bool} {a0 a a1 a2 : Option Addr} {l0 k0 l k l1 k1 l2 k2 : Nat} (h : Box3 w g (.bool b0) (.slice a0 l0 k0) (.slice a1 l1 k1)) : NumV (((w.setCell ⟨g, 0, none⟩ (.bool b)).setCell ⟨g, 1, none⟩ (.slice a l k)).setCell ⟨g, 2, none⟩ (.slice a2 l2 k2)) x p q := by
  obtain ⟨d0, d1, d2, d3, d4, d5, d6⟩ := h
  have e1 : (w.setCell ⟨g, 0, none⟩ (.bool b)).cell? ⟨g, 1, none⟩ = some (.slice a0 l0 k0) := by rw [World.cell?_setCell_other _ _ _ _ (by simp)]; exact d1
  have e2 : ((w.setCell ⟨g, 0, none⟩ (.bool b)).setCell ⟨g, 1, none⟩ (.slice a l k)).cell? ⟨g, 2, none⟩ = some (.slice a1 l1 k1) := by
    rw [World.cell?_setCell_other _ _ _ _ (by simp), World.cell?_setCell_other _ _ _ _ (by simp)]; exact d2
  exact ((hx.setCell d0 (by simp) _).setCell e1 (by simp) _).setCell e2 (by simp) _

theorem below_stored {B : Nat} {w w' : World} (hb : Below B w w') {g : Nat} (hg : B ≤ g) (x y z : Value) : Below B w (((w'.setCell ⟨g, 0, none⟩ x).setCell ⟨g, 1, none⟩ y).setCell ⟨g, 2, none⟩ z) :=
  ((hb.setCell (p := ⟨g, 0, none⟩) hg _).setCell (p := ⟨g, 1, none⟩) hg _).setCell (p := ⟨g, 2, none⟩) hg _

theorem div_sign (X : Int) (g : Nat) (hg : 0 < g) (hd : (g : Int) ∣ X) : (X / (g : Int)).sign = X.sign := by
  obtain ⟨z, rfl⟩ := hd
  rw [Int.mul_ediv_cancel_left _ (by omega), Int.sign_mul, Int.sign_eq_one_of_pos (by omega : (0 : Int) < g), Int.one_mul]

set_option maxRecDepth 100000 in
set_option maxHeartbeats 4000000 in
theorem ccompare_any (K : Nat) (hK : K + K < 100000000) (w : World) (x y : Value) (p r : Int) (q s : Nat) (h : NumV w x p q) (k : NumV w y r s) (hp : p.natAbs < 10000 ^ K) (hr : r.natAbs < 10000 ^ K) (hq : q < 10000 ^ K) (hs : s < 10000 ^ K) :
    Calls Tryz.prog 68 #[x, y] w fun e w' => e = .returned (.int .i64 (p * s + (-r) * q).sign) ∧ Below w.heap.size w w' := by
  obtain ⟨b, ao, l, cap, ao', l', cap', rfl, hv, hb, hu, hq0⟩ := h.parts
  obtain ⟨c, bo, m, dap, bo', m', dap', rfl, hv', hb', hu', hq'⟩ := k.parts
  have hH : HeldC w b c ao ao' bo bo' l cap l' cap' m dap m' dap' p r q s ((w.alloc (.cells #[.bool b, .slice ao l cap, .slice ao' l' cap'] 118)).alloc (.cells #[.bool c, .slice bo m dap, .slice bo' m' dap'] 118)) :=
    ⟨(Box3.new _ _ _ _ _).alloc _, Box3.new1 _ _ _ _ _ _, (h.alloc _).alloc _, (k.alloc _).alloc _, below2 w _ _, by simp⟩
  have h5A : Box3 (((w.alloc (.cells #[.bool b, .slice ao l cap, .slice ao' l' cap'] 118)).alloc (.cells #[.bool c, .slice bo m dap, .slice bo' m' dap'] 118)).alloc (.cells #[.bool false, .slice none 0 0, .slice none 0 0] 118)) (w.heap.size + 1 + 1) (.bool false) (.slice none 0 0) (.slice none 0 0) := Box3.new2 _ _ _ _ _ _ _
  have hrn : (-r).natAbs < 10000 ^ K := by rw [Int.natAbs_neg]; exact hr
  have hsg : Hid (∀ g : Nat, g = Nat.gcd (p * s + (-r) * q).natAbs (q * s) → ((p * s + (-r) * q) / (g : Int)).sign = (p * s + (-r) * q).sign) := by
    intro g hg
    refine div_sign _ g ?_ ?_
    · rw [hg]; exact Nat.gcd_pos_of_pos_right _ (Nat.mul_pos hq0 hq')
    · rw [hg]; exact Int.ofNat_dvd_left.2 (Nat.gcd_dvd_left _ _)
  have hbd : Hid (((p * s + (-r) * q) / (Nat.gcd (p * s + (-r) * q).natAbs (q * s) : Int)).natAbs < 10000 ^ (K + K + 1)) := by
    rw [Hid]
    refine Nat.lt_of_le_of_lt (Int.natAbs_ediv_le_natAbs _ _) (Nat.lt_of_le_of_lt (Int.natAbs_add_le _ _) ?_)
    rw [Int.natAbs_mul, Int.natAbs_mul, Int.natAbs_natCast, Int.natAbs_natCast]
    exact add_succ_pow (mul_lt_pow hp hs) (mul_lt_pow hrn hq)
  clear hv hb hu hv' hb' hu' h k
  go_enter Tryz.func68, Tryz.ntmps68
  go_wp2
  go_cut [5] (fun sv wc => ∃ (g5 : Nat) (bU : Bool) (aU : Option Addr) (lU kU : Nat) (aV : Option Addr) (lV kV : Nat), sv = .pointer (some ⟨g5, 0, none⟩) ∧ Box3 wc g5 (.bool bU) (.slice aU lU kU) (.slice aV lV kV) ∧ NumV wc (.agg #[.bool bU, .slice aU lU kU, .slice aV lV kV]) ((p * s + (-r) * q) / (Nat.gcd (p * s + (-r) * q).natAbs (q * s) : Int)) ((q * s) / Nat.gcd (p * s + (-r) * q).natAbs (q * s)) ∧ Below w.heap.size w wc)
  case first =>
    go_region_held (fun w' => w'.cell? ⟨w.heap.size, 0, none⟩ = some (.bool b) ∧ w'.cell? ⟨w.heap.size, 1, none⟩ = some (.slice ao l cap) ∧ w'.cell? ⟨w.heap.size, 2, none⟩ = some (.slice ao' l' cap') ∧ w'.cell? ⟨w.heap.size + 1, 0, none⟩ = some (.bool c) ∧ w'.cell? ⟨w.heap.size + 1, 1, none⟩ = some (.slice bo m dap) ∧ w'.cell? ⟨w.heap.size + 1, 2, none⟩ = some (.slice bo' m' dap')) (first | (refine ⟨?_, ?_, ?_, ?_, ?_, ?_⟩ <;> (rw [far, far, far] <;> first | assumption | omega)) | go_keep) (first | (go_at_call 103; refine (add_any K hK _ _ _ p (-r) q s (by first | exact hH2.2.2.1 | exact (hH2.alloc _).2.2.1) (by first | exact hA1 | exact hA1.alloc _) hp hrn hq hs).mono ?_; rintro e wB ⟨tB, rfl, hB1, hbB1⟩; obtain ⟨b2, a2, l2, k2, a3, l3, k3, rfl, hv2, hb2, hu2, hq2⟩ := hB1.parts; have hH3 : HeldC w b c ao ao' bo bo' l cap l' cap' m dap m' dap' p r q s wB := (by first | exact hH2.below hbB1 | exact (hH2.alloc _).below hbB1); have hP3 := hH3.1; obtain ⟨u0, u1, u2, u3, u4, u5, u6⟩ := hP3; have hQ3 := hH3.2.1; obtain ⟨v0, v1, v2, v3, v4, v5, v6⟩ := hQ3; have hBB := hH3.2.2.2.2.1; (first | (have h5C : Box3 wB (w.heap.size + 1 + 1) (.bool false) (.slice none 0 0) (.slice none 0 0) := (by exact h5B.below hbB1); have h5c := h5C; obtain ⟨n0, n1, n2, n3, n4, n5, n6⟩ := h5c) | (have h5C : Box3 wB wA.heap.size (.bool false) (.slice none 0 0) (.slice none 0 0) := (by exact (Box3.new wA _ _ _ _).below hbB1); have h5c := h5C; obtain ⟨n0, n1, n2, n3, n4, n5, n6⟩ := h5c) | skip)) | (go_at_call 104; refine (turned_any _ _ r s (by first | exact hH.drew.2.2.2.1 | exact (hH.alloc _).drew.2.2.2.1 | exact (hH.drew.alloc _).2.2.2.1) K hr).mono ?_; rintro e wA ⟨tA, rfl, hA1, hbA1⟩; have hH2 : HeldC w b c ao ao' bo bo' l cap l' cap' m dap m' dap' p r q s wA := (by first | exact hH.drew.below hbA1 | exact (hH.alloc _).drew.below hbA1 | exact (hH.drew.alloc _).below hbA1); have hP2 := hH2.1; obtain ⟨s0, s1, s2, s3, s4, s5, s6⟩ := hP2; have hQ2 := hH2.2.1; obtain ⟨t0, t1, t2, t3, t4, t5, t6⟩ := hQ2; have hBA := hH2.2.2.2.2.1; (first | (have h5B : Box3 wA (w.heap.size + 1 + 1) (.bool false) (.slice none 0 0) (.slice none 0 0) := (by exact h5A.drew.below hbA1); have h5b := h5B; obtain ⟨j0, j1, j2, j3, j4, j5, j6⟩ := h5b) | skip)))
    all_goals go_wp2_with fail
    all_goals go_meet
    · exact ⟨wB.heap.size, b2, a2, l2, k2, a3, l3, k3, rfl, Box3.new _ _ _ _ _, hB1.alloc _, hBB.alloc hBB.size _⟩
    · exact ⟨wA.heap.size, b2, a2, l2, k2, a3, l3, k3, rfl, Box3.stored h5C, hB1.stored h5C, below_stored hBB hBA.size _ _ _⟩
    · exact ⟨w.heap.size + 1 + 1, b2, a2, l2, k2, a3, l3, k3, rfl, Box3.stored h5C, hB1.stored h5C, below_stored hBB (by omega) _ _ _⟩
  case rest =>
    obtain ⟨g5, bU, aU, lU, kU, aV, lV, kV, rfl, hbox5, hU, hBc⟩ := hcut
    obtain ⟨n0, n1, n2, n3, n4, n5, n6⟩ := hbox5
    go_wp2_with fail
    refine (sign_any _ _ _ _ hU (K + K + 1) hbd.out).mono ?_
    rintro e w6 ⟨rfl, hb6⟩
    go_wp2
    go_ret
    exact ⟨ret_int (hsg.out _ rfl), hBc.trans (hb6.mono hBc.size)⟩
end Go.Proofs.YtnhfdcfnojnofaaGreatDoor.T
