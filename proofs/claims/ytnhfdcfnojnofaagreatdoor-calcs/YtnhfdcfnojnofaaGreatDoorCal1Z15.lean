/-
  Part 15 of the texts ahead of Cal1: Txt13, Tr17, Pla8, Law1.
-/
import Derived.Test.YtnhfdcfnojnofaaGreatDoorCal1Z14
import Derived.Test.YtnhfdcfnojnofaaGreatDoorCal1Z8
import Derived.Test.YtnhfdcfnojnofaaGreatDoorCal1Z10
set_option linter.unusedSimpArgs false
set_option linter.unusedVariables false
/-
  Numbers read: fraction.Parse, of any text: yes or no.
-/
namespace Go.Proofs.YtnhfdcfnojnofaaGreatDoor
open Go.RowKit

theorem okD_parts {l : List UInt8} {m : Nat} (h : T.okD l m = true) : 0 < l.length ∧ l.length ≤ m ∧ allDig l = true := by
  unfold T.okD at h
  simp only [Bool.and_eq_true, decide_eq_true_eq] at h
  exact ⟨List.length_pos_iff.2 h.1, h.2.1, h.2.2⟩

theorem okD_not {l : List UInt8} {m : Nat} (h : T.okD l m = false) : (ByteArray.mk l.toArray).data.toList = [] ∨ m < (ByteArray.mk l.toArray).size ∨ allDig (ByteArray.mk l.toArray).data.toList = false := by
  have e : (ByteArray.mk l.toArray).data.toList = l := by simp
  rw [e, size_mk]
  unfold T.okD at h
  by_cases h1 : l = []
  · exact Or.inl h1
  · by_cases h2 : l.length ≤ m
    · rw [decide_eq_true h1, decide_eq_true h2, Bool.true_and, Bool.true_and] at h
      exact Or.inr (Or.inr h)
    · exact Or.inr (Or.inl (by omega))

theorem cut_len (L : List UInt8) : (Lib.cut L [47]).1.length ≤ L.length ∧ (Lib.cut L [47]).2.1.length ≤ L.length := by
  unfold Lib.cut
  split
  · refine ⟨?_, ?_⟩
    · show (L.take _).length ≤ L.length
      rw [List.length_take]; omega
    · show (L.drop _).length ≤ L.length
      rw [List.length_drop]; omega
  · simp

theorem Box3.same {w : World} {g : Nat} (h : Box3 w g (.bool false) (.slice none 0 0) (.slice none 0 0)) : Box3 (((w.setCell ⟨g, 0, none⟩ (.bool false)).setCell ⟨g, 1, none⟩ (.slice none 0 0)).setCell ⟨g, 2, none⟩ (.slice none 0 0)) g (.bool false) (.slice none 0 0) (.slice none 0 0) := T.Box3.stored h

set_option maxRecDepth 100000 in
set_option maxHeartbeats 2000000 in
theorem parse_no (s : ByteArray) (w : World) (hs : s.size ≤ 9223372036854775807) (h : T.rOk s.data.toList = false) :
    Calls Tryz.prog 56 #[.string s, .int .i64 40] w fun e w' => ∃ b ao l cap ao' l' cap', e = .returned (.tuple #[.agg #[.bool b, .slice ao l cap, .slice ao' l' cap'], .bool false]) ∧ Below w.heap.size w w' := by
  have hbox : Box3 (w.alloc (.cells #[.bool false, .slice none 0 0, .slice none 0 0] 103)) w.heap.size (.bool false) (.slice none 0 0) (.slice none 0 0) := Box3.new _ _ _ _ _
  have hbW : Below w.heap.size w (w.alloc (.cells #[.bool false, .slice none 0 0, .slice none 0 0] 103)) := (Below.refl _ _).alloc (Nat.le_refl _) _
  have hcp := cut_any s (w.alloc (.cells #[.bool false, .slice none 0 0, .slice none 0 0] 103)) hs
  have hln := cut_len s.data.toList
  rw [toList_len] at hln
  unfold T.rOk T.rdOk at h
  rw [(cut_trim s.data.toList).1] at h
  generalize Lib.cut s.data.toList [47] = cc at *
  obtain ⟨a, b, pt⟩ := cc
  simp only at h hcp hln
  have HCP := hide hcp
  clear hcp
  have ea : (ByteArray.mk a.toArray).data.toList = a := by simp
  have eb : (ByteArray.mk b.toArray).data.toList = b := by simp
  by_cases hd : T.okD (Lib.trimPrefix a [45]) 40 = true
  · rw [hd, Bool.true_and] at h
    have hpt : pt = true := by
      cases pt with
      | true => rfl
      | false => simp at h
    subst hpt
    simp only [Bool.not_true, Bool.false_or] at h
    obtain ⟨d1, d2, d3⟩ := okD_parts hd
    have hp := fun W => wholeParse_yes ⟨a.toArray⟩ 40 W (by omega) (by rw [ea]; exact d1) (by rw [ea]; exact d2) (by rw [ea]; exact d3)
    rw [ea] at hp
    generalize sg (Lib.hasPrefix a [45]) (decVal (Lib.trimPrefix a [45])) = z at *
    have HP := hide hp
    clear hp d1 d2 d3 hd
    by_cases hb : T.okD b 40 = true
    · rw [hb, Bool.true_and] at h
      obtain ⟨d1, d2, d3⟩ := okD_parts hb
      have hq := fun W => natParse_yes ⟨b.toArray⟩ 40 W (by omega) (by rw [size_mk]; exact d1) (by rw [size_mk]; exact d2) (by rw [eb]; exact d3)
      rw [eb] at hq
      have hb0 : decVal b = 0 := by
        by_cases e : decVal b = 0
        · exact e
        · simp [e] at h
      rw [hb0] at hq
      have HQ := hide hq
      clear hq d1 d2 d3 h hb0 ea eb hs hb
      go_enter Tryz.func56, Tryz.ntmps56
      go_wp2_with fail
      refine HCP.out.mono ?_
      rintro e w1 ⟨rfl, q1, rfl⟩
      go_wp2_with fail
      refine (HP.out _).mono ?_
      rintro e w2 ⟨x, rfl, hx, hbx⟩
      obtain ⟨b2, a2, l2, k2, rfl, hv2, hbb2⟩ := hx.parts
      have hboxA := (hbox.drewN q1).below hbx
      have hbA : Below w.heap.size w w2 := hbW.trans ((below_ofDrewN hbx).mono hbW.size)
      have hboxB := hboxA.alloc (.cells #[.bool b2, .slice a2 l2 k2] 101)
      have hbB : Below w.heap.size w (w2.alloc (.cells #[.bool b2, .slice a2 l2 k2] 101)) := hbA.alloc hbA.size _
      clear hbx hboxA hbox hx hv2 hbW
      go_wp2_with fail
      refine (HQ.out _).mono ?_
      rintro e w3 ⟨v, rfl, hv, hbv⟩
      have hboxC := hboxB.below hbv
      have hbC : Below w.heap.size w w3 := hbB.trans (hbv.mono hbB.size)
      clear hbv hboxB hbB
      go_wp2_with fail
      refine (isZero_yes _ _ hv).mono ?_
      rintro e w4 ⟨rfl, rfl⟩
      obtain ⟨c0, c1, c2, f0, f1, f2, g0⟩ := hboxC
      go_wp2
      exact bodyPost_ret (v := .tuple #[.agg #[.bool false, .slice none 0 0, .slice none 0 0], .bool false]) (by simp [results, Tryz.results56, go_sem, c0, c1, c2]) rfl ⟨_, _, _, _, _, _, _, rfl, ((hbC.setCell (by simp) _).setCell (by simp) _).setCell (by simp) _⟩
    · have hbf : T.okD b 40 = false := by simpa using hb
      have HQ := hide (fun W => natParse2_no ⟨b.toArray⟩ 40 W (by omega) (by rw [size_mk]; omega) (okD_not hbf))
      clear h ea eb hs hb hbf
      go_enter Tryz.func56, Tryz.ntmps56
      go_wp2_with fail
      refine HCP.out.mono ?_
      rintro e w1 ⟨rfl, q1, rfl⟩
      go_wp2_with fail
      refine (HP.out _).mono ?_
      rintro e w2 ⟨x, rfl, hx, hbx⟩
      obtain ⟨b2, a2, l2, k2, rfl, hv2, hbb2⟩ := hx.parts
      have hboxA := (hbox.drewN q1).below hbx
      have hbA : Below w.heap.size w w2 := hbW.trans ((below_ofDrewN hbx).mono hbW.size)
      have hboxB := hboxA.alloc (.cells #[.bool b2, .slice a2 l2 k2] 101)
      have hbB : Below w.heap.size w (w2.alloc (.cells #[.bool b2, .slice a2 l2 k2] 101)) := hbA.alloc hbA.size _
      clear hbx hbox hx hv2 hbW
      go_wp2_with fail
      refine (HQ.out _).mono ?_
      rintro e w3 ⟨rfl, rfl⟩
      have hboxX := hboxA
      obtain ⟨d0, d1, d2, d3, d4, d5, d6⟩ := hboxX
      obtain ⟨c0, c1, c2, f0, f1, f2, g0⟩ := hboxB
      have hS := (Box3.same hboxA).alloc (.cells #[.bool b2, .slice a2 l2 k2] 101)
      obtain ⟨m0, m1, m2, m3, m4, m5, m6⟩ := hS
      go_wp2
      exact bodyPost_ret (v := .tuple #[.agg #[.bool false, .slice none 0 0, .slice none 0 0], .bool false]) (by simp [results, Tryz.results56, go_sem, m0, m1, m2]) rfl ⟨_, _, _, _, _, _, _, rfl, (T.below_stored hbA (Nat.le_refl _) _ _ _).alloc (by have := hbA.size; simp; omega) _⟩
  · have hdf : T.okD (Lib.trimPrefix a [45]) 40 = false := by simpa using hd
    have HP := hide (fun W => wholeParse_no ⟨a.toArray⟩ 40 W (by omega) (by rw [size_mk]; omega) (by rw [ea]; exact hdf))
    clear h ea eb hs hd hdf
    go_enter Tryz.func56, Tryz.ntmps56
    go_wp2_with fail
    refine HCP.out.mono ?_
    rintro e w1 ⟨rfl, q1, rfl⟩
    go_wp2_with fail
    refine (HP.out _).mono ?_
    rintro e w2 ⟨b2, a2, l2, k2, rfl, hbx⟩
    have hboxA := (hbox.drewN q1).below hbx
    have hbA : Below w.heap.size w w2 := hbW.trans ((below_ofDrewN hbx).mono hbW.size)
    have hboxX := hboxA
    obtain ⟨d0, d1, d2, d3, d4, d5, d6⟩ := hboxX
    have hS := (Box3.same hboxA).alloc (.cells #[.bool b2, .slice a2 l2 k2] 101)
    obtain ⟨m0, m1, m2, m3, m4, m5, m6⟩ := hS
    clear hbx hbox hbW
    go_wp2
    exact bodyPost_ret (v := .tuple #[.agg #[.bool false, .slice none 0 0, .slice none 0 0], .bool false]) (by simp [results, Tryz.results56, go_sem, m0, m1, m2]) rfl ⟨_, _, _, _, _, _, _, rfl, (T.below_stored hbA (Nat.le_refl _) _ _ _).alloc (by have := hbA.size; simp; omega) _⟩

theorem parse_yes (s : ByteArray) (w : World) (hs : s.size ≤ 9223372036854775807) (h : T.rOk s.data.toList = true) :
    Calls Tryz.prog 56 #[.string s, .int .i64 40] w fun e w' => ∃ x, e = .returned (.tuple #[x, .bool true]) ∧ FracV w' x (T.rP s.data.toList) (T.rQ s.data.toList) ∧ Below w.heap.size w w' := by
  have h0 := h
  obtain ⟨hA, hB⟩ := cut_trim s.data.toList
  have hbd := T.rd_parts h0
  unfold T.rOk T.rdOk at h
  unfold T.rP T.rQ
  unfold T.rA T.rD T.rdDown at hbd ⊢
  rw [hA] at h hbd ⊢
  rw [hB]
  obtain ⟨⟨a, b, pt⟩, hcut⟩ : ∃ cc, Lib.cut s.data.toList [47] = cc := ⟨_, rfl⟩
  rw [hcut] at h hbd ⊢
  simp only at h hbd ⊢
  simp only [Bool.and_eq_true] at h
  obtain ⟨hd, h2⟩ := h
  obtain ⟨d1, d2, d3⟩ := okD_parts hd
  cases pt with
  | false =>
    have hb : b = [] := by
      have hc := hcut
      unfold Lib.cut at hc
      split at hc
      · simp at hc
      · simp only [Prod.mk.injEq] at hc; exact hc.2.1.symm
    subst hb
    refine (fracParse2_whole s 40 w (by omega) hs a hcut d1 d2 d3).mono ?_
    rintro e w' ⟨x, rfl, hx, hbw⟩
    refine ⟨x, rfl, ?_, hbw⟩
    simp only [Bool.false_eq_true, if_false, Nat.gcd_one_right, Int.natCast_one, Int.ediv_one, Nat.div_one]
    exact hx
  | true =>
    simp only [Bool.not_true, Bool.false_or, Bool.and_eq_true, decide_eq_true_eq] at h2
    obtain ⟨hb, hb0⟩ := h2
    obtain ⟨f1, f2, f3⟩ := okD_parts hb
    simp only [if_true] at hbd ⊢
    obtain ⟨K, hK, hO, hz, hn⟩ : ∃ K, K ≤ 1073741822 ∧ OverOK K ∧ decVal (Lib.trimPrefix a [45]) < 4294967296 ^ K ∧ decVal b < 4294967296 ^ K := ⟨10, by omega, overOK_ten, ten40 hbd.1, ten40 hbd.2.1⟩
    refine (fracParse2_frac K hK hO s 40 w (by omega) hs a b hcut d1 d2 d3 f1 f2 f3 hb0 hz hn).mono ?_
    rintro e w' ⟨x, z, hzz, rfl, hx, hbw⟩
    refine ⟨x, rfl, ?_, hbw⟩
    have hab : z.natAbs = decVal (Lib.trimPrefix a [45]) := by rw [hzz, sg_abs]
    rw [hab, hzz] at hx
    exact hx
end Go.Proofs.YtnhfdcfnojnofaaGreatDoor

/-
  What the document's own Calc does with numbers' texts (package planesref).
-/
namespace Go.Proofs.YtnhfdcfnojnofaaGreatDoor.T
open Go.RowKit

theorem low_lt (X : Int) (Y : Nat) {n : Nat} (h : X.natAbs < n) : (X / (Nat.gcd X.natAbs Y : Int)).natAbs < n := Nat.lt_of_le_of_lt (Int.natAbs_ediv_le_natAbs _ _) h
theorem lowd_lt (X : Int) (Y : Nat) {n : Nat} (h : Y < n) : Y / Nat.gcd X.natAbs Y < n := Nat.lt_of_le_of_lt (Nat.div_le_self _ _) h

theorem sg_sign (r : Int) (s : Nat) (hr : r ≠ 0) : sg (decide (r < 0)) s = (s : Int) * r.sign := by
  by_cases h : r < 0
  · rw [Int.sign_eq_neg_one_of_neg h]; simp [sg, h]
  · rw [Int.sign_eq_one_of_pos (by omega)]; simp [sg, h]

theorem sg_pos_flag (r : Int) (s : Nat) (hs : 0 < s) : decide (r < 0) = decide (sg (decide (r < 0)) s < 0) := by
  rw [sg_flag, decide_eq_true (show s ≠ 0 by omega), Bool.and_true]

theorem itoa_frac (z : Int) : Lib.itoa z = fracText z 1 := by rw [fracText, if_pos rfl]

set_option maxHeartbeats 4000000 in
set_option maxRecDepth 100000 in
theorem rcalc_yes (op : Int) (sa sb : ByteArray) (w : World) (hsa : sa.size ≤ 9223372036854775807) (hsb : sb.size ≤ 9223372036854775807) (h1 : 1 ≤ op) (h6 : op ≤ 6) (ha : rOk sa.data.toList = true) (hb : rOk sb.data.toList = true) :
    Calls Tryz.prog 63 #[.int .i64 op, .string sa, .string sb] w fun e w' => e = .returned (.tuple #[.string ⟨(resT op (rP sa.data.toList) (rP sb.data.toList) (rQ sa.data.toList) (rQ sb.data.toList)).1.toArray⟩, .int .i64 (resT op (rP sa.data.toList) (rP sb.data.toList) (rQ sa.data.toList) (rQ sb.data.toList)).2]) ∧ Below w.heap.size w w' := by
  obtain ⟨a1, a2, a3⟩ := r_bd ha
  obtain ⟨b1, b2, b3⟩ := r_bd hb
  have hr1 := fun W => read_40 sa W hsa
  have hr2 := fun W => read_40 sb W hsb
  simp only [ha, forall_const] at hr1
  simp only [hb, forall_const] at hr2
  obtain ⟨K, hK, hp, hr, hq, hs⟩ : ∃ K, K + K < 400 ∧ (rP sa.data.toList).natAbs < 10000 ^ K ∧ (rP sb.data.toList).natAbs < 10000 ^ K ∧ rQ sa.data.toList < 10000 ^ K ∧ rQ sb.data.toList < 10000 ^ K :=
    ⟨10, by omega, by rw [pow4]; exact a1, by rw [pow4]; exact b1, by rw [pow4]; exact a2, by rw [pow4]; exact b2⟩
  clear ha hb a1 a2 b1 b2
  generalize rP sa.data.toList = p at *
  generalize rP sb.data.toList = r at *
  generalize rQ sa.data.toList = q at *
  generalize rQ sb.data.toList = s at *
  have HR1 := hide hr1
  have HR2 := hide hr2
  clear hr1 hr2
  have hqs := mul_lt_pow hq hs
  have hps := mul_lt_pow hp hs
  have hrq := mul_lt_pow hr hq
  have hpr := mul_lt_pow hp hr
  have hqr := mul_lt_pow hq hr
  have HQS := hide (lt_succ_pow hqs)
  have HPR : Hid ((p * r).natAbs < 10000 ^ (K + K + 1)) := by rw [Hid, Int.natAbs_mul]; exact lt_succ_pow hpr
  have HSUM : Hid ((p * s + r * q).natAbs < 10000 ^ (K + K + 1)) := by
    rw [Hid]
    refine Nat.lt_of_le_of_lt (Int.natAbs_add_le _ _) ?_
    rw [Int.natAbs_mul, Int.natAbs_mul, Int.natAbs_natCast, Int.natAbs_natCast]
    exact add_succ_pow hps hrq
  have HDIF : Hid ((p * s + (-r) * q).natAbs < 10000 ^ (K + K + 1)) := by
    rw [Hid]
    refine Nat.lt_of_le_of_lt (Int.natAbs_add_le _ _) ?_
    rw [Int.natAbs_mul, Int.natAbs_mul, Int.natAbs_natCast, Int.natAbs_natCast, Int.natAbs_neg]
    exact add_succ_pow hps hrq
  have HPS := hide hps
  have HQR := hide (lt_succ_pow hqr)
  have HP1 : Hid (p.natAbs < 10000 ^ (K + K + 1)) := Nat.lt_of_lt_of_le hp (Nat.pow_le_pow_right (by omega) (by omega))
  have HONE : Hid (1 < 10000 ^ (K + K + 1)) := Nat.one_lt_pow (by omega) (by omega)
  clear hqs hps hrq hpr hqr
  go_enter Tryz.func63, Tryz.ntmps63
  go_wp2_with fail
  refine (HR1.out _).mono ?_
  rintro e w1 ⟨b, ao, l, cap, ao', l', cap', rfl, hx1, hb1⟩
  have hbl2 := hb1.alloc hb1.size (.cells #[.bool b, .slice ao l cap, .slice ao' l' cap'] 118)
  have hx2 := hx1.alloc (.cells #[.bool b, .slice ao l cap, .slice ao' l' cap'] 118)
  have hbox8 := Box3.new w1 (.bool b) (.slice ao l cap) (.slice ao' l' cap') 118
  have hg8 := hb1.size
  clear HR1 hb1 hx1
  go_wp2_with fail
  refine (HR2.out _).mono ?_
  rintro e w3 ⟨c, bo, m, dap, bo', m', dap', rfl, hy3, hb3⟩
  have hbl3 := hbl2.trans (hb3.mono hbl2.size)
  have hx5 := ((hx2.below hb3).alloc (.cells #[.bool c, .slice bo m dap, .slice bo' m' dap'] 118)).alloc (.cells #[.bool false, .slice none 0 0, .slice none 0 0] 118)
  have hy5 := (hy3.alloc (.cells #[.bool c, .slice bo m dap, .slice bo' m' dap'] 118)).alloc (.cells #[.bool false, .slice none 0 0, .slice none 0 0] 118)
  have hP5 := ((hbox8.below hb3).alloc (.cells #[.bool c, .slice bo m dap, .slice bo' m' dap'] 118)).alloc (.cells #[.bool false, .slice none 0 0, .slice none 0 0] 118)
  have hQ5 := (Box3.new w3 (.bool c) (.slice bo m dap) (.slice bo' m' dap') 118).alloc (.cells #[.bool false, .slice none 0 0, .slice none 0 0] 118)
  have hR5 := Box3.new1 w3 (.cells #[.bool c, .slice bo m dap, .slice bo' m' dap'] 118) (.bool false) (.slice none 0 0) (.slice none 0 0) 118
  have hbl5 := (hbl3.alloc hbl3.size (.cells #[.bool c, .slice bo m dap, .slice bo' m' dap'] 118)).alloc (by have := hbl3.size; simp; omega) (.cells #[.bool false, .slice none 0 0, .slice none 0 0] 118)
  have hg10 := hbl3.size
  have hg810 : w1.heap.size < w3.heap.size := by have := hb3.size; simp at this; omega
  have hP3 := hbox8.below hb3
  clear HR2 hb3 hx2 hy3 hbox8 hbl2 hbl3
  obtain ⟨i0, i1, i2, i3, i4, i5, i6⟩ := hP3
  have hops : op = 1 ∨ op = 2 ∨ op = 3 ∨ op = 4 ∨ op = 5 ∨ op = 6 := by omega
  clear h1 h6
  rcases hops with rfl | rfl | rfl | rfl | rfl | rfl
  · have HT : Hid (resT 1 p r q s = (fracText ((p * s + r * q) / (Nat.gcd (p * s + r * q).natAbs (q * s) : Int)) ((q * s) / Nat.gcd (p * s + r * q).natAbs (q * s)), 0)) := by rw [Hid, resT, if_pos rfl, lowText_frac]
    go_wp2_with fail
    refine (add_any K (by omega) _ _ _ p r q s hx5 hy5 hp hr hq hs).mono ?_
    rintro e w6 ⟨t6, rfl, h7, hb6⟩
    have hR6 := hR5.below hb6
    have hbl6 := hbl5.trans (hb6.mono hbl5.size)
    clear hb6 hx5 hy5 hP5 hQ5 hbl5
    obtain ⟨b7, a7, l7, k7, a8, l8, k8, rfl, _⟩ := h7.parts
    have hst := h7.stored (b := b7) (a := a7) (l := l7) (k := k7) (a2 := a8) (l2 := l8) (k2 := k8) hR6
    have hbs := Box3.stored (b := b7) (a := a7) (l := l7) (k := k7) (a2 := a8) (l2 := l8) (k2 := k8) hR6
    have hbls := below_stored hbl6 (show w.heap.size ≤ w3.heap.size + 1 by omega) (.bool b7) (.slice a7 l7 k7) (.slice a8 l8 k8)
    have hbx := hR6
    obtain ⟨y0, y1, y2, y3, y4, y5, y6⟩ := hbx
    obtain ⟨z0, z1, z2, z3, z4, z5, z6⟩ := hbs
    go_wp2_with fail
    refine (text_any (K + K + 1) (by omega) _ _ _ _ hst (low_lt _ _ HSUM.out) (lowd_lt _ _ HQS.out)).mono ?_
    rintro e w9 ⟨rfl, hb9⟩
    go_wp2
    go_ret2
    exact ⟨by rw [HT.out]; rfl, hbls.trans (hb9.mono hbls.size)⟩
  · have HT : Hid (resT 2 p r q s = (fracText ((p * s + (-r) * q) / (Nat.gcd (p * s + (-r) * q).natAbs (q * s) : Int)) ((q * s) / Nat.gcd (p * s + (-r) * q).natAbs (q * s)), 0)) := by rw [Hid, resT, if_neg (by omega), if_pos rfl, lowText_frac]
    have hrn : (-r).natAbs < 10000 ^ K := by rw [Int.natAbs_neg]; exact hr
    go_wp2_with fail
    go_region_held (fun w' => w'.cell? ⟨w1.heap.size, 0, none⟩ = some (.bool b) ∧ w'.cell? ⟨w1.heap.size, 1, none⟩ = some (.slice ao l cap) ∧ w'.cell? ⟨w1.heap.size, 2, none⟩ = some (.slice ao' l' cap') ∧ w'.cell? ⟨w3.heap.size, 0, none⟩ = some (.bool c) ∧ w'.cell? ⟨w3.heap.size, 1, none⟩ = some (.slice bo m dap) ∧ w'.cell? ⟨w3.heap.size, 2, none⟩ = some (.slice bo' m' dap')) (first | (refine ⟨?_, ?_, ?_, ?_, ?_, ?_⟩ <;> (rw [far, far, far] <;> first | assumption | omega)) | go_keep) (first | (go_at_call 103; refine (add_any K (by omega) _ _ _ p (-r) q s (hx5.drew.below hbA1) hA1 hp hrn hq hs).mono ?_; rintro e wB ⟨tB, rfl, h7, hbB1⟩; obtain ⟨b7, a7, l7, k7, a8, l8, k8, rfl, _⟩ := h7.parts; have hPB := (hP5.drew.below hbA1).below hbB1; obtain ⟨u0, u1, u2, u3, u4, u5, u6⟩ := hPB; have hQB := (hQ5.drew.below hbA1).below hbB1; obtain ⟨v0, v1, v2, v3, v4, v5, v6⟩ := hQB; have hR6 := (hR5.drew.below hbA1).below hbB1; have hbx := hR6; obtain ⟨y0, y1, y2, y3, y4, y5, y6⟩ := hbx) | (go_at_call 104; refine (turned_any _ _ r s (by exact hy5.drewN 1) K hr).mono ?_; rintro e wA ⟨tA, rfl, hA1, hbA1⟩; have hPA := hP5.drew.below hbA1; obtain ⟨s0, s1, s2, s3, s4, s5, s6⟩ := hPA; have hQA := hQ5.drew.below hbA1; obtain ⟨t0, t1, t2, t3, t4, t5, t6⟩ := hQA))
    have hblA : Below w.heap.size w wA := hbl5.trans ((below_drew hbA1).mono hbl5.size)
    have hbl6 : Below w.heap.size w wB := hblA.trans (hbB1.mono hblA.size)
    have hst := h7.stored (b := b7) (a := a7) (l := l7) (k := k7) (a2 := a8) (l2 := l8) (k2 := k8) hR6
    have hbs := Box3.stored (b := b7) (a := a7) (l := l7) (k := k7) (a2 := a8) (l2 := l8) (k2 := k8) hR6
    have hbls := below_stored hbl6 (show w.heap.size ≤ w3.heap.size + 1 by omega) (.bool b7) (.slice a7 l7 k7) (.slice a8 l8 k8)
    obtain ⟨z0, z1, z2, z3, z4, z5, z6⟩ := hbs
    go_wp2_with fail
    refine (text_any (K + K + 1) (by omega) _ _ _ _ hst (low_lt _ _ HDIF.out) (lowd_lt _ _ HQS.out)).mono ?_
    rintro e w9 ⟨rfl, hb9⟩
    go_wp2
    go_ret2
    exact ⟨by rw [HT.out]; rfl, hbls.trans (hb9.mono hbls.size)⟩
  · have HT : Hid (resT 3 p r q s = (fracText ((p * r) / (Nat.gcd (p * r).natAbs (q * s) : Int)) ((q * s) / Nat.gcd (p * r).natAbs (q * s)), 0)) := by rw [Hid, resT, if_neg (by omega), if_neg (by omega), if_pos rfl, lowText_frac]
    go_wp2_with fail
    refine (mul_any K (by omega) _ _ _ p r q s hx5 hy5 hp hr hq hs).mono ?_
    rintro e w6 ⟨t6, rfl, h7, hb6⟩
    have hR6 := hR5.below hb6
    have hbl6 := hbl5.trans (hb6.mono hbl5.size)
    clear hb6 hx5 hy5 hP5 hQ5 hbl5
    obtain ⟨b7, a7, l7, k7, a8, l8, k8, rfl, _⟩ := h7.parts
    have hst := h7.stored (b := b7) (a := a7) (l := l7) (k := k7) (a2 := a8) (l2 := l8) (k2 := k8) hR6
    have hbs := Box3.stored (b := b7) (a := a7) (l := l7) (k := k7) (a2 := a8) (l2 := l8) (k2 := k8) hR6
    have hbls := below_stored hbl6 (show w.heap.size ≤ w3.heap.size + 1 by omega) (.bool b7) (.slice a7 l7 k7) (.slice a8 l8 k8)
    have hbx := hR6
    obtain ⟨y0, y1, y2, y3, y4, y5, y6⟩ := hbx
    obtain ⟨z0, z1, z2, z3, z4, z5, z6⟩ := hbs
    go_wp2_with fail
    refine (text_any (K + K + 1) (by omega) _ _ _ _ hst (low_lt _ _ HPR.out) (lowd_lt _ _ HQS.out)).mono ?_
    rintro e w9 ⟨rfl, hb9⟩
    go_wp2
    go_ret2
    exact ⟨by rw [HT.out]; rfl, hbls.trans (hb9.mono hbls.size)⟩
  · obtain ⟨b', x', u', he, hv', hf', hu', hs0⟩ := hy5
    simp only [Value.agg.injEq, Array.mk.injEq, List.cons.injEq, Value.bool.injEq, and_true] at he
    obtain ⟨rfl, rfl, rfl⟩ := he
    have hll := nv_len hv' hr
    by_cases hr0 : r = 0
    · have HT : Hid (resT 4 p r q s = ([], 3)) := by rw [Hid, resT, if_neg (by omega), if_neg (by omega), if_neg (by omega), if_pos rfl, if_pos hr0]
      have hm0 : m = 0 := hll.2.2 (by omega)
      subst hm0
      clear hll
      go_wp2
      go_ret2
      exact ⟨by rw [HT.out]; rfl, hbl5⟩
    · have HT : Hid (resT 4 p r q s = (fracText ((p * sg c s) / (Nat.gcd (p * sg c s).natAbs (q * r.natAbs) : Int)) ((q * r.natAbs) / Nat.gcd (p * sg c s).natAbs (q * r.natAbs)), 0)) := by
        rw [Hid, resT, if_neg (by omega), if_neg (by omega), if_neg (by omega), if_pos rfl, if_neg hr0, lowText_frac, hf'.out, sg_sign r s hr0, Int.mul_assoc]
      have hm0 : ¬ m = 0 := fun e => hr0 (by have := hll.2.1 e; omega)
      have hm0i : (m : Int) ≠ 0 := by omega
      have hy6 : NumV ((w3.alloc (.cells #[.bool c, .slice bo m dap, .slice bo' m' dap'] 118)).alloc (.cells #[.bool false, .slice none 0 0, .slice none 0 0] 118)) (.agg #[.bool c, .slice bo' m' dap', .slice bo m dap]) (sg c s) r.natAbs := ⟨c, _, _, rfl, by rw [sg_abs]; exact hu', by rw [Hid, hf'.out]; exact sg_pos_flag r s hs0, hv', by omega⟩
      have hsg : (sg c s).natAbs < 10000 ^ K := by rw [sg_abs]; exact hs
      have HPS2 : Hid ((p * sg c s).natAbs < 10000 ^ (K + K + 1)) := by rw [Hid, Int.natAbs_mul, sg_abs]; exact lt_succ_pow HPS.out
      clear hll hr0
      go_wp2_with fail
      refine (mul_any K (by omega) _ _ _ p (sg c s) q r.natAbs hx5 hy6 hp hsg hq hr).mono ?_
      rintro e w6 ⟨t6, rfl, h7, hb6⟩
      have hR6 := hR5.below hb6
      have hbl6 := hbl5.trans (hb6.mono hbl5.size)
      clear hb6 hx5 hy6 hP5 hQ5 hbl5
      obtain ⟨b7, a7, l7, k7, a8, l8, k8, rfl, _⟩ := h7.parts
      have hst := h7.stored (b := b7) (a := a7) (l := l7) (k := k7) (a2 := a8) (l2 := l8) (k2 := k8) hR6
      have hbs := Box3.stored (b := b7) (a := a7) (l := l7) (k := k7) (a2 := a8) (l2 := l8) (k2 := k8) hR6
      have hbls := below_stored hbl6 (show w.heap.size ≤ w3.heap.size + 1 by omega) (.bool b7) (.slice a7 l7 k7) (.slice a8 l8 k8)
      have hbx := hR6
      obtain ⟨y0, y1, y2, y3, y4, y5, y6⟩ := hbx
      obtain ⟨z0, z1, z2, z3, z4, z5, z6⟩ := hbs
      go_wp2_with fail
      refine (text_any (K + K + 1) (by omega) _ _ _ _ hst (low_lt _ _ HPS2.out) (lowd_lt _ _ HQR.out)).mono ?_
      rintro e w9 ⟨rfl, hb9⟩
      go_wp2
      go_ret2
      exact ⟨by rw [HT.out]; rfl, hbls.trans (hb9.mono hbls.size)⟩
  · have HT : Hid (resT 5 p r q s = (fracText (p / (q : Int)) 1, 0)) := by rw [Hid, resT, if_neg (by omega), if_neg (by omega), if_neg (by omega), if_neg (by omega), if_pos rfl, itoa_frac]
    go_wp2_with fail
    refine (floor_any K (by omega) _ _ p q hx5 hp hq).mono ?_
    rintro e w6 ⟨t6, rfl, h7, hb6⟩
    have hR6 := hR5.below hb6
    have hbl6 := hbl5.trans (hb6.mono hbl5.size)
    clear hb6 hx5 hy5 hP5 hQ5 hbl5
    obtain ⟨b7, a7, l7, k7, a8, l8, k8, rfl, _⟩ := h7.parts
    have hst := h7.stored (b := b7) (a := a7) (l := l7) (k := k7) (a2 := a8) (l2 := l8) (k2 := k8) hR6
    have hbs := Box3.stored (b := b7) (a := a7) (l := l7) (k := k7) (a2 := a8) (l2 := l8) (k2 := k8) hR6
    have hbls := below_stored hbl6 (show w.heap.size ≤ w3.heap.size + 1 by omega) (.bool b7) (.slice a7 l7 k7) (.slice a8 l8 k8)
    have hbx := hR6
    obtain ⟨y0, y1, y2, y3, y4, y5, y6⟩ := hbx
    obtain ⟨z0, z1, z2, z3, z4, z5, z6⟩ := hbs
    go_wp2_with fail
    refine (text_any (K + K + 1) (by omega) _ _ _ _ hst (Nat.lt_of_le_of_lt (Int.natAbs_ediv_le_natAbs _ _) HP1.out) HONE.out).mono ?_
    rintro e w9 ⟨rfl, hb9⟩
    go_wp2
    go_ret2
    exact ⟨by rw [HT.out]; rfl, hbls.trans (hb9.mono hbls.size)⟩
  · have HT : Hid (resT 6 p r q s = (fracText (if p * (s : Int) < r * (q : Int) then 1 else 0) 1, 0)) := by rw [Hid, resT, if_neg (by omega), if_neg (by omega), if_neg (by omega), if_neg (by omega), if_neg (by omega), itoa_frac]
    go_wp2_with fail
    refine (of_zero _).mono ?_
    rintro e w6 ⟨t6, rfl, h7, hb6⟩
    have hR6 := hR5.below hb6
    have hbl6 := hbl5.trans (hb6.mono hbl5.size)
    obtain ⟨b7, a7, l7, k7, a8, l8, k8, rfl, _⟩ := h7.parts
    have hst := h7.stored (b := b7) (a := a7) (l := l7) (k := k7) (a2 := a8) (l2 := l8) (k2 := k8) hR6
    have hbs := Box3.stored (b := b7) (a := a7) (l := l7) (k := k7) (a2 := a8) (l2 := l8) (k2 := k8) hR6
    have hbls := below_stored hbl6 (show w.heap.size ≤ w3.heap.size + 1 by omega) (.bool b7) (.slice a7 l7 k7) (.slice a8 l8 k8)
    have hxs := (hx5.below hb6).stored (b := b7) (a := a7) (l := l7) (k := k7) (a2 := a8) (l2 := l8) (k2 := k8) hR6
    have hys := (hy5.below hb6).stored (b := b7) (a := a7) (l := l7) (k := k7) (a2 := a8) (l2 := l8) (k2 := k8) hR6
    have hPs := (((hP5.below hb6).far (h := w3.heap.size + 1) (o := 0) (u := .bool b7) (by omega)).far (h := w3.heap.size + 1) (o := 1) (u := .slice a7 l7 k7) (by omega)).far (h := w3.heap.size + 1) (o := 2) (u := .slice a8 l8 k8) (by omega)
    have hQs := (((hQ5.below hb6).far (h := w3.heap.size + 1) (o := 0) (u := .bool b7) (by omega)).far (h := w3.heap.size + 1) (o := 1) (u := .slice a7 l7 k7) (by omega)).far (h := w3.heap.size + 1) (o := 2) (u := .slice a8 l8 k8) (by omega)
    have hPb := hP5.below hb6
    have hQb := hQ5.below hb6
    have hRb := hR6
    clear hb6 hx5 hy5 hP5 hQ5 hbl5 i0 i1 i2 i3 i4 i5 i6
    obtain ⟨i0, i1, i2, i3, i4, i5, i6⟩ := hPb
    obtain ⟨j0, j1, j2, j3, j4, j5, j6⟩ := hQb
    obtain ⟨y0, y1, y2, y3, y4, y5, y6⟩ := hRb
    obtain ⟨m0, m1, m2, m3, m4, m5, m6⟩ := hPs
    obtain ⟨n0, n1, n2, n3, n4, n5, n6⟩ := hQs
    go_wp2_with fail
    refine (ccompare_any K (by omega) _ _ _ p r q s hxs hys hp hr hq hs).mono ?_
    rintro e w8 ⟨rfl, hb8⟩
    have hR8 := hbs.below hb8
    have h78 := hst.below hb8
    have hbl8 := hbls.trans (hb8.mono hbls.size)
    clear hb8 hxs hys hbs hst hbls i0 i1 i2 i3 i4 i5 i6 j0 j1 j2 j3 j4 j5 j6 y0 y1 y2 y3 y4 y5 y6 m0 m1 m2 m3 m4 m5 m6 n0 n1 n2 n3 n4 n5 n6
    have hR8' := hR8
    obtain ⟨y0, y1, y2, y3, y4, y5, y6⟩ := hR8'
    by_cases hlt : p * (s : Int) < r * (q : Int)
    · have hsg : (p * (s : Int) + (-r) * (q : Int)).sign = -1 := Int.sign_eq_neg_one_of_neg (by rw [Int.neg_mul]; omega)
      have HT2 : Hid (resT 6 p r q s = (fracText 1 1, 0)) := by rw [Hid, HT.out, if_pos hlt]
      rw [hsg]
      clear HT
      go_wp2_with fail
      refine (of_one _).mono ?_
      rintro e wA ⟨tA, rfl, hA, hbA⟩
      obtain ⟨b9, a9, l9, k9, a10, l10, k10, rfl, _⟩ := hA.parts
      have hRA := hR8.below hbA
      have hblA := hbl8.trans (hbA.mono hbl8.size)
      have hstA := hA.stored (b := b9) (a := a9) (l := l9) (k := k9) (a2 := a10) (l2 := l10) (k2 := k10) hRA
      have hbsA := Box3.stored (b := b9) (a := a9) (l := l9) (k := k9) (a2 := a10) (l2 := l10) (k2 := k10) hRA
      have hblsA := below_stored hblA (show w.heap.size ≤ w3.heap.size + 1 by omega) (.bool b9) (.slice a9 l9 k9) (.slice a10 l10 k10)
      clear hbA y0 y1 y2 y3 y4 y5 y6
      obtain ⟨y0, y1, y2, y3, y4, y5, y6⟩ := hRA
      obtain ⟨z0, z1, z2, z3, z4, z5, z6⟩ := hbsA
      go_wp2_with fail
      refine (text_any (K + K + 1) (by omega) _ _ _ _ hstA (by exact HONE.out) HONE.out).mono ?_
      rintro e w9 ⟨rfl, hb9⟩
      go_wp2
      go_ret2
      exact ⟨by rw [HT2.out]; rfl, hblsA.trans (hb9.mono hblsA.size)⟩
    · have hsg : ¬ (p * (s : Int) + (-r) * (q : Int)).sign < 0 := by
        intro h
        have := Int.sign_neg_iff.1 h
        rw [Int.neg_mul] at this
        omega
      have HT2 : Hid (resT 6 p r q s = (fracText 0 1, 0)) := by rw [Hid, HT.out, if_neg hlt]
      generalize (p * (s : Int) + (-r) * (q : Int)).sign = z at *
      clear HT
      go_wp2_with fail
      refine (text_any (K + K + 1) (by omega) _ _ _ _ h78 (by exact Nat.lt_trans (by omega) HONE.out) HONE.out).mono ?_
      rintro e w9 ⟨rfl, hb9⟩
      go_wp2
      go_ret2
      exact ⟨by rw [HT2.out]; rfl, hbl8.trans (hb9.mono hbl8.size)⟩
end Go.Proofs.YtnhfdcfnojnofaaGreatDoor.T

/-
  What package planes does: Calc, of any operation and any texts.
-/
namespace Go.Proofs.YtnhfdcfnojnofaaGreatDoor
open Go.RowKit

set_option maxHeartbeats 1000000 in
set_option maxRecDepth 100000 in
theorem calc_none (op : Int) (h : op < 1 ∨ 6 < op) (s t : ByteArray) (w : World) :
    Calls Tryz.prog 41 #[.int .i64 op, .string s, .string t] w fun e w' => e = .returned (.tuple #[.string ⟨#[]⟩, .int .i64 1]) ∧ Below w.heap.size w w' := by
  go_enter Tryz.func41, Tryz.ntmps41
  go_wp2_with fail
  refine (find_none op h _).mono ?_
  rintro e w1 ⟨rfl, hb1⟩
  go_wp2
  go_ret2
  exact ⟨rfl, hb1.alloc hb1.size _⟩

set_option maxHeartbeats 1000000 in
set_option maxRecDepth 100000 in
theorem calc_unread (op : Int) (h1 : 1 ≤ op) (h6 : op ≤ 6) (s t : ByteArray) (hs : s.size ≤ 9223372036854775807) (ht : t.size ≤ 9223372036854775807) (hno : T.rOk s.data.toList = false ∨ T.rOk t.data.toList = false) (w : World) :
    Calls Tryz.prog 41 #[.int .i64 op, .string s, .string t] w fun e w' => e = .returned (.tuple #[.string ⟨#[]⟩, .int .i64 2]) ∧ Below w.heap.size w w' := by
  have HF := hide (fun W => find_some op h1 h6 W)
  by_cases h : T.rOk s.data.toList = true
  · have h' : T.rOk t.data.toList = false := by
      rcases hno with e | e
      · rw [e] at h; simp at h
      · exact e
    have HP := hide (fun W => parse_yes s W hs h)
    have HN := hide (fun W => parse_no t W ht h')
    clear hno h h'
    go_enter Tryz.func41, Tryz.ntmps41
    go_wp2_with fail
    refine (HF.out _).mono ?_
    rintro e w1 ⟨f, g, rfl, hb1⟩
    have hbA := hb1.alloc hb1.size (.cells #[.int .i64 op, .func (.func f) #[] #[], .func (.func g) #[] #[]] 95)
    clear hb1
    go_wp2_with fail
    refine (HP.out _).mono ?_
    rintro e w2 ⟨x, rfl, hx, hb2⟩
    obtain ⟨b, ao, l, cap, ao', l', cap', rfl, _⟩ := hx.parts
    have hbB0 : Below w.heap.size w w2 := hbA.trans (hb2.mono hbA.size)
    have hbB := hbB0.alloc hbB0.size (.cells #[.bool b, .slice ao l cap, .slice ao' l' cap'] 103)
    clear hb2 hbA hbB0 hx
    go_wp2_with fail
    refine (HN.out _).mono ?_
    rintro e w3 ⟨c, bo, m, dap, bo', m', dap', rfl, hb3⟩
    have hbC := hbB.trans (hb3.mono hbB.size)
    go_wp2
    go_ret2
    exact ⟨rfl, hbC.alloc hbC.size _⟩
  · have h' : T.rOk s.data.toList = false := by simpa using h
    have HN := hide (fun W => parse_no s W hs h')
    clear hno h h'
    go_enter Tryz.func41, Tryz.ntmps41
    go_wp2_with fail
    refine (HF.out _).mono ?_
    rintro e w1 ⟨f, g, rfl, hb1⟩
    have hbA := hb1.alloc hb1.size (.cells #[.int .i64 op, .func (.func f) #[] #[], .func (.func g) #[] #[]] 95)
    clear hb1
    go_wp2_with fail
    refine (HN.out _).mono ?_
    rintro e w3 ⟨c, bo, m, dap, bo', m', dap', rfl, hb3⟩
    have hbC := hbA.trans (hb3.mono hbA.size)
    go_wp2
    go_ret2
    exact ⟨rfl, hbC.alloc hbC.size _⟩

/-- What Calc answers: the text, and the error's number. -/
def ansT (op : Int) (a b : List UInt8) : List UInt8 × Int :=
  if op < 1 ∨ 6 < op then ([], 1) else if T.rOk a = false ∨ T.rOk b = false then ([], 2) else T.resT op (T.rP a) (T.rP b) (T.rQ a) (T.rQ b)

theorem planesCalc_all (op : Int) (s t : ByteArray) (hs : s.size ≤ 9223372036854775807) (ht : t.size ≤ 9223372036854775807) (w : World) (hg : Gl w) :
    Calls Tryz.prog 18 #[.int .i64 op, .string s, .string t] w fun e w' => e = .returned (.tuple #[.string ⟨(ansT op s.data.toList t.data.toList).1.toArray⟩, .int .i64 (ansT op s.data.toList t.data.toList).2]) ∧ Below w.heap.size w w' := by
  unfold ansT
  by_cases h : op < 1 ∨ 6 < op
  · rw [if_pos h]
    exact planesCalc_of _ _ _ _ _ _ (calc_none op h s t w)
  · rw [if_neg h]
    by_cases hno : T.rOk s.data.toList = false ∨ T.rOk t.data.toList = false
    · rw [if_pos hno]
      exact planesCalc_of _ _ _ _ _ _ (calc_unread op (by omega) (by omega) s t hs ht hno w)
    · rw [if_neg hno]
      have h1 : T.rOk s.data.toList = true := by
        cases e : T.rOk s.data.toList with
        | true => rfl
        | false => exact absurd (Or.inl e) hno
      have h2 : T.rOk t.data.toList = true := by
        cases e : T.rOk t.data.toList with
        | true => rfl
        | false => exact absurd (Or.inr e) hno
      have p1 : ParseOK s (T.rP s.data.toList) (T.rQ s.data.toList) := fun W _ => parse_yes s W hs h1
      have p2 : ParseOK t (T.rP t.data.toList) (T.rQ t.data.toList) := fun W _ => parse_yes t W ht h2
      obtain ⟨a1, a2, a3⟩ := T.r_bd h1
      obtain ⟨b1, b2, b3⟩ := T.r_bd h2
      generalize T.rP s.data.toList = p at *
      generalize T.rP t.data.toList = r at *
      generalize T.rQ s.data.toList = q at *
      generalize T.rQ t.data.toList = u at *
      have hops : op = 1 ∨ op = 2 ∨ op = 3 ∨ op = 4 ∨ op = 5 ∨ op = 6 := by omega
      rcases hops with rfl | rfl | rfl | rfl | rfl | rfl
      · have e : T.resT 1 p r q u = (lowText (p * u + r * q) (q * u), 0) := by rw [T.resT, if_pos rfl]
        rw [e]
        exact calcN_plus s t p r q u p1 p2 a1 b1 a2 b2 w hg
      · have e : T.resT 2 p r q u = (lowText (p * u + (-r) * q) (q * u), 0) := by rw [T.resT, if_neg (by omega), if_pos rfl]
        rw [e]
        exact calcN_minus s t p r q u p1 p2 a1 b1 a2 b2 w hg
      · have e : T.resT 3 p r q u = (lowText (p * r) (q * u), 0) := by rw [T.resT, if_neg (by omega), if_neg (by omega), if_pos rfl]
        rw [e]
        exact calcN_times s t p r q u p1 p2 a1 b1 a2 b2 w hg
      · by_cases hr0 : r = 0
        · have e : T.resT 4 p r q u = ([], 3) := by rw [T.resT, if_neg (by omega), if_neg (by omega), if_neg (by omega), if_pos rfl, if_pos hr0]
          rw [e]
          subst hr0
          exact planesCalc_of _ _ _ _ _ _ (calc_zero w s t p q u hg p1 p2)
        · have e : T.resT 4 p r q u = (lowText (p * u * r.sign) (q * r.natAbs), 0) := by rw [T.resT, if_neg (by omega), if_neg (by omega), if_neg (by omega), if_pos rfl, if_neg hr0]
          rw [e]
          exact calcN_over s t p r q u p1 p2 a1 b1 a2 b2 hr0 w hg
      · have e : T.resT 5 p r q u = (Lib.itoa (p / (q : Int)), 0) := by rw [T.resT, if_neg (by omega), if_neg (by omega), if_neg (by omega), if_neg (by omega), if_pos rfl]
        rw [e]
        exact calcN_floor s t p r q u p1 p2 a1 a2 w hg
      · have e : T.resT 6 p r q u = (Lib.itoa (if p * (u : Int) < r * (q : Int) then 1 else 0), 0) := by rw [T.resT, if_neg (by omega), if_neg (by omega), if_neg (by omega), if_neg (by omega), if_neg (by omega)]
        rw [e]
        exact calcN_less s t p r q u p1 p2 a1 b1 a2 b2 w hg

theorem refCalc_all (op : Int) (s t : ByteArray) (hs : s.size ≤ 9223372036854775807) (ht : t.size ≤ 9223372036854775807) (w : World) :
    Calls Tryz.prog 63 #[.int .i64 op, .string s, .string t] w fun e w' => e = .returned (.tuple #[.string ⟨(ansT op s.data.toList t.data.toList).1.toArray⟩, .int .i64 (ansT op s.data.toList t.data.toList).2]) ∧ Below w.heap.size w w' := by
  unfold ansT
  by_cases h : op < 1 ∨ 6 < op
  · rw [if_pos h]
    refine (T.rcalc_op op s t w h).mono ?_
    rintro e w' ⟨rfl, rfl⟩
    exact ⟨rfl, Below.refl _ _⟩
  · rw [if_neg h]
    by_cases hno : T.rOk s.data.toList = false ∨ T.rOk t.data.toList = false
    · rw [if_pos hno]
      exact T.rcalc_num op s t w hs ht (by omega) (by omega) hno
    · rw [if_neg hno]
      refine T.rcalc_yes op s t w hs ht (by omega) (by omega) ?_ ?_
      · cases e : T.rOk s.data.toList with
        | true => rfl
        | false => exact absurd (Or.inl e) hno
      · cases e : T.rOk t.data.toList with
        | true => rfl
        | false => exact absurd (Or.inr e) hno
end Go.Proofs.YtnhfdcfnojnofaaGreatDoor

/-
  What the law's Calcs does (package planeslaw).
-/
namespace Go.Proofs.YtnhfdcfnojnofaaGreatDoor
open Go.RowKit

set_option maxHeartbeats 1000000 in
set_option maxRecDepth 100000 in
theorem lawcalc_any (k a b : Int) (s t : ByteArray) (lo : Option Addr) (ll lc : Nat) (hs : s.size ≤ 9223372036854775807) (ht : t.size ≤ 9223372036854775807) (w : World) (hg : Gl w) :
    Calls Tryz.prog 50 #[.agg #[.int .i64 k, .int .i64 a, .int .i64 b, .string s, .string t, .slice lo ll lc]] w fun e w' => e = .returned (.bool true) ∧ Below w.heap.size w w' := by
  have HP := hide (fun W hW => planesCalc_all a s t hs ht W hW)
  have HR := hide (fun W => refCalc_all a s t hs ht W)
  generalize ansT a s.data.toList t.data.toList = r at *
  obtain ⟨r1, r2⟩ := r
  simp only at HP HR
  have hbW : Below w.heap.size w (w.alloc (.cells #[.int .i64 k, .int .i64 a, .int .i64 b, .string s, .string t, .slice lo ll lc] 75)) := (Below.refl _ _).alloc (Nat.le_refl _) _
  have hgW := hg.below hbW
  go_enter Tryz.func50, Tryz.ntmps50
  go_wp2_with fail
  refine (HP.out _ hgW).mono ?_
  rintro e w1 ⟨rfl, hb1⟩
  have hc := bcell hb1
  have hbl1 := hbW.trans (hb1.mono hbW.size)
  have e1 : w1.cell? ⟨w.heap.size, 1, none⟩ = some (.int .i64 a) := by rw [hc.1 _ _ (by simp)]; simp
  have e3 : w1.cell? ⟨w.heap.size, 3, none⟩ = some (.string s) := by rw [hc.1 _ _ (by simp)]; simp
  have e4 : w1.cell? ⟨w.heap.size, 4, none⟩ = some (.string t) := by rw [hc.1 _ _ (by simp)]; simp
  clear hb1 hc hbW hgW
  generalize ByteArray.mk r1.toArray = rr at *
  go_wp2_with fail
  refine (HR.out _).mono ?_
  rintro e w2 ⟨rfl, hb2⟩
  go_wp2
  go_ret
  exact ⟨rfl, hbl1.trans (hb2.mono hbl1.size)⟩

set_option maxHeartbeats 1000000 in
set_option maxRecDepth 100000 in
theorem step_one (p : Value) (a b : Int) (s t : ByteArray) (lo : Option Addr) (ll lc : Nat) (hs : s.size ≤ 9223372036854775807) (ht : t.size ≤ 9223372036854775807) (w : World) (hg : Gl w) :
    Calls Tryz.prog 39 #[p, .agg #[.int .i64 1, .int .i64 a, .int .i64 b, .string s, .string t, .slice lo ll lc]] w fun e w' => e = .returned (.bool true) ∧ Below w.heap.size w w' := by
  have hbW : Below w.heap.size w (w.alloc (.cells #[.int .i64 1, .int .i64 a, .int .i64 b, .string s, .string t, .slice lo ll lc] 75)) := (Below.refl _ _).alloc (Nat.le_refl _) _
  have hgW := hg.below hbW
  go_enter Tryz.func39, Tryz.ntmps39
  go_wp2_with fail
  refine (lawcalc_any 1 a b s t lo ll lc hs ht _ hgW).mono ?_
  rintro e w1 ⟨rfl, hb1⟩
  go_wp2
  go_ret
  exact ⟨rfl, hbW.trans (hb1.mono hbW.size)⟩

set_option maxHeartbeats 1000000 in
set_option maxRecDepth 100000 in
theorem looks_none (g : Nat) (w : World) (h : w.cell? ⟨g, 1, none⟩ = some (.slice none 0 0)) :
    Calls Tryz.prog 40 #[.pointer (some ⟨g, 1, none⟩)] w fun e w' => e = .returned (.bool true) ∧ w' = w := by
  go_enter Tryz.func40, Tryz.ntmps40
  go_wp2
  go_loop [3] (fun v => v = .int .i64 0) (fun v => (intOf v).toNat)
  case atStart => rfl
  case round =>
    subst hrel
    go_wp2
    go_ret
    exact ⟨rfl, rfl⟩

/-- The cells of a script's step. -/
def StepAt (w : World) (b off : Nat) : Prop :=
  ∃ (k a c : Int) (s t : ByteArray) (lo : Option Addr) (ll lc : Nat), s.size ≤ 9223372036854775807 ∧ t.size ≤ 9223372036854775807 ∧
    w.cell? ⟨b, off, none⟩ = some (.int .i64 k) ∧ w.cell? ⟨b, off + 1, none⟩ = some (.int .i64 a) ∧ w.cell? ⟨b, off + 2, none⟩ = some (.int .i64 c) ∧ w.cell? ⟨b, off + 3, none⟩ = some (.string s) ∧ w.cell? ⟨b, off + 4, none⟩ = some (.string t) ∧ w.cell? ⟨b, off + 5, none⟩ = some (.slice lo ll lc)

theorem StepAt.below {w w' : World} {b off B : Nat} (h : StepAt w b off) (hb : Below B w w') (hB : b < B) : StepAt w' b off := by
  obtain ⟨k, a, c, s, t, lo, ll, lc, h1, h2, c0, c1, c2, c3, c4, c5⟩ := h
  exact ⟨k, a, c, s, t, lo, ll, lc, h1, h2, (hb.cell (p := ⟨b, off, none⟩) hB).trans c0, (hb.cell (p := ⟨b, off + 1, none⟩) hB).trans c1, (hb.cell (p := ⟨b, off + 2, none⟩) hB).trans c2, (hb.cell (p := ⟨b, off + 3, none⟩) hB).trans c3, (hb.cell (p := ⟨b, off + 4, none⟩) hB).trans c4, (hb.cell (p := ⟨b, off + 5, none⟩) hB).trans c5⟩

set_option maxHeartbeats 2000000 in
set_option maxRecDepth 100000 in
theorem plays_any (ao : Option Addr) (n cap : Nat) (hn : n ≤ 9223372036854775807) (w : World) (hg : Gl w) (hsc : 0 < n → ∃ b off, ao = some ⟨b, off, none⟩ ∧ b < w.heap.size ∧ ∀ i, i < n → StepAt w b (off + i * 6)) :
    Calls Tryz.prog 15 #[.slice ao n cap, .int .i64 1, .int .i64 1] w fun e w' => e = .returned (.bool true) ∧ Below w.heap.size w w' := by
  have hbox : Box2 (w.alloc (.cells #[.string ⟨#[]⟩, .slice none 0 0] 73)) w.heap.size (.string ⟨#[]⟩) (.slice none 0 0) := Box2.new _ _ _ _
  have hbW : Below w.heap.size w (w.alloc (.cells #[.string ⟨#[]⟩, .slice none 0 0] 73)) := (Below.refl _ _).alloc (Nat.le_refl _) _
  go_enter Tryz.func15, Tryz.ntmps15
  go_wp2
  go_loopw [8] (fun iv wr => ∃ i : Nat, i ≤ n ∧ iv = .int .i64 (i : Nat) ∧ Box2 wr w.heap.size (.string ⟨#[]⟩) (.slice none 0 0) ∧ Below w.heap.size w wr) (fun iv _ => ((n : Int) - intOf iv).toNat)
  case atStart => exact ⟨0, by omega, rfl, hbox, hbW⟩
  case round =>
    obtain ⟨i, hi, rfl, hbx, hbel⟩ := hrel
    have hgr := hg.below hbel
    by_cases hin : i < n
    · obtain ⟨b, off, rfl, hb, hst⟩ := hsc (by omega)
      obtain ⟨k, a, c, s, t, lo, ll, lc, hs, ht, c0, c1, c2, c3, c4, c5⟩ := (hst i hin).below hbel hb
      have hbx' := hbx
      obtain ⟨d0, d1, d2, d3, d4⟩ := hbx'
      by_cases hk : k = 1
      · subst hk
        go_wp2_with fail
        refine (step_one _ a c s t lo ll lc hs ht _ hgr).mono ?_
        rintro e w1 ⟨rfl, hb1⟩
        have hbx1 := hbx.below hb1
        have hbel1 := hbel.trans (hb1.mono hbel.size)
        clear d0 d1 d2 d3 d4 hb1 c0 c1 c2 c3 c4 c5
        have hbx2 := hbx1
        obtain ⟨d0, d1, d2, d3, d4⟩ := hbx2
        go_wp2_with fail
        refine (looks_none w.heap.size w1 d1).mono ?_
        rintro e w2 ⟨rfl, rfl⟩
        go_wp2
        go_roundw
        case rel => exact ⟨i + 1, by omega, by go_num, hbx1, hbel1⟩
        case measure => simp [intOf]; omega
      · by_cases hk1 : k < 1
        · go_wp2
          go_roundw
          case rel => exact ⟨i + 1, by omega, by go_num, hbx, hbel⟩
          case measure => simp [intOf]; omega
        · have hk2 : 1 < k := by omega
          go_wp2
          go_roundw
          case rel => exact ⟨i + 1, by omega, by go_num, hbx, hbel⟩
          case measure => simp [intOf]; omega
    · go_wp2
      go_ret
      exact ⟨rfl, hbel⟩

set_option maxHeartbeats 400000 in
theorem calcs_any (ao : Option Addr) (n cap : Nat) (hn : n ≤ 9223372036854775807) (w : World) (hg : Gl w) (hsc : 0 < n → ∃ b off, ao = some ⟨b, off, none⟩ ∧ b < w.heap.size ∧ ∀ i, i < n → StepAt w b (off + i * 6)) :
    Calls Tryz.prog 3 #[.slice ao n cap] w fun e w' => e = .returned (.bool true) ∧ Below w.heap.size w w' := by
  go_enter Tryz.func3, Tryz.ntmps3
  go_wp2_with fail
  refine (plays_any ao n cap hn w hg hsc).mono ?_
  rintro e w1 ⟨rfl, hb1⟩
  go_wp2
  go_ret
  exact ⟨rfl, hb1⟩
end Go.Proofs.YtnhfdcfnojnofaaGreatDoor
