/-
  What the keeper's Long does.
-/
import Derived.Test.YtcmdglfjnepahaaGreatDoorKee5
import Derived.Test.YtcmdglfjnepahaaGreatDoorKee3
set_option linter.unusedSimpArgs false
set_option linter.unusedVariables false
namespace Go.Proofs.YtcmdglfjnepahaaGreatDoor
open Go.RowKit

theorem mulp {x y m n : Nat} (hx : x < 10 ^ m) (hy : y < 10 ^ n) : x * y < 10 ^ (m + n) := by
  rw [Nat.pow_add]; exact Nat.mul_lt_mul'' hx hy

theorem long_facts (a : Int) (b c : Nat) (ha : a.natAbs < 10 ^ 19) (hb : b < 10 ^ 13) (hc : c < 10 ^ 7) (hb0 : b ≠ 0) :
    ∃ sab sac sbc X Y sq sw swb sr : ByteArray,
      KC 3 (wT a) (wT b) sab ∧ KC 3 (wT a) (wT c) sac ∧ KC 1 (wT b) (wT c) sbc ∧ KC 3 (wT a) sbc X ∧ KC 1 sab sac X ∧ KC 3 (wT b) (wT a) sab ∧ KC 4 sab (wT b) (wT a) ∧ KC 1 (wT b) (wT a) Y ∧ KC 1 (wT a) (wT b) Y ∧
      KC 4 (wT a) (wT b) sq ∧ KC 5 sq ⟨#[48]⟩ sw ∧ KC 3 sw (wT b) swb ∧ KC 2 (wT a) swb sr ∧ KC 6 sr ⟨#[48]⟩ ⟨#[48]⟩ ∧ KC 6 sr (wT b) ⟨#[49]⟩ ∧ KC 2 (wT a) sr swb ∧ sab.toList.isEmpty = false := by
  have h1 : (a * (b : Int)).natAbs < 10 ^ 32 := by rw [Int.natAbs_mul, Int.natAbs_natCast]; exact mulp ha hb
  have h2 : (a * (c : Int)).natAbs < 10 ^ 26 := by rw [Int.natAbs_mul, Int.natAbs_natCast]; exact mulp ha hc
  have h3 : a / (b : Int) * (b : Int) = a - a % (b : Int) := by
    have := Int.mul_ediv_add_emod a (b : Int)
    rw [Int.mul_comm] at this
    omega
  have h4 : 0 ≤ a % (b : Int) := Int.emod_nonneg _ (by omega)
  have h5 : a % (b : Int) < b := Int.emod_lt_of_pos _ (by omega)
  have h6 : (a / (b : Int)).natAbs ≤ a.natAbs := Int.natAbs_ediv_le_natAbs _ _
  refine ⟨wT (a * b), wT (a * c), wT (b + c), wT (a * b + a * c), wT (a + b), ⟨(lowText a b).toArray⟩, wT (a / b), wT (a / b * b), wT (a % b), kc_times _ _ (by omega) (by omega), kc_times _ _ (by omega) (by omega), kc_plus _ _ (by omega) (by omega), ?_, kc_plus _ _ (by omega) (by omega), ?_, kc_back _ _ (by omega) (by omega) hb0, ?_, kc_plus _ _ (by omega) (by omega), kc_over _ _ (by omega) (by omega) hb0, ?_, kc_times _ _ (by omega) (by omega), ?_, ?_, ?_, ?_, ?_⟩
  · rw [← Int.mul_add]; exact kc_times _ _ (by omega) (by omega)
  · rw [Int.mul_comm]; exact kc_times _ _ (by omega) (by omega)
  · rw [Int.add_comm]; exact kc_plus _ _ (by omega) (by omega)
  · have h := kc_floor a b (by omega) (by omega) hb0
    rwa [wT_zero] at h
  · rw [h3]
    have h := kc_minus a (a - a % b) (by omega) (by omega)
    rwa [show a - (a - a % (b : Int)) = a % (b : Int) by omega] at h
  · have h := kc_less (a % b) 0 (by omega) (by decide)
    rwa [if_neg (by omega), wT_zero] at h
  · have h := kc_less (a % b) b (by omega) (by omega)
    rwa [if_pos (by omega), wT_one] at h
  · rw [h3]; exact kc_minus _ _ (by omega) (by omega)
  · exact empty_no (fun e => by have := wT_ne (a * b); rw [e] at this; exact absurd this (by decide))

theorem pow30 {k : Nat} (h : k ≤ 30) : ((10 ^ k : Nat) : Int).natAbs < 10 ^ 40 := by
  rw [Int.natAbs_natCast]
  exact Nat.pow_lt_pow_right (by omega) (by omega)

theorem kc_ten (k : Nat) (h : k ≤ 30) : KC 3 (wT ((10 ^ k : Nat) : Int)) ⟨#[49, 48]⟩ (wT ((10 ^ (k + 1) : Nat) : Int)) := by
  have h1 := kc_times ((10 ^ k : Nat) : Int) 10 (pow30 h) (by decide)
  rw [wT_ten] at h1
  rw [Nat.pow_succ, Int.natCast_mul]
  exact h1

theorem wT_neg (A : Nat) (hA : A ≠ 0) : (⟨#[45]⟩ : ByteArray) ++ wT A = wT (-(A : Int)) := by
  unfold wT
  rw [itoa_nat, Lib.itoa, if_pos (by omega), show (-(A : Int)).natAbs = A by omega]
  exact ba_append [45] _

set_option maxHeartbeats 4000000 in
set_option maxRecDepth 100000 in
theorem long_any (p q r : ByteArray) (neg : Bool) (n : Int) (hp : p.size ≤ 9223372036854775807) (hq : q.size ≤ 9223372036854775807) (hr : r.size ≤ 9223372036854775807) (hn0 : -9223372036854775808 ≤ n) (hn1 : n ≤ 9223372036854775807) (w : World) (hg : Gl w) :
    Calls Tryz.prog 5 #[.string p, .string q, .string r, .bool neg, .int .i64 n] w fun e w' => e = .returned (.bool true) ∧ Below w.heap.size w w' := by
  obtain ⟨N, hN, hpick⟩ : ∃ N : Nat, N < 30 ∧ ∀ W, Calls Tryz.prog 7 #[.int .i64 n, .int .i64 30] W fun e w' => e = .returned (.int .i64 (N : Nat)) ∧ w' = W := by
    have hb := pickZ_bd n (n := 30) (by omega)
    refine ⟨(pickZ n 30).toNat, by omega, fun W => ?_⟩
    rw [Int.toNat_of_nonneg hb.1]
    exact pick_any n 30 hn0 hn1 (by omega) (by omega) W
  have HPK := hide hpick
  clear hpick
  go_enter Tryz.func5, Tryz.ntmps5
  go_wp2_with fail
  refine (digits_any p 18 (by omega) hp _).mono ?_
  rintro e w1 ⟨A, rfl, hA0, hA, hb1⟩
  go_wp2_with fail
  refine (digits_any q 12 (by omega) hq _).mono ?_
  rintro e w2 ⟨B, rfl, hB0, hB, hb2⟩
  have hb2' := hb1.trans (hb2.mono hb1.size)
  clear hb1 hb2
  go_wp2_with fail
  refine (digits_any r 6 (by omega) hr _).mono ?_
  rintro e w3 ⟨C, rfl, hC0, hC, hb3⟩
  have hb3' := hb2'.trans (hb3.mono hb2'.size)
  clear hb2' hb3
  have hszA := wT_size (A : Int) (by rw [Int.natAbs_natCast]; exact Nat.lt_trans hA (by decide))
  have HNG := hide (wT_neg A hA0)
  have HA := hide hA
  have HB := hide hB
  have HC := hide hC
  have HB0 := hide hB0
  clear hA hB hC hB0 hA0 hC0 hp hq hr hn0 hn1
  go_upto_if 31 with fail
  go_cut [11] (fun v wc => ∃ a : Int, v = .string (wT a) ∧ Hid (a.natAbs = A) ∧ w3 = wc)
  case first =>
    cases neg with
    | true =>
      generalize wT (A : Int) = sA at *
      go_wp2_with fail
      all_goals go_meet
      all_goals exact ⟨-(A : Int), by rw [HNG.out], by rw [Hid]; omega, rfl⟩
    | false =>
      go_wp2_with fail
      all_goals go_meet
      all_goals exact ⟨(A : Int), rfl, by rw [Hid]; omega, rfl⟩
  case rest =>
    obtain ⟨a, rfl, haA, rfl⟩ := hcut
    have hane : (wT a).toList.isEmpty = false := empty_no (fun e => by have := wT_ne a; rw [e] at this; exact absurd this (by decide))
    obtain ⟨sab, sac, sbc, X, Y, sq, sw, swb, sr, k1, k2, k3, k4, k5, k6, k7, k8, k9, k10, k11, k12, k13, k14, k15, k16, habne⟩ := long_facts a B C (by rw [haA.out]; exact HA.out) HB.out HC.out HB0.out
    generalize wT a = sa at *
    generalize wT (B : Int) = sb at *
    generalize wT (C : Int) = sc at *
    generalize wT (A : Int) = sA0 at *
    have hg3 := hg.below hb3'
    clear haA HA HB HC HB0 HNG hszA
    go_wp2_with fail
    refine (k1 _ hg3).mono ?_
    rintro e w4 ⟨rfl, hb4⟩
    have hb4' := hb3'.trans (hb4.mono hb3'.size)
    have hg4 := hg.below hb4'
    clear hb3' hb4 hg3
    go_wp2_with fail
    refine (k2 _ hg4).mono ?_
    rintro e w5 ⟨rfl, hb5⟩
    have hb5' := hb4'.trans (hb5.mono hb4'.size)
    have hg5 := hg.below hb5'
    clear hb4' hb5 hg4
    go_wp2_with fail
    refine (k3 _ hg5).mono ?_
    rintro e w6 ⟨rfl, hb6⟩
    have hb6' := hb5'.trans (hb6.mono hb5'.size)
    have hg6 := hg.below hb6'
    clear hb5' hb6 hg5
    go_wp2_with fail
    refine (k4 _ hg6).mono ?_
    rintro e w7 ⟨rfl, hb7⟩
    have hb7' := hb6'.trans (hb7.mono hb6'.size)
    have hg7 := hg.below hb7'
    clear hb6' hb7 hg6
    go_wp2_with fail
    refine (k5 _ hg7).mono ?_
    rintro e w8 ⟨rfl, hb8⟩
    have hb8' := hb7'.trans (hb8.mono hb7'.size)
    have hg8 := hg.below hb8'
    clear hb7' hb8 hg7
    go_wp2_with fail
    refine (k6 _ hg8).mono ?_
    rintro e w9 ⟨rfl, hb9⟩
    have hb9' := hb8'.trans (hb9.mono hb8'.size)
    have hg9 := hg.below hb9'
    clear hb8' hb9 hg8
    go_wp2_with fail
    refine (k7 _ hg9).mono ?_
    rintro e wa ⟨rfl, hba⟩
    have hba' := hb9'.trans (hba.mono hb9'.size)
    have hga := hg.below hba'
    clear hb9' hba hg9
    go_wp2_with fail
    refine (k8 _ hga).mono ?_
    rintro e wb ⟨rfl, hbb⟩
    have hbb' := hba'.trans (hbb.mono hba'.size)
    have hgb := hg.below hbb'
    clear hba' hbb hga
    go_wp2_with fail
    refine (k9 _ hgb).mono ?_
    rintro e wc ⟨rfl, hbc⟩
    have hbc' := hbb'.trans (hbc.mono hbb'.size)
    have hgc := hg.below hbc'
    clear hbb' hbc hgb
    go_wp2_with fail
    refine (k10 _ hgc).mono ?_
    rintro e wd ⟨rfl, hbd⟩
    have hbd' := hbc'.trans (hbd.mono hbc'.size)
    have hgd := hg.below hbd'
    clear hbc' hbd hgc
    go_wp2_with fail
    refine (k11 _ hgd).mono ?_
    rintro e we ⟨rfl, hbe⟩
    have hbe' := hbd'.trans (hbe.mono hbd'.size)
    have hge := hg.below hbe'
    clear hbd' hbe hgd
    go_wp2_with fail
    refine (k12 _ hge).mono ?_
    rintro e wf ⟨rfl, hbf⟩
    have hbf' := hbe'.trans (hbf.mono hbe'.size)
    have hgf := hg.below hbf'
    clear hbe' hbf hge
    go_wp2_with fail
    refine (k13 _ hgf).mono ?_
    rintro e wg ⟨rfl, hbg⟩
    have hbg' := hbf'.trans (hbg.mono hbf'.size)
    have hgg := hg.below hbg'
    clear hbf' hbg hgf
    go_wp2_with fail
    refine (k14 _ hgg).mono ?_
    rintro e wh ⟨rfl, hbh⟩
    have hbh' := hbg'.trans (hbh.mono hbg'.size)
    have hgh := hg.below hbh'
    clear hbg' hbh hgg
    go_wp2_with fail
    refine (k15 _ hgh).mono ?_
    rintro e wi ⟨rfl, hbi⟩
    have hbi' := hbh'.trans (hbi.mono hbh'.size)
    have hgi := hg.below hbi'
    clear hbh' hbi hgh
    go_wp2_with fail
    refine (k16 _ hgi).mono ?_
    rintro e wj ⟨rfl, hbj⟩
    have hbj' := hbi'.trans (hbj.mono hbi'.size)
    have hgj := hg.below hbj'
    clear hbi' hbj hgi
    go_wp2_with fail
    refine (k12 _ hgj).mono ?_
    rintro e wk ⟨rfl, hbk⟩
    have hbk' := hbj'.trans (hbk.mono hbj'.size)
    clear hbj' hbk hgj k1 k2 k3 k4 k5 k6 k7 k8 k9 k10 k11 k12 k13 k14 k15 k16
    go_wp2_with fail
    go_loopw [22, 23, 24] (fun sv tv iv wr => ∃ (k : Nat) (tB : ByteArray), k ≤ N ∧ tB.size ≤ 41 ∧ Hid (tB = wT ((10 ^ k : Nat) : Int)) ∧ sv = .string tB ∧ tv = .string tB ∧ iv = .int .i64 (k : Nat) ∧ Below w.heap.size w wr) (fun _ _ iv _ => ((N : Int) - intOf iv).toNat)
    case atStart => exact ⟨0, ⟨#[49]⟩, by omega, by decide, by rw [Hid]; exact wT_one.symm, rfl, rfl, rfl, hbk'⟩
    case round =>
      obtain ⟨k, tB, hk, hsz, HT, rfl, rfl, rfl, hb⟩ := hrel
      have hgr := hg.below hb
      go_wp2_with fail
      refine (HPK.out _).mono ?_
      rintro e wl ⟨rfl, rfl⟩
      by_cases hkN : k < N
      · have hten := kc_ten k (by omega)
        rw [← HT.out] at hten
        have hpow := wT_pow k
        rw [← HT.out] at hpow
        have HW := hide hpow
        have hsz2 := wT_size _ (pow30 (k := k + 1) (by omega))
        have HT2 : ∃ tC : ByteArray, tC = wT ((10 ^ (k + 1) : Nat) : Int) := ⟨_, rfl⟩
        obtain ⟨tC, htC⟩ := HT2
        rw [← htC] at hten HW hsz2
        have HTC := hide htC
        clear hpow htC
        go_wp2_with fail
        refine (hten _ hgr).mono ?_
        rintro e wm ⟨rfl, hbm⟩
        have hbm' := hb.trans (hbm.mono hb.size)
        clear hten
        go_wp2
        go_roundw
        case rel => exact ⟨k + 1, tC, by omega, hsz2, HTC, rfl, by rw [HW.out], by go_num, hbm'⟩
        case measure => simp [intOf]; omega
      · go_wp2
        go_ret
        exact ⟨rfl, hb⟩
end Go.Proofs.YtcmdglfjnepahaaGreatDoor
