/-
  What the keeper's calc does with whole numbers' texts.
-/
import Derived.Test.YtcmdglfjnepahaaGreatDoorPla6
import Derived.Test.YtcmdglfjnepahaaGreatDoorPla5
set_option linter.unusedSimpArgs false
set_option linter.unusedVariables false
namespace Go.Proofs.YtcmdglfjnepahaaGreatDoor
open Go.RowKit

theorem u8_back {c : UInt8} (h : 48 ≤ c.toNat) : UInt8.ofNat (48 + (c.toNat - 48)) = c := by
  rw [show 48 + (c.toNat - 48) = c.toNat by omega]
  exact UInt8.ofNat_toNat

theorem dec_of (k : Nat) : ∀ l : List UInt8, l.length = k + 1 → allDig l = true → l.head? ≠ some 48 → decVal l ≠ 0 ∧ Lib.decDigits (decVal l) = l := by
  induction k with
  | zero =>
    intro l hl hd hh
    obtain ⟨c, rfl⟩ := List.length_eq_one_iff.1 hl
    have hb := isDig_bd (c := c) (by simpa [allDig] using hd)
    have hc : c.toNat ≠ 48 := by
      intro h
      exact hh (by rw [List.head?_cons]; exact congrArg some (UInt8.toNat.inj h))
    have e : decVal [c] = c.toNat - 48 := by simp [decVal]
    rw [e]
    refine ⟨by omega, ?_⟩
    rw [Lib.decDigits, dif_pos (by omega), u8_back hb.1]
  | succ k ih =>
    intro l hl hd hh
    have hne : l ≠ [] := by rintro rfl; simp at hl
    obtain ⟨l', c, rfl⟩ : ∃ l' c, l = l' ++ [c] := ⟨l.dropLast, l.getLast hne, (List.dropLast_concat_getLast hne).symm⟩
    have hl' : l'.length = k + 1 := by simpa using hl
    rw [allDig_append] at hd
    simp only [Bool.and_eq_true] at hd
    have hh' : l'.head? ≠ some 48 := by
      intro h
      apply hh
      cases l' with
      | nil => simp at hl'
      | cons a r => simpa using h
    obtain ⟨h0, h1⟩ := ih l' hl' hd.1 hh'
    have hb := isDig_bd (c := c) (by simpa [allDig] using hd.2)
    rw [decVal_snoc]
    refine ⟨by omega, ?_⟩
    rw [Lib.decDigits, dif_neg (by omega), show (decVal l' * 10 + (c.toNat - 48)) / 10 = decVal l' by omega, show (decVal l' * 10 + (c.toNat - 48)) % 10 = c.toNat - 48 by omega, h1, u8_back hb.1]

/-- What the keeper makes of raw bytes: a digit of each; a 7 ahead of none, or of a nought. -/
def digT (l : List UInt8) : List UInt8 := if l = [] ∨ l.head? = some 48 then 55 :: l else l

theorem digT_dec {l : List UInt8} (h : allDig l = true) : ∃ n, digT l = Lib.decDigits n ∧ n ≠ 0 ∧ n < 10 ^ (l.length + 1) := by
  have h7 : allDig (55 :: l) = true := by
    have : allDig ([55] ++ l) = true := by rw [allDig_append, h]; decide
    exact this
  unfold digT
  split
  · have h1 := dec_of l.length (55 :: l) (by simp) h7 (by simp)
    exact ⟨decVal (55 :: l), h1.2.symm, h1.1, by have := decVal_lt h7; simpa using this⟩
  · rename_i hn
    rw [not_or] at hn
    have hp : 0 < l.length := List.length_pos_iff.2 hn.1
    have h1 := dec_of (l.length - 1) l (by omega) h hn.2
    refine ⟨decVal l, h1.2.symm, h1.1, Nat.lt_trans (decVal_lt h) ?_⟩
    exact Nat.pow_lt_pow_right (by omega) (by omega)

/-- The text of a whole number. -/
def wT (z : Int) : ByteArray := ⟨(Lib.itoa z).toArray⟩

/-- The keeper's calc answers so. -/
def KC (op : Int) (s t r : ByteArray) : Prop := ∀ W, Gl W → Calls Tryz.prog 13 #[.int .i64 op, .string s, .string t] W fun e w' => e = .returned (.string r) ∧ Below W.heap.size W w'

set_option maxHeartbeats 400000 in
theorem kc_of {op : Int} {s t r : ByteArray} (h : ∀ W, Gl W → Calls Tryz.prog 9 #[.int .i64 op, .string s, .string t] W fun e w' => e = .returned (.tuple #[.string r, .int .i64 0]) ∧ Below W.heap.size W w') : KC op s t r := by
  intro w hg
  have H := hide h
  go_enter Tryz.func13, Tryz.ntmps13
  go_wp2_with fail
  refine (H.out _ hg).mono ?_
  rintro e w1 ⟨rfl, hb1⟩
  go_wp2
  go_ret
  exact ⟨rfl, hb1⟩

theorem low_one (X : Int) : lowText X 1 = Lib.itoa X := by
  rw [lowText_eq, Nat.gcd_one_right]
  simp [fracText]

theorem parse_wT (z : Int) (h : z.natAbs < 10 ^ 40) : ParseOK (wT z) z 1 := by
  have := parseOK_text z 1 (by omega) (Nat.gcd_one_right _) h (by decide)
  rwa [fracText, if_pos rfl] at this

theorem one40 : 1 < 10 ^ 40 := by decide

theorem kc_plus (x y : Int) (hx : x.natAbs < 10 ^ 40) (hy : y.natAbs < 10 ^ 40) : KC 1 (wT x) (wT y) (wT (x + y)) := by
  refine kc_of fun W hg => ?_
  have h := calcN_plus _ _ _ _ _ _ (parse_wT x hx) (parse_wT y hy) hx hy one40 one40 W hg
  simp only [Int.natCast_one, Int.mul_one, Nat.mul_one, low_one] at h
  exact h

theorem kc_minus (x y : Int) (hx : x.natAbs < 10 ^ 40) (hy : y.natAbs < 10 ^ 40) : KC 2 (wT x) (wT y) (wT (x - y)) := by
  refine kc_of fun W hg => ?_
  have h := calcN_minus _ _ _ _ _ _ (parse_wT x hx) (parse_wT y hy) hx hy one40 one40 W hg
  simp only [Int.natCast_one, Int.mul_one, Nat.mul_one, low_one] at h
  exact h

theorem kc_times (x y : Int) (hx : x.natAbs < 10 ^ 40) (hy : y.natAbs < 10 ^ 40) : KC 3 (wT x) (wT y) (wT (x * y)) := by
  refine kc_of fun W hg => ?_
  have h := calcN_times _ _ _ _ _ _ (parse_wT x hx) (parse_wT y hy) hx hy one40 one40 W hg
  simp only [Nat.mul_one, low_one] at h
  exact h

theorem kc_over (x : Int) (y : Nat) (hx : x.natAbs < 10 ^ 40) (hy : y < 10 ^ 40) (h0 : y ≠ 0) : KC 4 (wT x) (wT y) ⟨(lowText x y).toArray⟩ := by
  refine kc_of fun W hg => ?_
  have h := calcN_over _ _ _ _ _ _ (parse_wT x hx) (parse_wT (y : Int) (by simpa using hy)) hx (by simpa using hy) one40 one40 (by omega) W hg
  rw [Int.sign_eq_one_of_pos (by omega)] at h
  simp only [Int.natCast_one, Int.mul_one, Nat.one_mul, Int.natAbs_natCast] at h
  exact h

theorem kc_back (x : Int) (y : Nat) (hx : (x * (y : Int)).natAbs < 10 ^ 40) (hy : y < 10 ^ 40) (h0 : y ≠ 0) : KC 4 (wT (x * (y : Int))) (wT y) (wT x) := by
  have h := kc_over (x * (y : Int)) y hx hy h0
  rw [← lowText_scale y (Nat.pos_of_ne_zero h0) x (x * (y : Int)) 1 y (Int.mul_comm _ _) (Nat.mul_one _).symm, Nat.gcd_one_right] at h
  simpa [fracText, wT] using h

theorem kc_floor (x : Int) (y : Nat) (hx : x.natAbs < 10 ^ 40) (hy : y < 10 ^ 40) (h0 : y ≠ 0) : KC 5 ⟨(lowText x y).toArray⟩ (wT 0) (wT (x / (y : Int))) := by
  refine kc_of fun W hg => ?_
  obtain ⟨k, p, q, hk, hap, hbq, hq0, e1, e2, hpa, hqb⟩ := frac_parts x y h0
  have hc : Nat.gcd p.natAbs q = 1 := by
    rw [← e1, ← e2]
    have hg0 : 0 < Nat.gcd x.natAbs y := Nat.gcd_pos_of_pos_right _ (Nat.pos_of_ne_zero h0)
    have e : (x / (Nat.gcd x.natAbs y : Int)).natAbs = x.natAbs / Nat.gcd x.natAbs y := by
      rw [Int.natAbs_ediv_of_dvd (Int.ofNat_dvd_left.2 (Nat.gcd_dvd_left _ _)), Int.natAbs_natCast]
    rw [e]
    exact Nat.gcd_div_gcd_div_gcd_of_pos_right (Nat.pos_of_ne_zero h0)
  rw [lowText_eq, e1, e2]
  have hp := parseOK_text p q hq0 hc (Nat.lt_of_le_of_lt hpa hx) (Nat.lt_of_le_of_lt hqb hy)
  have h := calcN_floor _ _ _ _ _ _ hp (parse_wT 0 (by decide)) (Nat.lt_of_le_of_lt hpa hx) (Nat.lt_of_le_of_lt hqb hy) W hg
  have e : x / (y : Int) = p / (q : Int) := by rw [hap, hbq, Int.natCast_mul, Int.mul_ediv_mul_of_pos _ _ (by omega)]
  rw [e]
  exact h

theorem kc_less (x y : Int) (hx : x.natAbs < 10 ^ 40) (hy : y.natAbs < 10 ^ 40) : KC 6 (wT x) (wT y) (wT (if x < y then 1 else 0)) := by
  refine kc_of fun W hg => ?_
  have h := calcN_less _ _ _ _ _ _ (parse_wT x hx) (parse_wT y hy) hx hy one40 one40 W hg
  simp only [Int.natCast_one, Int.mul_one] at h
  exact h

theorem wT_zero : wT 0 = ⟨#[48]⟩ := by decide +kernel
theorem wT_one : wT 1 = ⟨#[49]⟩ := by decide +kernel
theorem wT_ten : wT 10 = ⟨#[49, 48]⟩ := by decide +kernel

theorem wT_pow (i : Nat) : (wT ((10 ^ (i + 1) : Nat) : Int)) = wT ((10 ^ i : Nat) : Int) ++ ⟨#[48]⟩ := by
  have hp : 0 < 10 ^ i := Nat.pow_pos (by omega)
  have e : Lib.decDigits (10 ^ (i + 1)) = Lib.decDigits (10 ^ i) ++ [48] := by
    rw [Nat.pow_succ]
    generalize 10 ^ i = X at *
    rw [Lib.decDigits, dif_neg (by omega), show X * 10 / 10 = X by omega, show X * 10 % 10 = 0 by omega]
    rfl
  unfold wT
  rw [itoa_nat, itoa_nat, e]
  exact (ba_append _ [48]).symm

theorem wT_size (z : Int) (h : z.natAbs < 10 ^ 40) : (wT z).size ≤ 41 := by
  have hl1 := dec_len_le 40 _ h (by omega)
  unfold wT
  rw [size_mk, Lib.itoa]
  split
  · simp; omega
  · rw [show z.toNat = z.natAbs by omega]; omega

theorem wT_ne (z : Int) : 0 < (wT z).size := by
  unfold wT
  rw [size_mk, Lib.itoa]
  split
  · simp
  · exact dec_pos _
end Go.Proofs.YtcmdglfjnepahaaGreatDoor
