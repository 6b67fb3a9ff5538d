/-
  Calc of two small fractions' texts, for each operation, as they are written.
-/
import Derived.Test.YtcmdglfjnepahaaGreatDoorPla4
import Derived.Test.YtcmdglfjnepahaaGreatDoorKee2
set_option linter.unusedSimpArgs false
set_option linter.unusedVariables false
namespace Go.Proofs.YtcmdglfjnepahaaGreatDoor
open Go.RowKit

theorem red_scale (k : Nat) (hk : 0 < k) (X : Int) (Y : Nat) :
    ((k : Int) * X) / (Nat.gcd ((k : Int) * X).natAbs (k * Y) : Int) = X / (Nat.gcd X.natAbs Y : Int) ∧ (k * Y) / Nat.gcd ((k : Int) * X).natAbs (k * Y) = Y / Nat.gcd X.natAbs Y := by
  have h : Nat.gcd ((k : Int) * X).natAbs (k * Y) = k * Nat.gcd X.natAbs Y := by
    rw [Int.natAbs_mul, Int.natAbs_natCast, Nat.gcd_mul_left]
  rw [h, Int.natCast_mul]
  exact ⟨Int.mul_ediv_mul_of_pos _ _ (by omega), Nat.mul_div_mul_left _ _ hk⟩

theorem lowText_eq (X : Int) (Y : Nat) : lowText X Y = fracText (X / (Nat.gcd X.natAbs Y : Int)) (Y / Nat.gcd X.natAbs Y) := by
  unfold lowText fracText overText
  rw [itoa_nat]

theorem lowText_scale (k : Nat) (hk : 0 < k) (X A : Int) (Y B : Nat) (hA : A = (k : Int) * X) (hB : B = k * Y) :
    fracText (X / (Nat.gcd X.natAbs Y : Int)) (Y / Nat.gcd X.natAbs Y) = lowText A B := by
  subst hA; subst hB
  rw [lowText_eq, (red_scale k hk X Y).1, (red_scale k hk X Y).2]

/-- A fraction's parts: what is common, and the rest. -/
theorem frac_parts (a : Int) (b : Nat) (hb : b ≠ 0) : ∃ (k : Nat) (p : Int) (q : Nat), 0 < k ∧ a = (k : Int) * p ∧ b = k * q ∧ 0 < q ∧ a / (Nat.gcd a.natAbs b : Int) = p ∧ b / Nat.gcd a.natAbs b = q ∧ p.natAbs ≤ a.natAbs ∧ q ≤ b := by
  have hk : 0 < Nat.gcd a.natAbs b := Nat.gcd_pos_of_pos_right _ (Nat.pos_of_ne_zero hb)
  have h1 : a = (Nat.gcd a.natAbs b : Int) * (a / (Nat.gcd a.natAbs b : Int)) := (Int.mul_ediv_cancel' (Int.ofNat_dvd_left.2 (Nat.gcd_dvd_left _ _))).symm
  have h2 : b = Nat.gcd a.natAbs b * (b / Nat.gcd a.natAbs b) := (Nat.mul_div_cancel' (Nat.gcd_dvd_right _ _)).symm
  refine ⟨Nat.gcd a.natAbs b, _, _, hk, h1, h2, ?_, rfl, rfl, ?_, Nat.div_le_self _ _⟩
  · rcases Nat.eq_zero_or_pos (b / Nat.gcd a.natAbs b) with h | h
    · rw [h] at h2; omega
    · exact h
  · exact Int.natAbs_ediv_le_natAbs _ _

theorem mulz_bd {x : Int} {y m n : Nat} (hx : x.natAbs ≤ m) (hy : y ≤ n) : (x * (y : Int)).natAbs ≤ m * n := by
  rw [Int.natAbs_mul, Int.natAbs_natCast]; exact Nat.mul_le_mul hx hy

theorem redn_bd (X : Int) (Y : Nat) {m : Nat} (h : X.natAbs ≤ m) (hm : m < 1000000000) : (X / (Nat.gcd X.natAbs Y : Int)).natAbs < Cap := by
  have := Int.natAbs_ediv_le_natAbs X (Nat.gcd X.natAbs Y : Int); exact cap_small (by omega)

theorem redd_bd (X : Int) (Y : Nat) {m : Nat} (h : Y ≤ m) (hm : m < 1000000000) : Y / Nat.gcd X.natAbs Y < Cap := by
  have := Nat.div_le_self Y (Nat.gcd X.natAbs Y); exact cap_small (by omega)

theorem overOK_two : OverOK 2 := over_any 2 (by omega) longOK_two

theorem field_plus (a c : Int) (b d : Nat) (ha : a.natAbs ≤ 10000) (hc : c.natAbs ≤ 10000) (hb0 : b ≠ 0) (hb : b ≤ 10000) (hd0 : d ≠ 0) (hd : d ≤ 10000) (w : World) (hg : Gl w) :
    Calls Tryz.prog 9 #[.int .i64 1, .string ⟨(overText a (b : Int)).toArray⟩, .string ⟨(overText c (d : Int)).toArray⟩] w fun e w' => e = .returned (.tuple #[.string ⟨(lowText (a * (d : Int) + c * (b : Int)) (b * d)).toArray⟩, .int .i64 0]) ∧ Below w.heap.size w w' := by
  have hs := parseOK_over a b hb0 (by omega) (by omega)
  have ht := parseOK_over c d hd0 (by omega) (by omega)
  obtain ⟨k, p, q, hk, hap, hbq, hq0, e1, e2, hpa, hqb⟩ := frac_parts a b hb0
  obtain ⟨l, r, s, hl, hcr, hds, hs0, e3, e4, hrc, hsd⟩ := frac_parts c d hd0
  rw [e1, e2] at hs
  rw [e3, e4] at ht
  have m1 := mulz_bd (x := p) (y := s) (m := 10000) (n := 10000) (by omega) (by omega)
  have m2 := mulz_bd (x := r) (y := q) (m := 10000) (n := 10000) (by omega) (by omega)
  have m3 : q * s ≤ 10000 * 10000 := Nat.mul_le_mul (by omega) (by omega)
  have m4 : (p * (s : Int) + r * (q : Int)).natAbs ≤ 200000000 := by omega
  rw [← lowText_scale (k * l) (Nat.mul_pos hk hl) (p * s + r * q) _ (q * s) _ (by rw [hap, hcr, hds, hbq]; simp only [Int.natCast_mul, Int.mul_add]; ac_rfl) (by rw [hds, hbq]; ac_rfl)]
  exact planesCalc_of _ _ _ _ _ _ (calc_1 w _ _ p r _ q s _ hg hs ht (fun W x y hx hy => fplus_any 1 2 (by omega) (by omega) overOK_two W x y p r q s hx hy (by omega) (by omega) (by omega) (by omega) (by omega) (by omega)) (redn_bd _ _ m4 (by omega)) (redd_bd _ _ m3 (by omega)))

theorem field_minus (a c : Int) (b d : Nat) (ha : a.natAbs ≤ 10000) (hc : c.natAbs ≤ 10000) (hb0 : b ≠ 0) (hb : b ≤ 10000) (hd0 : d ≠ 0) (hd : d ≤ 10000) (w : World) (hg : Gl w) :
    Calls Tryz.prog 9 #[.int .i64 2, .string ⟨(overText a (b : Int)).toArray⟩, .string ⟨(overText c (d : Int)).toArray⟩] w fun e w' => e = .returned (.tuple #[.string ⟨(lowText (a * (d : Int) - c * (b : Int)) (b * d)).toArray⟩, .int .i64 0]) ∧ Below w.heap.size w w' := by
  have hs := parseOK_over a b hb0 (by omega) (by omega)
  have ht := parseOK_over c d hd0 (by omega) (by omega)
  obtain ⟨k, p, q, hk, hap, hbq, hq0, e1, e2, hpa, hqb⟩ := frac_parts a b hb0
  obtain ⟨l, r, s, hl, hcr, hds, hs0, e3, e4, hrc, hsd⟩ := frac_parts c d hd0
  rw [e1, e2] at hs
  rw [e3, e4] at ht
  have m1 := mulz_bd (x := p) (y := s) (m := 10000) (n := 10000) (by omega) (by omega)
  have m2 := mulz_bd (x := -r) (y := q) (m := 10000) (n := 10000) (by omega) (by omega)
  have m3 : q * s ≤ 10000 * 10000 := Nat.mul_le_mul (by omega) (by omega)
  have m4 : (p * (s : Int) + (-r) * (q : Int)).natAbs ≤ 200000000 := by omega
  have e : a * (d : Int) - c * (b : Int) = a * (d : Int) + (-c) * (b : Int) := by rw [Int.neg_mul]; omega
  have hcr' : -c = (l : Int) * (-r) := by rw [hcr, Int.mul_neg]
  rw [e, ← lowText_scale (k * l) (Nat.mul_pos hk hl) (p * s + (-r) * q) _ (q * s) _ (by rw [hcr', hap, hds, hbq]; generalize -r = R; simp only [Int.natCast_mul, Int.mul_add]; ac_rfl) (by rw [hds, hbq]; ac_rfl)]
  exact planesCalc_of _ _ _ _ _ _ (calc_2 w _ _ p r _ q s _ hg hs ht (fun W x y hx hy => fminus_any 1 2 (by omega) (by omega) overOK_two W x y p r q s hx hy (by omega) (by omega) (by omega) (by omega) (by omega) (by omega)) (redn_bd _ _ m4 (by omega)) (redd_bd _ _ m3 (by omega)))

theorem field_times (a c : Int) (b d : Nat) (ha : a.natAbs ≤ 10000) (hc : c.natAbs ≤ 10000) (hb0 : b ≠ 0) (hb : b ≤ 10000) (hd0 : d ≠ 0) (hd : d ≤ 10000) (w : World) (hg : Gl w) :
    Calls Tryz.prog 9 #[.int .i64 3, .string ⟨(overText a (b : Int)).toArray⟩, .string ⟨(overText c (d : Int)).toArray⟩] w fun e w' => e = .returned (.tuple #[.string ⟨(lowText (a * c) (b * d)).toArray⟩, .int .i64 0]) ∧ Below w.heap.size w w' := by
  have hs := parseOK_over a b hb0 (by omega) (by omega)
  have ht := parseOK_over c d hd0 (by omega) (by omega)
  obtain ⟨k, p, q, hk, hap, hbq, hq0, e1, e2, hpa, hqb⟩ := frac_parts a b hb0
  obtain ⟨l, r, s, hl, hcr, hds, hs0, e3, e4, hrc, hsd⟩ := frac_parts c d hd0
  rw [e1, e2] at hs
  rw [e3, e4] at ht
  have m1 : (p * r).natAbs ≤ 10000 * 10000 := by rw [Int.natAbs_mul]; exact Nat.mul_le_mul (by omega) (by omega)
  have m3 : q * s ≤ 10000 * 10000 := Nat.mul_le_mul (by omega) (by omega)
  rw [← lowText_scale (k * l) (Nat.mul_pos hk hl) (p * r) _ (q * s) _ (by rw [hap, hcr]; simp only [Int.natCast_mul]; ac_rfl) (by rw [hds, hbq]; ac_rfl)]
  exact planesCalc_of _ _ _ _ _ _ (calc_3 w _ _ p r _ q s _ hg hs ht (fun W x y hx hy => ftimes_any 1 (by omega) overOK_two W x y p r q s hx hy (by omega) (by omega) (by omega) (by omega)) (redn_bd _ _ m1 (by omega)) (redd_bd _ _ m3 (by omega)))

theorem field_over (a c : Int) (b d : Nat) (ha : a.natAbs ≤ 10000) (hc : c.natAbs ≤ 10000) (hb0 : b ≠ 0) (hb : b ≤ 10000) (hd0 : d ≠ 0) (hd : d ≤ 10000) (hc0 : c ≠ 0) (w : World) (hg : Gl w) :
    Calls Tryz.prog 9 #[.int .i64 4, .string ⟨(overText a (b : Int)).toArray⟩, .string ⟨(overText c (d : Int)).toArray⟩] w fun e w' => e = .returned (.tuple #[.string ⟨(lowText (a * (d : Int) * c.sign) (b * c.natAbs)).toArray⟩, .int .i64 0]) ∧ Below w.heap.size w w' := by
  have hs := parseOK_over a b hb0 (by omega) (by omega)
  have ht := parseOK_over c d hd0 (by omega) (by omega)
  obtain ⟨k, p, q, hk, hap, hbq, hq0, e1, e2, hpa, hqb⟩ := frac_parts a b hb0
  obtain ⟨l, r, s, hl, hcr, hds, hs0, e3, e4, hrc, hsd⟩ := frac_parts c d hd0
  rw [e1, e2] at hs
  rw [e3, e4] at ht
  have hr0 : r ≠ 0 := by rintro rfl; exact hc0 (by rw [hcr]; simp)
  have hsg : c.sign = r.sign := by rw [hcr, Int.sign_mul, Int.sign_eq_one_of_pos (by omega : (0 : Int) < l), Int.one_mul]
  have hab : c.natAbs = l * r.natAbs := by rw [hcr, Int.natAbs_mul, Int.natAbs_natCast]
  have m1 := mulz_bd (x := p) (y := s) (m := 10000) (n := 10000) (by omega) (by omega)
  have m2 : (p * (s : Int) * r.sign).natAbs ≤ 10000 * 10000 := by
    rw [Int.natAbs_mul]
    have : r.sign.natAbs ≤ 1 := by rw [Int.natAbs_sign]; split <;> omega
    exact Nat.le_trans (Nat.mul_le_mul m1 this) (by omega)
  have m3 : q * r.natAbs ≤ 10000 * 10000 := Nat.mul_le_mul (by omega) (by omega)
  rw [← lowText_scale (k * l) (Nat.mul_pos hk hl) (p * s * r.sign) _ (q * r.natAbs) _ (by rw [hsg, hap, hds]; simp only [Int.natCast_mul]; ac_rfl) (by rw [hab, hbq]; ac_rfl)]
  exact planesCalc_of _ _ _ _ _ _ (calc_4 w _ _ p r _ q s _ hg hs ht hr0 (fun W x y hx hy => fover_any 1 (by omega) overOK_two W x y p r q s hx hy hr0 (by omega) (by omega) (by omega) (by omega)) (redn_bd _ _ m2 (by omega)) (redd_bd _ _ m3 (by omega)))

theorem field_zero (a : Int) (b d : Nat) (ha : a.natAbs ≤ 10000) (hb0 : b ≠ 0) (hb : b ≤ 10000) (hd0 : d ≠ 0) (hd : d ≤ 10000) (w : World) (hg : Gl w) :
    Calls Tryz.prog 9 #[.int .i64 4, .string ⟨(overText a (b : Int)).toArray⟩, .string ⟨(overText 0 (d : Int)).toArray⟩] w fun e w' => e = .returned (.tuple #[.string ⟨#[]⟩, .int .i64 3]) ∧ Below w.heap.size w w' := by
  have hs := parseOK_over a b hb0 (by omega) (by omega)
  have ht := parseOK_over 0 d hd0 (by omega) (by omega)
  rw [Int.zero_ediv] at ht
  exact planesCalc_of _ _ _ _ _ _ (calc_zero w _ _ _ _ _ hg hs ht)

theorem field_floor (a c : Int) (b d : Nat) (ha : a.natAbs ≤ 10000) (hc : c.natAbs ≤ 10000) (hb0 : b ≠ 0) (hb : b ≤ 10000) (hd0 : d ≠ 0) (hd : d ≤ 10000) (w : World) (hg : Gl w) :
    Calls Tryz.prog 9 #[.int .i64 5, .string ⟨(overText a (b : Int)).toArray⟩, .string ⟨(overText c (d : Int)).toArray⟩] w fun e w' => e = .returned (.tuple #[.string ⟨(Lib.itoa (a / (b : Int))).toArray⟩, .int .i64 0]) ∧ Below w.heap.size w w' := by
  have hs := parseOK_over a b hb0 (by omega) (by omega)
  have ht := parseOK_over c d hd0 (by omega) (by omega)
  obtain ⟨k, p, q, hk, hap, hbq, hq0, e1, e2, hpa, hqb⟩ := frac_parts a b hb0
  obtain ⟨l, r, s, hl, hcr, hds, hs0, e3, e4, hrc, hsd⟩ := frac_parts c d hd0
  rw [e1, e2] at hs
  rw [e3, e4] at ht
  have e : Lib.itoa (a / (b : Int)) = fracText (p / (q : Int)) 1 := by
    rw [fracText, if_pos rfl, hap, hbq, Int.natCast_mul, Int.mul_ediv_mul_of_pos _ _ (by omega)]
  have m1 := Int.natAbs_ediv_le_natAbs p (q : Int)
  rw [e]
  exact planesCalc_of _ _ _ _ _ _ (calc_5 w _ _ p r _ q s _ hg hs ht (fun W x y hx hy => opFloor_any 2 (by omega) overOK_two W x y p r q s hx hy (by omega) (by omega)) (cap_small (by omega)) (cap_small (by omega)))

theorem field_less (a c : Int) (b d : Nat) (ha : a.natAbs ≤ 10000) (hc : c.natAbs ≤ 10000) (hb0 : b ≠ 0) (hb : b ≤ 10000) (hd0 : d ≠ 0) (hd : d ≤ 10000) (w : World) (hg : Gl w) :
    Calls Tryz.prog 9 #[.int .i64 6, .string ⟨(overText a (b : Int)).toArray⟩, .string ⟨(overText c (d : Int)).toArray⟩] w fun e w' => e = .returned (.tuple #[.string (if a * (d : Int) < c * (b : Int) then ⟨#[49]⟩ else ⟨#[48]⟩), .int .i64 0]) ∧ Below w.heap.size w w' := by
  have hs := parseOK_over a b hb0 (by omega) (by omega)
  have ht := parseOK_over c d hd0 (by omega) (by omega)
  obtain ⟨k, p, q, hk, hap, hbq, hq0, e1, e2, hpa, hqb⟩ := frac_parts a b hb0
  obtain ⟨l, r, s, hl, hcr, hds, hs0, e3, e4, hrc, hsd⟩ := frac_parts c d hd0
  rw [e1, e2] at hs
  rw [e3, e4] at ht
  have h1 : a * (d : Int) = ((k * l : Nat) : Int) * (p * s) := by rw [hap, hds]; simp only [Int.natCast_mul]; ac_rfl
  have h2 : c * (b : Int) = ((k * l : Nat) : Int) * (r * q) := by rw [hcr, hbq]; simp only [Int.natCast_mul]; ac_rfl
  have hkl : (0 : Int) < ((k * l : Nat) : Int) := by have := Nat.mul_pos hk hl; omega
  have h3 : (a * (d : Int) < c * (b : Int)) = (p * (s : Int) < r * (q : Int)) := by
    rw [h1, h2]
    exact propext ⟨fun h => Int.lt_of_mul_lt_mul_left h (Int.le_of_lt hkl), fun h => Int.mul_lt_mul_of_pos_left h hkl⟩
  have e : (if a * (d : Int) < c * (b : Int) then (⟨#[49]⟩ : ByteArray) else ⟨#[48]⟩) = ⟨(fracText (if p * (s : Int) < r * (q : Int) then 1 else 0) 1).toArray⟩ := by
    simp only [h3]
    rw [fracText, if_pos rfl]
    by_cases h : p * (s : Int) < r * (q : Int)
    · rw [if_pos h, if_pos h]; decide +kernel
    · rw [if_neg h, if_neg h]; decide +kernel
  rw [e]
  exact planesCalc_of _ _ _ _ _ _ (calc_6 w _ _ p r _ q s _ hg hs ht (fun W x y hx hy => opLess_any 1 (by omega) W x y p r q s hx hy (by omega) (by omega) (by omega) (by omega)) (cap_small (by split <;> omega)) (cap_small (by omega)))
end Go.Proofs.YtcmdglfjnepahaaGreatDoor
