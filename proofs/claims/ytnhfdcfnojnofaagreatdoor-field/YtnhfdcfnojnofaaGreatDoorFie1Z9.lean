/-
  Part 9 of the texts ahead of Fie1: Pla5, Kee3.
-/
import Derived.Test.YtnhfdcfnojnofaaGreatDoorFie1Z8
import Derived.Deep.DeepCutAuto
set_option linter.unusedSimpArgs false
set_option linter.unusedVariables false
/-
  Calc of two small fractions' texts, for each operation, as they are written.
-/
namespace Go.Proofs.YtnhfdcfnojnofaaGreatDoor
open Go.RowKit

theorem red_scale (k : Nat) (hk : 0 < k) (X : Int) (Y : Nat) :
    ((k : Int) * X) / (Nat.gcd ((k : Int) * X).natAbs (k * Y) : Int) = X / (Nat.gcd X.natAbs Y : Int) ∧ (k * Y) / Nat.gcd ((k : Int) * X).natAbs (k * Y) = Y / Nat.gcd X.natAbs Y := by
  have h : Nat.gcd ((k : Int) * X).natAbs (k * Y) = k * Nat.gcd X.natAbs Y := by
    rw [Int.natAbs_mul, Int.natAbs_natCast, Nat.gcd_mul_left]
  rw [h, Int.natCast_mul]
  exact ⟨Int.mul_ediv_mul_of_pos _ _ (by omega), Nat.mul_div_mul_left _ _ hk⟩

theorem lowText_eq (X : Int) (Y : Nat) : lowText X Y = fracText (X / (Nat.gcd X.natAbs Y : Int)) (Y / Nat.gcd X.natAbs Y) := by
  unfold lowText fracText overText
  rw [itoa_nat]

theorem lowText_scale (k : Nat) (hk : 0 < k) (X A : Int) (Y B : Nat) (hA : A = (k : Int) * X) (hB : B = k * Y) :
    fracText (X / (Nat.gcd X.natAbs Y : Int)) (Y / Nat.gcd X.natAbs Y) = lowText A B := by
  subst hA; subst hB
  rw [lowText_eq, (red_scale k hk X Y).1, (red_scale k hk X Y).2]

/-- A fraction's parts: what is common, and the rest. -/
theorem frac_parts (a : Int) (b : Nat) (hb : b ≠ 0) : ∃ (k : Nat) (p : Int) (q : Nat), 0 < k ∧ a = (k : Int) * p ∧ b = k * q ∧ 0 < q ∧ a / (Nat.gcd a.natAbs b : Int) = p ∧ b / Nat.gcd a.natAbs b = q ∧ p.natAbs ≤ a.natAbs ∧ q ≤ b := by
  have hk : 0 < Nat.gcd a.natAbs b := Nat.gcd_pos_of_pos_right _ (Nat.pos_of_ne_zero hb)
  have h1 : a = (Nat.gcd a.natAbs b : Int) * (a / (Nat.gcd a.natAbs b : Int)) := (Int.mul_ediv_cancel' (Int.ofNat_dvd_left.2 (Nat.gcd_dvd_left _ _))).symm
  have h2 : b = Nat.gcd a.natAbs b * (b / Nat.gcd a.natAbs b) := (Nat.mul_div_cancel' (Nat.gcd_dvd_right _ _)).symm
  refine ⟨Nat.gcd a.natAbs b, _, _, hk, h1, h2, ?_, rfl, rfl, ?_, Nat.div_le_self _ _⟩
  · rcases Nat.eq_zero_or_pos (b / Nat.gcd a.natAbs b) with h | h
    · rw [h] at h2; omega
    · exact h
  · exact Int.natAbs_ediv_le_natAbs _ _

theorem mulz_bd {x : Int} {y m n : Nat} (hx : x.natAbs ≤ m) (hy : y ≤ n) : (x * (y : Int)).natAbs ≤ m * n := by
  rw [Int.natAbs_mul, Int.natAbs_natCast]; exact Nat.mul_le_mul hx hy

theorem redn_bd (X : Int) (Y : Nat) {m : Nat} (h : X.natAbs ≤ m) (hm : m < 1000000000) : (X / (Nat.gcd X.natAbs Y : Int)).natAbs < Cap := by
  have := Int.natAbs_ediv_le_natAbs X (Nat.gcd X.natAbs Y : Int); exact cap_small (by omega)

theorem redd_bd (X : Int) (Y : Nat) {m : Nat} (h : Y ≤ m) (hm : m < 1000000000) : Y / Nat.gcd X.natAbs Y < Cap := by
  have := Nat.div_le_self Y (Nat.gcd X.natAbs Y); exact cap_small (by omega)

theorem overOK_two : OverOK 2 := over_any 2 (by omega) longOK_two

theorem field_plus (a c : Int) (b d : Nat) (ha : a.natAbs ≤ 10000) (hc : c.natAbs ≤ 10000) (hb0 : b ≠ 0) (hb : b ≤ 10000) (hd0 : d ≠ 0) (hd : d ≤ 10000) (w : World) (hg : Gl w) :
    Calls Tryz.prog 18 #[.int .i64 1, .string ⟨(overText a (b : Int)).toArray⟩, .string ⟨(overText c (d : Int)).toArray⟩] w fun e w' => e = .returned (.tuple #[.string ⟨(lowText (a * (d : Int) + c * (b : Int)) (b * d)).toArray⟩, .int .i64 0]) ∧ Below w.heap.size w w' := by
  have hs := parseOK_over a b hb0 (by omega) (by omega)
  have ht := parseOK_over c d hd0 (by omega) (by omega)
  obtain ⟨k, p, q, hk, hap, hbq, hq0, e1, e2, hpa, hqb⟩ := frac_parts a b hb0
  obtain ⟨l, r, s, hl, hcr, hds, hs0, e3, e4, hrc, hsd⟩ := frac_parts c d hd0
  rw [e1, e2] at hs
  rw [e3, e4] at ht
  have m1 := mulz_bd (x := p) (y := s) (m := 10000) (n := 10000) (by omega) (by omega)
  have m2 := mulz_bd (x := r) (y := q) (m := 10000) (n := 10000) (by omega) (by omega)
  have m3 : q * s ≤ 10000 * 10000 := Nat.mul_le_mul (by omega) (by omega)
  have m4 : (p * (s : Int) + r * (q : Int)).natAbs ≤ 200000000 := by omega
  rw [← lowText_scale (k * l) (Nat.mul_pos hk hl) (p * s + r * q) _ (q * s) _ (by rw [hap, hcr, hds, hbq]; simp only [Int.natCast_mul, Int.mul_add]; ac_rfl) (by rw [hds, hbq]; ac_rfl)]
  exact planesCalc_of _ _ _ _ _ _ (calc_1 w _ _ p r _ q s _ hg hs ht (fun W x y hx hy => fplus_any 1 2 (by omega) (by omega) overOK_two W x y p r q s hx hy (by omega) (by omega) (by omega) (by omega) (by omega) (by omega)) (redn_bd _ _ m4 (by omega)) (redd_bd _ _ m3 (by omega)))

theorem field_minus (a c : Int) (b d : Nat) (ha : a.natAbs ≤ 10000) (hc : c.natAbs ≤ 10000) (hb0 : b ≠ 0) (hb : b ≤ 10000) (hd0 : d ≠ 0) (hd : d ≤ 10000) (w : World) (hg : Gl w) :
    Calls Tryz.prog 18 #[.int .i64 2, .string ⟨(overText a (b : Int)).toArray⟩, .string ⟨(overText c (d : Int)).toArray⟩] w fun e w' => e = .returned (.tuple #[.string ⟨(lowText (a * (d : Int) - c * (b : Int)) (b * d)).toArray⟩, .int .i64 0]) ∧ Below w.heap.size w w' := by
  have hs := parseOK_over a b hb0 (by omega) (by omega)
  have ht := parseOK_over c d hd0 (by omega) (by omega)
  obtain ⟨k, p, q, hk, hap, hbq, hq0, e1, e2, hpa, hqb⟩ := frac_parts a b hb0
  obtain ⟨l, r, s, hl, hcr, hds, hs0, e3, e4, hrc, hsd⟩ := frac_parts c d hd0
  rw [e1, e2] at hs
  rw [e3, e4] at ht
  have m1 := mulz_bd (x := p) (y := s) (m := 10000) (n := 10000) (by omega) (by omega)
  have m2 := mulz_bd (x := -r) (y := q) (m := 10000) (n := 10000) (by omega) (by omega)
  have m3 : q * s ≤ 10000 * 10000 := Nat.mul_le_mul (by omega) (by omega)
  have m4 : (p * (s : Int) + (-r) * (q : Int)).natAbs ≤ 200000000 := by omega
  have e : a * (d : Int) - c * (b : Int) = a * (d : Int) + (-c) * (b : Int) := by rw [Int.neg_mul]; omega
  have hcr' : -c = (l : Int) * (-r) := by rw [hcr, Int.mul_neg]
  rw [e, ← lowText_scale (k * l) (Nat.mul_pos hk hl) (p * s + (-r) * q) _ (q * s) _ (by rw [hcr', hap, hds, hbq]; generalize -r = R; simp only [Int.natCast_mul, Int.mul_add]; ac_rfl) (by rw [hds, hbq]; ac_rfl)]
  exact planesCalc_of _ _ _ _ _ _ (calc_2 w _ _ p r _ q s _ hg hs ht (fun W x y hx hy => fminus_any 1 2 (by omega) (by omega) overOK_two W x y p r q s hx hy (by omega) (by omega) (by omega) (by omega) (by omega) (by omega)) (redn_bd _ _ m4 (by omega)) (redd_bd _ _ m3 (by omega)))

theorem field_times (a c : Int) (b d : Nat) (ha : a.natAbs ≤ 10000) (hc : c.natAbs ≤ 10000) (hb0 : b ≠ 0) (hb : b ≤ 10000) (hd0 : d ≠ 0) (hd : d ≤ 10000) (w : World) (hg : Gl w) :
    Calls Tryz.prog 18 #[.int .i64 3, .string ⟨(overText a (b : Int)).toArray⟩, .string ⟨(overText c (d : Int)).toArray⟩] w fun e w' => e = .returned (.tuple #[.string ⟨(lowText (a * c) (b * d)).toArray⟩, .int .i64 0]) ∧ Below w.heap.size w w' := by
  have hs := parseOK_over a b hb0 (by omega) (by omega)
  have ht := parseOK_over c d hd0 (by omega) (by omega)
  obtain ⟨k, p, q, hk, hap, hbq, hq0, e1, e2, hpa, hqb⟩ := frac_parts a b hb0
  obtain ⟨l, r, s, hl, hcr, hds, hs0, e3, e4, hrc, hsd⟩ := frac_parts c d hd0
  rw [e1, e2] at hs
  rw [e3, e4] at ht
  have m1 : (p * r).natAbs ≤ 10000 * 10000 := by rw [Int.natAbs_mul]; exact Nat.mul_le_mul (by omega) (by omega)
  have m3 : q * s ≤ 10000 * 10000 := Nat.mul_le_mul (by omega) (by omega)
  rw [← lowText_scale (k * l) (Nat.mul_pos hk hl) (p * r) _ (q * s) _ (by rw [hap, hcr]; simp only [Int.natCast_mul]; ac_rfl) (by rw [hds, hbq]; ac_rfl)]
  exact planesCalc_of _ _ _ _ _ _ (calc_3 w _ _ p r _ q s _ hg hs ht (fun W x y hx hy => ftimes_any 1 (by omega) overOK_two W x y p r q s hx hy (by omega) (by omega) (by omega) (by omega)) (redn_bd _ _ m1 (by omega)) (redd_bd _ _ m3 (by omega)))

theorem field_over (a c : Int) (b d : Nat) (ha : a.natAbs ≤ 10000) (hc : c.natAbs ≤ 10000) (hb0 : b ≠ 0) (hb : b ≤ 10000) (hd0 : d ≠ 0) (hd : d ≤ 10000) (hc0 : c ≠ 0) (w : World) (hg : Gl w) :
    Calls Tryz.prog 18 #[.int .i64 4, .string ⟨(overText a (b : Int)).toArray⟩, .string ⟨(overText c (d : Int)).toArray⟩] w fun e w' => e = .returned (.tuple #[.string ⟨(lowText (a * (d : Int) * c.sign) (b * c.natAbs)).toArray⟩, .int .i64 0]) ∧ Below w.heap.size w w' := by
  have hs := parseOK_over a b hb0 (by omega) (by omega)
  have ht := parseOK_over c d hd0 (by omega) (by omega)
  obtain ⟨k, p, q, hk, hap, hbq, hq0, e1, e2, hpa, hqb⟩ := frac_parts a b hb0
  obtain ⟨l, r, s, hl, hcr, hds, hs0, e3, e4, hrc, hsd⟩ := frac_parts c d hd0
  rw [e1, e2] at hs
  rw [e3, e4] at ht
  have hr0 : r ≠ 0 := by rintro rfl; exact hc0 (by rw [hcr]; simp)
  have hsg : c.sign = r.sign := by rw [hcr, Int.sign_mul, Int.sign_eq_one_of_pos (by omega : (0 : Int) < l), Int.one_mul]
  have hab : c.natAbs = l * r.natAbs := by rw [hcr, Int.natAbs_mul, Int.natAbs_natCast]
  have m1 := mulz_bd (x := p) (y := s) (m := 10000) (n := 10000) (by omega) (by omega)
  have m2 : (p * (s : Int) * r.sign).natAbs ≤ 10000 * 10000 := by
    rw [Int.natAbs_mul]
    have : r.sign.natAbs ≤ 1 := by rw [Int.natAbs_sign]; split <;> omega
    exact Nat.le_trans (Nat.mul_le_mul m1 this) (by omega)
  have m3 : q * r.natAbs ≤ 10000 * 10000 := Nat.mul_le_mul (by omega) (by omega)
  rw [← lowText_scale (k * l) (Nat.mul_pos hk hl) (p * s * r.sign) _ (q * r.natAbs) _ (by rw [hsg, hap, hds]; simp only [Int.natCast_mul]; ac_rfl) (by rw [hab, hbq]; ac_rfl)]
  exact planesCalc_of _ _ _ _ _ _ (calc_4 w _ _ p r _ q s _ hg hs ht hr0 (fun W x y hx hy => fover_any 1 (by omega) overOK_two W x y p r q s hx hy hr0 (by omega) (by omega) (by omega) (by omega)) (redn_bd _ _ m2 (by omega)) (redd_bd _ _ m3 (by omega)))

theorem field_zero (a : Int) (b d : Nat) (ha : a.natAbs ≤ 10000) (hb0 : b ≠ 0) (hb : b ≤ 10000) (hd0 : d ≠ 0) (hd : d ≤ 10000) (w : World) (hg : Gl w) :
    Calls Tryz.prog 18 #[.int .i64 4, .string ⟨(overText a (b : Int)).toArray⟩, .string ⟨(overText 0 (d : Int)).toArray⟩] w fun e w' => e = .returned (.tuple #[.string ⟨#[]⟩, .int .i64 3]) ∧ Below w.heap.size w w' := by
  have hs := parseOK_over a b hb0 (by omega) (by omega)
  have ht := parseOK_over 0 d hd0 (by omega) (by omega)
  rw [Int.zero_ediv] at ht
  exact planesCalc_of _ _ _ _ _ _ (calc_zero w _ _ _ _ _ hg hs ht)

theorem field_floor (a c : Int) (b d : Nat) (ha : a.natAbs ≤ 10000) (hc : c.natAbs ≤ 10000) (hb0 : b ≠ 0) (hb : b ≤ 10000) (hd0 : d ≠ 0) (hd : d ≤ 10000) (w : World) (hg : Gl w) :
    Calls Tryz.prog 18 #[.int .i64 5, .string ⟨(overText a (b : Int)).toArray⟩, .string ⟨(overText c (d : Int)).toArray⟩] w fun e w' => e = .returned (.tuple #[.string ⟨(Lib.itoa (a / (b : Int))).toArray⟩, .int .i64 0]) ∧ Below w.heap.size w w' := by
  have hs := parseOK_over a b hb0 (by omega) (by omega)
  have ht := parseOK_over c d hd0 (by omega) (by omega)
  obtain ⟨k, p, q, hk, hap, hbq, hq0, e1, e2, hpa, hqb⟩ := frac_parts a b hb0
  obtain ⟨l, r, s, hl, hcr, hds, hs0, e3, e4, hrc, hsd⟩ := frac_parts c d hd0
  rw [e1, e2] at hs
  rw [e3, e4] at ht
  have e : Lib.itoa (a / (b : Int)) = fracText (p / (q : Int)) 1 := by
    rw [fracText, if_pos rfl, hap, hbq, Int.natCast_mul, Int.mul_ediv_mul_of_pos _ _ (by omega)]
  have m1 := Int.natAbs_ediv_le_natAbs p (q : Int)
  rw [e]
  exact planesCalc_of _ _ _ _ _ _ (calc_5 w _ _ p r _ q s _ hg hs ht (fun W x y hx hy => opFloor_any 2 (by omega) overOK_two W x y p r q s hx hy (by omega) (by omega)) (cap_small (by omega)) (cap_small (by omega)))

theorem field_less (a c : Int) (b d : Nat) (ha : a.natAbs ≤ 10000) (hc : c.natAbs ≤ 10000) (hb0 : b ≠ 0) (hb : b ≤ 10000) (hd0 : d ≠ 0) (hd : d ≤ 10000) (w : World) (hg : Gl w) :
    Calls Tryz.prog 18 #[.int .i64 6, .string ⟨(overText a (b : Int)).toArray⟩, .string ⟨(overText c (d : Int)).toArray⟩] w fun e w' => e = .returned (.tuple #[.string (if a * (d : Int) < c * (b : Int) then ⟨#[49]⟩ else ⟨#[48]⟩), .int .i64 0]) ∧ Below w.heap.size w w' := by
  have hs := parseOK_over a b hb0 (by omega) (by omega)
  have ht := parseOK_over c d hd0 (by omega) (by omega)
  obtain ⟨k, p, q, hk, hap, hbq, hq0, e1, e2, hpa, hqb⟩ := frac_parts a b hb0
  obtain ⟨l, r, s, hl, hcr, hds, hs0, e3, e4, hrc, hsd⟩ := frac_parts c d hd0
  rw [e1, e2] at hs
  rw [e3, e4] at ht
  have h1 : a * (d : Int) = ((k * l : Nat) : Int) * (p * s) := by rw [hap, hds]; simp only [Int.natCast_mul]; ac_rfl
  have h2 : c * (b : Int) = ((k * l : Nat) : Int) * (r * q) := by rw [hcr, hbq]; simp only [Int.natCast_mul]; ac_rfl
  have hkl : (0 : Int) < ((k * l : Nat) : Int) := by have := Nat.mul_pos hk hl; omega
  have h3 : (a * (d : Int) < c * (b : Int)) = (p * (s : Int) < r * (q : Int)) := by
    rw [h1, h2]
    exact propext ⟨fun h => Int.lt_of_mul_lt_mul_left h (Int.le_of_lt hkl), fun h => Int.mul_lt_mul_of_pos_left h hkl⟩
  have e : (if a * (d : Int) < c * (b : Int) then (⟨#[49]⟩ : ByteArray) else ⟨#[48]⟩) = ⟨(fracText (if p * (s : Int) < r * (q : Int) then 1 else 0) 1).toArray⟩ := by
    simp only [h3]
    rw [fracText, if_pos rfl]
    by_cases h : p * (s : Int) < r * (q : Int)
    · rw [if_pos h, if_pos h]; decide +kernel
    · rw [if_neg h, if_neg h]; decide +kernel
  rw [e]
  exact planesCalc_of _ _ _ _ _ _ (calc_6 w _ _ p r _ q s _ hg hs ht (fun W x y hx hy => opLess_any 1 (by omega) W x y p r q s hx hy (by omega) (by omega) (by omega) (by omega)) (cap_small (by split <;> omega)) (cap_small (by omega)))
end Go.Proofs.YtnhfdcfnojnofaaGreatDoor

/-
  What the keeper's Field does.
-/
namespace Go.Proofs.YtnhfdcfnojnofaaGreatDoor
open Go.RowKit

theorem pick_some (c n : Int) (h0 : -9223372036854775808 ≤ c) (h1 : c ≤ 9223372036854775807) (hn : 0 < n) (hn1 : n ≤ 9223372036854775807) (w : World) :
    Calls Tryz.prog 16 #[.int .i64 c, .int .i64 n] w fun e w' => ∃ A : Nat, e = .returned (.int .i64 (A : Nat)) ∧ (A : Int) < n ∧ w' = w := by
  refine (pick_any c n h0 h1 hn hn1 w).mono ?_
  rintro e w' ⟨rfl, rfl⟩
  have hb := pickZ_bd c hn
  exact ⟨(pickZ c n).toNat, by rw [Int.toNat_of_nonneg hb.1], by omega, rfl⟩

theorem floor_tdiv (p : Int) (q : Nat) (hq : 0 < q) : p / (q : Int) = if p.tmod (q : Int) ≠ 0 ∧ p < 0 then Int.tdiv p (q : Int) - 1 else Int.tdiv p (q : Int) := by
  have h := @Int.tdiv_eq_ediv p (q : Int)
  have hs : Int.sign (q : Int) = 1 := Int.sign_eq_one_of_pos (by omega)
  rw [hs] at h
  by_cases h1 : p.tmod (q : Int) ≠ 0 ∧ p < 0
  · rw [if_pos h1]
    rw [if_neg (by rintro (h2 | h2); · omega
                   · exact h1.1 (Int.tmod_eq_zero_of_dvd h2))] at h
    omega
  · rw [if_neg h1]
    have h2 : 0 ≤ p ∨ (q : Int) ∣ p := by
      by_cases h3 : p.tmod (q : Int) = 0
      · exact Or.inr (Int.dvd_of_tmod_eq_zero h3)
      · exact Or.inl (by by_cases h4 : p < 0
                         · exact absurd ⟨h3, h4⟩ h1
                         · omega)
    rw [if_pos h2] at h
    omega

theorem neg_args (p r : Int) (q s : Nat) (n1 : -100000000 ≤ p * (s : Int)) (n2 : p * (s : Int) ≤ 100000000) (n3 : -100000000 ≤ r * (q : Int)) (n4 : r * (q : Int) ≤ 100000000) (hn : r < 0) (hq : 0 < q) :
    wrap64 (-p * (s : Int)) = p * (s : Int) * r.sign ∧ wrap64 (-(q : Int) * r) = ((q * r.natAbs : Nat) : Int) ∧ (p * (s : Int) * r.sign).natAbs < 4611686018427387904 ∧ 0 < q * r.natAbs ∧ q * r.natAbs < 4611686018427387904 := by
  have e1 : p * (s : Int) * r.sign = -(p * (s : Int)) := by rw [Int.sign_eq_neg_one_of_neg hn, Int.mul_neg_one]
  have e2 : ((q * r.natAbs : Nat) : Int) = -(r * (q : Int)) := by
    rw [Int.natCast_mul, show (r.natAbs : Int) = -r by omega, Int.mul_neg, Int.mul_comm]
  have e3 : -(q : Int) * r = -(r * (q : Int)) := by rw [Int.neg_mul, Int.mul_comm]
  refine ⟨?_, ?_, ?_, Nat.mul_pos hq (by omega), ?_⟩
  · rw [e1, Int.neg_mul]; exact Go.IntWalk.wrap64_in _ (by omega)
  · rw [e2, e3]; exact Go.IntWalk.wrap64_in _ (by omega)
  · rw [e1]; omega
  · omega

theorem pos_args (p r : Int) (q s : Nat) (n1 : -100000000 ≤ p * (s : Int)) (n2 : p * (s : Int) ≤ 100000000) (n3 : -100000000 ≤ r * (q : Int)) (n4 : r * (q : Int) ≤ 100000000) (hn : 0 < r) (hq : 0 < q) :
    p * (s : Int) = p * (s : Int) * r.sign ∧ wrap64 ((q : Int) * r) = ((q * r.natAbs : Nat) : Int) ∧ (p * (s : Int) * r.sign).natAbs < 4611686018427387904 ∧ 0 < q * r.natAbs ∧ q * r.natAbs < 4611686018427387904 := by
  have e1 : p * (s : Int) * r.sign = p * (s : Int) := by rw [Int.sign_eq_one_of_pos hn, Int.mul_one]
  have e2 : ((q * r.natAbs : Nat) : Int) = r * (q : Int) := by
    rw [Int.natCast_mul, show (r.natAbs : Int) = r by omega, Int.mul_comm]
  have e3 : (q : Int) * r = r * (q : Int) := Int.mul_comm _ _
  refine ⟨e1.symm, ?_, ?_, Nat.mul_pos hq (by omega), ?_⟩
  · rw [e2, e3]; exact Go.IntWalk.wrap64_in _ (by omega)
  · rw [e1]; omega
  · omega

theorem lowest_int (x y a : Int) (b : Nat) (hx : x = a) (hy : y = (b : Nat)) (ha : a.natAbs < 4611686018427387904) (hb0 : 0 < b) (hb : b < 4611686018427387904) (w : World) (hg : Gl w) :
    Calls Tryz.prog 19 #[.int .i64 x, .int .i64 y] w fun e w' => e = .returned (.string ⟨(lowText a b).toArray⟩) ∧ Below w.heap.size w w' := by
  subst hx; subst hy
  exact lowest_any _ b ha hb0 hb w hg.1

theorem field_four (a c : Int) (b d : Nat) (ha : a.natAbs ≤ 10000) (hc : c.natAbs ≤ 10000) (hb0 : b ≠ 0) (hb : b ≤ 10000) (hd0 : d ≠ 0) (hd : d ≤ 10000) (w : World) (hg : Gl w) :
    Calls Tryz.prog 18 #[.int .i64 4, .string ⟨(overText a (b : Int)).toArray⟩, .string ⟨(overText c (d : Int)).toArray⟩] w fun e w' => ∃ (t : ByteArray) (k : Int), e = .returned (.tuple #[.string t, .int .i64 k]) ∧ (∀ _u : Unit, (c = 0 → t = ⟨#[]⟩ ∧ k = 3) ∧ (c ≠ 0 → t = ⟨(lowText (a * (d : Int) * c.sign) (b * c.natAbs)).toArray⟩ ∧ k = 0)) ∧ Below w.heap.size w w' := by
  by_cases h : c = 0
  · subst h
    refine (field_zero a b d ha hb0 hb hd0 hd w hg).mono ?_
    rintro e w' ⟨rfl, hbw⟩
    exact ⟨_, _, rfl, fun _ => ⟨fun _ => ⟨rfl, rfl⟩, fun h => absurd rfl h⟩, hbw⟩
  · refine (field_over a c b d ha hc hb0 hb hd0 hd h w hg).mono ?_
    rintro e w' ⟨rfl, hbw⟩
    exact ⟨_, _, rfl, fun _ => ⟨fun h' => absurd h' h, fun _ => ⟨rfl, rfl⟩⟩, hbw⟩

set_option maxHeartbeats 1000000 in
set_option maxRecDepth 100000 in
theorem field_any (a b c d : Int) (ha0 : -9223372036854775808 ≤ a) (ha1 : a ≤ 9223372036854775807) (hb0 : -9223372036854775808 ≤ b) (hb1 : b ≤ 9223372036854775807) (hc0 : -9223372036854775808 ≤ c) (hc1 : c ≤ 9223372036854775807) (hd0 : -9223372036854775808 ≤ d) (hd1 : d ≤ 9223372036854775807) (w : World) (hg : Gl w) :
    Calls Tryz.prog 4 #[.int .i64 a, .int .i64 b, .int .i64 c, .int .i64 d] w fun e w' => e = .returned (.bool true) ∧ Below w.heap.size w w' := by
  go_enter Tryz.func4, Tryz.ntmps4
  go_wp2_with fail
  refine (pick_some a 20001 ha0 ha1 (by omega) (by omega) _).mono ?_
  rintro e w1 ⟨A, rfl, hA, rfl⟩
  go_wp2_with fail
  refine (pick_some c 20001 hc0 hc1 (by omega) (by omega) _).mono ?_
  rintro e w1 ⟨C, rfl, hC, rfl⟩
  go_wp2_with fail
  refine (pick_some b 10000 hb0 hb1 (by omega) (by omega) _).mono ?_
  rintro e w1 ⟨B, rfl, hB, rfl⟩
  go_wp2_with fail
  refine (pick_some d 10000 hd0 hd1 (by omega) (by omega) _).mono ?_
  rintro e w1 ⟨D, rfl, hD, rfl⟩
  go_wp2_with fail
  obtain ⟨p, hp⟩ : ∃ p : Int, (A : Int) - 10000 = p := ⟨_, rfl⟩
  obtain ⟨r, hr⟩ : ∃ r : Int, (C : Int) - 10000 = r := ⟨_, rfl⟩
  obtain ⟨q, hq⟩ : ∃ q : Nat, 1 + (B : Int) = (q : Nat) := ⟨B + 1, by omega⟩
  obtain ⟨s, hs⟩ : ∃ s : Nat, 1 + (D : Int) = (s : Nat) := ⟨D + 1, by omega⟩
  rw [hp, hr, hq, hs]
  have hp1 : p.natAbs ≤ 10000 := by omega
  have hr1 : r.natAbs ≤ 10000 := by omega
  have hq0 : q ≠ 0 := by omega
  have hq1 : q ≤ 10000 := by omega
  have hs0 : s ≠ 0 := by omega
  have hs1 : s ≤ 10000 := by omega
  clear hp hr hq hs hA hB hC hD
  generalize (A : Int) = A
  generalize (B : Int) = B
  generalize (C : Int) = C
  generalize (D : Int) = D
  refine (keepOver_any p q (by omega) (by omega) (by omega) (by omega) _ hg.1).mono ?_
  rintro e w2 ⟨rfl, hb2⟩
  have hg2 := hg.below hb2
  go_wp2_with fail
  refine (keepOver_any r s (by omega) (by omega) (by omega) (by omega) _ hg2.1).mono ?_
  rintro e w3 ⟨rfl, hb3⟩
  have hb3' := hb2.trans (hb3.mono hb2.size)
  have hg3 := hg.below hb3'
  clear hb2 hb3 hg2
  go_wp2_with fail
  refine (field_plus p r q s hp1 hr1 hq0 hq1 hs0 hs1 _ hg3).mono ?_
  rintro e w4 ⟨rfl, hb4⟩
  have hb4' := hb3'.trans (hb4.mono hb3'.size)
  have hg4 := hg.below hb4'
  clear hb3' hb4 hg3
  go_wp2_with fail
  refine (field_minus p r q s hp1 hr1 hq0 hq1 hs0 hs1 _ hg4).mono ?_
  rintro e w5 ⟨rfl, hb5⟩
  have hb5' := hb4'.trans (hb5.mono hb4'.size)
  have hg5 := hg.below hb5'
  clear hb4' hb5 hg4
  go_wp2_with fail
  refine (field_times p r q s hp1 hr1 hq0 hq1 hs0 hs1 _ hg5).mono ?_
  rintro e w6 ⟨rfl, hb6⟩
  have hb6' := hb5'.trans (hb6.mono hb5'.size)
  have hg6 := hg.below hb6'
  clear hb5' hb6 hg5
  go_wp2_with fail
  refine (field_four p r q s hp1 hr1 hq0 hq1 hs0 hs1 _ hg6).mono ?_
  rintro e w7 ⟨pt, ek, rfl, hpt, hb7⟩
  have hb7' := hb6'.trans (hb7.mono hb6'.size)
  have hg7 := hg.below hb7'
  clear hb6' hb7 hg6
  go_wp2_with fail
  refine (field_floor p r q s hp1 hr1 hq0 hq1 hs0 hs1 _ hg7).mono ?_
  rintro e w8 ⟨rfl, hb8⟩
  have hb8' := hb7'.trans (hb8.mono hb7'.size)
  have hg8 := hg.below hb8'
  clear hb7' hb8 hg7
  go_wp2_with fail
  refine (field_less p r q s hp1 hr1 hq0 hq1 hs0 hs1 _ hg8).mono ?_
  rintro e w9 ⟨rfl, hb9⟩
  have hb9' := hb8'.trans (hb9.mono hb8'.size)
  have hg9 := hg.below hb9'
  clear hb8' hb9 hg8
  generalize hlt : (if p * (s : Int) < r * (q : Int) then (ByteArray.mk #[49]) else ByteArray.mk #[48]) = lt
  have HLT := hide hlt
  clear hlt
  have m1 := mulz_bd (x := p) (y := s) (m := 10000) (n := 10000) hp1 hs1
  have m2 := mulz_bd (x := r) (y := q) (m := 10000) (n := 10000) hr1 hq1
  have m3 : (p * r).natAbs ≤ 10000 * 10000 := by rw [Int.natAbs_mul]; exact Nat.mul_le_mul hp1 hr1
  have m4 : q * s ≤ 10000 * 10000 := Nat.mul_le_mul hq1 hs1
  have m5 : 0 < q * s := Nat.mul_pos (Nat.pos_of_ne_zero hq0) (Nat.pos_of_ne_zero hs0)
  have n1 : -100000000 ≤ p * (s : Int) := by omega
  have n2 : p * (s : Int) ≤ 100000000 := by omega
  have n3 : -100000000 ≤ r * (q : Int) := by omega
  have n4 : r * (q : Int) ≤ 100000000 := by omega
  have n5 : -100000000 ≤ p * r := by omega
  have n6 : p * r ≤ 100000000 := by omega
  have n7 : 0 < (q : Int) * (s : Int) := by have := m5; rw [← Int.natCast_mul]; omega
  have n8 : (q : Int) * (s : Int) ≤ 100000000 := by have := m4; rw [← Int.natCast_mul]; omega
  clear m1 m2 m3 m4 m5
  have t0 : (p / (q : Int)).natAbs ≤ 10000 := Nat.le_trans (Int.natAbs_ediv_le_natAbs _ _) hp1
  have t1 : (Int.tdiv p (q : Int)).natAbs ≤ 10000 := Nat.le_trans tdiv_abs hp1
  have t2 := floor_tdiv p q (by omega)
  have T2 := hide t2
  clear t2
  go_upto_region 14 with fail
  go_cut [90] (fun v wc => v = .bool (decide (p.tmod (q : Int) ≠ 0 ∧ p < 0)) ∧ w9 = wc)
  case first =>
    by_cases h1 : p.tmod (q : Int) = 0
    · go_wp2_with fail
      all_goals go_meet
      all_goals exact ⟨by simp [h1], rfl⟩
    · by_cases h2 : p < 0
      · go_wp2_with fail
        all_goals go_meet
        all_goals exact ⟨by simp [h1, h2], rfl⟩
      · go_wp2_with fail
        all_goals go_meet
        all_goals exact ⟨by simp [h1, h2], rfl⟩
  case rest =>
    obtain ⟨rfl, rfl⟩ := hcut
    go_upto_if 90 with fail
    go_cut [23] (fun v wc => v = .int .i64 (p / (q : Int)) ∧ w9 = wc)
    case first =>
      by_cases h1 : p.tmod (q : Int) ≠ 0 ∧ p < 0
      · have h3 := T2.out
        rw [if_pos h1] at h3
        have H3 := hide h3
        clear h3
        rw [decide_eq_true h1]
        go_wp2_with fail
        all_goals go_meet
        all_goals exact ⟨by rw [H3.out], rfl⟩
      · have h3 := T2.out
        rw [if_neg h1] at h3
        have H3 := hide h3
        clear h3
        rw [decide_eq_false h1]
        go_wp2_with fail
        all_goals go_meet
        all_goals exact ⟨by rw [H3.out], rfl⟩
    case rest =>
      obtain ⟨rfl, rfl⟩ := hcut
      go_upto_if 99 with fail
      go_cut [24] (fun v wc => v = .string lt ∧ w9 = wc)
      case first =>
        by_cases h1 : p * (s : Int) < r * (q : Int)
        · have h3 := HLT.out
          rw [if_pos h1] at h3
          subst h3
          go_wp2_with fail
          all_goals go_meet
          all_goals exact ⟨rfl, rfl⟩
        · have h3 := HLT.out
          rw [if_neg h1] at h3
          subst h3
          go_wp2_with fail
          all_goals go_meet
          all_goals exact ⟨rfl, rfl⟩
      case rest =>
        obtain ⟨rfl, rfl⟩ := hcut
        go_wp2_with fail
        refine (lowest_int _ _ (p * s + r * q) (q * s) rfl (by rw [Int.natCast_mul]) (by omega) (by omega) (by omega) _ hg9).mono ?_
        rintro e wA ⟨rfl, hbA⟩
        have hbA' := hb9'.trans (hbA.mono hb9'.size)
        have hgA := hg.below hbA'
        clear hb9' hbA hg9
        go_wp2_with fail
        refine (lowest_int _ _ (p * s - r * q) (q * s) rfl (by rw [Int.natCast_mul]) (by omega) (by omega) (by omega) _ hgA).mono ?_
        rintro e wB ⟨rfl, hbB⟩
        have hbB' := hbA'.trans (hbB.mono hbA'.size)
        have hgB := hg.below hbB'
        clear hbA' hbB hgA
        go_wp2_with fail
        refine (lowest_int _ _ (p * r) (q * s) rfl (by rw [Int.natCast_mul]) (by omega) (by omega) (by omega) _ hgB).mono ?_
        rintro e wC ⟨rfl, hbC⟩
        have hbC' := hbB'.trans (hbC.mono hbB'.size)
        have hgC := hg.below hbC'
        clear hbB' hbC hgB
        go_wp2_with fail
        refine (num_any _ (by omega) (by omega) _ hgC.1).mono ?_
        rintro e wD ⟨rfl, hbD⟩
        have hbD' := hbC'.trans (hbD.mono hbC'.size)
        have hgD := hg.below hbD'
        clear hbC' hbD hgC
        by_cases h0 : r = 0
        · obtain ⟨h1, h2⟩ := (hpt ()).1 h0
          subst h1; subst h2; subst h0
          clear hpt
          go_wp2_with fail
          go_ret
          exact ⟨rfl, hbD'⟩
        · obtain ⟨h1, h2⟩ := (hpt ()).2 h0
          subst h2
          clear hpt
          by_cases hn : r < 0
          · have k0 : ∀ _u : Unit, _ := fun _ => neg_args p r q s n1 n2 n3 n4 hn (Nat.pos_of_ne_zero hq0)
            go_wp2_with fail
            obtain ⟨k1, k2, k3, k4, k5⟩ := k0 ()
            refine (lowest_int _ _ (p * s * r.sign) (q * r.natAbs) k1 k2 k3 k4 k5 _ hgD).mono ?_
            rintro e wE ⟨rfl, hbE⟩
            have hbE' := hbD'.trans (hbE.mono hbD'.size)
            clear k0 k1 k2 k3 k4 k5
            go_wp2_with fail
            go_ret
            exact ⟨rfl, hbE'⟩
          · have k0 : ∀ _u : Unit, _ := fun _ => pos_args p r q s n1 n2 n3 n4 (show 0 < r by omega) (Nat.pos_of_ne_zero hq0)
            go_wp2_with fail
            obtain ⟨k1, k2, k3, k4, k5⟩ := k0 ()
            refine (lowest_int _ _ (p * s * r.sign) (q * r.natAbs) k1 k2 k3 k4 k5 _ hgD).mono ?_
            rintro e wE ⟨rfl, hbE⟩
            have hbE' := hbD'.trans (hbE.mono hbD'.size)
            clear k0 k1 k2 k3 k4 k5
            go_wp2_with fail
            go_ret
            exact ⟨rfl, hbE'⟩
end Go.Proofs.YtnhfdcfnojnofaaGreatDoor
