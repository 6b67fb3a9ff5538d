/-
  Calc of two numbers' texts, for each operation, as what comes of it is written.
-/
import Derived.Test.YtcmdglfjnepahaaGreatDoorTxt10
import Derived.Test.YtcmdglfjnepahaaGreatDoorPla4
import Derived.Test.YtcmdglfjnepahaaGreatDoorKee2
set_option linter.unusedSimpArgs false
set_option linter.unusedVariables false
namespace Go.Proofs.YtcmdglfjnepahaaGreatDoor
open Go.RowKit

theorem ten40_5 {n : Nat} (h : n < 10 ^ 40) : n < 4294967296 ^ 5 := Nat.lt_trans h (by decide)

theorem mul40 {x y : Nat} (hx : x < 10 ^ 40) (hy : y < 10 ^ 40) : x * y < 10 ^ 80 := by
  have h := Nat.mul_lt_mul'' hx hy
  rwa [← Nat.pow_add] at h

theorem add80 {x y : Int} (hx : x.natAbs < 10 ^ 80) (hy : y.natAbs < 10 ^ 80) : (x + y).natAbs < 4294967296 ^ 10 := by
  have h1 : (x + y).natAbs ≤ x.natAbs + y.natAbs := Int.natAbs_add_le _ _
  have h2 : 10 ^ 80 + 10 ^ 80 < 4294967296 ^ 10 := by decide
  omega

theorem lt80 {n : Nat} (h : n < 10 ^ 80) : n < 4294967296 ^ 10 := Nat.lt_trans h (by decide)

theorem red_cap (X : Int) (Y : Nat) (h : X.natAbs < 4294967296 ^ 10) : (X / (Nat.gcd X.natAbs Y : Int)).natAbs < Cap := by
  have := Int.natAbs_ediv_le_natAbs X (Nat.gcd X.natAbs Y : Int)
  unfold Cap
  exact Nat.lt_of_le_of_lt this h

theorem redd_cap (X : Int) (Y : Nat) (h : Y < 4294967296 ^ 10) : Y / Nat.gcd X.natAbs Y < Cap := by
  have := Nat.div_le_self Y (Nat.gcd X.natAbs Y)
  unfold Cap
  exact Nat.lt_of_le_of_lt this h

theorem lowText_frac (X : Int) (Y : Nat) : lowText X Y = fracText (X / (Nat.gcd X.natAbs Y : Int)) (Y / Nat.gcd X.natAbs Y) := by
  unfold lowText fracText overText
  rw [itoa_nat]

theorem calcN_plus (s t : ByteArray) (p r : Int) (q u : Nat) (hs : ParseOK s p q) (ht : ParseOK t r u) (hp : p.natAbs < 10 ^ 40) (hr : r.natAbs < 10 ^ 40) (hq : q < 10 ^ 40) (hu : u < 10 ^ 40) (w : World) (hg : Gl w) :
    Calls Tryz.prog 9 #[.int .i64 1, .string s, .string t] w fun e w' => e = .returned (.tuple #[.string ⟨(lowText (p * u + r * q) (q * u)).toArray⟩, .int .i64 0]) ∧ Below w.heap.size w w' := by
  have hZ : (p * (u : Int) + r * (q : Int)).natAbs < 4294967296 ^ 10 := add80 (by rw [Int.natAbs_mul]; exact mul40 hp (by simpa using hu)) (by rw [Int.natAbs_mul]; exact mul40 hr (by simpa using hq))
  have hN : q * u < 4294967296 ^ 10 := lt80 (mul40 hq hu)
  rw [lowText_frac]
  exact planesCalc_of _ _ _ _ _ _ (calc_1 w _ _ p r _ q u _ hg hs ht (fun W x y hx hy => fplus_any 5 10 (by omega) (by omega) overOK_ten W x y p r q u hx hy (ten40_5 hp) (ten40_5 hr) (ten40_5 hq) (ten40_5 hu) hZ hN) (red_cap _ _ hZ) (redd_cap _ _ hN))

theorem calcN_minus (s t : ByteArray) (p r : Int) (q u : Nat) (hs : ParseOK s p q) (ht : ParseOK t r u) (hp : p.natAbs < 10 ^ 40) (hr : r.natAbs < 10 ^ 40) (hq : q < 10 ^ 40) (hu : u < 10 ^ 40) (w : World) (hg : Gl w) :
    Calls Tryz.prog 9 #[.int .i64 2, .string s, .string t] w fun e w' => e = .returned (.tuple #[.string ⟨(lowText (p * u + (-r) * q) (q * u)).toArray⟩, .int .i64 0]) ∧ Below w.heap.size w w' := by
  have hZ : (p * (u : Int) + (-r) * (q : Int)).natAbs < 4294967296 ^ 10 := add80 (by rw [Int.natAbs_mul]; exact mul40 hp (by simpa using hu)) (by rw [Int.natAbs_mul, Int.natAbs_neg]; exact mul40 hr (by simpa using hq))
  have hN : q * u < 4294967296 ^ 10 := lt80 (mul40 hq hu)
  rw [lowText_frac]
  exact planesCalc_of _ _ _ _ _ _ (calc_2 w _ _ p r _ q u _ hg hs ht (fun W x y hx hy => fminus_any 5 10 (by omega) (by omega) overOK_ten W x y p r q u hx hy (ten40_5 hp) (ten40_5 hr) (ten40_5 hq) (ten40_5 hu) hZ hN) (red_cap _ _ hZ) (redd_cap _ _ hN))

theorem calcN_times (s t : ByteArray) (p r : Int) (q u : Nat) (hs : ParseOK s p q) (ht : ParseOK t r u) (hp : p.natAbs < 10 ^ 40) (hr : r.natAbs < 10 ^ 40) (hq : q < 10 ^ 40) (hu : u < 10 ^ 40) (w : World) (hg : Gl w) :
    Calls Tryz.prog 9 #[.int .i64 3, .string s, .string t] w fun e w' => e = .returned (.tuple #[.string ⟨(lowText (p * r) (q * u)).toArray⟩, .int .i64 0]) ∧ Below w.heap.size w w' := by
  have hZ : (p * r).natAbs < 4294967296 ^ 10 := by rw [Int.natAbs_mul]; exact lt80 (mul40 hp hr)
  have hN : q * u < 4294967296 ^ 10 := lt80 (mul40 hq hu)
  rw [lowText_frac]
  exact planesCalc_of _ _ _ _ _ _ (calc_3 w _ _ p r _ q u _ hg hs ht (fun W x y hx hy => ftimes_any 5 (by omega) overOK_ten W x y p r q u hx hy (ten40_5 hp) (ten40_5 hr) (ten40_5 hq) (ten40_5 hu)) (red_cap _ _ hZ) (redd_cap _ _ hN))

theorem calcN_over (s t : ByteArray) (p r : Int) (q u : Nat) (hs : ParseOK s p q) (ht : ParseOK t r u) (hp : p.natAbs < 10 ^ 40) (hr : r.natAbs < 10 ^ 40) (hq : q < 10 ^ 40) (hu : u < 10 ^ 40) (hr0 : r ≠ 0) (w : World) (hg : Gl w) :
    Calls Tryz.prog 9 #[.int .i64 4, .string s, .string t] w fun e w' => e = .returned (.tuple #[.string ⟨(lowText (p * u * r.sign) (q * r.natAbs)).toArray⟩, .int .i64 0]) ∧ Below w.heap.size w w' := by
  have hZ : (p * (u : Int) * r.sign).natAbs < 4294967296 ^ 10 := by
    rw [Int.natAbs_mul, Int.natAbs_mul, Int.natAbs_sign]
    simp only [hr0, if_false, Nat.mul_one]
    exact lt80 (mul40 hp (by simpa using hu))
  have hN : q * r.natAbs < 4294967296 ^ 10 := lt80 (mul40 hq hr)
  rw [lowText_frac]
  exact planesCalc_of _ _ _ _ _ _ (calc_4 w _ _ p r _ q u _ hg hs ht hr0 (fun W x y hx hy => fover_any 5 (by omega) overOK_ten W x y p r q u hx hy hr0 (ten40_5 hp) (ten40_5 hr) (ten40_5 hq) (ten40_5 hu)) (red_cap _ _ hZ) (redd_cap _ _ hN))

theorem calcN_floor (s t : ByteArray) (p r : Int) (q u : Nat) (hs : ParseOK s p q) (ht : ParseOK t r u) (hp : p.natAbs < 10 ^ 40) (hq : q < 10 ^ 40) (w : World) (hg : Gl w) :
    Calls Tryz.prog 9 #[.int .i64 5, .string s, .string t] w fun e w' => e = .returned (.tuple #[.string ⟨(Lib.itoa (p / (q : Int))).toArray⟩, .int .i64 0]) ∧ Below w.heap.size w w' := by
  have h1 : (p / (q : Int)).natAbs < Cap := by
    have := Int.natAbs_ediv_le_natAbs p (q : Int)
    unfold Cap
    exact Nat.lt_of_le_of_lt this (ten40 hp)
  have e : Lib.itoa (p / (q : Int)) = fracText (p / (q : Int)) 1 := by rw [fracText, if_pos rfl]
  rw [e]
  exact planesCalc_of _ _ _ _ _ _ (calc_5 w _ _ p r _ q u _ hg hs ht (fun W x y hx hy => opFloor_any 10 (by omega) overOK_ten W x y p r q u hx hy (ten40 hp) (ten40 hq)) h1 (cap_small (by omega)))

theorem calcN_less (s t : ByteArray) (p r : Int) (q u : Nat) (hs : ParseOK s p q) (ht : ParseOK t r u) (hp : p.natAbs < 10 ^ 40) (hr : r.natAbs < 10 ^ 40) (hq : q < 10 ^ 40) (hu : u < 10 ^ 40) (w : World) (hg : Gl w) :
    Calls Tryz.prog 9 #[.int .i64 6, .string s, .string t] w fun e w' => e = .returned (.tuple #[.string ⟨(Lib.itoa (if p * (u : Int) < r * (q : Int) then 1 else 0)).toArray⟩, .int .i64 0]) ∧ Below w.heap.size w w' := by
  have e : ∀ z, Lib.itoa z = fracText z 1 := fun z => by rw [fracText, if_pos rfl]
  rw [e]
  exact planesCalc_of _ _ _ _ _ _ (calc_6 w _ _ p r _ q u _ hg hs ht (fun W x y hx hy => opLess_any 5 (by omega) W x y p r q u hx hy (ten40_5 hp) (ten40_5 hr) (ten40_5 hq) (ten40_5 hu)) (cap_small (by split <;> omega)) (cap_small (by omega)))
end Go.Proofs.YtcmdglfjnepahaaGreatDoor
