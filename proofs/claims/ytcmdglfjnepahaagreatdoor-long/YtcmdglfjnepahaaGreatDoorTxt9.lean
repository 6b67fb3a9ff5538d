/-
  Numbers written are read as themselves: facts of texts.
-/
import Derived.Test.YtcmdglfjnepahaaGreatDoorTxt8
import Derived.Test.YtcmdglfjnepahaaGreatDoorTxt4
import Derived.Test.YtcmdglfjnepahaaGreatDoorKee1
import Derived.Lib.IndexMore
set_option linter.unusedSimpArgs false
set_option linter.unusedVariables false
namespace Go.Proofs.YtcmdglfjnepahaaGreatDoor
open Go.RowKit

theorem dig_toNat {k : Nat} (h : k < 10) : (UInt8.ofNat (48 + k)).toNat = 48 + k := by
  rw [UInt8.toNat_ofNat']; omega

theorem allDig_append (a b : List UInt8) : allDig (a ++ b) = (allDig a && allDig b) := by simp [allDig]

theorem dec_all (n : Nat) : allDig (Lib.decDigits n) = true := by
  induction n using Nat.strongRecOn with
  | _ n ih =>
    have h1 : ∀ k, k < 10 → allDig [UInt8.ofNat (48 + k)] = true := by
      intro k hk
      simp only [allDig, List.all_cons, List.all_nil, Bool.and_true, isDig, dig_toNat hk]
      simp; omega
    by_cases h : n < 10
    · rw [Lib.decDigits, dif_pos h]; exact h1 n h
    · rw [Lib.decDigits, dif_neg h, allDig_append, ih (n / 10) (by omega), h1 (n % 10) (Nat.mod_lt _ (by omega))]; rfl

theorem dec_val (n : Nat) : decVal (Lib.decDigits n) = n := by
  induction n using Nat.strongRecOn with
  | _ n ih =>
    by_cases h : n < 10
    · rw [Lib.decDigits, dif_pos h]
      show decVal ([] ++ [_]) = n
      rw [decVal_snoc, dig_toNat h]; simp [decVal]
    · rw [Lib.decDigits, dif_neg h, decVal_snoc, ih (n / 10) (by omega), dig_toNat (Nat.mod_lt _ (by omega))]; omega

theorem index_at (a b : List UInt8) (h : ∀ c ∈ a, c ≠ 47) : Lib.index (a ++ 47 :: b) [47] = a.length := by
  induction a with
  | nil => simp [Lib.index]
  | cons c a ih =>
    have ih := ih (fun d hd => h d (List.mem_cons_of_mem _ hd))
    have hc := h c List.mem_cons_self
    simp only [List.cons_append, Lib.index, ih]
    have hp : ([47] : List UInt8).isPrefixOf (c :: (a ++ 47 :: b)) = false := by
      simp [List.isPrefixOf, Ne.symm hc]
    rw [hp]
    have hn : ((a.length : Int) == -1) = false := by
      rw [beq_eq_false_iff_ne]; omega
    rw [hn]; simp

theorem cut_at (a b : List UInt8) (h : ∀ c ∈ a, c ≠ 47) : Lib.cut (a ++ 47 :: b) [47] = (a, b, true) := by
  unfold Lib.cut
  rw [index_at a b h, if_pos (by omega)]
  simp

theorem dig_ne {l : List UInt8} (h : allDig l = true) : ∀ c ∈ l, c ≠ 47 ∧ c ≠ 45 := by
  intro c hc
  have := isDig_bd (List.all_eq_true.1 h c hc)
  constructor
  · rintro rfl; revert this; decide
  · rintro rfl; revert this; decide

theorem pre_dec (n : Nat) : Lib.hasPrefix (Lib.decDigits n) [45] = false := by
  have h := dig_ne (dec_all n)
  cases hd : Lib.decDigits n with
  | nil => rfl
  | cons c r =>
    have hc := (h c (by rw [hd]; exact List.mem_cons_self)).2
    simp [Lib.hasPrefix, List.isPrefixOf, Ne.symm hc]

theorem trim_itoa (z : Int) : Lib.trimPrefix (Lib.itoa z) [45] = Lib.decDigits z.natAbs ∧ Lib.hasPrefix (Lib.itoa z) [45] = decide (z < 0) := by
  unfold Lib.itoa
  by_cases h : z < 0
  · rw [if_pos h]
    constructor
    · simp [Lib.trimPrefix, Lib.hasPrefix]
    · simp [Lib.hasPrefix, h]
  · rw [if_neg h]
    have e : z.toNat = z.natAbs := by omega
    rw [e]
    constructor
    · rw [Lib.trimPrefix, pre_dec]; rfl
    · rw [pre_dec]; simp [h]

theorem itoa_ne (z : Int) : ∀ c ∈ Lib.itoa z, c ≠ 47 := by
  unfold Lib.itoa
  split
  · intro c hc
    rcases List.mem_cons.1 hc with rfl | h
    · decide
    · exact (dig_ne (dec_all _) c h).1
  · intro c hc
    exact (dig_ne (dec_all _) c hc).1

theorem sg_self (z : Int) : sg (decide (z < 0)) z.natAbs = z := by
  unfold sg
  by_cases h : z < 0
  · simp [h]; omega
  · simp [h]; omega

theorem itoa_nat (b : Nat) : Lib.itoa (b : Int) = Lib.decDigits b := by
  rw [Lib.itoa, if_neg (by omega)]; simp

theorem fracParse_text (a : Int) (b : Nat) (hb : b ≠ 0) (ha1 : a.natAbs < 1000000000) (hb1 : b < 1000000000) (w : World) (mx : Int) (hmx : w.cell? ⟨1, 0, none⟩ = some (.int .i64 mx)) (h1w : 1 < w.heap.size) :
    Calls Tryz.prog 24 #[.string ⟨(overText a (b : Int)).toArray⟩, .int .i64 40] w fun e w' => ∃ x, e = .returned (.tuple #[x, .bool true]) ∧ FracV w' x (a / (Nat.gcd a.natAbs b : Int)) (b / Nat.gcd a.natAbs b) ∧ Below w.heap.size w w' := by
  have hl1 := decDigits_len (n := a.natAbs) (by omega)
  have hl2 := decDigits_len (n := b) (by omega)
  have hl3 := itoa_len ha1
  have ht := trim_itoa a
  have hd : (ByteArray.mk (overText a (b : Int)).toArray).data.toList = overText a (b : Int) := by simp
  refine (fracParse_frac 2 (by omega) (over_any 2 (by omega) longOK_two) ⟨(overText a (b : Int)).toArray⟩ 40 w mx hmx h1w (by omega) (by rw [size_mk, overText, itoa_nat]; simp; omega) (Lib.itoa a) (Lib.decDigits b) (by rw [hd, overText, itoa_nat]; exact cut_at _ _ (itoa_ne a))
    (by rw [ht.1]; omega) (by rw [ht.1]; omega) (by rw [ht.1]; exact dec_all _) (by omega) (by omega) (dec_all _) (by rw [dec_val]; exact hb) (by rw [ht.1, dec_val]; omega) (by rw [dec_val]; omega)).mono ?_
  rintro e w' ⟨x, z, hz, rfl, hx, hbw⟩
  rw [ht.1, ht.2, dec_val, sg_self] at hz
  subst hz
  rw [dec_val] at hx
  exact ⟨x, rfl, hx, hbw⟩
end Go.Proofs.YtcmdglfjnepahaaGreatDoor
