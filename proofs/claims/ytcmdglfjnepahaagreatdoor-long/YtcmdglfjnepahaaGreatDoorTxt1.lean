/-
  Decimal digits read: allDigits, piece.
-/
import Derived.Test.YtcmdglfjnepahaaGreatDoorNat7
set_option linter.unusedSimpArgs false
set_option linter.unusedVariables false
namespace Go.Proofs.YtcmdglfjnepahaaGreatDoor
open Go.RowKit

/-- A byte that is a decimal digit. -/
def isDig (c : UInt8) : Bool := decide (48 ≤ c.toNat) && decide (c.toNat ≤ 57)
/-- All bytes are decimal digits. -/
def allDig (l : List UInt8) : Bool := l.all isDig
/-- The number that decimal digits are. -/
def decVal (l : List UInt8) : Nat := l.foldl (fun a c => a * 10 + (c.toNat - 48)) 0

theorem decVal_snoc (l : List UInt8) (c : UInt8) : decVal (l ++ [c]) = decVal l * 10 + (c.toNat - 48) := by simp [decVal, List.foldl_append]

theorem isDig_bd {c : UInt8} (h : isDig c = true) : 48 ≤ c.toNat ∧ c.toNat ≤ 57 := by
  unfold isDig at h; simpa using h

theorem allDig_get {l : List UInt8} (h : allDig l = true) (i : Nat) (hi : i < l.length) : 48 ≤ l[i].toNat ∧ l[i].toNat ≤ 57 := by
  unfold allDig at h
  rw [List.all_eq_true] at h
  exact isDig_bd (h _ (List.getElem_mem hi))

theorem decVal_take_succ (l : List UInt8) (k : Nat) (h : k < l.length) : decVal (l.take (k + 1)) = decVal (l.take k) * 10 + (l[k].toNat - 48) := by
  rw [List.take_succ_eq_append_getElem h, decVal_snoc]

theorem decVal_take_lt {l : List UInt8} (h : allDig l = true) (k : Nat) (hk : k ≤ l.length) : decVal (l.take k) < 10 ^ k := by
  induction k with
  | zero => simp [decVal]
  | succ k ih =>
    have h1 := ih (by omega)
    have h2 := allDig_get h k (by omega)
    rw [decVal_take_succ l k (by omega), Nat.pow_succ]
    generalize 10 ^ k = p at *
    omega

theorem decVal_lt {l : List UInt8} (h : allDig l = true) : decVal l < 10 ^ l.length := by
  have := decVal_take_lt h l.length (Nat.le_refl _)
  rwa [List.take_length] at this

theorem dec_fold (x : Nat) (b : List UInt8) : b.foldl (fun a c => a * 10 + (c.toNat - 48)) x = x * 10 ^ b.length + decVal b := by
  induction b generalizing x with
  | nil => simp [decVal]
  | cons c b ih =>
    have e1 : decVal (c :: b) = b.foldl (fun a c => a * 10 + (c.toNat - 48)) (c.toNat - 48) := by simp [decVal]
    rw [List.foldl_cons, ih, e1, ih (c.toNat - 48), List.length_cons, Nat.pow_succ, Nat.add_mul, Nat.mul_assoc, Nat.mul_comm 10 (10 ^ b.length)]
    omega

theorem decVal_append (a b : List UInt8) : decVal (a ++ b) = decVal a * 10 ^ b.length + decVal b := by
  have e : decVal (a ++ b) = b.foldl (fun a c => a * 10 + (c.toNat - 48)) (decVal a) := by simp [decVal, List.foldl_append]
  rw [e, dec_fold]

set_option maxRecDepth 100000 in
set_option maxHeartbeats 400000 in
theorem allDigits_yes (s : ByteArray) (w : World) (hs : s.size ≤ 1099511627776) (h : allDig s.data.toList = true) :
    Calls Tryz.prog 78 #[.string s] w fun e w' => e = .returned (.bool true) ∧ w' = w := by
  have hall : ∀ i (hi : i < s.size), 48 ≤ s[i].toNat ∧ s[i].toNat ≤ 57 := fun i hi => allDig_get h i (by simpa using hi)
  clear h
  go_enter Tryz.func78, Tryz.ntmps78
  go_wp2
  go_loop [6] (fun i => ∃ k : Nat, k ≤ s.size ∧ i = .int .i64 k) (fun i => s.size - (intOf i).toNat)
  case atStart => exact ⟨0, Nat.zero_le _, rfl⟩
  case round =>
    obtain ⟨k, hk, rfl⟩ := hrel
    by_cases hlt : k < s.size
    · have h1 := (hall k hlt).1
      have h2 := (hall k hlt).2
      have h3 : (48 : Int) ≤ (s[k].toNat : Int) := by omega
      have h4 : (s[k].toNat : Int) ≤ 57 := by omega
      go_wp2
      go_round
      case rel => exact ⟨k + 1, by omega, by go_num⟩
      case measure => simp [intOf]; omega
    · go_wp2
      go_ret
      exact ⟨rfl, rfl⟩

theorem first_bad {l : List UInt8} (h : allDig l = false) : ∃ k, ∃ hk : k < l.length, (l[k].toNat < 48 ∨ 57 < l[k].toNat) ∧ ∀ i (hi : i < k), 48 ≤ (l[i]'(by omega)).toNat ∧ (l[i]'(by omega)).toNat ≤ 57 := by
  induction l with
  | nil => simp [allDig] at h
  | cons c l ih =>
    by_cases hc : isDig c = true
    · have h1 : allDig l = false := by
        unfold allDig at h ⊢
        rw [List.all_cons, hc, Bool.true_and] at h
        exact h
      obtain ⟨k, hk, h2, h3⟩ := ih h1
      refine ⟨k + 1, by simpa using hk, by simpa using h2, ?_⟩
      intro i hi
      cases i with
      | zero => exact isDig_bd hc
      | succ i => have := h3 i (by omega); simpa using this
    · refine ⟨0, by simp, ?_, fun i hi => by omega⟩
      unfold isDig at hc
      simp at hc ⊢
      omega

set_option maxRecDepth 100000 in
set_option maxHeartbeats 400000 in
theorem allDigits_no (s : ByteArray) (w : World) (hs : s.size ≤ 1099511627776) (h : allDig s.data.toList = false) :
    Calls Tryz.prog 78 #[.string s] w fun e w' => e = .returned (.bool false) ∧ w' = w := by
  obtain ⟨n, hn, hbad, hgood⟩ := first_bad h
  have hn' : n < s.size := by simpa using hn
  have hbad' : s[n].toNat < 48 ∨ 57 < s[n].toNat := hbad
  have hall : ∀ i (hi : i < n), 48 ≤ (s[i]'(by omega)).toNat ∧ (s[i]'(by omega)).toNat ≤ 57 := fun i hi => hgood i hi
  clear h hbad hgood
  go_enter Tryz.func78, Tryz.ntmps78
  go_wp2
  go_loop [6] (fun i => ∃ k : Nat, k ≤ n ∧ i = .int .i64 k) (fun i => n - (intOf i).toNat)
  case atStart => exact ⟨0, Nat.zero_le _, rfl⟩
  case round =>
    obtain ⟨k, hk, rfl⟩ := hrel
    by_cases hlt : k < n
    · have hlt2 : k < s.size := by omega
      have h1 := (hall k hlt).1
      have h2 := (hall k hlt).2
      have h3 : (48 : Int) ≤ (s[k].toNat : Int) := by omega
      have h4 : (s[k].toNat : Int) ≤ 57 := by omega
      go_wp2
      go_round
      case rel => exact ⟨k + 1, by omega, by go_num⟩
      case measure => simp [intOf]; omega
    · have hkn : k = n := by omega
      subst hkn
      rcases hbad' with h5 | h5
      · have h6 : (s[k].toNat : Int) < 48 := by omega
        go_wp2
        go_ret
        exact ⟨rfl, rfl⟩
      · have h6 : 57 < (s[k].toNat : Int) := by omega
        have h7 : (48 : Int) ≤ (s[k].toNat : Int) := by omega
        go_wp2
        go_ret
        exact ⟨rfl, rfl⟩

set_option maxRecDepth 100000 in
set_option maxHeartbeats 400000 in
theorem piece_any (s : ByteArray) (w : World) (hs : s.size ≤ 9) (h : allDig s.data.toList = true) :
    Calls Tryz.prog 81 #[.string s] w fun e w' => e = .returned (.int .u32 (decVal s.data.toList : Nat)) ∧ w' = w := by
  have hall : ∀ i (hi : i < s.size), 48 ≤ s[i].toNat ∧ s[i].toNat ≤ 57 := fun i hi => allDig_get h i (by simpa using hi)
  have hlt0 : ∀ k, k ≤ s.size → decVal (s.data.toList.take k) < 10 ^ k := fun k hk => decVal_take_lt h k (by simpa using hk)
  have hstep : ∀ k (hk : k < s.size), decVal (s.data.toList.take (k + 1)) = decVal (s.data.toList.take k) * 10 + (s[k].toNat - 48) := fun k hk => decVal_take_succ _ k (by simpa using hk)
  have HALL := hide hall
  have HLT := hide hlt0
  have HST := hide hstep
  clear h hall hlt0 hstep
  go_enter Tryz.func81, Tryz.ntmps81
  go_wp2
  go_loop [3, 7] (fun v i => ∃ k : Nat, k ≤ s.size ∧ i = .int .i64 k ∧ v = .int .u32 (decVal (s.data.toList.take k) : Nat)) (fun _ i => s.size - (intOf i).toNat)
  case atStart => exact ⟨0, Nat.zero_le _, rfl, rfl⟩
  case round =>
    obtain ⟨k, hk, rfl, rfl⟩ := hrel
    by_cases hlt : k < s.size
    · have h1 := (HALL.out k hlt).1
      have h2 := (HALL.out k hlt).2
      have h3 : (48 : Int) ≤ (s[k].toNat : Int) := by omega
      have h4 : (s[k].toNat : Int) ≤ 57 := by omega
      have h5 := HLT.out k hk
      have h6 : 10 ^ k ≤ 10 ^ 8 := Nat.pow_le_pow_right (by omega) (by omega)
      have h7 : decVal (s.data.toList.take k) < 100000000 := by omega
      have HS := hide (HST.out k hlt)
      generalize decVal (s.data.toList.take k) = x at *
      clear h5 h6
      go_wp2
      go_round
      case rel => exact ⟨k + 1, by omega, by go_num, by rw [HS.out]; exact congrArg (Value.int .u32) (by omega)⟩
      case measure => simp [intOf]; omega
    · have hke : k = s.size := by omega
      have HE : Hid (decVal (s.data.toList.take k) = decVal s.data.toList) := by rw [Hid, List.take_of_length_le (by simp; omega)]
      clear hke
      go_wp2
      go_ret
      exact ⟨ret_int (by rw [HE.out]), rfl⟩
end Go.Proofs.YtcmdglfjnepahaaGreatDoor
