/-
  Plain numbers to the base 2^32: the division of school by guessed digits; no program here.
-/
import Derived.Test.YtcmdglfjnepahaaGreatDoorNum2
set_option linter.unusedSimpArgs false
set_option linter.unusedVariables false
namespace Go.Proofs.YtcmdglfjnepahaaGreatDoor

/-- What stands ahead of the loop: the guess from the two highest digits is not too small. -/
theorem guess_start {u v lead high P Q : Nat} (hP : 0 < P) (hv : lead * P ≤ v) (hv0 : 0 < v) (hu : u < (high + 1) * P) (hl : 0 < lead) (hQ : Q = u / v) : Q ≤ high / lead := by
  subst hQ
  rw [Nat.le_div_iff_mul_le hl]
  have h1 : u / v * v ≤ u := Nat.div_mul_le_self u v
  have h2 : u / v * (lead * P) ≤ u / v * v := Nat.mul_le_mul_left _ hv
  have h3 : (u / v * lead) * P < (high + 1) * P := by
    rw [Nat.mul_assoc]; omega
  exact Nat.lt_succ_iff.1 (Nat.lt_of_mul_lt_mul_right h3)

/-- A guess that is too great for the three highest digits is too great. -/
theorem guess_over {u v P V2 U3 g Q : Nat} (hv : V2 * P ≤ v) (hv0 : 0 < v) (hu : u < (U3 + 1) * P) (hg : U3 < g * V2) (hQ : Q = u / v) : Q < g := by
  subst hQ
  rw [Nat.div_lt_iff_lt_mul hv0]
  have h1 : (U3 + 1) * P ≤ g * V2 * P := Nat.mul_le_mul_right _ hg
  have h2 : g * (V2 * P) ≤ g * v := Nat.mul_le_mul_left _ hv
  rw [← Nat.mul_assoc] at h2
  omega

/-- A guess that is not too great for the three highest digits is at most one too great. -/
theorem guess_under {u v P V2 U3 g Q : Nat} (hv : v < (V2 + 1) * P) (hv0 : 0 < v) (hu : U3 * P ≤ u) (hg : g * V2 ≤ U3) (hgl : g ≤ V2) (hQ : Q = u / v) : g ≤ Q + 1 := by
  have h1 : u < (Q + 1) * v := (Nat.div_lt_iff_lt_mul hv0).1 (by rw [hQ]; exact Nat.lt_succ_self _)
  clear hQ
  rcases Nat.lt_or_ge (Q + 1) g with h | h
  · exfalso
    obtain ⟨k, rfl⟩ : ∃ k, g = k + 1 := ⟨g - 1, by omega⟩
    have h2 : (Q + 1) * v ≤ k * v := Nat.mul_le_mul_right _ (by omega)
    have h3 : k * v ≤ k * ((V2 + 1) * P) := Nat.mul_le_mul_left _ (Nat.le_of_lt hv)
    have h4 : (k + 1) * V2 * P ≤ U3 * P := Nat.mul_le_mul_right _ hg
    have h5 : k * ((V2 + 1) * P) = (k * V2 + k) * P := by rw [← Nat.mul_assoc, Nat.mul_add, Nat.mul_one]
    have h6 : (k + 1) * V2 * P = (k * V2 + V2) * P := by rw [Nat.add_mul, Nat.one_mul]
    have h7 : (k * V2 + V2) * P < (k * V2 + k) * P := by omega
    have h8 := Nat.lt_of_mul_lt_mul_right h7
    omega
  · exact h

/-- The window behind the first taking away: the guess was right. -/
theorem take_right {a u v f r W : Nat} (ha : a < W) (h : a + f * v = u + W * r) (hf : f * v ≤ u) (hu : u < W) : r = 0 ∧ a = u - f * v := by
  rcases Nat.eq_zero_or_pos r with h0 | h0
  · subst h0; exact ⟨rfl, by omega⟩
  · have : W * 1 ≤ W * r := Nat.mul_le_mul_left _ h0
    omega

/-- The window behind the first taking away: the guess was one too great. -/
theorem take_wrong {a u v f r W : Nat} (ha : a < W) (h : a + f * v = u + W * r) (hf : u < f * v) (hfv : f * v ≤ u + v) (hv : v < W) : 0 < r ∧ a + v = u + W + v - f * v := by
  rcases Nat.eq_zero_or_pos r with h0 | h0
  · subst h0; omega
  · rcases Nat.lt_or_ge 1 r with h1 | h1
    · have : W * 2 ≤ W * r := Nat.mul_le_mul_left _ h1
      omega
    · have : r = 1 := by omega
      subst this; omega

theorem mod_of {u v q a : Nat} (hq : q = u / v) (ha : a = u - q * v) : a = u % v := by
  subst hq; subst ha
  have := Nat.mod_add_div u v
  rw [Nat.mul_comm] at this; omega

/-- What a list of digits is behind a window of it has been written anew. -/
def splice (L W : List Nat) (j : Nat) : List Nat := L.take j ++ (W ++ L.drop (j + W.length))

theorem splice_len {L W : List Nat} {j : Nat} (h : j + W.length ≤ L.length) : (splice L W j).length = L.length := by
  simp [splice]; omega

theorem splice_dig {L W : List Nat} {j : Nat} (hL : Dig L) (hW : Dig W) : Dig (splice L W j) := (hL.take _).append (hW.append (hL.drop _))

theorem splice_drop {L W : List Nat} {j : Nat} (h : j ≤ L.length) : (splice L W j).drop j = W ++ L.drop (j + W.length) := by
  rw [splice, List.drop_append_of_le_length (by simp; omega), List.drop_of_length_le (by simp; omega), List.nil_append]

theorem splice_take {L W : List Nat} {j : Nat} (h : j ≤ L.length) : (splice L W j).take j = L.take j := by
  rw [splice, List.take_append_of_le_length (by simp; omega), List.take_of_length_le (by simp; omega)]

/-- The window ahead of a step. -/
theorem window_val {L : List Nat} {j t v : Nat} (hL : Dig L) (hj : j + t + 1 ≤ L.length) (hlt : val (L.drop (j + 1)) < v) (hv : v < 4294967296 ^ t) :
    val ((L.drop j).take (t + 1)) = val (L.drop j) ∧ val (L.drop (j + (t + 1))) = 0 ∧ val (L.drop j) < v * 4294967296 := by
  have e1 := val_drop L j (by omega)
  have e2 := val_take_drop (L.drop (j + 1)) t (by simp; omega)
  rw [List.drop_drop] at e2
  have h0 : val (L.drop (j + 1 + t)) = 0 := by
    rcases Nat.eq_zero_or_pos (val (L.drop (j + 1 + t))) with h | h
    · exact h
    · have : 4294967296 ^ t * 1 ≤ 4294967296 ^ t * val (L.drop (j + 1 + t)) := Nat.mul_le_mul_left _ h
      omega
  have e3 := val_take_drop (L.drop j) (t + 1) (by simp; omega)
  rw [List.drop_drop] at e3
  have h1 : val (L.drop (j + (t + 1))) = 0 := by rw [show j + (t + 1) = j + 1 + t by omega]; exact h0
  rw [h1, Nat.mul_zero, Nat.add_zero] at e3
  refine ⟨e3.symm, h1, ?_⟩
  have := hL.get j
  rw [e1]
  have : val (L.drop (j + 1)) + 1 ≤ v := hlt
  omega

/-- One step of the division. -/
theorem long_step {L W Q : List Nat} {j t v q N : Nat} (hL : j + t + 1 ≤ L.length) (hW : W.length = t + 1) (hQ : j < Q.length)
    (hwin : val ((L.drop j).take (t + 1)) = val (L.drop j)) (h0 : val (L.drop (j + (t + 1))) = 0)
    (hq : val (L.drop j) = q * v + val W) (hinv : N = val L + v * (4294967296 ^ (j + 1) * val (Q.drop (j + 1)))) :
    N = val (splice L W j) + v * (4294967296 ^ j * val ((Q.set j q).drop j)) ∧ val ((splice L W j).drop j) = val W := by
  have e1 := val_take_drop L j (by omega)
  have e2 : val ((splice L W j).drop j) = val W := by
    rw [splice_drop (by omega), val_append, hW, h0, Nat.mul_zero, Nat.add_zero]
  have e3 := val_take_drop (splice L W j) j (by rw [splice_len (by omega)]; omega)
  rw [splice_take (by omega), e2] at e3
  have e4 := val_drop (Q.set j q) j (by simpa using hQ)
  rw [getD_set_same Q j q hQ, drop_set_succ] at e4
  refine ⟨?_, e2⟩
  rw [hinv, e1, hq, e3, e4, Nat.pow_succ]
  generalize 4294967296 ^ j = P
  generalize val (Q.drop (j + 1)) = D
  generalize val (L.take j) = A
  generalize val W = R
  simp only [Nat.mul_add]
  have e6 : P * (q * v) = v * (P * q) := by ac_rfl
  have e7 : v * (P * 4294967296 * D) = v * (P * (4294967296 * D)) := by ac_rfl
  omega
end Go.Proofs.YtcmdglfjnepahaaGreatDoor
