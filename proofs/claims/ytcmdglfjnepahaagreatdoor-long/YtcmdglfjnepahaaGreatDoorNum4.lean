/-
  Plain numbers to the base 2^32: what stands ahead of the division of school, and what is left behind it; no program here.
-/
import Derived.Test.YtcmdglfjnepahaaGreatDoorNum3
import Derived.Lib.BitFns
set_option linter.unusedSimpArgs false
set_option linter.unusedVariables false
namespace Go.Proofs.YtcmdglfjnepahaaGreatDoor
open Go

theorem bitLen_bd : ∀ (x : Nat), 0 < x → x < 2 ^ 64 → 1 ≤ Lib.bitLen x ∧ 2 ^ Lib.bitLen x ≤ 2 * x ∧ x < 2 ^ Lib.bitLen x := by
  intro x
  induction x using Nat.strongRecOn with
  | _ x ih =>
    intro h0 h
    rw [Lib.bitLen_half x (by omega) h]
    by_cases h1 : x / 2 = 0
    · rw [h1, show Lib.bitLen 0 = 0 by decide]
      have : x = 1 := by omega
      subst this; decide
    · obtain ⟨i1, i2, i3⟩ := ih (x / 2) (by omega) (by omega) (by omega)
      generalize Lib.bitLen (x / 2) = b at *
      rw [Nat.add_comm 1 b, Nat.pow_succ]
      omega

theorem lead_shift {x : Nat} (h0 : 0 < x) (h : x < 4294967296) : ∃ s : Nat, s ≤ 31 ∧ (32 - (Lib.bitLen x : Int)) = (s : Int) ∧ 2147483648 ≤ 2 ^ s * x ∧ 2 ^ s * (x + 1) ≤ 4294967296 := by
  obtain ⟨h1, h2, h3⟩ := bitLen_bd x h0 (by omega)
  have h4 : Lib.bitLen x ≤ 32 := by
    rcases Nat.lt_or_ge 32 (Lib.bitLen x) with h5 | h5
    · have := Nat.pow_le_pow_right (n := 2) (by decide) (show 33 ≤ Lib.bitLen x by omega)
      omega
    · exact h5
  generalize Lib.bitLen x = b at *
  obtain ⟨s, rfl⟩ : ∃ s, b = 32 - s := ⟨32 - b, by omega⟩
  have hs : s ≤ 31 := by omega
  have hp : 2 ^ s * 2 ^ (32 - s) = 4294967296 := by rw [← Nat.pow_add, show s + (32 - s) = 32 by omega]
  refine ⟨s, hs, by omega, ?_, ?_⟩
  · have : 2 ^ s * 2 ^ (32 - s) ≤ 2 ^ s * (2 * x) := Nat.mul_le_mul_left _ h2
    have e : 2 ^ s * (2 * x) = 2 * (2 ^ s * x) := by ac_rfl
    omega
  · have : 2 ^ s * (x + 1) ≤ 2 ^ s * 2 ^ (32 - s) := Nat.mul_le_mul_left _ h3
    omega

/-- The divisor, shifted: between half the next power and that power. -/
theorem by_bd {es : List Nat} {t S : Nat} (hd : Dig es) (hl : es.length = t + 2) (h1 : 2147483648 ≤ S * es.getD (t + 1) 0) (h2 : S * (es.getD (t + 1) 0 + 1) ≤ 4294967296) :
    2147483648 * 4294967296 ^ (t + 1) ≤ S * val es ∧ S * val es < 4294967296 ^ (t + 2) := by
  have e := val_take_succ es (t + 1) (by omega)
  rw [List.take_of_length_le (by omega)] at e
  have hlt := val_lt (hd.take (t + 1))
  rw [List.length_take, show min (t + 1) es.length = t + 1 by omega] at hlt
  generalize es.getD (t + 1) 0 = x at *
  generalize val (es.take (t + 1)) = r at *
  rw [e, Nat.pow_succ 4294967296 (t + 1)]
  generalize 4294967296 ^ (t + 1) = P at *
  rw [Nat.mul_add]
  have a1 : 2147483648 * P ≤ S * x * P := Nat.mul_le_mul_right _ h1
  have a2 : S * (x + 1) * P ≤ 4294967296 * P := Nat.mul_le_mul_right _ h2
  have a3 : S * (P * x) = S * x * P := by ac_rfl
  have a4 : S * (x + 1) * P = S * x * P + S * P := by rw [Nat.mul_add, Nat.mul_one, Nat.add_mul]
  have hS : 0 < S := by
    rcases Nat.eq_zero_or_pos S with h | h
    · subst h; omega
    · exact h
  have a5 : S * r < S * P := Nat.mul_lt_mul_of_pos_left hlt hS
  omega

/-- The shifted divisor's digits: as many as the divisor's, the highest with its highest bit set. -/
theorem by_digits {F : List Nat} {t v : Nat} (hd : Dig F) (ht : Top F) (hv : val F = v) (h1 : 2147483648 * 4294967296 ^ (t + 1) ≤ v) (h2 : v < 4294967296 ^ (t + 2)) :
    F.length = t + 2 ∧ 2147483648 ≤ F.getD (t + 1) 0 := by
  have hl := ht.len (k := t + 2) (by rw [hv]; exact h2)
  have hlt := val_lt hd
  have hl2 : t + 1 < F.length := by
    rcases Nat.lt_or_ge (t + 1) F.length with h | h
    · exact h
    · have := pow_mono h
      have h3 := pow_pos (t + 1)
      generalize 4294967296 ^ (t + 1) = P at *
      omega
  have hlen : F.length = t + 2 := by omega
  refine ⟨hlen, ?_⟩
  have e := val_take_succ F (t + 1) hl2
  rw [List.take_of_length_le (by omega), hv] at e
  have hr := val_lt (hd.take (t + 1))
  rw [List.length_take, show min (t + 1) F.length = t + 1 by omega] at hr
  rcases Nat.lt_or_ge (F.getD (t + 1) 0) 2147483648 with h | h
  · exfalso
    generalize F.getD (t + 1) 0 = x at *
    generalize val (F.take (t + 1)) = r at *
    generalize 4294967296 ^ (t + 1) = P at *
    have : P * x ≤ P * 2147483647 := Nat.mul_le_mul_left _ (by omega)
    omega
  · exact h

/-- What stands ahead of the first digit: the highest digits are less than the divisor. -/
theorem left_start {L : List Nat} {M t S m v : Nat} (hl : L.length = M + 1) (hM : t + 2 ≤ M) (hv : val L = S * m) (hm : m < 4294967296 ^ M) (hS : 0 < S) (hS1 : S ≤ 2147483648) (h1 : 2147483648 * 4294967296 ^ (t + 1) ≤ v) :
    val (L.drop (M - t - 1)) < v := by
  have e := val_take_drop L (M - t - 1) (by omega)
  rw [hv] at e
  have hp : 4294967296 ^ M = 4294967296 ^ (M - t - 1) * 4294967296 ^ (t + 1) := by rw [← Nat.pow_add]; congr 1; omega
  have h2 : S * m < S * 4294967296 ^ M := Nat.mul_lt_mul_of_pos_left hm hS
  rw [hp] at h2
  have h0 := pow_pos (M - t - 1)
  generalize val (L.drop (M - t - 1)) = D at *
  generalize 4294967296 ^ (M - t - 1) = P at *
  generalize 4294967296 ^ (t + 1) = R at *
  have h3 : P * D < P * (S * R) := by
    have : S * (P * R) = P * (S * R) := by ac_rfl
    omega
  have h4 := Nat.lt_of_mul_lt_mul_left h3
  have h5 : S * R ≤ 2147483648 * R := Nat.mul_le_mul_right _ hS1
  omega

/-- Behind the last digit: quotient and rest. -/
theorem left_end {S m n r q : Nat} (hS : 0 < S) (h : S * m = r + S * n * q) (hr : r < S * n) : q = m / n ∧ r / S = m % n := by
  have hn : 0 < n := by
    rcases Nat.eq_zero_or_pos n with h0 | h0
    · subst h0; omega
    · exact h0
  have hd : S ∣ r := by
    have h1 : S ∣ S * m := Nat.dvd_mul_right _ _
    have h2 : S ∣ S * n * q := Nat.dvd_trans (Nat.dvd_mul_right S n) (Nat.dvd_mul_right _ _)
    rw [h] at h1
    exact (Nat.dvd_add_left h2).1 h1
  obtain ⟨c, rfl⟩ := hd
  have h1 : m = c + n * q := by
    have : S * m = S * (c + n * q) := by rw [h, Nat.mul_add, Nat.mul_assoc]
    exact Nat.eq_of_mul_eq_mul_left hS this
  have h2 : c < n := Nat.lt_of_mul_lt_mul_left hr
  subst h1
  rw [Nat.mul_div_cancel_left _ hS, Nat.add_mul_div_left _ _ hn, Nat.div_eq_of_lt h2, Nat.zero_add, Nat.add_mul_mod_self_left, Nat.mod_eq_of_lt h2]
  exact ⟨rfl, rfl⟩

/-- The digits of a window of three more than t, and of a divisor of two more, and what guessDigit's answer is worth. -/
theorem guess_good {ds F : List Nat} {t u v g high lead U3 V2 : Nat} (hdl : ds.length = t + 3) (hFl : F.length = t + 2) (hd : Dig ds) (hF : Dig F) (hu : val ds = u) (hv : val F = v) (hlead : 2147483648 ≤ F.getD (t + 1) 0) (huv : u < v * 4294967296)
    (hhigh : high = ds.getD (t + 1) 0 + 4294967296 * ds.getD (t + 2) 0) (hle : lead = F.getD (t + 1) 0) (hU : U3 = high * 4294967296 + ds.getD t 0) (hV : V2 = lead * 4294967296 + F.getD t 0)
    (hL : ∀ Q, Q ≤ high / lead → (∀ k, U3 < k * V2 → Q < k) → Q < 4294967296 → Q ≤ g) (hg : g < 4294967296) (hg2 : g * V2 ≤ U3) : u / v ≤ g ∧ g ≤ u / v + 1 := by
  have e1 := val_take_succ F (t + 1) (by omega)
  rw [List.take_of_length_le (by omega), val_take_succ F t (by omega), hv, ← hle] at e1
  have e2 := val_take_succ ds (t + 2) (by omega)
  rw [List.take_of_length_le (by omega), val_take_succ ds (t + 1) (by omega), val_take_succ ds t (by omega), hu] at e2
  have r1 := val_lt (hF.take t)
  rw [List.length_take, show min t F.length = t by omega] at r1
  have r2 := val_lt (hd.take t)
  rw [List.length_take, show min t ds.length = t by omega] at r2
  have y0 := hd.get t
  rw [← hle] at hlead
  have p0 := pow_pos t
  rw [Nat.pow_succ] at e1 e2
  rw [show t + 2 = t + 1 + 1 by omega, Nat.pow_succ, Nat.pow_succ] at e2
  generalize 4294967296 ^ t = P at *
  generalize val (F.take t) = a at *
  generalize val (ds.take t) = c at *
  generalize ds.getD t 0 = Z at *
  generalize ds.getD (t + 1) 0 = Y at *
  generalize ds.getD (t + 2) 0 = X at *
  generalize F.getD t 0 = sec at *
  have f1 : v = a + V2 * P := by
    rw [e1, hV, Nat.add_mul]
    have : P * 4294967296 * lead = lead * 4294967296 * P := by ac_rfl
    have : P * sec = sec * P := Nat.mul_comm _ _
    omega
  have f2 : u = c + U3 * P := by
    rw [e2, hU, hhigh, Nat.add_mul, Nat.add_mul, Nat.add_mul]
    have a1 : P * 4294967296 * Y = Y * 4294967296 * P := by ac_rfl
    have a2 : P * 4294967296 * 4294967296 * X = 4294967296 * X * 4294967296 * P := by ac_rfl
    have a3 : P * Z = Z * P := Nat.mul_comm _ _
    omega
  have hv0 : 0 < v := by
    have : 2147483648 * 4294967296 ≤ V2 := by omega
    have : 1 * 1 ≤ V2 * P := Nat.mul_le_mul (by omega) p0
    omega
  have hu3 : u < (U3 + 1) * P := by rw [Nat.add_mul]; omega
  constructor
  · refine hL _ ?_ (fun k hk => guess_over (by omega) hv0 hu3 hk rfl) ((Nat.div_lt_iff_lt_mul hv0).2 (by rw [Nat.mul_comm]; exact huv))
    refine guess_start (P := 4294967296 * P) (by omega) ?_ hv0 ?_ (by omega) rfl
    · rw [f1, hV, Nat.add_mul]
      have : lead * (4294967296 * P) = lead * 4294967296 * P := by ac_rfl
      omega
    · have h1 : U3 + 1 ≤ (high + 1) * 4294967296 := by omega
      have h2 : (U3 + 1) * P ≤ (high + 1) * 4294967296 * P := Nat.mul_le_mul_right _ h1
      rw [Nat.mul_assoc] at h2
      omega
  · exact guess_under (P := P) (by rw [f1, Nat.add_mul]; omega) hv0 (by omega) hg2 (by omega) rfl

theorem top_le {ds F : List Nat} {t u v : Nat} (hdl : ds.length = t + 3) (hFl : F.length = t + 2) (hF : Dig F) (hu : val ds = u) (hv : val F = v) (huv : u < v * 4294967296) : ds.getD (t + 2) 0 ≤ F.getD (t + 1) 0 := by
  have e1 := val_take_succ F (t + 1) (by omega)
  rw [List.take_of_length_le (by omega), hv] at e1
  have e2 := val_take_succ ds (t + 2) (by omega)
  rw [List.take_of_length_le (by omega), hu] at e2
  have r1 := val_lt (hF.take (t + 1))
  rw [List.length_take, show min (t + 1) F.length = t + 1 by omega] at r1
  rw [show t + 2 = t + 1 + 1 by omega, Nat.pow_succ] at e2
  have p0 := pow_pos (t + 1)
  generalize 4294967296 ^ (t + 1) = P at *
  generalize val (F.take (t + 1)) = a at *
  generalize val (ds.take (t + 1 + 1)) = c at *
  generalize ds.getD (t + 1 + 1) 0 = X at *
  generalize F.getD (t + 1) 0 = y at *
  have h1 : 4294967296 * P * X < 4294967296 * P * (y + 1) := by
    have a1 : P * 4294967296 * X = 4294967296 * P * X := by ac_rfl
    have a2 : 4294967296 * P * (y + 1) = 4294967296 * (P * y) + 4294967296 * P := by rw [Nat.mul_add, Nat.mul_one, Nat.mul_assoc]
    omega
  have := Nat.lt_of_mul_lt_mul_left h1
  omega

theorem add_back {a c W X : Nat} (ha : a < W) (h : a + W * c = W + X) (hX : X < W) : a = X := by
  rcases Nat.lt_or_ge c 2 with h1 | h1
  · rcases Nat.eq_zero_or_pos c with h2 | h2
    · subst h2; omega
    · have : c = 1 := by omega
      subst this; omega
  · have : W * 2 ≤ W * c := Nat.mul_le_mul_left _ h1
    omega

/-- The window behind a step: right at once. -/
theorem win_right {u V g a r W : Nat} (hV : 0 < V) (h1 : u / V ≤ g) (h2 : g ≤ u / V) (ha : a < W) (h : a + g * V = u + W * r) (hu : u < W) : r = 0 ∧ u = g * V + a ∧ a < V := by
  have hq : g = u / V := Nat.le_antisymm h2 h1
  have hle := Nat.div_mul_le_self u V
  rw [← hq] at hle
  obtain ⟨hr, hw⟩ := take_right ha h hle hu
  have hlt := Nat.lt_div_mul_add hV (a := u)
  rw [← hq] at hlt
  exact ⟨hr, by omega, by omega⟩

/-- The window behind a step: one too many at first. -/
theorem win_wrong {u V g a r c b W : Nat} (hV : 0 < V) (h1 : g = u / V + 1) (ha : a < W) (h : a + g * V = u + W * r) (hu : u < W) (hVW : V < W) : 0 < r ∧ 1 ≤ g ∧ (b < W → b + W * c = a + V → u = (g - 1) * V + b ∧ b < V) := by
  have hlt := Nat.lt_div_mul_add hV (a := u)
  have hle := Nat.div_mul_le_self u V
  obtain ⟨k, hk⟩ : ∃ k, u / V = k := ⟨_, rfl⟩
  rw [hk] at hlt hle h1
  subst h1
  rw [Nat.add_mul, Nat.one_mul] at h
  obtain ⟨h3, h4⟩ := take_wrong (f := k + 1) (v := V) ha (by rw [Nat.add_mul, Nat.one_mul]; exact h) (by rw [Nat.add_mul, Nat.one_mul]; omega) (by rw [Nat.add_mul, Nat.one_mul]; omega) hVW
  rw [Nat.add_mul, Nat.one_mul] at h4
  refine ⟨h3, by omega, fun hb hbc => ?_⟩
  have h5 := add_back (c := c) (X := u - k * V) hb (by omega) (by omega)
  rw [Nat.add_sub_cancel]
  omega
end Go.Proofs.YtcmdglfjnepahaaGreatDoor
