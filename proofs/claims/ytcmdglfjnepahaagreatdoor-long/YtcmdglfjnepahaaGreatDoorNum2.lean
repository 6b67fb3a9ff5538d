/-
  More plain numbers: one round of dividing by a digit; one round of multiplying.
-/
import Derived.Test.YtcmdglfjnepahaaGreatDoorNum
set_option linter.unusedSimpArgs false
set_option linter.unusedVariables false
namespace Go.Proofs.YtcmdglfjnepahaaGreatDoor

theorem take_set_le (ds : List Nat) (k x : Nat) : (ds.set k x).take k = ds.take k := List.take_set_of_le (Nat.le_refl _)

theorem getD_of_take {a b : List Nat} {k : Nat} (h : a.take (k + 1) = b.take (k + 1)) : a.getD k 0 = b.getD k 0 := by
  have e1 : (a.take (k + 1))[k]? = a[k]? := by rw [List.getElem?_take, if_pos (by omega)]
  have e2 : (b.take (k + 1))[k]? = b[k]? := by rw [List.getElem?_take, if_pos (by omega)]
  rw [List.getD_eq_getElem?_getD, List.getD_eq_getElem?_getD, ← e1, ← e2, h]

theorem take_pred {a b : List Nat} {k : Nat} (h : a.take (k + 1) = b.take (k + 1)) : a.take k = b.take k := by
  have e1 : (a.take (k + 1)).take k = a.take k := by rw [List.take_take, Nat.min_eq_left (by omega)]
  have e2 : (b.take (k + 1)).take k = b.take k := by rw [List.take_take, Nat.min_eq_left (by omega)]
  rw [← e1, ← e2, h]

theorem div_step {cur ds : List Nat} {k D r : Nat} (hk : k < cur.length) (hl : cur.length = ds.length) (hi : val (ds.drop (k + 1)) = D * val (cur.drop (k + 1)) + r) :
    val (ds.drop k) = D * val ((cur.set k ((ds.getD k 0 + 4294967296 * r) / D)).drop k) + (ds.getD k 0 + 4294967296 * r) % D := by
  rw [val_drop ds k (by omega), val_drop _ k (by simpa using hk), getD_set_same cur k _ hk, drop_set_succ, hi]
  generalize ds.getD k 0 = x
  generalize val (cur.drop (k + 1)) = Q
  have h1 := Nat.div_add_mod (x + 4294967296 * r) D
  rw [Nat.mul_add D, Nat.mul_left_comm D 4294967296 Q, Nat.mul_add 4294967296]
  omega

theorem div_bd {x D r : Nat} (hx : x < 4294967296) (hr : r < D) : (x + 4294967296 * r) / D < 4294967296 := by
  rw [Nat.div_lt_iff_lt_mul (by omega)]
  have : 4294967296 * (r + 1) ≤ 4294967296 * D := Nat.mul_le_mul_left _ hr
  omega

theorem mul_step {cur cur' es : List Nat} {k j d c : Nat} (hk : k + j < cur'.length) (hdr : cur'.drop (k + j) = cur.drop (k + j))
    (hi : val (cur'.take (k + j)) + 4294967296 ^ (k + j) * c = val (cur.take (k + j)) + 4294967296 ^ k * (d * val (es.take j))) :
    val ((cur'.set (k + j) ((c + (d * es.getD j 0 + cur.getD (k + j) 0)) % 4294967296)).take (k + (j + 1))) + 4294967296 ^ (k + (j + 1)) * ((c + (d * es.getD j 0 + cur.getD (k + j) 0)) / 4294967296) =
      val (cur.take (k + (j + 1))) + 4294967296 ^ k * (d * val (es.take (j + 1))) := by
  have h := val_lay cur' (k + j) (c + (d * es.getD j 0 + cur.getD (k + j) 0)) hk
  rw [← Nat.add_assoc, h, val_take_any cur (k + j), val_take_any es j]
  generalize val (cur'.take (k + j)) = A at *
  generalize val (cur.take (k + j)) = C at *
  generalize val (es.take j) = E at *
  generalize es.getD j 0 = y
  generalize cur.getD (k + j) 0 = z
  rw [Nat.pow_add] at hi ⊢
  generalize 4294967296 ^ k = p at *
  generalize 4294967296 ^ j = q at *
  have e1 : p * q * (c + (d * y + z)) = p * q * c + p * q * (d * y) + p * q * z := by rw [Nat.mul_add, Nat.mul_add, Nat.add_assoc]
  have e2 : p * (d * (E + q * y)) = p * (d * E) + p * q * (d * y) := by
    rw [Nat.mul_add, Nat.mul_add, Nat.mul_assoc p q, Nat.mul_left_comm d q y]
  rw [e1, e2]
  omega

theorem mul_end {cur cur' ds es : List Nat} {k d c : Nat} (hk : k + es.length < cur'.length) (hd : d = ds.getD k 0)
    (hi : val (cur'.take (k + es.length)) + 4294967296 ^ (k + es.length) * c = val (cur.take (k + es.length)) + 4294967296 ^ k * (d * val es))
    (ho : val (cur.take (k + es.length)) = val (ds.take k) * val es) :
    val ((cur'.set (k + es.length) c).take (k + 1 + es.length)) = val (ds.take (k + 1)) * val es := by
  rw [show k + 1 + es.length = k + es.length + 1 by omega, take_set_succ cur' _ c hk, val_append, List.length_take, Nat.min_eq_left (by omega), val_take_any ds k, ← hd]
  simp only [val, Nat.mul_zero, Nat.add_zero]
  rw [hi, ho, Nat.add_mul, Nat.mul_assoc]

theorem mul_bd2 {c d e z : Nat} (hc : c < 4294967296) (hd : d < 4294967296) (he : e < 4294967296) (hz : z < 4294967296) : c + (d * e + z) < 18446744073709551616 ∧ (c + (d * e + z)) / 4294967296 < 4294967296 := by
  have h1 : d * e ≤ 4294967295 * 4294967295 := Nat.mul_le_mul (by omega) (by omega)
  omega

theorem val_snoc0 (a : List Nat) (n : Nat) : val (a ++ List.replicate n 0) = val a := by
  rw [val_append, val_replicate, Nat.mul_zero, Nat.add_zero]

/-- Nothing is carried out of a sum with one digit more than the longer one. -/
theorem sum_fits {a b s : List Nat} {c : Nat} (ha : Dig a) (hb : Dig b) (hl : b.length ≤ a.length) (h : val s + 4294967296 ^ (a.length + 1) * c = val a + val b) : val s = val a + val b := by
  have h1 := val_lt ha
  have h2 := Nat.lt_of_lt_of_le (val_lt hb) (pow_mono hl)
  rw [Nat.pow_succ] at h
  generalize 4294967296 ^ a.length = p at *
  have h5 : p * 2 ≤ p * 4294967296 := Nat.mul_le_mul_left p (by omega)
  generalize p * 4294967296 = r at *
  cases c with
  | zero => rw [Nat.mul_zero, Nat.add_zero] at h; exact h
  | succ c =>
    exfalso
    rw [Nat.mul_succ r c] at h
    generalize r * c = q at *
    omega

theorem sub_fits {a b s : List Nat} {r L : Nat} (hs : Dig s) (hL : s.length = L) (hle : val b ≤ val a) (h : val s + 1 * val b = val a + 4294967296 ^ L * r) : val s = val a - val b := by
  have h1 := val_lt hs
  rw [hL] at h1
  generalize 4294967296 ^ L = p at *
  cases r with
  | zero => rw [Nat.mul_zero, Nat.add_zero, Nat.one_mul] at h; omega
  | succ r =>
    exfalso
    rw [Nat.mul_succ p r] at h
    generalize p * r = q at *
    omega
end Go.Proofs.YtcmdglfjnepahaaGreatDoor
