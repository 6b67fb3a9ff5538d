/-
  Plain numbers to the base 2^32, as lists of digits, the least first; no program here.
-/
set_option linter.unusedSimpArgs false
set_option linter.unusedVariables false
namespace Go.Proofs.YtcmdglfjnepahaaGreatDoor

/-- The number that a list of digits to the base 2^32 is, the least first. -/
def val : List Nat → Nat
  | [] => 0
  | d :: ds => d + 4294967296 * val ds

/-- Each digit is below the base. -/
def Dig (ds : List Nat) : Prop := ∀ d ∈ ds, d < 4294967296

/-- The last digit is not nought. -/
def Top (ds : List Nat) : Prop := ∀ k, ds.length = k + 1 → ds.getD k 0 ≠ 0

theorem Dig.cons {d : Nat} {ds : List Nat} (h : Dig (d :: ds)) : d < 4294967296 ∧ Dig ds :=
  ⟨h d (List.mem_cons_self ..), fun x hx => h x (List.mem_cons_of_mem _ hx)⟩

theorem Dig.get {ds : List Nat} (h : Dig ds) (i : Nat) : ds.getD i 0 < 4294967296 := by
  by_cases hi : i < ds.length
  · rw [List.getD_eq_getElem?_getD, List.getElem?_eq_getElem hi, Option.getD_some]
    exact h _ (List.getElem_mem hi)
  · rw [List.getD_eq_getElem?_getD, List.getElem?_eq_none (by omega)]; simp

theorem Dig.set {ds : List Nat} (h : Dig ds) (i x : Nat) (hx : x < 4294967296) : Dig (ds.set i x) := by
  intro d hd
  rcases List.mem_or_eq_of_mem_set hd with h1 | h1
  · exact h d h1
  · omega

theorem Dig.take {ds : List Nat} (h : Dig ds) (n : Nat) : Dig (ds.take n) := fun d hd => h d (List.mem_of_mem_take hd)
theorem Dig.drop {ds : List Nat} (h : Dig ds) (n : Nat) : Dig (ds.drop n) := fun d hd => h d (List.mem_of_mem_drop hd)
theorem Dig.append {a b : List Nat} (h : Dig a) (k : Dig b) : Dig (a ++ b) := fun d hd => by
  rcases List.mem_append.1 hd with h1 | h1
  · exact h d h1
  · exact k d h1

theorem val_append (a b : List Nat) : val (a ++ b) = val a + 4294967296 ^ a.length * val b := by
  induction a with
  | nil => simp [val]
  | cons d ds ih =>
    simp only [List.cons_append, val, List.length_cons, ih, Nat.pow_succ, Nat.mul_add]
    rw [Nat.mul_comm (4294967296 ^ ds.length) 4294967296, Nat.mul_assoc]
    omega

theorem val_lt {ds : List Nat} (h : Dig ds) : val ds < 4294967296 ^ ds.length := by
  induction ds with
  | nil => simp [val]
  | cons d ds ih =>
    have h1 := h.cons.1
    have h2 := ih h.cons.2
    simp only [val, List.length_cons, Nat.pow_succ]
    generalize 4294967296 ^ ds.length = p at *
    omega

theorem val_replicate (n : Nat) : val (List.replicate n 0) = 0 := by
  induction n with
  | zero => rfl
  | succ n ih => simp [List.replicate_succ, val, ih]

/-- How many digits are left without noughts above. -/
def trimL (ds : List Nat) : Nat → Nat
  | 0 => 0
  | k + 1 => if ds.getD k 0 = 0 then trimL ds k else k + 1

theorem trimL_le (ds : List Nat) (n : Nat) : trimL ds n ≤ n := by
  induction n with
  | zero => exact Nat.le_refl _
  | succ n ih => unfold trimL; split <;> omega

theorem take_snoc_getD (ds : List Nat) (k : Nat) (h : k < ds.length) : ds.take (k + 1) = ds.take k ++ [ds.getD k 0] := by
  rw [List.take_succ_eq_append_getElem h, List.getD_eq_getElem?_getD, List.getElem?_eq_getElem h, Option.getD_some]

theorem val_trimL (ds : List Nat) (n : Nat) (h : n ≤ ds.length) : val (ds.take (trimL ds n)) = val (ds.take n) := by
  induction n with
  | zero => rfl
  | succ n ih =>
    unfold trimL
    split
    · rename_i hz
      rw [ih (by omega), take_snoc_getD ds n (by omega), val_append, hz]
      simp [val]
    · rfl

theorem top_trimL (ds : List Nat) (n : Nat) (h : n ≤ ds.length) : Top (ds.take (trimL ds n)) := by
  intro k hk
  have hl := trimL_le ds n
  rw [List.length_take] at hk
  have hk' : trimL ds n = k + 1 := by omega
  have : ds.getD k 0 ≠ 0 := by
    clear hk hl
    induction n with
    | zero => simp [trimL] at hk'
    | succ n ih =>
      unfold trimL at hk'
      split at hk'
      · exact ih (by omega) hk'
      · rename_i hz
        have : n = k := by omega
        subst this; exact hz
  rw [List.getD_eq_getElem?_getD, List.getElem?_take, if_pos (by omega), ← List.getD_eq_getElem?_getD]
  exact this

theorem Top.nil : Top [] := fun _ h => by simp at h

/-- A number of so many digits, the last not nought, is at least that power. -/
theorem Top.le {ds : List Nat} (h : Top ds) (k : Nat) (hk : ds.length = k + 1) : 4294967296 ^ k ≤ val ds := by
  have h1 := h k hk
  have e := take_snoc_getD ds k (by omega)
  rw [List.take_of_length_le (by omega)] at e
  rw [e, val_append, List.length_take, Nat.min_eq_left (by omega)]
  simp only [val, Nat.mul_zero, Nat.add_zero]
  have : 1 ≤ ds.getD k 0 := by omega
  calc 4294967296 ^ k = 4294967296 ^ k * 1 := by rw [Nat.mul_one]
    _ ≤ 4294967296 ^ k * ds.getD k 0 := Nat.mul_le_mul_left _ this
    _ ≤ _ := Nat.le_add_left _ _

theorem pow_mono {a b : Nat} (h : a ≤ b) : 4294967296 ^ a ≤ 4294967296 ^ b := Nat.pow_le_pow_right (by decide) h
theorem pow_pos (a : Nat) : 0 < 4294967296 ^ a := Nat.pow_pos (by decide)

/-- The number of digits, by the number. -/
theorem Top.len {ds : List Nat} (h : Top ds) {k : Nat} (hv : val ds < 4294967296 ^ k) : ds.length ≤ k := by
  cases hl : ds.length with
  | zero => omega
  | succ j =>
    have := h.le j hl
    have : ¬ k ≤ j := fun hkj => by have := pow_mono hkj; omega
    omega

theorem Top.zero {ds : List Nat} (h : Top ds) : val ds = 0 ↔ ds = [] := by
  constructor
  · intro hv
    cases hl : ds.length with
    | zero => exact List.length_eq_zero_iff.1 hl
    | succ j => have := h.le j hl; have := pow_pos j; omega
  · rintro rfl; rfl

/-- Lists of digits of one length: equal numbers, equal lists. -/
theorem val_inj_len {a b : List Nat} (ha : Dig a) (hb : Dig b) (hl : a.length = b.length) (hv : val a = val b) : a = b := by
  induction a generalizing b with
  | nil => cases b with
    | nil => rfl
    | cons _ _ => simp at hl
  | cons d ds ih => cases b with
    | nil => simp at hl
    | cons e es =>
      simp only [val] at hv
      have h1 := ha.cons.1
      have h2 := hb.cons.1
      have hd : d = e := by omega
      have ht : val ds = val es := by omega
      rw [hd, ih ha.cons.2 hb.cons.2 (by simpa using hl) ht]

/-- The shorter one is the lesser. -/
theorem Top.lt_of_len {a b : List Nat} (ha : Dig a) (hb : Top b) (h : a.length < b.length) : val a < val b := by
  have h1 := val_lt ha
  cases hl : b.length with
  | zero => omega
  | succ j =>
    have := hb.le j hl
    have := pow_mono (show a.length ≤ j by omega)
    omega

theorem Top.inj {a b : List Nat} (ha : Dig a) (hb : Dig b) (ta : Top a) (tb : Top b) (hv : val a = val b) : a = b := by
  rcases Nat.lt_trichotomy a.length b.length with h | h | h
  · have := tb.lt_of_len ha h; omega
  · exact val_inj_len ha hb h hv
  · have := ta.lt_of_len hb h; omega

theorem val_set (ds : List Nat) (i x : Nat) (h : i < ds.length) : val (ds.set i x) + 4294967296 ^ i * ds.getD i 0 = val ds + 4294967296 ^ i * x := by
  induction ds generalizing i with
  | nil => simp at h
  | cons d ds ih =>
    cases i with
    | zero => simp [val]; omega
    | succ i =>
      have := ih i (by simpa using h)
      simp only [List.set_cons_succ, val, List.getD_cons_succ, Nat.pow_succ]
      rw [Nat.mul_comm (4294967296 ^ i) 4294967296, Nat.mul_assoc, Nat.mul_assoc]
      omega

theorem val_take_drop (ds : List Nat) (k : Nat) (h : k ≤ ds.length) : val ds = val (ds.take k) + 4294967296 ^ k * val (ds.drop k) := by
  have := val_append (ds.take k) (ds.drop k)
  rw [List.take_append_drop, List.length_take, Nat.min_eq_left h] at this
  exact this

theorem val_take_succ (ds : List Nat) (k : Nat) (h : k < ds.length) : val (ds.take (k + 1)) = val (ds.take k) + 4294967296 ^ k * ds.getD k 0 := by
  rw [take_snoc_getD ds k h, val_append, List.length_take, Nat.min_eq_left (by omega)]; simp [val]

theorem val_drop (ds : List Nat) (k : Nat) (h : k < ds.length) : val (ds.drop k) = ds.getD k 0 + 4294967296 * val (ds.drop (k + 1)) := by
  rw [List.drop_eq_getElem_cons h, val, List.getD_eq_getElem?_getD, List.getElem?_eq_getElem h, Option.getD_some]

theorem getD_set_same (ds : List Nat) (i x : Nat) (h : i < ds.length) : (ds.set i x).getD i 0 = x := by
  rw [List.getD_eq_getElem?_getD, List.getElem?_set_self h, Option.getD_some]
theorem getD_set_other (ds : List Nat) (i j x : Nat) (h : i ≠ j) : (ds.set i x).getD j 0 = ds.getD j 0 := by
  rw [List.getD_eq_getElem?_getD, List.getElem?_set_ne h, ← List.getD_eq_getElem?_getD]

theorem take_set_succ (ds : List Nat) (k x : Nat) (h : k < ds.length) : (ds.set k x).take (k + 1) = ds.take k ++ [x] := by
  rw [take_snoc_getD _ k (by simpa using h), getD_set_same ds k x h, List.take_set_of_le (Nat.le_refl _)]

theorem drop_set_succ (ds : List Nat) (k x : Nat) : (ds.set k x).drop (k + 1) = ds.drop (k + 1) := by
  rw [List.drop_set_of_lt (by omega)]

theorem drop_tail {a b : List Nat} {k : Nat} (h : a.drop k = b.drop k) : a.drop (k + 1) = b.drop (k + 1) := by
  rw [← List.drop_drop, ← List.drop_drop, h]

theorem getD_of_drop {a b : List Nat} {k : Nat} (h : a.drop k = b.drop k) : a.getD k 0 = b.getD k 0 := by
  have e1 : (a.drop k)[0]? = a[k]? := by rw [List.getElem?_drop, Nat.add_zero]
  have e2 : (b.drop k)[0]? = b[k]? := by rw [List.getElem?_drop, Nat.add_zero]
  rw [List.getD_eq_getElem?_getD, List.getD_eq_getElem?_getD, ← e1, ← e2, h]

/-- One digit more of a number, noughts behind its end. -/
theorem val_take_any (ds : List Nat) (k : Nat) : val (ds.take (k + 1)) = val (ds.take k) + 4294967296 ^ k * ds.getD k 0 := by
  by_cases h : k < ds.length
  · exact val_take_succ ds k h
  · rw [List.take_of_length_le (by omega), List.take_of_length_le (by omega), List.getD_eq_getElem?_getD, List.getElem?_eq_none (by omega)]; simp

/-- A digit is laid and the rest carried on. -/
theorem val_lay (ds : List Nat) (k x : Nat) (h : k < ds.length) : val ((ds.set k (x % 4294967296)).take (k + 1)) + 4294967296 ^ (k + 1) * (x / 4294967296) = val (ds.take k) + 4294967296 ^ k * x := by
  rw [take_set_succ ds k _ h, val_append, List.length_take, Nat.min_eq_left (by omega), Nat.pow_succ, Nat.mul_assoc]
  simp only [val, Nat.mul_zero, Nat.add_zero]
  rw [Nat.add_assoc, ← Nat.mul_add, Nat.mod_add_div]

/-- One round of adding. -/
theorem add_step {cur ds es : List Nat} {k c : Nat} (hk : k < cur.length) (hi : val (cur.take k) + 4294967296 ^ k * c = val (ds.take k) + val (es.take k)) :
    val ((cur.set k ((c + ds.getD k 0 + es.getD k 0) % 4294967296)).take (k + 1)) + 4294967296 ^ (k + 1) * ((c + ds.getD k 0 + es.getD k 0) / 4294967296) = val (ds.take (k + 1)) + val (es.take (k + 1)) := by
  rw [val_lay cur k _ hk, val_take_any ds k, val_take_any es k, Nat.mul_add, Nat.mul_add]
  omega

/-- The end of adding, ahead of the last digit: nothing is carried, nothing is left to add. -/
theorem add_done {cur ds es : List Nat} {k : Nat} (hk : k ≤ cur.length) (hl : cur.length = ds.length) (he : es.length ≤ k) (hd : cur.drop k = ds.drop k) (hi : val (cur.take k) + 4294967296 ^ k * 0 = val (ds.take k) + val (es.take k)) :
    val cur + 4294967296 ^ ds.length * 0 = val ds + val es := by
  rw [List.take_of_length_le he] at hi
  rw [val_take_drop cur k hk, val_take_drop ds k (by omega), hd]
  omega

theorem getD_none (es : List Nat) (k : Nat) (h : es.length ≤ k) : es.getD k 0 = 0 := by
  rw [List.getD_eq_getElem?_getD, List.getElem?_eq_none h]; rfl

theorem mul_bd (f y : Nat) (hf : f < 4294967296) (hy : y < 4294967296) : 0 ≤ (f : Int) * (y : Int) ∧ (f : Int) * (y : Int) ≤ 18446744065119617025 := by
  have h1 : f * y ≤ 4294967295 * 4294967295 := Nat.mul_le_mul (by omega) (by omega)
  have h2 : ((f * y : Nat) : Int) = (f : Int) * (y : Int) := by simp
  omega

/-- One round of taking so many times a number away. -/
theorem take_step {cur ds es : List Nat} {k c bw f z c' bw' : Nat} (hk : k < cur.length) (hi : val (cur.take k) + f * val (es.take k) = val (ds.take k) + 4294967296 ^ k * (c + bw))
    (hz : c + f * es.getD k 0 + bw + z = ds.getD k 0 + 4294967296 * (c' + bw')) :
    val ((cur.set k z).take (k + 1)) + f * val (es.take (k + 1)) = val (ds.take (k + 1)) + 4294967296 ^ (k + 1) * (c' + bw') := by
  rw [take_set_succ cur k _ hk, val_append, List.length_take, Nat.min_eq_left (by omega), val_take_any ds k, val_take_any es k, Nat.pow_succ, Nat.mul_assoc]
  simp only [val, Nat.mul_zero, Nat.add_zero]
  generalize val (cur.take k) = A at *
  generalize val (ds.take k) = D at *
  generalize val (es.take k) = E at *
  generalize 4294967296 ^ k = p at *
  generalize ds.getD k 0 = x at *
  generalize es.getD k 0 = y at *
  have h1 : p * (c + f * y + bw + z) = p * (x + 4294967296 * (c' + bw')) := by rw [hz]
  rw [Nat.mul_add p x, Nat.mul_add, Nat.mul_add, Nat.mul_add] at h1
  rw [Nat.mul_add p c bw] at hi
  rw [Nat.mul_add f, Nat.mul_left_comm f p y]
  omega

theorem take_done {cur ds es : List Nat} {k f : Nat} (hk : k ≤ cur.length) (hl : cur.length = ds.length) (he : es.length ≤ k) (hd : cur.drop k = ds.drop k) (hi : val (cur.take k) + f * val (es.take k) = val (ds.take k) + 4294967296 ^ k * (0 + 0)) :
    val cur + f * val es = val ds + 4294967296 ^ ds.length * 0 := by
  rw [List.take_of_length_le he] at hi
  rw [val_take_drop cur k hk, val_take_drop ds k (by omega), hd]
  omega

/-- -1, 0 or 1. -/
def cmpI (a b : Nat) : Int := if a < b then -1 else if b < a then 1 else 0

theorem cmpI_lt {a b : Nat} (h : a < b) : cmpI a b = -1 := if_pos h
theorem cmpI_gt {a b : Nat} (h : b < a) : cmpI a b = 1 := by unfold cmpI; rw [if_neg (by omega), if_pos h]
theorem cmpI_eq {a b : Nat} (h : a = b) : cmpI a b = 0 := by unfold cmpI; rw [if_neg (by omega), if_neg (by omega)]

/-- The highest digit in which two lists of one length differ says which number is the lesser. -/
theorem val_lt_at {a b : List Nat} (ha : Dig a) (hl : a.length = b.length) (k : Nat) (hk : k < a.length) (hd : a.drop (k + 1) = b.drop (k + 1)) (hlt : a.getD k 0 < b.getD k 0) : val a < val b := by
  rw [val_take_drop a k (by omega), val_take_drop b k (by omega), val_drop a k hk, val_drop b k (by omega), hd]
  have h1 := val_lt (ha.take k)
  rw [List.length_take, Nat.min_eq_left (by omega)] at h1
  generalize val (b.drop (k + 1)) = x
  generalize 4294967296 ^ k = p at *
  have h2 : p * (a.getD k 0 + 4294967296 * x + 1) ≤ p * (b.getD k 0 + 4294967296 * x) := Nat.mul_le_mul_left _ (by omega)
  rw [Nat.mul_add, Nat.mul_one] at h2
  omega

theorem drop_eq_of {a b : List Nat} (hl : a.length = b.length) (k : Nat) (hk : k < a.length) (hd : a.drop (k + 1) = b.drop (k + 1)) (he : a.getD k 0 = b.getD k 0) : a.drop k = b.drop k := by
  rw [List.drop_eq_getElem_cons hk, List.drop_eq_getElem_cons (show k < b.length by omega), hd]
  rw [List.getD_eq_getElem?_getD, List.getD_eq_getElem?_getD, List.getElem?_eq_getElem hk, List.getElem?_eq_getElem (show k < b.length by omega), Option.getD_some, Option.getD_some] at he
  rw [he]

end Go.Proofs.YtcmdglfjnepahaaGreatDoor
