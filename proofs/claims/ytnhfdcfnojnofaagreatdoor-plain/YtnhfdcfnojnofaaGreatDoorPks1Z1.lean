/-
  Part 1 of the texts ahead of Pks1: Num, Mem, Nat1, Nat2.
-/
import Derived.WalkKit
import Derived.WalkSpells
import Derived.Test.YtnhfdcfnojnofaaGreatDoorProg
import Derived.WalkLawsBesides
import Derived.BigQuiet
import Derived.Laws.BitsAllLaws
import Derived.Deep.QuietTactic
set_option linter.unusedSimpArgs false
set_option linter.unusedVariables false
/-
  Plain numbers to the base 2^32, as lists of digits, the least first; no program here.
-/
namespace Go.Proofs.YtnhfdcfnojnofaaGreatDoor

/-- The number that a list of digits to the base 2^32 is, the least first. -/
def val : List Nat → Nat
  | [] => 0
  | d :: ds => d + 4294967296 * val ds

/-- Each digit is below the base. -/
def Dig (ds : List Nat) : Prop := ∀ d ∈ ds, d < 4294967296

/-- The last digit is not nought. -/
def Top (ds : List Nat) : Prop := ∀ k, ds.length = k + 1 → ds.getD k 0 ≠ 0

theorem Dig.cons {d : Nat} {ds : List Nat} (h : Dig (d :: ds)) : d < 4294967296 ∧ Dig ds :=
  ⟨h d (List.mem_cons_self ..), fun x hx => h x (List.mem_cons_of_mem _ hx)⟩

theorem Dig.get {ds : List Nat} (h : Dig ds) (i : Nat) : ds.getD i 0 < 4294967296 := by
  by_cases hi : i < ds.length
  · rw [List.getD_eq_getElem?_getD, List.getElem?_eq_getElem hi, Option.getD_some]
    exact h _ (List.getElem_mem hi)
  · rw [List.getD_eq_getElem?_getD, List.getElem?_eq_none (by omega)]; simp

theorem Dig.set {ds : List Nat} (h : Dig ds) (i x : Nat) (hx : x < 4294967296) : Dig (ds.set i x) := by
  intro d hd
  rcases List.mem_or_eq_of_mem_set hd with h1 | h1
  · exact h d h1
  · omega

theorem Dig.take {ds : List Nat} (h : Dig ds) (n : Nat) : Dig (ds.take n) := fun d hd => h d (List.mem_of_mem_take hd)
theorem Dig.drop {ds : List Nat} (h : Dig ds) (n : Nat) : Dig (ds.drop n) := fun d hd => h d (List.mem_of_mem_drop hd)
theorem Dig.append {a b : List Nat} (h : Dig a) (k : Dig b) : Dig (a ++ b) := fun d hd => by
  rcases List.mem_append.1 hd with h1 | h1
  · exact h d h1
  · exact k d h1

theorem val_append (a b : List Nat) : val (a ++ b) = val a + 4294967296 ^ a.length * val b := by
  induction a with
  | nil => simp [val]
  | cons d ds ih =>
    simp only [List.cons_append, val, List.length_cons, ih, Nat.pow_succ, Nat.mul_add]
    rw [Nat.mul_comm (4294967296 ^ ds.length) 4294967296, Nat.mul_assoc]
    omega

theorem val_lt {ds : List Nat} (h : Dig ds) : val ds < 4294967296 ^ ds.length := by
  induction ds with
  | nil => simp [val]
  | cons d ds ih =>
    have h1 := h.cons.1
    have h2 := ih h.cons.2
    simp only [val, List.length_cons, Nat.pow_succ]
    generalize 4294967296 ^ ds.length = p at *
    omega

/-- How many digits are left without noughts above. -/
def trimL (ds : List Nat) : Nat → Nat
  | 0 => 0
  | k + 1 => if ds.getD k 0 = 0 then trimL ds k else k + 1

theorem trimL_le (ds : List Nat) (n : Nat) : trimL ds n ≤ n := by
  induction n with
  | zero => exact Nat.le_refl _
  | succ n ih => unfold trimL; split <;> omega

theorem take_snoc_getD (ds : List Nat) (k : Nat) (h : k < ds.length) : ds.take (k + 1) = ds.take k ++ [ds.getD k 0] := by
  rw [List.take_succ_eq_append_getElem h, List.getD_eq_getElem?_getD, List.getElem?_eq_getElem h, Option.getD_some]

theorem val_trimL (ds : List Nat) (n : Nat) (h : n ≤ ds.length) : val (ds.take (trimL ds n)) = val (ds.take n) := by
  induction n with
  | zero => rfl
  | succ n ih =>
    unfold trimL
    split
    · rename_i hz
      rw [ih (by omega), take_snoc_getD ds n (by omega), val_append, hz]
      simp [val]
    · rfl

theorem top_trimL (ds : List Nat) (n : Nat) (h : n ≤ ds.length) : Top (ds.take (trimL ds n)) := by
  intro k hk
  have hl := trimL_le ds n
  rw [List.length_take] at hk
  have hk' : trimL ds n = k + 1 := by omega
  have : ds.getD k 0 ≠ 0 := by
    clear hk hl
    induction n with
    | zero => simp [trimL] at hk'
    | succ n ih =>
      unfold trimL at hk'
      split at hk'
      · exact ih (by omega) hk'
      · rename_i hz
        have : n = k := by omega
        subst this; exact hz
  rw [List.getD_eq_getElem?_getD, List.getElem?_take, if_pos (by omega), ← List.getD_eq_getElem?_getD]
  exact this

theorem Top.nil : Top [] := fun _ h => by simp at h

/-- A number of so many digits, the last not nought, is at least that power. -/
theorem Top.le {ds : List Nat} (h : Top ds) (k : Nat) (hk : ds.length = k + 1) : 4294967296 ^ k ≤ val ds := by
  have h1 := h k hk
  have e := take_snoc_getD ds k (by omega)
  rw [List.take_of_length_le (by omega)] at e
  rw [e, val_append, List.length_take, Nat.min_eq_left (by omega)]
  simp only [val, Nat.mul_zero, Nat.add_zero]
  have : 1 ≤ ds.getD k 0 := by omega
  calc 4294967296 ^ k = 4294967296 ^ k * 1 := by rw [Nat.mul_one]
    _ ≤ 4294967296 ^ k * ds.getD k 0 := Nat.mul_le_mul_left _ this
    _ ≤ _ := Nat.le_add_left _ _

theorem pow_mono {a b : Nat} (h : a ≤ b) : 4294967296 ^ a ≤ 4294967296 ^ b := Nat.pow_le_pow_right (by decide) h
theorem pow_pos (a : Nat) : 0 < 4294967296 ^ a := Nat.pow_pos (by decide)

/-- The number of digits, by the number. -/
theorem Top.len {ds : List Nat} (h : Top ds) {k : Nat} (hv : val ds < 4294967296 ^ k) : ds.length ≤ k := by
  cases hl : ds.length with
  | zero => omega
  | succ j =>
    have := h.le j hl
    have : ¬ k ≤ j := fun hkj => by have := pow_mono hkj; omega
    omega

theorem Top.zero {ds : List Nat} (h : Top ds) : val ds = 0 ↔ ds = [] := by
  constructor
  · intro hv
    cases hl : ds.length with
    | zero => exact List.length_eq_zero_iff.1 hl
    | succ j => have := h.le j hl; have := pow_pos j; omega
  · rintro rfl; rfl

/-- Lists of digits of one length: equal numbers, equal lists. -/
theorem val_inj_len {a b : List Nat} (ha : Dig a) (hb : Dig b) (hl : a.length = b.length) (hv : val a = val b) : a = b := by
  induction a generalizing b with
  | nil => cases b with
    | nil => rfl
    | cons _ _ => simp at hl
  | cons d ds ih => cases b with
    | nil => simp at hl
    | cons e es =>
      simp only [val] at hv
      have h1 := ha.cons.1
      have h2 := hb.cons.1
      have hd : d = e := by omega
      have ht : val ds = val es := by omega
      rw [hd, ih ha.cons.2 hb.cons.2 (by simpa using hl) ht]

/-- The shorter one is the lesser. -/
theorem Top.lt_of_len {a b : List Nat} (ha : Dig a) (hb : Top b) (h : a.length < b.length) : val a < val b := by
  have h1 := val_lt ha
  cases hl : b.length with
  | zero => omega
  | succ j =>
    have := hb.le j hl
    have := pow_mono (show a.length ≤ j by omega)
    omega

theorem Top.inj {a b : List Nat} (ha : Dig a) (hb : Dig b) (ta : Top a) (tb : Top b) (hv : val a = val b) : a = b := by
  rcases Nat.lt_trichotomy a.length b.length with h | h | h
  · have := tb.lt_of_len ha h; omega
  · exact val_inj_len ha hb h hv
  · have := ta.lt_of_len hb h; omega

theorem val_take_drop (ds : List Nat) (k : Nat) (h : k ≤ ds.length) : val ds = val (ds.take k) + 4294967296 ^ k * val (ds.drop k) := by
  have := val_append (ds.take k) (ds.drop k)
  rw [List.take_append_drop, List.length_take, Nat.min_eq_left h] at this
  exact this

theorem val_take_succ (ds : List Nat) (k : Nat) (h : k < ds.length) : val (ds.take (k + 1)) = val (ds.take k) + 4294967296 ^ k * ds.getD k 0 := by
  rw [take_snoc_getD ds k h, val_append, List.length_take, Nat.min_eq_left (by omega)]; simp [val]

theorem val_drop (ds : List Nat) (k : Nat) (h : k < ds.length) : val (ds.drop k) = ds.getD k 0 + 4294967296 * val (ds.drop (k + 1)) := by
  rw [List.drop_eq_getElem_cons h, val, List.getD_eq_getElem?_getD, List.getElem?_eq_getElem h, Option.getD_some]

theorem getD_set_same (ds : List Nat) (i x : Nat) (h : i < ds.length) : (ds.set i x).getD i 0 = x := by
  rw [List.getD_eq_getElem?_getD, List.getElem?_set_self h, Option.getD_some]
theorem getD_set_other (ds : List Nat) (i j x : Nat) (h : i ≠ j) : (ds.set i x).getD j 0 = ds.getD j 0 := by
  rw [List.getD_eq_getElem?_getD, List.getElem?_set_ne h, ← List.getD_eq_getElem?_getD]

theorem take_set_succ (ds : List Nat) (k x : Nat) (h : k < ds.length) : (ds.set k x).take (k + 1) = ds.take k ++ [x] := by
  rw [take_snoc_getD _ k (by simpa using h), getD_set_same ds k x h, List.take_set_of_le (Nat.le_refl _)]

theorem drop_set_succ (ds : List Nat) (k x : Nat) : (ds.set k x).drop (k + 1) = ds.drop (k + 1) := by
  rw [List.drop_set_of_lt (by omega)]

theorem drop_tail {a b : List Nat} {k : Nat} (h : a.drop k = b.drop k) : a.drop (k + 1) = b.drop (k + 1) := by
  rw [← List.drop_drop, ← List.drop_drop, h]

theorem getD_of_drop {a b : List Nat} {k : Nat} (h : a.drop k = b.drop k) : a.getD k 0 = b.getD k 0 := by
  have e1 : (a.drop k)[0]? = a[k]? := by rw [List.getElem?_drop, Nat.add_zero]
  have e2 : (b.drop k)[0]? = b[k]? := by rw [List.getElem?_drop, Nat.add_zero]
  rw [List.getD_eq_getElem?_getD, List.getD_eq_getElem?_getD, ← e1, ← e2, h]

/-- One digit more of a number, noughts behind its end. -/
theorem val_take_any (ds : List Nat) (k : Nat) : val (ds.take (k + 1)) = val (ds.take k) + 4294967296 ^ k * ds.getD k 0 := by
  by_cases h : k < ds.length
  · exact val_take_succ ds k h
  · rw [List.take_of_length_le (by omega), List.take_of_length_le (by omega), List.getD_eq_getElem?_getD, List.getElem?_eq_none (by omega)]; simp

/-- A digit is laid and the rest carried on. -/
theorem val_lay (ds : List Nat) (k x : Nat) (h : k < ds.length) : val ((ds.set k (x % 4294967296)).take (k + 1)) + 4294967296 ^ (k + 1) * (x / 4294967296) = val (ds.take k) + 4294967296 ^ k * x := by
  rw [take_set_succ ds k _ h, val_append, List.length_take, Nat.min_eq_left (by omega), Nat.pow_succ, Nat.mul_assoc]
  simp only [val, Nat.mul_zero, Nat.add_zero]
  rw [Nat.add_assoc, ← Nat.mul_add, Nat.mod_add_div]

/-- One round of adding. -/
theorem add_step {cur ds es : List Nat} {k c : Nat} (hk : k < cur.length) (hi : val (cur.take k) + 4294967296 ^ k * c = val (ds.take k) + val (es.take k)) :
    val ((cur.set k ((c + ds.getD k 0 + es.getD k 0) % 4294967296)).take (k + 1)) + 4294967296 ^ (k + 1) * ((c + ds.getD k 0 + es.getD k 0) / 4294967296) = val (ds.take (k + 1)) + val (es.take (k + 1)) := by
  rw [val_lay cur k _ hk, val_take_any ds k, val_take_any es k, Nat.mul_add, Nat.mul_add]
  omega

/-- The end of adding, ahead of the last digit: nothing is carried, nothing is left to add. -/
theorem add_done {cur ds es : List Nat} {k : Nat} (hk : k ≤ cur.length) (hl : cur.length = ds.length) (he : es.length ≤ k) (hd : cur.drop k = ds.drop k) (hi : val (cur.take k) + 4294967296 ^ k * 0 = val (ds.take k) + val (es.take k)) :
    val cur + 4294967296 ^ ds.length * 0 = val ds + val es := by
  rw [List.take_of_length_le he] at hi
  rw [val_take_drop cur k hk, val_take_drop ds k (by omega), hd]
  omega

theorem getD_none (es : List Nat) (k : Nat) (h : es.length ≤ k) : es.getD k 0 = 0 := by
  rw [List.getD_eq_getElem?_getD, List.getElem?_eq_none h]; rfl

theorem mul_bd (f y : Nat) (hf : f < 4294967296) (hy : y < 4294967296) : 0 ≤ (f : Int) * (y : Int) ∧ (f : Int) * (y : Int) ≤ 18446744065119617025 := by
  have h1 : f * y ≤ 4294967295 * 4294967295 := Nat.mul_le_mul (by omega) (by omega)
  have h2 : ((f * y : Nat) : Int) = (f : Int) * (y : Int) := by simp
  omega

/-- One round of taking so many times a number away. -/
theorem take_step {cur ds es : List Nat} {k c bw f z c' bw' : Nat} (hk : k < cur.length) (hi : val (cur.take k) + f * val (es.take k) = val (ds.take k) + 4294967296 ^ k * (c + bw))
    (hz : c + f * es.getD k 0 + bw + z = ds.getD k 0 + 4294967296 * (c' + bw')) :
    val ((cur.set k z).take (k + 1)) + f * val (es.take (k + 1)) = val (ds.take (k + 1)) + 4294967296 ^ (k + 1) * (c' + bw') := by
  rw [take_set_succ cur k _ hk, val_append, List.length_take, Nat.min_eq_left (by omega), val_take_any ds k, val_take_any es k, Nat.pow_succ, Nat.mul_assoc]
  simp only [val, Nat.mul_zero, Nat.add_zero]
  generalize val (cur.take k) = A at *
  generalize val (ds.take k) = D at *
  generalize val (es.take k) = E at *
  generalize 4294967296 ^ k = p at *
  generalize ds.getD k 0 = x at *
  generalize es.getD k 0 = y at *
  have h1 : p * (c + f * y + bw + z) = p * (x + 4294967296 * (c' + bw')) := by rw [hz]
  rw [Nat.mul_add p x, Nat.mul_add, Nat.mul_add, Nat.mul_add] at h1
  rw [Nat.mul_add p c bw] at hi
  rw [Nat.mul_add f, Nat.mul_left_comm f p y]
  omega

theorem take_done {cur ds es : List Nat} {k f : Nat} (hk : k ≤ cur.length) (hl : cur.length = ds.length) (he : es.length ≤ k) (hd : cur.drop k = ds.drop k) (hi : val (cur.take k) + f * val (es.take k) = val (ds.take k) + 4294967296 ^ k * (0 + 0)) :
    val cur + f * val es = val ds + 4294967296 ^ ds.length * 0 := by
  rw [List.take_of_length_le he] at hi
  rw [val_take_drop cur k hk, val_take_drop ds k (by omega), hd]
  omega

/-- -1, 0 or 1. -/
def cmpI (a b : Nat) : Int := if a < b then -1 else if b < a then 1 else 0

theorem cmpI_lt {a b : Nat} (h : a < b) : cmpI a b = -1 := if_pos h
theorem cmpI_gt {a b : Nat} (h : b < a) : cmpI a b = 1 := by unfold cmpI; rw [if_neg (by omega), if_pos h]
theorem cmpI_eq {a b : Nat} (h : a = b) : cmpI a b = 0 := by unfold cmpI; rw [if_neg (by omega), if_neg (by omega)]

/-- The highest digit in which two lists of one length differ says which number is the lesser. -/
theorem val_lt_at {a b : List Nat} (ha : Dig a) (hl : a.length = b.length) (k : Nat) (hk : k < a.length) (hd : a.drop (k + 1) = b.drop (k + 1)) (hlt : a.getD k 0 < b.getD k 0) : val a < val b := by
  rw [val_take_drop a k (by omega), val_take_drop b k (by omega), val_drop a k hk, val_drop b k (by omega), hd]
  have h1 := val_lt (ha.take k)
  rw [List.length_take, Nat.min_eq_left (by omega)] at h1
  generalize val (b.drop (k + 1)) = x
  generalize 4294967296 ^ k = p at *
  have h2 : p * (a.getD k 0 + 4294967296 * x + 1) ≤ p * (b.getD k 0 + 4294967296 * x) := Nat.mul_le_mul_left _ (by omega)
  rw [Nat.mul_add, Nat.mul_one] at h2
  omega

theorem drop_eq_of {a b : List Nat} (hl : a.length = b.length) (k : Nat) (hk : k < a.length) (hd : a.drop (k + 1) = b.drop (k + 1)) (he : a.getD k 0 = b.getD k 0) : a.drop k = b.drop k := by
  rw [List.drop_eq_getElem_cons hk, List.drop_eq_getElem_cons (show k < b.length by omega), hd]
  rw [List.getD_eq_getElem?_getD, List.getD_eq_getElem?_getD, List.getElem?_eq_getElem hk, List.getElem?_eq_getElem (show k < b.length by omega), Option.getD_some, Option.getD_some] at he
  rw [he]

end Go.Proofs.YtnhfdcfnojnofaaGreatDoor

/-
  Digits in memory: a slice of uint32 that reads as a list of digits; a natural that it stands for; what a store changes.
-/
namespace Go.Proofs.YtnhfdcfnojnofaaGreatDoor
open Go.RowKit

/-- The cells of block b from off on read as these digits. -/
def Row (w : World) (b off : Nat) (ds : List Nat) : Prop :=
  ∀ i, i < ds.length → w.cell? ⟨b, off + i, none⟩ = some (.int .u32 ((ds.getD i 0 : Nat) : Int))

/-- The cells of block b from off on, n of them, may be written. -/
def Free (w : World) (b off n : Nat) : Prop := ∀ i, i < n → w.frozen? ⟨b, off + i, none⟩ = false

/-- A slice value that reads as these digits. -/
def U32s (w : World) (v : Value) (ds : List Nat) : Prop :=
  ∃ ao cap, v = .slice ao ds.length cap ∧ ds.length ≤ cap ∧ (ds ≠ [] → ∃ b off, ao = some ⟨b, off, none⟩ ∧ b < w.heap.size ∧ Row w b off ds)

/-- A slice value that stands for a natural: digits, the last not nought. -/
def NatV (w : World) (v : Value) (n : Nat) : Prop := ∃ ds, U32s w v ds ∧ Dig ds ∧ Top ds ∧ val ds = n

theorem Row.below {w w' : World} {b off B : Nat} {ds : List Nat} (h : Row w b off ds) (hb : Below B w w') (hB : b < B) : Row w' b off ds :=
  fun i hi => (hb.cell (p := ⟨b, off + i, none⟩) hB).trans (h i hi)

theorem U32s.below {w w' : World} {v : Value} {ds : List Nat} (h : U32s w v ds) (hb : Below w.heap.size w w') : U32s w' v ds := by
  obtain ⟨ao, cap, hv, hc, hr⟩ := h
  refine ⟨ao, cap, hv, hc, fun hne => ?_⟩
  obtain ⟨b, off, ha, hlt, hrow⟩ := hr hne
  exact ⟨b, off, ha, Nat.lt_of_lt_of_le hlt hb.size, hrow.below hb hlt⟩

theorem NatV.below {w w' : World} {v : Value} {n : Nat} (h : NatV w v n) (hb : Below w.heap.size w w') : NatV w' v n := by
  obtain ⟨ds, h1, h2⟩ := h
  exact ⟨ds, h1.below hb, h2⟩

theorem NatV.alloc {w : World} {v : Value} {n : Nat} (h : NatV w v n) (o : Obj) : NatV (w.alloc o) v n :=
  h.below ((Below.refl _ _).alloc (Nat.le_refl _) o)

theorem NatV.drew {w : World} {v : Value} {n : Nat} (h : NatV w v n) : NatV w.drew v n := h

theorem NatV.zero (w : World) (ao : Option Addr) (cap : Nat) : NatV w (.slice ao 0 cap) 0 :=
  ⟨[], ⟨ao, cap, rfl, Nat.zero_le _, fun h => absurd rfl h⟩, (fun _ h => by simp at h), Top.nil, rfl⟩

/-- What may have changed: the cells of block b from off on, n of them. -/
structure Upd (b off n : Nat) (w w' : World) : Prop where
  os : w'.os = w.os
  tape : w'.tape = w.tape
  output : w'.output = w.output
  size : w'.heap.size = w.heap.size
  block : ∀ k, k ≠ b → w'.heap[k]? = w.heap[k]?
  cell : ∀ j, (j < off ∨ off + n ≤ j) → w'.cell? ⟨b, j, none⟩ = w.cell? ⟨b, j, none⟩
  frozen : ∀ j, w'.frozen? ⟨b, j, none⟩ = w.frozen? ⟨b, j, none⟩

theorem Upd.refl (b off n : Nat) (w : World) : Upd b off n w w := ⟨rfl, rfl, rfl, rfl, fun _ _ => rfl, fun _ _ => rfl, fun _ => rfl⟩

theorem Upd.trans {b off n : Nat} {u v w : World} (h : Upd b off n u v) (k : Upd b off n v w) : Upd b off n u w :=
  ⟨k.os.trans h.os, k.tape.trans h.tape, k.output.trans h.output, k.size.trans h.size, fun i hi => (k.block i hi).trans (h.block i hi),
   fun j hj => (k.cell j hj).trans (h.cell j hj), fun j => (k.frozen j).trans (h.frozen j)⟩

theorem Upd.wide {b off n off' n' : Nat} {w w' : World} (h : Upd b off n w w') (h1 : off' ≤ off) (h2 : off + n ≤ off' + n') : Upd b off' n' w w' :=
  ⟨h.os, h.tape, h.output, h.size, h.block, fun j hj => h.cell j (by omega), h.frozen⟩

theorem Upd.setCell {b off n : Nat} {u w : World} (h : Upd b off n u w) (i : Nat) (hi : i < n) (x : Value) : Upd b off n u (w.setCell ⟨b, off + i, none⟩ x) :=
  h.trans ⟨rfl, rfl, rfl, by simp, fun k hk => Below.heap_setCell _ _ _ _ hk,
    fun j hj => World.cell?_setCell_other _ _ _ _ (by intro he; injection he with _ h2; omega), fun j => by simp⟩

theorem Upd.below {b off n B : Nat} {w w' : World} (h : Upd b off n w w') (hB : B ≤ b) : Below B w w' :=
  ⟨h.os, h.tape, h.output, Nat.le_of_eq h.size.symm, fun k hk => h.block k (by omega)⟩

theorem Upd.other {b off n : Nat} {w w' : World} (h : Upd b off n w w') {c o : Nat} {ds : List Nat} (hc : c ≠ b) (hr : Row w c o ds) : Row w' c o ds :=
  fun i hi => (World.cell?_of_block (w := w) (h.block c hc)).trans (hr i hi)

theorem Upd.free {b off n : Nat} {w w' : World} (h : Upd b off n w w') {o m : Nat} (hf : Free w b o m) : Free w' b o m := fun i hi => (h.frozen _).trans (hf i hi)

theorem Row.setCell {w : World} {b off : Nat} {ds : List Nat} (h : Row w b off ds) (i x : Nat) (hi : i < ds.length) :
    Row (w.setCell ⟨b, off + i, none⟩ (.int .u32 (x : Int))) b off (ds.set i x) := by
  intro j hj
  rw [List.length_set] at hj
  by_cases hij : i = j
  · subst hij
    rw [World.cell?_setCell_same _ _ _ (h i hi), getD_set_same ds i x hi]
  · rw [World.cell?_setCell_other _ _ _ _ (by intro he; injection he with _ h2; omega), getD_set_other ds i j x hij]
    exact h j hj

theorem Row.take {w : World} {b off : Nat} {ds : List Nat} (h : Row w b off ds) (n : Nat) : Row w b off (ds.take n) := by
  intro i hi
  rw [List.length_take] at hi
  rw [h i (by omega), List.getD_eq_getElem?_getD, List.getD_eq_getElem?_getD, List.getElem?_take, if_pos (by omega)]

theorem Row.drop {w : World} {b off : Nat} {ds : List Nat} (h : Row w b off ds) (n : Nat) : Row w b (off + n) (ds.drop n) := by
  intro i hi
  rw [List.length_drop] at hi
  rw [show off + n + i = off + (n + i) by omega, h (n + i) (by omega), List.getD_eq_getElem?_getD, List.getD_eq_getElem?_getD, List.getElem?_drop]

theorem Row.append {w : World} {b off : Nat} {xs ys : List Nat} (h : Row w b off xs) (k : Row w b (off + xs.length) ys) : Row w b off (xs ++ ys) := by
  intro i hi
  rw [List.length_append] at hi
  by_cases hx : i < xs.length
  · rw [h i hx, List.getD_eq_getElem?_getD, List.getD_eq_getElem?_getD, List.getElem?_append_left hx]
  · have := k (i - xs.length) (by omega)
    rw [show off + xs.length + (i - xs.length) = off + i by omega] at this
    rw [this, List.getD_eq_getElem?_getD, List.getD_eq_getElem?_getD, List.getElem?_append_right (by omega)]

/-- What a row of digits, in whatever block, gives as a value. -/
theorem U32s.mk {w : World} {b off cap : Nat} {ds : List Nat} (h : Row w b off ds) (hb : b < w.heap.size) (hc : ds.length ≤ cap) : U32s w (.slice (some ⟨b, off, none⟩) ds.length cap) ds :=
  ⟨_, cap, rfl, hc, fun _ => ⟨b, off, rfl, hb, h⟩⟩

/-- The natural of a row that has been trimmed. -/
theorem natV_trim {w : World} {b off cap n : Nat} {ds : List Nat} (h : Row w b off ds) (hd : Dig ds) (hb : b < w.heap.size) (hl : ds.length = n) (hc : n ≤ cap) :
    NatV w (.slice (some ⟨b, off, none⟩) (trimL ds n) cap) (val ds) := by
  have hle := trimL_le ds n
  have hlen : (ds.take (trimL ds n)).length = trimL ds n := by rw [List.length_take]; omega
  refine ⟨ds.take (trimL ds n), ⟨_, cap, by rw [hlen], by omega, fun _ => ⟨b, off, rfl, hb, h.take _⟩⟩, hd.take _, top_trimL ds n (by omega), ?_⟩
  rw [val_trimL ds n (by omega), List.take_of_length_le (by omega)]

/-- A slice value that reads as these digits, in another block than b. -/
def U32b (w : World) (b : Nat) (v : Value) (ds : List Nat) : Prop :=
  ∃ ao cap, v = .slice ao ds.length cap ∧ ds.length ≤ cap ∧ (ds ≠ [] → ∃ b' off, ao = some ⟨b', off, none⟩ ∧ b' < w.heap.size ∧ b' ≠ b ∧ Row w b' off ds)

theorem U32s.away {w w' : World} {v : Value} {ds : List Nat} (h : U32s w v ds) (hb : Below w.heap.size w w') (b : Nat) (hB : w.heap.size ≤ b) : U32b w' b v ds := by
  obtain ⟨ao, cap, hv, hc, hr⟩ := h
  refine ⟨ao, cap, hv, hc, fun hne => ?_⟩
  obtain ⟨c, off, ha, hlt, hrow⟩ := hr hne
  exact ⟨c, off, ha, Nat.lt_of_lt_of_le hlt hb.size, by omega, hrow.below hb hlt⟩

theorem U32b.upd {w w' : World} {b off n : Nat} {v : Value} {ds : List Nat} (h : U32b w b v ds) (hu : Upd b off n w w') : U32b w' b v ds := by
  obtain ⟨ao, cap, hv, hc, hr⟩ := h
  refine ⟨ao, cap, hv, hc, fun hne => ?_⟩
  obtain ⟨c, off, ha, hlt, hcb, hrow⟩ := hr hne
  exact ⟨c, off, ha, by rw [hu.size]; exact hlt, hcb, hu.other hcb hrow⟩

theorem bcell {W w1 : World} (hb : Below W.heap.size W w1) : (∀ b o, b < W.heap.size → w1.cell? ⟨b, o, none⟩ = W.cell? ⟨b, o, none⟩) ∧ (∀ b o, b < W.heap.size → w1.frozen? ⟨b, o, none⟩ = W.frozen? ⟨b, o, none⟩) :=
  ⟨fun b o h => hb.cell (p := ⟨b, o, none⟩) h, fun b o h => hb.frozen (p := ⟨b, o, none⟩) h⟩

theorem hide {p : Prop} (h : p) : Hid p := h
theorem unhide {p : Prop} (h : Hid p) : p := h

theorem ret_int {k : IntKind} {a b : Int} (h : a = b) : Ending.returned (.int k a) = .returned (.int k b) := by rw [h]
theorem ret_bool {a b : Bool} (h : a = b) : Ending.returned (.bool a) = .returned (.bool b) := by rw [h]
theorem ret_slice {a : Option Addr} {m n c : Nat} (h : m = n) : Ending.returned (.slice a m c) = .returned (.slice a n c) := by rw [h]

def lenOf : Value → Nat | .slice _ k _ => k | _ => 0
end Go.Proofs.YtnhfdcfnojnofaaGreatDoor

/-
  What the leaves of package natural do: IsZero, IsOne, trim, low64, commonDivisor64, Of.
-/
namespace Go.Proofs.YtnhfdcfnojnofaaGreatDoor
open Go.RowKit

theorem or_join (x d : Nat) (hx : x < 4294967296) (hd : d < 4294967296) : bits .or .u64 ((x : Int) * 4294967296) (d : Int) = ((d + 4294967296 * x : Nat) : Int) := by
  have e : ((x : Int) * 4294967296) = ((x * 4294967296 : Nat) : Int) := by omega
  rw [e, u64_or_nat _ _ (by omega) (by omega), nat_join 32 (x * 4294967296) d (by omega) (by omega)]
  omega

set_option maxHeartbeats 400000 in
theorem isZero_yes (w : World) (v : Value) (h : NatV w v 0) :
    Calls Tryz.prog 77 #[v] w fun e w' => e = .returned (.bool true) ∧ w' = w := by
  obtain ⟨ds, ⟨ao, cap, rfl, hc, hr⟩, hd, ht, hv⟩ := h
  have hds := ht.zero.1 hv
  subst hds
  clear hr hv ht hd
  go_enter Tryz.func77, Tryz.ntmps77
  go_wp2
  go_ret
  exact ⟨rfl, rfl⟩

set_option maxHeartbeats 400000 in
theorem isZero_no (w : World) (v : Value) (n : Nat) (h : NatV w v n) (hn : n ≠ 0) :
    Calls Tryz.prog 77 #[v] w fun e w' => e = .returned (.bool false) ∧ w' = w := by
  obtain ⟨ds, ⟨ao, cap, rfl, hc, hr⟩, hd, ht, hv⟩ := h
  have hds : ds ≠ [] := fun e => hn (by rw [← hv, e]; rfl)
  have hl : 0 < ds.length := List.length_pos_iff.2 hds
  have hl2 : ((ds.length : Int) == 0) = false := beq_eq_false_iff_ne.2 (by omega)
  generalize ds.length = len at hl hl2 ⊢
  clear hr hv ht hd hn hds
  go_enter Tryz.func77, Tryz.ntmps77
  go_wp2
  go_ret
  exact ⟨rfl, rfl⟩

set_option maxHeartbeats 400000 in
theorem trim_any (w : World) (b off cap n : Nat) (ds : List Nat) (hcap : n ≤ cap) (hm : n ≤ 140737488355328) (hn : n ≤ ds.length) (hc : Row w b off ds) :
    Calls Tryz.prog 225 #[.slice (some ⟨b, off, none⟩) n cap] w fun e w' => e = .returned (.slice (some ⟨b, off, none⟩) (trimL ds n) cap) ∧ w' = w := by
  go_enter Tryz.func225, Tryz.ntmps225
  go_wp2
  go_loop [0] (fun v => ∃ k : Nat, k ≤ n ∧ Hid (trimL ds n = trimL ds k) ∧ v = .slice (some ⟨b, off, none⟩) k cap) lenOf
  case atStart => exact ⟨n, Nat.le_refl _, rfl, rfl⟩
  case round =>
    obtain ⟨k, hk, ht, rfl⟩ := hrel
    cases k with
    | zero =>
      go_wp2
      go_ret
      exact ⟨ret_slice ht.out.symm, rfl⟩
    | succ k =>
      have hck := hc k (by omega)
      by_cases hz : ds.getD k 0 = 0
      · rw [hz] at hck
        have HZ : Hid (ds.getD k 0 = 0) := hz
        clear hz
        go_wp2
        go_round
        case rel => exact ⟨k, by omega, by rw [Hid, ht.out, trimL, if_pos HZ.out], rfl⟩
        case measure => simp [lenOf]
      · have hz2 : ((ds.getD k 0 : Nat) : Int) ≠ 0 := by omega
        generalize hx : ((ds.getD k 0 : Nat) : Int) = x at hck hz2
        clear hx
        have HZ : Hid (¬ ds.getD k 0 = 0) := hz
        clear hz
        go_wp2
        go_ret
        exact ⟨ret_slice (by rw [ht.out, trimL, if_neg HZ.out]), rfl⟩

set_option maxHeartbeats 400000 in
theorem of_any (w : World) (n : Nat) (hn : n < 18446744073709551616) :
    Calls Tryz.prog 218 #[.int .u64 (n : Nat)] w fun e w' => ∃ v, e = .returned v ∧ NatV w' v n ∧ Below w.heap.size w w' := by
  have hrow : Row (w.alloc (Obj.cells #[Value.int IntKind.u32 ((n : Int) % 4294967296), Value.int IntKind.u32 ((n : Int) / 4294967296)] 224)) w.heap.size 0 [n % 4294967296, n / 4294967296] := by
    intro i hi
    match i, hi with
    | 0, _ => simp
    | 1, _ => simp
  go_enter Tryz.func218, Tryz.ntmps218
  go_wp2_with fail
  refine (trim_any _ _ 0 2 2 [n % 4294967296, n / 4294967296] (by omega) (by omega) (by simp) hrow).mono ?_
  rintro e w' ⟨rfl, rfl⟩
  go_wp2
  go_ret
  refine ⟨_, rfl, ?_, (Below.refl _ _).alloc (Nat.le_refl _) _⟩
  have := natV_trim (cap := 2) (n := 2) hrow (by intro d hd; simp at hd; rcases hd with rfl | rfl <;> omega) (by simp) rfl (by omega)
  have e : val [n % 4294967296, n / 4294967296] = n := by simp [val]; omega
  rw [e] at this
  exact this
end Go.Proofs.YtnhfdcfnojnofaaGreatDoor

/-
  What Compare of package natural does.
-/
namespace Go.Proofs.YtnhfdcfnojnofaaGreatDoor
open Go.RowKit

set_option maxHeartbeats 400000 in
theorem cmpInt_any (w : World) (a b : Nat) (ha : a ≤ 140737488355328) (hb : b ≤ 140737488355328) :
    Calls Tryz.prog 307 #[.int .i64 (a : Nat), .int .i64 (b : Nat)] w fun e w' => e = .returned (.int .i64 (cmpI a b)) ∧ w' = w := by
  rcases Nat.lt_trichotomy a b with h | h | h
  · rw [cmpI_lt h]
    go_enter Tryz.func307, Tryz.ntmps307
    go_wp2
    go_ret
    exact ⟨rfl, rfl⟩
  · rw [cmpI_eq h]
    subst h
    go_enter Tryz.func307, Tryz.ntmps307
    go_wp2
    go_ret
    exact ⟨rfl, rfl⟩
  · rw [cmpI_gt h]
    go_enter Tryz.func307, Tryz.ntmps307
    go_wp2
    go_ret
    exact ⟨rfl, rfl⟩

set_option maxHeartbeats 400000 in
theorem cmpU32_any (w : World) (a b : Nat) (ha : a < 4294967296) (hb : b < 4294967296) :
    Calls Tryz.prog 308 #[.int .u32 (a : Nat), .int .u32 (b : Nat)] w fun e w' => e = .returned (.int .i64 (cmpI a b)) ∧ w' = w := by
  rcases Nat.lt_trichotomy a b with h | h | h
  · rw [cmpI_lt h]
    go_enter Tryz.func308, Tryz.ntmps308
    go_wp2
    go_ret
    exact ⟨rfl, rfl⟩
  · rw [cmpI_eq h]
    subst h
    go_enter Tryz.func308, Tryz.ntmps308
    go_wp2
    go_ret
    exact ⟨rfl, rfl⟩
  · rw [cmpI_gt h]
    go_enter Tryz.func308, Tryz.ntmps308
    go_wp2
    go_ret
    exact ⟨rfl, rfl⟩

set_option maxHeartbeats 800000 in
theorem compare_any (w : World) (u v : Value) (m n K : Nat) (hu : NatV w u m) (hv : NatV w v n) (hm : m < 4294967296 ^ K) (hn : n < 4294967296 ^ K) (hK : K ≤ 1073741824) :
    Calls Tryz.prog 222 #[u, v] w fun e w' => e = .returned (.int .i64 (cmpI m n)) ∧ ∃ q, w' = w.drewN q := by
  obtain ⟨ds, ⟨ao, cap, rfl, hc, hr⟩, hd, ht, rfl⟩ := hu
  obtain ⟨es, ⟨ao', cap', rfl, hc', hr'⟩, hd', ht', rfl⟩ := hv
  have hl := ht.len hm
  have hl' := ht'.len hn
  by_cases he : ds.length = es.length
  · have he2 : ((ds.length : Int) != (es.length : Int)) = false := by rw [bne_eq_false_iff_eq]; omega
    have HE : Hid (ds.length = es.length) := he
    clear hm hn ht ht' he
    go_enter Tryz.func222, Tryz.ntmps222
    go_wp2
    go_loopw [5] (fun i wr => ∃ k : Nat, k ≤ ds.length ∧ i = .int .i64 ((k : Int) - 1) ∧ Hid (ds.drop k = es.drop k) ∧ ∃ q, wr = w.drewN q) (fun i _ => (intOf i + 1).toNat)
    case atStart => exact ⟨ds.length, Nat.le_refl _, rfl, by rw [Hid, List.drop_of_length_le (Nat.le_refl _), List.drop_of_length_le (by rw [HE.out]; exact Nat.le_refl _)], 0, rfl⟩
    case round =>
      obtain ⟨k, hk, rfl, hdr, q, rfl⟩ := hrel
      cases k with
      | zero =>
        go_wp2
        go_ret
        refine ⟨ret_int ?_, q, rfl⟩
        rw [cmpI_eq (by rw [← List.drop_zero (l := ds), hdr.out, List.drop_zero])]
      | succ k =>
        obtain ⟨b, off, rfl, hb, hrow⟩ := hr (by intro e; simp [e] at hk)
        obtain ⟨b', off', rfl, hb', hrow'⟩ := hr' (by intro e; rw [Hid, e] at HE; simp at HE; simp [HE] at hk)
        have hkk : k < es.length := by have := HE.out; omega
        have hck := hrow k (by omega)
        have hck' := hrow' k hkk
        have hdk := hd.get k
        have hdk' := hd'.get k
        have hi1 : (0 : Int) ≤ (k : Int) := by omega
        have hi2 : ((k : Int)).toNat = k := by omega
        have hi3 : (k : Int) < (ds.length : Int) := by omega
        have hi4 : (k : Int) < (es.length : Int) := by omega
        have hlt1 := fun h => val_lt_at hd HE.out k (by omega) hdr.out h
        have hlt2 := fun h => val_lt_at hd' HE.out.symm k (by omega) hdr.out.symm h
        have heq := fun h => drop_eq_of HE.out k (by omega) hdr.out h
        have H1 : Hid (ds.getD k 0 < es.getD k 0 → val ds < val es) := hlt1
        have H2 : Hid (es.getD k 0 < ds.getD k 0 → val es < val ds) := hlt2
        have H3 : Hid (ds.getD k 0 = es.getD k 0 → ds.drop k = es.drop k) := heq
        clear hlt1 hlt2 heq hr hr' hrow hrow'
        generalize ds.getD k 0 = x at *
        generalize es.getD k 0 = y at *
        by_cases hxy : x = y
        · have HS := H3.out hxy
          have H4 : Hid (ds.drop k = es.drop k) := HS
          have hne : ((x : Int) != (y : Int)) = false := by rw [bne_eq_false_iff_eq]; omega
          clear HS H1 H2 H3 hxy
          go_wp2
          go_region
          all_goals go_wp2
          go_roundw
          case rel => exact ⟨k, by omega, by go_num, H4, q + 1, rfl⟩
          case measure => simp [intOf]
        · have hne : ((x : Int) != (y : Int)) = true := by rw [bne_iff_ne]; omega
          have HC : Hid (cmpI x y = cmpI (val ds) (val es)) := by
            rcases Nat.lt_or_gt_of_ne hxy with h | h
            · rw [Hid, cmpI_lt h, cmpI_lt (H1.out h)]
            · rw [Hid, cmpI_gt h, cmpI_gt (H2.out h)]
          clear H1 H2 H3 hxy
          go_wp2
          go_region
          all_goals go_wp2
          go_quiet ((go_at_call 308; exact (cmpU32_any _ _ _ hdk hdk').mono fun _ _ h => ⟨h.1, _, h.2⟩))
          go_wp2
          go_ret
          exact ⟨ret_int HC.out, q + 1 + nq, by rw [World.drewN_drewN]⟩
  · have he' : ((ds.length : Int) != (es.length : Int)) = true := by rw [bne_iff_ne]; omega
    have hcmp : cmpI ds.length es.length = cmpI (val ds) (val es) := by
      rcases Nat.lt_or_gt_of_ne he with h | h
      · rw [cmpI_lt h, cmpI_lt (ht'.lt_of_len hd h)]
      · rw [cmpI_gt h, cmpI_gt (ht.lt_of_len hd' h)]
    have HC := hcmp
    rw [← HC]
    clear hcmp HC hm hn ht ht' hd hd' hr hr'
    generalize ds.length = la at *
    generalize es.length = lb at *
    go_enter Tryz.func222, Tryz.ntmps222
    go_wp2_with fail
    refine (cmpInt_any _ _ _ (by omega) (by omega)).mono ?_
    rintro e w' ⟨rfl, rfl⟩
    go_wp2
    go_ret
    exact ⟨rfl, 0, rfl⟩
end Go.Proofs.YtnhfdcfnojnofaaGreatDoor
