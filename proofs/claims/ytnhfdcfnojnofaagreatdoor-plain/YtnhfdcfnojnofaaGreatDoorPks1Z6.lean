/-
  Part 6 of the texts ahead of Pks1: Tm1, Tr1, Tr2, Tr4, Tr6, Txt1, Txt2, Txt3.
-/
import Derived.Test.YtnhfdcfnojnofaaGreatDoorPks1Z5
import Derived.Test.YtnhfdcfnojnofaaGreatDoorPks1Z2
import Derived.Test.YtnhfdcfnojnofaaGreatDoorPks1Z1
import Derived.Laws.AppendOwnNone
import Derived.Test.YtnhfdcfnojnofaaGreatDoorPks1Z4
import Derived.Test.YtnhfdcfnojnofaaGreatDoorPks1Z3
import Derived.Test.YtnhfdcfnojnofaaGreatDoorShelf
import Derived.Lib.Strings
set_option linter.unusedSimpArgs false
set_option linter.unusedVariables false
/-
  Numbers by places of four decimal digits, as they lie in memory.
-/
namespace Go.Proofs.YtnhfdcfnojnofaaGreatDoor.T
open Go.RowKit


/-- The cells of block b from off on read as these digits. -/
def Row (w : World) (b off : Nat) (ds : List Nat) : Prop :=
  ∀ i, i < ds.length → w.cell? ⟨b, off + i, none⟩ = some (.int .i64 ((ds.getD i 0 : Nat) : Int))

/-- A slice value that reads as these digits. -/
def U32s (w : World) (v : Value) (ds : List Nat) : Prop :=
  ∃ ao cap, v = .slice ao ds.length cap ∧ ds.length ≤ cap ∧ (ds ≠ [] → ∃ b off, ao = some ⟨b, off, none⟩ ∧ b < w.heap.size ∧ Row w b off ds)

/-- A slice value that stands for a natural: digits, the last not nought. -/
def NatV (w : World) (v : Value) (n : Nat) : Prop := ∃ ds, U32s w v ds ∧ Dig ds ∧ Top ds ∧ val ds = n

theorem Row.below {w w' : World} {b off B : Nat} {ds : List Nat} (h : Row w b off ds) (hb : Below B w w') (hB : b < B) : Row w' b off ds :=
  fun i hi => (hb.cell (p := ⟨b, off + i, none⟩) hB).trans (h i hi)

theorem U32s.below {w w' : World} {v : Value} {ds : List Nat} (h : U32s w v ds) (hb : Below w.heap.size w w') : U32s w' v ds := by
  obtain ⟨ao, cap, hv, hc, hr⟩ := h
  refine ⟨ao, cap, hv, hc, fun hne => ?_⟩
  obtain ⟨b, off, ha, hlt, hrow⟩ := hr hne
  exact ⟨b, off, ha, Nat.lt_of_lt_of_le hlt hb.size, hrow.below hb hlt⟩

theorem NatV.below {w w' : World} {v : Value} {n : Nat} (h : NatV w v n) (hb : Below w.heap.size w w') : NatV w' v n := by
  obtain ⟨ds, h1, h2⟩ := h
  exact ⟨ds, h1.below hb, h2⟩

theorem NatV.alloc {w : World} {v : Value} {n : Nat} (h : NatV w v n) (o : Obj) : NatV (w.alloc o) v n :=
  h.below ((Below.refl _ _).alloc (Nat.le_refl _) o)

theorem NatV.zero (w : World) (ao : Option Addr) (cap : Nat) : NatV w (.slice ao 0 cap) 0 :=
  ⟨[], ⟨ao, cap, rfl, Nat.zero_le _, fun h => absurd rfl h⟩, (fun _ h => by simp at h), Top.nil, rfl⟩

theorem Row.take {w : World} {b off : Nat} {ds : List Nat} (h : Row w b off ds) (n : Nat) : Row w b off (ds.take n) := by
  intro i hi
  rw [List.length_take] at hi
  rw [h i (by omega), List.getD_eq_getElem?_getD, List.getD_eq_getElem?_getD, List.getElem?_take, if_pos (by omega)]

theorem Row.drop {w : World} {b off : Nat} {ds : List Nat} (h : Row w b off ds) (n : Nat) : Row w b (off + n) (ds.drop n) := by
  intro i hi
  rw [List.length_drop] at hi
  rw [show off + n + i = off + (n + i) by omega, h (n + i) (by omega), List.getD_eq_getElem?_getD, List.getD_eq_getElem?_getD, List.getElem?_drop]

theorem Row.append {w : World} {b off : Nat} {xs ys : List Nat} (h : Row w b off xs) (k : Row w b (off + xs.length) ys) : Row w b off (xs ++ ys) := by
  intro i hi
  rw [List.length_append] at hi
  by_cases hx : i < xs.length
  · rw [h i hx, List.getD_eq_getElem?_getD, List.getD_eq_getElem?_getD, List.getElem?_append_left hx]
  · have := k (i - xs.length) (by omega)
    rw [show off + xs.length + (i - xs.length) = off + i by omega] at this
    rw [this, List.getD_eq_getElem?_getD, List.getD_eq_getElem?_getD, List.getElem?_append_right (by omega)]

/-- What a row of digits, in whatever block, gives as a value. -/
theorem U32s.mk {w : World} {b off cap : Nat} {ds : List Nat} (h : Row w b off ds) (hb : b < w.heap.size) (hc : ds.length ≤ cap) : U32s w (.slice (some ⟨b, off, none⟩) ds.length cap) ds :=
  ⟨_, cap, rfl, hc, fun _ => ⟨b, off, rfl, hb, h⟩⟩

/-- A digit as a value. -/
def encD (d : Nat) : Value := .int .i64 (d : Int)

end Go.Proofs.YtnhfdcfnojnofaaGreatDoor.T

/-
  What the document's own trim, compare do (package planesref).
-/
namespace Go.Proofs.YtnhfdcfnojnofaaGreatDoor.T
open Go.RowKit

/-- The block is one of whole numbers. -/
def Kind (w : World) (g : Nat) : Prop := ∃ c fr, w.heap[g]? = some (.cells c 3 fr)

theorem Kind.below {w w' : World} {g B : Nat} (h : Kind w g) (hb : Below B w w') (hB : g < B) : Kind w' g := by
  obtain ⟨c, fr, h⟩ := h
  exact ⟨c, fr, (hb.block g hB).trans h⟩

theorem Kind.setCell {w : World} {g : Nat} (h : Kind w g) (a : Addr) (x : Value) : Kind (w.setCell a x) g := by
  obtain ⟨c, fr, h⟩ := h
  by_cases hg : g = a.block
  · subst hg
    unfold Kind World.setCell
    simp only [Array.getElem?_modify, if_true, h, Option.map_some]
    exact ⟨_, _, rfl⟩
  · exact ⟨c, fr, (Below.heap_setCell w a x g hg).trans h⟩

/-- A slice value that holds the places ds. -/
def Sl (w : World) (v : Value) (ds : List Nat) : Prop :=
  (v = .slice none 0 0 ∧ ds = []) ∨ ∃ g off cap, v = .slice (some ⟨g, off, none⟩) ds.length cap ∧ ds.length ≤ cap ∧ g < w.heap.size ∧ Row w g off ds ∧ Kind w g

/-- A slice value that stands for a number. -/
def NV (w : World) (v : Value) (n : Nat) : Prop := ∃ ds, Sl w v ds ∧ Dig ds ∧ Top ds ∧ val ds = n

theorem Sl.below {w w' : World} {v : Value} {ds : List Nat} (h : Sl w v ds) (hb : Below w.heap.size w w') : Sl w' v ds := by
  rcases h with h | ⟨g, off, cap, h1, h2, h3, h4, h5⟩
  · exact Or.inl h
  · exact Or.inr ⟨g, off, cap, h1, h2, Nat.lt_of_lt_of_le h3 hb.size, h4.below hb h3, h5.below hb h3⟩

theorem NV.below {w w' : World} {v : Value} {n : Nat} (h : NV w v n) (hb : Below w.heap.size w w') : NV w' v n := by
  obtain ⟨ds, h1, h2⟩ := h
  exact ⟨ds, h1.below hb, h2⟩

theorem Sl.alloc {w : World} {v : Value} {ds : List Nat} (h : Sl w v ds) (o : Obj) : Sl (w.alloc o) v ds := h.below ((Below.refl _ _).alloc (Nat.le_refl _) _)
theorem NV.alloc {w : World} {v : Value} {n : Nat} (h : NV w v n) (o : Obj) : NV (w.alloc o) v n := h.below ((Below.refl _ _).alloc (Nat.le_refl _) _)
theorem Sl.shape {w : World} {v : Value} {ds : List Nat} (h : Sl w v ds) : ∃ ao cap, v = .slice ao ds.length cap ∧ ds.length ≤ cap := by
  rcases h with ⟨rfl, rfl⟩ | ⟨g, off, cap, rfl, h2, _⟩
  · exact ⟨none, 0, rfl, Nat.le_refl _⟩
  · exact ⟨_, _, rfl, h2⟩

theorem Sl.row {w : World} {ao : Option Addr} {l cap : Nat} {ds : List Nat} (h : Sl w (.slice ao l cap) ds) (hne : ds ≠ []) : ∃ g off, ao = some ⟨g, off, none⟩ ∧ g < w.heap.size ∧ Row w g off ds := by
  rcases h with ⟨h, rfl⟩ | ⟨g, off, cap', h1, h2, h3, h4, _⟩
  · exact absurd rfl hne
  · simp only [Value.slice.injEq] at h1
    obtain ⟨rfl, _, _⟩ := h1
    exact ⟨g, off, rfl, h3, h4⟩

end Go.Proofs.YtnhfdcfnojnofaaGreatDoor.T

/-
  What the document's own plus, times, less do (package planesref).
-/
namespace Go.Proofs.YtnhfdcfnojnofaaGreatDoor.T
open Go.RowKit

theorem Tryz.infoInt : (Tryz.prog.info? 3).map (fun i => (i.zero, i.size, i.bytes)) = some (some (.int .i64 0), 1, 8) := by kernel_rfl

theorem sl_empty (w : World) : Sl w (.slice none 0 0) [] := Or.inl ⟨rfl, rfl⟩

end Go.Proofs.YtnhfdcfnojnofaaGreatDoor.T

/-
  What the document's own product does (package planesref).
-/
namespace Go.Proofs.YtnhfdcfnojnofaaGreatDoor.T
open Go.RowKit

theorem NV.zero (w : World) : NV w (.slice none 0 0) 0 := ⟨[], sl_empty w, fun d hd => by simp at hd, fun k h => by simp at h, rfl⟩

end Go.Proofs.YtnhfdcfnojnofaaGreatDoor.T

/-
  What the document's own lowest, Of, Turned, Sign, Whole do (package planesref).
-/
namespace Go.Proofs.YtnhfdcfnojnofaaGreatDoor.T
open Go.RowKit

theorem NV.setCell {w : World} {v : Value} {n : Nat} (h : NV w v n) {a : Addr} {y : Value} (hy : w.cell? a = some y) (hn : ∀ k, y ≠ .int .i64 k) (x : Value) : NV (w.setCell a x) v n := by
  obtain ⟨ds, hs, h2⟩ := h
  refine ⟨ds, ?_, h2⟩
  rcases hs with hs | ⟨b, off, cap, hv, hc, hb, hrow, hkd⟩
  · exact Or.inl hs
  · refine Or.inr ⟨b, off, cap, hv, hc, by simpa using hb, fun i hi => ?_, hkd.setCell _ _⟩
    rw [World.cell?_setCell_other _ _ _ _ (by
      intro he
      have := hrow i hi
      rw [← he, hy, Option.some.injEq] at this
      exact hn _ this)]
    exact hrow i hi

theorem NV.slice {w : World} {v : Value} {n : Nat} (h : NV w v n) : ∃ ao l cap, v = .slice ao l cap := by
  obtain ⟨ds, hs, _⟩ := h
  obtain ⟨ao, cap, rfl, _⟩ := hs.shape
  exact ⟨_, _, _, rfl⟩

/-- A struct value that stands for the number p / q. -/
def NumV (w : World) (x : Value) (p : Int) (q : Nat) : Prop :=
  ∃ b v u, x = .agg #[.bool b, v, u] ∧ NV w v p.natAbs ∧ Hid (b = decide (p < 0)) ∧ NV w u q ∧ 0 < q

theorem NumV.below {w w' : World} {x : Value} {p : Int} {q : Nat} (h : NumV w x p q) (hb : Below w.heap.size w w') : NumV w' x p q := by
  obtain ⟨b, v, u, h1, h2, h3, h4, h5⟩ := h
  exact ⟨b, v, u, h1, h2.below hb, h3, h4.below hb, h5⟩
theorem NumV.alloc {w : World} {x : Value} {p : Int} {q : Nat} (h : NumV w x p q) (o : Obj) : NumV (w.alloc o) x p q := h.below ((Below.refl _ _).alloc (Nat.le_refl _) o)
end Go.Proofs.YtnhfdcfnojnofaaGreatDoor.T

/-
  Decimal digits read: allDigits, piece.
-/
namespace Go.Proofs.YtnhfdcfnojnofaaGreatDoor
open Go.RowKit

/-- A byte that is a decimal digit. -/
def isDig (c : UInt8) : Bool := decide (48 ≤ c.toNat) && decide (c.toNat ≤ 57)
/-- All bytes are decimal digits. -/
def allDig (l : List UInt8) : Bool := l.all isDig
/-- The number that decimal digits are. -/
def decVal (l : List UInt8) : Nat := l.foldl (fun a c => a * 10 + (c.toNat - 48)) 0

theorem decVal_snoc (l : List UInt8) (c : UInt8) : decVal (l ++ [c]) = decVal l * 10 + (c.toNat - 48) := by simp [decVal, List.foldl_append]

theorem isDig_bd {c : UInt8} (h : isDig c = true) : 48 ≤ c.toNat ∧ c.toNat ≤ 57 := by
  unfold isDig at h; simpa using h

theorem allDig_get {l : List UInt8} (h : allDig l = true) (i : Nat) (hi : i < l.length) : 48 ≤ l[i].toNat ∧ l[i].toNat ≤ 57 := by
  unfold allDig at h
  rw [List.all_eq_true] at h
  exact isDig_bd (h _ (List.getElem_mem hi))

theorem decVal_take_succ (l : List UInt8) (k : Nat) (h : k < l.length) : decVal (l.take (k + 1)) = decVal (l.take k) * 10 + (l[k].toNat - 48) := by
  rw [List.take_succ_eq_append_getElem h, decVal_snoc]

theorem decVal_take_lt {l : List UInt8} (h : allDig l = true) (k : Nat) (hk : k ≤ l.length) : decVal (l.take k) < 10 ^ k := by
  induction k with
  | zero => simp [decVal]
  | succ k ih =>
    have h1 := ih (by omega)
    have h2 := allDig_get h k (by omega)
    rw [decVal_take_succ l k (by omega), Nat.pow_succ]
    generalize 10 ^ k = p at *
    omega

theorem decVal_lt {l : List UInt8} (h : allDig l = true) : decVal l < 10 ^ l.length := by
  have := decVal_take_lt h l.length (Nat.le_refl _)
  rwa [List.take_length] at this

theorem dec_fold (x : Nat) (b : List UInt8) : b.foldl (fun a c => a * 10 + (c.toNat - 48)) x = x * 10 ^ b.length + decVal b := by
  induction b generalizing x with
  | nil => simp [decVal]
  | cons c b ih =>
    have e1 : decVal (c :: b) = b.foldl (fun a c => a * 10 + (c.toNat - 48)) (c.toNat - 48) := by simp [decVal]
    rw [List.foldl_cons, ih, e1, ih (c.toNat - 48), List.length_cons, Nat.pow_succ, Nat.add_mul, Nat.mul_assoc, Nat.mul_comm 10 (10 ^ b.length)]
    omega

theorem decVal_append (a b : List UInt8) : decVal (a ++ b) = decVal a * 10 ^ b.length + decVal b := by
  have e : decVal (a ++ b) = b.foldl (fun a c => a * 10 + (c.toNat - 48)) (decVal a) := by simp [decVal, List.foldl_append]
  rw [e, dec_fold]

set_option maxRecDepth 100000 in
set_option maxHeartbeats 400000 in
theorem allDigits_yes (s : ByteArray) (w : World) (hs : s.size ≤ 1099511627776) (h : allDig s.data.toList = true) :
    Calls Tryz.prog 130 #[.string s] w fun e w' => e = .returned (.bool true) ∧ w' = w := by
  have hall : ∀ i (hi : i < s.size), 48 ≤ s[i].toNat ∧ s[i].toNat ≤ 57 := fun i hi => allDig_get h i (by simpa using hi)
  clear h
  go_enter Tryz.func130, Tryz.ntmps130
  go_wp2
  go_loop [6] (fun i => ∃ k : Nat, k ≤ s.size ∧ i = .int .i64 k) (fun i => s.size - (intOf i).toNat)
  case atStart => exact ⟨0, Nat.zero_le _, rfl⟩
  case round =>
    obtain ⟨k, hk, rfl⟩ := hrel
    by_cases hlt : k < s.size
    · have h1 := (hall k hlt).1
      have h2 := (hall k hlt).2
      have h3 : (48 : Int) ≤ (s[k].toNat : Int) := by omega
      have h4 : (s[k].toNat : Int) ≤ 57 := by omega
      go_wp2
      go_round
      case rel => exact ⟨k + 1, by omega, by go_num⟩
      case measure => simp [intOf]; omega
    · go_wp2
      go_ret
      exact ⟨rfl, rfl⟩

theorem first_bad {l : List UInt8} (h : allDig l = false) : ∃ k, ∃ hk : k < l.length, (l[k].toNat < 48 ∨ 57 < l[k].toNat) ∧ ∀ i (hi : i < k), 48 ≤ (l[i]'(by omega)).toNat ∧ (l[i]'(by omega)).toNat ≤ 57 := by
  induction l with
  | nil => simp [allDig] at h
  | cons c l ih =>
    by_cases hc : isDig c = true
    · have h1 : allDig l = false := by
        unfold allDig at h ⊢
        rw [List.all_cons, hc, Bool.true_and] at h
        exact h
      obtain ⟨k, hk, h2, h3⟩ := ih h1
      refine ⟨k + 1, by simpa using hk, by simpa using h2, ?_⟩
      intro i hi
      cases i with
      | zero => exact isDig_bd hc
      | succ i => have := h3 i (by omega); simpa using this
    · refine ⟨0, by simp, ?_, fun i hi => by omega⟩
      unfold isDig at hc
      simp at hc ⊢
      omega

set_option maxRecDepth 100000 in
set_option maxHeartbeats 400000 in
theorem allDigits_no (s : ByteArray) (w : World) (hs : s.size ≤ 1099511627776) (h : allDig s.data.toList = false) :
    Calls Tryz.prog 130 #[.string s] w fun e w' => e = .returned (.bool false) ∧ w' = w := by
  obtain ⟨n, hn, hbad, hgood⟩ := first_bad h
  have hn' : n < s.size := by simpa using hn
  have hbad' : s[n].toNat < 48 ∨ 57 < s[n].toNat := hbad
  have hall : ∀ i (hi : i < n), 48 ≤ (s[i]'(by omega)).toNat ∧ (s[i]'(by omega)).toNat ≤ 57 := fun i hi => hgood i hi
  clear h hbad hgood
  go_enter Tryz.func130, Tryz.ntmps130
  go_wp2
  go_loop [6] (fun i => ∃ k : Nat, k ≤ n ∧ i = .int .i64 k) (fun i => n - (intOf i).toNat)
  case atStart => exact ⟨0, Nat.zero_le _, rfl⟩
  case round =>
    obtain ⟨k, hk, rfl⟩ := hrel
    by_cases hlt : k < n
    · have hlt2 : k < s.size := by omega
      have h1 := (hall k hlt).1
      have h2 := (hall k hlt).2
      have h3 : (48 : Int) ≤ (s[k].toNat : Int) := by omega
      have h4 : (s[k].toNat : Int) ≤ 57 := by omega
      go_wp2
      go_round
      case rel => exact ⟨k + 1, by omega, by go_num⟩
      case measure => simp [intOf]; omega
    · have hkn : k = n := by omega
      subst hkn
      rcases hbad' with h5 | h5
      · have h6 : (s[k].toNat : Int) < 48 := by omega
        go_wp2
        go_ret
        exact ⟨rfl, rfl⟩
      · have h6 : 57 < (s[k].toNat : Int) := by omega
        have h7 : (48 : Int) ≤ (s[k].toNat : Int) := by omega
        go_wp2
        go_ret
        exact ⟨rfl, rfl⟩

set_option maxRecDepth 100000 in
set_option maxHeartbeats 400000 in
theorem piece_any (s : ByteArray) (w : World) (hs : s.size ≤ 9) (h : allDig s.data.toList = true) :
    Calls Tryz.prog 133 #[.string s] w fun e w' => e = .returned (.int .u32 (decVal s.data.toList : Nat)) ∧ w' = w := by
  have hall : ∀ i (hi : i < s.size), 48 ≤ s[i].toNat ∧ s[i].toNat ≤ 57 := fun i hi => allDig_get h i (by simpa using hi)
  have hlt0 : ∀ k, k ≤ s.size → decVal (s.data.toList.take k) < 10 ^ k := fun k hk => decVal_take_lt h k (by simpa using hk)
  have hstep : ∀ k (hk : k < s.size), decVal (s.data.toList.take (k + 1)) = decVal (s.data.toList.take k) * 10 + (s[k].toNat - 48) := fun k hk => decVal_take_succ _ k (by simpa using hk)
  have HALL := hide hall
  have HLT := hide hlt0
  have HST := hide hstep
  clear h hall hlt0 hstep
  go_enter Tryz.func133, Tryz.ntmps133
  go_wp2
  go_loop [3, 7] (fun v i => ∃ k : Nat, k ≤ s.size ∧ i = .int .i64 k ∧ v = .int .u32 (decVal (s.data.toList.take k) : Nat)) (fun _ i => s.size - (intOf i).toNat)
  case atStart => exact ⟨0, Nat.zero_le _, rfl, rfl⟩
  case round =>
    obtain ⟨k, hk, rfl, rfl⟩ := hrel
    by_cases hlt : k < s.size
    · have h1 := (HALL.out k hlt).1
      have h2 := (HALL.out k hlt).2
      have h3 : (48 : Int) ≤ (s[k].toNat : Int) := by omega
      have h4 : (s[k].toNat : Int) ≤ 57 := by omega
      have h5 := HLT.out k hk
      have h6 : 10 ^ k ≤ 10 ^ 8 := Nat.pow_le_pow_right (by omega) (by omega)
      have h7 : decVal (s.data.toList.take k) < 100000000 := by omega
      have HS := hide (HST.out k hlt)
      generalize decVal (s.data.toList.take k) = x at *
      clear h5 h6
      go_wp2
      go_round
      case rel => exact ⟨k + 1, by omega, by go_num, by rw [HS.out]; exact congrArg (Value.int .u32) (by omega)⟩
      case measure => simp [intOf]; omega
    · have hke : k = s.size := by omega
      have HE : Hid (decVal (s.data.toList.take k) = decVal s.data.toList) := by rw [Hid, List.take_of_length_le (by simp; omega)]
      clear hke
      go_wp2
      go_ret
      exact ⟨ret_int (by rw [HE.out]), rfl⟩
end Go.Proofs.YtnhfdcfnojnofaaGreatDoor

/-
  Decimal digits read: timesPieceBase.
-/
namespace Go.Proofs.YtnhfdcfnojnofaaGreatDoor
open Go.RowKit

theorem encD_set (ds : List Nat) (i x : Nat) : (ds.set i x).map encD = (ds.map encD).set i (encD x) := by rw [List.map_set]

theorem piece_step {cur ds : List Nat} {k c m : Nat} (hk : k < cur.length) (hi : val (cur.take k) + 4294967296 ^ k * c = val (ds.take k) * 1000000000 + m) :
    val ((cur.set k ((c + ds.getD k 0 * 1000000000) % 4294967296)).take (k + 1)) + 4294967296 ^ (k + 1) * ((c + ds.getD k 0 * 1000000000) / 4294967296) = val (ds.take (k + 1)) * 1000000000 + m := by
  rw [val_lay cur k _ hk, val_take_any ds k, Nat.mul_add, Nat.add_mul, Nat.mul_assoc]
  omega

/-- A number at least that power has its highest digit not nought. -/
theorem top_of_ge {ds : List Nat} (hd : Dig ds) (h : ∀ k, ds.length = k + 1 → 4294967296 ^ k ≤ val ds) : Top ds := by
  intro k hk h0
  have h1 := h k hk
  have e := take_snoc_getD ds k (by omega)
  rw [List.take_of_length_le (by omega)] at e
  rw [e, val_append, h0] at h1
  have h2 := val_lt (hd.take k)
  rw [List.length_take, Nat.min_eq_left (by omega)] at h2
  simp [val] at h1
  omega

theorem top_snoc {ds : List Nat} {c : Nat} (hc : c ≠ 0) : Top (ds ++ [c]) := by
  intro k hk
  have : ds.length = k := by simpa using hk
  subst this
  simpa using hc

set_option maxRecDepth 100000 in
set_option maxHeartbeats 1000000 in
theorem timesPiece_any (w : World) (B g cap m : Nat) (ds : List Nat) (hown : w.ownsRow B 224 1 (.slice (some ⟨g, 0, none⟩) ds.length cap) ds.length (ds.map encD)) (hB : B ≤ w.heap.size) (hlen : ds.length ≤ 1073741823) (hm : m < 1000000000) (hd : Dig ds) (ht : Top ds) :
    Calls Tryz.prog 132 #[.slice (some ⟨g, 0, none⟩) ds.length cap, .int .u32 (m : Nat)] w fun e w' =>
      ∃ g' cap' ds', e = .returned (.slice (some ⟨g', 0, none⟩) ds'.length cap') ∧ w'.ownsRow B 224 1 (.slice (some ⟨g', 0, none⟩) ds'.length cap') ds'.length (ds'.map encD) ∧ Dig ds' ∧ val ds' = val ds * 1000000000 + m ∧ ds'.length ≤ ds.length + 1 ∧ Below B w w' ∧ Top ds' := by
  have hgB := (lt_of_owns hown).1
  obtain ⟨i0, hi, hz0, hz1, hz2⟩ := info_parts Tryz.info131
  go_enter Tryz.func132, Tryz.ntmps132
  go_wp2
  go_loopw [5, 11] (fun cv iv wr => ∃ (k c : Nat) (cur : List Nat), k ≤ ds.length ∧ c < 4294967296 ∧ iv = .int .i64 (k : Nat) ∧ cv = .int .u64 (c : Nat) ∧ Hid (cur.length = ds.length) ∧ Dig cur ∧ wr.ownsRow B 224 1 (.slice (some ⟨g, 0, none⟩) ds.length cap) ds.length (cur.map encD) ∧ Below B w wr ∧
      Hid (cur.drop k = ds.drop k) ∧ Hid (val (cur.take k) + 4294967296 ^ k * c = val (ds.take k) * 1000000000 + m)) (fun _ iv _ => ds.length - (intOf iv).toNat)
  case atStart => exact ⟨0, m, ds, Nat.zero_le _, by omega, rfl, rfl, rfl, hd, hown, Below.refl _ _, rfl, by simp [Hid, val]⟩
  case round =>
    obtain ⟨k, c, cur, hk, hc, rfl, rfl, hcl, hcd, hco, hbel, hdr, hval⟩ := hrel
    by_cases hlt : k < ds.length
    · have hkc : k < cur.length := by rw [hcl.out]; exact hlt
      have hx := row_of_owns hco hcl.out k hkc
      rw [getD_of_drop hdr.out, Nat.zero_add] at hx
      have hxl := hd.get k
      have hfz : wr.frozen? ⟨g, k, none⟩ = false := hco.frozenAt k
      have hst := (hco.stored k (encD ((c + ds.getD k 0 * 1000000000) % 4294967296))).1
      rw [← encD_set] at hst
      have HS := hide (piece_step (m := m) hkc hval.out)
      generalize ds.getD k 0 = x at *
      have e1 : encD ((c + x * 1000000000) % 4294967296) = .int .u32 (((c : Int) + x * 1000000000) % 4294967296) := by unfold encD; exact congrArg _ (by omega)
      rw [e1] at hst
      have E2 := hide (show (((c + x * 1000000000) / 4294967296 : Nat) : Int) = ((c : Int) + x * 1000000000) / 4294967296 by omega)
      have HB2 := hide (show (c + x * 1000000000) / 4294967296 < 4294967296 by omega)
      clear hval e1 hi hz0 hz1 hz2
      go_wp2
      go_roundw
      case rel => exact ⟨k + 1, (c + x * 1000000000) / 4294967296, _, by omega, HB2.out, by go_num, by rw [E2.out], by rw [Hid, List.length_set, hcl.out], hcd.set _ _ (Nat.mod_lt _ (by decide)), hst, hbel.setCell (by exact hgB) _, by rw [Hid, drop_set_succ]; exact drop_tail hdr.out, HS.out⟩
      case measure => simp [intOf]; omega
    · have hkd : k = ds.length := by omega
      have hv2 := hval.out
      rw [hkd, List.take_of_length_le (by rw [hcl.out]; omega), List.take_of_length_le (Nat.le_refl ds.length)] at hv2
      by_cases hc0 : c = 0
      · subst hc0
        have HV := hide hv2
        clear hval hv2 hkd
        have htop : Top cur := by
          refine top_of_ge hcd (fun j hj => ?_)
          have h1 := ht.le j (by rw [← hcl.out]; exact hj)
          have h2 := HV.out
          omega
        have HT := hide htop
        clear htop
        go_wp2
        go_ret
        have hcl2 := hcl.out
        rw [← hcl2] at hco
        exact ⟨g, cap, cur, ret_slice hcl2.symm, hco, hcd, by have := HV.out; omega, by omega, hbel, HT.out⟩
      · have hcp : 0 < (c : Int) := by omega
        have HV := hide hv2
        have hbs := hbel.size
        clear hval hv2 hkd
        go_wp2_with (at_builtin; refine wpList_append_own _ rfl _ _ 99 rfl B 224 i0 (.int .u32 0) 1 4 Tryz.underlying99 hi hz0 hz1 hz2 rfl (by decide) (.slice (some ⟨g, 0, none⟩) ds.length cap) ds.length (cur.map encD) rfl (hco.alloc _) ⟨wr.heap.size, 0, none⟩ 1 1 [encD c] rfl rfl ?c1 ?c2 (by unfold maxLen; omega) (by omega) (by simp; omega) ?_)
        case c1 => exact cell_one_new _ _ _
        case c2 => intro u hu; simp at hu; subst hu; rfl
        intro v1 w1 hown1 hgrow hnn
        have hv1 : v1 ≠ .slice none 0 0 := fun e => hnn e
        have e2 : cur.map encD ++ [encD c] = (cur ++ [c]).map encD := by simp
        rw [e2] at hown1
        obtain ⟨g', cap', hvv, _, _, _, _, _⟩ := owns_parts hown1 hv1
        subst hvv
        have hbel1 : Below B w w1 := (hbel.alloc (by omega) _).grown hgrow (by simp; omega) (fun k h => by simp [Value.ownBlock] at h; omega)
        have hl2 : (cur ++ [c]).length = ds.length + 1 := by have := hcl.out; simp; omega
        clear hgrow hnn hco
        go_wp2
        go_ret
        rw [← hl2] at hown1
        refine ⟨g', cap', cur ++ [c], ret_slice hl2.symm, hown1, hcd.append (by intro d hd; simp at hd; omega), ?_, by omega, hbel1, top_snoc hc0⟩
        have h1 := HV.out
        have h3 := hcl.out
        rw [val_append, h3]
        simp [val]
        exact h1
end Go.Proofs.YtnhfdcfnojnofaaGreatDoor

/-
  Decimal digits read: natural.Parse.
-/
namespace Go.Proofs.YtnhfdcfnojnofaaGreatDoor
open Go.RowKit

def strLen : Value → Nat | .string s => s.size | _ => 0

theorem allDig_sub {l m : List UInt8} (h : allDig l = true) (hs : ∀ c ∈ m, c ∈ l) : allDig m = true := by
  unfold allDig at *
  rw [List.all_eq_true] at *
  exact fun c hc => h c (hs c hc)

theorem decVal_trim (l : List UInt8) : decVal (Lib.trimLeftB l 48) = decVal l := by
  unfold Lib.trimLeftB
  induction l with
  | nil => rfl
  | cons c l ih =>
    by_cases hc : c = 48
    · subst hc
      have e : decVal (48 :: l) = decVal l := by simp [decVal]
      rw [e, List.dropWhile_cons_of_pos (by simp)]
      exact ih
    · rw [List.dropWhile_cons_of_neg (by simpa using hc)]

theorem trimLeftB_len (l : List UInt8) (c : UInt8) : (Lib.trimLeftB l c).length ≤ l.length := by
  unfold Lib.trimLeftB
  exact (List.dropWhile_sublist _).length_le

theorem decVal_piece {L : List UInt8} {k n : Nat} (h : k = 0 ∨ n = 9) (hk : k + n ≤ L.length) : decVal (L.take (k + n)) = decVal (L.take k) * 1000000000 + decVal ((L.drop k).take n) := by
  rw [List.take_add, decVal_append]
  rcases h with h | h
  · subst h; simp [decVal]
  · subst h
    have : ((L.drop k).take 9).length = 9 := by rw [List.length_take, List.length_drop]; omega
    rw [this]

set_option maxRecDepth 100000 in
set_option maxHeartbeats 1000000 in
theorem natParse_no (s : ByteArray) (m : Nat) (w : World) (hm : m ≤ 1099511627776) (hs : s.size ≤ 1099511627776) (h : s.data.toList = [] ∨ m < s.size ∨ allDig s.data.toList = false) :
    Calls Tryz.prog 76 #[.string s, .int .i64 (m : Nat)] w fun e w' => e = .returned (.tuple #[.slice none 0 0, .bool false]) ∧ w' = w := by
  by_cases h0 : s.size = 0
  · have h1 : ((s.size : Int) == 0) = true := by rw [h0]; rfl
    clear h
    go_enter Tryz.func76, Tryz.ntmps76
    go_wp2
    go_ret2
    exact ⟨rfl, rfl⟩
  · have h1 : ((s.size : Int) == 0) = false := beq_eq_false_iff_ne.2 (by omega)
    by_cases h2 : m < s.size
    · have h3 : (m : Int) < (s.size : Int) := by omega
      clear h
      go_enter Tryz.func76, Tryz.ntmps76
      go_wp2
      go_ret2
      exact ⟨rfl, rfl⟩
    · have h3 : ¬ (m : Int) < (s.size : Int) := by omega
      have h4 : allDig s.data.toList = false := by
        rcases h with h | h | h
        · exact absurd (by rw [Lib.size_eq, h]; rfl) h0
        · exact absurd h h2
        · exact h
      clear h
      go_enter Tryz.func76, Tryz.ntmps76
      go_wp2_with fail
      refine (allDigits_no s _ hs h4).mono ?_
      rintro e w' ⟨rfl, rfl⟩
      go_wp2
      go_ret2
      exact ⟨rfl, rfl⟩

set_option maxRecDepth 100000 in
set_option maxHeartbeats 1000000 in
theorem natParse_yes (s : ByteArray) (m : Nat) (w : World) (hm : m ≤ 1000000000) (hs0 : 0 < s.size) (hs : s.size ≤ m) (h : allDig s.data.toList = true) :
    Calls Tryz.prog 76 #[.string s, .int .i64 (m : Nat)] w fun e w' => ∃ v, e = .returned (.tuple #[v, .bool true]) ∧ NatV w' v (decVal s.data.toList) ∧ Below w.heap.size w w' := by
  have h1 : ((s.size : Int) == 0) = false := beq_eq_false_iff_ne.2 (by omega)
  have h3 : ¬ (m : Int) < (s.size : Int) := by omega
  have hLl : (Lib.trimLeftB s.data.toList 48).length ≤ s.size := by rw [Lib.size_eq s]; exact trimLeftB_len _ _
  have hLd : allDig (Lib.trimLeftB s.data.toList 48) = true := allDig_sub h (fun c hc => (List.dropWhile_sublist _).subset hc)
  have HV := hide (decVal_trim s.data.toList)
  obtain ⟨i0, hi, hz0, hz1, hz2⟩ := info_parts Tryz.info131
  go_enter Tryz.func76, Tryz.ntmps76
  go_wp2_with fail
  refine (allDigits_yes s _ (by omega) h).mono ?_
  rintro e w' ⟨rfl, rfl⟩
  clear h
  go_wp2_with fail
  refine (Tryz.strings_TrimLeft_one s 48 (by decide) _).mono ?_
  rintro e w1 ⟨rfl, rfl⟩
  generalize Lib.trimLeftB s.data.toList 48 = L at *
  have hLs : (ByteArray.mk L.toArray).size = L.length := by simp [ByteArray.size]
  clear h1 h3
  go_wp2_with (at_make; refine wpList_make_own _ rfl _ _ 99 rfl w1.heap.size 224 i0 (.int .u32 0) 1 Tryz.underlying99 hi hz0 hz1 _ _ _ (L.length / 9 + 1) rfl rfl ?c0 (by rw [hz2]; omega) (by unfold maxLen; omega) (Nat.le_refl _) ?_)
  case c0 => rw [← hLs]; omega
  intro w2 hown hgrow
  have hb2 : Below w1.heap.size w1 w2 := (Below.refl _ _).grown hgrow (Nat.le_refl _) (fun k h => by simp at h)
  have HL := hide hLs
  clear hgrow hi hz0 hz1 hz2 hLs
  go_wp2
  go_loopw [0, 6] (fun tv nv wr => ∃ (t : ByteArray) (k g cap : Nat) (ds : List Nat), tv = .string t ∧ nv = .slice (some ⟨g, 0, none⟩) ds.length cap ∧ k ≤ L.length ∧ t.size ≤ 1000000000 ∧ Hid (t.data.toList = L.drop k) ∧ Hid (t.size = L.length - k) ∧ Hid (k = 0 ∨ (L.length - k) % 9 = 0) ∧
      wr.ownsRow w1.heap.size 224 1 (.slice (some ⟨g, 0, none⟩) ds.length cap) ds.length (ds.map encD) ∧ Dig ds ∧ Top ds ∧ Hid (val ds = decVal (L.take k)) ∧ ds.length ≤ k ∧ Below w1.heap.size w1 wr) (fun tv _ _ => strLen tv)
  case atStart =>
    refine ⟨_, 0, w1.heap.size, L.length / 9 + 1, [], rfl, rfl, Nat.zero_le _, by rw [HL.out]; omega, by simp [Hid], by rw [Hid, HL.out, Nat.sub_zero], Or.inl rfl, hown, ?_, Top.nil, by simp [Hid, val, decVal], Nat.le_refl _, hb2⟩
    intro d hd; simp at hd
  case round =>
    obtain ⟨t, k, g, cap, ds, rfl, rfl, hk, htb, htl, hts, hk9, hown, hd, htop, hval, hdl, hbel⟩ := hrel
    by_cases h0 : 0 < t.size
    · have hn1 : (t.size - 1) % 9 + 1 ≤ t.size := by have := Nat.mod_le (t.size - 1) 9; omega
      have hpl : (t.extract 0 ((t.size - 1) % 9 + 1)).data.toList = (L.drop k).take ((t.size - 1) % 9 + 1) := by rw [Lib.extract_data, List.drop_zero, Nat.sub_zero, htl.out]
      have hps : (t.extract 0 ((t.size - 1) % 9 + 1)).size ≤ 9 := by
        rw [Lib.size_eq, hpl, List.length_take]; omega
      have hpd : allDig (t.extract 0 ((t.size - 1) % 9 + 1)).data.toList = true := by
        rw [hpl]; exact allDig_sub hLd (fun c hc => List.mem_of_mem_drop (List.mem_of_mem_take hc))
      have hpv := decVal_lt hpd
      have hpv2 : decVal (t.extract 0 ((t.size - 1) % 9 + 1)).data.toList < 1000000000 := by
        have h1 : (t.extract 0 ((t.size - 1) % 9 + 1)).data.toList.length ≤ 9 := by rw [← Lib.size_eq]; exact hps
        have h2 : 10 ^ (t.extract 0 ((t.size - 1) % 9 + 1)).data.toList.length ≤ 10 ^ 9 := Nat.pow_le_pow_right (by omega) h1
        omega
      have hkn : k + ((t.size - 1) % 9 + 1) ≤ L.length := by have := hts.out; omega
      have h9 : k = 0 ∨ (t.size - 1) % 9 + 1 = 9 := by
        have h1 := hts.out
        rcases hk9.out with h | h
        · exact Or.inl h
        · right; omega
      have HP := hide (decVal_piece (L := L) h9 hkn)
      have HPL := hide hpl
      have hrest : (t.extract ((t.size - 1) % 9 + 1) t.size).data.toList = L.drop (k + ((t.size - 1) % 9 + 1)) := by
        rw [Lib.extract_to_end, htl.out, List.drop_drop]
      have HR := hide hrest
      have hr9 : (L.length - (k + ((t.size - 1) % 9 + 1))) % 9 = 0 := by have := hts.out; omega
      have HR9 := hide hr9
      have hrs : (t.extract ((t.size - 1) % 9 + 1) t.size).size = L.length - (k + ((t.size - 1) % 9 + 1)) := by rw [Lib.size_eq, hrest, List.length_drop]
      have HRS := hide hrs
      have hb1 := hbel.size
      clear hpl hpv hrest hr9 hrs h9
      go_wp2_with fail
      refine (piece_any _ _ hps hpd).mono ?_
      rintro e w3 ⟨rfl, rfl⟩
      clear hps hpd
      have epv : (t.extract 0 ((t.size - 1) % 9 + 1)).data.toList = t.data.toList.take ((t.size - 1) % 9 + 1) := by rw [Lib.extract_data, List.drop_zero, Nat.sub_zero]
      rw [epv] at hpv2
      have HPV := hide (congrArg decVal (epv.symm.trans HPL.out))
      clear epv
      go_wp2_with fail
      refine (timesPiece_any _ w1.heap.size g cap _ ds hown hb1 (by omega) hpv2 hd htop).mono ?_
      rintro e w4 ⟨g4, cap4, ds4, rfl, hown4, hd4, hval4, hdl4, hb4, htop4⟩
      go_wp2
      go_roundw
      case rel => exact ⟨_, k + ((t.size - 1) % 9 + 1), g4, cap4, ds4, rfl, rfl, by omega, by rw [HRS.out]; omega, HR, HRS, Or.inr HR9.out, hown4, hd4, htop4, by rw [Hid, hval4, HPV.out, HP.out, hval.out], by omega, hbel.trans hb4⟩
      case measure => show (t.extract _ _).size < t.size; rw [HRS.out]; have := hts.out; omega
    · have hke : k = L.length := by have := hts.out; omega
      have hvd : val ds = decVal s.data.toList := by rw [hval.out, hke, List.take_length, HV.out]
      have HVD := hide hvd
      have hgl := (lt_of_owns hown).2
      have hrow := row_of_owns hown rfl
      have hcl : ds.length ≤ cap := by
        obtain ⟨_, h1 | ⟨g1, cap1, cur, hv, _, _, hn, _⟩⟩ := hown
        · exact absurd h1.1 (by simp)
        · simp only [Value.slice.injEq] at hv
          obtain ⟨_, _, rfl⟩ := hv
          exact hn
      clear hke hvd
      go_wp2
      go_ret2
      refine ⟨_, rfl, ?_, hbel⟩
      rw [← HVD.out]
      exact ⟨ds, U32s.mk hrow hgl hcl, hd, htop, rfl⟩
end Go.Proofs.YtnhfdcfnojnofaaGreatDoor
