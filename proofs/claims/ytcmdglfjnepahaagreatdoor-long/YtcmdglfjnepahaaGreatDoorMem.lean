/-
  Digits in memory: a slice of uint32 that reads as a list of digits; a natural that it stands for; what a store changes.
-/
import Derived.Test.YtcmdglfjnepahaaGreatDoorNum
import Derived.WalkKit
import Derived.WalkSpells
set_option linter.unusedSimpArgs false
set_option linter.unusedVariables false
namespace Go.Proofs.YtcmdglfjnepahaaGreatDoor
open Go.RowKit

/-- The cells of block b from off on read as these digits. -/
def Row (w : World) (b off : Nat) (ds : List Nat) : Prop :=
  ∀ i, i < ds.length → w.cell? ⟨b, off + i, none⟩ = some (.int .u32 ((ds.getD i 0 : Nat) : Int))

/-- The cells of block b from off on, n of them, may be written. -/
def Free (w : World) (b off n : Nat) : Prop := ∀ i, i < n → w.frozen? ⟨b, off + i, none⟩ = false

/-- A slice value that reads as these digits. -/
def U32s (w : World) (v : Value) (ds : List Nat) : Prop :=
  ∃ ao cap, v = .slice ao ds.length cap ∧ ds.length ≤ cap ∧ (ds ≠ [] → ∃ b off, ao = some ⟨b, off, none⟩ ∧ b < w.heap.size ∧ Row w b off ds)

/-- A slice value that stands for a natural: digits, the last not nought. -/
def NatV (w : World) (v : Value) (n : Nat) : Prop := ∃ ds, U32s w v ds ∧ Dig ds ∧ Top ds ∧ val ds = n

theorem Row.below {w w' : World} {b off B : Nat} {ds : List Nat} (h : Row w b off ds) (hb : Below B w w') (hB : b < B) : Row w' b off ds :=
  fun i hi => (hb.cell (p := ⟨b, off + i, none⟩) hB).trans (h i hi)

theorem U32s.below {w w' : World} {v : Value} {ds : List Nat} (h : U32s w v ds) (hb : Below w.heap.size w w') : U32s w' v ds := by
  obtain ⟨ao, cap, hv, hc, hr⟩ := h
  refine ⟨ao, cap, hv, hc, fun hne => ?_⟩
  obtain ⟨b, off, ha, hlt, hrow⟩ := hr hne
  exact ⟨b, off, ha, Nat.lt_of_lt_of_le hlt hb.size, hrow.below hb hlt⟩

theorem NatV.below {w w' : World} {v : Value} {n : Nat} (h : NatV w v n) (hb : Below w.heap.size w w') : NatV w' v n := by
  obtain ⟨ds, h1, h2⟩ := h
  exact ⟨ds, h1.below hb, h2⟩

theorem NatV.alloc {w : World} {v : Value} {n : Nat} (h : NatV w v n) (o : Obj) : NatV (w.alloc o) v n :=
  h.below ((Below.refl _ _).alloc (Nat.le_refl _) o)

theorem NatV.drew {w : World} {v : Value} {n : Nat} (h : NatV w v n) : NatV w.drew v n := h

theorem NatV.zero (w : World) (ao : Option Addr) (cap : Nat) : NatV w (.slice ao 0 cap) 0 :=
  ⟨[], ⟨ao, cap, rfl, Nat.zero_le _, fun h => absurd rfl h⟩, (fun _ h => by simp at h), Top.nil, rfl⟩

/-- What may have changed: the cells of block b from off on, n of them. -/
structure Upd (b off n : Nat) (w w' : World) : Prop where
  os : w'.os = w.os
  tape : w'.tape = w.tape
  output : w'.output = w.output
  size : w'.heap.size = w.heap.size
  block : ∀ k, k ≠ b → w'.heap[k]? = w.heap[k]?
  cell : ∀ j, (j < off ∨ off + n ≤ j) → w'.cell? ⟨b, j, none⟩ = w.cell? ⟨b, j, none⟩
  frozen : ∀ j, w'.frozen? ⟨b, j, none⟩ = w.frozen? ⟨b, j, none⟩

theorem Upd.refl (b off n : Nat) (w : World) : Upd b off n w w := ⟨rfl, rfl, rfl, rfl, fun _ _ => rfl, fun _ _ => rfl, fun _ => rfl⟩

theorem Upd.trans {b off n : Nat} {u v w : World} (h : Upd b off n u v) (k : Upd b off n v w) : Upd b off n u w :=
  ⟨k.os.trans h.os, k.tape.trans h.tape, k.output.trans h.output, k.size.trans h.size, fun i hi => (k.block i hi).trans (h.block i hi),
   fun j hj => (k.cell j hj).trans (h.cell j hj), fun j => (k.frozen j).trans (h.frozen j)⟩

theorem Upd.wide {b off n off' n' : Nat} {w w' : World} (h : Upd b off n w w') (h1 : off' ≤ off) (h2 : off + n ≤ off' + n') : Upd b off' n' w w' :=
  ⟨h.os, h.tape, h.output, h.size, h.block, fun j hj => h.cell j (by omega), h.frozen⟩

theorem Upd.drew {b off n : Nat} {u w : World} (h : Upd b off n u w) : Upd b off n u w.drew := ⟨h.os, h.tape, h.output, h.size, h.block, h.cell, h.frozen⟩

theorem Upd.setCell {b off n : Nat} {u w : World} (h : Upd b off n u w) (i : Nat) (hi : i < n) (x : Value) : Upd b off n u (w.setCell ⟨b, off + i, none⟩ x) :=
  h.trans ⟨rfl, rfl, rfl, by simp, fun k hk => Below.heap_setCell _ _ _ _ hk,
    fun j hj => World.cell?_setCell_other _ _ _ _ (by intro he; injection he with _ h2; omega), fun j => by simp⟩

theorem Upd.below {b off n B : Nat} {w w' : World} (h : Upd b off n w w') (hB : B ≤ b) : Below B w w' :=
  ⟨h.os, h.tape, h.output, Nat.le_of_eq h.size.symm, fun k hk => h.block k (by omega)⟩

theorem Upd.other {b off n : Nat} {w w' : World} (h : Upd b off n w w') {c o : Nat} {ds : List Nat} (hc : c ≠ b) (hr : Row w c o ds) : Row w' c o ds :=
  fun i hi => (World.cell?_of_block (w := w) (h.block c hc)).trans (hr i hi)

theorem Upd.free {b off n : Nat} {w w' : World} (h : Upd b off n w w') {o m : Nat} (hf : Free w b o m) : Free w' b o m := fun i hi => (h.frozen _).trans (hf i hi)

theorem Row.setCell {w : World} {b off : Nat} {ds : List Nat} (h : Row w b off ds) (i x : Nat) (hi : i < ds.length) :
    Row (w.setCell ⟨b, off + i, none⟩ (.int .u32 (x : Int))) b off (ds.set i x) := by
  intro j hj
  rw [List.length_set] at hj
  by_cases hij : i = j
  · subst hij
    rw [World.cell?_setCell_same _ _ _ (h i hi), getD_set_same ds i x hi]
  · rw [World.cell?_setCell_other _ _ _ _ (by intro he; injection he with _ h2; omega), getD_set_other ds i j x hij]
    exact h j hj

theorem Row.take {w : World} {b off : Nat} {ds : List Nat} (h : Row w b off ds) (n : Nat) : Row w b off (ds.take n) := by
  intro i hi
  rw [List.length_take] at hi
  rw [h i (by omega), List.getD_eq_getElem?_getD, List.getD_eq_getElem?_getD, List.getElem?_take, if_pos (by omega)]

theorem Row.drop {w : World} {b off : Nat} {ds : List Nat} (h : Row w b off ds) (n : Nat) : Row w b (off + n) (ds.drop n) := by
  intro i hi
  rw [List.length_drop] at hi
  rw [show off + n + i = off + (n + i) by omega, h (n + i) (by omega), List.getD_eq_getElem?_getD, List.getD_eq_getElem?_getD, List.getElem?_drop]

theorem Row.append {w : World} {b off : Nat} {xs ys : List Nat} (h : Row w b off xs) (k : Row w b (off + xs.length) ys) : Row w b off (xs ++ ys) := by
  intro i hi
  rw [List.length_append] at hi
  by_cases hx : i < xs.length
  · rw [h i hx, List.getD_eq_getElem?_getD, List.getD_eq_getElem?_getD, List.getElem?_append_left hx]
  · have := k (i - xs.length) (by omega)
    rw [show off + xs.length + (i - xs.length) = off + i by omega] at this
    rw [this, List.getD_eq_getElem?_getD, List.getD_eq_getElem?_getD, List.getElem?_append_right (by omega)]

theorem block_of_row {w : World} {b off : Nat} {ds : List Nat} (h : Row w b off ds) (hne : ds ≠ []) : b < w.heap.size := by
  have h0 : 0 < ds.length := List.length_pos_iff.2 hne
  exact block_lt_of_cell (h 0 h0)

/-- What a row of digits, in whatever block, gives as a value. -/
theorem U32s.mk {w : World} {b off cap : Nat} {ds : List Nat} (h : Row w b off ds) (hb : b < w.heap.size) (hc : ds.length ≤ cap) : U32s w (.slice (some ⟨b, off, none⟩) ds.length cap) ds :=
  ⟨_, cap, rfl, hc, fun _ => ⟨b, off, rfl, hb, h⟩⟩

/-- The natural of a row that has been trimmed. -/
theorem natV_trim {w : World} {b off cap n : Nat} {ds : List Nat} (h : Row w b off ds) (hd : Dig ds) (hb : b < w.heap.size) (hl : ds.length = n) (hc : n ≤ cap) :
    NatV w (.slice (some ⟨b, off, none⟩) (trimL ds n) cap) (val ds) := by
  have hle := trimL_le ds n
  have hlen : (ds.take (trimL ds n)).length = trimL ds n := by rw [List.length_take]; omega
  refine ⟨ds.take (trimL ds n), ⟨_, cap, by rw [hlen], by omega, fun _ => ⟨b, off, rfl, hb, h.take _⟩⟩, hd.take _, top_trimL ds n (by omega), ?_⟩
  rw [val_trimL ds n (by omega), List.take_of_length_le (by omega)]

/-- A slice value that reads as these digits, in another block than b. -/
def U32b (w : World) (b : Nat) (v : Value) (ds : List Nat) : Prop :=
  ∃ ao cap, v = .slice ao ds.length cap ∧ ds.length ≤ cap ∧ (ds ≠ [] → ∃ b' off, ao = some ⟨b', off, none⟩ ∧ b' < w.heap.size ∧ b' ≠ b ∧ Row w b' off ds)

theorem U32s.away {w w' : World} {v : Value} {ds : List Nat} (h : U32s w v ds) (hb : Below w.heap.size w w') (b : Nat) (hB : w.heap.size ≤ b) : U32b w' b v ds := by
  obtain ⟨ao, cap, hv, hc, hr⟩ := h
  refine ⟨ao, cap, hv, hc, fun hne => ?_⟩
  obtain ⟨c, off, ha, hlt, hrow⟩ := hr hne
  exact ⟨c, off, ha, Nat.lt_of_lt_of_le hlt hb.size, by omega, hrow.below hb hlt⟩

theorem U32b.upd {w w' : World} {b off n : Nat} {v : Value} {ds : List Nat} (h : U32b w b v ds) (hu : Upd b off n w w') : U32b w' b v ds := by
  obtain ⟨ao, cap, hv, hc, hr⟩ := h
  refine ⟨ao, cap, hv, hc, fun hne => ?_⟩
  obtain ⟨c, off, ha, hlt, hcb, hrow⟩ := hr hne
  exact ⟨c, off, ha, by rw [hu.size]; exact hlt, hcb, hu.other hcb hrow⟩

theorem U32b.u32s {w : World} {b : Nat} {v : Value} {ds : List Nat} (h : U32b w b v ds) : U32s w v ds := by
  obtain ⟨ao, cap, hv, hc, hr⟩ := h
  refine ⟨ao, cap, hv, hc, fun hne => ?_⟩
  obtain ⟨c, off, ha, hlt, hcb, hrow⟩ := hr hne
  exact ⟨c, off, ha, hlt, hrow⟩

theorem bcell {W w1 : World} (hb : Below W.heap.size W w1) : (∀ b o, b < W.heap.size → w1.cell? ⟨b, o, none⟩ = W.cell? ⟨b, o, none⟩) ∧ (∀ b o, b < W.heap.size → w1.frozen? ⟨b, o, none⟩ = W.frozen? ⟨b, o, none⟩) :=
  ⟨fun b o h => hb.cell (p := ⟨b, o, none⟩) h, fun b o h => hb.frozen (p := ⟨b, o, none⟩) h⟩

theorem hide {p : Prop} (h : p) : Hid p := h
theorem unhide {p : Prop} (h : Hid p) : p := h

theorem ret_int {k : IntKind} {a b : Int} (h : a = b) : Ending.returned (.int k a) = .returned (.int k b) := by rw [h]
theorem ret_bool {a b : Bool} (h : a = b) : Ending.returned (.bool a) = .returned (.bool b) := by rw [h]
theorem ret_slice {a : Option Addr} {m n c : Nat} (h : m = n) : Ending.returned (.slice a m c) = .returned (.slice a n c) := by rw [h]

def lenOf : Value → Nat | .slice _ k _ => k | _ => 0
end Go.Proofs.YtcmdglfjnepahaaGreatDoor
