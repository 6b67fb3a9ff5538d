/-
  Part 13 of the texts ahead of Pks1: Kpl5.
-/
import Derived.Test.YtnhfdcfnojnofaaGreatDoorPks1Z4
import Derived.Test.YtnhfdcfnojnofaaGreatDoorPks1Z5
import Derived.Deep.AppendLies
set_option linter.unusedSimpArgs false
set_option linter.unusedVariables false
/-
  Rows in memory that lie apart, and grow; a small problem in the making (package planeskeep).
-/
namespace Go.Proofs.YtnhfdcfnojnofaaGreatDoor
open Go.RowKit

theorem owned_same {w w' : World} {B e size n : Nat} {v : Value} {xs : List Value} (h : w.ownsRow B e size v n xs) (hs : w.heap.size ≤ w'.heap.size) (hr : ∀ g, v.ownBlock = some g → w'.heap[g]? = w.heap[g]?) : w'.ownsRow B e size v n xs := by
  obtain ⟨h0, h1 | ⟨g, cap, cur, hv, hb, hh, hn, h4, h5, h6⟩⟩ := h
  · exact ⟨h0, Or.inl h1⟩
  · exact ⟨h0, Or.inr ⟨g, cap, cur, hv, hb, (hr g (by rw [hv]; rfl)).trans hh, hn, h4, h5, h6⟩⟩

theorem cell_set_other {w : World} {g i j : Nat} {v u : Value} (h : w.cell? ⟨g, j, none⟩ = some u) (hij : i ≠ j) : (w.setCell ⟨g, i, none⟩ v).cell? ⟨g, j, none⟩ = some u := by
  rw [World.cell?_setCell_other _ _ _ _ (by intro e; injection e with _ e2; omega)]
  exact h

/-- Rows of one cell a place, each a block of its own: the value, the type of what it holds, what it holds. -/
structure Pen (B : Nat) (w : World) (l : List (Value × Nat × List Value)) : Prop where
  own : ∀ (k : Nat) (v : Value) (t : Nat) (xs : List Value), l[k]? = some (v, t, xs) → w.ownsRow B t 1 v xs.length xs
  apart : ∀ (j k : Nat) (r q : Value × Nat × List Value), l[j]? = some r → l[k]? = some q → j ≠ k → ∀ g, r.1.ownBlock = some g → q.1.ownBlock ≠ some g

theorem Pen.same {B : Nat} {w w' : World} {l : List (Value × Nat × List Value)} (h : Pen B w l) (hs : w.heap.size ≤ w'.heap.size) (hb : ∀ g, B ≤ g → g < w.heap.size → w'.heap[g]? = w.heap[g]?) : Pen B w' l :=
  ⟨fun k v t xs hk => owned_same (h.own k v t xs hk) hs (fun g hg => by have := (h.own k v t xs hk).lt g hg; exact hb g this.1 this.2), h.apart⟩

theorem Pen.grow {B : Nat} {w w' : World} {l : List (Value × Nat × List Value)} {k g cap t : Nat} {v x : Value} {xs : List Value} (h : Pen B w l) (hk : l[k]? = some (v, t, xs)) (hg : w.grownBy w' v.ownBlock)
    (ho : w'.ownsRow B t 1 (.slice (some ⟨g, 0, none⟩) (xs.length + 1) cap) (xs.length + 1) (xs ++ [x])) (hat : v.ownBlock = some g ∨ g = w.heap.size) : Pen B w' (l.set k (.slice (some ⟨g, 0, none⟩) (xs.length + 1) cap, t, xs ++ [x])) := by
  have hkl : k < l.length := (List.getElem?_eq_some_iff.1 hk).1
  have hnew : (l.set k (.slice (some ⟨g, 0, none⟩) (xs.length + 1) cap, t, xs ++ [x]))[k]? = some (.slice (some ⟨g, 0, none⟩) (xs.length + 1) cap, t, xs ++ [x]) := by rw [List.getElem?_set_self hkl]
  have hold : ∀ j, j ≠ k → (l.set k (.slice (some ⟨g, 0, none⟩) (xs.length + 1) cap, t, xs ++ [x]))[j]? = l[j]? := fun j hj => List.getElem?_set_ne (Ne.symm hj)
  have hfar : ∀ j q, j ≠ k → l[j]? = some q → q.1.ownBlock ≠ some g := by
    intro j q hj hq e
    rcases hat with e2 | e2
    · exact h.apart j k q _ hq hk hj g e e2
    · have := ((h.own j q.1 q.2.1 q.2.2 hq).lt g e).2
      omega
  refine ⟨fun j u s ys hj => ?_, fun i j r q hi hj hij b hb => ?_⟩
  · by_cases e : j = k
    · subst e
      rw [hnew] at hj
      simp only [Option.some.injEq, Prod.mk.injEq] at hj
      obtain ⟨rfl, rfl, rfl⟩ := hj
      rw [List.length_append, List.length_singleton]
      exact ho
    · rw [hold j e] at hj
      have h1 := h.own j u s ys hj
      refine owned_same h1 hg.size (fun b hb => ?_)
      have h2 := h1.lt b hb
      exact hg.block b h2.2 (fun e2 => h.apart j k _ _ hj hk e b hb e2.symm)
  · by_cases ei : i = k
    · subst ei
      rw [hnew] at hi
      simp only [Option.some.injEq] at hi
      subst hi
      rw [hold j (Ne.symm hij)] at hj
      simp [Value.ownBlock] at hb
      subst hb
      exact hfar j q (Ne.symm hij) hj
    · rw [hold i ei] at hi
      by_cases ej : j = k
      · subst ej
        rw [hnew] at hj
        simp only [Option.some.injEq] at hj
        subst hj
        intro e
        simp [Value.ownBlock] at e
        subst e
        exact hfar i r ei hi hb
      · rw [hold j ej] at hj
        exact h.apart i j r q hi hj hij b hb

theorem Pen.snoc {B : Nat} {w : World} {l : List (Value × Nat × List Value)} (h : Pen B w l) (t : Nat) : Pen B w (l ++ [(.slice none 0 0, t, [])]) := by
  have last : ∀ k q, l.length ≤ k → (l ++ [((.slice none 0 0 : Value), t, ([] : List Value))])[k]? = some q → q = (.slice none 0 0, t, []) := by
    intro k q hk hq
    rw [List.getElem?_append_right hk] at hq
    have : k - l.length = 0 := by
      have := (List.getElem?_eq_some_iff.1 hq).1
      simp at this
      omega
    rw [this] at hq
    simpa using hq.symm
  refine ⟨fun k v s xs hk => ?_, fun i j r q hi hj hij b hb => ?_⟩
  · by_cases e : k < l.length
    · rw [List.getElem?_append_left e] at hk
      exact h.own k v s xs hk
    · have := last k _ (by omega) hk
      simp only [Prod.mk.injEq] at this
      obtain ⟨rfl, rfl, rfl⟩ := this
      exact World.ownsRow_nil _ _ _ _
  · by_cases ei : i < l.length
    · rw [List.getElem?_append_left ei] at hi
      by_cases ej : j < l.length
      · rw [List.getElem?_append_left ej] at hj
        exact h.apart i j r q hi hj hij b hb
      · rw [last j _ (by omega) hj]
        simp [Value.ownBlock]
    · rw [last i _ (by omega) hi] at hb
      simp [Value.ownBlock] at hb

/-- A small problem in the making: the feed's box gf, the problem's box gp with six fields l; tl: further rows. -/
structure Sm (B gf gp : Nat) (w0 w : World) (s : ByteArray) (a : Nat) (l tl : List (Value × Nat × List Value)) : Prop where
  lt : w0.heap.size ≤ gf ∧ gf < B ∧ w0.heap.size ≤ gp ∧ gp < B ∧ gf ≠ gp
  le : B ≤ w.heap.size
  fd : Box2 w gf (.string s) (.int .i64 (a : Nat))
  sz : a ≤ s.size
  box : ∀ (k : Nat) (r : Value × Nat × List Value), l[k]? = some r → w.cell? ⟨gp, k, none⟩ = some r.1 ∧ w.frozen? ⟨gp, k, none⟩ = false
  pen : Pen B w (l ++ tl)
  low : Below w0.heap.size w0 w

theorem Sm.ext {B gf gp : Nat} {w0 w w' : World} {s : ByteArray} {a : Nat} {l tl : List (Value × Nat × List Value)} (h : Sm B gf gp w0 w s a l tl) (hb : Ext w w') : Sm B gf gp w0 w' s a l tl := by
  have hgp : gp < w.heap.size := by have := h.lt; have := h.le; omega
  refine ⟨h.lt, Nat.le_trans h.le hb.size, Box2.below h.fd hb, h.sz, fun k r hk => ?_, h.pen.same hb.size (fun g _ hg => hb.block g hg), h.low.trans (hb.mono h.low.size)⟩
  exact ⟨hb.cell (h.box k r hk).1, (World.frozen?_of_block (w := w) (a := ⟨gp, k, none⟩) (hb.block gp hgp)).trans (h.box k r hk).2⟩

/-- The feed has gone on. -/
theorem Sm.next {B gf gp : Nat} {w0 w w' : World} {s : ByteArray} {a a' : Nat} {l tl : List (Value × Nat × List Value)} (h : Sm B gf gp w0 w s a l tl) (hf : Box2 w' gf (.string s) (.int .i64 (a' : Nat))) (ha : a' ≤ s.size) (hw : Wr (fun k => k = gf) w w') : Sm B gf gp w0 w' s a' l tl := by
  have hl := h.lt
  have hgp : gp < w.heap.size := by have := h.le; omega
  have hne : ¬ gp = gf := fun e => hl.2.2.2.2 e.symm
  refine ⟨h.lt, Nat.le_trans h.le hw.size, hf, ha, fun k r hk => ?_, h.pen.same hw.size (fun g hg hlt => hw.block g hlt (by omega)), h.low.trans (hw.below h.low.size (fun k hk => by rw [hk]; exact hl.1))⟩
  have hblk := hw.block gp hgp hne
  exact ⟨(World.cell?_of_block (w := w) (a := ⟨gp, k, none⟩) hblk).trans (h.box k r hk).1, (World.frozen?_of_block (w := w) (a := ⟨gp, k, none⟩) hblk).trans (h.box k r hk).2⟩

/-- What grew lies where it may. -/
theorem Sm.grown {B gf gp : Nat} {w0 w w' : World} {s : ByteArray} {a : Nat} {l tl l2 tl2 : List (Value × Nat × List Value)} {row : Option Nat} (h : Sm B gf gp w0 w s a l tl) (hg : w.grownBy w' row) (hr : ∀ b, row = some b → B ≤ b) (hp : Pen B w' (l2 ++ tl2)) (hl : ∀ k r, l2[k]? = some r → w.cell? ⟨gp, k, none⟩ = some r.1 ∧ w.frozen? ⟨gp, k, none⟩ = false) : Sm B gf gp w0 w' s a l2 tl2 := by
  have hlt := h.lt
  have hle := h.le
  have blk : ∀ b, b < B → w'.heap[b]? = w.heap[b]? := fun b hb => hg.block b (by omega) (fun e => by have := hr b e.symm; omega)
  refine ⟨h.lt, Nat.le_trans h.le hg.size, ?_, h.sz, fun k r hk => ?_, hp, ?_⟩
  · obtain ⟨h0, h1, h2, h3, h4⟩ := h.fd
    have e := blk gf (by omega)
    exact ⟨(World.cell?_of_block (w := w) (a := ⟨gf, 0, none⟩) e).trans h0, (World.cell?_of_block (w := w) (a := ⟨gf, 1, none⟩) e).trans h1, (World.frozen?_of_block (w := w) (a := ⟨gf, 0, none⟩) e).trans h2, (World.frozen?_of_block (w := w) (a := ⟨gf, 1, none⟩) e).trans h3, Nat.lt_of_lt_of_le h4 hg.size⟩
  · have e := blk gp (by omega)
    exact ⟨(World.cell?_of_block (w := w) (a := ⟨gp, k, none⟩) e).trans (hl k r hk).1, (World.frozen?_of_block (w := w) (a := ⟨gp, k, none⟩) e).trans (hl k r hk).2⟩
  · refine h.low.trans ⟨hg.os, hg.tape, hg.output, hg.size, fun k hk => hg.block k (by have := h.low.size; omega) (fun e => by have := hr k e.symm; omega)⟩

/-- A field has grown by one. -/
theorem Sm.field {B gf gp : Nat} {w0 w w' : World} {s : ByteArray} {a : Nat} {l tl : List (Value × Nat × List Value)} {k g cap t : Nat} {v x : Value} {xs : List Value} (h : Sm B gf gp w0 w s a l tl) (hk : l[k]? = some (v, t, xs)) (hg : w.grownBy w' v.ownBlock)
    (ho : w'.ownsRow B t 1 (.slice (some ⟨g, 0, none⟩) (xs.length + 1) cap) (xs.length + 1) (xs ++ [x])) (hat : v.ownBlock = some g ∨ g = w.heap.size) : Sm B gf gp w0 (w'.setCell ⟨gp, k, none⟩ (.slice (some ⟨g, 0, none⟩) (xs.length + 1) cap)) s a (l.set k (.slice (some ⟨g, 0, none⟩) (xs.length + 1) cap, t, xs ++ [x])) tl := by
  have hkl : k < l.length := (List.getElem?_eq_some_iff.1 hk).1
  have hk2 : (l ++ tl)[k]? = some (v, t, xs) := by rw [List.getElem?_append_left hkl]; exact hk
  have hr : ∀ b, v.ownBlock = some b → B ≤ b := fun b hb => ((h.pen.own k v t xs hk2).lt b hb).1
  have hp := h.pen.grow hk2 hg ho hat
  rw [List.set_append_left _ _ hkl] at hp
  have hlt := h.lt
  have hle := h.le
  have hoth : ∀ b, b ≠ gp → (w'.setCell ⟨gp, k, none⟩ (.slice (some ⟨g, 0, none⟩) (xs.length + 1) cap)).heap[b]? = w'.heap[b]? := fun b hb => Below.heap_setCell _ _ _ _ (by simp; omega)
  have hsz : (w'.setCell ⟨gp, k, none⟩ (.slice (some ⟨g, 0, none⟩) (xs.length + 1) cap)).heap.size = w'.heap.size := by simp
  have blk : ∀ b, b < B → w'.heap[b]? = w.heap[b]? := fun b hb => hg.block b (by omega) (fun e => by have := hr b e.symm; omega)
  have hgs := hg.size
  have hc : ∀ j r, l[j]? = some r → w'.cell? ⟨gp, j, none⟩ = some r.1 ∧ w'.frozen? ⟨gp, j, none⟩ = false := fun j r hj => ⟨(World.cell?_of_block (w := w) (a := ⟨gp, j, none⟩) (blk gp (by omega))).trans (h.box j r hj).1, (World.frozen?_of_block (w := w) (a := ⟨gp, j, none⟩) (blk gp (by omega))).trans (h.box j r hj).2⟩
  refine ⟨h.lt, by omega, ?_, h.sz, fun j r hj => ?_, hp.same (by omega) (fun b hb _ => hoth b (by omega)), ?_⟩
  · obtain ⟨h0, h1, h2, h3, h4⟩ := h.fd
    have e := (hoth gf (by omega)).trans (blk gf (by omega))
    exact ⟨(World.cell?_of_block (w := w) (a := ⟨gf, 0, none⟩) e).trans h0, (World.cell?_of_block (w := w) (a := ⟨gf, 1, none⟩) e).trans h1, (World.frozen?_of_block (w := w) (a := ⟨gf, 0, none⟩) e).trans h2, (World.frozen?_of_block (w := w) (a := ⟨gf, 1, none⟩) e).trans h3, by omega⟩
  · by_cases e : j = k
    · subst e
      rw [List.getElem?_set_self hkl] at hj
      simp only [Option.some.injEq] at hj
      subst hj
      exact ⟨World.cell?_setCell_same _ _ _ (hc j _ hk).1, by simpa using (hc j _ hk).2⟩
    · rw [List.getElem?_set_ne (Ne.symm e)] at hj
      exact ⟨cell_set_other (hc j r hj).1 (Ne.symm e), by simpa using (hc j r hj).2⟩
  · refine h.low.trans ⟨hg.os, hg.tape, hg.output, by omega, fun b hb => ?_⟩
    exact (hoth b (by omega)).trans (blk b (by omega))

/-- The last of the further rows has grown by one. -/
theorem Sm.last {B gf gp : Nat} {w0 w w' : World} {s : ByteArray} {a : Nat} {l tl : List (Value × Nat × List Value)} {g cap t : Nat} {v x : Value} {xs : List Value} (h : Sm B gf gp w0 w s a l (tl ++ [(v, t, xs)])) (hg : w.grownBy w' v.ownBlock)
    (ho : w'.ownsRow B t 1 (.slice (some ⟨g, 0, none⟩) (xs.length + 1) cap) (xs.length + 1) (xs ++ [x])) (hat : v.ownBlock = some g ∨ g = w.heap.size) : Sm B gf gp w0 w' s a l (tl ++ [(.slice (some ⟨g, 0, none⟩) (xs.length + 1) cap, t, xs ++ [x])]) := by
  have hk : (l ++ (tl ++ [(v, t, xs)]))[(l ++ tl).length]? = some (v, t, xs) := by
    rw [← List.append_assoc, List.getElem?_append_right (Nat.le_refl _), Nat.sub_self]
    rfl
  have hr : ∀ b, v.ownBlock = some b → B ≤ b := fun b hb => ((h.pen.own _ v t xs hk).lt b hb).1
  have hp := h.pen.grow hk hg ho hat
  rw [← List.append_assoc, List.set_append_right _ _ (Nat.le_refl _), Nat.sub_self, List.append_assoc] at hp
  exact h.grown hg hr hp h.box

theorem Sm.start {B gf gp : Nat} {w0 w : World} {s : ByteArray} {a : Nat} {l tl : List (Value × Nat × List Value)} (h : Sm B gf gp w0 w s a l tl) (t : Nat) : Sm B gf gp w0 w s a l (tl ++ [(.slice none 0 0, t, [])]) :=
  ⟨h.lt, h.le, h.fd, h.sz, h.box, by rw [← List.append_assoc]; exact h.pen.snoc t, h.low⟩

/-- A field's cell, where another row has grown. -/
theorem Sm.far {B gf gp : Nat} {w0 w w' : World} {s : ByteArray} {a : Nat} {l tl : List (Value × Nat × List Value)} {k j t : Nat} {v : Value} {xs : List Value} {r : Value × Nat × List Value} (h : Sm B gf gp w0 w s a l tl) (hk : (l ++ tl)[k]? = some (v, t, xs)) (hg : w.grownBy w' v.ownBlock) (hj : l[j]? = some r) : w'.cell? ⟨gp, j, none⟩ = some r.1 ∧ w'.frozen? ⟨gp, j, none⟩ = false := by
  have hlt := h.lt
  have hle := h.le
  have hblk : w'.heap[gp]? = w.heap[gp]? := hg.block gp (by omega) (fun e => by have := ((h.pen.own k v t xs hk).lt gp e.symm).1; omega)
  exact ⟨(World.cell?_of_block (w := w) (a := ⟨gp, j, none⟩) hblk).trans (h.box j r hj).1, (World.frozen?_of_block (w := w) (a := ⟨gp, j, none⟩) hblk).trans (h.box j r hj).2⟩

/-- Ints as cells. -/
def ivs (zs : List Int) : List Value := zs.map fun z => .int .i64 z

end Go.Proofs.YtnhfdcfnojnofaaGreatDoor
