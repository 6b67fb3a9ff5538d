/-
  Part 27 of the texts ahead of Pks1: Dvs2.
-/
import Derived.Test.YtnhfdcfnojnofaaGreatDoorPks1Z21
import Derived.Test.YtnhfdcfnojnofaaGreatDoorPks1Z8
set_option linter.unusedSimpArgs false
set_option linter.unusedVariables false
/-
  Words, while they are laid one behind another (package problem).
-/
namespace Go.Proofs.YtnhfdcfnojnofaaGreatDoor
open Go.RowKit

theorem Tryz.infoString : (Tryz.prog.info? 9).map (fun i => (i.zero, i.size, i.bytes)) = some (some (.string ⟨#[]⟩), 1, 16) := by kernel_rfl

/-- Words laid so far: gw: where the row's value lies; av: blocks that are none of the row's. -/
structure Wds (B : Nat) (w A : World) (gw : Nat) (xs : List ByteArray) (av : List Nat) (ap : Option Addr) (kp : Nat) : Prop where
  own : A.ownsRow B 9 1 (.slice ap xs.length kp) xs.length (xs.map Value.string)
  box : A.cell? ⟨gw, 0, none⟩ = some (.slice ap xs.length kp)
  fro : A.frozen? ⟨gw, 0, none⟩ = false
  newB : B ≤ gw
  lt : ∀ x ∈ gw :: av, x < A.heap.size
  sep : ∀ g, (Value.slice ap xs.length kp).ownBlock = some g → ∀ x ∈ gw :: av, g ≠ x
  bel : Below B w A
  le : B ≤ w.heap.size

theorem Wds.keep {C B : Nat} {w A A' : World} {gw : Nat} {xs : List ByteArray} {av : List Nat} {ap : Option Addr} {kp : Nat} (h : Wds B w A gw xs av ap kp) (hk : Keep C A A') (hC : B ≤ C) : Wds B w A' gw xs av ap kp :=
  ⟨owns_keep' h.own hk, hk.cell h.box, (hk.frozen h.box).trans h.fro, h.newB, fun x hx => Nat.lt_of_lt_of_le (h.lt x hx) hk.size, h.sep, hk.below h.bel hC h.le, h.le⟩
theorem Wds.alloc {B : Nat} {w A : World} {gw : Nat} {xs : List ByteArray} {av : List Nat} {ap : Option Addr} {kp : Nat} (h : Wds B w A gw xs av ap kp) (o : Obj) : Wds B w (A.alloc o) gw xs av ap kp := h.keep (Keep.alloc B _ _) (Nat.le_refl _)
theorem Wds.drew {B : Nat} {w A : World} {gw : Nat} {xs : List ByteArray} {av : List Nat} {ap : Option Addr} {kp : Nat} (h : Wds B w A gw xs av ap kp) : Wds B w A.drew gw xs av ap kp := h.keep (Keep.drew B _) (Nat.le_refl _)
theorem Wds.below {B : Nat} {w A A' : World} {gw : Nat} {xs : List ByteArray} {av : List Nat} {ap : Option Addr} {kp : Nat} (h : Wds B w A gw xs av ap kp) (hb : Below A.heap.size A A') : Wds B w A' gw xs av ap kp := h.keep (Keep.of_below (B := B) hb) (Nat.le_refl _)

theorem Wds.avoid {B : Nat} {w A : World} {gw : Nat} {xs : List ByteArray} {av : List Nat} {ap : Option Addr} {kp : Nat} (h : Wds B w A gw xs av ap kp) (y : Nat) (hy : y < A.heap.size) (hne : ∀ g, (Value.slice ap xs.length kp).ownBlock = some g → g ≠ y) : Wds B w A gw xs (y :: av) ap kp := by
  refine ⟨h.own, h.box, h.fro, h.newB, fun x hx => ?_, fun g hg x hx => ?_, h.bel, h.le⟩
  · simp only [List.mem_cons] at hx
    rcases hx with e | e | e
    · exact h.lt x (by simp [e])
    · rw [e]; exact hy
    · exact h.lt x (by simp [e])
  · simp only [List.mem_cons] at hx
    rcases hx with e | e | e
    · exact h.sep g hg x (by simp [e])
    · rw [e]; exact hne g hg
    · exact h.sep g hg x (by simp [e])

theorem Wds.alloc_avoid {B : Nat} {w A : World} {gw : Nat} {xs : List ByteArray} {av : List Nat} {ap : Option Addr} {kp : Nat} (h : Wds B w A gw xs av ap kp) (o : Obj) : Wds B w (A.alloc o) gw xs (A.heap.size :: av) ap kp :=
  (h.alloc o).avoid _ (by simp) (fun g hg => by have := (h.own.lt g hg).2; omega)

/-- The first word, laid into its row, the row into its variable. -/
theorem Wds.start (w W : World) (hb : Below w.heap.size w W) (s : ByteArray) :
    Wds w.heap.size w ((W.alloc (.cells #[.string s] 9)).alloc (.cells #[.slice (some ⟨W.heap.size, 0, none⟩) 1 1] 44)) (W.heap.size + 1) [s] [] (some ⟨W.heap.size, 0, none⟩) 1 := by
  have hs := hb.size
  have t0 := World.alloc_heap_new W (.cells #[.string s] 9)
  have t1 := World.alloc_heap_new (W.alloc (.cells #[.string s] 9)) (.cells #[.slice (some ⟨W.heap.size, 0, none⟩) 1 1] 44)
  rw [World.size_alloc] at t1
  refine ⟨⟨rfl, Or.inr ⟨W.heap.size, 1, #[.string s], rfl, hs, (Below.heap_alloc _ _ _ (by simp)).trans t0, Nat.le_refl _, by unfold maxLen; omega, rfl, rfl⟩⟩, cell_of_row _ _ _ _ _ _ t1, frozen_of_row _ _ _ _ _ t1, by omega, fun x hx => ?_, fun g hg x hx => ?_, (hb.alloc hs _).alloc (by simp; omega) _, Nat.le_refl _⟩
  · simp only [List.mem_singleton] at hx
    rw [hx]; simp
  · simp [Value.ownBlock] at hg
    simp only [List.mem_singleton] at hx
    omega

/-- The row's cells. -/
theorem Wds.row {B : Nat} {w A : World} {gw : Nat} {xs : List ByteArray} {av : List Nat} {ap : Option Addr} {kp : Nat} (h : Wds B w A gw xs av ap kp) (h0 : 0 < xs.length) :
    ∃ g, ap = some ⟨g, 0, none⟩ ∧ B ≤ g ∧ g < A.heap.size ∧ xs.length ≤ kp ∧ ∀ (j : Nat) x, xs[j]? = some x → A.cell? ⟨g, 0 + j, none⟩ = some (.string x) := by
  have hc := h.own
  have hl := h.own.lt
  obtain ⟨_, h1 | ⟨g, cap, cur, hv, hb, hh, hn, h4, h5, h6⟩⟩ := h.own
  · omega
  · simp only [Value.slice.injEq] at hv
    obtain ⟨rfl, _, rfl⟩ := hv
    refine ⟨g, rfl, hb, (hl g rfl).2, hn, fun j x hj => ?_⟩
    have := hc.cells (g := g) rfl j (.string x) (by rw [List.getElem?_map, hj]; rfl)
    have e : (⟨g, 0, none⟩ : Addr).add j = ⟨g, 0 + j, none⟩ := by
      unfold Addr.add
      split
      · rename_i hz; rw [hz]
      · rfl
    rw [e] at this
    exact this

/-- What lies behind an append of words. -/
theorem Wds.grow {B : Nat} {w A A' : World} {gw g cap : Nat} {xs ys : List ByteArray} {av : List Nat} {ap : Option Addr} {kp : Nat} (h : Wds B w A gw xs av ap kp)
    (hown : A'.ownsRow B 9 1 (.slice (some ⟨g, 0, none⟩) (xs.length + ys.length) cap) (xs.length + ys.length) (xs.map Value.string ++ ys.map Value.string)) (hg : A.grownBy A' (Value.slice ap xs.length kp).ownBlock) (hat : (Value.slice ap xs.length kp).ownBlock = some g ∨ g = A.heap.size) :
    A'.cell? ⟨gw, 0, none⟩ = some (.slice ap xs.length kp) ∧ A'.frozen? ⟨gw, 0, none⟩ = false ∧ Hid (Below B w A' ∧ Wr (fun x => (Value.slice ap xs.length kp).ownBlock = some x) A A' ∧ (∀ x ∈ gw :: av, g ≠ x) ∧
      Wds B w (A'.setCell ⟨gw, 0, none⟩ (.slice (some ⟨g, 0, none⟩) (xs.length + ys.length) cap)) gw (xs ++ ys) av (some ⟨g, 0, none⟩) cap ∧
      Wr (fun x => x = gw ∨ (Value.slice ap xs.length kp).ownBlock = some x) A (A'.setCell ⟨gw, 0, none⟩ (.slice (some ⟨g, 0, none⟩) (xs.length + ys.length) cap)) ∧ ((Value.slice ap xs.length kp).ownBlock = some g ∨ A.heap.size ≤ g)) := by
  have hw : Wr (fun x => (Value.slice ap xs.length kp).ownBlock = some x) A A' := ⟨hg.os, hg.tape, hg.output, hg.size, fun k hk e => hg.block k hk (fun e2 => e e2.symm)⟩
  have hno : ∀ {x : Nat}, x ∈ gw :: av → ¬ (Value.slice ap xs.length kp).ownBlock = some x := fun hx e => h.sep _ e _ hx rfl
  have hbox' := hw.cell (p := ⟨gw, 0, none⟩) (hno (by simp)) h.box
  have hgw := h.lt gw (by simp)
  have hfro : A'.frozen? ⟨gw, 0, none⟩ = false := (hg.frozen_far ⟨gw, 0, none⟩ hgw (fun e => hno (x := gw) (by simp) e.symm)).trans h.fro
  have hgx : ∀ x ∈ gw :: av, g ≠ x := by
    intro x hx
    rcases hat with e | e
    · exact h.sep g e x hx
    · have := h.lt x hx; omega
  have hgp : g ≠ gw := hgx gw (by simp)
  have hB' : Below B w A' := ⟨hg.os.trans h.bel.os, hg.tape.trans h.bel.tape, hg.output.trans h.bel.output, Nat.le_trans h.bel.size hg.size, fun k hk => (hg.block k (by have := h.bel.size; have := h.le; omega) (fun e => by have := (h.own.lt k e.symm).1; omega)).trans (h.bel.block k hk)⟩
  refine ⟨hbox', hfro, hB', hw, hgx, ⟨?_, ?_, by simpa using hfro, h.newB, fun x hx => ?_, fun g2 hg2 x hx => ?_, hB'.setCell (p := ⟨gw, 0, none⟩) h.newB _, h.le⟩, ?_, hat.imp id (fun e => by omega)⟩
  · rw [List.length_append, List.map_append]
    obtain ⟨h0, h1 | ⟨g', cap', cur, hv, hb, hh, hn, h4, h5, h6⟩⟩ := hown
    · exact absurd h1.1 (by simp)
    · refine ⟨h0, Or.inr ⟨g', cap', cur, hv, hb, (Below.heap_setCell _ _ _ _ ?_).trans hh, hn, h4, h5, h6⟩⟩
      simp only [Value.slice.injEq, Option.some.injEq, Addr.mk.injEq] at hv
      rw [← hv.1.1]
      exact hgp
  · rw [List.length_append]; exact World.cell?_setCell_same _ _ _ hbox'
  · have := h.lt x hx
    have := hg.size
    simp
    omega
  · have : g2 = g := by simpa [Value.ownBlock] using hg2.symm
    subst this
    exact hgx x hx
  · exact Wr.setCell (T := fun x => x = gw ∨ (Value.slice ap xs.length kp).ownBlock = some x) (hw.mono (fun k e => Or.inr e)) (p := ⟨gw, 0, none⟩) (Or.inl rfl) _

/-- Words are appended, at a step of a drawn statement. -/
theorem step_words {F : Fence} {n : Nat} (A : World) {ops : Array Oper} {o : Oper} {a : Act} {K : Act → World → Prop} {Q : Exit → Act → World → Prop} {E : Prop} (hgd : o.guard = none) (s x : Operand)
    (ho : o.op = .call { callee := .builtin .append, args := #[s, x], argTypes := #[44, 44] })
    {B : Nat} {w : World} {gw : Nat} {xs : List ByteArray} (ys : List ByteArray) {av : List Nat} {ap : Option Addr} {kp b : Nat} (hP : Wds B w A gw xs av ap kp) (hl : xs.length ≤ 900) (hy : 0 < ys.length) (hy9 : ys.length ≤ 900)
    (hs : a.eval s = .slice ap xs.length kp) (hx : a.eval x = .slice (some ⟨b, 0, none⟩) ys.length ys.length) {t : TypeId} {fr : Nat × Nat} (hb : A.heap[b]? = some (.cells (ys.map Value.string).toArray t fr))
    (h : ∀ g cap A', A'.ownsRow B 9 1 (.slice (some ⟨g, 0, none⟩) (xs.length + ys.length) cap) (xs.length + ys.length) (xs.map Value.string ++ ys.map Value.string) → A.grownBy A' (Value.slice ap xs.length kp).ownBlock → ((Value.slice ap xs.length kp).ownBlock = some g ∨ g = A.heap.size) → K (a.put o.dst (.slice (some ⟨g, 0, none⟩) (xs.length + ys.length) cap)) A') :
    if Region.wanted o (yielded ops a.tmps) = true then Oper.wpIn F n Tryz.prog o a A K Q else E := by
  obtain ⟨i0, hi, hz0, hz1, hz2⟩ := info_parts Tryz.infoString
  refine step_append_round A hgd s x 44 ho B 9 i0 (.string ⟨#[]⟩) 1 16 Tryz.underlying44 hi hz0 hz1 hz2 rfl (by decide) _ _ _ hs hP.own ⟨b, 0, none⟩ ys.length ys.length (ys.map Value.string) hx (by simp) ?_ (fun u hu => ?_) hy (by unfold maxLen; omega) (by omega) (by have := hP.bel.size; have := hP.le; omega) A.heap.size rfl (fun g cap A' h1 h2 h3 _ => h g cap A' h1 h2 h3)
  · have := World.news_of_block hb
    simpa using this
  · obtain ⟨y, _, rfl⟩ := List.mem_map.1 hu
    rfl
end Go.Proofs.YtnhfdcfnojnofaaGreatDoor
