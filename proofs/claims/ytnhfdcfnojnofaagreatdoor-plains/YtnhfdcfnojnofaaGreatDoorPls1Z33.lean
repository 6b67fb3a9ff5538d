/-
  Part 33 of the texts ahead of Pls1: Ts7.
-/
import Derived.Test.YtnhfdcfnojnofaaGreatDoorPls1Z17
import Derived.Test.YtnhfdcfnojnofaaGreatDoorPls1Z2
import Derived.Deep.AppendLies
set_option linter.unusedSimpArgs false
set_option linter.unusedVariables false
/-
  A problem of the document's own (package planesref) as it lies in memory while it is read.
-/
namespace Go.Proofs.YtnhfdcfnojnofaaGreatDoor.T
open Go.RowKit

/-- Blocks of whole numbers are as they were. -/
def Kept (w w' : World) : Prop := w.heap.size ≤ w'.heap.size ∧ ∀ k, Kind w k → w'.heap[k]? = w.heap[k]?

theorem Kind.lt {w : World} {k : Nat} (h : Kind w k) : k < w.heap.size := by
  obtain ⟨c, fr, h⟩ := h
  exact (Array.getElem?_eq_some_iff.1 h).1

theorem Kept.of_below {w w' : World} (h : Below w.heap.size w w') : Kept w w' := ⟨h.size, fun k hk => h.block k hk.lt⟩
theorem Kept.of_grown {w w' : World} {row : Option Nat} (h : w.grownBy w' row) (hr : ∀ g, row = some g → ¬ Kind w g) : Kept w w' :=
  ⟨h.size, fun k hk => h.block k hk.lt (fun e => hr k e.symm hk)⟩
theorem Kept.of_setCell {w : World} {a : Addr} (ha : ¬ Kind w a.block) (v : Value) : Kept w (w.setCell a v) :=
  ⟨by simp, fun k hk => Below.heap_setCell _ _ _ _ (fun e => ha (e ▸ hk))⟩

theorem NV.kept {w w' : World} {v : Value} {n : Nat} (h : NV w v n) (hk : Kept w w') : NV w' v n := by
  obtain ⟨ds, hs, h2⟩ := h
  refine ⟨ds, ?_, h2⟩
  rcases hs with hs | ⟨g, off, cap, hv, hc, hb, hrow, hkd⟩
  · exact Or.inl hs
  · have he := hk.2 g hkd
    refine Or.inr ⟨g, off, cap, hv, hc, Nat.lt_of_lt_of_le hb hk.1, fun i hi => ?_, ?_⟩
    · exact (World.cell?_of_block (w := w) he).trans (hrow i hi)
    · obtain ⟨c, fr, h⟩ := hkd
      exact ⟨c, fr, he.trans h⟩

theorem NumV.kept {w w' : World} {x : Value} {p : Int} {q : Nat} (h : NumV w x p q) (hk : Kept w w') : NumV w' x p q := by
  obtain ⟨b, v, u, h1, h2, h3, h4, h5⟩ := h
  exact ⟨b, v, u, h1, h2.kept hk, h3, h4.kept hk, h5⟩

/-- Numbers stay where their row and the blocks of whole numbers stay. -/
theorem Nums.kept {w w' : World} {v : Value} {zs : List (Int × Nat)} (h : Nums w v zs) (hk : Kept w w') (hr : ∀ g, v.ownBlock = some g → w'.heap[g]? = w.heap[g]?) : Nums w' v zs := by
  obtain ⟨ts, hl, hn, hv⟩ := h
  refine ⟨ts, hl, fun i t z h1 h2 => (hn i t z h1 h2).kept hk, ?_⟩
  rcases hv with hv | ⟨g, off, cap, h1, h2, h3, h4⟩
  · exact Or.inl hv
  · have he := hr g (by rw [h1]; rfl)
    refine Or.inr ⟨g, off, cap, h1, h2, Nat.lt_of_lt_of_le h3 hk.1, fun i t ht => ?_⟩
    obtain ⟨c0, c1, c2⟩ := h4 i t ht
    exact ⟨(World.cell?_of_block (w := w) he).trans c0, (World.cell?_of_block (w := w) he).trans c1, (World.cell?_of_block (w := w) he).trans c2⟩

theorem Nums.lt {w : World} {v : Value} {zs : List (Int × Nat)} (h : Nums w v zs) : ∀ g, v.ownBlock = some g → g < w.heap.size := by
  intro g hg
  obtain ⟨ts, hl, hn, hv⟩ := h
  rcases hv with hv | ⟨g', off, cap, h1, h2, h3, h4⟩
  · rw [hv.1] at hg; cases hg
  · rw [h1] at hg
    simp [Value.ownBlock] at hg
    omega

/-- Numbers in a row that is the call's own. -/
def OwnNums (B : Nat) (w : World) (v : Value) (zs : List (Int × Nat)) : Prop :=
  ∃ ts : List Tri, ts.length = zs.length ∧ w.ownsRow B 118 3 v ts.length (triCells ts) ∧ ∀ (i : Nat) (t : Tri) (z : Int × Nat), ts[i]? = some t → zs[i]? = some z → NumV w t.val z.1 z.2

theorem owns_same {w w' : World} {B e size n : Nat} {v : Value} {xs : List Value} (h : w.ownsRow B e size v n xs) (hs : w.heap.size ≤ w'.heap.size) (hr : ∀ g, v.ownBlock = some g → w'.heap[g]? = w.heap[g]?) : w'.ownsRow B e size v n xs := by
  obtain ⟨h0, h1 | ⟨g, cap, cur, hv, hb, hh, hn, h4, h5, h6⟩⟩ := h
  · exact ⟨h0, Or.inl h1⟩
  · exact ⟨h0, Or.inr ⟨g, cap, cur, hv, hb, (hr g (by rw [hv]; rfl)).trans hh, hn, h4, h5, h6⟩⟩

theorem owns_lt {w : World} {B e size n : Nat} {v : Value} {xs : List Value} (h : w.ownsRow B e size v n xs) : ∀ g, v.ownBlock = some g → B ≤ g ∧ g < w.heap.size := by
  intro g hg
  obtain ⟨h0, h1 | ⟨g', cap, cur, hv, hb, hh, hn, h4, h5, h6⟩⟩ := h
  · rw [h1.1] at hg; cases hg
  · rw [hv] at hg
    simp [Value.ownBlock] at hg
    subst hg
    exact ⟨hb, (Array.getElem?_eq_some_iff.1 hh).1⟩

theorem OwnNums.kept {B : Nat} {w w' : World} {v : Value} {zs : List (Int × Nat)} (h : OwnNums B w v zs) (hk : Kept w w') (hr : ∀ g, v.ownBlock = some g → w'.heap[g]? = w.heap[g]?) : OwnNums B w' v zs := by
  obtain ⟨ts, hl, ho, hn⟩ := h
  exact ⟨ts, hl, owns_same ho hk.1 hr, fun i t z h1 h2 => (hn i t z h1 h2).kept hk⟩

theorem OwnNums.lt {B : Nat} {w : World} {v : Value} {zs : List (Int × Nat)} (h : OwnNums B w v zs) : ∀ g, v.ownBlock = some g → B ≤ g ∧ g < w.heap.size := by
  obtain ⟨ts, hl, ho, hn⟩ := h
  exact owns_lt ho

theorem OwnNums.nums {B : Nat} {w : World} {v : Value} {zs : List (Int × Nat)} (h : OwnNums B w v zs) : Nums w v zs := by
  obtain ⟨ts, hl, ho, hn⟩ := h
  obtain ⟨ap, kp, rfl⟩ : ∃ ap kp, v = .slice ap ts.length kp := by
    obtain ⟨h0, h1 | ⟨g, cap, cur, hv, _⟩⟩ := ho
    · exact ⟨none, 0, by rw [h1.1, h1.2]⟩
    · exact ⟨_, _, hv⟩
  exact nums_of_owns ho hl hn

/-- A condition as a value. -/
structure CondV where
  g : Option Addr × Nat × Nat
  s : ByteArray
  r : Tri

def CondV.gv (c : CondV) : Value := .slice c.g.1 c.g.2.1 c.g.2.2
def CondV.cells (c : CondV) : List Value := [c.gv, .string c.s, .bool c.r.b, c.r.up, c.r.down]
def condCells (cs : List CondV) : List Value := cs.flatMap CondV.cells

/-- What a condition in memory says; v: the row that it lies in. -/
def CondIs (B : Nat) (w : World) (v : Value) (c : CondV) (r : List Int × List UInt8 × Int) : Prop :=
  Nums w c.gv (r.1.map fun z => (z, 1)) ∧ (∀ g, c.gv.ownBlock = some g → B ≤ g ∧ v.ownBlock ≠ some g) ∧ c.s = ⟨r.2.1.toArray⟩ ∧ NumV w c.r.val r.2.2 1

def OwnConds (B : Nat) (w : World) (v : Value) (rows : List (List Int × List UInt8 × Int)) : Prop :=
  ∃ cs : List CondV, cs.length = rows.length ∧ w.ownsRow B 206 5 v cs.length (condCells cs) ∧ ∀ (i : Nat) (c : CondV) (r : List Int × List UInt8 × Int), cs[i]? = some c → rows[i]? = some r → CondIs B w v c r

theorem CondIs.kept {B : Nat} {w w' : World} {v : Value} {c : CondV} {r : List Int × List UInt8 × Int} (h : CondIs B w v c r) (hk : Kept w w') (hg : ∀ g, B ≤ g → g < w.heap.size → v.ownBlock ≠ some g → w'.heap[g]? = w.heap[g]?) : CondIs B w' v c r := by
  obtain ⟨a1, a2, a3, a4⟩ := h
  exact ⟨a1.kept hk (fun g hgo => hg g (a2 g hgo).1 (a1.lt g hgo) (a2 g hgo).2), a2, a3, a4.kept hk⟩

theorem OwnConds.kept {B : Nat} {w w' : World} {v : Value} {rows : List (List Int × List UInt8 × Int)} (h : OwnConds B w v rows) (hk : Kept w w') (hr : ∀ g, v.ownBlock = some g → w'.heap[g]? = w.heap[g]?) (hg : rows ≠ [] → ∀ g, B ≤ g → g < w.heap.size → v.ownBlock ≠ some g → w'.heap[g]? = w.heap[g]?) : OwnConds B w' v rows := by
  obtain ⟨cs, hl, ho, hn⟩ := h
  refine ⟨cs, hl, owns_same ho hk.1 hr, fun i c r h1 h2 => ?_⟩
  have hne : rows ≠ [] := by rintro rfl; simp at h2
  exact (hn i c r h1 h2).kept hk (hg hne)

theorem OwnConds.lt {B : Nat} {w : World} {v : Value} {rows : List (List Int × List UInt8 × Int)} (h : OwnConds B w v rows) : ∀ g, v.ownBlock = some g → B ≤ g ∧ g < w.heap.size := by
  obtain ⟨cs, hl, ho, hn⟩ := h
  exact owns_lt ho

/-- A box of five cells that may be written. -/
def Box5 (w : World) (g : Nat) (x0 x1 x2 x3 x4 : Value) : Prop :=
  w.cell? ⟨g, 0, none⟩ = some x0 ∧ w.cell? ⟨g, 1, none⟩ = some x1 ∧ w.cell? ⟨g, 2, none⟩ = some x2 ∧ w.cell? ⟨g, 3, none⟩ = some x3 ∧ w.cell? ⟨g, 4, none⟩ = some x4 ∧
    w.frozen? ⟨g, 0, none⟩ = false ∧ w.frozen? ⟨g, 1, none⟩ = false ∧ w.frozen? ⟨g, 2, none⟩ = false ∧ w.frozen? ⟨g, 3, none⟩ = false ∧ w.frozen? ⟨g, 4, none⟩ = false

theorem Box5.same {w w' : World} {g : Nat} {x0 x1 x2 x3 x4 : Value} (h : Box5 w g x0 x1 x2 x3 x4) (he : w'.heap[g]? = w.heap[g]?) : Box5 w' g x0 x1 x2 x3 x4 := by
  obtain ⟨h0, h1, h2, h3, h4, f0, f1, f2, f3, f4⟩ := h
  exact ⟨(World.cell?_of_block (w := w) (a := ⟨g, 0, none⟩) he).trans h0, (World.cell?_of_block (w := w) (a := ⟨g, 1, none⟩) he).trans h1, (World.cell?_of_block (w := w) (a := ⟨g, 2, none⟩) he).trans h2, (World.cell?_of_block (w := w) (a := ⟨g, 3, none⟩) he).trans h3, (World.cell?_of_block (w := w) (a := ⟨g, 4, none⟩) he).trans h4,
    (World.frozen?_of_block (w := w) (a := ⟨g, 0, none⟩) he).trans f0, (World.frozen?_of_block (w := w) (a := ⟨g, 1, none⟩) he).trans f1, (World.frozen?_of_block (w := w) (a := ⟨g, 2, none⟩) he).trans f2, (World.frozen?_of_block (w := w) (a := ⟨g, 3, none⟩) he).trans f3, (World.frozen?_of_block (w := w) (a := ⟨g, 4, none⟩) he).trans f4⟩

theorem set_other {w : World} {g i j : Nat} {v u : Value} (h : w.cell? ⟨g, j, none⟩ = some u) (hij : i ≠ j) : (w.setCell ⟨g, i, none⟩ v).cell? ⟨g, j, none⟩ = some u := by
  rw [World.cell?_setCell_other _ _ _ _ (by intro e; injection e with _ e2; exact hij e2)]; exact h

theorem Box5.set0 {w : World} {g : Nat} {x0 x1 x2 x3 x4 : Value} (h : Box5 w g x0 x1 x2 x3 x4) (v : Value) : Box5 (w.setCell ⟨g, 0, none⟩ v) g v x1 x2 x3 x4 := by
  obtain ⟨h0, h1, h2, h3, h4, f0, f1, f2, f3, f4⟩ := h
  exact ⟨World.cell?_setCell_same _ _ _ h0, set_other h1 (by omega), set_other h2 (by omega), set_other h3 (by omega), set_other h4 (by omega), by simpa using f0, by simpa using f1, by simpa using f2, by simpa using f3, by simpa using f4⟩
theorem Box5.set1 {w : World} {g : Nat} {x0 x1 x2 x3 x4 : Value} (h : Box5 w g x0 x1 x2 x3 x4) (v : Value) : Box5 (w.setCell ⟨g, 1, none⟩ v) g x0 v x2 x3 x4 := by
  obtain ⟨h0, h1, h2, h3, h4, f0, f1, f2, f3, f4⟩ := h
  exact ⟨set_other h0 (by omega), World.cell?_setCell_same _ _ _ h1, set_other h2 (by omega), set_other h3 (by omega), set_other h4 (by omega), by simpa using f0, by simpa using f1, by simpa using f2, by simpa using f3, by simpa using f4⟩
theorem Box5.set2 {w : World} {g : Nat} {x0 x1 x2 x3 x4 : Value} (h : Box5 w g x0 x1 x2 x3 x4) (v : Value) : Box5 (w.setCell ⟨g, 2, none⟩ v) g x0 x1 v x3 x4 := by
  obtain ⟨h0, h1, h2, h3, h4, f0, f1, f2, f3, f4⟩ := h
  exact ⟨set_other h0 (by omega), set_other h1 (by omega), World.cell?_setCell_same _ _ _ h2, set_other h3 (by omega), set_other h4 (by omega), by simpa using f0, by simpa using f1, by simpa using f2, by simpa using f3, by simpa using f4⟩
theorem Box5.set3 {w : World} {g : Nat} {x0 x1 x2 x3 x4 : Value} (h : Box5 w g x0 x1 x2 x3 x4) (v : Value) : Box5 (w.setCell ⟨g, 3, none⟩ v) g x0 x1 x2 v x4 := by
  obtain ⟨h0, h1, h2, h3, h4, f0, f1, f2, f3, f4⟩ := h
  exact ⟨set_other h0 (by omega), set_other h1 (by omega), set_other h2 (by omega), World.cell?_setCell_same _ _ _ h3, set_other h4 (by omega), by simpa using f0, by simpa using f1, by simpa using f2, by simpa using f3, by simpa using f4⟩
theorem Box5.set4 {w : World} {g : Nat} {x0 x1 x2 x3 x4 : Value} (h : Box5 w g x0 x1 x2 x3 x4) (v : Value) : Box5 (w.setCell ⟨g, 4, none⟩ v) g x0 x1 x2 x3 v := by
  obtain ⟨h0, h1, h2, h3, h4, f0, f1, f2, f3, f4⟩ := h
  exact ⟨set_other h0 (by omega), set_other h1 (by omega), set_other h2 (by omega), set_other h3 (by omega), World.cell?_setCell_same _ _ _ h4, by simpa using f0, by simpa using f1, by simpa using f2, by simpa using f3, by simpa using f4⟩

/-- The problem that lies at block gp, as far as it is read; W1: the world where the reading began. -/
structure RQ (W1 w : World) (gp n : Nat) (mx lo hi : List Int) (rows : List (List Int × List UInt8 × Int)) (vM vL vH vC : Value) : Prop where
  lt : gp < W1.heap.size
  kind : ¬ Kind w gp
  wr : Wr (fun k => k = gp) W1 w
  box : Box5 w gp (.int .i64 (n : Nat)) vM vL vH vC
  mx : Nums w vM (mx.map fun z => (z, 1))
  mxB : ∀ g, vM.ownBlock = some g → W1.heap.size ≤ g
  lo : OwnNums W1.heap.size w vL (lo.map fun z => (z, 1))
  hi : OwnNums W1.heap.size w vH (hi.map fun z => (z, 1))
  cs : OwnConds W1.heap.size w vC rows
  sepL : ∀ g, vL.ownBlock = some g → vM.ownBlock ≠ some g ∧ vH.ownBlock ≠ some g
  sepH : ∀ g, vH.ownBlock = some g → vM.ownBlock ≠ some g
  sepC : ∀ g, vC.ownBlock = some g → vM.ownBlock ≠ some g

theorem RQ.gpw {W1 w : World} {gp n : Nat} {mx lo hi : List Int} {rows : List (List Int × List UInt8 × Int)} {vM vL vH vC : Value} (h : RQ W1 w gp n mx lo hi rows vM vL vH vC) : gp < w.heap.size := Nat.lt_of_lt_of_le h.lt h.wr.size

/-- More memory, all old blocks as they were. -/
theorem RQ.below {W1 w w' : World} {gp n : Nat} {mx lo hi : List Int} {rows : List (List Int × List UInt8 × Int)} {vM vL vH vC : Value} (h : RQ W1 w gp n mx lo hi rows vM vL vH vC) (hb : Below w.heap.size w w') : RQ W1 w' gp n mx lo hi rows vM vL vH vC := by
  have hk := Kept.of_below hb
  have hlt := h.gpw
  refine ⟨h.lt, ?_, h.wr.trans (Wr.of_below (T := fun k => k = gp) hb), h.box.same (hb.block gp hlt), h.mx.kept hk (fun g hg => hb.block g (h.mx.lt g hg)), h.mxB, h.lo.kept hk (fun g hg => hb.block g (h.lo.lt g hg).2), h.hi.kept hk (fun g hg => hb.block g (h.hi.lt g hg).2), h.cs.kept hk (fun g hg => hb.block g (h.cs.lt g hg).2) (fun _ g _ hg _ => hb.block g hg), h.sepL, h.sepH, h.sepC⟩
  rintro ⟨c, fr, hc⟩
  exact h.kind ⟨c, fr, (hb.block gp hlt).symm.trans hc⟩

theorem RQ.alloc {W1 w : World} {gp n : Nat} {mx lo hi : List Int} {rows : List (List Int × List UInt8 × Int)} {vM vL vH vC : Value} (h : RQ W1 w gp n mx lo hi rows vM vL vH vC) (o : Obj) : RQ W1 (w.alloc o) gp n mx lo hi rows vM vL vH vC := h.below ((Below.refl _ _).alloc (Nat.le_refl _) o)

theorem RQ.drew {W1 w : World} {gp n : Nat} {mx lo hi : List Int} {rows : List (List Int × List UInt8 × Int)} {vM vL vH vC : Value} (h : RQ W1 w gp n mx lo hi rows vM vL vH vC) : RQ W1 w.drew gp n mx lo hi rows vM vL vH vC :=
  h.below ⟨rfl, rfl, rfl, Nat.le_refl _, fun _ _ => rfl⟩

theorem kind_setCell {w : World} {k : Nat} {a : Addr} {v : Value} (h : ¬ Kind w k) : ¬ Kind (w.setCell a v) k := by
  rintro ⟨c, fr, hc⟩
  by_cases hk : a.block = k
  · subst hk
    have hlt : a.block < w.heap.size := by simpa using (Array.getElem?_eq_some_iff.1 hc).1
    rw [World.setCell] at hc
    simp only [Array.getElem?_modify, if_true, Array.getElem?_eq_getElem hlt, Option.map_some] at hc
    cases ho : w.heap[a.block] with
    | cells c0 t0 f0 =>
      rw [ho] at hc
      simp only [Option.some.injEq, Obj.cells.injEq] at hc
      exact h ⟨c0, f0, by rw [Array.getElem?_eq_getElem hlt, ho, hc.2.1]⟩
    | _ => rw [ho] at hc; simp at hc
  · exact h ⟨c, fr, (Below.heap_setCell _ _ _ _ (fun e => hk e.symm)).symm.trans hc⟩

/-- What lies in other blocks than gp stays behind a store into gp. -/
theorem RQ.stored {W1 w : World} {gp n n' j : Nat} {mx lo hi : List Int} {rows : List (List Int × List UInt8 × Int)} {vM vL vH vC v : Value} (h : RQ W1 w gp n mx lo hi rows vM vL vH vC) (hb : Box5 (w.setCell ⟨gp, j, none⟩ v) gp (.int .i64 (n' : Nat)) vM vL vH vC) : RQ W1 (w.setCell ⟨gp, j, none⟩ v) gp n' mx lo hi rows vM vL vH vC := by
  have hk : Kept w (w.setCell ⟨gp, j, none⟩ v) := Kept.of_setCell (a := ⟨gp, j, none⟩) h.kind v
  have hne : ∀ g, W1.heap.size ≤ g → (w.setCell ⟨gp, j, none⟩ v).heap[g]? = w.heap[g]? := fun g hg => Below.heap_setCell _ _ _ _ (by have := h.lt; simp; omega)
  exact ⟨h.lt, kind_setCell h.kind, h.wr.setCell (p := ⟨gp, j, none⟩) rfl v, hb, h.mx.kept hk (fun g hg => hne g (h.mxB g hg)), h.mxB, h.lo.kept hk (fun g hg => hne g (h.lo.lt g hg).1), h.hi.kept hk (fun g hg => hne g (h.hi.lt g hg).1), h.cs.kept hk (fun g hg => hne g (h.cs.lt g hg).1) (fun _ g hg _ _ => hne g hg), h.sepL, h.sepH, h.sepC⟩

theorem RQ.setN {W1 w : World} {gp n : Nat} {mx lo hi : List Int} {rows : List (List Int × List UInt8 × Int)} {vM vL vH vC : Value} (h : RQ W1 w gp n mx lo hi rows vM vL vH vC) (n' : Nat) : RQ W1 (w.setCell ⟨gp, 0, none⟩ (.int .i64 (n' : Nat))) gp n' mx lo hi rows vM vL vH vC :=
  h.stored (h.box.set0 _)

/-- Max is written. -/
theorem RQ.setMax {W1 w : World} {gp n : Nat} {mx lo hi mx' : List Int} {rows : List (List Int × List UInt8 × Int)} {vM vL vH vC v : Value} (h : RQ W1 w gp n mx lo hi rows vM vL vH vC) (hv : Nums w v (mx'.map fun z => (z, 1))) (hB : ∀ g, v.ownBlock = some g → W1.heap.size ≤ g ∧ vL.ownBlock ≠ some g ∧ vH.ownBlock ≠ some g ∧ vC.ownBlock ≠ some g) : RQ W1 (w.setCell ⟨gp, 1, none⟩ v) gp n mx' lo hi rows v vL vH vC := by
  have h2 : RQ W1 w gp n mx lo hi rows vM vL vH vC := h
  have hk : Kept w (w.setCell ⟨gp, 1, none⟩ v) := Kept.of_setCell (a := ⟨gp, 1, none⟩) h.kind v
  have hne : ∀ g, W1.heap.size ≤ g → (w.setCell ⟨gp, 1, none⟩ v).heap[g]? = w.heap[g]? := fun g hg => Below.heap_setCell _ _ _ _ (by have := h.lt; simp; omega)
  exact ⟨h.lt, kind_setCell h.kind, h.wr.setCell (p := ⟨gp, 1, none⟩) rfl v, h.box.set1 v, hv.kept hk (fun g hg => hne g (hB g hg).1), fun g hg => (hB g hg).1, h.lo.kept hk (fun g hg => hne g (h.lo.lt g hg).1), h.hi.kept hk (fun g hg => hne g (h.hi.lt g hg).1), h.cs.kept hk (fun g hg => hne g (h.cs.lt g hg).1) (fun _ g hg _ _ => hne g hg),
    fun g hg => ⟨fun e => (hB g e).2.1 hg, (h.sepL g hg).2⟩, fun g hg e => (hB g e).2.2.1 hg, fun g hg e => (hB g e).2.2.2 hg⟩

theorem wr_grown {W1 w w' : World} {gp : Nat} {row : Option Nat} (h : Wr (fun k => k = gp) W1 w) (hg : w.grownBy w' row) (hr : ∀ g, row = some g → W1.heap.size ≤ g) : Wr (fun k => k = gp) W1 w' :=
  ⟨hg.os.trans h.os, hg.tape.trans h.tape, hg.output.trans h.output, Nat.le_trans h.size hg.size, fun k hk ht => (hg.block k (Nat.lt_of_lt_of_le hk h.size) (fun e => by have := hr k e.symm; omega)).trans (h.block k hk ht)⟩

theorem tri_snoc {ts : List Tri} {x : Tri} {zs : List (Int × Nat)} {z : Int × Nat} {w : World} (hl : ts.length = zs.length) (hn : ∀ (i : Nat) (t : Tri) (z : Int × Nat), ts[i]? = some t → zs[i]? = some z → NumV w t.val z.1 z.2) (hx : NumV w x.val z.1 z.2) :
    ∀ (i : Nat) (t : Tri) (y : Int × Nat), (ts ++ [x])[i]? = some t → (zs ++ [z])[i]? = some y → NumV w t.val y.1 y.2 := by
  intro i t y ht hy
  by_cases hi : i < ts.length
  · rw [List.getElem?_append_left hi] at ht
    rw [List.getElem?_append_left (by omega)] at hy
    exact hn i t y ht hy
  · have hie : i = ts.length := by
      have := (List.getElem?_eq_some_iff.1 ht).1
      simp at this
      omega
    subst hie
    rw [List.getElem?_append_right (Nat.le_refl _), Nat.sub_self] at ht
    rw [hl, List.getElem?_append_right (Nat.le_refl _), Nat.sub_self] at hy
    simp at ht hy
    subst ht hy
    exact hx

theorem RQ.noKindL {W1 w : World} {gp n : Nat} {mx lo hi : List Int} {rows : List (List Int × List UInt8 × Int)} {vM vL vH vC : Value} (h : RQ W1 w gp n mx lo hi rows vM vL vH vC) : ∀ g, vL.ownBlock = some g → ¬ Kind w g := by
  obtain ⟨ts, hl, ho, hn⟩ := h.lo
  exact other_kind ho (by decide)
theorem RQ.noKindH {W1 w : World} {gp n : Nat} {mx lo hi : List Int} {rows : List (List Int × List UInt8 × Int)} {vM vL vH vC : Value} (h : RQ W1 w gp n mx lo hi rows vM vL vH vC) : ∀ g, vH.ownBlock = some g → ¬ Kind w g := by
  obtain ⟨ts, hl, ho, hn⟩ := h.hi
  exact other_kind ho (by decide)
theorem RQ.noKindC {W1 w : World} {gp n : Nat} {mx lo hi : List Int} {rows : List (List Int × List UInt8 × Int)} {vM vL vH vC : Value} (h : RQ W1 w gp n mx lo hi rows vM vL vH vC) : ∀ g, vC.ownBlock = some g → ¬ Kind w g := by
  obtain ⟨ts, hl, ho, hn⟩ := h.cs
  exact other_kind ho (by decide)

end Go.Proofs.YtnhfdcfnojnofaaGreatDoor.T
