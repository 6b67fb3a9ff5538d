/-
  Part 21 of the texts ahead of Pls1: Dvp1, Dvl1, Dvl2.
-/
import Derived.Test.YtnhfdcfnojnofaaGreatDoorPls1Z20
import Derived.Test.YtnhfdcfnojnofaaGreatDoorPls1Z3
import Derived.Test.YtnhfdcfnojnofaaGreatDoorPls1Z19
import Derived.Test.YtnhfdcfnojnofaaGreatDoorPls1Z9
import Derived.Deep.RegionHeld
import Derived.OwnWalkIn
set_option linter.unusedSimpArgs false
set_option linter.unusedVariables false
/-
  A problem of the program's own (package problem) as it lies in memory while it is read.
-/
namespace Go.Proofs.YtnhfdcfnojnofaaGreatDoor
open Go.RowKit

/-- Three whole numbers for each variable: the coefficient, the least, the greatest. -/
def ColsOk (p : Prob) (zs : List Int) : Prop :=
  zs.length = 3 * p.n ∧ (∀ k, k < p.mx.length → zs.getD (3 * k) 0 = p.mx.getD k 0) ∧ ∀ k, k < p.rg.length → zs.getD (3 * k + 1) 0 = (p.rg.getD k (0, 0)).1 ∧ zs.getD (3 * k + 2) 0 = (p.rg.getD k (0, 0)).2

/-- A condition as a value. -/
structure RowV where
  s : ByteArray
  x : Bool
  b : Option Addr × Nat × Nat
  f : Nat
  n : Nat

def RowV.cells (r : RowV) : List Value := [.string r.s, .bool r.x, .slice r.b.1 r.b.2.1 r.b.2.2, .slice (some ⟨r.f, 0, none⟩) r.n r.n]
def rowCells (rs : List RowV) : List Value := rs.flatMap RowV.cells

/-- What a condition in memory says; T: blocks that are none of its factors' own. -/
def RowIs (w : World) (T : Nat → Prop) (r : RowV) (row : List Int × List UInt8 × Int) : Prop :=
  ¬ T r.f ∧ r.n = row.1.length ∧ Whs w r.f row.1 ∧ r.s = ⟨row.2.1.toArray⟩ ∧ WholeV w (.agg #[.bool r.x, .slice r.b.1 r.b.2.1 r.b.2.2]) row.2.2

/-- The blocks that are the problem's own. -/
def Own (gp : Nat) (vC vR : Value) (k : Nat) : Prop := k = gp ∨ vC.ownBlock = some k ∨ vR.ownBlock = some k

theorem RowIs.keep {B : Nat} {w w' : World} {T : Nat → Prop} {r : RowV} {row : List Int × List UInt8 × Int} (h : RowIs w T r row) (hk : Keep B w w') : RowIs w' T r row :=
  ⟨h.1, h.2.1, h.2.2.1.keep hk, h.2.2.2.1, h.2.2.2.2.keep hk⟩

theorem RowIs.wr {w w' : World} {T U : Nat → Prop} {r : RowV} {row : List Int × List UInt8 × Int} (h : RowIs w T r row) (hw : Wr U w w') (hu : ∀ k, U k → T k) (hn : ∀ k, U k → NoDig w k) : RowIs w' T r row :=
  ⟨h.1, h.2.1, h.2.2.1.wr hw (fun e => h.1 (hu _ e)) hn, h.2.2.2.1, h.2.2.2.2.wr hw hn⟩

/-- The problem that lies at block gp, as far as it is read. -/
structure DQ (w : World) (gp : Nat) (p : Prob) (vC vR : Value) : Prop where
  box : Box2 w gp vC vR
  nodP : NoDig w gp
  cols : (p.n = 0 ∧ vC = .slice none 0 0) ∨ ∃ bc zs, vC = .slice (some ⟨bc, 0, none⟩) p.n p.n ∧ bc ≠ gp ∧ Whs w bc zs ∧ ColsOk p zs
  nodR : ∀ g, vR.ownBlock = some g → NoDig w g ∧ g ≠ gp ∧ vC.ownBlock ≠ some g
  rows : ∃ rs : List RowV, rs.length = p.rows.length ∧ w.ownsRow 0 160 4 vR rs.length (rowCells rs) ∧ ∀ (i : Nat) (r : RowV) (row : List Int × List UInt8 × Int), rs[i]? = some r → p.rows[i]? = some row → RowIs w (Own gp vC vR) r row

theorem Box2.same {w w' : World} {g : Nat} {x y : Value} (h : Box2 w g x y) (he : w'.heap[g]? = w.heap[g]?) (hs : w.heap.size ≤ w'.heap.size) : Box2 w' g x y := by
  obtain ⟨h0, h1, h2, h3, h4⟩ := h
  exact ⟨(World.cell?_of_block (w := w) (a := ⟨g, 0, none⟩) he).trans h0, (World.cell?_of_block (w := w) (a := ⟨g, 1, none⟩) he).trans h1, (World.frozen?_of_block (w := w) (a := ⟨g, 0, none⟩) he).trans h2, (World.frozen?_of_block (w := w) (a := ⟨g, 1, none⟩) he).trans h3, Nat.lt_of_lt_of_le h4 hs⟩

theorem Keep.cells {B : Nat} {w w' : World} (hk : Keep B w w') {g : Nat} {o : Obj} (ho : w.heap[g]? = some o) (hc : o.isCells = true) : w'.heap[g]? = w.heap[g]? := (hk.block g o ho (.inr hc)).trans ho.symm

theorem Box2.keep {B : Nat} {w w' : World} {g : Nat} {x y : Value} (h : Box2 w g x y) (hk : Keep B w w') : Box2 w' g x y := by
  obtain ⟨o, ho, hc⟩ := cells_of_cell h.1
  exact h.same (hk.cells ho hc) hk.size

theorem owns_eq {w w' : World} {B e size n : Nat} {v : Value} {xs : List Value} (h : w.ownsRow B e size v n xs) (hr : ∀ g, v.ownBlock = some g → w'.heap[g]? = w.heap[g]?) : w'.ownsRow B e size v n xs := by
  obtain ⟨h0, h1 | ⟨g, cap, cur, hv, hb, hh, hn, h4, h5, h6⟩⟩ := h
  · exact ⟨h0, Or.inl h1⟩
  · exact ⟨h0, Or.inr ⟨g, cap, cur, hv, hb, (hr g (by rw [hv]; rfl)).trans hh, hn, h4, h5, h6⟩⟩

theorem owns_keep {B' : Nat} {w w' : World} {B e size n : Nat} {v : Value} {xs : List Value} (h : w.ownsRow B e size v n xs) (hk : Keep B' w w') : w'.ownsRow B e size v n xs := by
  refine owns_eq h fun g hg => ?_
  obtain ⟨h0, h1 | ⟨g', cap, cur, hv, hb, hh, hn, h4, h5, h6⟩⟩ := h
  · rw [h1.1] at hg; cases hg
  · rw [hv] at hg
    simp [Value.ownBlock] at hg
    subst hg
    exact hk.cells hh rfl

theorem DQ.keep {B : Nat} {w w' : World} {gp : Nat} {p : Prob} {vC vR : Value} (h : DQ w gp p vC vR) (hk : Keep B w w') : DQ w' gp p vC vR := by
  refine ⟨h.box.keep hk, h.nodP.keep hk, ?_, fun g hg => ⟨(h.nodR g hg).1.keep hk, (h.nodR g hg).2⟩, ?_⟩
  · rcases h.cols with h1 | ⟨bc, zs, h1, h2, h3, h4⟩
    · exact Or.inl h1
    · exact Or.inr ⟨bc, zs, h1, h2, h3.keep hk, h4⟩
  · obtain ⟨rs, h1, h2, h3⟩ := h.rows
    exact ⟨rs, h1, owns_keep h2 hk, fun i r row a b => (h3 i r row a b).keep hk⟩

theorem DQ.below {w w' : World} {gp : Nat} {p : Prob} {vC vR : Value} (h : DQ w gp p vC vR) (hb : Below w.heap.size w w') : DQ w' gp p vC vR := h.keep (B := 0) (Keep.of_below hb)

/-- The columns' numbers were written anew. -/
theorem DQ.cols_anew {w w' : World} {gp bc : Nat} {p q : Prob} {vC vR : Value} {zs : List Int} (h : DQ w gp p vC vR) (hv : vC = .slice (some ⟨bc, 0, none⟩) p.n p.n) (hn : 0 < p.n) (hw : Wr (fun k => k = bc) w w') (hz : Whs w' bc zs) (hq : ColsOk q zs) (hqn : q.n = p.n) (hqr : q.rows = p.rows) : DQ w' gp q vC vR := by
  obtain ⟨hbg, hd⟩ : bc ≠ gp ∧ NoDig w bc := by
    rcases h.cols with ⟨h0, _⟩ | ⟨b2, z2, h1, h2, h3, _⟩
    · omega
    · rw [hv] at h1
      simp at h1
      subst h1
      exact ⟨h2, h3.1⟩
  have hnd : ∀ k, k = bc → NoDig w k := fun k e => e ▸ hd
  refine ⟨h.box.same (hw.block gp h.box.2.2.2.2 (Ne.symm hbg)) hw.size, h.nodP.wr hw (Ne.symm hbg), Or.inr ⟨bc, zs, by rw [hqn]; exact hv, hbg, hz, hq⟩, fun g hg => ?_, ?_⟩
  · have h3 := h.nodR g hg
    exact ⟨h3.1.wr hw (fun e => h3.2.2 (by rw [hv, e]; rfl)), h3.2⟩
  · obtain ⟨rs, h1, h2, h3⟩ := h.rows
    refine ⟨rs, by rw [hqr]; exact h1, owns_eq h2 (fun g hg => ?_), fun i r row a b => ?_⟩
    · have hlt := (h2.lt g hg).2
      exact hw.block g hlt (fun e => (h.nodR g hg).2.2 (by rw [hv, e]; rfl))
    · rw [hqr] at b
      exact (h3 i r row a b).wr hw (fun k e => Or.inr (Or.inl (by rw [hv, e]; rfl))) hnd

/-- The columns were made. -/
theorem DQ.cols_made {w : World} {gp bc n : Nat} {vC vR : Value} {zs : List Int} (h : DQ w gp Prob.none vC vR) (hz : Whs w bc zs) (hbg : bc ≠ gp) (hbr : vR.ownBlock ≠ some bc) (hl : zs.length = 3 * n) :
    DQ (w.setCell ⟨gp, 0, none⟩ (.slice (some ⟨bc, 0, none⟩) n n)) gp ⟨n, [], [], []⟩ (.slice (some ⟨bc, 0, none⟩) n n) vR := by
  obtain ⟨b0, b1, b2, b3, b4⟩ := h.box
  have hw : Wr (fun k => k = gp) w (w.setCell ⟨gp, 0, none⟩ (.slice (some ⟨bc, 0, none⟩) n n)) := Wr.setCell (T := fun k => k = gp) (Wr.refl _ _) (p := ⟨gp, 0, none⟩) rfl _
  have hnd : ∀ k, k = gp → NoDig w k := fun k e => e ▸ h.nodP
  refine ⟨⟨World.cell?_setCell_same _ _ _ b0, ?_, by simpa using b2, by simpa using b3, by simpa using b4⟩, ?_, Or.inr ⟨bc, zs, rfl, hbg, hz.wr hw hbg hnd, hl, fun k hk => by simp at hk, fun k hk => by simp at hk⟩, fun g hg => ?_, ?_⟩
  · rw [World.cell?_setCell_other _ _ _ _ (by simp)]; exact b1
  · exact h.nodP.setCell b0 (by simp)
  · have h3 := h.nodR g hg
    refine ⟨h3.1.wr hw h3.2.1, h3.2.1, fun e => ?_⟩
    simp [Value.ownBlock] at e
    exact hbr (by rw [hg, e])
  · obtain ⟨rs, h1, h2, h3⟩ := h.rows
    obtain rfl : rs = [] := List.eq_nil_of_length_eq_zero (by simpa [Prob.none] using h1)
    refine ⟨[], rfl, owns_eq h2 (fun g hg => hw.block g (h2.lt g hg).2 (h.nodR g hg).2.1), fun i r row a b => by simp at a⟩

/-- The conditions have grown by one, and lie in their field. -/
theorem DQ.rows_grown {w w' : World} {gp g cap : Nat} {p : Prob} {vC vR : Value} {rs : List RowV} {r : RowV} {row : List Int × List UInt8 × Int} (h : DQ w gp p vC vR) (hl : rs.length = p.rows.length)
    (hrs : ∀ (i : Nat) (r : RowV) (row : List Int × List UInt8 × Int), rs[i]? = some r → p.rows[i]? = some row → RowIs w (Own gp vC vR) r row) (hr : RowIs w (Own gp vC vR) r row)
    (hown : w'.ownsRow 0 160 4 (.slice (some ⟨g, 0, none⟩) (rs.length + 1) cap) (rs.length + 1) (rowCells rs ++ r.cells)) (hg : w.grownBy w' vR.ownBlock) (hat : vR.ownBlock = some g ∨ g = w.heap.size) (hd : NoDig w' g) :
    DQ (w'.setCell ⟨gp, 1, none⟩ (.slice (some ⟨g, 0, none⟩) (rs.length + 1) cap)) gp { p with rows := p.rows ++ [row] } vC (.slice (some ⟨g, 0, none⟩) (rs.length + 1) cap) := by
  have hw : Wr (fun k => vR.ownBlock = some k) w w' := ⟨hg.os, hg.tape, hg.output, hg.size, fun k hk e => hg.block k hk (fun e2 => e e2.symm)⟩
  have hnd : ∀ k, vR.ownBlock = some k → NoDig w k := fun k e => (h.nodR k e).1
  have hgpR : ¬ vR.ownBlock = some gp := fun e => (h.nodR gp e).2.1 rfl
  have hbox' : Box2 w' gp vC vR := h.box.same (hw.block gp h.box.2.2.2.2 hgpR) hw.size
  have hnp' : NoDig w' gp := h.nodP.wr hw hgpR
  obtain ⟨b0, b1, b2, b3, b4⟩ := hbox'
  have hw2 : Wr (fun k => k = gp) w' (w'.setCell ⟨gp, 1, none⟩ (.slice (some ⟨g, 0, none⟩) (rs.length + 1) cap)) := Wr.setCell (T := fun k => k = gp) (Wr.refl _ _) (p := ⟨gp, 1, none⟩) rfl _
  have hnd2 : ∀ k, k = gp → NoDig w' k := fun k e => e ▸ hnp'
  have hgg : g ≠ gp := by
    rcases hat with e | e
    · exact (h.nodR g e).2.1
    · have := h.box.2.2.2.2; omega
  have hlt : ∀ k, vC.ownBlock = some k → k < w.heap.size ∧ ¬ vR.ownBlock = some k := by
    intro k hk
    rcases h.cols with ⟨_, e⟩ | ⟨bc, zs, e, e2, e3, _⟩
    · rw [e] at hk; cases hk
    · rw [e] at hk
      simp [Value.ownBlock] at hk
      subst hk
      exact ⟨e3.lt, fun e4 => (h.nodR bc e4).2.2 (by rw [e]; rfl)⟩
  have one : ∀ {r : RowV} {row : List Int × List UInt8 × Int}, RowIs w (Own gp vC vR) r row → RowIs (w'.setCell ⟨gp, 1, none⟩ (.slice (some ⟨g, 0, none⟩) (rs.length + 1) cap)) (Own gp vC (.slice (some ⟨g, 0, none⟩) (rs.length + 1) cap)) r row := by
    intro r row h1
    have h2 := h1.wr hw (fun k e => Or.inr (Or.inr e)) hnd
    have h3 : RowIs w' (Own gp vC (.slice (some ⟨g, 0, none⟩) (rs.length + 1) cap)) r row := by
      refine ⟨fun e => ?_, h2.2⟩
      rcases e with e | e | e
      · exact h1.1 (Or.inl e)
      · exact h1.1 (Or.inr (Or.inl e))
      · simp [Value.ownBlock] at e
        rcases hat with e2 | e2
        · exact h1.1 (Or.inr (Or.inr (by rw [e2, e])))
        · have := h1.2.2.1.lt; omega
    exact h3.wr hw2 (fun k e => Or.inl e) hnd2
  refine ⟨⟨?_, World.cell?_setCell_same _ _ _ b1, by simpa using b2, by simpa using b3, by simpa using b4⟩, hnp'.setCell b1 (by simp), ?_, fun k hk => ?_, rs ++ [r], by simp [hl], ?_, fun i r' row' a b => ?_⟩
  · rw [World.cell?_setCell_other _ _ _ _ (by simp)]; exact b0
  · rcases h.cols with h1 | ⟨bc, zs, h1, h2, h3, h4⟩
    · exact Or.inl h1
    · refine Or.inr ⟨bc, zs, h1, h2, ?_, h4⟩
      have hb := (hlt bc (by rw [h1]; rfl)).2
      exact (h3.wr hw hb hnd).wr hw2 h2 hnd2
  · simp [Value.ownBlock] at hk
    subst hk
    refine ⟨hd.wr hw2 hgg, hgg, fun e => ?_⟩
    rcases hat with e2 | e2
    · exact (hlt g e).2 e2
    · have := (hlt g e).1; omega
  · have e : rowCells rs ++ r.cells = rowCells (rs ++ [r]) := by simp [rowCells]
    rw [List.length_append, List.length_singleton, ← e]
    exact owns_eq hown (fun k hk => hw2.block k (hown.lt k hk).2 (by simp [Value.ownBlock] at hk; omega))
  · by_cases hi : i < rs.length
    · rw [List.getElem?_append_left hi] at a
      rw [List.getElem?_append_left (by omega)] at b
      exact one (hrs i r' row' a b)
    · have hie : i = rs.length := by
        have := (List.getElem?_eq_some_iff.1 a).1
        simp at this
        omega
      subst hie
      rw [List.getElem?_append_right (Nat.le_refl _), Nat.sub_self] at a
      rw [hl, List.getElem?_append_right (Nat.le_refl _), Nat.sub_self] at b
      simp at a b
      subst a b
      exact one hr
end Go.Proofs.YtnhfdcfnojnofaaGreatDoor

/-
  The places of a line, while they are laid one behind another (package problem).
-/
namespace Go.Proofs.YtnhfdcfnojnofaaGreatDoor
open Go.RowKit

/-- Places as values. -/
def placeE (q : Nat) : Value := .func (.func 364) #[] #[.pointer (some ⟨q, 0, none⟩)]
def placeW (q : Nat) : Value := .func (.func 366) #[] #[.pointer (some ⟨q, 0, none⟩)]
def placeR (q : Nat) : Value := .func (.func 368) #[] #[.pointer (some ⟨q, 0, none⟩)]
def placeN (q : Nat) : Value := .func (.func 365) #[] #[.pointer (some ⟨q, 0, none⟩)]

theorem enters_E : ∀ args w, (callFunc 364 args).run Tryz.prog w = .ok (.enter 364 args) w := enters_f Tryz.func364 (by kernel_rfl) rfl
theorem enters_W : ∀ args w, (callFunc 366 args).run Tryz.prog w = .ok (.enter 366 args) w := enters_f Tryz.func366 (by kernel_rfl) rfl
theorem enters_R : ∀ args w, (callFunc 368 args).run Tryz.prog w = .ok (.enter 368 args) w := enters_f Tryz.func368 (by kernel_rfl) rfl
theorem enters_N : ∀ args w, (callFunc 365 args).run Tryz.prog w = .ok (.enter 365 args) w := enters_f Tryz.func365 (by kernel_rfl) rfl

theorem Tryz.infoPlace : (Tryz.prog.info? 429).map (fun i => (i.zero, i.size, i.bytes)) = some (some (.nilFunc), 1, 8) := by kernel_rfl

/-- Places laid so far: gpl: where the row's value lies; q0, qs: what they lean on; B: all that is newer than this is the call's own; xs: blocks that are none of the row's. -/
structure Pls (B : Nat) (w A : World) (gpl q0 : Nat) (wd : List UInt8) (qs : List Nat) (pt : Nat → Addr) (xs : List Nat) (ap : Option Addr) (kp : Nat) : Prop where
  own : A.ownsRow B 429 1 (.slice ap (qs.length + 1) kp) (qs.length + 1) (placeE q0 :: qs.map placeW)
  box : A.cell? ⟨gpl, 0, none⟩ = some (.slice ap (qs.length + 1) kp)
  fro : A.frozen? ⟨gpl, 0, none⟩ = false
  q0c : A.cell? ⟨q0, 0, none⟩ = some (.string ⟨wd.toArray⟩)
  qsc : ∀ j q, qs[j]? = some q → A.cell? ⟨q, 0, none⟩ = some (.pointer (some (pt j)))
  new : B ≤ gpl ∧ gpl ≠ q0 ∧ B ≤ q0 ∧ ∀ q ∈ qs, B ≤ q ∧ q ≠ gpl
  lt : ∀ x ∈ gpl :: q0 :: (qs ++ xs), x < A.heap.size
  sep : ∀ g, (Value.slice ap (qs.length + 1) kp).ownBlock = some g → ∀ x ∈ gpl :: q0 :: (qs ++ xs), g ≠ x
  bel : Below B w A
  le : B ≤ w.heap.size

theorem Keep.cells' {B : Nat} {w w' : World} (hk : Keep B w w') {g : Nat} {o : Obj} (ho : w.heap[g]? = some o) (hc : o.isCells = true) : w'.heap[g]? = w.heap[g]? := (hk.block g o ho (.inr hc)).trans ho.symm

theorem owns_keep' {B' : Nat} {w w' : World} {B e size n : Nat} {v : Value} {xs : List Value} (h : w.ownsRow B e size v n xs) (hk : Keep B' w w') : w'.ownsRow B e size v n xs := by
  obtain ⟨h0, h1 | ⟨g, cap, cur, hv, hb, hh, hn, h4, h5, h6⟩⟩ := h
  · exact ⟨h0, Or.inl h1⟩
  · exact ⟨h0, Or.inr ⟨g, cap, cur, hv, hb, (hk.cells' hh rfl).trans hh, hn, h4, h5, h6⟩⟩

theorem Pls.keep {C B : Nat} {w A A' : World} {gpl q0 : Nat} {wd : List UInt8} {qs : List Nat} {pt : Nat → Addr} {xs : List Nat} {ap : Option Addr} {kp : Nat} (h : Pls B w A gpl q0 wd qs pt xs ap kp) (hk : Keep C A A') (hC : B ≤ C) : Pls B w A' gpl q0 wd qs pt xs ap kp :=
  ⟨owns_keep' h.own hk, hk.cell h.box, (hk.frozen h.box).trans h.fro, hk.cell h.q0c, fun j q hq => hk.cell (h.qsc j q hq), h.new, fun x hx => Nat.lt_of_lt_of_le (h.lt x hx) hk.size, h.sep, hk.below h.bel hC h.le, h.le⟩

theorem Pls.alloc {B : Nat} {w A : World} {gpl q0 : Nat} {wd : List UInt8} {qs : List Nat} {pt : Nat → Addr} {xs : List Nat} {ap : Option Addr} {kp : Nat} (h : Pls B w A gpl q0 wd qs pt xs ap kp) (o : Obj) : Pls B w (A.alloc o) gpl q0 wd qs pt xs ap kp := h.keep (Keep.alloc B _ _) (Nat.le_refl _)
theorem Pls.drew {B : Nat} {w A : World} {gpl q0 : Nat} {wd : List UInt8} {qs : List Nat} {pt : Nat → Addr} {xs : List Nat} {ap : Option Addr} {kp : Nat} (h : Pls B w A gpl q0 wd qs pt xs ap kp) : Pls B w A.drew gpl q0 wd qs pt xs ap kp := h.keep (Keep.drew B _) (Nat.le_refl _)

/-- One place more, and it lies in its variable. -/
theorem Pls.grow {B : Nat} {w A A' : World} {gpl q0 q g cap : Nat} {wd : List UInt8} {qs : List Nat} {pt : Nat → Addr} {xs : List Nat} {ap : Option Addr} {kp : Nat} (h : Pls B w A gpl q0 wd qs pt xs ap kp)
    (hq : A.cell? ⟨q, 0, none⟩ = some (.pointer (some (pt qs.length)))) (hqB : B ≤ q) (hqg : q ≠ gpl) (hqs : ∀ g, (Value.slice ap (qs.length + 1) kp).ownBlock = some g → g ≠ q)
    (hown : A'.ownsRow B 429 1 (.slice (some ⟨g, 0, none⟩) (qs.length + 1 + 1) cap) (qs.length + 1 + 1) (placeE q0 :: qs.map placeW ++ [placeW q])) (hg : A.grownBy A' (Value.slice ap (qs.length + 1) kp).ownBlock) (hat : (Value.slice ap (qs.length + 1) kp).ownBlock = some g ∨ g = A.heap.size) :
    Pls B w (A'.setCell ⟨gpl, 0, none⟩ (.slice (some ⟨g, 0, none⟩) (qs.length + 1 + 1) cap)) gpl q0 wd (qs ++ [q]) pt xs (some ⟨g, 0, none⟩) cap ∧
      Wr (fun x => x = gpl ∨ (Value.slice ap (qs.length + 1) kp).ownBlock = some x) A (A'.setCell ⟨gpl, 0, none⟩ (.slice (some ⟨g, 0, none⟩) (qs.length + 1 + 1) cap)) := by
  have hql : q < A.heap.size := block_lt_of_cell hq
  have hw : Wr (fun x => (Value.slice ap (qs.length + 1) kp).ownBlock = some x) A A' := ⟨hg.os, hg.tape, hg.output, hg.size, fun k hk e => hg.block k hk (fun e2 => e e2.symm)⟩
  have hno : ∀ {x : Nat}, x ∈ gpl :: q0 :: (qs ++ xs) → ¬ (Value.slice ap (qs.length + 1) kp).ownBlock = some x := fun hx e => h.sep _ e _ hx rfl
  have hbox' := hw.cell (p := ⟨gpl, 0, none⟩) (hno (by simp)) h.box
  have hgx : ∀ x ∈ gpl :: q0 :: (qs ++ xs), g ≠ x := by
    intro x hx
    rcases hat with e | e
    · exact h.sep g e x hx
    · have := h.lt x hx; omega
  have hgq : g ≠ q := by
    rcases hat with e | e
    · exact hqs g e
    · omega
  have hgpl : g ≠ gpl := hgx gpl (by simp)
  have hlen : (qs ++ [q]).length + 1 = qs.length + 1 + 1 := by simp
  have e2 : placeE q0 :: (qs ++ [q]).map placeW = placeE q0 :: qs.map placeW ++ [placeW q] := by simp
  have hB' : Below B w A' := ⟨hg.os.trans h.bel.os, hg.tape.trans h.bel.tape, hg.output.trans h.bel.output, Nat.le_trans h.bel.size hg.size, fun k hk => (hg.block k (by have := h.bel.size; have := h.le; omega) (fun e => by have := (h.own.lt k e.symm).1; omega)).trans (h.bel.block k hk)⟩
  refine ⟨⟨?_, ?_, ?_, ?_, ?_, ?_, ?_, ?_, ?_, h.le⟩, ?_⟩
  · rw [hlen, e2]
    obtain ⟨h0, h1 | ⟨g', cap', cur, hv, hb, hh, hn, h4, h5, h6⟩⟩ := hown
    · exact absurd h1.1 (by simp)
    · refine ⟨h0, Or.inr ⟨g', cap', cur, hv, hb, (Below.heap_setCell _ _ _ _ ?_).trans hh, hn, h4, h5, h6⟩⟩
      simp only [Value.slice.injEq, Option.some.injEq, Addr.mk.injEq] at hv
      rw [← hv.1.1]
      exact hgpl
  · rw [hlen]; exact World.cell?_setCell_same _ _ _ hbox'
  · have := (hw.block gpl (h.lt gpl (by simp)) (hno (by simp)))
    have h3 : A'.frozen? ⟨gpl, 0, none⟩ = A.frozen? ⟨gpl, 0, none⟩ := World.frozen?_of_block (w := A) this
    simpa using h3.trans h.fro
  · rw [World.cell?_setCell_far _ _ _ _ (by simpa using h.new.2.1)]
    exact hw.cell (p := ⟨q0, 0, none⟩) (hno (by simp)) h.q0c
  · intro j q' hj
    by_cases hjl : j < qs.length
    · rw [List.getElem?_append_left hjl] at hj
      have hm : q' ∈ qs := List.mem_of_getElem? hj
      rw [World.cell?_setCell_far _ _ _ _ (by simpa using Ne.symm (h.new.2.2.2 q' hm).2)]
      exact hw.cell (p := ⟨q', 0, none⟩) (hno (by simp [hm])) (h.qsc j q' hj)
    · have hje : j = qs.length := by
        have := (List.getElem?_eq_some_iff.1 hj).1
        simp at this
        omega
      subst hje
      rw [List.getElem?_append_right (Nat.le_refl _), Nat.sub_self] at hj
      simp at hj
      subst hj
      rw [World.cell?_setCell_far _ _ _ _ (by simpa using Ne.symm hqg)]
      exact hw.cell (p := ⟨q, 0, none⟩) (fun e => hqs _ e rfl) hq
  · refine ⟨h.new.1, h.new.2.1, h.new.2.2.1, fun x hx => ?_⟩
    rcases List.mem_append.1 hx with e | e
    · exact h.new.2.2.2 x e
    · rw [List.mem_singleton.1 e]; exact ⟨hqB, hqg⟩
  · intro x hx
    have hs := hg.size
    simp only [List.mem_cons, List.mem_append, List.append_assoc] at hx
    have : x < A.heap.size := by
      rcases hx with e | e | e | e | e
      · exact h.lt x (by simp [e])
      · exact h.lt x (by simp [e])
      · exact h.lt x (by simp [e])
      · rcases e with e | e
        · omega
        · cases e
      · exact h.lt x (by simp [e])
    simp
    omega
  · intro g2 hg2 x hx
    have : g2 = g := by simpa [Value.ownBlock] using hg2.symm
    subst this
    simp only [List.mem_cons, List.mem_append, List.append_assoc] at hx
    rcases hx with e | e | e | e | e
    · exact hgx x (by simp [e])
    · exact hgx x (by simp [e])
    · exact hgx x (by simp [e])
    · rcases e with e | e
      · rw [e]; exact hgq
      · cases e
    · exact hgx x (by simp [e])
  · exact hB'.setCell (p := ⟨gpl, 0, none⟩) h.new.1 _
  · exact Wr.setCell (T := fun x => x = gpl ∨ (Value.slice ap (qs.length + 1) kp).ownBlock = some x) (hw.mono (fun k e => Or.inr e)) (p := ⟨gpl, 0, none⟩) (Or.inl rfl) _

theorem Pls.alloc_avoid {B : Nat} {w A : World} {gpl q0 : Nat} {wd : List UInt8} {qs : List Nat} {pt : Nat → Addr} {xs : List Nat} {ap : Option Addr} {kp : Nat} (h : Pls B w A gpl q0 wd qs pt xs ap kp) (o : Obj) : Pls B w (A.alloc o) gpl q0 wd qs pt (A.heap.size :: xs) ap kp := by
  have h2 := h.alloc o
  refine ⟨h2.own, h2.box, h2.fro, h2.q0c, h2.qsc, h2.new, fun x hx => ?_, fun g hg x hx => ?_, h2.bel, h2.le⟩
  · simp only [List.mem_cons, List.mem_append] at hx
    rcases hx with e | e | e | e | e
    · exact h2.lt x (by simp [e])
    · exact h2.lt x (by simp [e])
    · exact h2.lt x (by simp [e])
    · rw [e]; simp
    · exact h2.lt x (by simp [e])
  · simp only [List.mem_cons, List.mem_append] at hx
    rcases hx with e | e | e | e | e
    · exact h2.sep g hg x (by simp [e])
    · exact h2.sep g hg x (by simp [e])
    · exact h2.sep g hg x (by simp [e])
    · have := (h.own.lt g hg).2; omega
    · exact h2.sep g hg x (by simp [e])

theorem Pls.avoid {B : Nat} {w A : World} {gpl q0 : Nat} {wd : List UInt8} {qs : List Nat} {pt : Nat → Addr} {xs : List Nat} {ap : Option Addr} {kp : Nat} (h : Pls B w A gpl q0 wd qs pt xs ap kp) (y : Nat) (hy : y < A.heap.size) (hne : ∀ g, (Value.slice ap (qs.length + 1) kp).ownBlock = some g → g ≠ y) : Pls B w A gpl q0 wd qs pt (y :: xs) ap kp := by
  refine ⟨h.own, h.box, h.fro, h.q0c, h.qsc, h.new, fun x hx => ?_, fun g hg x hx => ?_, h.bel, h.le⟩
  · simp only [List.mem_cons, List.mem_append] at hx
    rcases hx with e | e | e | e | e
    · exact h.lt x (by simp [e])
    · exact h.lt x (by simp [e])
    · exact h.lt x (by simp [e])
    · rw [e]; exact hy
    · exact h.lt x (by simp [e])
  · simp only [List.mem_cons, List.mem_append] at hx
    rcases hx with e | e | e | e | e
    · exact h.sep g hg x (by simp [e])
    · exact h.sep g hg x (by simp [e])
    · exact h.sep g hg x (by simp [e])
    · rw [e]; exact hne g hg
    · exact h.sep g hg x (by simp [e])

/-- The first place, laid into its row, the row into its variable. -/
theorem Pls.start (w W : World) (hb : Below w.heap.size w W) (wd : List UInt8) (pt : Nat → Addr) :
    Pls w.heap.size w (((W.alloc (.cells #[.string ⟨wd.toArray⟩] 9)).alloc (.cells #[placeE W.heap.size] 429)).alloc (.cells #[.slice (some ⟨W.heap.size + 1, 0, none⟩) 1 1] 433))
      (W.heap.size + 1 + 1) W.heap.size wd [] pt [] (some ⟨W.heap.size + 1, 0, none⟩) 1 := by
  have hs := hb.size
  refine ⟨⟨rfl, Or.inr ⟨W.heap.size + 1, 1, #[placeE W.heap.size], rfl, by omega, ?_, Nat.le_refl _, by unfold maxLen; omega, rfl, rfl⟩⟩, ?_, ?_, ?_, fun j q hq => by simp at hq, ⟨by omega, by omega, hs, fun q hq => by simp at hq⟩, fun x hx => ?_, fun g hg x hx => ?_, ?_, Nat.le_refl _⟩
  · have h1 := World.alloc_heap_new (W.alloc (.cells #[.string ⟨wd.toArray⟩] 9)) (.cells #[placeE W.heap.size] 429)
    rw [World.size_alloc] at h1
    exact (Below.heap_alloc _ _ _ (by simp)).trans h1
  · have := (Boxed.new ((W.alloc (.cells #[.string ⟨wd.toArray⟩] 9)).alloc (.cells #[placeE W.heap.size] 429)) 433 (.slice (some ⟨W.heap.size + 1, 0, none⟩) 1 1)).cell
    rwa [World.size_alloc, World.size_alloc] at this
  · have := (Boxed.new ((W.alloc (.cells #[.string ⟨wd.toArray⟩] 9)).alloc (.cells #[placeE W.heap.size] 429)) 433 (.slice (some ⟨W.heap.size + 1, 0, none⟩) 1 1)).frozen
    rwa [World.size_alloc, World.size_alloc] at this
  · exact (((Boxed.new W 9 (.string ⟨wd.toArray⟩)).alloc _).alloc _).cell
  · simp only [List.mem_cons, List.append_nil, List.not_mem_nil, or_false] at hx
    simp
    omega
  · simp [Value.ownBlock] at hg
    simp only [List.mem_cons, List.append_nil, List.not_mem_nil, or_false] at hx
    omega
  · exact (((hb.alloc hs _).alloc (by simp; omega) _).alloc (by simp; omega) _)

/-- The row's cells, and that it is one. -/
theorem Pls.row {B : Nat} {w A : World} {gpl q0 : Nat} {wd : List UInt8} {qs : List Nat} {pt : Nat → Addr} {xs : List Nat} {ap : Option Addr} {kp : Nat} (h : Pls B w A gpl q0 wd qs pt xs ap kp) :
    ∃ g, ap = some ⟨g, 0, none⟩ ∧ B ≤ g ∧ g < A.heap.size ∧ qs.length + 1 ≤ kp ∧ kp ≤ 9223372036854775807 ∧ ∀ i fv, (placeE q0 :: qs.map placeW)[i]? = some fv → A.cell? ⟨g, i, none⟩ = some fv := by
  have hc := h.own
  have hl := h.own.lt
  obtain ⟨h0, h1 | ⟨g, cap, cur, hv, hb, hh, hn, h4, h5, h6⟩⟩ := h.own
  · exact absurd h1.1 (by simp)
  · simp only [Value.slice.injEq] at hv
    obtain ⟨rfl, _, rfl⟩ := hv
    refine ⟨g, rfl, hb, (hl g rfl).2, hn, by unfold maxLen at h4; omega, fun i fv hi => ?_⟩
    have := hc.cells (g := g) rfl i fv hi
    have e : (⟨g, 0, none⟩ : Addr).add i = ⟨g, i, none⟩ := by
      unfold Addr.add
      split
      · rename_i hz; rw [hz]
      · simp
    rw [e] at this
    exact this
end Go.Proofs.YtnhfdcfnojnofaaGreatDoor

/-
  Appending within a round of a range over a function, where the statement's order is drawn.
-/
namespace Go.Proofs.YtnhfdcfnojnofaaGreatDoor
open Go.RowKit

theorem step_append_round {F : Fence} {n : Nat} {P : Program} (w : World) {ops : Array Oper} {o : Oper} {a : Act} {K : Act → World → Prop} {Q : Exit → Act → World → Prop} {E : Prop} (hgd : o.guard = none) (s x : Operand) (t : TypeId)
    (ho : o.op = .call { callee := .builtin .append, args := #[s, x], argTypes := #[t, t] })
    (base : Nat) (e : TypeId) (i : TypeInfo) (z : Value) (size bytes : Nat) (ht : P.underlying t = some (.slice e)) (hi : P.info? e = some i) (hz : i.zero = some z)
    (hsize : i.size = size) (hby : i.bytes = bytes) (hzs : z.cells.size = size) (hsz : 0 < size)
    (v : Value) (m : Nat) (xs : List Value) (hs : a.eval s = v) (hown : w.ownsRow base e size v m xs)
    (ad : Addr) (k c : Nat) (news : List Value) (hx : a.eval x = .slice (some ad) k c) (hl : news.length = k * size) (hnews : ∀ j u, news[j]? = some u → w.cell? (ad.add j) = some u) (h1 : ∀ u ∈ news, u.oneCell' = true)
    (hm : 0 < k) (h63 : m + k ≤ maxLen) (hbytes : (m + k) * bytes ≤ 140737488355328) (hbase : base ≤ w.heap.size) (H : Nat) (hH : w.heap.size = H)
    (h : ∀ g cap w', w'.ownsRow base e size (.slice (some ⟨g, 0, none⟩) (m + k) cap) (m + k) (xs ++ news) → w.grownBy w' v.ownBlock → (v.ownBlock = some g ∨ g = H) → g < w'.heap.size → K (a.put o.dst (.slice (some ⟨g, 0, none⟩) (m + k) cap)) w') :
    if Region.wanted o (yielded ops a.tmps) = true then Oper.wpIn F n P o a w K Q else E := by
  have hw : Region.wanted o (yielded ops a.tmps) = true := by simp [Region.wanted, hgd]
  rw [if_pos hw]
  obtain ⟨g, cap, w', hr, h2, h3, h4, h5⟩ := run_append_lies (P := P) w t o.type base e i z size bytes ht hi hz hsize hby hzs hsz v m xs hown ad k c news hl hnews h1 hm h63 hbytes hbase H hH
  unfold Oper.wpIn
  refine ⟨?_, ?_⟩
  · simp [Oper.about, ho, resolve, Target.leads, Sem.run_pure]
  · rw [Oper.semAt_plain F _ _ (by rw [ho]; intro c hc'; cases hc')]
    simp [execOp, ho, resolve, invoke, builtin, hs, hx, hr, Result.andThen]
    exact h g cap w' h2 h3 h4 h5

/-- One place more, at a step of a drawn statement. -/
theorem step_place {F : Fence} {n : Nat} (A : World) {ops : Array Oper} {o : Oper} {a : Act} {K : Act → World → Prop} {Q : Exit → Act → World → Prop} {E : Prop} (hgd : o.guard = none) (s x : Operand)
    (ho : o.op = .call { callee := .builtin .append, args := #[s, x], argTypes := #[433, 433] })
    {B : Nat} {w : World} {gpl q0 q : Nat} {wd : List UInt8} {qs : List Nat} {pt : Nat → Addr} {xs : List Nat} {ap : Option Addr} {kp b : Nat} (hP : Pls B w A gpl q0 wd qs pt xs ap kp) (hl : qs.length ≤ 900)
    (hs : a.eval s = .slice ap (qs.length + 1) kp) (hx : a.eval x = .slice (some ⟨b, 0, none⟩) 1 1) (hb : A.cell? ⟨b, 0, none⟩ = some (placeW q))
    (hq : A.cell? ⟨q, 0, none⟩ = some (.pointer (some (pt qs.length)))) (hqB : B ≤ q) (hqg : q ≠ gpl) (hqs : ∀ g, (Value.slice ap (qs.length + 1) kp).ownBlock = some g → g ≠ q)
    (h : ∀ g cap A', Pls B w (A'.setCell ⟨gpl, 0, none⟩ (.slice (some ⟨g, 0, none⟩) (qs.length + 1 + 1) cap)) gpl q0 wd (qs ++ [q]) pt xs (some ⟨g, 0, none⟩) cap →
      Wr (fun x => x = gpl ∨ (Value.slice ap (qs.length + 1) kp).ownBlock = some x) A (A'.setCell ⟨gpl, 0, none⟩ (.slice (some ⟨g, 0, none⟩) (qs.length + 1 + 1) cap)) →
      ((Value.slice ap (qs.length + 1) kp).ownBlock = some g ∨ A.heap.size ≤ g) →
      A'.cell? ⟨gpl, 0, none⟩ = some (.slice ap (qs.length + 1) kp) → A'.frozen? ⟨gpl, 0, none⟩ = false → K (a.put o.dst (.slice (some ⟨g, 0, none⟩) (qs.length + 1 + 1) cap)) A') :
    if Region.wanted o (yielded ops a.tmps) = true then Oper.wpIn F n Tryz.prog o a A K Q else E := by
  obtain ⟨i0, hi, hz0, hz1, hz2⟩ := info_parts Tryz.infoPlace
  refine step_append_round A hgd s x 433 ho B 429 i0 .nilFunc 1 8 Tryz.underlying433 hi hz0 hz1 hz2 rfl (by decide) _ _ _ hs hP.own ⟨b, 0, none⟩ 1 1 [placeW q] hx rfl ?_ (fun u hu => by simp at hu; subst hu; rfl) (by omega) (by unfold maxLen; omega) (by omega) (by have := hP.bel.size; have := hP.le; omega) A.heap.size rfl ?_
  · intro j u hu
    match j, hu with
    | 0, hu => simp at hu; subst hu; simpa [Addr.add] using hb
    | j + 1, hu => simp at hu
  · intro g cap A' hown hg hat hlt
    obtain ⟨h1, h2⟩ := hP.grow hq hqB hqg hqs hown hg hat
    have hno : ¬ (Value.slice ap (qs.length + 1) kp).ownBlock = some gpl := fun e => hP.sep _ e gpl (by simp) rfl
    refine h g cap A' h1 h2 (hat.imp id (fun e => by omega)) ?_ ?_
    · exact (hg.cell_far ⟨gpl, 0, none⟩ (hP.lt gpl (by simp)) (fun e => hno e.symm)).trans hP.box
    · exact (hg.frozen_far ⟨gpl, 0, none⟩ (hP.lt gpl (by simp)) (fun e => hno e.symm)).trans hP.fro
end Go.Proofs.YtnhfdcfnojnofaaGreatDoor
