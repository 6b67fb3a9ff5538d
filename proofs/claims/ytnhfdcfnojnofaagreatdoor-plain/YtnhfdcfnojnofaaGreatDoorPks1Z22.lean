/-
  Part 22 of the texts ahead of Pks1: Dvk5.
-/
import Derived.Test.YtnhfdcfnojnofaaGreatDoorPks1Z21
import Derived.Test.YtnhfdcfnojnofaaGreatDoorPks1Z20
set_option linter.unusedSimpArgs false
set_option linter.unusedVariables false
/-
  A condition's line is read into its own blocks (package problem).
-/
namespace Go.Proofs.YtnhfdcfnojnofaaGreatDoor
open Go.RowKit

/-- The blocks of a condition that is not read yet: its factors', its own. -/
def RowB (A : World) (bf gr n : Nat) : Prop :=
  A.heap[bf]? = some (.cells (madeCells #[.bool false, .slice none 0 0] (n * 2)) 101 (0, 0)) ∧ A.heap[gr]? = some (.cells #[.string ⟨#[]⟩, .bool false, .slice none 0 0, .slice (some ⟨bf, 0, none⟩) n n] 160 (0, 0))

theorem RowB.keep {B : Nat} {A A' : World} {bf gr n : Nat} (h : RowB A bf gr n) (hk : Keep B A A') : RowB A' bf gr n := ⟨(hk.cells' h.1 rfl).trans h.1, (hk.cells' h.2 rfl).trans h.2⟩

theorem RowB.wr {T : Nat → Prop} {A A' : World} {bf gr n : Nat} (h : RowB A bf gr n) (hw : Wr T A A') (h1 : ¬ T bf) (h2 : ¬ T gr) : RowB A' bf gr n := ⟨hw.some h.1 h1, hw.some h.2 h2⟩

theorem RowB.start {A : World} {bf gr n : Nat} (h : RowB A bf gr n) : RowSt n bf gr (List.replicate n 0) [] A := by
  refine ⟨?_, nodig_of_block h.2 fun v hv => ?_, ⟨_, cell_of_row _ _ _ _ _ _ h.2, frozen_of_row _ _ _ _ _ h.2, fun e => by simp at e⟩, ⟨0, ⟨false, none, 0, 0, cell_of_row _ _ _ _ _ _ h.2, cell_of_row _ _ _ _ _ _ h.2, ⟨false, _, rfl, NatV.zero _ _ _, by rw [Hid]; rfl⟩, frozen_of_row _ _ _ _ _ h.2, frozen_of_row _ _ _ _ _ h.2⟩, fun e => by simp at e⟩, cell_of_row _ _ _ _ _ _ h.2⟩
  · have := whs_block (m := n) h.1 (by rw [size_madeCells]; omega) fun j hj => ⟨by
        rw [made_get (by omega)]
        have : (2 * j) % (#[Value.bool false, .slice none 0 0] : Array Value).size = 0 := by simp
        rw [this]; rfl, by
        rw [made_get (by omega)]
        have : (2 * j + 1) % (#[Value.bool false, .slice none 0 0] : Array Value).size = 1 := by simp <;> omega
        rw [this]; rfl⟩
    rw [show List.take n (List.drop 1 ([] : List (List UInt8))) = [] by simp]
    exact this
  · simp only [List.mem_cons, List.not_mem_nil, or_false] at hv
    intro n e
    rcases hv with rfl | rfl | rfl | rfl <;> cases e

/-- What is told of a condition's words. -/
def rowOf (n : Nat) (ws : List (List UInt8)) : List Int × List UInt8 × Int := (((ws.drop 1).take n).map T.wZ, ws.getD (n + 1) [], T.wZ (ws.getD (n + 2) []))

theorem row_read (s : List UInt8) (hs : s.length ≤ 2000) {w A A3 AA : World} {gp gr gpl q0 g cap D : Nat} {p : Prob} {vC vR : Value} {qs : List Nat} {ap : Option Addr} {kp : Nat} {y : Nat} (hD : DQ w gp p vC vR) (hqn : qs.length ≤ 900) (hgr : w.heap.size < gr) (hgq : gr < gpl ∧ gr < q0)
    (hgb : w.heap.size < gpl ∧ w.heap.size < q0) (hP : Pls w.heap.size w A gpl q0 wRow qs (fun j => ⟨w.heap.size, j * 2, none⟩) [y, gr, w.heap.size] ap kp) (hqs : ∀ q ∈ qs, gr < q) (hRA : RowB A w.heap.size gr qs.length) (hk : Keep w.heap.size A A3) (hsA : gr < A.heap.size) (hd : A3.heap[D]? = some (.deferred (some []))) (hDl : gr < D) (hDg : D ≠ gpl)
    (hT : TwoP w.heap.size w A3 AA A.heap.size gpl q0 wRow qs (fun j => ⟨w.heap.size, j * 2, none⟩) [y, gr, w.heap.size] (Value.slice ap (qs.length + 1) kp).ownBlock g cap (.pointer (some ⟨gr, 0, none⟩)) (.pointer (some ⟨gr, 1, none⟩))) :
    Calls Tryz.prog 319 #[.string ⟨s.toArray⟩, .slice (some ⟨g, 0, none⟩) (qs.length + 1 + 2) cap] AA fun e A5 =>
      e = .returned (.bool (rowB qs.length (words s))) ∧ Below w.heap.size w A5 ∧ A5.heap[D]? = some (.deferred (some [])) ∧ gr < A5.heap.size ∧
        (rowB qs.length (words s) = true → ∃ sr x ao l c, A5.cell? ⟨gr, 0, none⟩ = some (.string sr) ∧ A5.cell? ⟨gr, 1, none⟩ = some (.bool x) ∧ A5.cell? ⟨gr, 2, none⟩ = some (.slice ao l c) ∧ A5.cell? ⟨gr, 3, none⟩ = some (.slice (some ⟨w.heap.size, 0, none⟩) qs.length qs.length) ∧
          RowIs A5 (Own gp vC vR) ⟨sr, x, (ao, l, c), w.heap.size, qs.length⟩ (rowOf qs.length (words s))) := by
  obtain ⟨t1, t2, t3, t4, t5, t6, t7, t8, t9, t10, t11, t12⟩ := hT
  have hRB : RowB AA w.heap.size gr qs.length := (hRA.keep hk).wr t2 (fun e => by
    rcases e with e | e
    · omega
    · exact hP.sep _ e w.heap.size (by simp) rfl) (fun e => by
    rcases e with e | e
    · omega
    · exact hP.sep _ e gr (by simp) rfl)
  have hdA : AA.heap[D]? = some (.deferred (some [])) := t2.some hd (fun e => by
    rcases e with e | e
    · exact hDg e
    · have hP3 := (hP.keep hk (Nat.le_refl _)).own
      obtain ⟨_, k1 | ⟨g3, cap3, cur3, kv, kb, kh, _⟩⟩ := hP3
      · exact absurd k1.1 (by simp)
      · rw [kv] at e
        simp [Value.ownBlock] at e
        subst e
        rw [hd] at kh
        cases kh)
  refine (fits_row s hs q0 A.heap.size (A.heap.size + 1) qs.length qs w.heap.size gr (List.replicate qs.length 0) g cap AA ⟨fun e => t10 w.heap.size (by simp) (by omega), fun e => t10 gr (by simp) e⟩ rfl hqn t11 t12 (by simp) (by omega) t3 t5 ⟨by omega, by omega⟩
    (fun j q hq => ⟨by have := hqs q (List.mem_of_getElem? hq); omega, by have := hqs q (List.mem_of_getElem? hq); omega, by rw [t6 j q hq, Nat.mul_comm]⟩) ⟨by omega, by omega, t7⟩ ⟨by omega, by omega, t8⟩ hRB.start).mono ?_
  rintro e A5 ⟨rfl, hw5, hst⟩
  have hb5 : Below w.heap.size w A5 := t1.trans (hw5.below (by have := t1.size; omega) (fun k e => by rcases e with e | e <;> omega))
  refine ⟨rfl, hb5, hw5.some hdA (fun e => by rcases e with e | e <;> omega), by have := hw5.size; have := lt_of_block hRB.2; omega, fun hr => ?_⟩
  obtain ⟨a1, a2, ⟨sr, a3, a4, a5⟩, ⟨z, ⟨x, ao, l, c, c1, c2, c3, _, _⟩, a7⟩, a8⟩ := hst hr
  have hrl : (words s).length = qs.length + 3 := (of_decide_eq_true hr).1
  have hsr := a5 (by omega)
  have hzz := a7 (by omega)
  subst hsr hzz
  refine ⟨_, x, ao, l, c, a3, c1, c2, a8, fun e => ?_, ?_, ?_, rfl, c3⟩
  · have h1 := hD.box.2.2.2.2
    rcases e with e | e | e
    · have e : w.heap.size = gp := e
      omega
    · rcases hD.cols with ⟨_, h2⟩ | ⟨bc, zs, h2, _, h3, _⟩
      · rw [h2] at e; cases e
      · rw [h2] at e
        simp [Value.ownBlock] at e
        have := h3.lt
        omega
    · obtain ⟨rs, _, h2, _⟩ := hD.rows
      have := (h2.lt _ e).2
      simp at this
  · simp [rowOf, hrl]
  · have hl : ((words s).drop 1 |>.take qs.length).length = qs.length := by
      rw [List.length_take, List.length_drop]; omega
    rw [putS_all (by rw [List.length_replicate, hl])] at a1
    exact a1

/-- A condition was added. -/
theorem row_kept {w A5 A6 : World} {gp g cap D : Nat} {p : Prob} {vC vR : Value} {rs : List RowV} {r : RowV} {row : List Int × List UInt8 × Int} (hD : DQ w gp p vC vR) (hb5 : Below w.heap.size w A5) (X : Obj) (hd5 : A5.heap[D]? = some (.deferred (some []))) (hDw : w.heap.size ≤ D)
    (hl : rs.length = p.rows.length) (hrs : ∀ (i : Nat) (r : RowV) (row : List Int × List UInt8 × Int), rs[i]? = some r → p.rows[i]? = some row → RowIs A5 (Own gp vC vR) r row) (hr : RowIs A5 (Own gp vC vR) r row)
    (hown : A6.ownsRow 0 160 4 (.slice (some ⟨g, 0, none⟩) (rs.length + 1) cap) (rs.length + 1) (rowCells rs ++ r.cells)) (hg : (A5.alloc X).drew.grownBy A6 vR.ownBlock) (hat : vR.ownBlock = some g ∨ g = (A5.alloc X).drew.heap.size) (hnd : NoDig A6 g) :
    Wr (Own gp vC vR) w (A6.setCell ⟨gp, 1, none⟩ (.slice (some ⟨g, 0, none⟩) (rs.length + 1) cap)) ∧ DQ (A6.setCell ⟨gp, 1, none⟩ (.slice (some ⟨g, 0, none⟩) (rs.length + 1) cap)) gp { p with rows := p.rows ++ [row] } vC (.slice (some ⟨g, 0, none⟩) (rs.length + 1) cap) ∧
      (A6.setCell ⟨gp, 1, none⟩ (.slice (some ⟨g, 0, none⟩) (rs.length + 1) cap)).heap[D]? = some (.deferred (some [])) ∧ (∀ k, (Value.slice (some ⟨g, 0, none⟩) (rs.length + 1) cap).ownBlock = some k → vR.ownBlock = some k ∨ w.heap.size ≤ k) := by
  have hk : Keep 0 A5 (A5.alloc X).drew := (Keep.alloc _ _ _).trans (Keep.drew _ _)
  have hD5 := hD.below hb5
  have hDx := hD5.keep hk
  have hbx : Below w.heap.size w (A5.alloc X).drew := (hb5.alloc hb5.size X).trans (c := World.drew _) ⟨rfl, rfl, rfl, Nat.le_refl _, fun _ _ => rfl⟩
  have hw : Wr (Own gp vC vR) (A5.alloc X).drew A6 := ⟨hg.os, hg.tape, hg.output, hg.size, fun k hk e => hg.block k hk (fun e2 => e (Or.inr (Or.inr e2.symm)))⟩
  have hgl := hD.box.2.2.2.2
  refine ⟨Wr.setCell (T := Own gp vC vR) ((Wr.of_below hbx).trans hw) (p := ⟨gp, 1, none⟩) (Or.inl rfl) _, hDx.rows_grown hl (fun i r row a b => (hrs i r row a b).keep hk) (hr.keep hk) hown hg hat hnd, ?_, fun k hk' => ?_⟩
  · rw [Below.heap_setCell _ _ _ _ (by simp; omega)]
    have hDl : D < A5.heap.size := lt_of_block hd5
    rw [hg.block D (by simp; omega) (fun e => ?_)]
    · exact (Below.heap_alloc A5 X D hDl).trans hd5
    · obtain ⟨rs2, _, h2, _⟩ := hD.rows
      have := (h2.lt D e.symm).2
      omega
  · have : k = g := by simpa [Value.ownBlock] using hk'.symm
    subst this
    rcases hat with e | e
    · exact Or.inl e
    · right
      have := hbx.size
      omega
end Go.Proofs.YtnhfdcfnojnofaaGreatDoor
