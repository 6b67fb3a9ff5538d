/-
  Part 24 of the texts ahead of Pks1: Dvk6, Dvr1, Dvr2.
-/
import Derived.Test.YtnhfdcfnojnofaaGreatDoorPks1Z20
import Derived.Test.YtnhfdcfnojnofaaGreatDoorPks1Z21
import Derived.Test.YtnhfdcfnojnofaaGreatDoorPks1Z23
import Derived.Deep.RegionWith
import Derived.Shelf.RegionOpen
set_option linter.unusedSimpArgs false
set_option linter.unusedVariables false
/-
  What take does (package problem): one line read into the program's own problem.
-/
namespace Go.Proofs.YtnhfdcfnojnofaaGreatDoor
open Go.RowKit

theorem below_drewD {B : Nat} {a w : World} (h : Below B a w) : Below B a w.drew := ⟨h.os, h.tape, h.output, h.size, h.block⟩

set_option maxHeartbeats 400000 in
theorem needed_any (gp n : Nat) (ao : Option Addr) (cap : Nat) (w : World) (h : w.cell? ⟨gp, 0, none⟩ = some (.slice ao n cap)) (hn : n ≤ 1000) :
    Calls Tryz.prog 149 #[.pointer (some ⟨gp, 0, none⟩)] w fun e w' => e = .returned (.int .i64 ((2 + n : Nat) : Int)) ∧ w' = w := by
  go_enter Tryz.func149, Tryz.ntmps149
  go_wp2
  go_ret
  exact ⟨ret_int (by simp), rfl⟩

theorem DQ.shapeR {w : World} {gp : Nat} {p : Prob} {vC vR : Value} (h : DQ w gp p vC vR) : ∃ ap kp, vR = .slice ap p.rows.length kp := by
  obtain ⟨rs, hl, ho, _⟩ := h.rows
  rw [← hl]
  obtain ⟨h0, h1 | ⟨g, cap, cur, hv, _⟩⟩ := ho
  · exact ⟨none, 0, by rw [h1.1, h1.2]⟩
  · exact ⟨_, _, hv⟩

/-- The columns, where there are some. -/
theorem DQ.colsAt {w : World} {gp : Nat} {p : Prob} {vC vR : Value} (h : DQ w gp p vC vR) (hn : 0 < p.n) : ∃ bc zs, vC = .slice (some ⟨bc, 0, none⟩) p.n p.n ∧ Whs w bc zs ∧ ColsOk p zs := by
  rcases h.cols with h1 | ⟨bc, zs, h1, _, h3, h4⟩
  · omega
  · exact ⟨bc, zs, h1, h3, h4⟩

/-- What a step of reading must do. -/
def StepD (f : Nat) (args : Array Value) (i : Nat) (p : Prob) (ws : List (List UInt8)) (gp : Nat) (vC vR : Value) (B : Nat) (w : World) : Prop :=
  Calls Tryz.prog f args w fun e w' => e = .returned (.bool (takeS i p ws).isSome) ∧ Wr (Own gp vC vR) w w' ∧ ∀ q, takeS i p ws = some q → ∃ vC' vR', DQ w' gp q vC' vR' ∧ ∀ k, Own gp vC' vR' k → Own gp vC vR k ∨ B ≤ k

theorem step_vars (l : List UInt8) (hl : l.length ≤ 2000) (gp B : Nat) (vC vR : Value) (w : World) (h : DQ w gp Prob.none vC vR) (hB : B ≤ w.heap.size) :
    StepD 238 #[.pointer (some ⟨gp, 0, none⟩), .string ⟨l.toArray⟩] 0 Prob.none (words l) gp vC vR B w := by
  refine (takeVars_any l hl gp vC vR w h).mono ?_
  rintro e w' ⟨rfl, hw, hq⟩
  have ht : takeS 0 Prob.none (words l) = if T.varsN (words l) = 0 then .none else some ⟨T.varsN (words l), [], [], []⟩ := by unfold takeS; rw [if_pos rfl]
  rw [ht]
  refine ⟨?_, hw.mono (fun k e => Or.inl e), fun q hqe => ?_⟩
  · by_cases h0 : T.varsN (words l) = 0 <;> simp [h0]
  · by_cases h0 : T.varsN (words l) = 0
    · rw [if_pos h0] at hqe; cases hqe
    · rw [if_neg h0] at hqe
      injection hqe with hqe
      subst hqe
      obtain ⟨vC', h1, h2⟩ := hq h0
      refine ⟨vC', vR, h1, fun k hk => ?_⟩
      rcases hk with e | e | e
      · exact Or.inl (Or.inl e)
      · exact Or.inr (Nat.le_trans hB (h2 k e))
      · exact Or.inl (Or.inr (Or.inr e))

theorem step_max (l : List UInt8) (hl : l.length ≤ 2000) (gp B : Nat) (p : Prob) (vC vR : Value) (w : World) (h : DQ w gp p vC vR) (hn : 0 < p.n ∧ p.n ≤ 4) (hrg : p.rg = []) :
    StepD 239 #[.pointer (some ⟨gp, 0, none⟩), .string ⟨l.toArray⟩] 1 p (words l) gp vC vR B w := by
  obtain ⟨bc, zs, rfl, hz, hc⟩ := h.colsAt hn.1
  refine (takeMax_any l hl gp bc p.n vR zs w h.box hn.2 hz hc.1).mono ?_
  rintro e w' ⟨rfl, hw, hq⟩
  have ht : takeS 1 p (words l) = if lineB wMax p.n (words l) = true then some { p with mx := ((words l).drop 1).map T.wZ } else .none := by
    unfold takeS lineB
    rw [if_neg (by omega), if_pos rfl]
    simp only [decide_eq_true_eq]
  rw [ht]
  refine ⟨?_, hw.mono (fun k e => Or.inr (Or.inl (by rw [e]; rfl))), fun q hqe => ?_⟩
  · cases lineB wMax p.n (words l) <;> simp
  · by_cases h0 : lineB wMax p.n (words l) = true
    · rw [if_pos h0] at hqe
      injection hqe with hqe
      subst hqe
      exact ⟨_, _, h.cols_anew rfl hn.1 hw (hq h0) (cols_max hc hrg (of_decide_eq_true h0).1) rfl rfl, fun k hk => Or.inl hk⟩
    · rw [if_neg h0] at hqe; cases hqe

theorem step_range (i : Nat) (l : List UInt8) (hl : l.length ≤ 2000) (gp B : Nat) (p : Prob) (vC vR : Value) (w : World) (h : DQ w gp p vC vR) (hn : 0 < p.n ∧ p.n ≤ 4) (h2 : 2 ≤ i) (hi : i ≤ 1 + p.n) (hrg : p.rg.length = i - 2) :
    StepD 240 #[.pointer (some ⟨gp, 0, none⟩), .string ⟨l.toArray⟩, .int .i64 ((i - 2 : Nat) : Int)] i p (words l) gp vC vR B w := by
  obtain ⟨bc, zs, rfl, hz, hc⟩ := h.colsAt hn.1
  refine (takeRange_any l hl gp bc p.n (i - 2) vR zs w h.box hn.2 (by omega) hz hc.1).mono ?_
  rintro e w' ⟨rfl, hw, hq⟩
  have ht : takeS i p (words l) = if lineB wRange 2 (words l) = true then some { p with rg := p.rg ++ [(T.wZ ((words l).getD 1 []), T.wZ ((words l).getD 2 []))] } else .none := by
    unfold takeS lineB
    rw [if_neg (by omega), if_neg (by omega), if_pos hi]
    simp only [decide_eq_true_eq]
  rw [ht]
  refine ⟨?_, hw.mono (fun k e => Or.inr (Or.inl (by rw [e]; rfl))), fun q hqe => ?_⟩
  · cases lineB wRange 2 (words l) <;> simp
  · by_cases h0 : lineB wRange 2 (words l) = true
    · rw [if_pos h0] at hqe
      injection hqe with hqe
      subst hqe
      exact ⟨_, _, h.cols_anew rfl hn.1 hw (hq h0) (cols_range hc hrg (by omega) (of_decide_eq_true h0).1) rfl rfl, fun k hk => Or.inl hk⟩
    · rw [if_neg h0] at hqe; cases hqe

theorem step_row (i : Nat) (l : List UInt8) (hl : l.length ≤ 2000) (gp B : Nat) (p : Prob) (vC vR : Value) (w : World) (h : DQ w gp p vC vR) (hn : 0 < p.n ∧ p.n ≤ 4) (h2 : 2 ≤ i) (hi : ¬ i ≤ 1 + p.n) (hr : p.rows.length < 6) (hB : B ≤ w.heap.size) :
    StepD 241 #[.pointer (some ⟨gp, 0, none⟩), .string ⟨l.toArray⟩] i p (words l) gp vC vR B w := by
  obtain ⟨bc, zs, rfl, hz, hc⟩ := h.colsAt hn.1
  refine (takeRow_any l hl gp bc p vR w h hn.1 hn.2 (by omega)).mono ?_
  rintro e w' ⟨rfl, hw, hq⟩
  have ht : takeS i p (words l) = if rowB p.n (words l) = true then some { p with rows := p.rows ++ [rowOf p.n (words l)] } else .none := by
    unfold takeS rowB rowOf
    rw [if_neg (by omega), if_neg (by omega), if_neg hi]
    simp only [decide_eq_true_eq, hr, true_and]
  rw [ht]
  refine ⟨?_, hw, fun q hqe => ?_⟩
  · cases rowB p.n (words l) <;> simp
  · by_cases h0 : rowB p.n (words l) = true
    · rw [if_pos h0] at hqe
      injection hqe with hqe
      subst hqe
      obtain ⟨vR', h3, h4⟩ := hq h0
      refine ⟨_, vR', h3, fun k hk => ?_⟩
      rcases hk with e | e | e
      · exact Or.inl (Or.inl e)
      · exact Or.inl (Or.inr (Or.inl e))
      · exact (h4 k e).imp (fun e => Or.inr (Or.inr e)) (fun e => Nat.le_trans hB e)
    · rw [if_neg h0] at hqe; cases hqe

set_option maxHeartbeats 2000000 in
set_option maxRecDepth 100000 in
theorem takeD_any (i : Nat) (l : List UInt8) (b1 b2 : Bool) (gp : Nat) (p : Prob) (vC vR : Value) (w : World) (h : DQ w gp p vC vR) (hP : PrOk i p) (hl : l.length ≤ 2000) (hi : i ≤ 100000) :
    Calls Tryz.prog 148 #[.pointer (some ⟨gp, 0, none⟩), .agg #[.int .i64 ((i + 1 : Nat) : Int), .string ⟨l.toArray⟩, .bool b1, .bool b2]] w fun e w' =>
      e = .returned (.bool (takeS i p (words l)).isSome) ∧ Wr (Own gp vC vR) w w' ∧ ∀ q, takeS i p (words l) = some q → ∃ vC' vR', DQ w' gp q vC' vR' ∧ ∀ k, Own gp vC' vR' k → Own gp vC vR k ∨ w.heap.size ≤ k := by
  obtain ⟨ap, kp, hvR⟩ := h.shapeR
  have hbW : Below w.heap.size w (w.alloc (.cells #[.int .i64 ((i + 1 : Nat) : Int), .string ⟨l.toArray⟩, .bool b1, .bool b2] 243)) := (Below.refl _ _).alloc (Nat.le_refl _) _
  have hDW := h.below hbW
  obtain ⟨d0, d1, d2, d3, d4⟩ := hDW.box
  have hBW := hbW.size
  by_cases h0 : i = 0
  · subst h0
    obtain rfl := hP.z rfl
    have HC := hide (step_vars l hl gp w.heap.size vC vR _ hDW hBW)
    clear hDW h hP
    go_enter Tryz.func148, Tryz.ntmps148
    go_wp2_with fail
    refine HC.out.mono ?_
    rintro e w2 ⟨rfl, hw2, hq2⟩
    go_wp2
    go_ret
    exact ⟨rfl, (Wr.of_below hbW).trans hw2, hq2⟩
  · have hn := hP.n (by omega)
    obtain ⟨bc, zs, hvC, _, _⟩ := h.colsAt hn.1
    by_cases h1 : i = 1
    · subst h1
      have HC := hide (step_max l hl gp w.heap.size p vC vR _ hDW hn (List.eq_nil_of_length_eq_zero (by have := hP.g; omega)))
      clear hDW h hP
      go_enter Tryz.func148, Tryz.ntmps148
      go_wp2_with fail
      refine HC.out.mono ?_
      rintro e w2 ⟨rfl, hw2, hq2⟩
      go_wp2
      go_ret
      exact ⟨rfl, (Wr.of_below hbW).trans hw2, hq2⟩
    · rw [hvC] at d0
      have ec : ((i + 1 : Nat) : Int) = (i : Int) + 1 := by simp
      rw [ec] at hbW hDW d0 d1 d2 d3 d4 hBW
      have HN := hide (fun (W : World) (hW : W.cell? ⟨gp, 0, none⟩ = some (.slice (some ⟨bc, 0, none⟩) p.n p.n)) => needed_any gp p.n _ _ W hW (by omega))
      have hDW := hDW.keep (Keep.drew 0 _)
      have hbW := below_drewD hbW
      have hBW := hbW.size
      have hi1 : ¬ (i : Int) + 1 = 1 := by omega
      have hi2 : ¬ (i : Int) + 1 = 2 := by omega
      by_cases h2 : i ≤ 1 + p.n
      · have HC := hide (step_range i l hl gp w.heap.size p vC vR _ hDW hn (by omega) h2 (by have := hP.g; omega))
        have h2i : (i : Int) + 1 ≤ 2 + (p.n : Int) := by omega
        have hsub : ((i - 2 : Nat) : Int) = (i : Int) + 1 - 2 - 1 := by omega
        rw [hsub] at HC
        clear hDW h hP hsub ec
        go_enter Tryz.func148, Tryz.ntmps148
        go_wp2_with fail
        go_region_with (go_at_call 149; refine (HN.out _ (by exact d0)).mono ?_; rintro e w2 ⟨rfl, rfl⟩)
        all_goals go_wp2_with fail
        all_goals refine HC.out.mono ?_
        all_goals rintro e w2 ⟨rfl, hw2, hq2⟩
        all_goals go_wp2
        all_goals go_ret
        all_goals exact ⟨rfl, (Wr.of_below hbW).trans hw2, hq2⟩
      · have h2i : ¬ (i : Int) + 1 ≤ 2 + (p.n : Int) := by omega
        subst hvR
        by_cases h6 : p.rows.length < 6
        · have HC := hide (step_row i l hl gp w.heap.size p vC _ _ hDW hn (by omega) h2 h6 hBW)
          have h6i : (p.rows.length : Int) < 6 := by omega
          clear hDW h hP ec
          go_enter Tryz.func148, Tryz.ntmps148
          go_wp2_with fail
          go_region_with (go_at_call 149; refine (HN.out _ (by exact d0)).mono ?_; rintro e w2 ⟨rfl, rfl⟩)
          all_goals go_wp2_with fail
          all_goals refine HC.out.mono ?_
          all_goals rintro e w2 ⟨rfl, hw2, hq2⟩
          all_goals go_wp2
          all_goals go_ret
          all_goals exact ⟨rfl, (Wr.of_below hbW).trans hw2, hq2⟩
        · have ht : takeS i p (words l) = .none := by
            unfold takeS
            rw [if_neg h0, if_neg h1, if_neg h2, if_neg (fun hh => h6 hh.1)]
          have HT := hide ht
          have h6i : ¬ (p.rows.length : Int) < 6 := by omega
          clear hDW h hP ec ht
          go_enter Tryz.func148, Tryz.ntmps148
          go_wp2_with fail
          go_region_with (go_at_call 149; refine (HN.out _ (by exact d0)).mono ?_; rintro e w2 ⟨rfl, rfl⟩)
          all_goals go_wp2
          all_goals go_ret
          all_goals rw [HT.out]
          all_goals exact ⟨rfl, Wr.of_below hbW, fun q hq => by cases hq⟩
end Go.Proofs.YtnhfdcfnojnofaaGreatDoor

/-
  The program's own problem stays where other cells are written; the lines of a text as values (package problem).
-/
namespace Go.Proofs.YtnhfdcfnojnofaaGreatDoor
open Go.RowKit

theorem Whs.set_int {w : World} {b g : Nat} {zs : List Int} {z z' : Int} (h : Whs w b zs) (hy : w.cell? ⟨g, 0, none⟩ = some (.int .i64 z)) : Whs (w.setCell ⟨g, 0, none⟩ (.int .i64 z')) b zs := by
  by_cases hg : g = b
  · subst hg
    refine ⟨h.1.setCell hy (by simp), fun j hj => ?_⟩
    obtain ⟨x, ao, l, c, h1, _⟩ := h.2 0 (by omega)
    rw [Nat.mul_zero, hy] at h1
    cases h1
  · exact h.setCell (a := ⟨g, 0, none⟩) hy (by simp) hg _

/-- Another cell, of a number, is written. -/
theorem DQ.set_int {w : World} {gp g : Nat} {p : Prob} {vC vR : Value} {z z' : Int} (h : DQ w gp p vC vR) (hg : ¬ Own gp vC vR g) (hy : w.cell? ⟨g, 0, none⟩ = some (.int .i64 z)) : DQ (w.setCell ⟨g, 0, none⟩ (.int .i64 z')) gp p vC vR := by
  have hgp : gp ≠ g := fun e => hg (Or.inl e.symm)
  have same : ∀ k, k ≠ g → (w.setCell ⟨g, 0, none⟩ (.int .i64 z')).heap[k]? = w.heap[k]? := fun k hk => Below.heap_setCell _ _ _ _ hk
  refine ⟨h.box.same (same gp hgp) (by simp), h.nodP.same (same gp hgp), ?_, fun k hk => ⟨(h.nodR k hk).1.same (same k (fun e => hg (e ▸ Or.inr (Or.inr hk)))), (h.nodR k hk).2⟩, ?_⟩
  · rcases h.cols with h1 | ⟨bc, zs, h1, h2, h3, h4⟩
    · exact Or.inl h1
    · exact Or.inr ⟨bc, zs, h1, h2, h3.set_int hy, h4⟩
  · obtain ⟨rs, h1, h2, h3⟩ := h.rows
    refine ⟨rs, h1, owns_eq h2 (fun k hk => same k (fun e => hg (e ▸ Or.inr (Or.inr hk)))), fun i r row a b => ?_⟩
    obtain ⟨q1, q2, q3, q4, q5⟩ := h3 i r row a b
    exact ⟨q1, q2, q3.set_int hy, q4, q5.setCell hy (by simp) _⟩

theorem Whs.set_other {w : World} {b g j : Nat} {zs : List Int} {y y0 v : Value} (h : Whs w b zs) (hy : w.cell? ⟨g, j, none⟩ = some y) (hn : ∀ n, y ≠ .int .u32 n) (hv : ∀ n, v ≠ .int .u32 n) (h0 : w.cell? ⟨g, 0, none⟩ = some y0) (hb : ∀ x, y0 ≠ .bool x) : Whs (w.setCell ⟨g, j, none⟩ v) b zs := by
  by_cases hg : g = b
  · subst hg
    refine ⟨h.1.setCell hy hv, fun i hi => ?_⟩
    obtain ⟨x, ao, l, c, h1, _⟩ := h.2 0 (by omega)
    rw [Nat.mul_zero, h0] at h1
    injection h1 with h1
    exact absurd h1 (hb x)
  · exact h.setCell (a := ⟨g, j, none⟩) hy hn hg _

/-- Another cell is written. -/
theorem DQ.set_other {w : World} {gp g j : Nat} {p : Prob} {vC vR y y0 v : Value} (h : DQ w gp p vC vR) (hg : ¬ Own gp vC vR g) (hy : w.cell? ⟨g, j, none⟩ = some y) (hn : ∀ n, y ≠ .int .u32 n) (hv : ∀ n, v ≠ .int .u32 n) (h0 : w.cell? ⟨g, 0, none⟩ = some y0) (hb : ∀ x, y0 ≠ .bool x) : DQ (w.setCell ⟨g, j, none⟩ v) gp p vC vR := by
  have hgp : gp ≠ g := fun e => hg (Or.inl e.symm)
  have same : ∀ k, k ≠ g → (w.setCell ⟨g, j, none⟩ v).heap[k]? = w.heap[k]? := fun k hk => Below.heap_setCell _ _ _ _ hk
  refine ⟨h.box.same (same gp hgp) (by simp), h.nodP.same (same gp hgp), ?_, fun k hk => ⟨(h.nodR k hk).1.same (same k (fun e => hg (e ▸ Or.inr (Or.inr hk)))), (h.nodR k hk).2⟩, ?_⟩
  · rcases h.cols with h1 | ⟨bc, zs, h1, h2, h3, h4⟩
    · exact Or.inl h1
    · exact Or.inr ⟨bc, zs, h1, h2, h3.set_other hy hn hv h0 hb, h4⟩
  · obtain ⟨rs, h1, h2, h3⟩ := h.rows
    refine ⟨rs, h1, owns_eq h2 (fun k hk => same k (fun e => hg (e ▸ Or.inr (Or.inr hk)))), fun i r row a b => ?_⟩
    obtain ⟨q1, q2, q3, q4, q5⟩ := h3 i r row a b
    exact ⟨q1, q2, q3.set_other hy hn hv h0 hb, q4, q5.setCell hy hn _⟩

theorem DQ.lt {w : World} {gp : Nat} {p : Prob} {vC vR : Value} (h : DQ w gp p vC vR) : ∀ k, Own gp vC vR k → k < w.heap.size := by
  intro k hk
  rcases hk with e | e | e
  · rw [e]; exact h.box.2.2.2.2
  · rcases h.cols with ⟨_, h2⟩ | ⟨bc, zs, h2, _, h3, _⟩
    · rw [h2] at e; cases e
    · rw [h2] at e
      simp [Value.ownBlock] at e
      rw [← e]
      exact h3.lt
  · obtain ⟨rs, _, h2, _⟩ := h.rows
    exact (h2.lt k e).2

theorem lineVs_get {LL : List (List UInt8 × Bool)} : ∀ {j k : Nat} {v : Array Value}, (lineVs j LL)[k]? = some v → ∃ x last, LL[k]? = some x ∧ v = lineV (j + k) x last := by
  induction LL with
  | nil => intro j k v h; simp [lineVs] at h
  | cons y r ih =>
    intro j k v h
    cases k with
    | zero =>
      simp [lineVs] at h
      exact ⟨y, _, by simp, h.symm⟩
    | succ k =>
      rw [lineVs, List.getElem?_cons_succ] at h
      obtain ⟨x, last, h1, h2⟩ := ih h
      exact ⟨x, last, by simpa using h1, by rw [h2, show j + 1 + k = j + (k + 1) by omega]⟩

theorem readS_at' {LL : List (List UInt8 × Bool)} {i : Nat} {p : Prob} {y : List UInt8 × Bool} (hy : LL[i]? = some y) : readS i p (LL.drop i) = if y.2 = false then .error (i + 1) else match takeS i p (words y.1) with | .none => .error (i + 1) | some q => readS (i + 1) q (LL.drop (i + 1)) := by
  obtain ⟨hlt, he⟩ := List.getElem?_eq_some_iff.1 hy
  rw [List.drop_eq_getElem_cons hlt, he, readS]
  rfl

theorem lines_sz (s : List UInt8) (k : Nat) (x : List UInt8 × Bool) (h : (lines s)[k]? = some x) : x.1.length ≤ s.length := (linesF_len s.length s).2 x (List.mem_of_getElem? h)
end Go.Proofs.YtnhfdcfnojnofaaGreatDoor

/-
  What readLines does (package problem).
-/
namespace Go.Proofs.YtnhfdcfnojnofaaGreatDoor
open Go.RowKit
attribute [local go_sem] Oper.semAt_some wide_depth wide_fn

/-- What holds when k lines are read; R: the first of the call's own blocks: two results, the problem, the next line's number, the text. -/
def RdI (w : World) (LL : List (List UInt8 × Bool)) (k : Nat) (p : Prob) (vC vR : Value) (A : World) : Prop :=
  DQ A (w.heap.size + 1 + 1) p vC vR ∧ PrOk k p ∧ readS 0 Prob.none LL = readS k p (LL.drop k) ∧ A.cell? ⟨w.heap.size + 1 + 1 + 1, 0, none⟩ = some (.int .i64 ((k : Int) + 1)) ∧ A.frozen? ⟨w.heap.size + 1 + 1 + 1, 0, none⟩ = false ∧
    Box2 A w.heap.size (.slice none 0 0) (.slice none 0 0) ∧ A.cell? ⟨w.heap.size + 1, 0, none⟩ = some (.int .i64 0) ∧ A.frozen? ⟨w.heap.size + 1, 0, none⟩ = false ∧ Below w.heap.size w A ∧ (∀ x, Own (w.heap.size + 1 + 1) vC vR x → x = w.heap.size + 1 + 1 ∨ w.heap.size + 1 + 1 + 1 + 1 < x) ∧ w.heap.size + 1 + 1 + 1 + 1 < A.heap.size

theorem RdI.keep {C : Nat} {w A A' : World} {LL : List (List UInt8 × Bool)} {k : Nat} {p : Prob} {vC vR : Value} (h : RdI w LL k p vC vR A) (hk : Keep C A A') (hC : w.heap.size ≤ C) : RdI w LL k p vC vR A' := by
  obtain ⟨h1, h2, h3, h4, h5, h6, h7, h8, h9, h10, h11⟩ := h
  exact ⟨h1.keep hk, h2, h3, hk.cell h4, (hk.frozen h4).trans h5, h6.keep hk, hk.cell h7, (hk.frozen h7).trans h8, hk.below h9 hC (Nat.le_refl _), h10, Nat.lt_of_lt_of_le h11 hk.size⟩

theorem RdI.step {w A2 A3 : World} {LL : List (List UInt8 × Bool)} {k : Nat} {p q : Prob} {vC vR vC' vR' : Value} {y : List UInt8 × Bool} (h : RdI w LL k p vC vR A2) (hw : Wr (Own (w.heap.size + 1 + 1) vC vR) A2 A3) (hD : DQ A3 (w.heap.size + 1 + 1) q vC' vR') (ho : ∀ x, Own (w.heap.size + 1 + 1) vC' vR' x → Own (w.heap.size + 1 + 1) vC vR x ∨ A2.heap.size ≤ x)
    (hy : LL[k]? = some y) (hy2 : y.2 = true) (ht : takeS k p (words y.1) = some q) :
    A3.cell? ⟨w.heap.size + 1 + 1 + 1, 0, none⟩ = some (.int .i64 ((k : Int) + 1)) ∧ A3.frozen? ⟨w.heap.size + 1 + 1 + 1, 0, none⟩ = false ∧ Hid (RdI w LL (k + 1) q vC' vR' (A3.setCell ⟨w.heap.size + 1 + 1 + 1, 0, none⟩ (.int .i64 ((k : Int) + 1 + 1)))) := by
  obtain ⟨h1, h2, h3, h4, h5, h6, h7, h8, h9, h10, h11⟩ := h
  have hA : w.heap.size + 1 + 1 + 1 < A2.heap.size := block_lt_of_cell h4
  have hno : ∀ x, x ≤ w.heap.size + 1 + 1 + 1 + 1 → x ≠ w.heap.size + 1 + 1 → ¬ Own (w.heap.size + 1 + 1) vC vR x := fun x hx hn e => by rcases h10 x e with e | e <;> omega
  have c4 := hw.cell (p := ⟨w.heap.size + 1 + 1 + 1, 0, none⟩) (hno _ (by simp) (by simp)) h4
  have c5 := (hw.frozen (p := ⟨w.heap.size + 1 + 1 + 1, 0, none⟩) (hno _ (by simp) (by simp)) (block_lt_of_cell h4)).trans h5
  have c6 : Box2 A3 w.heap.size (.slice none 0 0) (.slice none 0 0) := h6.same (hw.block _ h6.2.2.2.2 (hno _ (by omega) (by omega))) hw.size
  have c7 := hw.cell (p := ⟨w.heap.size + 1, 0, none⟩) (hno _ (by simp) (by simp)) h7
  have c8 := (hw.frozen (p := ⟨w.heap.size + 1, 0, none⟩) (hno _ (by simp) (by simp)) (block_lt_of_cell h7)).trans h8
  have ho2 : ∀ x, Own (w.heap.size + 1 + 1) vC' vR' x → x = w.heap.size + 1 + 1 ∨ w.heap.size + 1 + 1 + 1 + 1 < x := fun x hx => by
    rcases ho x hx with e | e
    · exact h10 x e
    · omega
  refine ⟨c4, c5, hD.set_int (fun e => by rcases ho2 _ e with e | e <;> omega) c4, h2.step ht, ?_, ?_, by simpa using c5, ?_, ?_, by simpa using c8, ?_, ho2, by have := hw.size; simp; omega⟩
  · rw [h3, readS_at' hy, if_neg (by rw [hy2]; simp), ht]
  · rw [World.cell?_setCell_same _ _ _ c4]
    simp
  · exact c6.same (Below.heap_setCell _ _ _ _ (by simp <;> omega)) (by simp)
  · rw [World.cell?_setCell_far _ _ _ _ (by simp <;> omega)]
    exact c7
  · have hb3 : Below w.heap.size A2 A3 := hw.below h9.size (fun x e => by rcases h10 x e with e | e <;> omega)
    exact (h9.trans hb3).setCell (p := ⟨w.heap.size + 1 + 1 + 1, 0, none⟩) (by simp; omega) _
end Go.Proofs.YtnhfdcfnojnofaaGreatDoor
