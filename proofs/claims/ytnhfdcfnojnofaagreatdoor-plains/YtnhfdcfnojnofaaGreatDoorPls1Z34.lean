/-
  Part 34 of the texts ahead of Pls1: Ts8, Ts9, Ts10.
-/
import Derived.Test.YtnhfdcfnojnofaaGreatDoorPls1Z33
import Derived.Deep.RegionHeld3
import Derived.Deep.RegionLaw
set_option linter.unusedSimpArgs false
set_option linter.unusedVariables false
/-
  A problem of the document's own as it lies in memory: its lists grow.
-/
namespace Go.Proofs.YtnhfdcfnojnofaaGreatDoor.T
open Go.RowKit

/-- Lo has grown by one, and lies in its field. -/
theorem RQ.growLo {W1 w w' : World} {gp n g cap : Nat} {mx lo hi : List Int} {vM vL vH vC : Value} {ts : List Tri} {x : Tri} {z : Int} (h : RQ W1 w gp n mx lo hi [] vM vL vH vC) (hts : ts.length = (lo.map fun z => (z, (1 : Nat))).length)
    (hn : ∀ (i : Nat) (t : Tri) (z : Int × Nat), ts[i]? = some t → (lo.map fun z => (z, 1))[i]? = some z → NumV w t.val z.1 z.2) (hx : NumV w x.val z 1)
    (hown : w'.ownsRow W1.heap.size 118 3 (.slice (some ⟨g, 0, none⟩) (ts.length + 1) cap) (ts.length + 1) (triCells ts ++ x.cells)) (hg : w.grownBy w' vL.ownBlock) (hat : vL.ownBlock = some g ∨ g = w.heap.size) :
    RQ W1 (w'.setCell ⟨gp, 2, none⟩ (.slice (some ⟨g, 0, none⟩) (ts.length + 1) cap)) gp n mx (lo ++ [z]) hi [] vM (.slice (some ⟨g, 0, none⟩) (ts.length + 1) cap) vH vC := by
  have hk := Kept.of_grown hg h.noKindL
  have hgp : w'.heap[gp]? = w.heap[gp]? := hg.block gp h.gpw (fun e => by have := (h.lo.lt gp e.symm).1; have := h.lt; omega)
  have hkgp : ¬ Kind w' gp := by
    rintro ⟨c, fr, hc⟩
    exact h.kind ⟨c, fr, hgp.symm.trans hc⟩
  have hk2 : Kept w' (w'.setCell ⟨gp, 2, none⟩ (.slice (some ⟨g, 0, none⟩) (ts.length + 1) cap)) := Kept.of_setCell (a := ⟨gp, 2, none⟩) hkgp _
  have hne : ∀ k, W1.heap.size ≤ k → (w'.setCell ⟨gp, 2, none⟩ (.slice (some ⟨g, 0, none⟩) (ts.length + 1) cap)).heap[k]? = w'.heap[k]? := fun k hk => Below.heap_setCell _ _ _ _ (by have := h.lt; simp; omega)
  have old : ∀ k, k < w.heap.size → vL.ownBlock ≠ some k → w'.heap[k]? = w.heap[k]? := fun k hk e => hg.block k hk (fun e2 => e e2.symm)
  have hBg : W1.heap.size ≤ g := (owns_lt hown g rfl).1
  refine ⟨h.lt, kind_setCell hkgp, (wr_grown h.wr hg (fun g hgo => (h.lo.lt g hgo).1)).setCell (p := ⟨gp, 2, none⟩) rfl _, (h.box.same hgp).set2 _, ?_, h.mxB, ?_, ?_, ?_, ?_, h.sepH, h.sepC⟩
  · have hM := h.mx.kept hk (fun k hk' => old k (h.mx.lt k hk') (fun e => (h.sepL k e).1 hk'))
    exact hM.kept hk2 (fun k hk' => hne k (h.mxB k hk'))
  · refine OwnNums.kept ⟨ts ++ [x], ?_, ?_, ?_⟩ hk2 (fun k hk' => hne k ?_)
    · simp at hts ⊢; omega
    · rw [List.length_append, List.length_singleton]
      have e : triCells ts ++ x.cells = triCells (ts ++ [x]) := by simp [triCells]
      rw [← e]; exact hown
    · rw [List.map_append, List.map_cons, List.map_nil]
      exact tri_snoc hts (fun i t y h1 h2 => (hn i t y h1 h2).kept hk) (hx.kept hk)
    · simp [Value.ownBlock] at hk'; omega
  · have hH := h.hi.kept hk (fun k hk' => old k (h.hi.lt k hk').2 (fun e => (h.sepL k e).2 hk'))
    exact hH.kept hk2 (fun k hk' => hne k (h.hi.lt k hk').1)
  · obtain ⟨cs, hl, ho, hc⟩ := h.cs
    have hl0 : cs = [] := List.eq_nil_of_length_eq_zero (by simpa using hl)
    subst hl0
    refine ⟨[], rfl, ?_, fun i c r h1 h2 => by simp at h1⟩
    obtain ⟨h0, h1 | ⟨g2, cap2, cur, hv, hb, hh, hn2, h4, h5, h6⟩⟩ := ho
    · exact ⟨h0, Or.inl h1⟩
    · have hg2 : g2 < w.heap.size := (Array.getElem?_eq_some_iff.1 hh).1
      refine ⟨h0, Or.inr ⟨g2, cap2, cur, hv, hb, ((hne g2 hb).trans (old g2 hg2 ?_)).trans hh, hn2, h4, h5, h6⟩⟩
      intro e
      obtain ⟨ts2, _, ho2, _⟩ := h.lo
      obtain ⟨_, k1 | ⟨g3, cap3, cur3, kv, kb, kh, _⟩⟩ := ho2
      · rw [k1.1] at e; cases e
      · rw [kv] at e
        simp [Value.ownBlock] at e
        subst e
        rw [hh] at kh
        simp at kh
  · intro k hk'
    simp [Value.ownBlock] at hk'
    subst hk'
    rcases hat with e | e
    · exact h.sepL g e
    · subst e
      exact ⟨fun e => by have := h.mx.lt _ e; omega, fun e => by have := (h.hi.lt _ e).2; omega⟩
/-- Hi has grown by one, and lies in its field. -/
theorem RQ.growHi {W1 w w' : World} {gp n g cap : Nat} {mx lo hi : List Int} {vM vL vH vC : Value} {ts : List Tri} {x : Tri} {z : Int} (h : RQ W1 w gp n mx lo hi [] vM vL vH vC) (hts : ts.length = (hi.map fun z => (z, (1 : Nat))).length)
    (hn : ∀ (i : Nat) (t : Tri) (z : Int × Nat), ts[i]? = some t → (hi.map fun z => (z, 1))[i]? = some z → NumV w t.val z.1 z.2) (hx : NumV w x.val z 1)
    (hown : w'.ownsRow W1.heap.size 118 3 (.slice (some ⟨g, 0, none⟩) (ts.length + 1) cap) (ts.length + 1) (triCells ts ++ x.cells)) (hg : w.grownBy w' vH.ownBlock) (hat : vH.ownBlock = some g ∨ g = w.heap.size) :
    RQ W1 (w'.setCell ⟨gp, 3, none⟩ (.slice (some ⟨g, 0, none⟩) (ts.length + 1) cap)) gp n mx lo (hi ++ [z]) [] vM vL (.slice (some ⟨g, 0, none⟩) (ts.length + 1) cap) vC := by
  have hk := Kept.of_grown hg h.noKindH
  have hgp : w'.heap[gp]? = w.heap[gp]? := hg.block gp h.gpw (fun e => by have := (h.hi.lt gp e.symm).1; have := h.lt; omega)
  have hkgp : ¬ Kind w' gp := by
    rintro ⟨c, fr, hc⟩
    exact h.kind ⟨c, fr, hgp.symm.trans hc⟩
  have hk2 : Kept w' (w'.setCell ⟨gp, 3, none⟩ (.slice (some ⟨g, 0, none⟩) (ts.length + 1) cap)) := Kept.of_setCell (a := ⟨gp, 3, none⟩) hkgp _
  have hne : ∀ k, W1.heap.size ≤ k → (w'.setCell ⟨gp, 3, none⟩ (.slice (some ⟨g, 0, none⟩) (ts.length + 1) cap)).heap[k]? = w'.heap[k]? := fun k hk => Below.heap_setCell _ _ _ _ (by have := h.lt; simp; omega)
  have old : ∀ k, k < w.heap.size → vH.ownBlock ≠ some k → w'.heap[k]? = w.heap[k]? := fun k hk e => hg.block k hk (fun e2 => e e2.symm)
  have hBg : W1.heap.size ≤ g := (owns_lt hown g rfl).1
  refine ⟨h.lt, kind_setCell hkgp, (wr_grown h.wr hg (fun g hgo => (h.hi.lt g hgo).1)).setCell (p := ⟨gp, 3, none⟩) rfl _, (h.box.same hgp).set3 _, ?_, h.mxB, ?_, ?_, ?_, ?_, ?_, h.sepC⟩
  · have hM := h.mx.kept hk (fun k hk' => old k (h.mx.lt k hk') (fun e => h.sepH k e hk'))
    exact hM.kept hk2 (fun k hk' => hne k (h.mxB k hk'))
  · have hL := h.lo.kept hk (fun k hk' => old k (h.lo.lt k hk').2 (fun e => (h.sepL k hk').2 e))
    exact hL.kept hk2 (fun k hk' => hne k (h.lo.lt k hk').1)
  · refine OwnNums.kept ⟨ts ++ [x], ?_, ?_, ?_⟩ hk2 (fun k hk' => hne k ?_)
    · simp at hts ⊢; omega
    · rw [List.length_append, List.length_singleton]
      have e : triCells ts ++ x.cells = triCells (ts ++ [x]) := by simp [triCells]
      rw [← e]; exact hown
    · rw [List.map_append, List.map_cons, List.map_nil]
      exact tri_snoc hts (fun i t y h1 h2 => (hn i t y h1 h2).kept hk) (hx.kept hk)
    · simp [Value.ownBlock] at hk'; omega
  · obtain ⟨cs, hl, ho, hc⟩ := h.cs
    have hl0 : cs = [] := List.eq_nil_of_length_eq_zero (by simpa using hl)
    subst hl0
    refine ⟨[], rfl, ?_, fun i c r h1 h2 => by simp at h1⟩
    obtain ⟨h0, h1 | ⟨g2, cap2, cur, hv, hb, hh, hn2, h4, h5, h6⟩⟩ := ho
    · exact ⟨h0, Or.inl h1⟩
    · have hg2 : g2 < w.heap.size := (Array.getElem?_eq_some_iff.1 hh).1
      refine ⟨h0, Or.inr ⟨g2, cap2, cur, hv, hb, ((hne g2 hb).trans (old g2 hg2 ?_)).trans hh, hn2, h4, h5, h6⟩⟩
      intro e
      obtain ⟨ts2, _, ho2, _⟩ := h.hi
      obtain ⟨_, k1 | ⟨g3, cap3, cur3, kv, kb, kh, _⟩⟩ := ho2
      · rw [k1.1] at e; cases e
      · rw [kv] at e
        simp [Value.ownBlock] at e
        subst e
        rw [hh] at kh
        simp at kh
  · intro k hk'
    refine ⟨(h.sepL k hk').1, fun e => ?_⟩
    simp [Value.ownBlock] at e
    subst e
    rcases hat with e | e
    · exact (h.sepL _ hk').2 e
    · have := (h.lo.lt _ hk').2; omega
  · intro k hk'
    simp [Value.ownBlock] at hk'
    subst hk'
    rcases hat with e | e
    · exact h.sepH g e
    · subst e
      exact fun e => by have := h.mx.lt _ e; omega

/-- The conditions have grown by one, and lie in their field. -/
theorem RQ.growCs {W1 w w' : World} {gp n g cap : Nat} {mx lo hi : List Int} {rows : List (List Int × List UInt8 × Int)} {r : List Int × List UInt8 × Int} {vM vL vH vC : Value} {cs : List CondV} {x : CondV} (h : RQ W1 w gp n mx lo hi rows vM vL vH vC) (hcl : cs.length = rows.length)
    (hn : ∀ (i : Nat) (c : CondV) (r : List Int × List UInt8 × Int), cs[i]? = some c → rows[i]? = some r → CondIs W1.heap.size w vC c r) (hx : CondIs W1.heap.size w vC x r)
    (hown : w'.ownsRow W1.heap.size 206 5 (.slice (some ⟨g, 0, none⟩) (cs.length + 1) cap) (cs.length + 1) (condCells cs ++ x.cells)) (hg : w.grownBy w' vC.ownBlock) (hat : vC.ownBlock = some g ∨ g = w.heap.size) :
    RQ W1 (w'.setCell ⟨gp, 4, none⟩ (.slice (some ⟨g, 0, none⟩) (cs.length + 1) cap)) gp n mx lo hi (rows ++ [r]) vM vL vH (.slice (some ⟨g, 0, none⟩) (cs.length + 1) cap) := by
  have hk := Kept.of_grown hg h.noKindC
  have hgp : w'.heap[gp]? = w.heap[gp]? := hg.block gp h.gpw (fun e => by have := (h.cs.lt gp e.symm).1; have := h.lt; omega)
  have hkgp : ¬ Kind w' gp := by
    rintro ⟨c, fr, hc⟩
    exact h.kind ⟨c, fr, hgp.symm.trans hc⟩
  have hk2 : Kept w' (w'.setCell ⟨gp, 4, none⟩ (.slice (some ⟨g, 0, none⟩) (cs.length + 1) cap)) := Kept.of_setCell (a := ⟨gp, 4, none⟩) hkgp _
  have hne : ∀ k, W1.heap.size ≤ k → (w'.setCell ⟨gp, 4, none⟩ (.slice (some ⟨g, 0, none⟩) (cs.length + 1) cap)).heap[k]? = w'.heap[k]? := fun k hk => Below.heap_setCell _ _ _ _ (by have := h.lt; simp; omega)
  have old : ∀ k, k < w.heap.size → vC.ownBlock ≠ some k → w'.heap[k]? = w.heap[k]? := fun k hk e => hg.block k hk (fun e2 => e e2.symm)
  have hBg : W1.heap.size ≤ g := (owns_lt hown g rfl).1
  have typ : ∀ k, vC.ownBlock = some k → ∃ c, w.heap[k]? = some (.cells c 206 (0, 0)) := by
    intro k e
    obtain ⟨cs2, _, ho2, _⟩ := h.cs
    obtain ⟨_, k1 | ⟨g3, cap3, cur3, kv, kb, kh, _⟩⟩ := ho2
    · rw [k1.1] at e; cases e
    · rw [kv] at e
      simp [Value.ownBlock] at e
      subst e
      exact ⟨_, kh⟩
  have notC : ∀ {B e size n : Nat} {v : Value} {xs : List Value}, w.ownsRow B e size v n xs → e ≠ 206 → ∀ k, v.ownBlock = some k → vC.ownBlock ≠ some k := by
    intro B e size n v xs ho he k hv e2
    obtain ⟨c, hc⟩ := typ k e2
    obtain ⟨_, k1 | ⟨g3, cap3, cur3, kv, kb, kh, _⟩⟩ := ho
    · rw [k1.1] at hv; cases hv
    · rw [kv] at hv
      simp [Value.ownBlock] at hv
      subst hv
      rw [hc] at kh
      simp at kh
      first | exact he kh.symm | exact he kh.2.1.symm | exact he kh.2.symm
  have one : ∀ {c : CondV} {r : List Int × List UInt8 × Int}, CondIs W1.heap.size w vC c r → CondIs W1.heap.size (w'.setCell ⟨gp, 4, none⟩ (.slice (some ⟨g, 0, none⟩) (cs.length + 1) cap)) (.slice (some ⟨g, 0, none⟩) (cs.length + 1) cap) c r := by
    rintro c r ⟨a1, a2, a3, a4⟩
    refine ⟨(a1.kept hk (fun k hk' => old k (a1.lt k hk') (a2 k hk').2)).kept hk2 (fun k hk' => hne k (a2 k hk').1), fun k hk' => ⟨(a2 k hk').1, fun e => ?_⟩, a3, (a4.kept hk).kept hk2⟩
    simp [Value.ownBlock] at e
    subst e
    rcases hat with e | e
    · exact (a2 _ hk').2 e
    · have := a1.lt _ hk'; omega
  refine ⟨h.lt, kind_setCell hkgp, (wr_grown h.wr hg (fun g hgo => (h.cs.lt g hgo).1)).setCell (p := ⟨gp, 4, none⟩) rfl _, (h.box.same hgp).set4 _, ?_, h.mxB, ?_, ?_, ?_, h.sepL, h.sepH, ?_⟩
  · have hM := h.mx.kept hk (fun k hk' => old k (h.mx.lt k hk') (fun e => h.sepC k e hk'))
    exact hM.kept hk2 (fun k hk' => hne k (h.mxB k hk'))
  · obtain ⟨ts, hl, ho, hn'⟩ := h.lo
    have hL := OwnNums.kept ⟨ts, hl, ho, hn'⟩ hk (fun k hk' => old k (h.lo.lt k hk').2 (notC ho (by decide) k hk'))
    exact hL.kept hk2 (fun k hk' => hne k (h.lo.lt k hk').1)
  · obtain ⟨ts, hl, ho, hn'⟩ := h.hi
    have hL := OwnNums.kept ⟨ts, hl, ho, hn'⟩ hk (fun k hk' => old k (h.hi.lt k hk').2 (notC ho (by decide) k hk'))
    exact hL.kept hk2 (fun k hk' => hne k (h.hi.lt k hk').1)
  · refine ⟨cs ++ [x], by simp; omega, ?_, fun i c r' h1 h2 => ?_⟩
    · rw [List.length_append, List.length_singleton]
      have e : condCells cs ++ x.cells = condCells (cs ++ [x]) := by simp [condCells]
      rw [← e]
      exact owns_same hown (by simp) (fun k hk' => hne k (by simp [Value.ownBlock] at hk'; omega))
    · by_cases hi : i < cs.length
      · rw [List.getElem?_append_left hi] at h1
        rw [List.getElem?_append_left (by omega)] at h2
        exact one (hn i c r' h1 h2)
      · have hie : i = cs.length := by
          have := (List.getElem?_eq_some_iff.1 h1).1
          simp at this
          omega
        subst hie
        rw [List.getElem?_append_right (Nat.le_refl _), Nat.sub_self] at h1
        rw [hcl, List.getElem?_append_right (Nat.le_refl _), Nat.sub_self] at h2
        simp at h1 h2
        subst h1 h2
        exact one hx
  · intro k hk'
    simp [Value.ownBlock] at hk'
    subst hk'
    rcases hat with e | e
    · exact h.sepC g e
    · subst e
      exact fun e => by have := h.mx.lt _ e; omega
end Go.Proofs.YtnhfdcfnojnofaaGreatDoor.T

/-
  What the document's own take does (package planesref).
-/
namespace Go.Proofs.YtnhfdcfnojnofaaGreatDoor.T
open Go.RowKit

set_option maxHeartbeats 1000000 in
set_option maxRecDepth 100000 in
theorem take_vars (W1 w : World) (gp : Nat) (v : Value) (ls : List ByteArray) (vM vL vH vC : Value) (h : RQ W1 w gp 0 [] [] [] [] vM vL vH vC) (hv : Sv w v ls) (hn : ls.length ≤ 1000000) (hsz : ∀ l ∈ ls, l.size ≤ 1000000000) :
    Calls Tryz.prog 112 #[.pointer (some ⟨gp, 0, none⟩), .int .i64 0, v] w fun e w' => e = .returned (.bool (decide (0 < varsN (ls.map fun l => l.data.toList)))) ∧ RQ W1 w' gp (varsN (ls.map fun l => l.data.toList)) [] [] [] [] vM vL vH vC := by
  obtain ⟨h0, h1, h2, h3, h4, f0, f1, f2, f3, f4⟩ := h.box
  have hv0 := hv
  obtain ⟨ao, cap, rfl⟩ := hv.shape
  have HV := hide (fun W (hW : Sv W (.slice ao ls.length cap) ls) => vars_any W _ ls hW hn hsz)
  obtain ⟨N, hN⟩ : ∃ N, varsN (ls.map fun l => l.data.toList) = N := ⟨_, rfl⟩
  rw [hN] at HV ⊢
  have hr := h.setN N
  go_enter Tryz.func112, Tryz.ntmps112
  go_wp2_with fail
  refine (HV.out _ hv0).mono ?_
  rintro e w' ⟨rfl, rfl⟩
  go_wp2
  go_ret
  exact ⟨ret_bool (by simp), hr⟩

/-- A part of a list of texts. -/
theorem Sv.part {w : World} {g off cap l : Nat} {ls : List ByteArray} (h : Sv w (.slice (some ⟨g, off, none⟩) l cap) ls) (i n c : Nat) (hin : i + n ≤ ls.length) (hc : n ≤ c) (hi : 0 < n → True) : Sv w (.slice (some ⟨g, off + i, none⟩) n c) ((ls.drop i).take n) := by
  rcases h with ⟨h, rfl⟩ | ⟨g', off', cap', h1, h2, h3, h4⟩
  · simp at h
  · simp only [Value.slice.injEq, Option.some.injEq, Addr.mk.injEq] at h1
    obtain ⟨⟨rfl, rfl, _⟩, _, _⟩ := h1
    have hl : ((ls.drop i).take n).length = n := by simp; omega
    refine Or.inr ⟨g, off + i, c, by rw [hl], by rw [hl]; exact hc, h3, fun j hj => ?_⟩
    rw [hl] at hj
    have := h4 (i + j) (by omega)
    rw [Nat.add_assoc, this]
    congr 2
    simp [List.getD_eq_getElem?_getD, List.getElem?_take, hj]

/-- What a part of a list is as a slice, whatever room is left. -/
theorem Sv.tail1 {w : World} {g off cap l : Nat} {ls : List ByteArray} (h : Sv w (.slice (some ⟨g, off, none⟩) l cap) ls) (n : Nat) (hn : 1 + n ≤ ls.length) :
    (cap ≠ 1 → Sv w (.slice (some ⟨g, off + 1, none⟩) n (cap - 1)) ((ls.drop 1).take n)) ∧ (cap = 1 → n = 0 ∧ Sv w (.slice (some ⟨g, off, none⟩) 0 0) ((ls.drop 1).take n)) := by
  have h0 := h
  rcases h with ⟨h, rfl⟩ | ⟨g', off', cap', h1, h2, h3, h4⟩
  · simp at h
  · simp only [Value.slice.injEq, Option.some.injEq, Addr.mk.injEq] at h1
    obtain ⟨⟨rfl, rfl, _⟩, _, rfl⟩ := h1
    refine ⟨fun _ => h0.part 1 n (cap - 1) hn (by omega) (fun _ => trivial), fun hc => ?_⟩
    have hn0 : n = 0 := by omega
    subst hn0
    exact ⟨rfl, Or.inr ⟨g, off, 0, by simp, by simp, h3, fun i hi => by simp at hi⟩⟩

theorem Nums.shape {w : World} {v : Value} {zs : List (Int × Nat)} (h : Nums w v zs) : ∃ ao cap, v = .slice ao zs.length cap := by
  obtain ⟨ts, hl, hn, hr⟩ := h
  rcases hr with ⟨rfl, rfl⟩ | ⟨g, off, cap, rfl, _⟩
  · exact ⟨none, 0, by rw [← hl]; rfl⟩
  · exact ⟨_, _, by rw [hl]⟩

set_option maxHeartbeats 2000000 in
set_option maxRecDepth 100000 in
theorem take_max (W1 w : World) (gp n : Nat) (v : Value) (ls : List ByteArray) (mx lo hi : List Int) (rows : List (List Int × List UInt8 × Int)) (vM vL vH vC : Value) (h : RQ W1 w gp n mx lo hi rows vM vL vH vC) (hv : Sv w v ls) (hvg : ∀ k, v.ownBlock = some k → k ≠ gp) (hl0 : 0 < ls.length) (hn : ls.length ≤ 1000000) (hsz : ∀ l ∈ ls, l.size ≤ 1000000000) (hn4 : 0 < n ∧ n ≤ 4) :
    Calls Tryz.prog 112 #[.pointer (some ⟨gp, 0, none⟩), .int .i64 1, v] w fun e w' => e = .returned (.bool (decide (ls.length = n + 1 ∧ (ls.getD 0 ⟨#[]⟩).data.toList = wMax ∧ (ls.drop 1).all (fun l => wOk l.data.toList) = true))) ∧ Wr (fun k => k = gp) W1 w' ∧
      ((ls.drop 1).all (fun l => wOk l.data.toList) = true → ∃ v', RQ W1 w' gp n ((ls.drop 1).map fun l => wZ l.data.toList) lo hi rows v' vL vH vC) := by
  obtain ⟨h0, h1, h2, h3, h4, f0, f1, f2, f3, f4⟩ := h.box
  have hv0 := hv
  obtain ⟨ao, cap, rfl⟩ := hv.shape
  obtain ⟨g, off, rfl, hg, hrow⟩ := hv.row (by intro e; rw [e] at hl0; simp at hl0)
  have c0 := hrow 0 hl0
  rw [Nat.add_zero] at c0
  have hgg : g ≠ gp := hvg g rfl
  have hcap : ls.length ≤ cap := by
    rcases hv with ⟨e, _⟩ | ⟨_, _, _, e, e2, _⟩
    · simp at e
    · simp only [Value.slice.injEq] at e
      omega
  obtain ⟨t1, t2⟩ := hv0.tail1 (ls.length - 1) (by omega)
  have hd : (ls.drop 1).take (ls.length - 1) = ls.drop 1 := List.take_of_length_le (by simp)
  rw [hd] at t1 t2
  have hdl : (ls.drop 1).length = ls.length - 1 := by simp
  have HWH := hide (fun (W : World) (u : Value) (hu : Sv W u (ls.drop 1)) => wholes_any W u (ls.drop 1) hu (fun l hl => hsz l (List.mem_of_mem_drop hl)) (by omega))
  obtain ⟨s0, hs0⟩ : ∃ s0, ls.getD 0 ⟨#[]⟩ = s0 := ⟨_, rfl⟩
  rw [hs0] at c0 ⊢
  obtain ⟨al, hal⟩ : ∃ al, ((ls.drop 1).all fun l => wOk l.data.toList) = al := ⟨_, rfl⟩
  rw [hal] at HWH ⊢
  obtain ⟨m, hm⟩ : ∃ m, ls.length = m + 1 := ⟨ls.length - 1, by omega⟩
  have hm1 : ls.length - 1 = m := by omega
  rw [hm1] at t1 t2 hdl
  have HDL := hide hdl
  have T1 := hide t1
  have T2 := hide t2
  clear t1 t2 hal hd hdl hrow hsz hv hv0 hm1
  rw [hm] at hn hcap ⊢
  clear hm hl0
  have hr0 := h.lt
  have hlt := h.gpw
  -- what follows the call of wholes, in whatever world
  have key : ∀ (u : Value), Sv w u (ls.drop 1) → True := fun _ _ => trivial
  clear key
  have hn1 : ¬ (1 + (n : Int) < 1) := by omega
  have hse : s0.data.toList = wMax ↔ s0.toList = [109, 97, 120] := by rw [ByteArray.toList_eq, wMax]
  simp only [hse]
  have HSE := hide hse
  clear hse
  by_cases hc1 : cap = 1
  · obtain ⟨hm0, hu⟩ := T2.out hc1
    subst hc1
    obtain rfl : m = 0 := hm0
    by_cases hal : al = true
    · subst hal
      have hwh := HWH.out
      simp only [forall_const] at hwh
      have HW2 := hide hwh
      clear hwh HWH
      have hmn : ¬ (0 : Nat) = n := by omega
      have hmi : ¬ (0 : Int) = (n : Int) := by omega
      by_cases hs : s0.toList = [109, 97, 120]
      all_goals
        go_enter Tryz.func112, Tryz.ntmps112
        go_wp2_with fail
        refine (HW2.out w _ hu).mono ?_
        rintro e w1 ⟨x, rfl, ⟨hx1, hfr⟩, _, hb1⟩
        have hxl := hx1.shape
        rw [List.length_map, HDL.out] at hxl
        obtain ⟨xo, xc, rfl⟩ := hxl
        have hR := h.below hb1
        obtain ⟨k0, k1, k2, k3, k4, e0, e1, e2, e3, e4⟩ := hR.box
        have c1 := (hb1.cell (p := ⟨g, off, none⟩) hg).trans c0
        have c2 : (w1.setCell ⟨gp, 1, none⟩ (.slice xo 0 xc)).cell? ⟨g, off, none⟩ = some (.string s0) := by rw [far (fun e => hgg e.symm)]; exact c1
        have k5 : (w1.setCell ⟨gp, 1, none⟩ (.slice xo 0 xc)).cell? ⟨gp, 0, none⟩ = some (.int .i64 (n : Nat)) := set_other k0 (by omega)
        have hmap : ((ls.drop 1).map fun l => (wZ l.data.toList, (1 : Nat))) = (((ls.drop 1).map fun l => wZ l.data.toList).map fun z => (z, (1 : Nat))) := by rw [List.map_map]; rfl
        rw [hmap] at hx1
        have hQ := hR.setMax hx1 (fun k hk => ⟨Nat.le_trans h.wr.size (hfr k hk), fun e => by have := (h.lo.lt k e).2; have := hfr k hk; omega, fun e => by have := (h.hi.lt k e).2; have := hfr k hk; omega, fun e => by have := (h.cs.lt k e).2; have := hfr k hk; omega⟩)
        have HQ := hide hQ
        clear hQ hx1 hmap hR
        go_wp2
        go_ret
        refine ⟨?_, HQ.out.wr, fun _ => ⟨_, HQ.out⟩⟩
        first | (apply ret_bool; simp [hs]; done) | (apply ret_bool; rw [Bool.eq_iff_iff]; simp [hs]; done) | (apply ret_bool; rw [Bool.eq_iff_iff]; simp [hs]; omega) | (simp [hs]; done)
    · have hal' : al = false := by simpa using hal
      subst hal'
      go_enter Tryz.func112, Tryz.ntmps112
      go_wp2_with fail
      refine (HWH.out w _ hu).mono ?_
      rintro e w1 ⟨x, rfl, _, hx2, hb1⟩
      obtain rfl := hx2 (by first | exact trivial | rfl)
      have hR := h.below hb1
      go_wp2
      go_ret
      exact ⟨by simp, hR.wr, fun e => by cases e⟩
  · have hu := T1.out hc1
    by_cases hal : al = true
    · subst hal
      have hwh := HWH.out
      simp only [forall_const] at hwh
      have HW2 := hide hwh
      clear hwh HWH
      by_cases hmn : m = n
      · obtain rfl : n = m := hmn.symm
        by_cases hs : s0.toList = [109, 97, 120]
        all_goals
          go_enter Tryz.func112, Tryz.ntmps112
          go_wp2_with fail
          refine (HW2.out w _ hu).mono ?_
          rintro e w1 ⟨x, rfl, ⟨hx1, hfr⟩, _, hb1⟩
          have hxl := hx1.shape
          rw [List.length_map, HDL.out] at hxl
          obtain ⟨xo, xc, rfl⟩ := hxl
          have hR := h.below hb1
          obtain ⟨k0, k1, k2, k3, k4, e0, e1, e2, e3, e4⟩ := hR.box
          have c1 := (hb1.cell (p := ⟨g, off, none⟩) hg).trans c0
          have c2 : (w1.setCell ⟨gp, 1, none⟩ (.slice xo n xc)).cell? ⟨g, off, none⟩ = some (.string s0) := by rw [far (fun e => hgg e.symm)]; exact c1
          have k5 : (w1.setCell ⟨gp, 1, none⟩ (.slice xo n xc)).cell? ⟨gp, 0, none⟩ = some (.int .i64 (n : Nat)) := set_other k0 (by omega)
          have hmap : ((ls.drop 1).map fun l => (wZ l.data.toList, (1 : Nat))) = (((ls.drop 1).map fun l => wZ l.data.toList).map fun z => (z, (1 : Nat))) := by rw [List.map_map]; rfl
          rw [hmap] at hx1
          have hQ := hR.setMax hx1 (fun k hk => ⟨Nat.le_trans h.wr.size (hfr k hk), fun e => by have := (h.lo.lt k e).2; have := hfr k hk; omega, fun e => by have := (h.hi.lt k e).2; have := hfr k hk; omega, fun e => by have := (h.cs.lt k e).2; have := hfr k hk; omega⟩)
          have HQ := hide hQ
          clear hQ hx1 hmap hR
          go_wp2
          go_ret
          refine ⟨?_, HQ.out.wr, fun _ => ⟨_, HQ.out⟩⟩
          first | (apply ret_bool; simp [hs]; done) | (apply ret_bool; rw [Bool.eq_iff_iff]; simp [hs]; done) | (apply ret_bool; rw [Bool.eq_iff_iff]; simp [hs]; omega) | (simp [hs]; done)
      · have hmi : ¬ (m : Int) = (n : Int) := by omega
        by_cases hs : s0.toList = [109, 97, 120]
        all_goals
          go_enter Tryz.func112, Tryz.ntmps112
          go_wp2_with fail
          refine (HW2.out w _ hu).mono ?_
          rintro e w1 ⟨x, rfl, ⟨hx1, hfr⟩, _, hb1⟩
          have hxl := hx1.shape
          rw [List.length_map, HDL.out] at hxl
          obtain ⟨xo, xc, rfl⟩ := hxl
          have hR := h.below hb1
          obtain ⟨k0, k1, k2, k3, k4, e0, e1, e2, e3, e4⟩ := hR.box
          have c1 := (hb1.cell (p := ⟨g, off, none⟩) hg).trans c0
          have c2 : (w1.setCell ⟨gp, 1, none⟩ (.slice xo m xc)).cell? ⟨g, off, none⟩ = some (.string s0) := by rw [far (fun e => hgg e.symm)]; exact c1
          have k5 : (w1.setCell ⟨gp, 1, none⟩ (.slice xo m xc)).cell? ⟨gp, 0, none⟩ = some (.int .i64 (n : Nat)) := set_other k0 (by omega)
          have hmap : ((ls.drop 1).map fun l => (wZ l.data.toList, (1 : Nat))) = (((ls.drop 1).map fun l => wZ l.data.toList).map fun z => (z, (1 : Nat))) := by rw [List.map_map]; rfl
          rw [hmap] at hx1
          have hQ := hR.setMax hx1 (fun k hk => ⟨Nat.le_trans h.wr.size (hfr k hk), fun e => by have := (h.lo.lt k e).2; have := hfr k hk; omega, fun e => by have := (h.hi.lt k e).2; have := hfr k hk; omega, fun e => by have := (h.cs.lt k e).2; have := hfr k hk; omega⟩)
          have HQ := hide hQ
          clear hQ hx1 hmap hR
          go_wp2
          go_ret
          refine ⟨?_, HQ.out.wr, fun _ => ⟨_, HQ.out⟩⟩
          first | (apply ret_bool; simp [hs]; done) | (apply ret_bool; rw [Bool.eq_iff_iff]; simp [hs]; done) | (apply ret_bool; rw [Bool.eq_iff_iff]; simp [hs]; omega) | (simp [hs]; done)
    · have hal' : al = false := by simpa using hal
      subst hal'
      go_enter Tryz.func112, Tryz.ntmps112
      go_wp2_with fail
      refine (HWH.out w _ hu).mono ?_
      rintro e w1 ⟨x, rfl, _, hx2, hb1⟩
      obtain rfl := hx2 (by first | exact trivial | rfl)
      have hR := h.below hb1
      go_wp2
      go_ret
      exact ⟨by simp, hR.wr, fun e => by cases e⟩
end Go.Proofs.YtnhfdcfnojnofaaGreatDoor.T

/-
  What the document's own take does (package planesref): a range.
-/
namespace Go.Proofs.YtnhfdcfnojnofaaGreatDoor.T
open Go.RowKit

/-- Two numbers of a list, as they lie. -/
theorem Nums.two {w : World} {v : Value} {a b : Int × Nat} (h : Nums w v [a, b]) : ∃ g off cap, ∃ x y : Tri, v = .slice (some ⟨g, off, none⟩) 2 cap ∧ 2 ≤ cap ∧ NumV w x.val a.1 a.2 ∧ NumV w y.val b.1 b.2 ∧
    (w.cell? ⟨g, off, none⟩ = some (.bool x.b) ∧ w.cell? ⟨g, off + 1, none⟩ = some x.up ∧ w.cell? ⟨g, off + 2, none⟩ = some x.down) ∧
    (w.cell? ⟨g, off + 3, none⟩ = some (.bool y.b) ∧ w.cell? ⟨g, off + 4, none⟩ = some y.up ∧ w.cell? ⟨g, off + 5, none⟩ = some y.down) := by
  obtain ⟨ts, hl, hn, hr⟩ := h
  obtain ⟨x, y, rfl⟩ : ∃ x y, ts = [x, y] := by
    match ts, hl with
    | [x, y], _ => exact ⟨x, y, rfl⟩
  rcases hr with ⟨_, e⟩ | ⟨g, off, cap, hv, hc, _, h4⟩
  · cases e
  · obtain ⟨a0, a1, a2⟩ := h4 0 x rfl
    obtain ⟨b0, b1, b2⟩ := h4 1 y rfl
    exact ⟨g, off, cap, x, y, hv, hc, hn 0 x a rfl rfl, hn 1 y b rfl rfl, ⟨a0, a1, a2⟩, ⟨b0, b1, b2⟩⟩

set_option maxHeartbeats 2000000 in
set_option maxRecDepth 100000 in
theorem take_range_ok (W1 w : World) (gp n i : Nat) (sr sa sb : ByteArray) (v : Value) (mx lo hi : List Int) (vM vL vH vC : Value) (h : RQ W1 w gp n mx lo hi [] vM vL vH vC) (hv : Sv w v [sr, sa, sb]) (hvg : ∀ k, v.ownBlock = some k → k ≠ gp) (hsz : sa.size ≤ 1000000000 ∧ sb.size ≤ 1000000000) (hn4 : 0 < n ∧ n ≤ 4) (hi2 : 2 ≤ i) (hin : i ≤ 1 + n)
    (hs : sr.toList = [114, 97, 110, 103, 101]) (ha : wOk sa.data.toList = true) (hb : wOk sb.data.toList = true) (hlo : lo.length ≤ 100) (hhi : hi.length ≤ 100) :
    Calls Tryz.prog 112 #[.pointer (some ⟨gp, 0, none⟩), .int .i64 (i : Nat), v] w fun e w' => e = .returned (.bool true) ∧ ∃ vL' vH', RQ W1 w' gp n mx (lo ++ [wZ sa.data.toList]) (hi ++ [wZ sb.data.toList]) [] vM vL' vH' vC := by
  obtain ⟨i0, hi0, hz0, hz1, hz2⟩ := info_parts Tryz.infoNum
  obtain ⟨h0, h1, h2, h3, h4, f0, f1, f2, f3, f4⟩ := h.box
  have hv0 := hv
  obtain ⟨ao, cap, rfl⟩ := hv.shape
  obtain ⟨g, off, rfl, hg, hrow⟩ := hv.row (by simp)
  have c0 : w.cell? ⟨g, off, none⟩ = some (.string sr) := hrow 0 (by simp)
  have hgg : g ≠ gp := hvg g rfl
  have hcap : 3 ≤ cap := by
    rcases hv with ⟨e, _⟩ | ⟨_, _, _, e, e2, _⟩
    · simp at e
    · simp only [Value.slice.injEq] at e
      simp at e2
      omega
  have hu := (hv0.tail1 2 (by simp)).1 (by omega)
  have hu2 : Sv w (.slice (some ⟨g, off + 1, none⟩) 2 (cap - 1)) [sa, sb] := hu
  have hall : ([sa, sb].all fun l => wOk l.data.toList) = true := by simp [ha, hb]
  have HWH := hide (wholes_any w _ [sa, sb] hu2 (by simp; exact hsz) (by simp))
  rw [hall] at HWH
  have hi1 : ¬ ((i : Int) = 0) := by omega
  have hi1' : ¬ ((i : Int) = 1) := by omega
  have hi3 : ¬ (1 + (n : Int) < (i : Int)) := by omega
  have hi4 : (i : Int) ≤ 1 + (n : Int) := by omega
  clear hall hu hv hrow hsz
  go_enter Tryz.func112, Tryz.ntmps112
  go_wp2_with fail
  refine HWH.out.mono ?_
  rintro e w1 ⟨x, rfl, hx, _, hb1⟩
  obtain ⟨hx1, hfr⟩ := hx (by first | exact trivial | rfl)
  have hR := h.below hb1
  obtain ⟨gx, ox, xc, t, u, rfl, hxc, ht, hu, ⟨t0, t1, t2⟩, u0, u1, u2⟩ := hx1.two
  obtain ⟨k0, k1, k2, k3, k4, e0, e1, e2, e3, e4⟩ := hR.box
  have c1 := (hb1.cell (p := ⟨g, off, none⟩) hg).trans c0
  have hgx : w.heap.size ≤ gx := hfr gx rfl
  obtain ⟨ts, hts, hown, hnum⟩ := hR.lo
  have hlts : ts.length = lo.length := by simpa using hts
  have hlt1 : gx < w1.heap.size := block_lt_of_cell t0
  have hne : ∀ k, vL.ownBlock = some k → k ≠ gx := fun k hk => by have := (h.lo.lt k hk).2; omega
  have hneH : ∀ k, vH.ownBlock = some k → k ≠ gx := fun k hk => by have := (h.hi.lt k hk).2; omega
  have hR2 := (hR.alloc (.cells #[.bool t.b, t.up, t.down] 118)).drew
  have hown2 : ((w1.alloc (.cells #[.bool t.b, t.up, t.down] 118)).drew).ownsRow W1.heap.size 118 3 vL ts.length (triCells ts) := owns_same hown (by simp) (fun k hk => Below.heap_alloc _ _ _ (owns_lt hown k hk).2)
  have hbB : W1.heap.size ≤ w1.heap.size := hR.wr.size
  have hB2 := hR2.box
  have hgp1 : gp < w1.heap.size := hR.gpw
  have hgpL : some gp ≠ vL.ownBlock := fun e => by have := (owns_lt hown gp e.symm).1; have := h.lt; omega
  have hgpH : some gp ≠ vH.ownBlock := fun e => by have := (hR.hi.lt gp e.symm).1; have := h.lt; omega
  have k2a := cell_alloc_old (o := .cells #[.bool t.b, t.up, t.down] 118) k2
  go_wp2_with fail
  have hnumD : ∀ (i : Nat) (t' : Tri) (z : Int × Nat), ts[i]? = some t' → (lo.map fun z => (z, 1))[i]? = some z → NumV ((w1.alloc (.cells #[.bool t.b, t.up, t.down] 118)).drew) t'.val z.1 z.2 := fun i t' z h1 h2 => (hnum i t' z h1 h2).alloc _
  have htD : NumV ((w1.alloc (.cells #[.bool t.b, t.up, t.down] 118)).drew) t.val (wZ sa.data.toList) 1 := ht.alloc _
  have huD : NumV ((w1.alloc (.cells #[.bool t.b, t.up, t.down] 118)).drew) u.val (wZ sb.data.toList) 1 := hu.alloc _
  go_region_law (refine step_append_lies _ rfl (.tmp 90) (.tmp 94) 200 rfl W1.heap.size 118 i0 (.agg #[.bool false, .slice none 0 0, .slice none 0 0]) 3 56 Tryz.underlying200 hi0 hz0 hz1 hz2 rfl (by decide) vL ts.length (triCells ts) rfl hown2 ⟨w1.heap.size, 0, none⟩ 1 1 t.cells rfl rfl (cell_tri_new w1 t _) (tri_one t) (by omega) (by unfold maxLen; omega) (by omega) (by simp; omega) (w1.heap.size + 1) (by simp) ?_; intro g2 cap2 w2 hown3 hgrow hat hlt; have q2 := (hgrow.cell_far ⟨gp, 2, none⟩ (by simp; omega) hgpL).trans hB2.2.2.1; have q2f := (hgrow.frozen_far ⟨gp, 2, none⟩ (by simp; omega) hgpL).trans hB2.2.2.2.2.2.2.2.1)
  all_goals
    rw [hlts] at hown3
    have hQ := hR2.growLo (x := t) (z := wZ sa.data.toList) (g := g2) (cap := cap2) (ts := ts) hts hnumD (by exact htD) (by rw [hlts]; exact hown3) hgrow (hat.imp id (fun e => by rw [e]; simp))
    rw [hlts] at hQ
    have hk2 := Kept.of_grown hgrow hR2.noKindL
    have hgx2 : w2.heap[gx]? = w1.heap[gx]? := (hgrow.block gx (by simp; omega) (fun e => hne gx e.symm rfl)).trans (Below.heap_alloc _ _ _ hlt1)
    have hgx3 : (w2.setCell ⟨gp, 2, none⟩ (.slice (some ⟨g2, 0, none⟩) (lo.length + 1) cap2)).heap[gx]? = w1.heap[gx]? := (Below.heap_setCell _ _ _ _ (by have := h.gpw; simp; omega)).trans hgx2
    have v0 := (World.cell?_of_block (w := w1) (a := ⟨gx, ox + 3, none⟩) hgx3).trans u0
    have v1 := (World.cell?_of_block (w := w1) (a := ⟨gx, ox + 4, none⟩) hgx3).trans u1
    have v2 := (World.cell?_of_block (w := w1) (a := ⟨gx, ox + 5, none⟩) hgx3).trans u2
    have hkq : ¬ Kind w2 gp := by
      rintro ⟨c, fr, hc⟩
      have e := hgrow.block gp (by simp; omega) hgpL
      exact hR2.kind ⟨c, fr, e.symm.trans hc⟩
    have huQ := (huD.kept hk2).kept (Kept.of_setCell (a := ⟨gp, 2, none⟩) hkq (.slice (some ⟨g2, 0, none⟩) (lo.length + 1) cap2))
    obtain ⟨w3, hw3⟩ : ∃ w3, w2.setCell ⟨gp, 2, none⟩ (.slice (some ⟨g2, 0, none⟩) (lo.length + 1) cap2) = w3 := ⟨_, rfl⟩
    have hsz3 : gx < w3.heap.size := by rw [← hw3]; simp; have := hgrow.size; simp at this; omega
    rw [hw3] at hQ v0 v1 v2 huQ ⊢
    clear hw3 hgx2 hgx3 hkq hk2 hgrow hown3 hat q2 q2f k0 k1 k2 k3 k4 e0 e1 e2 e3 e4 k2a hB2 t0 t1 t2 u0 u1 u2
    obtain ⟨vL2, hvL2⟩ : ∃ vL2 : Value, (.slice (some ⟨g2, 0, none⟩) (lo.length + 1) cap2) = vL2 := ⟨_, rfl⟩
    obtain ⟨k0, k1, k2, k3, k4, e0, e1, e2, e3, e4⟩ := hQ.box
    obtain ⟨us, hus, hownH, hnumH⟩ := hQ.hi
    have hlus : us.length = hi.length := by simpa using hus
    have hQ2 := (hQ.alloc (.cells #[.bool u.b, u.up, u.down] 118)).drew
    have hownH2 : ((w3.alloc (.cells #[.bool u.b, u.up, u.down] 118)).drew).ownsRow W1.heap.size 118 3 vH us.length (triCells us) := owns_same hownH (by simp) (fun k hk => Below.heap_alloc _ _ _ (owns_lt hownH k hk).2)
    have hbB3 : W1.heap.size ≤ w3.heap.size := hQ.wr.size
    have hB3 := hQ2.box
    have hgp3 : gp < w3.heap.size := hQ.gpw
    have k3a := cell_alloc_old (o := .cells #[.bool u.b, u.up, u.down] 118) k3
    have hgpH3 : some gp ≠ vH.ownBlock := hgpH
    have hnumE : ∀ (i : Nat) (t' : Tri) (z : Int × Nat), us[i]? = some t' → (hi.map fun z => (z, 1))[i]? = some z → NumV ((w3.alloc (.cells #[.bool u.b, u.up, u.down] 118)).drew) t'.val z.1 z.2 := fun i t' z h1 h2 => (hnumH i t' z h1 h2).alloc _
    have huE : NumV ((w3.alloc (.cells #[.bool u.b, u.up, u.down] 118)).drew) u.val (wZ sb.data.toList) 1 := huQ.alloc _
    go_wp2
    go_region_law (refine step_append_lies _ rfl (.tmp 102) (.tmp 106) 200 rfl W1.heap.size 118 i0 (.agg #[.bool false, .slice none 0 0, .slice none 0 0]) 3 56 Tryz.underlying200 hi0 hz0 hz1 hz2 rfl (by decide) vH us.length (triCells us) rfl hownH2 ⟨w3.heap.size, 0, none⟩ 1 1 u.cells rfl rfl (cell_tri_new w3 u _) (tri_one u) (by omega) (by unfold maxLen; omega) (by omega) (by simp; omega) (w3.heap.size + 1) (by simp) ?_; intro g4 cap4 w4 hown5 hgrow5 hat5 hlt5; have q3 := (hgrow5.cell_far ⟨gp, 3, none⟩ (by simp; omega) hgpH3).trans hB3.2.2.2.1; have q3f := (hgrow5.frozen_far ⟨gp, 3, none⟩ (by simp; omega) hgpH3).trans hB3.2.2.2.2.2.2.2.2.1)
    all_goals
      rw [hlus] at hown5
      have hZ := hQ2.growHi (x := u) (z := wZ sb.data.toList) (g := g4) (cap := cap4) (ts := us) hus hnumE (by exact huE) (by rw [hlus]; exact hown5) hgrow5 (hat5.imp id (fun e => by rw [e]; simp))
      rw [hlus] at hZ
      have HZ := hide hZ
      clear hZ
      go_wp2
      go_ret
      exact ⟨rfl, _, _, HZ.out⟩
end Go.Proofs.YtnhfdcfnojnofaaGreatDoor.T
