/-
  Part 19 of the texts ahead of Pks1: Dvl1, Dvl2, Dvp2.
-/
import Derived.Test.YtnhfdcfnojnofaaGreatDoorPks1Z15
import Derived.Test.YtnhfdcfnojnofaaGreatDoorPks1Z17
import Derived.Deep.RegionHeld
import Derived.OwnWalkIn
import Derived.Test.YtnhfdcfnojnofaaGreatDoorPks1Z18
set_option linter.unusedSimpArgs false
set_option linter.unusedVariables false
/-
  The places of a line, while they are laid one behind another (package problem).
-/
namespace Go.Proofs.YtnhfdcfnojnofaaGreatDoor
open Go.RowKit

/-- Places as values. -/
def placeE (q : Nat) : Value := .func (.func 364) #[] #[.pointer (some ⟨q, 0, none⟩)]
def placeW (q : Nat) : Value := .func (.func 366) #[] #[.pointer (some ⟨q, 0, none⟩)]
def placeR (q : Nat) : Value := .func (.func 368) #[] #[.pointer (some ⟨q, 0, none⟩)]
def placeN (q : Nat) : Value := .func (.func 365) #[] #[.pointer (some ⟨q, 0, none⟩)]

theorem enters_E : ∀ args w, (callFunc 364 args).run Tryz.prog w = .ok (.enter 364 args) w := enters_f Tryz.func364 (by kernel_rfl) rfl
theorem enters_W : ∀ args w, (callFunc 366 args).run Tryz.prog w = .ok (.enter 366 args) w := enters_f Tryz.func366 (by kernel_rfl) rfl
theorem enters_R : ∀ args w, (callFunc 368 args).run Tryz.prog w = .ok (.enter 368 args) w := enters_f Tryz.func368 (by kernel_rfl) rfl
theorem enters_N : ∀ args w, (callFunc 365 args).run Tryz.prog w = .ok (.enter 365 args) w := enters_f Tryz.func365 (by kernel_rfl) rfl

theorem Tryz.infoPlace : (Tryz.prog.info? 429).map (fun i => (i.zero, i.size, i.bytes)) = some (some (.nilFunc), 1, 8) := by kernel_rfl

/-- Places laid so far: gpl: where the row's value lies; q0, qs: what they lean on; B: all that is newer than this is the call's own; xs: blocks that are none of the row's. -/
structure Pls (B : Nat) (w A : World) (gpl q0 : Nat) (wd : List UInt8) (qs : List Nat) (pt : Nat → Addr) (xs : List Nat) (ap : Option Addr) (kp : Nat) : Prop where
  own : A.ownsRow B 429 1 (.slice ap (qs.length + 1) kp) (qs.length + 1) (placeE q0 :: qs.map placeW)
  box : A.cell? ⟨gpl, 0, none⟩ = some (.slice ap (qs.length + 1) kp)
  fro : A.frozen? ⟨gpl, 0, none⟩ = false
  q0c : A.cell? ⟨q0, 0, none⟩ = some (.string ⟨wd.toArray⟩)
  qsc : ∀ j q, qs[j]? = some q → A.cell? ⟨q, 0, none⟩ = some (.pointer (some (pt j)))
  new : B ≤ gpl ∧ gpl ≠ q0 ∧ B ≤ q0 ∧ ∀ q ∈ qs, B ≤ q ∧ q ≠ gpl
  lt : ∀ x ∈ gpl :: q0 :: (qs ++ xs), x < A.heap.size
  sep : ∀ g, (Value.slice ap (qs.length + 1) kp).ownBlock = some g → ∀ x ∈ gpl :: q0 :: (qs ++ xs), g ≠ x
  bel : Below B w A
  le : B ≤ w.heap.size

theorem Keep.cells' {B : Nat} {w w' : World} (hk : Keep B w w') {g : Nat} {o : Obj} (ho : w.heap[g]? = some o) (hc : o.isCells = true) : w'.heap[g]? = w.heap[g]? := (hk.block g o ho (.inr hc)).trans ho.symm

theorem owns_keep' {B' : Nat} {w w' : World} {B e size n : Nat} {v : Value} {xs : List Value} (h : w.ownsRow B e size v n xs) (hk : Keep B' w w') : w'.ownsRow B e size v n xs := by
  obtain ⟨h0, h1 | ⟨g, cap, cur, hv, hb, hh, hn, h4, h5, h6⟩⟩ := h
  · exact ⟨h0, Or.inl h1⟩
  · exact ⟨h0, Or.inr ⟨g, cap, cur, hv, hb, (hk.cells' hh rfl).trans hh, hn, h4, h5, h6⟩⟩

theorem Pls.keep {C B : Nat} {w A A' : World} {gpl q0 : Nat} {wd : List UInt8} {qs : List Nat} {pt : Nat → Addr} {xs : List Nat} {ap : Option Addr} {kp : Nat} (h : Pls B w A gpl q0 wd qs pt xs ap kp) (hk : Keep C A A') (hC : B ≤ C) : Pls B w A' gpl q0 wd qs pt xs ap kp :=
  ⟨owns_keep' h.own hk, hk.cell h.box, (hk.frozen h.box).trans h.fro, hk.cell h.q0c, fun j q hq => hk.cell (h.qsc j q hq), h.new, fun x hx => Nat.lt_of_lt_of_le (h.lt x hx) hk.size, h.sep, hk.below h.bel hC h.le, h.le⟩

theorem Pls.alloc {B : Nat} {w A : World} {gpl q0 : Nat} {wd : List UInt8} {qs : List Nat} {pt : Nat → Addr} {xs : List Nat} {ap : Option Addr} {kp : Nat} (h : Pls B w A gpl q0 wd qs pt xs ap kp) (o : Obj) : Pls B w (A.alloc o) gpl q0 wd qs pt xs ap kp := h.keep (Keep.alloc B _ _) (Nat.le_refl _)
theorem Pls.drew {B : Nat} {w A : World} {gpl q0 : Nat} {wd : List UInt8} {qs : List Nat} {pt : Nat → Addr} {xs : List Nat} {ap : Option Addr} {kp : Nat} (h : Pls B w A gpl q0 wd qs pt xs ap kp) : Pls B w A.drew gpl q0 wd qs pt xs ap kp := h.keep (Keep.drew B _) (Nat.le_refl _)

/-- One place more, and it lies in its variable. -/
theorem Pls.grow {B : Nat} {w A A' : World} {gpl q0 q g cap : Nat} {wd : List UInt8} {qs : List Nat} {pt : Nat → Addr} {xs : List Nat} {ap : Option Addr} {kp : Nat} (h : Pls B w A gpl q0 wd qs pt xs ap kp)
    (hq : A.cell? ⟨q, 0, none⟩ = some (.pointer (some (pt qs.length)))) (hqB : B ≤ q) (hqg : q ≠ gpl) (hqs : ∀ g, (Value.slice ap (qs.length + 1) kp).ownBlock = some g → g ≠ q)
    (hown : A'.ownsRow B 429 1 (.slice (some ⟨g, 0, none⟩) (qs.length + 1 + 1) cap) (qs.length + 1 + 1) (placeE q0 :: qs.map placeW ++ [placeW q])) (hg : A.grownBy A' (Value.slice ap (qs.length + 1) kp).ownBlock) (hat : (Value.slice ap (qs.length + 1) kp).ownBlock = some g ∨ g = A.heap.size) :
    Pls B w (A'.setCell ⟨gpl, 0, none⟩ (.slice (some ⟨g, 0, none⟩) (qs.length + 1 + 1) cap)) gpl q0 wd (qs ++ [q]) pt xs (some ⟨g, 0, none⟩) cap ∧
      Wr (fun x => x = gpl ∨ (Value.slice ap (qs.length + 1) kp).ownBlock = some x) A (A'.setCell ⟨gpl, 0, none⟩ (.slice (some ⟨g, 0, none⟩) (qs.length + 1 + 1) cap)) := by
  have hql : q < A.heap.size := block_lt_of_cell hq
  have hw : Wr (fun x => (Value.slice ap (qs.length + 1) kp).ownBlock = some x) A A' := ⟨hg.os, hg.tape, hg.output, hg.size, fun k hk e => hg.block k hk (fun e2 => e e2.symm)⟩
  have hno : ∀ {x : Nat}, x ∈ gpl :: q0 :: (qs ++ xs) → ¬ (Value.slice ap (qs.length + 1) kp).ownBlock = some x := fun hx e => h.sep _ e _ hx rfl
  have hbox' := hw.cell (p := ⟨gpl, 0, none⟩) (hno (by simp)) h.box
  have hgx : ∀ x ∈ gpl :: q0 :: (qs ++ xs), g ≠ x := by
    intro x hx
    rcases hat with e | e
    · exact h.sep g e x hx
    · have := h.lt x hx; omega
  have hgq : g ≠ q := by
    rcases hat with e | e
    · exact hqs g e
    · omega
  have hgpl : g ≠ gpl := hgx gpl (by simp)
  have hlen : (qs ++ [q]).length + 1 = qs.length + 1 + 1 := by simp
  have e2 : placeE q0 :: (qs ++ [q]).map placeW = placeE q0 :: qs.map placeW ++ [placeW q] := by simp
  have hB' : Below B w A' := ⟨hg.os.trans h.bel.os, hg.tape.trans h.bel.tape, hg.output.trans h.bel.output, Nat.le_trans h.bel.size hg.size, fun k hk => (hg.block k (by have := h.bel.size; have := h.le; omega) (fun e => by have := (h.own.lt k e.symm).1; omega)).trans (h.bel.block k hk)⟩
  refine ⟨⟨?_, ?_, ?_, ?_, ?_, ?_, ?_, ?_, ?_, h.le⟩, ?_⟩
  · rw [hlen, e2]
    obtain ⟨h0, h1 | ⟨g', cap', cur, hv, hb, hh, hn, h4, h5, h6⟩⟩ := hown
    · exact absurd h1.1 (by simp)
    · refine ⟨h0, Or.inr ⟨g', cap', cur, hv, hb, (Below.heap_setCell _ _ _ _ ?_).trans hh, hn, h4, h5, h6⟩⟩
      simp only [Value.slice.injEq, Option.some.injEq, Addr.mk.injEq] at hv
      rw [← hv.1.1]
      exact hgpl
  · rw [hlen]; exact World.cell?_setCell_same _ _ _ hbox'
  · have := (hw.block gpl (h.lt gpl (by simp)) (hno (by simp)))
    have h3 : A'.frozen? ⟨gpl, 0, none⟩ = A.frozen? ⟨gpl, 0, none⟩ := World.frozen?_of_block (w := A) this
    simpa using h3.trans h.fro
  · rw [World.cell?_setCell_far _ _ _ _ (by simpa using h.new.2.1)]
    exact hw.cell (p := ⟨q0, 0, none⟩) (hno (by simp)) h.q0c
  · intro j q' hj
    by_cases hjl : j < qs.length
    · rw [List.getElem?_append_left hjl] at hj
      have hm : q' ∈ qs := List.mem_of_getElem? hj
      rw [World.cell?_setCell_far _ _ _ _ (by simpa using Ne.symm (h.new.2.2.2 q' hm).2)]
      exact hw.cell (p := ⟨q', 0, none⟩) (hno (by simp [hm])) (h.qsc j q' hj)
    · have hje : j = qs.length := by
        have := (List.getElem?_eq_some_iff.1 hj).1
        simp at this
        omega
      subst hje
      rw [List.getElem?_append_right (Nat.le_refl _), Nat.sub_self] at hj
      simp at hj
      subst hj
      rw [World.cell?_setCell_far _ _ _ _ (by simpa using Ne.symm hqg)]
      exact hw.cell (p := ⟨q, 0, none⟩) (fun e => hqs _ e rfl) hq
  · refine ⟨h.new.1, h.new.2.1, h.new.2.2.1, fun x hx => ?_⟩
    rcases List.mem_append.1 hx with e | e
    · exact h.new.2.2.2 x e
    · rw [List.mem_singleton.1 e]; exact ⟨hqB, hqg⟩
  · intro x hx
    have hs := hg.size
    simp only [List.mem_cons, List.mem_append, List.append_assoc] at hx
    have : x < A.heap.size := by
      rcases hx with e | e | e | e | e
      · exact h.lt x (by simp [e])
      · exact h.lt x (by simp [e])
      · exact h.lt x (by simp [e])
      · rcases e with e | e
        · omega
        · cases e
      · exact h.lt x (by simp [e])
    simp
    omega
  · intro g2 hg2 x hx
    have : g2 = g := by simpa [Value.ownBlock] using hg2.symm
    subst this
    simp only [List.mem_cons, List.mem_append, List.append_assoc] at hx
    rcases hx with e | e | e | e | e
    · exact hgx x (by simp [e])
    · exact hgx x (by simp [e])
    · exact hgx x (by simp [e])
    · rcases e with e | e
      · rw [e]; exact hgq
      · cases e
    · exact hgx x (by simp [e])
  · exact hB'.setCell (p := ⟨gpl, 0, none⟩) h.new.1 _
  · exact Wr.setCell (T := fun x => x = gpl ∨ (Value.slice ap (qs.length + 1) kp).ownBlock = some x) (hw.mono (fun k e => Or.inr e)) (p := ⟨gpl, 0, none⟩) (Or.inl rfl) _

theorem Pls.alloc_avoid {B : Nat} {w A : World} {gpl q0 : Nat} {wd : List UInt8} {qs : List Nat} {pt : Nat → Addr} {xs : List Nat} {ap : Option Addr} {kp : Nat} (h : Pls B w A gpl q0 wd qs pt xs ap kp) (o : Obj) : Pls B w (A.alloc o) gpl q0 wd qs pt (A.heap.size :: xs) ap kp := by
  have h2 := h.alloc o
  refine ⟨h2.own, h2.box, h2.fro, h2.q0c, h2.qsc, h2.new, fun x hx => ?_, fun g hg x hx => ?_, h2.bel, h2.le⟩
  · simp only [List.mem_cons, List.mem_append] at hx
    rcases hx with e | e | e | e | e
    · exact h2.lt x (by simp [e])
    · exact h2.lt x (by simp [e])
    · exact h2.lt x (by simp [e])
    · rw [e]; simp
    · exact h2.lt x (by simp [e])
  · simp only [List.mem_cons, List.mem_append] at hx
    rcases hx with e | e | e | e | e
    · exact h2.sep g hg x (by simp [e])
    · exact h2.sep g hg x (by simp [e])
    · exact h2.sep g hg x (by simp [e])
    · have := (h.own.lt g hg).2; omega
    · exact h2.sep g hg x (by simp [e])

theorem Pls.avoid {B : Nat} {w A : World} {gpl q0 : Nat} {wd : List UInt8} {qs : List Nat} {pt : Nat → Addr} {xs : List Nat} {ap : Option Addr} {kp : Nat} (h : Pls B w A gpl q0 wd qs pt xs ap kp) (y : Nat) (hy : y < A.heap.size) (hne : ∀ g, (Value.slice ap (qs.length + 1) kp).ownBlock = some g → g ≠ y) : Pls B w A gpl q0 wd qs pt (y :: xs) ap kp := by
  refine ⟨h.own, h.box, h.fro, h.q0c, h.qsc, h.new, fun x hx => ?_, fun g hg x hx => ?_, h.bel, h.le⟩
  · simp only [List.mem_cons, List.mem_append] at hx
    rcases hx with e | e | e | e | e
    · exact h.lt x (by simp [e])
    · exact h.lt x (by simp [e])
    · exact h.lt x (by simp [e])
    · rw [e]; exact hy
    · exact h.lt x (by simp [e])
  · simp only [List.mem_cons, List.mem_append] at hx
    rcases hx with e | e | e | e | e
    · exact h.sep g hg x (by simp [e])
    · exact h.sep g hg x (by simp [e])
    · exact h.sep g hg x (by simp [e])
    · rw [e]; exact hne g hg
    · exact h.sep g hg x (by simp [e])

/-- The first place, laid into its row, the row into its variable. -/
theorem Pls.start (w W : World) (hb : Below w.heap.size w W) (wd : List UInt8) (pt : Nat → Addr) :
    Pls w.heap.size w (((W.alloc (.cells #[.string ⟨wd.toArray⟩] 9)).alloc (.cells #[placeE W.heap.size] 429)).alloc (.cells #[.slice (some ⟨W.heap.size + 1, 0, none⟩) 1 1] 433))
      (W.heap.size + 1 + 1) W.heap.size wd [] pt [] (some ⟨W.heap.size + 1, 0, none⟩) 1 := by
  have hs := hb.size
  refine ⟨⟨rfl, Or.inr ⟨W.heap.size + 1, 1, #[placeE W.heap.size], rfl, by omega, ?_, Nat.le_refl _, by unfold maxLen; omega, rfl, rfl⟩⟩, ?_, ?_, ?_, fun j q hq => by simp at hq, ⟨by omega, by omega, hs, fun q hq => by simp at hq⟩, fun x hx => ?_, fun g hg x hx => ?_, ?_, Nat.le_refl _⟩
  · have h1 := World.alloc_heap_new (W.alloc (.cells #[.string ⟨wd.toArray⟩] 9)) (.cells #[placeE W.heap.size] 429)
    rw [World.size_alloc] at h1
    exact (Below.heap_alloc _ _ _ (by simp)).trans h1
  · have := (Boxed.new ((W.alloc (.cells #[.string ⟨wd.toArray⟩] 9)).alloc (.cells #[placeE W.heap.size] 429)) 433 (.slice (some ⟨W.heap.size + 1, 0, none⟩) 1 1)).cell
    rwa [World.size_alloc, World.size_alloc] at this
  · have := (Boxed.new ((W.alloc (.cells #[.string ⟨wd.toArray⟩] 9)).alloc (.cells #[placeE W.heap.size] 429)) 433 (.slice (some ⟨W.heap.size + 1, 0, none⟩) 1 1)).frozen
    rwa [World.size_alloc, World.size_alloc] at this
  · exact (((Boxed.new W 9 (.string ⟨wd.toArray⟩)).alloc _).alloc _).cell
  · simp only [List.mem_cons, List.append_nil, List.not_mem_nil, or_false] at hx
    simp
    omega
  · simp [Value.ownBlock] at hg
    simp only [List.mem_cons, List.append_nil, List.not_mem_nil, or_false] at hx
    omega
  · exact (((hb.alloc hs _).alloc (by simp; omega) _).alloc (by simp; omega) _)

/-- The row's cells, and that it is one. -/
theorem Pls.row {B : Nat} {w A : World} {gpl q0 : Nat} {wd : List UInt8} {qs : List Nat} {pt : Nat → Addr} {xs : List Nat} {ap : Option Addr} {kp : Nat} (h : Pls B w A gpl q0 wd qs pt xs ap kp) :
    ∃ g, ap = some ⟨g, 0, none⟩ ∧ B ≤ g ∧ g < A.heap.size ∧ qs.length + 1 ≤ kp ∧ kp ≤ 9223372036854775807 ∧ ∀ i fv, (placeE q0 :: qs.map placeW)[i]? = some fv → A.cell? ⟨g, i, none⟩ = some fv := by
  have hc := h.own
  have hl := h.own.lt
  obtain ⟨h0, h1 | ⟨g, cap, cur, hv, hb, hh, hn, h4, h5, h6⟩⟩ := h.own
  · exact absurd h1.1 (by simp)
  · simp only [Value.slice.injEq] at hv
    obtain ⟨rfl, _, rfl⟩ := hv
    refine ⟨g, rfl, hb, (hl g rfl).2, hn, by unfold maxLen at h4; omega, fun i fv hi => ?_⟩
    have := hc.cells (g := g) rfl i fv hi
    have e : (⟨g, 0, none⟩ : Addr).add i = ⟨g, i, none⟩ := by
      unfold Addr.add
      split
      · rename_i hz; rw [hz]
      · simp
    rw [e] at this
    exact this
end Go.Proofs.YtnhfdcfnojnofaaGreatDoor

/-
  Appending within a round of a range over a function, where the statement's order is drawn.
-/
namespace Go.Proofs.YtnhfdcfnojnofaaGreatDoor
open Go.RowKit

theorem step_append_round {F : Fence} {n : Nat} {P : Program} (w : World) {ops : Array Oper} {o : Oper} {a : Act} {K : Act → World → Prop} {Q : Exit → Act → World → Prop} {E : Prop} (hgd : o.guard = none) (s x : Operand) (t : TypeId)
    (ho : o.op = .call { callee := .builtin .append, args := #[s, x], argTypes := #[t, t] })
    (base : Nat) (e : TypeId) (i : TypeInfo) (z : Value) (size bytes : Nat) (ht : P.underlying t = some (.slice e)) (hi : P.info? e = some i) (hz : i.zero = some z)
    (hsize : i.size = size) (hby : i.bytes = bytes) (hzs : z.cells.size = size) (hsz : 0 < size)
    (v : Value) (m : Nat) (xs : List Value) (hs : a.eval s = v) (hown : w.ownsRow base e size v m xs)
    (ad : Addr) (k c : Nat) (news : List Value) (hx : a.eval x = .slice (some ad) k c) (hl : news.length = k * size) (hnews : ∀ j u, news[j]? = some u → w.cell? (ad.add j) = some u) (h1 : ∀ u ∈ news, u.oneCell' = true)
    (hm : 0 < k) (h63 : m + k ≤ maxLen) (hbytes : (m + k) * bytes ≤ 140737488355328) (hbase : base ≤ w.heap.size) (H : Nat) (hH : w.heap.size = H)
    (h : ∀ g cap w', w'.ownsRow base e size (.slice (some ⟨g, 0, none⟩) (m + k) cap) (m + k) (xs ++ news) → w.grownBy w' v.ownBlock → (v.ownBlock = some g ∨ g = H) → g < w'.heap.size → K (a.put o.dst (.slice (some ⟨g, 0, none⟩) (m + k) cap)) w') :
    if Region.wanted o (yielded ops a.tmps) = true then Oper.wpIn F n P o a w K Q else E := by
  have hw : Region.wanted o (yielded ops a.tmps) = true := by simp [Region.wanted, hgd]
  rw [if_pos hw]
  obtain ⟨g, cap, w', hr, h2, h3, h4, h5⟩ := run_append_lies (P := P) w t o.type base e i z size bytes ht hi hz hsize hby hzs hsz v m xs hown ad k c news hl hnews h1 hm h63 hbytes hbase H hH
  unfold Oper.wpIn
  refine ⟨?_, ?_⟩
  · simp [Oper.about, ho, resolve, Target.leads, Sem.run_pure]
  · rw [Oper.semAt_plain F _ _ (by rw [ho]; intro c hc'; cases hc')]
    simp [execOp, ho, resolve, invoke, builtin, hs, hx, hr, Result.andThen]
    exact h g cap w' h2 h3 h4 h5

/-- One place more, at a step of a drawn statement. -/
theorem step_place {F : Fence} {n : Nat} (A : World) {ops : Array Oper} {o : Oper} {a : Act} {K : Act → World → Prop} {Q : Exit → Act → World → Prop} {E : Prop} (hgd : o.guard = none) (s x : Operand)
    (ho : o.op = .call { callee := .builtin .append, args := #[s, x], argTypes := #[433, 433] })
    {B : Nat} {w : World} {gpl q0 q : Nat} {wd : List UInt8} {qs : List Nat} {pt : Nat → Addr} {xs : List Nat} {ap : Option Addr} {kp b : Nat} (hP : Pls B w A gpl q0 wd qs pt xs ap kp) (hl : qs.length ≤ 900)
    (hs : a.eval s = .slice ap (qs.length + 1) kp) (hx : a.eval x = .slice (some ⟨b, 0, none⟩) 1 1) (hb : A.cell? ⟨b, 0, none⟩ = some (placeW q))
    (hq : A.cell? ⟨q, 0, none⟩ = some (.pointer (some (pt qs.length)))) (hqB : B ≤ q) (hqg : q ≠ gpl) (hqs : ∀ g, (Value.slice ap (qs.length + 1) kp).ownBlock = some g → g ≠ q)
    (h : ∀ g cap A', Pls B w (A'.setCell ⟨gpl, 0, none⟩ (.slice (some ⟨g, 0, none⟩) (qs.length + 1 + 1) cap)) gpl q0 wd (qs ++ [q]) pt xs (some ⟨g, 0, none⟩) cap →
      Wr (fun x => x = gpl ∨ (Value.slice ap (qs.length + 1) kp).ownBlock = some x) A (A'.setCell ⟨gpl, 0, none⟩ (.slice (some ⟨g, 0, none⟩) (qs.length + 1 + 1) cap)) →
      ((Value.slice ap (qs.length + 1) kp).ownBlock = some g ∨ A.heap.size ≤ g) →
      A'.cell? ⟨gpl, 0, none⟩ = some (.slice ap (qs.length + 1) kp) → A'.frozen? ⟨gpl, 0, none⟩ = false → K (a.put o.dst (.slice (some ⟨g, 0, none⟩) (qs.length + 1 + 1) cap)) A') :
    if Region.wanted o (yielded ops a.tmps) = true then Oper.wpIn F n Tryz.prog o a A K Q else E := by
  obtain ⟨i0, hi, hz0, hz1, hz2⟩ := info_parts Tryz.infoPlace
  refine step_append_round A hgd s x 433 ho B 429 i0 .nilFunc 1 8 Tryz.underlying433 hi hz0 hz1 hz2 rfl (by decide) _ _ _ hs hP.own ⟨b, 0, none⟩ 1 1 [placeW q] hx rfl ?_ (fun u hu => by simp at hu; subst hu; rfl) (by omega) (by unfold maxLen; omega) (by omega) (by have := hP.bel.size; have := hP.le; omega) A.heap.size rfl ?_
  · intro j u hu
    match j, hu with
    | 0, hu => simp at hu; subst hu; simpa [Addr.add] using hb
    | j + 1, hu => simp at hu
  · intro g cap A' hown hg hat hlt
    obtain ⟨h1, h2⟩ := hP.grow hq hqB hqg hqs hown hg hat
    have hno : ¬ (Value.slice ap (qs.length + 1) kp).ownBlock = some gpl := fun e => hP.sep _ e gpl (by simp) rfl
    refine h g cap A' h1 h2 (hat.imp id (fun e => by omega)) ?_ ?_
    · exact (hg.cell_far ⟨gpl, 0, none⟩ (hP.lt gpl (by simp)) (fun e => hno e.symm)).trans hP.box
    · exact (hg.frozen_far ⟨gpl, 0, none⟩ (hP.lt gpl (by simp)) (fun e => hno e.symm)).trans hP.fro
end Go.Proofs.YtnhfdcfnojnofaaGreatDoor

/-
  Lines that fits reads (package problem): a word and whole numbers; a condition's.
-/
namespace Go.Proofs.YtnhfdcfnojnofaaGreatDoor
open Go.RowKit

/-- Is a line one word and m whole numbers? -/
def lineB (wd : List UInt8) (m : Nat) (ws : List (List UInt8)) : Bool := decide (ws.length = m + 1 ∧ ws.getD 0 [] = wd ∧ (ws.drop 1).all dOk = true)

theorem all_drop {α : Type} (f : α → Bool) (d : α) (ws : List α) (m : Nat) (h : ws.length = m + 1) : (ws.drop 1).all f = true ↔ ∀ j, 0 < j → j < m + 1 → f (ws.getD j d) = true := by
  rw [List.all_eq_true]
  constructor
  · intro ha j h0 hj
    rw [List.getD_eq_getElem?_getD, List.getElem?_eq_getElem (by omega)]
    refine ha _ ?_
    have : ws[j]'(by omega) = (ws.drop 1)[j - 1]'(by rw [List.length_drop]; omega) := by
      rw [List.getElem_drop]
      congr 1
      omega
    rw [Option.getD_some, this]
    exact List.getElem_mem _
  · intro ha x hx
    obtain ⟨j, hj, rfl⟩ := List.mem_iff_getElem.1 hx
    rw [List.length_drop] at hj
    have := ha (1 + j) (by omega) (by omega)
    rw [List.getD_eq_getElem?_getD, List.getElem?_eq_getElem (by omega)] at this
    rw [List.getElem_drop]
    exact this

theorem fitsB_line (wd : List UInt8) (m : Nat) (ws : List (List UInt8)) : fitsB (m + 1) (fun k x => if k = 0 then decide (x = wd) else dOk x) ws = lineB wd m ws := by
  unfold fitsB lineB
  rw [decide_eq_decide]
  constructor
  · rintro ⟨h1, h2⟩
    refine ⟨h1, ?_, (all_drop dOk [] ws m h1).2 fun j h0 hj => ?_⟩
    · have := h2 0 (by omega)
      simpa using this
    · have := h2 j hj
      dsimp only at this
      rwa [if_neg (by omega)] at this
  · rintro ⟨h1, h2, h3⟩
    refine ⟨h1, fun j hj => ?_⟩
    dsimp only
    by_cases h0 : j = 0
    · subst h0; rw [if_pos rfl, h2]; simp
    · rw [if_neg h0]; exact (all_drop dOk [] ws m h1).1 h3 j (by omega) hj

theorem fits_wholes (s : List UInt8) (hs : s.length ≤ 2000) (wd : List UInt8) (q0 : Nat) (qs : List Nat) (pos : Nat → Nat) (b : Nat) (zs : List Int) (g cap : Nat) (w : World)
    (hg : g ≠ b) (hl : qs.length ≤ 900) (hcap : qs.length + 1 ≤ cap) (hcap9 : cap ≤ 9223372036854775807)
    (hrow : ∀ i fv, (placeE q0 :: qs.map placeW)[i]? = some fv → w.cell? ⟨g, i, none⟩ = some fv)
    (h0 : w.cell? ⟨q0, 0, none⟩ = some (.string ⟨wd.toArray⟩)) (hq0 : q0 ≠ b)
    (hqs : ∀ j q, qs[j]? = some q → q ≠ b ∧ w.cell? ⟨q, 0, none⟩ = some (.pointer (some ⟨b, 2 * pos j, none⟩)) ∧ pos j < zs.length)
    (hz : Whs w b zs) :
    Calls Tryz.prog 319 #[.string ⟨s.toArray⟩, .slice (some ⟨g, 0, none⟩) (qs.length + 1) cap] w fun e w' =>
      e = .returned (.bool (lineB wd qs.length (words s))) ∧ Wr (fun k => k = b) w w' ∧ (lineB wd qs.length (words s) = true → Whs w' b (putS pos 0 zs ((words s).drop 1))) := by
  have hlen : (placeE q0 :: qs.map placeW).length = qs.length + 1 := by simp
  have hF := fits_any s hs (placeE q0 :: qs.map placeW) (fun k x => if k = 0 then decide (x = wd) else dOk x) (fun k => k = b) (fun pre A => Whs A b (putS pos 0 zs (pre.drop 1))) g cap w
    (fun x hx => hx ▸ hz.lt) hg (by omega) (by omega) hcap9 hrow (fun pre A B hA hk => hA.keep hk) (fun pre A a y v hA hy hn ha => hA.setCell hy hn (by have := hz.lt; omega) v) ?_ hz
  · rw [hlen, fitsB_line] at hF
    exact hF
  · intro k fv hfv
    cases k with
    | zero =>
      simp at hfv
      subst hfv
      refine ⟨_, q0, rfl, enters_E, fun pre x W hp hx hw hst => ?_⟩
      refine (exactly_call x wd q0 W (hw.cell (p := ⟨q0, 0, none⟩) hq0 h0)).mono ?_
      rintro e W' ⟨rfl, rfl⟩
      refine ⟨rfl, Wr.refl _ _, fun _ => ?_⟩
      obtain rfl : pre = [] := List.eq_nil_of_length_eq_zero hp
      exact hst
    | succ j =>
      rw [List.getElem?_cons_succ, List.getElem?_map] at hfv
      cases hq : qs[j]? with
      | none => rw [hq] at hfv; cases hfv
      | some q =>
        rw [hq] at hfv
        injection hfv with hfv
        subst hfv
        obtain ⟨hqb, hqc, hpj⟩ := hqs j q hq
        refine ⟨_, q, rfl, enters_W, fun pre x W hp hx hw hst => ?_⟩
        refine (whole_place x q b (pos j) (2 * pos j) _ W (hw.cell (p := ⟨q, 0, none⟩) hqb hqc) rfl hst (by rw [putS_len]; exact hpj) hqb hx).mono ?_
        rintro e W' ⟨rfl, hw', hz'⟩
        refine ⟨rfl, hw', fun hd => ?_⟩
        have e1 : (pre ++ [x]).drop 1 = pre.drop 1 ++ [x] := by rw [List.drop_append_of_le_length (by omega)]
        have e2 : (pre.drop 1).length = j := by rw [List.length_drop]; omega
        rw [e1, putS_snoc, e2, Nat.zero_add]
        exact hz' hd
end Go.Proofs.YtnhfdcfnojnofaaGreatDoor
