/-
  Part 9 of the texts ahead of Pls1: Apd1, Its2, Tn1, Tm1.
-/
import Derived.Test.YtnhfdcfnojnofaaGreatDoorPls1Z2
import Derived.Deep.AppendLies
import Derived.Deep.RegionLaw
import Derived.Test.YtnhfdcfnojnofaaGreatDoorPls1Z8
import Derived.Test.YtnhfdcfnojnofaaGreatDoorPls1Z4
set_option linter.unusedSimpArgs false
set_option linter.unusedVariables false
/-
  Appending to a row of one's own: no cell of the row comes to be a digit.
-/
namespace Go.Proofs.YtnhfdcfnojnofaaGreatDoor
open Go.RowKit

/-- No digit of a number. -/
def NotDig (v : Value) : Prop := ∀ n, v ≠ .int .u32 n

/-- Block k holds cells, and none of them a digit. -/
def NoDig (w : World) (k : Nat) : Prop := (∃ o : Obj, w.heap[k]? = some o ∧ o.isCells = true) ∧ ∀ o v, w.cell? ⟨k, o, none⟩ = some v → ∀ n, v ≠ .int .u32 n

theorem nodig_of_block {w : World} {g : Nat} {cs : Array Value} {t : TypeId} {fr : Nat × Nat} (h : w.heap[g]? = some (.cells cs t fr)) (hc : ∀ v ∈ cs.toList, NotDig v) : NoDig w g := by
  refine ⟨⟨_, h, rfl⟩, fun o v hv n => ?_⟩
  rw [cell_of_row w g o cs t fr h] at hv
  exact hc v (by simpa using Array.mem_of_getElem? hv) n

theorem NoDig.block {w : World} {g : Nat} {cs : Array Value} {t : TypeId} {fr : Nat × Nat} (hn : NoDig w g) (h : w.heap[g]? = some (.cells cs t fr)) : ∀ v ∈ cs.toList, NotDig v := by
  intro v hv
  obtain ⟨j, hj, rfl⟩ := Array.mem_iff_getElem.1 (by simpa using hv : v ∈ cs)
  refine hn.2 j _ ?_
  rw [cell_of_row w g j cs t fr h, Array.getElem?_eq_getElem hj]

theorem zeroCells_dig {z : Array Value} {k : Nat} (hz : ∀ u ∈ z.toList, NotDig u) : ∀ u ∈ (Builtin.zeroCells z k).toList, NotDig u := by
  intro u hu
  simp [Builtin.zeroCells] at hu
  obtain ⟨j, hj, rfl⟩ := hu
  have hp : 0 < z.size := by
    rcases Nat.eq_zero_or_pos z.size with h | h
    · rw [h] at hj; omega
    · exact h
  have hm : j % z.size < z.size := Nat.mod_lt _ hp
  refine hz _ ?_
  rw [getElem!_pos z (j % z.size) hm]
  simp

section
variable {P : Program} (w : World)

theorem append_nodig (t ty : TypeId) (base : Nat) (e : TypeId) (i : TypeInfo) (z : Value) (size bytes : Nat) (ht : P.underlying t = some (.slice e)) (hi : P.info? e = some i) (hz : i.zero = some z)
    (hsize : i.size = size) (hby : i.bytes = bytes) (hzs : z.cells.size = size) (hsz : 0 < size)
    (v : Value) (n : Nat) (xs : List Value) (hown : w.ownsRow base e size v n xs)
    (ad : Addr) (m c : Nat) (news : List Value) (hl : news.length = m * size) (hnews : ∀ j u, news[j]? = some u → w.cell? (ad.add j) = some u) (h1 : ∀ u ∈ news, u.oneCell' = true)
    (hm : 0 < m) (h63 : n + m ≤ maxLen) (hbytes : (n + m) * bytes ≤ 140737488355328)
    (hzn : ∀ u ∈ z.cells.toList, NotDig u) (hnn : ∀ u ∈ news, NotDig u) (hvn : ∀ g, v.ownBlock = some g → NoDig w g) {v' : Value} {w' : World}
    (hr : (Builtin.append_ #[t, t] ty #[v, .slice (some ad) m c]).run P w = .ok v' w') : ∀ g, v'.ownBlock = some g → NoDig w' g := by
  subst hsize
  subst hby
  have hsmall : n + m ≤ 9223372036854775807 := by simp only [maxLen] at h63; omega
  rcases hown.2 with ⟨rfl, rfl⟩ | ⟨g, cap, cur, rfl, hbg, hg, hnc, hcm, hcs, htake⟩
  · have hr2 := run_append_nil (P := P) w t ty e i z ht hi hz ad m c news hl hnews (by omega) (by omega) (by have hb := hbytes; simp only [Nat.zero_add] at hb; omega)
    rw [hr2] at hr
    simp only [Result.ok.injEq] at hr
    obtain ⟨rfl, rfl⟩ := hr
    intro g hg
    simp [Value.ownBlock] at hg
    subst hg
    refine nodig_of_block (heap_alloc_new w.drew _) ?_
    intro u hu
    rw [Array.toList_append, List.mem_append] at hu
    rcases hu with h | h
    · exact hnn u (by simpa using h)
    · exact zeroCells_dig hzn u h
  · have hN := (hvn g rfl).block hg
    by_cases hroom : n + m ≤ cap
    · have hfit : n * i.size + news.length ≤ cur.size := by rw [hl, hcs, ← Nat.add_mul]; exact Nat.mul_le_mul_right _ hroom
      have hr2 := run_append_room (P := P) w t ty e i ht hi g n cap cur hg ad m c news hl hnews h1 hroom hfit
      rw [hr2] at hr
      simp only [Result.ok.injEq] at hr
      obtain ⟨rfl, rfl⟩ := hr
      intro g' hg'
      simp [Value.ownBlock] at hg'
      subst hg'
      refine nodig_of_block (setRow_heap w g cur _ e _ hg) ?_
      intro u hu
      simp only [List.mem_append] at hu
      rcases hu with (h | h) | h
      · exact hN u (List.mem_of_mem_take h)
      · exact hnn u h
      · exact hN u (List.mem_of_mem_drop h)
    · have holds : ∀ j u, xs[j]? = some u → w.cell? ((⟨g, 0, none⟩ : Addr).add j) = some u := hown.cells (g := g) rfl
      have hr2 := run_append_grow (P := P) w t ty e i z ht hi hz ⟨g, 0, none⟩ n cap xs hown.1 holds ad m c news hl hnews (by omega) (by omega) (growslice_fits (by omega) hbytes)
      rw [hr2] at hr
      simp only [Result.ok.injEq] at hr
      obtain ⟨rfl, rfl⟩ := hr
      intro g' hg'
      simp [Value.ownBlock] at hg'
      subst hg'
      refine nodig_of_block (heap_alloc_new w.drew _) ?_
      intro u hu
      rw [Array.toList_append, Array.toList_append, List.mem_append, List.mem_append] at hu
      rcases hu with (h | h) | h
      · exact hN u (List.mem_of_mem_take (by rw [htake]; simpa using h))
      · exact hnn u (by simpa using h)
      · exact zeroCells_dig hzn u h

theorem wp_append_dig {o : Oper} {a : Act} {K : Act → World → Prop} {Q : Exit → Act → World → Prop} (s x : Operand) (t : TypeId)
    (ho : o.op = .call { callee := .builtin .append, args := #[s, x], argTypes := #[t, t] })
    (base : Nat) (e : TypeId) (i : TypeInfo) (z : Value) (size bytes : Nat) (ht : P.underlying t = some (.slice e)) (hi : P.info? e = some i) (hz : i.zero = some z)
    (hsize : i.size = size) (hby : i.bytes = bytes) (hzs : z.cells.size = size) (hsz : 0 < size)
    (v : Value) (n : Nat) (xs : List Value) (hs : a.eval s = v) (hown : w.ownsRow base e size v n xs)
    (ad : Addr) (m c : Nat) (news : List Value) (hx : a.eval x = .slice (some ad) m c) (hl : news.length = m * size) (hnews : ∀ j u, news[j]? = some u → w.cell? (ad.add j) = some u) (h1 : ∀ u ∈ news, u.oneCell' = true)
    (hm : 0 < m) (h63 : n + m ≤ maxLen) (hbytes : (n + m) * bytes ≤ 140737488355328) (hbase : base ≤ w.heap.size) (H : Nat) (hH : w.heap.size = H)
    (hzn : ∀ u ∈ z.cells.toList, NotDig u) (hnn : ∀ u ∈ news, NotDig u) (hvn : ∀ g, v.ownBlock = some g → NoDig w g)
    (h : ∀ g cap w', w'.ownsRow base e size (.slice (some ⟨g, 0, none⟩) (n + m) cap) (n + m) (xs ++ news) → w.grownBy w' v.ownBlock → (v.ownBlock = some g ∨ g = H) → g < w'.heap.size → NoDig w' g → K (a.put o.dst (.slice (some ⟨g, 0, none⟩) (n + m) cap)) w') : o.wp P a w K Q := by
  obtain ⟨g, cap, w', hr, h2, h3, h4, h5⟩ := run_append_lies (P := P) w t o.type base e i z size bytes ht hi hz hsize hby hzs hsz v n xs hown ad m c news hl hnews h1 hm h63 hbytes hbase H hH
  have h6 := append_nodig (P := P) w t o.type base e i z size bytes ht hi hz hsize hby hzs hsz v n xs hown ad m c news hl hnews h1 hm h63 hbytes hzn hnn hvn hr g rfl
  unfold Oper.wp execOp
  simp only [ho, resolve, invoke, builtin, Sem.run_bind, Sem.run_pure, Result.andThen_ok, List.map_toArray, List.map_cons, List.map_nil, hs, hx, hr]
  exact h g cap w' h2 h3 h4 h5 h6

theorem step_append_dig {ops : Array Oper} {o : Oper} {a : Act} {K : Act → World → Prop} {Q : Exit → Act → World → Prop} {E : Prop} (hgd : o.guard = none) (s x : Operand) (t : TypeId)
    (ho : o.op = .call { callee := .builtin .append, args := #[s, x], argTypes := #[t, t] })
    (base : Nat) (e : TypeId) (i : TypeInfo) (z : Value) (size bytes : Nat) (ht : P.underlying t = some (.slice e)) (hi : P.info? e = some i) (hz : i.zero = some z)
    (hsize : i.size = size) (hby : i.bytes = bytes) (hzs : z.cells.size = size) (hsz : 0 < size)
    (v : Value) (n : Nat) (xs : List Value) (hs : a.eval s = v) (hown : w.ownsRow base e size v n xs)
    (ad : Addr) (m c : Nat) (news : List Value) (hx : a.eval x = .slice (some ad) m c) (hl : news.length = m * size) (hnews : ∀ j u, news[j]? = some u → w.cell? (ad.add j) = some u) (h1 : ∀ u ∈ news, u.oneCell' = true)
    (hm : 0 < m) (h63 : n + m ≤ maxLen) (hbytes : (n + m) * bytes ≤ 140737488355328) (hbase : base ≤ w.heap.size) (H : Nat) (hH : w.heap.size = H)
    (hzn : ∀ u ∈ z.cells.toList, NotDig u) (hnn : ∀ u ∈ news, NotDig u) (hvn : ∀ g, v.ownBlock = some g → NoDig w g)
    (h : ∀ g cap w', w'.ownsRow base e size (.slice (some ⟨g, 0, none⟩) (n + m) cap) (n + m) (xs ++ news) → w.grownBy w' v.ownBlock → (v.ownBlock = some g ∨ g = H) → g < w'.heap.size → NoDig w' g → K (a.put o.dst (.slice (some ⟨g, 0, none⟩) (n + m) cap)) w') :
    if Region.wanted o (yielded ops a.tmps) = true then Oper.wp P o a w K Q else E := by
  have hw : Region.wanted o (yielded ops a.tmps) = true := by simp [Region.wanted, hgd]
  rw [if_pos hw]
  exact wp_append_dig w s x t ho base e i z size bytes ht hi hz hsize hby hzs hsz v n xs hs hown ad m c news hx hl hnews h1 hm h63 hbytes hbase H hH hzn hnn hvn h
end
end Go.Proofs.YtnhfdcfnojnofaaGreatDoor

/-
  What stays where cells stay: digits, naturals, whole numbers; a whole number that lies in two cells.
-/
namespace Go.Proofs.YtnhfdcfnojnofaaGreatDoor
open Go.RowKit

theorem Row.kept {B : Nat} {w w' : World} {b off : Nat} {ds : List Nat} (h : Row w b off ds) (hk : Keep B w w') : Row w' b off ds :=
  fun i hi => hk.cell (h i hi)

theorem NatV.keep {B : Nat} {w w' : World} {v : Value} {n : Nat} (h : NatV w v n) (hk : Keep B w w') : NatV w' v n := by
  obtain ⟨ds, ⟨ao, cap, hv, hc, hr⟩, h2⟩ := h
  refine ⟨ds, ⟨ao, cap, hv, hc, fun hne => ?_⟩, h2⟩
  obtain ⟨b, off, ha, hlt, hrow⟩ := hr hne
  exact ⟨b, off, ha, Nat.lt_of_lt_of_le hlt hk.size, hrow.kept hk⟩

theorem WholeV.keep {B : Nat} {w w' : World} {x : Value} {z : Int} (h : WholeV w x z) (hk : Keep B w w') : WholeV w' x z := by
  obtain ⟨b, v, h1, h2, h3⟩ := h
  exact ⟨b, v, h1, h2.keep hk, h3⟩

theorem NoDig.same {w w' : World} {k : Nat} (h : NoDig w k) (he : w'.heap[k]? = w.heap[k]?) : NoDig w' k := by
  obtain ⟨⟨o, ho, hc⟩, h2⟩ := h
  exact ⟨⟨o, he.trans ho, hc⟩, fun p v hv => h2 p v ((World.cell?_of_block (w := w) he).symm.trans hv)⟩

theorem NoDig.keep {B : Nat} {w w' : World} {k : Nat} (h : NoDig w k) (hk : Keep B w w') : NoDig w' k := by
  obtain ⟨o, ho, hc⟩ := h.1
  exact h.same ((hk.block k o ho (.inr hc)).trans ho.symm)

theorem NoDig.wr {T : Nat → Prop} {w w' : World} {k : Nat} (h : NoDig w k) (hw : Wr T w w') (ht : ¬ T k) : NoDig w' k := by
  obtain ⟨o, ho, hc⟩ := h.1
  exact h.same (hw.block k (Array.getElem?_eq_some_iff.1 ho).1 ht)

theorem NoDig.setCell {w : World} {k p : Nat} {y : Value} (h : NoDig w k) (hx : w.cell? ⟨k, p, none⟩ = some y) {v : Value} (hv : ∀ n, v ≠ .int .u32 n) : NoDig (w.setCell ⟨k, p, none⟩ v) k := by
  obtain ⟨⟨o, ho, hc⟩, h2⟩ := h
  refine ⟨?_, fun q u hu n => ?_⟩
  · obtain ⟨hlt, he⟩ := Array.getElem?_eq_some_iff.1 ho
    have hl2 : k < (w.setCell ⟨k, p, none⟩ v).heap.size := by simpa [World.setCell] using hlt
    refine ⟨_, Array.getElem?_eq_getElem hl2, ?_⟩
    simp only [World.setCell, Array.getElem_modify, if_true, he]
    cases o <;> simp_all [Obj.isCells]
  · by_cases hpq : p = q
    · subst hpq
      rw [World.cell?_setCell_same _ _ _ hx] at hu
      cases hu
      exact hv n
    · rw [World.cell?_setCell_other _ _ _ _ (by intro e; injection e with _ e2; exact hpq e2)] at hu
      exact h2 q u hu n

theorem NatV.wr {T : Nat → Prop} {w w' : World} {v : Value} {n : Nat} (h : NatV w v n) (hw : Wr T w w') (ht : ∀ k, T k → NoDig w k) : NatV w' v n := by
  obtain ⟨ds, ⟨ao, cap, hv, hc, hr⟩, h2⟩ := h
  refine ⟨ds, ⟨ao, cap, hv, hc, fun hne => ?_⟩, h2⟩
  obtain ⟨b, off, ha, hlt, hrow⟩ := hr hne
  have hb : ¬ T b := by
    intro e
    have h0 : 0 < ds.length := List.length_pos_iff.2 hne
    exact (ht b e).2 _ _ (hrow 0 h0) _ rfl
  exact ⟨b, off, ha, Nat.lt_of_lt_of_le hlt hw.size, fun i hi => hw.cell hb (hrow i hi)⟩

theorem WholeV.wr {T : Nat → Prop} {w w' : World} {x : Value} {z : Int} (h : WholeV w x z) (hw : Wr T w w') (ht : ∀ k, T k → NoDig w k) : WholeV w' x z := by
  obtain ⟨b, v, h1, h2, h3⟩ := h
  exact ⟨b, v, h1, h2.wr hw ht, h3⟩

/-- At the cells o, o + 1 of block b lies a whole number. -/
def WholeAt (w : World) (b o : Nat) (z : Int) : Prop :=
  ∃ x ao l c, w.cell? ⟨b, o, none⟩ = some (.bool x) ∧ w.cell? ⟨b, o + 1, none⟩ = some (.slice ao l c) ∧ WholeV w (.agg #[.bool x, .slice ao l c]) z ∧ w.frozen? ⟨b, o, none⟩ = false ∧ w.frozen? ⟨b, o + 1, none⟩ = false

theorem WholeAt.keep {B : Nat} {w w' : World} {b o : Nat} {z : Int} (h : WholeAt w b o z) (hk : Keep B w w') : WholeAt w' b o z := by
  obtain ⟨x, ao, l, c, h1, h2, h3, h4, h5⟩ := h
  exact ⟨x, ao, l, c, hk.cell h1, hk.cell h2, h3.keep hk, (hk.frozen h1).trans h4, (hk.frozen h2).trans h5⟩

theorem WholeAt.below {w w' : World} {b o : Nat} {z : Int} (h : WholeAt w b o z) (hb : Below w.heap.size w w') : WholeAt w' b o z := h.keep (B := 0) (Keep.of_below hb)

theorem WholeAt.lt {w : World} {b o : Nat} {z : Int} (h : WholeAt w b o z) : b < w.heap.size := by
  obtain ⟨x, ao, l, c, h1, _⟩ := h
  exact block_lt_of_cell h1

/-- Two cells are written with another whole number: that lies there, and the others lie as they lay. -/
theorem WholeAt.put {w : World} {b o : Nat} {z z' : Int} {x : Bool} {ao : Option Addr} {l c : Nat} (h : WholeAt w b o z) (hn : NoDig w b) (hv : WholeV w (.agg #[.bool x, .slice ao l c]) z') :
    WholeAt ((w.setCell ⟨b, o, none⟩ (.bool x)).setCell ⟨b, o + 1, none⟩ (.slice ao l c)) b o z' := by
  obtain ⟨y, a1, l1, c1, h1, h2, h3, h4, h5⟩ := h
  have e1 : (w.setCell ⟨b, o, none⟩ (.bool x)).cell? ⟨b, o + 1, none⟩ = some (.slice a1 l1 c1) := by
    rw [World.cell?_setCell_other _ _ _ _ (by intro e; injection e with _ e2; omega)]; exact h2
  refine ⟨x, ao, l, c, ?_, World.cell?_setCell_same _ _ _ e1, ?_, by simpa using h4, by simpa using h5⟩
  · rw [World.cell?_setCell_other _ _ _ _ (by intro e; injection e with _ e2; omega)]
    exact World.cell?_setCell_same _ _ _ h1
  · exact hv.wr (T := fun k => k = b) (((Wr.refl (fun k => k = b) w).setCell (p := ⟨b, o, none⟩) rfl _).setCell (p := ⟨b, o + 1, none⟩) rfl _) (fun k e => e ▸ hn)

theorem WholeAt.other {w : World} {b o p : Nat} {z : Int} {x : Bool} {v : Value} (h : WholeAt w b p z) (hn : NoDig w b) (hp : p + 1 < o ∨ o + 1 < p) :
    WholeAt ((w.setCell ⟨b, o, none⟩ (.bool x)).setCell ⟨b, o + 1, none⟩ v) b p z := by
  obtain ⟨y, a1, l1, c1, h1, h2, h3, h4, h5⟩ := h
  refine ⟨y, a1, l1, c1, ?_, ?_, ?_, by simpa using h4, by simpa using h5⟩
  · rw [World.cell?_setCell_other _ _ _ _ (by intro e; injection e with _ e2; omega), World.cell?_setCell_other _ _ _ _ (by intro e; injection e with _ e2; omega)]
    exact h1
  · rw [World.cell?_setCell_other _ _ _ _ (by intro e; injection e with _ e2; omega), World.cell?_setCell_other _ _ _ _ (by intro e; injection e with _ e2; omega)]
    exact h2
  · exact h3.wr (T := fun k => k = b) (((Wr.refl (fun k => k = b) w).setCell (p := ⟨b, o, none⟩) rfl _).setCell (p := ⟨b, o + 1, none⟩) rfl _) (fun k e => e ▸ hn)
end Go.Proofs.YtnhfdcfnojnofaaGreatDoor

/-
  Numbers by places of four decimal digits: lists, the least place first.
-/
namespace Go.Proofs.YtnhfdcfnojnofaaGreatDoor.T


/-- The number that a list of digits to the base 2^32 is, the least first. -/
def val : List Nat → Nat
  | [] => 0
  | d :: ds => d + 10000 * val ds

/-- Each digit is below the base. -/
def Dig (ds : List Nat) : Prop := ∀ d ∈ ds, d < 10000

theorem Dig.cons {d : Nat} {ds : List Nat} (h : Dig (d :: ds)) : d < 10000 ∧ Dig ds :=
  ⟨h d (List.mem_cons_self ..), fun x hx => h x (List.mem_cons_of_mem _ hx)⟩

theorem Dig.get {ds : List Nat} (h : Dig ds) (i : Nat) : ds.getD i 0 < 10000 := by
  by_cases hi : i < ds.length
  · rw [List.getD_eq_getElem?_getD, List.getElem?_eq_getElem hi, Option.getD_some]
    exact h _ (List.getElem_mem hi)
  · rw [List.getD_eq_getElem?_getD, List.getElem?_eq_none (by omega)]; simp

theorem Dig.take {ds : List Nat} (h : Dig ds) (n : Nat) : Dig (ds.take n) := fun d hd => h d (List.mem_of_mem_take hd)

theorem Dig.drop {ds : List Nat} (h : Dig ds) (n : Nat) : Dig (ds.drop n) := fun d hd => h d (List.mem_of_mem_drop hd)

theorem Dig.append {a b : List Nat} (h : Dig a) (k : Dig b) : Dig (a ++ b) := fun d hd => by
  rcases List.mem_append.1 hd with h1 | h1
  · exact h d h1
  · exact k d h1

theorem val_append (a b : List Nat) : val (a ++ b) = val a + 10000 ^ a.length * val b := by
  induction a with
  | nil => simp [val]
  | cons d ds ih =>
    simp only [List.cons_append, val, List.length_cons, ih, Nat.pow_succ, Nat.mul_add]
    rw [Nat.mul_comm (10000 ^ ds.length) 10000, Nat.mul_assoc]
    omega

theorem val_lt {ds : List Nat} (h : Dig ds) : val ds < 10000 ^ ds.length := by
  induction ds with
  | nil => simp [val]
  | cons d ds ih =>
    have h1 := h.cons.1
    have h2 := ih h.cons.2
    simp only [val, List.length_cons, Nat.pow_succ]
    generalize 10000 ^ ds.length = p at *
    omega

theorem val_trimL (ds : List Nat) (n : Nat) (h : n ≤ ds.length) : val (ds.take (trimL ds n)) = val (ds.take n) := by
  induction n with
  | zero => rfl
  | succ n ih =>
    unfold trimL
    split
    · rename_i hz
      rw [ih (by omega), take_snoc_getD ds n (by omega), val_append, hz]
      simp [val]
    · rfl

/-- A number of so many digits, the last not nought, is at least that power. -/
theorem top_le {ds : List Nat} (h : Top ds) (k : Nat) (hk : ds.length = k + 1) : 10000 ^ k ≤ val ds := by
  have h1 := h k hk
  have e := take_snoc_getD ds k (by omega)
  rw [List.take_of_length_le (by omega)] at e
  rw [e, val_append, List.length_take, Nat.min_eq_left (by omega)]
  simp only [val, Nat.mul_zero, Nat.add_zero]
  have : 1 ≤ ds.getD k 0 := by omega
  calc 10000 ^ k = 10000 ^ k * 1 := by rw [Nat.mul_one]
    _ ≤ 10000 ^ k * ds.getD k 0 := Nat.mul_le_mul_left _ this
    _ ≤ _ := Nat.le_add_left _ _

theorem pow_mono {a b : Nat} (h : a ≤ b) : 10000 ^ a ≤ 10000 ^ b := Nat.pow_le_pow_right (by decide) h

theorem pow_pos (a : Nat) : 0 < 10000 ^ a := Nat.pow_pos (by decide)

/-- The number of digits, by the number. -/
theorem top_len {ds : List Nat} (h : Top ds) {k : Nat} (hv : val ds < 10000 ^ k) : ds.length ≤ k := by
  cases hl : ds.length with
  | zero => omega
  | succ j =>
    have := top_le h j hl
    have : ¬ k ≤ j := fun hkj => by have := pow_mono hkj; omega
    omega

theorem top_zero {ds : List Nat} (h : Top ds) : val ds = 0 ↔ ds = [] := by
  constructor
  · intro hv
    cases hl : ds.length with
    | zero => exact List.length_eq_zero_iff.1 hl
    | succ j => have := top_le h j hl; have := pow_pos j; omega
  · rintro rfl; rfl

/-- Lists of digits of one length: equal numbers, equal lists. -/
theorem val_inj_len {a b : List Nat} (ha : Dig a) (hb : Dig b) (hl : a.length = b.length) (hv : val a = val b) : a = b := by
  induction a generalizing b with
  | nil => cases b with
    | nil => rfl
    | cons _ _ => simp at hl
  | cons d ds ih => cases b with
    | nil => simp at hl
    | cons e es =>
      simp only [val] at hv
      have h1 := ha.cons.1
      have h2 := hb.cons.1
      have hd : d = e := by omega
      have ht : val ds = val es := by omega
      rw [hd, ih ha.cons.2 hb.cons.2 (by simpa using hl) ht]

/-- The shorter one is the lesser. -/
theorem top_lt_of_len {a b : List Nat} (ha : Dig a) (hb : Top b) (h : a.length < b.length) : val a < val b := by
  have h1 := val_lt ha
  cases hl : b.length with
  | zero => omega
  | succ j =>
    have := top_le hb j hl
    have := pow_mono (show a.length ≤ j by omega)
    omega

theorem top_inj {a b : List Nat} (ha : Dig a) (hb : Dig b) (ta : Top a) (tb : Top b) (hv : val a = val b) : a = b := by
  rcases Nat.lt_trichotomy a.length b.length with h | h | h
  · have := top_lt_of_len ha tb h; omega
  · exact val_inj_len ha hb h hv
  · have := top_lt_of_len hb ta h; omega

theorem val_take_drop (ds : List Nat) (k : Nat) (h : k ≤ ds.length) : val ds = val (ds.take k) + 10000 ^ k * val (ds.drop k) := by
  have := val_append (ds.take k) (ds.drop k)
  rw [List.take_append_drop, List.length_take, Nat.min_eq_left h] at this
  exact this

theorem val_take_succ (ds : List Nat) (k : Nat) (h : k < ds.length) : val (ds.take (k + 1)) = val (ds.take k) + 10000 ^ k * ds.getD k 0 := by
  rw [take_snoc_getD ds k h, val_append, List.length_take, Nat.min_eq_left (by omega)]; simp [val]

theorem val_drop (ds : List Nat) (k : Nat) (h : k < ds.length) : val (ds.drop k) = ds.getD k 0 + 10000 * val (ds.drop (k + 1)) := by
  rw [List.drop_eq_getElem_cons h, val, List.getD_eq_getElem?_getD, List.getElem?_eq_getElem h, Option.getD_some]

/-- One digit more of a number, noughts behind its end. -/
theorem val_take_any (ds : List Nat) (k : Nat) : val (ds.take (k + 1)) = val (ds.take k) + 10000 ^ k * ds.getD k 0 := by
  by_cases h : k < ds.length
  · exact val_take_succ ds k h
  · rw [List.take_of_length_le (by omega), List.take_of_length_le (by omega), List.getD_eq_getElem?_getD, List.getElem?_eq_none (by omega)]; simp

/-- The highest digit in which two lists of one length differ says which number is the lesser. -/
theorem val_lt_at {a b : List Nat} (ha : Dig a) (hl : a.length = b.length) (k : Nat) (hk : k < a.length) (hd : a.drop (k + 1) = b.drop (k + 1)) (hlt : a.getD k 0 < b.getD k 0) : val a < val b := by
  rw [val_take_drop a k (by omega), val_take_drop b k (by omega), val_drop a k hk, val_drop b k (by omega), hd]
  have h1 := val_lt (ha.take k)
  rw [List.length_take, Nat.min_eq_left (by omega)] at h1
  generalize val (b.drop (k + 1)) = x
  generalize 10000 ^ k = p at *
  have h2 : p * (a.getD k 0 + 10000 * x + 1) ≤ p * (b.getD k 0 + 10000 * x) := Nat.mul_le_mul_left _ (by omega)
  rw [Nat.mul_add, Nat.mul_one] at h2
  omega

end Go.Proofs.YtnhfdcfnojnofaaGreatDoor.T

/-
  Numbers by places of four decimal digits, as they lie in memory.
-/
namespace Go.Proofs.YtnhfdcfnojnofaaGreatDoor.T
open Go.RowKit


/-- The cells of block b from off on read as these digits. -/
def Row (w : World) (b off : Nat) (ds : List Nat) : Prop :=
  ∀ i, i < ds.length → w.cell? ⟨b, off + i, none⟩ = some (.int .i64 ((ds.getD i 0 : Nat) : Int))

/-- A slice value that reads as these digits. -/
def U32s (w : World) (v : Value) (ds : List Nat) : Prop :=
  ∃ ao cap, v = .slice ao ds.length cap ∧ ds.length ≤ cap ∧ (ds ≠ [] → ∃ b off, ao = some ⟨b, off, none⟩ ∧ b < w.heap.size ∧ Row w b off ds)

/-- A slice value that stands for a natural: digits, the last not nought. -/
def NatV (w : World) (v : Value) (n : Nat) : Prop := ∃ ds, U32s w v ds ∧ Dig ds ∧ Top ds ∧ val ds = n

theorem Row.below {w w' : World} {b off B : Nat} {ds : List Nat} (h : Row w b off ds) (hb : Below B w w') (hB : b < B) : Row w' b off ds :=
  fun i hi => (hb.cell (p := ⟨b, off + i, none⟩) hB).trans (h i hi)

theorem U32s.below {w w' : World} {v : Value} {ds : List Nat} (h : U32s w v ds) (hb : Below w.heap.size w w') : U32s w' v ds := by
  obtain ⟨ao, cap, hv, hc, hr⟩ := h
  refine ⟨ao, cap, hv, hc, fun hne => ?_⟩
  obtain ⟨b, off, ha, hlt, hrow⟩ := hr hne
  exact ⟨b, off, ha, Nat.lt_of_lt_of_le hlt hb.size, hrow.below hb hlt⟩

theorem NatV.below {w w' : World} {v : Value} {n : Nat} (h : NatV w v n) (hb : Below w.heap.size w w') : NatV w' v n := by
  obtain ⟨ds, h1, h2⟩ := h
  exact ⟨ds, h1.below hb, h2⟩

theorem NatV.alloc {w : World} {v : Value} {n : Nat} (h : NatV w v n) (o : Obj) : NatV (w.alloc o) v n :=
  h.below ((Below.refl _ _).alloc (Nat.le_refl _) o)

theorem Row.take {w : World} {b off : Nat} {ds : List Nat} (h : Row w b off ds) (n : Nat) : Row w b off (ds.take n) := by
  intro i hi
  rw [List.length_take] at hi
  rw [h i (by omega), List.getD_eq_getElem?_getD, List.getD_eq_getElem?_getD, List.getElem?_take, if_pos (by omega)]

theorem Row.drop {w : World} {b off : Nat} {ds : List Nat} (h : Row w b off ds) (n : Nat) : Row w b (off + n) (ds.drop n) := by
  intro i hi
  rw [List.length_drop] at hi
  rw [show off + n + i = off + (n + i) by omega, h (n + i) (by omega), List.getD_eq_getElem?_getD, List.getD_eq_getElem?_getD, List.getElem?_drop]

theorem Row.append {w : World} {b off : Nat} {xs ys : List Nat} (h : Row w b off xs) (k : Row w b (off + xs.length) ys) : Row w b off (xs ++ ys) := by
  intro i hi
  rw [List.length_append] at hi
  by_cases hx : i < xs.length
  · rw [h i hx, List.getD_eq_getElem?_getD, List.getD_eq_getElem?_getD, List.getElem?_append_left hx]
  · have := k (i - xs.length) (by omega)
    rw [show off + xs.length + (i - xs.length) = off + i by omega] at this
    rw [this, List.getD_eq_getElem?_getD, List.getD_eq_getElem?_getD, List.getElem?_append_right (by omega)]

theorem row_of_owns {w : World} {base e g n cap : Nat} {ds : List Nat} (h : w.ownsRow base e 1 (.slice (some ⟨g, 0, none⟩) n cap) n (ds.map fun d : Nat => .int .i64 (d : Int))) (hn : ds.length = n) : Row w g 0 ds := by
  intro i hi
  have := h.cellAt i (by omega)
  rw [Nat.zero_add, this, List.getElem?_map, List.getElem?_eq_getElem hi, List.getD_eq_getElem?_getD, List.getElem?_eq_getElem hi]
  rfl

/-- A digit as a value. -/
def encD (d : Nat) : Value := .int .i64 (d : Int)

theorem owns_parts {w : World} {base e n : Nat} {v : Value} {ds : List Nat} (h : w.ownsRow base e 1 v n (ds.map encD)) (hne : v ≠ .slice none 0 0) :
    ∃ g cap, v = .slice (some ⟨g, 0, none⟩) n cap ∧ n ≤ cap ∧ base ≤ g ∧ g < w.heap.size ∧ Row w g 0 ds ∧ ∀ m, Free w g 0 m := by
  have h0 := h
  obtain ⟨hl, h1 | ⟨g, cap, cur, hv, hg, hh, hn, _, _, _⟩⟩ := h
  · exact absurd h1.1 hne
  · subst hv
    rw [List.length_map, Nat.mul_one] at hl
    exact ⟨g, cap, rfl, hn, hg, (lt_of_owns h0).2, row_of_owns h0 hl, fun m => free_of_owns h0 m⟩

theorem encD_one (ds : List Nat) : ∀ u ∈ ds.map encD, u.oneCell' = true := by
  intro u hu
  obtain ⟨d, _, rfl⟩ := List.mem_map.1 hu
  rfl

theorem row_news {w : World} {b off : Nat} {ds : List Nat} (h : Row w b off ds) : ∀ j u, (ds.map encD)[j]? = some u → w.cell? ((⟨b, off, none⟩ : Addr).add j) = some u := by
  intro j u hj
  rw [List.getElem?_map] at hj
  cases hd : ds[j]? with
  | none => rw [hd] at hj; simp at hj
  | some d =>
    rw [hd, Option.map_some, Option.some.injEq] at hj
    have hjl : j < ds.length := (List.getElem?_eq_some_iff.1 hd).1
    have := h j hjl
    rw [List.getD_eq_getElem?_getD, hd, Option.getD_some] at this
    subst hj
    by_cases h0 : j = 0
    · subst h0; simpa [Addr.add, encD] using this
    · simpa [Addr.add, encD, h0] using this

end Go.Proofs.YtnhfdcfnojnofaaGreatDoor.T
