/-
  Part 11 of the texts ahead of Pks1: Rt6, Kpl3, Ts7, Ts9, Ts10, Ts12, Ts14, Ts16, Ts17.
-/
import Derived.Test.YtnhfdcfnojnofaaGreatDoorPks1Z10
import Derived.Test.YtnhfdcfnojnofaaGreatDoorPks1Z9
import Derived.Deep.RegionHeld3
import Derived.Test.YtnhfdcfnojnofaaGreatDoorPks1Z5
import Derived.Deep.AppendLies
import Derived.Deep.RegionLaw
import Derived.Test.YtnhfdcfnojnofaaGreatDoorPks1Z4
set_option linter.unusedSimpArgs false
set_option linter.unusedVariables false
/-
  Places in a text of lines; what Plain answers at a fine problem's text with a blank more at any place, without its last sign, with a line more.
-/
namespace Go.Proofs.YtnhfdcfnojnofaaGreatDoor

theorem count_none {l : List UInt8} (h : ∀ c ∈ l, c ≠ 10) : l.count 10 = 0 := List.count_eq_zero.2 fun hm => h 10 hm rfl

theorem count_glue : ∀ (ls : List (List UInt8)), (∀ l ∈ ls, ∀ c ∈ l, c ≠ 10) → (glue ls).count 10 = ls.length
  | [], _ => rfl
  | l :: ls, h => by
    rw [glue_cons, List.count_append, List.count_cons_self, count_none (h l (by simp)), count_glue ls (fun k hk => h k (by simp [hk])), List.length_cons]
    omega

/-- Where place i of a text of lines lies. -/
theorem place_glue : ∀ (ls : List (List UInt8)) (i : Nat), (∀ l ∈ ls, ∀ c ∈ l, c ≠ 10) → i < (glue ls).length →
    ∃ (k : Nat) (a b : List UInt8), ls[k]? = some (a ++ b) ∧ (glue ls).take i = glue (ls.take k) ++ a ∧ (glue ls).drop i = b ++ 10 :: glue (ls.drop (k + 1)) ∧ ((glue ls).take i).count 10 = k
  | [], i, _, h => by simp [glue] at h
  | l :: ls, i, hc, h => by
    rw [glue_cons]
    by_cases hi : i ≤ l.length
    · refine ⟨0, l.take i, l.drop i, by simp, ?_, ?_, ?_⟩
      · rw [List.take_append_of_le_length hi]; simp [glue]
      · rw [List.drop_append_of_le_length hi]; simp
      · rw [List.take_append_of_le_length hi]
        exact count_none fun c hm => hc l (by simp) c (List.mem_of_mem_take hm)
    · obtain ⟨j, rfl⟩ : ∃ j, i = l.length + 1 + j := ⟨i - (l.length + 1), by omega⟩
      rw [glue_cons, List.length_append, List.length_cons] at h
      obtain ⟨k, a, b, h1, h2, h3, h4⟩ := place_glue ls j (fun k hk => hc k (by simp [hk])) (by omega)
      have e1 : (l ++ 10 :: glue ls).take (l.length + 1 + j) = l ++ 10 :: (glue ls).take j := by
        rw [List.take_append, List.take_of_length_le (by omega), show l.length + 1 + j - l.length = j + 1 by omega, List.take_succ_cons]
      have e2 : (l ++ 10 :: glue ls).drop (l.length + 1 + j) = (glue ls).drop j := by
        rw [List.drop_append, List.drop_eq_nil_of_le (by omega), show l.length + 1 + j - l.length = j + 1 by omega, List.drop_succ_cons, List.nil_append]
      refine ⟨k + 1, a, b, by simpa using h1, ?_, ?_, ?_⟩
      · rw [e1, h2, List.take_succ_cons, glue_cons]; simp
      · rw [e2, h3, List.drop_succ_cons]
      · rw [e1, List.count_append, List.count_cons_self, count_none (hc l (by simp)), h4]; omega

theorem text_blank {p : Prob} (hp : Fine p) (hs : (textS p).length ≤ 1999) (i : Nat) (hi : i < (textS p).length) : plainS ((textS p).take i ++ 32 :: (textS p).drop i) = ([], 5, ((textS p).take i).count 10 + 1) := by
  have hL := linesI_of hp
  rw [← glue_linesI] at hs hi ⊢
  obtain ⟨k, a, b, h1, h2, h3, h4⟩ := place_glue (linesI p) i (hL.chars hp) hi
  have h := plain_blank hp hL k a b h1 hs
  rw [h4, h2, h3]
  rw [show glue ((linesI p).take k) ++ a ++ 32 :: (b ++ 10 :: glue ((linesI p).drop (k + 1))) = glue ((linesI p).take k) ++ ((a ++ 32 :: b) ++ 10 :: glue ((linesI p).drop (k + 1))) by simp]
  exact h

theorem text_count {p : Prob} (hp : Fine p) : (textS p).count 10 = 2 + p.n + p.rows.length := by
  have hL := linesI_of hp
  rw [← glue_linesI, count_glue _ (hL.chars hp), hL.len hp]

theorem text_more {p : Prob} (hp : Fine p) (hs : (textS p).length ≤ 1996) : plainS (textS p ++ [114, 111, 119, 10]) = ([], 5, (textS p).count 10 + 1) := by
  have hL := linesI_of hp
  have h := plain_more hp hL (by rw [glue_linesI]; exact hs)
  rw [text_count hp, ← hL.len hp, ← glue_linesI]
  exact h

theorem linesI_ne {p : Prob} : ∀ l ∈ linesI p, l ≠ [] := by
  intro l hl
  unfold linesI at hl
  rcases List.mem_cons.1 hl with rfl | hl
  · simp [wVars]
  · rcases List.mem_cons.1 hl with rfl | hl
    · simp [wMax]
    · rcases List.mem_append.1 hl with hl | hl
      · obtain ⟨r, _, rfl⟩ := List.mem_map.1 hl; simp [wRange]
      · obtain ⟨r, _, rfl⟩ := List.mem_map.1 hl; simp [wRow]

theorem text_less {p : Prob} (hp : Fine p) (hs : (textS p).length ≤ 2000) : plainS ((textS p).take ((textS p).length - 1)) = ([], 5, (textS p).count 10) := by
  have hL := linesI_of hp
  have hlen := hL.len hp
  obtain ⟨k, hk⟩ : ∃ k, (linesI p).length = k + 1 := ⟨1 + p.n + p.rows.length, by omega⟩
  have hkl : k < (linesI p).length := by omega
  have hl : (linesI p)[k]? = some (linesI p)[k] := List.getElem?_eq_getElem hkl
  have e : linesI p = (linesI p).take k ++ [(linesI p)[k]] := by
    have := List.take_append_drop k (linesI p)
    rw [List.drop_eq_getElem_cons hkl, List.drop_eq_nil_of_le (by omega)] at this
    exact this.symm
  have h := plain_less hp hL _ k hk hl (linesI_ne _ (List.getElem_mem hkl)) (by rw [glue_linesI]; exact hs)
  have e2 : textS p = (glue ((linesI p).take k) ++ (linesI p)[k]) ++ [10] := by
    rw [← glue_linesI]
    conv => lhs; rw [e]
    rw [glue_append, glue_cons]
    simp [glue]
  rw [text_count hp, ← hlen, hk]
  have e3 : (textS p).take ((textS p).length - 1) = glue ((linesI p).take k) ++ (linesI p)[k] := by
    rw [e2, List.length_append, List.length_singleton, Nat.add_sub_cancel, List.take_left']
    rfl
  rw [e3]
  exact h

theorem text_fine {p : Prob} (hp : Fine p) (hs : (textS p).length ≤ 2000) : plainS (textS p) = (textS p, 0, 0) := by
  have h := plain_fine hp (linesI_of hp) (by rw [glue_linesI]; exact hs)
  rwa [glue_linesI] at h

theorem text_odd {p : Prob} (hp : Fine p) (hm : ∀ z ∈ p.mx, z.natAbs < 10 ^ 38) (hg : ∀ r ∈ p.rg, r.1.natAbs < 10 ^ 38 ∧ r.2.natAbs < 10 ^ 38) (hr : ∀ x ∈ p.rows, (∀ z ∈ x.1, z.natAbs < 10 ^ 38) ∧ x.2.2.natAbs < 10 ^ 38) (hs : (oddF 0 (textS p)).length ≤ 2000) : plainS (oddF 0 (textS p)) = (textS p, 0, 0) := by
  rw [oddF_text hp] at hs ⊢
  exact plain_fine hp (linesO_of hm hg hr) hs
end Go.Proofs.YtnhfdcfnojnofaaGreatDoor

/-
  A small problem of the keeper's in memory (package planeskeep).
-/
namespace Go.Proofs.YtnhfdcfnojnofaaGreatDoor
open Go.RowKit

/-- The sign that a number means. -/
def signT (k : Int) : List UInt8 := if k = 0 then [60, 61] else if k = 1 then [62, 61] else [61]

/-- Slices of ints in a slice. -/
def Intss (w : World) (v : Value) (gs : List (List Int)) : Prop :=
  ∃ ao cap, v = .slice ao gs.length cap ∧ (0 < gs.length → ∃ g off, ao = some ⟨g, off, none⟩ ∧ g < w.heap.size ∧ ∀ (i : Nat) (zs : List Int), gs[i]? = some zs → ∃ a l c, w.cell? ⟨g, off + i, none⟩ = some (.slice a l c) ∧ Ints w (.slice a l c) zs)

theorem Intss.ext {w w' : World} {v : Value} {gs : List (List Int)} (h : Intss w v gs) (hb : Ext w w') : Intss w' v gs := by
  obtain ⟨ao, cap, rfl, h1⟩ := h
  refine ⟨ao, cap, rfl, fun h0 => ?_⟩
  obtain ⟨g, off, rfl, hg, h2⟩ := h1 h0
  refine ⟨g, off, rfl, Nat.lt_of_lt_of_le hg hb.size, fun i zs hz => ?_⟩
  obtain ⟨a, l, c, h3, h4⟩ := h2 i zs hz
  exact ⟨a, l, c, hb.cell h3, h4.ext hb⟩

/-- A small problem in memory, as the six slices of its value. -/
structure SmallV (w : World) (vM vL vH vG vS vR : Value) (mx lo hi : List Int) (gs : List (List Int)) (ss rs : List Int) : Prop where
  m : Ints w vM mx
  l : Ints w vL lo
  h : Ints w vH hi
  g : Intss w vG gs
  s : Ints w vS ss
  r : Ints w vR rs

theorem SmallV.ext {w w' : World} {vM vL vH vG vS vR : Value} {mx lo hi : List Int} {gs : List (List Int)} {ss rs : List Int} (h : SmallV w vM vL vH vG vS vR mx lo hi gs ss rs) (hb : Ext w w') : SmallV w' vM vL vH vG vS vR mx lo hi gs ss rs :=
  ⟨h.m.ext hb, h.l.ext hb, h.h.ext hb, h.g.ext hb, h.s.ext hb, h.r.ext hb⟩
end Go.Proofs.YtnhfdcfnojnofaaGreatDoor

/-
  A problem of the document's own (package planesref) as it lies in memory while it is read.
-/
namespace Go.Proofs.YtnhfdcfnojnofaaGreatDoor.T
open Go.RowKit

/-- Blocks of whole numbers are as they were. -/
def Kept (w w' : World) : Prop := w.heap.size ≤ w'.heap.size ∧ ∀ k, Kind w k → w'.heap[k]? = w.heap[k]?

theorem Kind.lt {w : World} {k : Nat} (h : Kind w k) : k < w.heap.size := by
  obtain ⟨c, fr, h⟩ := h
  exact (Array.getElem?_eq_some_iff.1 h).1

theorem Kept.of_below {w w' : World} (h : Below w.heap.size w w') : Kept w w' := ⟨h.size, fun k hk => h.block k hk.lt⟩
theorem Kept.of_setCell {w : World} {a : Addr} (ha : ¬ Kind w a.block) (v : Value) : Kept w (w.setCell a v) :=
  ⟨by simp, fun k hk => Below.heap_setCell _ _ _ _ (fun e => ha (e ▸ hk))⟩

theorem NV.kept {w w' : World} {v : Value} {n : Nat} (h : NV w v n) (hk : Kept w w') : NV w' v n := by
  obtain ⟨ds, hs, h2⟩ := h
  refine ⟨ds, ?_, h2⟩
  rcases hs with hs | ⟨g, off, cap, hv, hc, hb, hrow, hkd⟩
  · exact Or.inl hs
  · have he := hk.2 g hkd
    refine Or.inr ⟨g, off, cap, hv, hc, Nat.lt_of_lt_of_le hb hk.1, fun i hi => ?_, ?_⟩
    · exact (World.cell?_of_block (w := w) he).trans (hrow i hi)
    · obtain ⟨c, fr, h⟩ := hkd
      exact ⟨c, fr, he.trans h⟩

theorem NumV.kept {w w' : World} {x : Value} {p : Int} {q : Nat} (h : NumV w x p q) (hk : Kept w w') : NumV w' x p q := by
  obtain ⟨b, v, u, h1, h2, h3, h4, h5⟩ := h
  exact ⟨b, v, u, h1, h2.kept hk, h3, h4.kept hk, h5⟩

/-- Numbers stay where their row and the blocks of whole numbers stay. -/
theorem Nums.kept {w w' : World} {v : Value} {zs : List (Int × Nat)} (h : Nums w v zs) (hk : Kept w w') (hr : ∀ g, v.ownBlock = some g → w'.heap[g]? = w.heap[g]?) : Nums w' v zs := by
  obtain ⟨ts, hl, hn, hv⟩ := h
  refine ⟨ts, hl, fun i t z h1 h2 => (hn i t z h1 h2).kept hk, ?_⟩
  rcases hv with hv | ⟨g, off, cap, h1, h2, h3, h4⟩
  · exact Or.inl hv
  · have he := hr g (by rw [h1]; rfl)
    refine Or.inr ⟨g, off, cap, h1, h2, Nat.lt_of_lt_of_le h3 hk.1, fun i t ht => ?_⟩
    obtain ⟨c0, c1, c2⟩ := h4 i t ht
    exact ⟨(World.cell?_of_block (w := w) he).trans c0, (World.cell?_of_block (w := w) he).trans c1, (World.cell?_of_block (w := w) he).trans c2⟩

theorem Nums.lt {w : World} {v : Value} {zs : List (Int × Nat)} (h : Nums w v zs) : ∀ g, v.ownBlock = some g → g < w.heap.size := by
  intro g hg
  obtain ⟨ts, hl, hn, hv⟩ := h
  rcases hv with hv | ⟨g', off, cap, h1, h2, h3, h4⟩
  · rw [hv.1] at hg; cases hg
  · rw [h1] at hg
    simp [Value.ownBlock] at hg
    omega

/-- Numbers in a row that is the call's own. -/
def OwnNums (B : Nat) (w : World) (v : Value) (zs : List (Int × Nat)) : Prop :=
  ∃ ts : List Tri, ts.length = zs.length ∧ w.ownsRow B 118 3 v ts.length (triCells ts) ∧ ∀ (i : Nat) (t : Tri) (z : Int × Nat), ts[i]? = some t → zs[i]? = some z → NumV w t.val z.1 z.2

theorem owns_same {w w' : World} {B e size n : Nat} {v : Value} {xs : List Value} (h : w.ownsRow B e size v n xs) (hs : w.heap.size ≤ w'.heap.size) (hr : ∀ g, v.ownBlock = some g → w'.heap[g]? = w.heap[g]?) : w'.ownsRow B e size v n xs := by
  obtain ⟨h0, h1 | ⟨g, cap, cur, hv, hb, hh, hn, h4, h5, h6⟩⟩ := h
  · exact ⟨h0, Or.inl h1⟩
  · exact ⟨h0, Or.inr ⟨g, cap, cur, hv, hb, (hr g (by rw [hv]; rfl)).trans hh, hn, h4, h5, h6⟩⟩

theorem owns_lt {w : World} {B e size n : Nat} {v : Value} {xs : List Value} (h : w.ownsRow B e size v n xs) : ∀ g, v.ownBlock = some g → B ≤ g ∧ g < w.heap.size := by
  intro g hg
  obtain ⟨h0, h1 | ⟨g', cap, cur, hv, hb, hh, hn, h4, h5, h6⟩⟩ := h
  · rw [h1.1] at hg; cases hg
  · rw [hv] at hg
    simp [Value.ownBlock] at hg
    subst hg
    exact ⟨hb, (Array.getElem?_eq_some_iff.1 hh).1⟩

theorem OwnNums.kept {B : Nat} {w w' : World} {v : Value} {zs : List (Int × Nat)} (h : OwnNums B w v zs) (hk : Kept w w') (hr : ∀ g, v.ownBlock = some g → w'.heap[g]? = w.heap[g]?) : OwnNums B w' v zs := by
  obtain ⟨ts, hl, ho, hn⟩ := h
  exact ⟨ts, hl, owns_same ho hk.1 hr, fun i t z h1 h2 => (hn i t z h1 h2).kept hk⟩

theorem OwnNums.lt {B : Nat} {w : World} {v : Value} {zs : List (Int × Nat)} (h : OwnNums B w v zs) : ∀ g, v.ownBlock = some g → B ≤ g ∧ g < w.heap.size := by
  obtain ⟨ts, hl, ho, hn⟩ := h
  exact owns_lt ho

/-- A condition as a value. -/
structure CondV where
  g : Option Addr × Nat × Nat
  s : ByteArray
  r : Tri

def CondV.gv (c : CondV) : Value := .slice c.g.1 c.g.2.1 c.g.2.2
def CondV.cells (c : CondV) : List Value := [c.gv, .string c.s, .bool c.r.b, c.r.up, c.r.down]
def condCells (cs : List CondV) : List Value := cs.flatMap CondV.cells

/-- What a condition in memory says; v: the row that it lies in. -/
def CondIs (B : Nat) (w : World) (v : Value) (c : CondV) (r : List Int × List UInt8 × Int) : Prop :=
  Nums w c.gv (r.1.map fun z => (z, 1)) ∧ (∀ g, c.gv.ownBlock = some g → B ≤ g ∧ v.ownBlock ≠ some g) ∧ c.s = ⟨r.2.1.toArray⟩ ∧ NumV w c.r.val r.2.2 1

def OwnConds (B : Nat) (w : World) (v : Value) (rows : List (List Int × List UInt8 × Int)) : Prop :=
  ∃ cs : List CondV, cs.length = rows.length ∧ w.ownsRow B 206 5 v cs.length (condCells cs) ∧ ∀ (i : Nat) (c : CondV) (r : List Int × List UInt8 × Int), cs[i]? = some c → rows[i]? = some r → CondIs B w v c r

theorem CondIs.kept {B : Nat} {w w' : World} {v : Value} {c : CondV} {r : List Int × List UInt8 × Int} (h : CondIs B w v c r) (hk : Kept w w') (hg : ∀ g, B ≤ g → g < w.heap.size → v.ownBlock ≠ some g → w'.heap[g]? = w.heap[g]?) : CondIs B w' v c r := by
  obtain ⟨a1, a2, a3, a4⟩ := h
  exact ⟨a1.kept hk (fun g hgo => hg g (a2 g hgo).1 (a1.lt g hgo) (a2 g hgo).2), a2, a3, a4.kept hk⟩

theorem OwnConds.kept {B : Nat} {w w' : World} {v : Value} {rows : List (List Int × List UInt8 × Int)} (h : OwnConds B w v rows) (hk : Kept w w') (hr : ∀ g, v.ownBlock = some g → w'.heap[g]? = w.heap[g]?) (hg : rows ≠ [] → ∀ g, B ≤ g → g < w.heap.size → v.ownBlock ≠ some g → w'.heap[g]? = w.heap[g]?) : OwnConds B w' v rows := by
  obtain ⟨cs, hl, ho, hn⟩ := h
  refine ⟨cs, hl, owns_same ho hk.1 hr, fun i c r h1 h2 => ?_⟩
  have hne : rows ≠ [] := by rintro rfl; simp at h2
  exact (hn i c r h1 h2).kept hk (hg hne)

theorem OwnConds.lt {B : Nat} {w : World} {v : Value} {rows : List (List Int × List UInt8 × Int)} (h : OwnConds B w v rows) : ∀ g, v.ownBlock = some g → B ≤ g ∧ g < w.heap.size := by
  obtain ⟨cs, hl, ho, hn⟩ := h
  exact owns_lt ho

/-- A box of five cells that may be written. -/
def Box5 (w : World) (g : Nat) (x0 x1 x2 x3 x4 : Value) : Prop :=
  w.cell? ⟨g, 0, none⟩ = some x0 ∧ w.cell? ⟨g, 1, none⟩ = some x1 ∧ w.cell? ⟨g, 2, none⟩ = some x2 ∧ w.cell? ⟨g, 3, none⟩ = some x3 ∧ w.cell? ⟨g, 4, none⟩ = some x4 ∧
    w.frozen? ⟨g, 0, none⟩ = false ∧ w.frozen? ⟨g, 1, none⟩ = false ∧ w.frozen? ⟨g, 2, none⟩ = false ∧ w.frozen? ⟨g, 3, none⟩ = false ∧ w.frozen? ⟨g, 4, none⟩ = false

theorem Box5.same {w w' : World} {g : Nat} {x0 x1 x2 x3 x4 : Value} (h : Box5 w g x0 x1 x2 x3 x4) (he : w'.heap[g]? = w.heap[g]?) : Box5 w' g x0 x1 x2 x3 x4 := by
  obtain ⟨h0, h1, h2, h3, h4, f0, f1, f2, f3, f4⟩ := h
  exact ⟨(World.cell?_of_block (w := w) (a := ⟨g, 0, none⟩) he).trans h0, (World.cell?_of_block (w := w) (a := ⟨g, 1, none⟩) he).trans h1, (World.cell?_of_block (w := w) (a := ⟨g, 2, none⟩) he).trans h2, (World.cell?_of_block (w := w) (a := ⟨g, 3, none⟩) he).trans h3, (World.cell?_of_block (w := w) (a := ⟨g, 4, none⟩) he).trans h4,
    (World.frozen?_of_block (w := w) (a := ⟨g, 0, none⟩) he).trans f0, (World.frozen?_of_block (w := w) (a := ⟨g, 1, none⟩) he).trans f1, (World.frozen?_of_block (w := w) (a := ⟨g, 2, none⟩) he).trans f2, (World.frozen?_of_block (w := w) (a := ⟨g, 3, none⟩) he).trans f3, (World.frozen?_of_block (w := w) (a := ⟨g, 4, none⟩) he).trans f4⟩

theorem set_other {w : World} {g i j : Nat} {v u : Value} (h : w.cell? ⟨g, j, none⟩ = some u) (hij : i ≠ j) : (w.setCell ⟨g, i, none⟩ v).cell? ⟨g, j, none⟩ = some u := by
  rw [World.cell?_setCell_other _ _ _ _ (by intro e; injection e with _ e2; exact hij e2)]; exact h

theorem Box5.set2 {w : World} {g : Nat} {x0 x1 x2 x3 x4 : Value} (h : Box5 w g x0 x1 x2 x3 x4) (v : Value) : Box5 (w.setCell ⟨g, 2, none⟩ v) g x0 x1 v x3 x4 := by
  obtain ⟨h0, h1, h2, h3, h4, f0, f1, f2, f3, f4⟩ := h
  exact ⟨set_other h0 (by omega), set_other h1 (by omega), World.cell?_setCell_same _ _ _ h2, set_other h3 (by omega), set_other h4 (by omega), by simpa using f0, by simpa using f1, by simpa using f2, by simpa using f3, by simpa using f4⟩
theorem Box5.set3 {w : World} {g : Nat} {x0 x1 x2 x3 x4 : Value} (h : Box5 w g x0 x1 x2 x3 x4) (v : Value) : Box5 (w.setCell ⟨g, 3, none⟩ v) g x0 x1 x2 v x4 := by
  obtain ⟨h0, h1, h2, h3, h4, f0, f1, f2, f3, f4⟩ := h
  exact ⟨set_other h0 (by omega), set_other h1 (by omega), set_other h2 (by omega), World.cell?_setCell_same _ _ _ h3, set_other h4 (by omega), by simpa using f0, by simpa using f1, by simpa using f2, by simpa using f3, by simpa using f4⟩
/-- The problem that lies at block gp, as far as it is read; W1: the world where the reading began. -/
structure RQ (W1 w : World) (gp n : Nat) (mx lo hi : List Int) (rows : List (List Int × List UInt8 × Int)) (vM vL vH vC : Value) : Prop where
  lt : gp < W1.heap.size
  kind : ¬ Kind w gp
  wr : Wr (fun k => k = gp) W1 w
  box : Box5 w gp (.int .i64 (n : Nat)) vM vL vH vC
  mx : Nums w vM (mx.map fun z => (z, 1))
  mxB : ∀ g, vM.ownBlock = some g → W1.heap.size ≤ g
  lo : OwnNums W1.heap.size w vL (lo.map fun z => (z, 1))
  hi : OwnNums W1.heap.size w vH (hi.map fun z => (z, 1))
  cs : OwnConds W1.heap.size w vC rows
  sepL : ∀ g, vL.ownBlock = some g → vM.ownBlock ≠ some g ∧ vH.ownBlock ≠ some g
  sepH : ∀ g, vH.ownBlock = some g → vM.ownBlock ≠ some g
  sepC : ∀ g, vC.ownBlock = some g → vM.ownBlock ≠ some g

theorem RQ.gpw {W1 w : World} {gp n : Nat} {mx lo hi : List Int} {rows : List (List Int × List UInt8 × Int)} {vM vL vH vC : Value} (h : RQ W1 w gp n mx lo hi rows vM vL vH vC) : gp < w.heap.size := Nat.lt_of_lt_of_le h.lt h.wr.size

/-- More memory, all old blocks as they were. -/
theorem RQ.below {W1 w w' : World} {gp n : Nat} {mx lo hi : List Int} {rows : List (List Int × List UInt8 × Int)} {vM vL vH vC : Value} (h : RQ W1 w gp n mx lo hi rows vM vL vH vC) (hb : Below w.heap.size w w') : RQ W1 w' gp n mx lo hi rows vM vL vH vC := by
  have hk := Kept.of_below hb
  have hlt := h.gpw
  refine ⟨h.lt, ?_, h.wr.trans (Wr.of_below (T := fun k => k = gp) hb), h.box.same (hb.block gp hlt), h.mx.kept hk (fun g hg => hb.block g (h.mx.lt g hg)), h.mxB, h.lo.kept hk (fun g hg => hb.block g (h.lo.lt g hg).2), h.hi.kept hk (fun g hg => hb.block g (h.hi.lt g hg).2), h.cs.kept hk (fun g hg => hb.block g (h.cs.lt g hg).2) (fun _ g _ hg _ => hb.block g hg), h.sepL, h.sepH, h.sepC⟩
  rintro ⟨c, fr, hc⟩
  exact h.kind ⟨c, fr, (hb.block gp hlt).symm.trans hc⟩

theorem RQ.alloc {W1 w : World} {gp n : Nat} {mx lo hi : List Int} {rows : List (List Int × List UInt8 × Int)} {vM vL vH vC : Value} (h : RQ W1 w gp n mx lo hi rows vM vL vH vC) (o : Obj) : RQ W1 (w.alloc o) gp n mx lo hi rows vM vL vH vC := h.below ((Below.refl _ _).alloc (Nat.le_refl _) o)

theorem kind_setCell {w : World} {k : Nat} {a : Addr} {v : Value} (h : ¬ Kind w k) : ¬ Kind (w.setCell a v) k := by
  rintro ⟨c, fr, hc⟩
  by_cases hk : a.block = k
  · subst hk
    have hlt : a.block < w.heap.size := by simpa using (Array.getElem?_eq_some_iff.1 hc).1
    rw [World.setCell] at hc
    simp only [Array.getElem?_modify, if_true, Array.getElem?_eq_getElem hlt, Option.map_some] at hc
    cases ho : w.heap[a.block] with
    | cells c0 t0 f0 =>
      rw [ho] at hc
      simp only [Option.some.injEq, Obj.cells.injEq] at hc
      exact h ⟨c0, f0, by rw [Array.getElem?_eq_getElem hlt, ho, hc.2.1]⟩
    | _ => rw [ho] at hc; simp at hc
  · exact h ⟨c, fr, (Below.heap_setCell _ _ _ _ (fun e => hk e.symm)).symm.trans hc⟩

/-- What lies in other blocks than gp stays behind a store into gp. -/
theorem RQ.stored {W1 w : World} {gp n n' j : Nat} {mx lo hi : List Int} {rows : List (List Int × List UInt8 × Int)} {vM vL vH vC v : Value} (h : RQ W1 w gp n mx lo hi rows vM vL vH vC) (hb : Box5 (w.setCell ⟨gp, j, none⟩ v) gp (.int .i64 (n' : Nat)) vM vL vH vC) : RQ W1 (w.setCell ⟨gp, j, none⟩ v) gp n' mx lo hi rows vM vL vH vC := by
  have hk : Kept w (w.setCell ⟨gp, j, none⟩ v) := Kept.of_setCell (a := ⟨gp, j, none⟩) h.kind v
  have hne : ∀ g, W1.heap.size ≤ g → (w.setCell ⟨gp, j, none⟩ v).heap[g]? = w.heap[g]? := fun g hg => Below.heap_setCell _ _ _ _ (by have := h.lt; simp; omega)
  exact ⟨h.lt, kind_setCell h.kind, h.wr.setCell (p := ⟨gp, j, none⟩) rfl v, hb, h.mx.kept hk (fun g hg => hne g (h.mxB g hg)), h.mxB, h.lo.kept hk (fun g hg => hne g (h.lo.lt g hg).1), h.hi.kept hk (fun g hg => hne g (h.hi.lt g hg).1), h.cs.kept hk (fun g hg => hne g (h.cs.lt g hg).1) (fun _ g hg _ _ => hne g hg), h.sepL, h.sepH, h.sepC⟩

end Go.Proofs.YtnhfdcfnojnofaaGreatDoor.T

/-
  What the document's own take does (package planesref).
-/
namespace Go.Proofs.YtnhfdcfnojnofaaGreatDoor.T
open Go.RowKit

/-- A part of a list of texts. -/
theorem Sv.part {w : World} {g off cap l : Nat} {ls : List ByteArray} (h : Sv w (.slice (some ⟨g, off, none⟩) l cap) ls) (i n c : Nat) (hin : i + n ≤ ls.length) (hc : n ≤ c) (hi : 0 < n → True) : Sv w (.slice (some ⟨g, off + i, none⟩) n c) ((ls.drop i).take n) := by
  rcases h with ⟨h, rfl⟩ | ⟨g', off', cap', h1, h2, h3, h4⟩
  · simp at h
  · simp only [Value.slice.injEq, Option.some.injEq, Addr.mk.injEq] at h1
    obtain ⟨⟨rfl, rfl, _⟩, _, _⟩ := h1
    have hl : ((ls.drop i).take n).length = n := by simp; omega
    refine Or.inr ⟨g, off + i, c, by rw [hl], by rw [hl]; exact hc, h3, fun j hj => ?_⟩
    rw [hl] at hj
    have := h4 (i + j) (by omega)
    rw [Nat.add_assoc, this]
    congr 2
    simp [List.getD_eq_getElem?_getD, List.getElem?_take, hj]

theorem Nums.shape {w : World} {v : Value} {zs : List (Int × Nat)} (h : Nums w v zs) : ∃ ao cap, v = .slice ao zs.length cap := by
  obtain ⟨ts, hl, hn, hr⟩ := h
  rcases hr with ⟨rfl, rfl⟩ | ⟨g, off, cap, rfl, _⟩
  · exact ⟨none, 0, by rw [← hl]; rfl⟩
  · exact ⟨_, _, by rw [hl]⟩

end Go.Proofs.YtnhfdcfnojnofaaGreatDoor.T

/-
  What the document's own take does (package planesref): a range.
-/
namespace Go.Proofs.YtnhfdcfnojnofaaGreatDoor.T
open Go.RowKit

/-- Two numbers of a list, as they lie. -/
theorem Nums.two {w : World} {v : Value} {a b : Int × Nat} (h : Nums w v [a, b]) : ∃ g off cap, ∃ x y : Tri, v = .slice (some ⟨g, off, none⟩) 2 cap ∧ 2 ≤ cap ∧ NumV w x.val a.1 a.2 ∧ NumV w y.val b.1 b.2 ∧
    (w.cell? ⟨g, off, none⟩ = some (.bool x.b) ∧ w.cell? ⟨g, off + 1, none⟩ = some x.up ∧ w.cell? ⟨g, off + 2, none⟩ = some x.down) ∧
    (w.cell? ⟨g, off + 3, none⟩ = some (.bool y.b) ∧ w.cell? ⟨g, off + 4, none⟩ = some y.up ∧ w.cell? ⟨g, off + 5, none⟩ = some y.down) := by
  obtain ⟨ts, hl, hn, hr⟩ := h
  obtain ⟨x, y, rfl⟩ : ∃ x y, ts = [x, y] := by
    match ts, hl with
    | [x, y], _ => exact ⟨x, y, rfl⟩
  rcases hr with ⟨_, e⟩ | ⟨g, off, cap, hv, hc, _, h4⟩
  · cases e
  · obtain ⟨a0, a1, a2⟩ := h4 0 x rfl
    obtain ⟨b0, b1, b2⟩ := h4 1 y rfl
    exact ⟨g, off, cap, x, y, hv, hc, hn 0 x a rfl rfl, hn 1 y b rfl rfl, ⟨a0, a1, a2⟩, ⟨b0, b1, b2⟩⟩

end Go.Proofs.YtnhfdcfnojnofaaGreatDoor.T

/-
  What the document's own take does (package planesref): a row.
-/
namespace Go.Proofs.YtnhfdcfnojnofaaGreatDoor.T
open Go.RowKit

/-- One number of a list, as it lies. -/
theorem Nums.one {w : World} {v : Value} {a : Int × Nat} (h : Nums w v [a]) : ∃ g off cap, ∃ x : Tri, v = .slice (some ⟨g, off, none⟩) 1 cap ∧ 1 ≤ cap ∧ NumV w x.val a.1 a.2 ∧ (w.cell? ⟨g, off, none⟩ = some (.bool x.b) ∧ w.cell? ⟨g, off + 1, none⟩ = some x.up ∧ w.cell? ⟨g, off + 2, none⟩ = some x.down) := by
  obtain ⟨ts, hl, hn, hr⟩ := h
  obtain ⟨x, rfl⟩ : ∃ x, ts = [x] := by
    match ts, hl with
    | [x], _ => exact ⟨x, rfl⟩
  rcases hr with ⟨_, e⟩ | ⟨g, off, cap, hv, hc, _, h4⟩
  · cases e
  · obtain ⟨a0, a1, a2⟩ := h4 0 x rfl
    exact ⟨g, off, cap, x, hv, hc, hn 0 x a rfl rfl, ⟨a0, a1, a2⟩⟩

end Go.Proofs.YtnhfdcfnojnofaaGreatDoor.T

/-
  What the document's own take does (package planesref), whatever the line.
-/
namespace Go.Proofs.YtnhfdcfnojnofaaGreatDoor.T
open Go.RowKit

/-- The three lists of a problem as it lies in memory. -/
def RPr (W1 w : World) (gp : Nat) (p : Prob) : Prop := ∃ vM vL vH vC, RQ W1 w gp p.n p.mx (p.rg.map Prod.fst) (p.rg.map Prod.snd) p.rows vM vL vH vC

theorem RPr.wr {W1 w : World} {gp : Nat} {p : Prob} (h : RPr W1 w gp p) : Wr (fun k => k = gp) W1 w := by
  obtain ⟨vM, vL, vH, vC, h⟩ := h
  exact h.wr

end Go.Proofs.YtnhfdcfnojnofaaGreatDoor.T

/-
  What the document's own Parse does (package planesref).
-/
namespace Go.Proofs.YtnhfdcfnojnofaaGreatDoor.T
open Go.RowKit

theorem RPr.below {W1 w w' : World} {gp : Nat} {p : Prob} (h : RPr W1 w gp p) (hb : Below w.heap.size w w') : RPr W1 w' gp p := by
  obtain ⟨vM, vL, vH, vC, h⟩ := h
  exact ⟨vM, vL, vH, vC, h.below hb⟩

/-- What the lines read so far have made. -/
def ReadSo (W1 wr : World) (gp : Nat) (LL : List (List UInt8 × Bool)) (i : Nat) (p : Prob) : Prop :=
  RPr W1 wr gp p ∧ PrOk i p ∧ readS 0 Prob.none LL = readS i p (LL.drop i)

end Go.Proofs.YtnhfdcfnojnofaaGreatDoor.T

/-
  What the document's own Plain does (package planesref).
-/
namespace Go.Proofs.YtnhfdcfnojnofaaGreatDoor.T
open Go.RowKit

theorem itoa_frac (z : Int) : Lib.itoa z = fracText z 1 := by rw [fracText, if_pos rfl]

theorem told_len (zs : List Int) (h : ∀ z ∈ zs, z.natAbs < 10 ^ 40) (hl : zs.length ≤ 4) : (ByteArray.mk (tellS zs).toArray).size ≤ 600 := by
  rw [size_mk]
  have key : ∀ zs : List Int, (∀ z ∈ zs, z.natAbs < 10 ^ 40) → (tellS zs).length ≤ zs.length * 100 := by
    intro zs
    induction zs with
    | nil => intro _; simp [tellS]
    | cons z zs ih =>
      intro h
      have h1 := ih (fun y hy => h y (by simp [hy]))
      have h2 := frac_len (p := z) (q := 1) (K := 11) (Nat.lt_trans (h z (by simp)) (by decide)) (by decide)
      rw [← itoa_frac] at h2
      unfold tellS at h1 ⊢
      rw [List.flatMap_cons, List.length_append, List.length_cons, List.length_cons]
      omega
  have := key zs h
  omega

def headS (p : Prob) : List UInt8 := wVars ++ 32 :: Lib.itoa (p.n : Int) ++ [10] ++ (wMax ++ tellS p.mx ++ [10])

theorem itoa_nat (n : Nat) : Lib.itoa (n : Int) = Lib.decDigits n := by
  unfold Lib.itoa
  rw [if_neg (by omega)]
  simp

theorem headS_bytes (p : Prob) : (⟨#[118, 97, 114, 115, 32]⟩ : ByteArray) ++ ⟨(Lib.decDigits p.n).toArray⟩ ++ ⟨#[10, 109, 97, 120]⟩ ++ ⟨(tellS p.mx).toArray⟩ ++ ⟨#[10]⟩ = ⟨(headS p).toArray⟩ := by
  have e1 : (⟨#[118, 97, 114, 115, 32]⟩ : ByteArray) = ⟨([118, 97, 114, 115, 32] : List UInt8).toArray⟩ := rfl
  have e2 : (⟨#[10, 109, 97, 120]⟩ : ByteArray) = ⟨([10, 109, 97, 120] : List UInt8).toArray⟩ := rfl
  have e3 : (⟨#[10]⟩ : ByteArray) = ⟨([10] : List UInt8).toArray⟩ := rfl
  rw [e1, e2, e3, ba_append, ba_append, ba_append, ba_append]
  unfold headS
  rw [itoa_nat]
  simp [wVars, wMax]

theorem condCells_get (cs : List CondV) (i j : Nat) (c : CondV) (h : cs[i]? = some c) (hj : j < 5) : (condCells cs)[i * 5 + j]? = c.cells[j]? := by
  induction cs generalizing i with
  | nil => simp at h
  | cons t ts ih =>
    rw [show condCells (t :: ts) = t.cells ++ condCells ts by simp [condCells]]
    cases i with
    | zero =>
      simp at h
      subst h
      rw [List.getElem?_append_left (by simp [CondV.cells]; omega), Nat.zero_mul, Nat.zero_add]
    | succ i =>
      rw [List.getElem?_append_right (by simp [CondV.cells]; omega), show (i + 1) * 5 + j - t.cells.length = i * 5 + j by simp [CondV.cells]; omega]
      exact ih i (by simpa using h)

/-- One of the conditions that lie in a row. -/
theorem OwnConds.at {B : Nat} {w : World} {v : Value} {rows : List (List Int × List UInt8 × Int)} (h : OwnConds B w v rows) (i : Nat) (r : List Int × List UInt8 × Int) (hr : rows[i]? = some r) :
    ∃ (g cap : Nat) (c : CondV), v = .slice (some ⟨g, 0, none⟩) rows.length cap ∧ w.cell? ⟨g, i * 5, none⟩ = some c.gv ∧ w.cell? ⟨g, i * 5 + 1, none⟩ = some (.string c.s) ∧ w.cell? ⟨g, i * 5 + 2, none⟩ = some (.bool c.r.b) ∧ w.cell? ⟨g, i * 5 + 3, none⟩ = some c.r.up ∧ w.cell? ⟨g, i * 5 + 4, none⟩ = some c.r.down ∧ CondIs B w v c r := by
  obtain ⟨cs, hl, ⟨_, ⟨_, h2⟩ | ⟨g, cap, cur, h1, _, hh, _, _, hcs, htk⟩⟩, hc⟩ := h
  · have := (List.getElem?_eq_some_iff.1 hr).1
    omega
  · have hi : i < cs.length := by have := (List.getElem?_eq_some_iff.1 hr).1; omega
    have hci : cs[i]? = some cs[i] := List.getElem?_eq_getElem hi
    have key : ∀ j, j < 5 → w.cell? ⟨g, i * 5 + j, none⟩ = (cs[i]).cells[j]? := by
      intro j hj
      have k1 := condCells_get cs i j _ hci hj
      rw [← htk, List.getElem?_take_of_lt (by omega)] at k1
      rw [← k1]
      simp [World.cell?, hh]
    exact ⟨g, cap, cs[i], by rw [h1, hl], key 0 (by omega), key 1 (by omega), key 2 (by omega), key 3 (by omega), key 4 (by omega), hc i _ r hci hr⟩

end Go.Proofs.YtnhfdcfnojnofaaGreatDoor.T
