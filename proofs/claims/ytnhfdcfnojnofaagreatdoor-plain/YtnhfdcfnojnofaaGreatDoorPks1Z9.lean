/-
  Part 9 of the texts ahead of Pks1: Tr10, Tr14, Tr11, Tr16, Ts1, Ts2, Ts3, Ts4, Ts5, Ts6, Prb2, Kpl2, Prb3, Rt1.
-/
import Derived.Test.YtnhfdcfnojnofaaGreatDoorPks1Z6
import Derived.Test.YtnhfdcfnojnofaaGreatDoorPks1Z4
import Derived.Deep.DeepCutAuto
import Derived.Test.YtnhfdcfnojnofaaGreatDoorPks1Z8
import Derived.Test.YtnhfdcfnojnofaaGreatDoorPks1Z5
set_option linter.unusedSimpArgs false
set_option linter.unusedVariables false
/-
  What the document's own Compare does (package planesref).
-/
namespace Go.Proofs.YtnhfdcfnojnofaaGreatDoor.T
open Go.RowKit

/-- What stands while Compare makes its difference. -/
def HeldC (w : World) (b c : Bool) (ao ao' bo bo' : Option Addr) (l cap l' cap' m dap m' dap' : Nat) (p r : Int) (q s : Nat) (wc : World) : Prop :=
  Box3 wc w.heap.size (.bool b) (.slice ao l cap) (.slice ao' l' cap') ∧ Box3 wc (w.heap.size + 1) (.bool c) (.slice bo m dap) (.slice bo' m' dap') ∧ NumV wc (.agg #[.bool b, .slice ao l cap, .slice ao' l' cap']) p q ∧ NumV wc (.agg #[.bool c, .slice bo m dap, .slice bo' m' dap']) r s ∧ Below w.heap.size w wc ∧ w.heap.size + 1 < wc.heap.size

theorem HeldC.below {w : World} {b c : Bool} {ao ao' bo bo' : Option Addr} {l cap l' cap' m dap m' dap' : Nat} {p r : Int} {q s : Nat} {u v : World} (h : HeldC w b c ao ao' bo bo' l cap l' cap' m dap m' dap' p r q s u) (hb : Below u.heap.size u v) : HeldC w b c ao ao' bo bo' l cap l' cap' m dap m' dap' p r q s v := by
  obtain ⟨h1, h2, h4, h5, h6, h7⟩ := h
  exact ⟨h1.below hb, h2.below hb, h4.below hb, h5.below hb, h6.trans (hb.mono h6.size), Nat.lt_of_lt_of_le h7 hb.size⟩

theorem HeldC.alloc {w : World} {b c : Bool} {ao ao' bo bo' : Option Addr} {l cap l' cap' m dap m' dap' : Nat} {p r : Int} {q s : Nat} {u : World} (h : HeldC w b c ao ao' bo bo' l cap l' cap' m dap m' dap' p r q s u) (o : Obj) : HeldC w b c ao ao' bo bo' l cap l' cap' m dap m' dap' p r q s (u.alloc o) :=
  h.below ((Below.refl _ _).alloc (Nat.le_refl _) o)

theorem Box3.stored {w : World} {g : Nat} {b0 b : Bool} {a0 a a1 a2 : Option Addr} {l0 k0 l k l1 k1 l2 k2 : Nat} (h : Box3 w g (.bool b0) (.slice a0 l0 k0) (.slice a1 l1 k1)) : Box3 (((w.setCell ⟨g, 0, none⟩ (.bool b)).setCell ⟨g, 1, none⟩ (.slice a l k)).setCell ⟨g, 2, none⟩ (.slice a2 l2 k2)) g (.bool b) (.slice a l k) (.slice a2 l2 k2) := by
  obtain ⟨d0, d1, d2, d3, d4, d5, d6⟩ := h
  have e1 : (w.setCell ⟨g, 0, none⟩ (.bool b)).cell? ⟨g, 1, none⟩ = some (.slice a0 l0 k0) := by rw [World.cell?_setCell_other _ _ _ _ (by simp)]; exact d1
  have e2 : ((w.setCell ⟨g, 0, none⟩ (.bool b)).setCell ⟨g, 1, none⟩ (.slice a l k)).cell? ⟨g, 2, none⟩ = some (.slice a1 l1 k1) := by
    rw [World.cell?_setCell_other _ _ _ _ (by simp), World.cell?_setCell_other _ _ _ _ (by simp)]; exact d2
  refine ⟨?_, ?_, World.cell?_setCell_same _ _ _ e2, by simpa using d3, by simpa using d4, by simpa using d5, by simpa using d6⟩
  · rw [World.cell?_setCell_other _ _ _ _ (by simp), World.cell?_setCell_other _ _ _ _ (by simp)]; exact World.cell?_setCell_same _ _ _ d0
  · rw [World.cell?_setCell_other _ _ _ _ (by simp)]; exact World.cell?_setCell_same _ _ _ e1

theorem NumV.setCell {w : World} {x : Value} {p : Int} {q : Nat} (h : NumV w x p q) {a : Addr} {y : Value} (hy : w.cell? a = some y) (hn : ∀ k, y ≠ .int .i64 k) (z : Value) : NumV (w.setCell a z) x p q := by
  obtain ⟨b, v, u, h1, h2, h3, h4, h5⟩ := h
  exact ⟨b, v, u, h1, h2.setCell hy hn z, h3, h4.setCell hy hn z, h5⟩

theorem NumV.stored {w : World} {x : Value} {p : Int} {q : Nat} (hx : NumV w x p q) {g : Nat} {b0 b : Bool} {a0 a a1 a2 : Option Addr} {l0 k0 l k l1 k1 l2 k2 : Nat} (h : Box3 w g (.bool b0) (.slice a0 l0 k0) (.slice a1 l1 k1)) : NumV (((w.setCell ⟨g, 0, none⟩ (.bool b)).setCell ⟨g, 1, none⟩ (.slice a l k)).setCell ⟨g, 2, none⟩ (.slice a2 l2 k2)) x p q := by
  obtain ⟨d0, d1, d2, d3, d4, d5, d6⟩ := h
  have e1 : (w.setCell ⟨g, 0, none⟩ (.bool b)).cell? ⟨g, 1, none⟩ = some (.slice a0 l0 k0) := by rw [World.cell?_setCell_other _ _ _ _ (by simp)]; exact d1
  have e2 : ((w.setCell ⟨g, 0, none⟩ (.bool b)).setCell ⟨g, 1, none⟩ (.slice a l k)).cell? ⟨g, 2, none⟩ = some (.slice a1 l1 k1) := by
    rw [World.cell?_setCell_other _ _ _ _ (by simp), World.cell?_setCell_other _ _ _ _ (by simp)]; exact d2
  exact ((hx.setCell d0 (by simp) _).setCell e1 (by simp) _).setCell e2 (by simp) _

end Go.Proofs.YtnhfdcfnojnofaaGreatDoor.T

/-
  What the document's own Read does (package planesref).
-/
namespace Go.Proofs.YtnhfdcfnojnofaaGreatDoor.T
open Go.RowKit

/-- Digits, at least one and at most m. -/
def okD (l : List UInt8) (m : Nat) : Bool := decide (l ≠ []) && (decide (l.length ≤ m) && allDig l)

/-- What is read of a text: is it a number's; its parts. -/
def rdOk (T : List UInt8) (m : Nat) : Bool := okD (Lib.cut T [47]).1 m && (!(Lib.cut T [47]).2.2 || (okD (Lib.cut T [47]).2.1 m && decide (decVal (Lib.cut T [47]).2.1 ≠ 0)))
def rdDown (T : List UInt8) : Nat := if (Lib.cut T [47]).2.2 then decVal (Lib.cut T [47]).2.1 else 1

end Go.Proofs.YtnhfdcfnojnofaaGreatDoor.T

/-
  What the document's own Floor, Of do (package planesref).
-/
namespace Go.Proofs.YtnhfdcfnojnofaaGreatDoor.T
open Go.RowKit

theorem NV.stored {w : World} {x : Value} {n : Nat} (hx : NV w x n) {g : Nat} {b0 b : Bool} {a0 a a1 a2 : Option Addr} {l0 k0 l k l1 k1 l2 k2 : Nat} (h : Box3 w g (.bool b0) (.slice a0 l0 k0) (.slice a1 l1 k1)) : NV (((w.setCell ⟨g, 0, none⟩ (.bool b)).setCell ⟨g, 1, none⟩ (.slice a l k)).setCell ⟨g, 2, none⟩ (.slice a2 l2 k2)) x n := by
  obtain ⟨d0, d1, d2, d3, d4, d5, d6⟩ := h
  have e1 : (w.setCell ⟨g, 0, none⟩ (.bool b)).cell? ⟨g, 1, none⟩ = some (.slice a0 l0 k0) := by rw [World.cell?_setCell_other _ _ _ _ (by simp)]; exact d1
  have e2 : ((w.setCell ⟨g, 0, none⟩ (.bool b)).setCell ⟨g, 1, none⟩ (.slice a l k)).cell? ⟨g, 2, none⟩ = some (.slice a1 l1 k1) := by
    rw [World.cell?_setCell_other _ _ _ _ (by simp), World.cell?_setCell_other _ _ _ _ (by simp)]; exact d2
  exact ((hx.setCell d0 (by simp) _).setCell e1 (by simp) _).setCell e2 (by simp) _

end Go.Proofs.YtnhfdcfnojnofaaGreatDoor.T

/-
  What the document's own Calc does (package planesref).
-/
namespace Go.Proofs.YtnhfdcfnojnofaaGreatDoor.T
open Go.RowKit

/-- Is the text a number's? -/
def rOk (l : List UInt8) : Bool := rdOk (Lib.trimPrefix l [45]) 40
/-- The number without its sign and before it is in lowest terms, above and beneath. -/
def rA (l : List UInt8) : Nat := decVal (Lib.cut (Lib.trimPrefix l [45]) [47]).1
def rD (l : List UInt8) : Nat := rdDown (Lib.trimPrefix l [45])
/-- The number in lowest terms. -/
def rP (l : List UInt8) : Int := sg (Lib.hasPrefix l [45]) (rA l) / (Nat.gcd (rA l) (rD l) : Int)
def rQ (l : List UInt8) : Nat := rD l / Nat.gcd (rA l) (rD l)

theorem okD_ten {A : List UInt8} {m : Nat} (h : okD A m = true) : decVal A < 10 ^ m := by
  unfold okD at h
  simp only [Bool.and_eq_true, decide_eq_true_eq] at h
  exact Nat.lt_of_lt_of_le (decVal_lt h.2.2) (Nat.pow_le_pow_right (by omega) h.2.1)

/-- What comes of it: the text, and the error's number. -/
def resT (op : Int) (p r : Int) (q s : Nat) : List UInt8 × Int :=
  if op = 1 then (lowText (p * s + r * q) (q * s), 0) else if op = 2 then (lowText (p * s + (-r) * q) (q * s), 0) else if op = 3 then (lowText (p * r) (q * s), 0)
  else if op = 4 then (if r = 0 then ([], 3) else (lowText (p * s * r.sign) (q * r.natAbs), 0)) else if op = 5 then (Lib.itoa (p / (q : Int)), 0) else (Lib.itoa (if p * (s : Int) < r * (q : Int) then 1 else 0), 0)

end Go.Proofs.YtnhfdcfnojnofaaGreatDoor.T

/-
  What the document's own Words, Lines do (package planesref): a text parted at a byte.
-/
namespace Go.Proofs.YtnhfdcfnojnofaaGreatDoor.T
open Go.RowKit

/-- A text as a value. -/
def encS (s : ByteArray) : Value := .string s

/-- A slice value that holds the texts ls. -/
def Sv (w : World) (v : Value) (ls : List ByteArray) : Prop :=
  (v = .slice none 0 0 ∧ ls = []) ∨ ∃ g off cap, v = .slice (some ⟨g, off, none⟩) ls.length cap ∧ ls.length ≤ cap ∧ g < w.heap.size ∧ ∀ i, i < ls.length → w.cell? ⟨g, off + i, none⟩ = some (.string (ls.getD i ⟨#[]⟩))

theorem Sv.below {w w' : World} {v : Value} {ls : List ByteArray} (h : Sv w v ls) (hb : Below w.heap.size w w') : Sv w' v ls := by
  rcases h with h | ⟨g, off, cap, h1, h2, h3, h4⟩
  · exact Or.inl h
  · exact Or.inr ⟨g, off, cap, h1, h2, Nat.lt_of_lt_of_le h3 hb.size, fun i hi => (hb.cell (p := ⟨g, off + i, none⟩) h3).trans (h4 i hi)⟩

theorem take_snoc (l : List UInt8) (i : Nat) (h : i < l.length) : l.take (i + 1) = l.take i ++ [l[i]] := by
  rw [List.take_succ_eq_append_getElem h]

theorem one_byte {s : ByteArray} {i : Nat} (h : i < s.size) : s.extract i (i + 1) = ⟨#[s[i]]⟩ := by
  apply ba_of (l := [s[i]])
  rw [Lib.extract_data, show i + 1 - i = 1 by omega]
  have hl : i < s.data.toList.length := by rw [toList_len]; exact h
  rw [List.drop_eq_getElem_cons hl]
  simp
  rfl

end Go.Proofs.YtnhfdcfnojnofaaGreatDoor.T

/-
  What the document's own ReadWhole does (package planesref).
-/
namespace Go.Proofs.YtnhfdcfnojnofaaGreatDoor.T
open Go.RowKit

/-- Is the text a whole number's, and which. -/
def wOk (l : List UInt8) : Bool := decide (∀ c ∈ l, c ≠ 47) && rOk l
def wZ (l : List UInt8) : Int := sg (Lib.hasPrefix l [45]) (decVal (Lib.trimPrefix l [45]))

end Go.Proofs.YtnhfdcfnojnofaaGreatDoor.T

/-
  What the document's own wholes does (package planesref): lists of numbers.
-/
namespace Go.Proofs.YtnhfdcfnojnofaaGreatDoor.T
open Go.RowKit

/-- A number's struct: its sign, its upper part, its lower one. -/
structure Tri where
  b : Bool
  u : Option Addr × Nat × Nat
  d : Option Addr × Nat × Nat

def Tri.up (t : Tri) : Value := .slice t.u.1 t.u.2.1 t.u.2.2
def Tri.down (t : Tri) : Value := .slice t.d.1 t.d.2.1 t.d.2.2
def Tri.val (t : Tri) : Value := .agg #[.bool t.b, t.up, t.down]
def Tri.cells (t : Tri) : List Value := [.bool t.b, t.up, t.down]

/-- The cells of a list of numbers. -/
def triCells (ts : List Tri) : List Value := ts.flatMap Tri.cells

/-- A slice value that holds the numbers zs. -/
def Nums (w : World) (v : Value) (zs : List (Int × Nat)) : Prop :=
  ∃ ts : List Tri, ts.length = zs.length ∧ (∀ (i : Nat) (t : Tri) (z : Int × Nat), ts[i]? = some t → zs[i]? = some z → NumV w t.val z.1 z.2) ∧
    ((v = .slice none 0 0 ∧ ts = []) ∨ ∃ g off cap, v = .slice (some ⟨g, off, none⟩) ts.length cap ∧ ts.length ≤ cap ∧ g < w.heap.size ∧ ∀ (i : Nat) (t : Tri), ts[i]? = some t → w.cell? ⟨g, off + i * 3, none⟩ = some (.bool t.b) ∧ w.cell? ⟨g, off + i * 3 + 1, none⟩ = some t.up ∧ w.cell? ⟨g, off + i * 3 + 2, none⟩ = some t.down)

theorem Nums.below {w w' : World} {v : Value} {zs : List (Int × Nat)} (h : Nums w v zs) (hb : Below w.heap.size w w') : Nums w' v zs := by
  obtain ⟨ts, hl, hn, hr⟩ := h
  refine ⟨ts, hl, fun i t z h1 h2 => (hn i t z h1 h2).below hb, ?_⟩
  rcases hr with hr | ⟨g, off, cap, h1, h2, h3, h4⟩
  · exact Or.inl hr
  · refine Or.inr ⟨g, off, cap, h1, h2, Nat.lt_of_lt_of_le h3 hb.size, fun i t ht => ?_⟩
    obtain ⟨c0, c1, c2⟩ := h4 i t ht
    exact ⟨(hb.cell (p := ⟨g, off + i * 3, none⟩) h3).trans c0, (hb.cell (p := ⟨g, off + i * 3 + 1, none⟩) h3).trans c1, (hb.cell (p := ⟨g, off + i * 3 + 2, none⟩) h3).trans c2⟩

end Go.Proofs.YtnhfdcfnojnofaaGreatDoor.T

/-
  What the document's own wholes does (package planesref).
-/
namespace Go.Proofs.YtnhfdcfnojnofaaGreatDoor.T
open Go.RowKit

theorem Sv.shape {w : World} {v : Value} {ls : List ByteArray} (h : Sv w v ls) : ∃ ao cap, v = .slice ao ls.length cap := by
  rcases h with ⟨rfl, rfl⟩ | ⟨g, off, cap, rfl, _⟩
  · exact ⟨none, 0, rfl⟩
  · exact ⟨_, _, rfl⟩

theorem Sv.row {w : World} {ao : Option Addr} {l cap : Nat} {ls : List ByteArray} (h : Sv w (.slice ao l cap) ls) (hne : ls ≠ []) : ∃ g off, ao = some ⟨g, off, none⟩ ∧ g < w.heap.size ∧ ∀ i, i < ls.length → w.cell? ⟨g, off + i, none⟩ = some (.string (ls.getD i ⟨#[]⟩)) := by
  rcases h with ⟨h, rfl⟩ | ⟨g, off, cap', h1, h2, h3, h4⟩
  · exact absurd rfl hne
  · simp only [Value.slice.injEq] at h1
    obtain ⟨rfl, _, _⟩ := h1
    exact ⟨g, off, rfl, h3, h4⟩

end Go.Proofs.YtnhfdcfnojnofaaGreatDoor.T

/-
  What the document's own told does (package planesref).
-/
namespace Go.Proofs.YtnhfdcfnojnofaaGreatDoor.T
open Go.RowKit

/-- Numbers, each with a blank ahead. -/
def toldL (zs : List (Int × Nat)) : List UInt8 := zs.flatMap fun z => 32 :: fracText z.1 z.2

theorem dec_len4 {n K : Nat} (h : n < 10000 ^ K) : (Lib.decDigits n).length ≤ 4 * K + 1 :=
  dec_len_le (4 * K + 1) _ (by rw [pow4] at h; exact Nat.lt_of_lt_of_le h (Nat.pow_le_pow_right (by omega) (by omega))) (by omega)

theorem frac_len {p : Int} {q K : Nat} (hp : p.natAbs < 10000 ^ K) (hq : q < 10000 ^ K) : (fracText p q).length ≤ 8 * K + 4 := by
  have h1 := dec_len4 hp
  have h2 := dec_len4 hq
  have h3 : (Lib.itoa p).length ≤ 4 * K + 2 := by
    unfold Lib.itoa
    split
    · simp; omega
    · rw [show p.toNat = p.natAbs by omega]; omega
  unfold fracText
  split
  · omega
  · simp; omega

end Go.Proofs.YtnhfdcfnojnofaaGreatDoor.T

/-
  What the document's own vars does (package planesref).
-/
namespace Go.Proofs.YtnhfdcfnojnofaaGreatDoor.T
open Go.RowKit

/-- A byte as a count of variables; 0: it is none. -/
def varB (c : UInt8) : Nat := if 49 ≤ c.toNat ∧ c.toNat ≤ 52 then c.toNat - 48 else 0

/-- How many variables the first line's words say; 0: it can't stand there. -/
def varsN (ls : List (List UInt8)) : Nat := if ls.length = 2 ∧ ls.getD 0 [] = [118, 97, 114, 115] ∧ (ls.getD 1 []).length = 1 then varB ((ls.getD 1 []).getD 0 0) else 0

theorem varB_le (c : UInt8) : varB c ≤ 4 := by
  unfold varB
  split <;> omega

end Go.Proofs.YtnhfdcfnojnofaaGreatDoor.T

/-
  Problems, as the document reads and writes them: what Plain answers, as a function of the text.
-/
namespace Go.Proofs.YtnhfdcfnojnofaaGreatDoor

/-- A problem as it is read so far. -/
structure Prob where
  n : Nat
  mx : List Int
  rg : List (Int × Int)
  rows : List (List Int × List UInt8 × Int)

def Prob.none : Prob := ⟨0, [], [], []⟩

def wMax : List UInt8 := [109, 97, 120]
def wRange : List UInt8 := [114, 97, 110, 103, 101]
def wRow : List UInt8 := [114, 111, 119]
def wVars : List UInt8 := [118, 97, 114, 115]

/-- Is a word a whole number's text? -/
def dOk (l : List UInt8) : Bool := T.okD (Lib.trimPrefix l [45]) 40

/-- Line i, counted from 0 on, is read into a problem; none: it can't stand there. -/
def takeS (i : Nat) (p : Prob) (ws : List (List UInt8)) : Option Prob :=
  if i = 0 then (if T.varsN ws = 0 then .none else some ⟨T.varsN ws, [], [], []⟩)
  else if i = 1 then (if ws.length = p.n + 1 ∧ ws.getD 0 [] = wMax ∧ (ws.drop 1).all dOk = true then some { p with mx := (ws.drop 1).map T.wZ } else .none)
  else if i ≤ 1 + p.n then (if ws.length = 3 ∧ ws.getD 0 [] = wRange ∧ (ws.drop 1).all dOk = true then some { p with rg := p.rg ++ [(T.wZ (ws.getD 1 []), T.wZ (ws.getD 2 []))] } else .none)
  else (if p.rows.length < 6 ∧ ws.length = p.n + 3 ∧ ws.getD 0 [] = wRow ∧ ((ws.drop 1).take p.n).all dOk = true ∧ isSign (ws.getD (p.n + 1) []) = true ∧ dOk (ws.getD (p.n + 2) []) = true
    then some { p with rows := p.rows ++ [(((ws.drop 1).take p.n).map T.wZ, ws.getD (p.n + 1) [], T.wZ (ws.getD (p.n + 2) []))] } else .none)

/-- The lines from number i on, counted from 0 on; an error: the number, counted from 1 on, of the first that can't stand there. -/
def readS : Nat → Prob → List (List UInt8 × Bool) → Except Nat Prob
  | _, p, [] => .ok p
  | i, p, l :: r => if l.2 = false then .error (i + 1) else match takeS i p (words l.1) with
    | .none => .error (i + 1)
    | some q => readS (i + 1) q r

/-- The first range that is too wide. -/
def wideS : Nat → List (Int × Int) → Option Nat
  | _, [] => .none
  | i, r :: rs => if 7 < r.2 - r.1 then some i else wideS (i + 1) rs

/-- Numbers, each with a blank ahead. -/
def tellS (zs : List Int) : List UInt8 := zs.flatMap fun z => 32 :: Lib.itoa z

def rangeS (r : Int × Int) : List UInt8 := wRange ++ tellS [r.1, r.2] ++ [10]
def rowS (r : List Int × List UInt8 × Int) : List UInt8 := wRow ++ tellS r.1 ++ 32 :: r.2.1 ++ tellS [r.2.2] ++ [10]

/-- The plain form. -/
def textS (p : Prob) : List UInt8 :=
  wVars ++ 32 :: Lib.itoa (p.n : Int) ++ [10] ++ (wMax ++ tellS p.mx ++ [10]) ++ p.rg.flatMap rangeS ++ p.rows.flatMap rowS

/-- What Plain answers: a text, an error, a line. -/
def plainS (s : List UInt8) : List UInt8 × Nat × Nat :=
  if 2000 < s.length then ([], 4, 0)
  else match readS 0 Prob.none (lines s) with
    | .error k => ([], 5, k)
    | .ok p => if (lines s).length < 2 + p.n then ([], 5, (lines s).length + 1) else match wideS 0 p.rg with
      | some i => ([], 6, i + 3)
      | .none => (textS p, 0, 0)
end Go.Proofs.YtnhfdcfnojnofaaGreatDoor

/-
  What the keeper's row says (package planeskeep).
-/
namespace Go.Proofs.YtnhfdcfnojnofaaGreatDoor
open Go.RowKit

/-- A slice value that holds these ints. -/
def Ints (w : World) (v : Value) (zs : List Int) : Prop :=
  ∃ ao cap, v = .slice ao zs.length cap ∧ (0 < zs.length → ∃ g off, ao = some ⟨g, off, none⟩ ∧ g < w.heap.size ∧ ∀ (i : Nat) (z : Int), zs[i]? = some z → w.cell? ⟨g, off + i, none⟩ = some (.int .i64 z))

theorem Ints.ext {w w' : World} {v : Value} {zs : List Int} (h : Ints w v zs) (hb : Ext w w') : Ints w' v zs := by
  obtain ⟨ao, cap, rfl, h1⟩ := h
  refine ⟨ao, cap, rfl, fun h0 => ?_⟩
  obtain ⟨g, off, rfl, hg, h2⟩ := h1 h0
  exact ⟨g, off, rfl, Nat.lt_of_lt_of_le hg hb.size, fun i z hz => hb.cell (h2 i z hz)⟩

theorem itoa_short (z : Int) (h : z.natAbs < 10 ^ 10) : (ByteArray.mk (Lib.itoa z).toArray).size ≤ 11 := by
  rw [size_mk]
  have h1 := dec_len_le 10 _ h (by omega)
  unfold Lib.itoa
  split
  · simp; omega
  · rw [show z.toNat = z.natAbs by omega]; omega

set_option maxHeartbeats 2000000 in
set_option maxRecDepth 100000 in
theorem row_any (w : World) (v : Value) (zs : List Int) (hv : Ints w v zs) (hz : ∀ z ∈ zs, z.natAbs < 10 ^ 10) (hl : zs.length ≤ 1000) (htab : Tab w) :
    Calls Tryz.prog 35 #[v] w fun e w' => e = .returned (.string ⟨(tellS zs).toArray⟩) ∧ Below w.heap.size w w' := by
  obtain ⟨ao, cap, rfl, hr⟩ := hv
  have HZ := hide hz
  have HR := hide hr
  clear hz hr
  go_enter Tryz.func35, Tryz.ntmps35
  go_wp2
  go_loopw [3, 4] (fun sv iv wr => ∃ (i : Nat) (cur : ByteArray), i ≤ zs.length ∧ sv = .string cur ∧ iv = .int .i64 (i : Nat) ∧ cur.size ≤ i * 12 ∧ Hid (cur = ⟨(tellS (zs.take i)).toArray⟩) ∧ Ext w wr) (fun _ iv _ => ((zs.length : Int) - intOf iv).toNat)
  case atStart => exact ⟨0, ⟨#[]⟩, by omega, rfl, rfl, Nat.zero_le _, rfl, Ext.refl _⟩
  case round =>
    obtain ⟨i, cur, hil, rfl, rfl, hcz, HC, xr⟩ := hrel
    by_cases hin : i < zs.length
    · obtain ⟨g, off, rfl, hg, hcell⟩ := HR.out (by omega)
      have hzi : zs[i]? = some zs[i] := List.getElem?_eq_getElem hin
      have hbz := HZ.out _ (List.getElem_mem hin)
      have c0 := xr.cell (hcell i _ hzi)
      have hsz := itoa_short _ hbz
      have HTK : Hid (cur ++ ⟨#[32]⟩ ++ ⟨(Lib.itoa zs[i]).toArray⟩ = ⟨(tellS (zs.take (i + 1))).toArray⟩) := by
        have e : (⟨#[32]⟩ : ByteArray) = ⟨([32] : List UInt8).toArray⟩ := rfl
        rw [Hid, HC.out, e, ByteArray.mk_append_mk, ByteArray.mk_append_mk, List.take_succ_eq_append_getElem hin]
        simp only [tellS, List.flatMap_append, List.flatMap_cons, List.flatMap_nil, List.append_nil, List.append_assoc, List.cons_append, List.nil_append]
      generalize zs[i] = z at *
      have hz10 : (10 : Nat) ^ 10 = 10000000000 := by decide
      have HN := hide (fun W (hW : Ext wr W) => num_any z (by omega) (by omega) W ((htab.below xr).below hW))
      generalize ByteArray.mk (Lib.itoa z).toArray = zB at *
      have f1 : ¬ 9223372036854775807 < cur.size + 1 := by omega
      have f1' : ¬ 9223372036854775806 < cur.size := by omega
      have f2 : ¬ 9223372036854775807 < cur.size + 1 + zB.size := by omega
      have hszN : (cur ++ ⟨#[32]⟩ ++ zB).size ≤ (i + 1) * 12 := by
        have e1 : (ByteArray.mk #[32]).size = 1 := rfl
        simp only [ByteArray.size_append]
        omega
      have y0 := Ext.refl wr
      clear hcell hzi hbz HC hz10
      go_wp2_with fail
      refine (HN.out _ y0).mono ?_
      rintro e wB ⟨rfl, hbB⟩
      go_wp2
      go_roundw
      case rel => exact ⟨i + 1, _, by omega, rfl, by go_num, hszN, HTK, xr.trans hbB⟩
      case measure => simp [intOf]; omega
    · obtain rfl : i = zs.length := by omega
      have HF : Hid (cur = ⟨(tellS zs).toArray⟩) := by
        rw [Hid, HC.out, List.take_length]
      clear HC
      go_wp2
      go_ret
      exact ⟨by rw [← HF.out]; rfl, xr⟩
end Go.Proofs.YtnhfdcfnojnofaaGreatDoor

/-
  What holds of a problem while it is read.
-/
namespace Go.Proofs.YtnhfdcfnojnofaaGreatDoor

theorem wZ_lt {l : List UInt8} (h : dOk l = true) : (T.wZ l).natAbs < 10 ^ 40 := by
  have h1 : (T.wZ l).natAbs = decVal (Lib.trimPrefix l [45]) := by
    unfold T.wZ sg
    split <;> simp
  rw [h1]
  exact T.okD_ten h

theorem wZs_lt {ws : List (List UInt8)} (h : ws.all dOk = true) : ∀ z ∈ ws.map T.wZ, z.natAbs < 10 ^ 40 := by
  intro z hz
  obtain ⟨l, hl, rfl⟩ := List.mem_map.1 hz
  exact wZ_lt (List.all_eq_true.1 h l hl)

/-- What holds of a problem ahead of its line number i, counted from 0 on. -/
structure PrOk (i : Nat) (p : Prob) : Prop where
  z : i = 0 → p = Prob.none
  n : 0 < i → 0 < p.n ∧ p.n ≤ 4
  r : i ≤ 2 + p.n → p.rows = []
  l : p.rows.length ≤ 6
  g : p.rg.length = min (i - 2) p.n
  m : 2 ≤ i → p.mx.length = p.n
  c : ∀ x ∈ p.rows, x.1.length = p.n ∧ isSign x.2.1 = true
  bm : ∀ z ∈ p.mx, z.natAbs < 10 ^ 40
  bg : ∀ r ∈ p.rg, r.1.natAbs < 10 ^ 40 ∧ r.2.natAbs < 10 ^ 40
  br : ∀ x ∈ p.rows, (∀ z ∈ x.1, z.natAbs < 10 ^ 40) ∧ x.2.2.natAbs < 10 ^ 40

theorem PrOk.start : PrOk 0 Prob.none := by
  refine ⟨fun _ => rfl, fun h => by omega, fun _ => rfl, by simp [Prob.none], by simp [Prob.none], fun h => by omega, fun x hx => by simp [Prob.none] at hx, fun x hx => by simp [Prob.none] at hx, fun x hx => by simp [Prob.none] at hx, fun x hx => by simp [Prob.none] at hx⟩

theorem varsN_le (ws : List (List UInt8)) : T.varsN ws ≤ 4 := by
  unfold T.varsN
  split
  · exact T.varB_le _
  · omega

theorem PrOk.step {i : Nat} {p q : Prob} {ws : List (List UInt8)} (h : PrOk i p) (ht : takeS i p ws = some q) : PrOk (i + 1) q := by
  unfold takeS at ht
  by_cases h0 : i = 0
  · rw [if_pos h0] at ht
    subst h0
    by_cases hv : T.varsN ws = 0
    · rw [if_pos hv] at ht; cases ht
    · rw [if_neg hv] at ht
      injection ht with ht
      subst ht
      exact ⟨fun h => by omega, fun _ => ⟨Nat.pos_of_ne_zero hv, varsN_le ws⟩, fun _ => rfl, by simp, by simp, fun h => by omega, fun x hx => by simp at hx, fun x hx => by simp at hx, fun x hx => by simp at hx, fun x hx => by simp at hx⟩
  · rw [if_neg h0] at ht
    have hn := h.n (by omega)
    by_cases h1 : i = 1
    · rw [if_pos h1] at ht
      subst h1
      split at ht
      · rename_i hc
        injection ht with ht
        subst ht
        have hg := h.g
        refine ⟨fun h => by omega, fun _ => hn, fun _ => h.r (by omega), h.l, by simpa using hg, fun _ => ?_, h.c, wZs_lt hc.2.2, h.bg, h.br⟩
        simp only [List.length_map, List.length_drop]
        omega
      · cases ht
    · rw [if_neg h1] at ht
      by_cases h2 : i ≤ 1 + p.n
      · rw [if_pos h2] at ht
        split at ht
        · rename_i hc
          injection ht with ht
          subst ht
          have hg := h.g
          refine ⟨fun h => by omega, fun _ => hn, fun _ => h.r (by omega), h.l, ?_, fun _ => h.m (by omega), h.c, h.bm, fun r hr => ?_, h.br⟩
          · simp only [List.length_append, List.length_singleton]
            omega
          · rcases List.mem_append.1 hr with e | e
            · exact h.bg r e
            · obtain rfl := List.mem_singleton.1 e
              obtain ⟨a, b, c, rfl⟩ : ∃ a b c, ws = [a, b, c] := by
                match ws, hc.1 with
                | [a, b, c], _ => exact ⟨a, b, c, rfl⟩
              have h3 : dOk b = true ∧ dOk c = true := by simpa using hc.2.2
              exact ⟨wZ_lt h3.1, wZ_lt h3.2⟩
        · cases ht
      · rw [if_neg h2] at ht
        split at ht
        · rename_i hc
          injection ht with ht
          subst ht
          have hg := h.g
          refine ⟨fun h => by omega, fun _ => hn, fun h => ?_, ?_, ?_, fun _ => h.m (by omega), fun x hx => ?_, h.bm, h.bg, fun x hx => ?_⟩
          · simp only at h; omega
          · simp only [List.length_append, List.length_singleton]; omega
          · simp only; omega
          · rcases List.mem_append.1 hx with e | e
            · exact h.c x e
            · obtain rfl := List.mem_singleton.1 e
              refine ⟨?_, hc.2.2.2.2.1⟩
              simp only [List.length_map, List.length_take, List.length_drop]
              omega
          · rcases List.mem_append.1 hx with e | e
            · exact h.br x e
            · obtain rfl := List.mem_singleton.1 e
              exact ⟨wZs_lt hc.2.2.2.1, wZ_lt hc.2.2.2.2.2⟩
        · cases ht

/-- What is read in the end. -/
theorem PrOk.read : ∀ (ls : List (List UInt8 × Bool)) (i : Nat) (p q : Prob), PrOk i p → readS i p ls = .ok q → PrOk (i + ls.length) q
  | [], i, p, q, h, hr => by
    simp only [readS, Except.ok.injEq] at hr
    subst hr
    exact h
  | l :: r, i, p, q, h, hr => by
    rw [readS] at hr
    split at hr
    · cases hr
    · split at hr
      · cases hr
      · rename_i q' hq
        have := PrOk.read r (i + 1) q' q (h.step hq) hr
        rw [List.length_cons, show i + (r.length + 1) = i + 1 + r.length by omega]
        exact this

/-- What Parse answers: a problem, or an error and a line. -/
def parseS (s : List UInt8) : Except (Nat × Nat) Prob :=
  if 2000 < s.length then .error (4, 0)
  else match readS 0 Prob.none (lines s) with
    | .error k => .error (5, k)
    | .ok p => if (lines s).length < 2 + p.n then .error (5, (lines s).length + 1) else match wideS 0 p.rg with
      | some i => .error (6, i + 3)
      | .none => .ok p

theorem plainS_parse (s : List UInt8) : plainS s = match parseS s with | .error e => ([], e.1, e.2) | .ok p => (textS p, 0, 0) := by
  unfold plainS parseS
  by_cases h : 2000 < s.length
  · rw [if_pos h, if_pos h]
  · rw [if_neg h, if_neg h]
    cases hr : readS 0 Prob.none (lines s) with
    | error k => rfl
    | ok p =>
      by_cases h2 : (lines s).length < 2 + p.n
      · simp only [h2, if_true]
      · simp only [h2, if_false]
        cases hw : wideS 0 p.rg <;> rfl
end Go.Proofs.YtnhfdcfnojnofaaGreatDoor

/-
  Texts of problems, taken apart: lines and words of what was put together of lines and words.
-/
namespace Go.Proofs.YtnhfdcfnojnofaaGreatDoor

theorem cut_hit' (c : UInt8) (l r : List UInt8) (h : ∀ x ∈ l, x ≠ c) : Lib.cut (l ++ c :: r) [c] = (l, r, true) := by
  induction l with
  | nil => exact cutB_hit c r
  | cons x l ih => rw [List.cons_append, cutB_miss (h x (by simp)), ih (fun y hy => h y (by simp [hy]))]

theorem cut_miss' (c : UInt8) (l : List UInt8) (h : ∀ x ∈ l, x ≠ c) : Lib.cut l [c] = (l, [], false) := by
  induction l with
  | nil => exact cutB_nil c
  | cons x l ih => rw [cutB_miss (h x (by simp)), ih (fun y hy => h y (by simp [hy]))]

theorem linesF_fuel (f : Nat) : ∀ (g : Nat) (l : List UInt8), l.length ≤ f → l.length ≤ g → linesF f l = linesF g l := by
  induction f with
  | zero =>
    intro g l h _
    have : l = [] := List.length_eq_zero_iff.1 (by omega)
    rw [this, linesF_nil, linesF_nil]
  | succ f ih =>
    intro g l h h2
    by_cases h0 : l = []
    · rw [h0, linesF_nil, linesF_nil]
    · cases g with
      | zero => exact absurd (List.length_eq_zero_iff.1 (by omega)) h0
      | succ g =>
        rw [linesF, linesF, if_neg h0, if_neg h0]
        have hl := cutB_len 10 l
        by_cases hc : (Lib.cut l [10]).2.2 = true
        · rw [if_pos hc] at hl
          rw [ih g _ (by omega) (by omega)]
        · have h1 := cutB_no (by simpa using hc)
          rw [h1]
          simp only [linesF_nil]

theorem lines_cons (l r : List UInt8) (h : ∀ x ∈ l, x ≠ 10) : lines (l ++ 10 :: r) = (l, true) :: lines r := by
  have h1 := cut_hit' 10 l r h
  unfold lines
  rw [show (l ++ 10 :: r).length = (l.length + r.length) + 1 by simp; omega, linesF, if_neg (by simp), h1]
  rw [linesF_fuel (l.length + r.length) r.length r (by omega) (by omega)]

theorem lines_last (l : List UInt8) (h : ∀ x ∈ l, x ≠ 10) (h0 : l ≠ []) : lines l = [(l, false)] := by
  unfold lines
  cases l with
  | nil => exact absurd rfl h0
  | cons x l => rw [List.length_cons, linesF, if_neg h0, cut_miss' 10 _ h]; simp only [linesF_nil]

theorem wordsF_fuel (f : Nat) : ∀ (g : Nat) (l : List UInt8), l.length < f → l.length < g → wordsF f l = wordsF g l := by
  induction f with
  | zero => intro g l h; omega
  | succ f ih =>
    intro g l h h2
    cases g with
    | zero => omega
    | succ g =>
      rw [wordsF, wordsF]
      have hl := cutB_len 32 l
      by_cases hc : (Lib.cut l [32]).2.2 = true
      · rw [if_pos hc] at hl
        rw [if_pos hc, if_pos hc, ih g _ (by omega) (by omega)]
      · rw [if_neg hc, if_neg hc]

theorem words_cons (l r : List UInt8) (h : ∀ x ∈ l, x ≠ 32) : words (l ++ 32 :: r) = l :: words r := by
  have h1 := cut_hit' 32 l r h
  unfold words
  rw [wordsF, h1]
  simp only [if_true]
  rw [wordsF_fuel (l ++ 32 :: r).length (r.length + 1) r (by simp; omega) (by omega)]

theorem words_one (l : List UInt8) (h : ∀ x ∈ l, x ≠ 32) : words l = [l] := by
  unfold words
  rw [wordsF, cut_miss' 32 l h]
  simp

theorem dig_chars {l : List UInt8} (h : allDig l = true) : ∀ c ∈ l, c ≠ 32 ∧ c ≠ 10 := by
  intro c hc
  have h1 := isDig_bd (List.all_eq_true.1 h c hc)
  constructor <;> (rintro rfl; simp at h1)

theorem itoa_chars (z : Int) : ∀ c ∈ Lib.itoa z, c ≠ 32 ∧ c ≠ 10 := by
  intro c hc
  unfold Lib.itoa at hc
  split at hc
  · rcases List.mem_cons.1 hc with rfl | hc
    · exact ⟨by decide, by decide⟩
    · exact dig_chars (dec_all _) c hc
  · exact dig_chars (dec_all _) c hc

theorem dOk_itoa (z : Int) (h : z.natAbs < 10 ^ 40) : dOk (Lib.itoa z) = true := by
  have h1 := dec_len_le 40 _ h (by omega)
  have h2 := dec_pos z.natAbs
  unfold dOk T.okD
  rw [(trim_itoa z).1, dec_all]
  simp only [Bool.and_true, Bool.and_eq_true, decide_eq_true_eq]
  exact ⟨by intro e; rw [e] at h2; simp at h2, h1⟩

theorem wZ_itoa (z : Int) : T.wZ (Lib.itoa z) = z := by
  unfold T.wZ
  rw [(trim_itoa z).1, (trim_itoa z).2, dec_val, sg_self]

end Go.Proofs.YtnhfdcfnojnofaaGreatDoor
