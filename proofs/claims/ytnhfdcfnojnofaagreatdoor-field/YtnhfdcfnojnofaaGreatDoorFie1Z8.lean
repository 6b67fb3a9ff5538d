/-
  Part 8 of the texts ahead of Fie1: Pla3, Row1, Row2, Kee1, Txt9, Pla4, Kee2.
-/
import Derived.Test.YtnhfdcfnojnofaaGreatDoorFie1Z7
import Derived.Test.YtnhfdcfnojnofaaGreatDoorTie
import Derived.Test.YtnhfdcfnojnofaaGreatDoorCards
import Derived.Test.YtnhfdcfnojnofaaGreatDoorRows
import Derived.ProofKit
import Derived.OpenShut
import Derived.LaidMore
import Derived.Lay
import Derived.SevenTiedAt
import Derived.Stop.Joined
import Derived.Stop.LaidErr
import Derived.Shelf.Vars
import Derived.Test.YtnhfdcfnojnofaaGreatDoorFie1Z1
import Derived.Test.YtnhfdcfnojnofaaGreatDoorShelf
import Derived.Lib.AppendIntMem
import Derived.WalkSmall
import Derived.Lib.IndexMore
set_option linter.unusedSimpArgs false
set_option linter.unusedVariables false
/-
  What package planes does: calc, for each operation, where both texts are numbers'.
-/
namespace Go.Proofs.YtnhfdcfnojnofaaGreatDoor
open Go.RowKit

/-- What the calls lean on in old memory: the table of powers of ten, and the library's bound on short searches. -/
def Gl (w : World) : Prop := Tab w ∧ ∃ mx, w.cell? ⟨1, 0, none⟩ = some (.int .i64 mx) ∧ 1 < w.heap.size

theorem Gl.below {w w' : World} (h : Gl w) (hb : Below w.heap.size w w') : Gl w' := by
  obtain ⟨h1, mx, h2, h3⟩ := h
  exact ⟨h1.below hb, mx, (hb.cell (p := ⟨1, 0, none⟩) h3).trans h2, Nat.lt_of_lt_of_le h3 hb.size⟩

/-- The text is read as the fraction p / q. -/
def ParseOK (s : ByteArray) (p : Int) (q : Nat) : Prop := ∀ W, Gl W → Calls Tryz.prog 56 #[.string s, .int .i64 40] W fun e w' => ∃ x, e = .returned (.tuple #[x, .bool true]) ∧ FracV w' x p q ∧ Below W.heap.size W w'

set_option maxHeartbeats 1000000 in
set_option maxRecDepth 100000 in
theorem calc_1 (w : World) (s t : ByteArray) (p r P : Int) (q u Q : Nat) (hg : Gl w) (hs : ParseOK s p q) (ht : ParseOK t r u)
    (hreck : ∀ W x y, FracV W x p q → FracV W y r u → Calls Tryz.prog 120 #[x, y] W fun e w' => ∃ z, e = .returned z ∧ FracV w' z P Q ∧ Below W.heap.size W w') (hP : P.natAbs < Cap) (hQ : Q < Cap) :
    Calls Tryz.prog 41 #[.int .i64 1, .string s, .string t] w fun e w' => e = .returned (.tuple #[.string ⟨(fracText P Q).toArray⟩, .int .i64 0]) ∧ Below w.heap.size w w' := by
  have HR := hide hreck
  clear hreck
  go_enter Tryz.func41, Tryz.ntmps41
  go_wp2_with fail
  refine (find_1 _).mono ?_
  rintro e w1 ⟨rfl, hb1⟩
  have hbox8 := Box3.new w1 (.int .i64 1) (.func (.func 119) #[] #[]) (.func (.func 120) #[] #[]) 95
  have hbA : Below w.heap.size w (w1.alloc (.cells #[.int .i64 1, .func (.func 119) #[] #[], .func (.func 120) #[] #[]] 95)) := hb1.alloc hb1.size _
  have hgA := hg.below hbA
  go_wp2_with fail
  refine (hs _ hgA).mono ?_
  rintro e w2 ⟨x, rfl, hx, hb2⟩
  obtain ⟨b, ao, l, cap, ao', l', cap', rfl, _⟩ := hx.parts
  have hbB0 : Below w.heap.size w w2 := hbA.trans (hb2.mono hbA.size)
  have hbB : Below w.heap.size w (w2.alloc (.cells #[.bool b, .slice ao l cap, .slice ao' l' cap'] 103)) := hbB0.alloc hbB0.size _
  have hbox8B := (hbox8.below hb2).alloc (.cells #[.bool b, .slice ao l cap, .slice ao' l' cap'] 103)
  have hbox10 := Box3.new w2 (.bool b) (.slice ao l cap) (.slice ao' l' cap') 103
  have hxB := hx.alloc (.cells #[.bool b, .slice ao l cap, .slice ao' l' cap'] 103)
  have hgB := hg.below hbB
  clear hb1 hb2 hbox8 hbA hgA hx hbB0
  go_wp2_with fail
  refine (ht _ hgB).mono ?_
  rintro e w3 ⟨y, rfl, hy, hb3⟩
  obtain ⟨c, bo, m, dap, bo', m', dap', rfl, _⟩ := hy.parts
  have hbC0 : Below w.heap.size w w3 := hbB.trans (hb3.mono hbB.size)
  have hbC : Below w.heap.size w (w3.alloc (.cells #[.bool c, .slice bo m dap, .slice bo' m' dap'] 103)) := hbC0.alloc hbC0.size _
  have hbox8C := (hbox8B.below hb3).alloc (.cells #[.bool c, .slice bo m dap, .slice bo' m' dap'] 103)
  have hbox10C := (hbox10.below hb3).alloc (.cells #[.bool c, .slice bo m dap, .slice bo' m' dap'] 103)
  have hbox11 := Box3.new w3 (.bool c) (.slice bo m dap) (.slice bo' m' dap') 103
  have hxC := (hxB.below hb3).alloc (.cells #[.bool c, .slice bo m dap, .slice bo' m' dap'] 103)
  have hyC := hy.alloc (.cells #[.bool c, .slice bo m dap, .slice bo' m' dap'] 103)
  have d8 := hbox8B.below hb3
  obtain ⟨i0, i1, i2, i3, i4, i5, i6⟩ := d8
  have d10 := hbox10.below hb3
  obtain ⟨j0, j1, j2, j3, j4, j5, j6⟩ := d10
  clear hb3 hbox8B hbox10 hxB hgB hbB hbC0 hy
  go_wp2_with fail
  refine (noFault_any _ _ _ p r q u hxC hyC).mono ?_
  rintro e w4 ⟨rfl, hb4⟩
  have hbD : Below w.heap.size w w4 := hbC.trans (hb4.mono hbC.size)
  have d8 := hbox8C.below hb4
  have d10 := hbox10C.below hb4
  have d11 := hbox11.below hb4
  have hxD := hxC.below hb4
  have hyD := hyC.below hb4
  have hgD := hg.below hbD
  clear hb4 hbox8C hbox10C hbox11 hxC hyC hbC i0 i1 i2 i3 i4 i5 i6 j0 j1 j2 j3 j4 j5 j6
  obtain ⟨i0, i1, i2, i3, i4, i5, i6⟩ := d8
  obtain ⟨j0, j1, j2, j3, j4, j5, j6⟩ := d10
  obtain ⟨k0, k1, k2, k3, k4, k5, k6⟩ := d11
  go_wp2_with fail
  refine (HR.out _ _ _ hxD hyD).mono ?_
  rintro e w5 ⟨z, rfl, hz, hb5⟩
  have hbE : Below w.heap.size w w5 := hbD.trans (hb5.mono hbD.size)
  have hgE := hgD.below hb5
  clear hb5 hxD hyD hgD hbD i0 i1 i2 i3 i4 i5 i6 j0 j1 j2 j3 j4 j5 j6 k0 k1 k2 k3 k4 k5 k6
  go_wp2_with fail
  refine (fracString_any _ _ P Q hz hP hQ hgE.1).mono ?_
  rintro e w6 ⟨rfl, hb6⟩
  go_wp2
  go_ret2
  exact ⟨rfl, hbE.trans (hb6.mono hbE.size)⟩

set_option maxHeartbeats 1000000 in
set_option maxRecDepth 100000 in
theorem calc_2 (w : World) (s t : ByteArray) (p r P : Int) (q u Q : Nat) (hg : Gl w) (hs : ParseOK s p q) (ht : ParseOK t r u)
    (hreck : ∀ W x y, FracV W x p q → FracV W y r u → Calls Tryz.prog 121 #[x, y] W fun e w' => ∃ z, e = .returned z ∧ FracV w' z P Q ∧ Below W.heap.size W w') (hP : P.natAbs < Cap) (hQ : Q < Cap) :
    Calls Tryz.prog 41 #[.int .i64 2, .string s, .string t] w fun e w' => e = .returned (.tuple #[.string ⟨(fracText P Q).toArray⟩, .int .i64 0]) ∧ Below w.heap.size w w' := by
  have HR := hide hreck
  clear hreck
  go_enter Tryz.func41, Tryz.ntmps41
  go_wp2_with fail
  refine (find_2 _).mono ?_
  rintro e w1 ⟨rfl, hb1⟩
  have hbox8 := Box3.new w1 (.int .i64 2) (.func (.func 119) #[] #[]) (.func (.func 121) #[] #[]) 95
  have hbA : Below w.heap.size w (w1.alloc (.cells #[.int .i64 2, .func (.func 119) #[] #[], .func (.func 121) #[] #[]] 95)) := hb1.alloc hb1.size _
  have hgA := hg.below hbA
  go_wp2_with fail
  refine (hs _ hgA).mono ?_
  rintro e w2 ⟨x, rfl, hx, hb2⟩
  obtain ⟨b, ao, l, cap, ao', l', cap', rfl, _⟩ := hx.parts
  have hbB0 : Below w.heap.size w w2 := hbA.trans (hb2.mono hbA.size)
  have hbB : Below w.heap.size w (w2.alloc (.cells #[.bool b, .slice ao l cap, .slice ao' l' cap'] 103)) := hbB0.alloc hbB0.size _
  have hbox8B := (hbox8.below hb2).alloc (.cells #[.bool b, .slice ao l cap, .slice ao' l' cap'] 103)
  have hbox10 := Box3.new w2 (.bool b) (.slice ao l cap) (.slice ao' l' cap') 103
  have hxB := hx.alloc (.cells #[.bool b, .slice ao l cap, .slice ao' l' cap'] 103)
  have hgB := hg.below hbB
  clear hb1 hb2 hbox8 hbA hgA hx hbB0
  go_wp2_with fail
  refine (ht _ hgB).mono ?_
  rintro e w3 ⟨y, rfl, hy, hb3⟩
  obtain ⟨c, bo, m, dap, bo', m', dap', rfl, _⟩ := hy.parts
  have hbC0 : Below w.heap.size w w3 := hbB.trans (hb3.mono hbB.size)
  have hbC : Below w.heap.size w (w3.alloc (.cells #[.bool c, .slice bo m dap, .slice bo' m' dap'] 103)) := hbC0.alloc hbC0.size _
  have hbox8C := (hbox8B.below hb3).alloc (.cells #[.bool c, .slice bo m dap, .slice bo' m' dap'] 103)
  have hbox10C := (hbox10.below hb3).alloc (.cells #[.bool c, .slice bo m dap, .slice bo' m' dap'] 103)
  have hbox11 := Box3.new w3 (.bool c) (.slice bo m dap) (.slice bo' m' dap') 103
  have hxC := (hxB.below hb3).alloc (.cells #[.bool c, .slice bo m dap, .slice bo' m' dap'] 103)
  have hyC := hy.alloc (.cells #[.bool c, .slice bo m dap, .slice bo' m' dap'] 103)
  have d8 := hbox8B.below hb3
  obtain ⟨i0, i1, i2, i3, i4, i5, i6⟩ := d8
  have d10 := hbox10.below hb3
  obtain ⟨j0, j1, j2, j3, j4, j5, j6⟩ := d10
  clear hb3 hbox8B hbox10 hxB hgB hbB hbC0 hy
  go_wp2_with fail
  refine (noFault_any _ _ _ p r q u hxC hyC).mono ?_
  rintro e w4 ⟨rfl, hb4⟩
  have hbD : Below w.heap.size w w4 := hbC.trans (hb4.mono hbC.size)
  have d8 := hbox8C.below hb4
  have d10 := hbox10C.below hb4
  have d11 := hbox11.below hb4
  have hxD := hxC.below hb4
  have hyD := hyC.below hb4
  have hgD := hg.below hbD
  clear hb4 hbox8C hbox10C hbox11 hxC hyC hbC i0 i1 i2 i3 i4 i5 i6 j0 j1 j2 j3 j4 j5 j6
  obtain ⟨i0, i1, i2, i3, i4, i5, i6⟩ := d8
  obtain ⟨j0, j1, j2, j3, j4, j5, j6⟩ := d10
  obtain ⟨k0, k1, k2, k3, k4, k5, k6⟩ := d11
  go_wp2_with fail
  refine (HR.out _ _ _ hxD hyD).mono ?_
  rintro e w5 ⟨z, rfl, hz, hb5⟩
  have hbE : Below w.heap.size w w5 := hbD.trans (hb5.mono hbD.size)
  have hgE := hgD.below hb5
  clear hb5 hxD hyD hgD hbD i0 i1 i2 i3 i4 i5 i6 j0 j1 j2 j3 j4 j5 j6 k0 k1 k2 k3 k4 k5 k6
  go_wp2_with fail
  refine (fracString_any _ _ P Q hz hP hQ hgE.1).mono ?_
  rintro e w6 ⟨rfl, hb6⟩
  go_wp2
  go_ret2
  exact ⟨rfl, hbE.trans (hb6.mono hbE.size)⟩

set_option maxHeartbeats 1000000 in
set_option maxRecDepth 100000 in
theorem calc_3 (w : World) (s t : ByteArray) (p r P : Int) (q u Q : Nat) (hg : Gl w) (hs : ParseOK s p q) (ht : ParseOK t r u)
    (hreck : ∀ W x y, FracV W x p q → FracV W y r u → Calls Tryz.prog 122 #[x, y] W fun e w' => ∃ z, e = .returned z ∧ FracV w' z P Q ∧ Below W.heap.size W w') (hP : P.natAbs < Cap) (hQ : Q < Cap) :
    Calls Tryz.prog 41 #[.int .i64 3, .string s, .string t] w fun e w' => e = .returned (.tuple #[.string ⟨(fracText P Q).toArray⟩, .int .i64 0]) ∧ Below w.heap.size w w' := by
  have HR := hide hreck
  clear hreck
  go_enter Tryz.func41, Tryz.ntmps41
  go_wp2_with fail
  refine (find_3 _).mono ?_
  rintro e w1 ⟨rfl, hb1⟩
  have hbox8 := Box3.new w1 (.int .i64 3) (.func (.func 119) #[] #[]) (.func (.func 122) #[] #[]) 95
  have hbA : Below w.heap.size w (w1.alloc (.cells #[.int .i64 3, .func (.func 119) #[] #[], .func (.func 122) #[] #[]] 95)) := hb1.alloc hb1.size _
  have hgA := hg.below hbA
  go_wp2_with fail
  refine (hs _ hgA).mono ?_
  rintro e w2 ⟨x, rfl, hx, hb2⟩
  obtain ⟨b, ao, l, cap, ao', l', cap', rfl, _⟩ := hx.parts
  have hbB0 : Below w.heap.size w w2 := hbA.trans (hb2.mono hbA.size)
  have hbB : Below w.heap.size w (w2.alloc (.cells #[.bool b, .slice ao l cap, .slice ao' l' cap'] 103)) := hbB0.alloc hbB0.size _
  have hbox8B := (hbox8.below hb2).alloc (.cells #[.bool b, .slice ao l cap, .slice ao' l' cap'] 103)
  have hbox10 := Box3.new w2 (.bool b) (.slice ao l cap) (.slice ao' l' cap') 103
  have hxB := hx.alloc (.cells #[.bool b, .slice ao l cap, .slice ao' l' cap'] 103)
  have hgB := hg.below hbB
  clear hb1 hb2 hbox8 hbA hgA hx hbB0
  go_wp2_with fail
  refine (ht _ hgB).mono ?_
  rintro e w3 ⟨y, rfl, hy, hb3⟩
  obtain ⟨c, bo, m, dap, bo', m', dap', rfl, _⟩ := hy.parts
  have hbC0 : Below w.heap.size w w3 := hbB.trans (hb3.mono hbB.size)
  have hbC : Below w.heap.size w (w3.alloc (.cells #[.bool c, .slice bo m dap, .slice bo' m' dap'] 103)) := hbC0.alloc hbC0.size _
  have hbox8C := (hbox8B.below hb3).alloc (.cells #[.bool c, .slice bo m dap, .slice bo' m' dap'] 103)
  have hbox10C := (hbox10.below hb3).alloc (.cells #[.bool c, .slice bo m dap, .slice bo' m' dap'] 103)
  have hbox11 := Box3.new w3 (.bool c) (.slice bo m dap) (.slice bo' m' dap') 103
  have hxC := (hxB.below hb3).alloc (.cells #[.bool c, .slice bo m dap, .slice bo' m' dap'] 103)
  have hyC := hy.alloc (.cells #[.bool c, .slice bo m dap, .slice bo' m' dap'] 103)
  have d8 := hbox8B.below hb3
  obtain ⟨i0, i1, i2, i3, i4, i5, i6⟩ := d8
  have d10 := hbox10.below hb3
  obtain ⟨j0, j1, j2, j3, j4, j5, j6⟩ := d10
  clear hb3 hbox8B hbox10 hxB hgB hbB hbC0 hy
  go_wp2_with fail
  refine (noFault_any _ _ _ p r q u hxC hyC).mono ?_
  rintro e w4 ⟨rfl, hb4⟩
  have hbD : Below w.heap.size w w4 := hbC.trans (hb4.mono hbC.size)
  have d8 := hbox8C.below hb4
  have d10 := hbox10C.below hb4
  have d11 := hbox11.below hb4
  have hxD := hxC.below hb4
  have hyD := hyC.below hb4
  have hgD := hg.below hbD
  clear hb4 hbox8C hbox10C hbox11 hxC hyC hbC i0 i1 i2 i3 i4 i5 i6 j0 j1 j2 j3 j4 j5 j6
  obtain ⟨i0, i1, i2, i3, i4, i5, i6⟩ := d8
  obtain ⟨j0, j1, j2, j3, j4, j5, j6⟩ := d10
  obtain ⟨k0, k1, k2, k3, k4, k5, k6⟩ := d11
  go_wp2_with fail
  refine (HR.out _ _ _ hxD hyD).mono ?_
  rintro e w5 ⟨z, rfl, hz, hb5⟩
  have hbE : Below w.heap.size w w5 := hbD.trans (hb5.mono hbD.size)
  have hgE := hgD.below hb5
  clear hb5 hxD hyD hgD hbD i0 i1 i2 i3 i4 i5 i6 j0 j1 j2 j3 j4 j5 j6 k0 k1 k2 k3 k4 k5 k6
  go_wp2_with fail
  refine (fracString_any _ _ P Q hz hP hQ hgE.1).mono ?_
  rintro e w6 ⟨rfl, hb6⟩
  go_wp2
  go_ret2
  exact ⟨rfl, hbE.trans (hb6.mono hbE.size)⟩

set_option maxHeartbeats 1000000 in
set_option maxRecDepth 100000 in
theorem calc_4 (w : World) (s t : ByteArray) (p r P : Int) (q u Q : Nat) (hg : Gl w) (hs : ParseOK s p q) (ht : ParseOK t r u) (hr0 : r ≠ 0)
    (hreck : ∀ W x y, FracV W x p q → FracV W y r u → Calls Tryz.prog 124 #[x, y] W fun e w' => ∃ z, e = .returned z ∧ FracV w' z P Q ∧ Below W.heap.size W w') (hP : P.natAbs < Cap) (hQ : Q < Cap) :
    Calls Tryz.prog 41 #[.int .i64 4, .string s, .string t] w fun e w' => e = .returned (.tuple #[.string ⟨(fracText P Q).toArray⟩, .int .i64 0]) ∧ Below w.heap.size w w' := by
  have HR := hide hreck
  clear hreck
  go_enter Tryz.func41, Tryz.ntmps41
  go_wp2_with fail
  refine (find_4 _).mono ?_
  rintro e w1 ⟨rfl, hb1⟩
  have hbox8 := Box3.new w1 (.int .i64 4) (.func (.func 123) #[] #[]) (.func (.func 124) #[] #[]) 95
  have hbA : Below w.heap.size w (w1.alloc (.cells #[.int .i64 4, .func (.func 123) #[] #[], .func (.func 124) #[] #[]] 95)) := hb1.alloc hb1.size _
  have hgA := hg.below hbA
  go_wp2_with fail
  refine (hs _ hgA).mono ?_
  rintro e w2 ⟨x, rfl, hx, hb2⟩
  obtain ⟨b, ao, l, cap, ao', l', cap', rfl, _⟩ := hx.parts
  have hbB0 : Below w.heap.size w w2 := hbA.trans (hb2.mono hbA.size)
  have hbB : Below w.heap.size w (w2.alloc (.cells #[.bool b, .slice ao l cap, .slice ao' l' cap'] 103)) := hbB0.alloc hbB0.size _
  have hbox8B := (hbox8.below hb2).alloc (.cells #[.bool b, .slice ao l cap, .slice ao' l' cap'] 103)
  have hbox10 := Box3.new w2 (.bool b) (.slice ao l cap) (.slice ao' l' cap') 103
  have hxB := hx.alloc (.cells #[.bool b, .slice ao l cap, .slice ao' l' cap'] 103)
  have hgB := hg.below hbB
  clear hb1 hb2 hbox8 hbA hgA hx hbB0
  go_wp2_with fail
  refine (ht _ hgB).mono ?_
  rintro e w3 ⟨y, rfl, hy, hb3⟩
  obtain ⟨c, bo, m, dap, bo', m', dap', rfl, _⟩ := hy.parts
  have hbC0 : Below w.heap.size w w3 := hbB.trans (hb3.mono hbB.size)
  have hbC : Below w.heap.size w (w3.alloc (.cells #[.bool c, .slice bo m dap, .slice bo' m' dap'] 103)) := hbC0.alloc hbC0.size _
  have hbox8C := (hbox8B.below hb3).alloc (.cells #[.bool c, .slice bo m dap, .slice bo' m' dap'] 103)
  have hbox10C := (hbox10.below hb3).alloc (.cells #[.bool c, .slice bo m dap, .slice bo' m' dap'] 103)
  have hbox11 := Box3.new w3 (.bool c) (.slice bo m dap) (.slice bo' m' dap') 103
  have hxC := (hxB.below hb3).alloc (.cells #[.bool c, .slice bo m dap, .slice bo' m' dap'] 103)
  have hyC := hy.alloc (.cells #[.bool c, .slice bo m dap, .slice bo' m' dap'] 103)
  have d8 := hbox8B.below hb3
  obtain ⟨i0, i1, i2, i3, i4, i5, i6⟩ := d8
  have d10 := hbox10.below hb3
  obtain ⟨j0, j1, j2, j3, j4, j5, j6⟩ := d10
  clear hb3 hbox8B hbox10 hxB hgB hbB hbC0 hy
  go_wp2_with fail
  refine (faultIfZero_no _ _ _ p r q u hxC hyC hr0).mono ?_
  rintro e w4 ⟨rfl, hb4⟩
  have hbD : Below w.heap.size w w4 := hbC.trans (hb4.mono hbC.size)
  have d8 := hbox8C.below hb4
  have d10 := hbox10C.below hb4
  have d11 := hbox11.below hb4
  have hxD := hxC.below hb4
  have hyD := hyC.below hb4
  have hgD := hg.below hbD
  clear hb4 hbox8C hbox10C hbox11 hxC hyC hbC i0 i1 i2 i3 i4 i5 i6 j0 j1 j2 j3 j4 j5 j6
  obtain ⟨i0, i1, i2, i3, i4, i5, i6⟩ := d8
  obtain ⟨j0, j1, j2, j3, j4, j5, j6⟩ := d10
  obtain ⟨k0, k1, k2, k3, k4, k5, k6⟩ := d11
  go_wp2_with fail
  refine (HR.out _ _ _ hxD hyD).mono ?_
  rintro e w5 ⟨z, rfl, hz, hb5⟩
  have hbE : Below w.heap.size w w5 := hbD.trans (hb5.mono hbD.size)
  have hgE := hgD.below hb5
  clear hb5 hxD hyD hgD hbD i0 i1 i2 i3 i4 i5 i6 j0 j1 j2 j3 j4 j5 j6 k0 k1 k2 k3 k4 k5 k6
  go_wp2_with fail
  refine (fracString_any _ _ P Q hz hP hQ hgE.1).mono ?_
  rintro e w6 ⟨rfl, hb6⟩
  go_wp2
  go_ret2
  exact ⟨rfl, hbE.trans (hb6.mono hbE.size)⟩

set_option maxHeartbeats 1000000 in
set_option maxRecDepth 100000 in
theorem calc_5 (w : World) (s t : ByteArray) (p r P : Int) (q u Q : Nat) (hg : Gl w) (hs : ParseOK s p q) (ht : ParseOK t r u)
    (hreck : ∀ W x y, FracV W x p q → FracV W y r u → Calls Tryz.prog 125 #[x, y] W fun e w' => ∃ z, e = .returned z ∧ FracV w' z P Q ∧ Below W.heap.size W w') (hP : P.natAbs < Cap) (hQ : Q < Cap) :
    Calls Tryz.prog 41 #[.int .i64 5, .string s, .string t] w fun e w' => e = .returned (.tuple #[.string ⟨(fracText P Q).toArray⟩, .int .i64 0]) ∧ Below w.heap.size w w' := by
  have HR := hide hreck
  clear hreck
  go_enter Tryz.func41, Tryz.ntmps41
  go_wp2_with fail
  refine (find_5 _).mono ?_
  rintro e w1 ⟨rfl, hb1⟩
  have hbox8 := Box3.new w1 (.int .i64 5) (.func (.func 119) #[] #[]) (.func (.func 125) #[] #[]) 95
  have hbA : Below w.heap.size w (w1.alloc (.cells #[.int .i64 5, .func (.func 119) #[] #[], .func (.func 125) #[] #[]] 95)) := hb1.alloc hb1.size _
  have hgA := hg.below hbA
  go_wp2_with fail
  refine (hs _ hgA).mono ?_
  rintro e w2 ⟨x, rfl, hx, hb2⟩
  obtain ⟨b, ao, l, cap, ao', l', cap', rfl, _⟩ := hx.parts
  have hbB0 : Below w.heap.size w w2 := hbA.trans (hb2.mono hbA.size)
  have hbB : Below w.heap.size w (w2.alloc (.cells #[.bool b, .slice ao l cap, .slice ao' l' cap'] 103)) := hbB0.alloc hbB0.size _
  have hbox8B := (hbox8.below hb2).alloc (.cells #[.bool b, .slice ao l cap, .slice ao' l' cap'] 103)
  have hbox10 := Box3.new w2 (.bool b) (.slice ao l cap) (.slice ao' l' cap') 103
  have hxB := hx.alloc (.cells #[.bool b, .slice ao l cap, .slice ao' l' cap'] 103)
  have hgB := hg.below hbB
  clear hb1 hb2 hbox8 hbA hgA hx hbB0
  go_wp2_with fail
  refine (ht _ hgB).mono ?_
  rintro e w3 ⟨y, rfl, hy, hb3⟩
  obtain ⟨c, bo, m, dap, bo', m', dap', rfl, _⟩ := hy.parts
  have hbC0 : Below w.heap.size w w3 := hbB.trans (hb3.mono hbB.size)
  have hbC : Below w.heap.size w (w3.alloc (.cells #[.bool c, .slice bo m dap, .slice bo' m' dap'] 103)) := hbC0.alloc hbC0.size _
  have hbox8C := (hbox8B.below hb3).alloc (.cells #[.bool c, .slice bo m dap, .slice bo' m' dap'] 103)
  have hbox10C := (hbox10.below hb3).alloc (.cells #[.bool c, .slice bo m dap, .slice bo' m' dap'] 103)
  have hbox11 := Box3.new w3 (.bool c) (.slice bo m dap) (.slice bo' m' dap') 103
  have hxC := (hxB.below hb3).alloc (.cells #[.bool c, .slice bo m dap, .slice bo' m' dap'] 103)
  have hyC := hy.alloc (.cells #[.bool c, .slice bo m dap, .slice bo' m' dap'] 103)
  have d8 := hbox8B.below hb3
  obtain ⟨i0, i1, i2, i3, i4, i5, i6⟩ := d8
  have d10 := hbox10.below hb3
  obtain ⟨j0, j1, j2, j3, j4, j5, j6⟩ := d10
  clear hb3 hbox8B hbox10 hxB hgB hbB hbC0 hy
  go_wp2_with fail
  refine (noFault_any _ _ _ p r q u hxC hyC).mono ?_
  rintro e w4 ⟨rfl, hb4⟩
  have hbD : Below w.heap.size w w4 := hbC.trans (hb4.mono hbC.size)
  have d8 := hbox8C.below hb4
  have d10 := hbox10C.below hb4
  have d11 := hbox11.below hb4
  have hxD := hxC.below hb4
  have hyD := hyC.below hb4
  have hgD := hg.below hbD
  clear hb4 hbox8C hbox10C hbox11 hxC hyC hbC i0 i1 i2 i3 i4 i5 i6 j0 j1 j2 j3 j4 j5 j6
  obtain ⟨i0, i1, i2, i3, i4, i5, i6⟩ := d8
  obtain ⟨j0, j1, j2, j3, j4, j5, j6⟩ := d10
  obtain ⟨k0, k1, k2, k3, k4, k5, k6⟩ := d11
  go_wp2_with fail
  refine (HR.out _ _ _ hxD hyD).mono ?_
  rintro e w5 ⟨z, rfl, hz, hb5⟩
  have hbE : Below w.heap.size w w5 := hbD.trans (hb5.mono hbD.size)
  have hgE := hgD.below hb5
  clear hb5 hxD hyD hgD hbD i0 i1 i2 i3 i4 i5 i6 j0 j1 j2 j3 j4 j5 j6 k0 k1 k2 k3 k4 k5 k6
  go_wp2_with fail
  refine (fracString_any _ _ P Q hz hP hQ hgE.1).mono ?_
  rintro e w6 ⟨rfl, hb6⟩
  go_wp2
  go_ret2
  exact ⟨rfl, hbE.trans (hb6.mono hbE.size)⟩

set_option maxHeartbeats 1000000 in
set_option maxRecDepth 100000 in
theorem calc_6 (w : World) (s t : ByteArray) (p r P : Int) (q u Q : Nat) (hg : Gl w) (hs : ParseOK s p q) (ht : ParseOK t r u)
    (hreck : ∀ W x y, FracV W x p q → FracV W y r u → Calls Tryz.prog 126 #[x, y] W fun e w' => ∃ z, e = .returned z ∧ FracV w' z P Q ∧ Below W.heap.size W w') (hP : P.natAbs < Cap) (hQ : Q < Cap) :
    Calls Tryz.prog 41 #[.int .i64 6, .string s, .string t] w fun e w' => e = .returned (.tuple #[.string ⟨(fracText P Q).toArray⟩, .int .i64 0]) ∧ Below w.heap.size w w' := by
  have HR := hide hreck
  clear hreck
  go_enter Tryz.func41, Tryz.ntmps41
  go_wp2_with fail
  refine (find_6 _).mono ?_
  rintro e w1 ⟨rfl, hb1⟩
  have hbox8 := Box3.new w1 (.int .i64 6) (.func (.func 119) #[] #[]) (.func (.func 126) #[] #[]) 95
  have hbA : Below w.heap.size w (w1.alloc (.cells #[.int .i64 6, .func (.func 119) #[] #[], .func (.func 126) #[] #[]] 95)) := hb1.alloc hb1.size _
  have hgA := hg.below hbA
  go_wp2_with fail
  refine (hs _ hgA).mono ?_
  rintro e w2 ⟨x, rfl, hx, hb2⟩
  obtain ⟨b, ao, l, cap, ao', l', cap', rfl, _⟩ := hx.parts
  have hbB0 : Below w.heap.size w w2 := hbA.trans (hb2.mono hbA.size)
  have hbB : Below w.heap.size w (w2.alloc (.cells #[.bool b, .slice ao l cap, .slice ao' l' cap'] 103)) := hbB0.alloc hbB0.size _
  have hbox8B := (hbox8.below hb2).alloc (.cells #[.bool b, .slice ao l cap, .slice ao' l' cap'] 103)
  have hbox10 := Box3.new w2 (.bool b) (.slice ao l cap) (.slice ao' l' cap') 103
  have hxB := hx.alloc (.cells #[.bool b, .slice ao l cap, .slice ao' l' cap'] 103)
  have hgB := hg.below hbB
  clear hb1 hb2 hbox8 hbA hgA hx hbB0
  go_wp2_with fail
  refine (ht _ hgB).mono ?_
  rintro e w3 ⟨y, rfl, hy, hb3⟩
  obtain ⟨c, bo, m, dap, bo', m', dap', rfl, _⟩ := hy.parts
  have hbC0 : Below w.heap.size w w3 := hbB.trans (hb3.mono hbB.size)
  have hbC : Below w.heap.size w (w3.alloc (.cells #[.bool c, .slice bo m dap, .slice bo' m' dap'] 103)) := hbC0.alloc hbC0.size _
  have hbox8C := (hbox8B.below hb3).alloc (.cells #[.bool c, .slice bo m dap, .slice bo' m' dap'] 103)
  have hbox10C := (hbox10.below hb3).alloc (.cells #[.bool c, .slice bo m dap, .slice bo' m' dap'] 103)
  have hbox11 := Box3.new w3 (.bool c) (.slice bo m dap) (.slice bo' m' dap') 103
  have hxC := (hxB.below hb3).alloc (.cells #[.bool c, .slice bo m dap, .slice bo' m' dap'] 103)
  have hyC := hy.alloc (.cells #[.bool c, .slice bo m dap, .slice bo' m' dap'] 103)
  have d8 := hbox8B.below hb3
  obtain ⟨i0, i1, i2, i3, i4, i5, i6⟩ := d8
  have d10 := hbox10.below hb3
  obtain ⟨j0, j1, j2, j3, j4, j5, j6⟩ := d10
  clear hb3 hbox8B hbox10 hxB hgB hbB hbC0 hy
  go_wp2_with fail
  refine (noFault_any _ _ _ p r q u hxC hyC).mono ?_
  rintro e w4 ⟨rfl, hb4⟩
  have hbD : Below w.heap.size w w4 := hbC.trans (hb4.mono hbC.size)
  have d8 := hbox8C.below hb4
  have d10 := hbox10C.below hb4
  have d11 := hbox11.below hb4
  have hxD := hxC.below hb4
  have hyD := hyC.below hb4
  have hgD := hg.below hbD
  clear hb4 hbox8C hbox10C hbox11 hxC hyC hbC i0 i1 i2 i3 i4 i5 i6 j0 j1 j2 j3 j4 j5 j6
  obtain ⟨i0, i1, i2, i3, i4, i5, i6⟩ := d8
  obtain ⟨j0, j1, j2, j3, j4, j5, j6⟩ := d10
  obtain ⟨k0, k1, k2, k3, k4, k5, k6⟩ := d11
  go_wp2_with fail
  refine (HR.out _ _ _ hxD hyD).mono ?_
  rintro e w5 ⟨z, rfl, hz, hb5⟩
  have hbE : Below w.heap.size w w5 := hbD.trans (hb5.mono hbD.size)
  have hgE := hgD.below hb5
  clear hb5 hxD hyD hgD hbD i0 i1 i2 i3 i4 i5 i6 j0 j1 j2 j3 j4 j5 j6 k0 k1 k2 k3 k4 k5 k6
  go_wp2_with fail
  refine (fracString_any _ _ P Q hz hP hQ hgE.1).mono ?_
  rintro e w6 ⟨rfl, hb6⟩
  go_wp2
  go_ret2
  exact ⟨rfl, hbE.trans (hb6.mono hbE.size)⟩
end Go.Proofs.YtnhfdcfnojnofaaGreatDoor

/-
  From a call to a row: what every row here needs.
-/
namespace Go.Proofs.YtnhfdcfnojnofaaGreatDoor
open Go.ChangeShapes Go.WideShapes Go.ChangeAt Go.RowKit

/-- The listed variables, and the world's shape, both kept for the contract. -/
theorem returnsIn_laid_shaped {H : Type} {enc : TypeId × Value → H} {a : Assume} {C : Checked} {os : Os} {f : FuncId} {fn : Func} {s : ChangeSpec} {conds : List PathCond} {apart fresh handsOn again : Bool} {X : World → Array Value → Prop}
    (hX : ∀ (w w' : World) (args : Array Value), w.heap = w'.heap → X w args → X w' args)
    (own : ownKnob C.prog.godebug = none) (started : os.Started) (noInit : C.prog.inits.idxOf? f = none) (hfn : C.prog.funcs[f]? = some fn)
    (witness : ∃ (w : World) (tape : Tape) (i : Input), w.os = os ∧ (w.forCall tape i).Shaped C.prog ∧ i.vars = [] ∧ Input.okWide C.prog (w.forCall tape i) .any w.heap.size f i ∧
      ((s.pre enc C.prog fn conds apart (w.forCall tape i).memory i.args ∧ X (w.forCall tape i).memory i.args) ∧ sizedMet enc C.prog fn (OpenSpec.ofChange s) apart (w.forCall tape i).memory i.args) ∧ a.holds C.prog (lone (Frame.enter C.prog f i.args .normal) [] (w.forCall tape i)))
    (contract : ∀ (W : World) (base : Nat) (args : Array Value) (ds gs : List (DataW H)) (before : List MemPlace),
      (∀ (j : Nat) t v, fn.params[j]? = some t → args[j]? = some v → Value.okWide C.prog W .any base t v) →
      DataW.Whole enc C.prog fn.params.toList s.vars apart W args.toList ds gs before →
      conds.all (PathCond.test C.prog ⟨fn.params.toList, ds, s.plain.varTypes C.prog, gs⟩) = true →
      (DataW.weightsEach C.prog (fn.params.toList ++ s.plain.varTypes C.prog) (ds ++ gs)).all (· ≤ reachBytes) = true → X W args →
      W.ShapedOpen C.prog →
      a.holds C.prog (lone (Frame.enter C.prog f args .normal) [] W) →
      Calls C.prog f args W fun e W' => ∃ v, e = .returned v ∧ s.post enc C.prog fn apart fresh handsOn again W args v W') :
    ReturnsInHanded a C os f .any (fun w args => (s.pre enc C.prog fn conds apart w args ∧ X w args) ∧ sizedMet enc C.prog fn (OpenSpec.ofChange s) apart w args) (s.post enc C.prog fn apart fresh handsOn again) := by
  refine returnsInHanded_of_calls own started noInit witness ?_
  intro w tape i _ hsh _ hok hpre hholds
  obtain ⟨_, _, _, fn', hfn', _, _, _, _, hval⟩ := hok
  have e : fn' = fn := Option.some.inj (hfn'.symm.trans hfn)
  subst e
  obtain ⟨⟨⟨ds, gs, before, hw, hc⟩, hx⟩, hz⟩ := hpre
  have hw' := DataW.Whole.of_heap (w' := w.forCall tape i) (by rfl) hw
  refine (contract (w.forCall tape i) w.heap.size i.args ds gs before hval hw' hc (hz.weights hw) (hX _ _ _ (by rfl) hx) hsh hholds).mono fun e W' ⟨v, he, hp⟩ => ?_
  subst he
  exact ChangeSpec.post_blind hp

/-- What is left where nothing old has turned. -/
theorem post_below {H : Type} {enc : TypeId × Value → H} {P : Program} {f : Func} {s : ChangeSpec} {apart fresh handsOn : Bool} {W W' : World} {args : Array Value} {v : Value} {ds gs : List (DataW H)} {before pa pv : List MemPlace}
    (hW : DataW.Whole enc P f.params.toList s.vars apart W args.toList ds gs before)
    (hres : ∀ (b : Nat) (sp : Nat → Bool) (hd : Bool), DataW.TrodAll enc P W' b sp hd f.resultTypes.toList (v.resultList f.resultTypes.size) (s.fn H (ds ++ gs)).results [])
    (hargs : ∀ sp : Nat → Bool, (∀ p ∈ before, sp p.block = true) → DataW.TrodAll enc P W' 0 sp true f.params.toList args.toList (s.fn H (ds ++ gs)).args pa)
    (hvars : ∀ sp : Nat → Bool, (∀ p ∈ before, sp p.block = true) → DataW.TrodVars enc P W' sp s.vars (s.fn H (ds ++ gs)).vars pv)
    (hps : before = pa ++ pv) (hb : Below W.heap.size W W') :
    s.post enc P f apart fresh handsOn false W args v W' := by
  have hold : ∀ p ∈ before, (fun b => decide (b < W.heap.size)) p.block = true := fun p hp => by simpa using hW.lt p hp
  refine ⟨ds, gs, before, [], pa, pv, hW, hres _ _ _, hargs _ hold, hvars _ hold, World.keptBut_mono (fun p hp => ⟨hp, ?_⟩) (hb.frame _), fun h => by cases h⟩
  rw [hps, List.mem_append] at hp
  exact Or.inr hp

theorem own : ownKnob Tryz.prog.godebug = none := by kernel_rfl

set_option maxRecDepth 100000 in
theorem gl_of_laid {W : World} (h : laidMetH Tryz.prog Rows.fieldRow.laid W) (hs : W.ShapedOpen Tryz.prog) : Gl W := by
  rw [MakeChecks.laidMetH_plain _ _ _ (by kernel_rfl)] at h
  have h3 := (h.tail).tail
  have ht : Tab W := Lib.tabIs_of_head (k := .u64) (zs := Lib.pow10Tab) (show Tryz.prog.globalNamed "internal/strconv.uint64pow10" = some 0 by kernel_rfl) (t := 340) (by kernel_rfl) Tryz.underlying340 Tryz.underlying233 (by kernel_rfl) (by kernel_rfl) h3
  obtain ⟨m, hm⟩ := Go.Proofs.cell_of_shapedOpen_int (g := 1) (zero := #[.int .i64 0]) (t := 3) hs (of_decide_eq_true (by kernel_rfl)) (by kernel_rfl) rfl (by kernel_rfl) (by kernel_rfl) Tryz.underlying3
  exact ⟨ht, m, hm, by
    rcases Nat.lt_or_ge 1 W.heap.size with h1 | h1
    · exact h1
    · rw [World.cell?] at hm; simp [Array.getElem?_eq_none h1] at hm⟩

theorem wf_bd {a : Int} (h : (Lit.int .i64 a).wf = true) : -9223372036854775808 ≤ a ∧ a ≤ 9223372036854775807 := by
  simpa [Lit.wf, IntKind.min, IntKind.max, IntKind.signed, IntKind.bits] using h

end Go.Proofs.YtnhfdcfnojnofaaGreatDoor

/-
  From a call to a row: the closed facts, one at a time (all at once they want more memory than there is).
-/
namespace Go.Proofs.YtnhfdcfnojnofaaGreatDoor
open Go.ChangeShapes Go.WideShapes Go.ChangeAt Go.RowKit

def jf0 (P : Program) (f : FuncId) (fn : Func) (s : ChangeSpec) (c : OpenClaim) : Bool := c.wf (OpenSpec.ofChange s)
def jf1 (P : Program) (f : FuncId) (fn : Func) (s : ChangeSpec) (c : OpenClaim) : Bool := laidOutB P
def jf2 (P : Program) (f : FuncId) (fn : Func) (s : ChangeSpec) (c : OpenClaim) : Bool := mapsRowed P
def jf3 (P : Program) (f : FuncId) (fn : Func) (s : ChangeSpec) (c : OpenClaim) : Bool := fn.params.all (P.readableRec ·)
def jf4 (P : Program) (f : FuncId) (fn : Func) (s : ChangeSpec) (c : OpenClaim) : Bool := namedTie P c.named s.vars
def jf5 (P : Program) (f : FuncId) (fn : Func) (s : ChangeSpec) (c : OpenClaim) : Bool := (c.stops == [])
def jf6 (P : Program) (f : FuncId) (fn : Func) (s : ChangeSpec) (c : OpenClaim) : Bool := (P.stops == [])
def jf7 (P : Program) (f : FuncId) (fn : Func) (s : ChangeSpec) (c : OpenClaim) : Bool := (c.knobs == [])
def jf8 (P : Program) (f : FuncId) (fn : Func) (s : ChangeSpec) (c : OpenClaim) : Bool := (P.stopKnobs == [])
def jf9 (P : Program) (f : FuncId) (fn : Func) (s : ChangeSpec) (c : OpenClaim) : Bool := (c.inPlace == P.inPlace f)
def jf10 (P : Program) (f : FuncId) (fn : Func) (s : ChangeSpec) (c : OpenClaim) : Bool := (c.unfollowed == P.unfollowed f)
def jf11 (P : Program) (f : FuncId) (fn : Func) (s : ChangeSpec) (c : OpenClaim) : Bool := (c.recurses == P.recurses f)
def jf12 (P : Program) (f : FuncId) (fn : Func) (s : ChangeSpec) (c : OpenClaim) : Bool := (c.named == P.varsNamed f)
def jf13 (P : Program) (f : FuncId) (fn : Func) (s : ChangeSpec) (c : OpenClaim) : Bool := (c.maps == (fn.params.toList ++ s.plain.varTypes P).any (P.mapsRec ·))
def jf14 (P : Program) (f : FuncId) (fn : Func) (s : ChangeSpec) (c : OpenClaim) : Bool := (c.ifaces == (fn.params.toList ++ s.plain.varTypes P).any (P.ifacesRec ·))
def jf15 (P : Program) (f : FuncId) (fn : Func) (s : ChangeSpec) (c : OpenClaim) : Bool := (c.mapsOut == P.mapsAmong fn.resultTypes.toList)
def jf16 (P : Program) (f : FuncId) (fn : Func) (s : ChangeSpec) (c : OpenClaim) : Bool := (c.loops == (fn.params.toList ++ s.plain.varTypes P).any (P.loopsFrom ·))
def jf17 (P : Program) (f : FuncId) (fn : Func) (s : ChangeSpec) (c : OpenClaim) : Bool := (c.wideKeys == (fn.params.toList ++ s.plain.varTypes P ++ fn.resultTypes.toList).any (P.wideKeysFrom ·))
def jf18 (P : Program) (f : FuncId) (fn : Func) (s : ChangeSpec) (c : OpenClaim) : Bool := s.vars.all (P.varReadable ·)
def jf19 (P : Program) (f : FuncId) (fn : Func) (s : ChangeSpec) (c : OpenClaim) : Bool := fn.resultTypes.all (fun t => P.readableRec t && decide (t < P.types.size))
def jf20 (P : Program) (f : FuncId) (fn : Func) (s : ChangeSpec) (c : OpenClaim) : Bool := (c.ifacesOut == fn.resultTypes.toList.any (P.ifacesRec ·))
def jf21 (P : Program) (f : FuncId) (fn : Func) (s : ChangeSpec) (c : OpenClaim) : Bool := (c.loopsOut == fn.resultTypes.toList.any (P.loopsFrom ·))
def jf22 (P : Program) (f : FuncId) (fn : Func) (s : ChangeSpec) (c : OpenClaim) : Bool := (c.plainKeys == P.plainKeys)
def jf23 (P : Program) (f : FuncId) (fn : Func) (s : ChangeSpec) (c : OpenClaim) : Bool := c.shortTexts.isNone
def jf24 (P : Program) (f : FuncId) (fn : Func) (s : ChangeSpec) (c : OpenClaim) : Bool := P.stopsHeard
def jf25 (P : Program) (f : FuncId) (fn : Func) (s : ChangeSpec) (c : OpenClaim) : Bool := P.mayEnter
def jf26 (P : Program) (f : FuncId) (fn : Func) (s : ChangeSpec) (c : OpenClaim) : Bool := (c.lifted == P.liftsFinal)
def jf27 (P : Program) (f : FuncId) (fn : Func) (s : ChangeSpec) (c : OpenClaim) : Bool := (P.make == some c.make)
def jf28 (P : Program) (f : FuncId) (fn : Func) (s : ChangeSpec) (c : OpenClaim) : Bool := (c.kinds == (if c.domain.isEmpty then [] else fn.params.toList.map fun t => match P.underlying t with | some (.int k) => some k | _ => none))
def jf29 (P : Program) (f : FuncId) (fn : Func) (s : ChangeSpec) (c : OpenClaim) : Bool := (c.pinned == c.pinnedBy)
def jf30 (P : Program) (f : FuncId) (fn : Func) (s : ChangeSpec) (c : OpenClaim) : Bool := (c.veiled == (fn.params.toList ++ s.plain.varTypes P ++ fn.resultTypes.toList).any (P.veiledRec ·))
def jf31 (P : Program) (f : FuncId) (fn : Func) (s : ChangeSpec) (c : OpenClaim) : Bool := c.veiledFits P fn.params.toList (fn.params.toList ++ s.plain.varTypes P ++ fn.resultTypes.toList)

theorem joined_of {P : Program} {f : FuncId} {fn : Func} {s : ChangeSpec} {c : OpenClaim} (h0 : jf0 P f fn s c = true) (h1 : jf1 P f fn s c = true) (h2 : jf2 P f fn s c = true) (h3 : jf3 P f fn s c = true) (h4 : jf4 P f fn s c = true) (h5 : jf5 P f fn s c = true) (h6 : jf6 P f fn s c = true) (h7 : jf7 P f fn s c = true) (h8 : jf8 P f fn s c = true) (h9 : jf9 P f fn s c = true) (h10 : jf10 P f fn s c = true) (h11 : jf11 P f fn s c = true) (h12 : jf12 P f fn s c = true) (h13 : jf13 P f fn s c = true) (h14 : jf14 P f fn s c = true) (h15 : jf15 P f fn s c = true) (h16 : jf16 P f fn s c = true) (h17 : jf17 P f fn s c = true) (h18 : jf18 P f fn s c = true) (h19 : jf19 P f fn s c = true) (h20 : jf20 P f fn s c = true) (h21 : jf21 P f fn s c = true) (h22 : jf22 P f fn s c = true) (h23 : jf23 P f fn s c = true) (h24 : jf24 P f fn s c = true) (h25 : jf25 P f fn s c = true) (h26 : jf26 P f fn s c = true) (h27 : jf27 P f fn s c = true) (h28 : jf28 P f fn s c = true) (h29 : jf29 P f fn s c = true) (h30 : jf30 P f fn s c = true) (h31 : jf31 P f fn s c = true) : joinedFacts P f fn s c = true := by
  unfold joinedFacts
  unfold jf0 at h0
  unfold jf1 at h1
  unfold jf2 at h2
  unfold jf3 at h3
  unfold jf4 at h4
  unfold jf5 at h5
  unfold jf6 at h6
  unfold jf7 at h7
  unfold jf8 at h8
  unfold jf9 at h9
  unfold jf10 at h10
  unfold jf11 at h11
  unfold jf12 at h12
  unfold jf13 at h13
  unfold jf14 at h14
  unfold jf15 at h15
  unfold jf16 at h16
  unfold jf17 at h17
  unfold jf18 at h18
  unfold jf19 at h19
  unfold jf20 at h20
  unfold jf21 at h21
  unfold jf22 at h22
  unfold jf23 at h23
  unfold jf24 at h24
  unfold jf25 at h25
  unfold jf26 at h26
  unfold jf27 at h27
  unfold jf28 at h28
  unfold jf29 at h29
  unfold jf30 at h30
  unfold jf31 at h31
  simp only [h0, h1, h2, h3, h4, h5, h6, h7, h8, h9, h10, h11, h12, h13, h14, h15, h16, h17, h18, h19, h20, h21, h22, h23, h24, h25, h26, h27, h29, h30, h31, Bool.and_true, Bool.and_self, Bool.true_and]
  try exact h28

set_option maxRecDepth 100000 in
theorem jq1 : (laidOutB Tryz.prog) = true := by kernel_rfl
theorem jp1 (f : FuncId) (fn : Func) (s : ChangeSpec) (c : OpenClaim) : jf1 Tryz.prog f fn s c = true := jq1
set_option maxRecDepth 100000 in
theorem jq2 : (mapsRowed Tryz.prog) = true := by kernel_rfl
theorem jp2 (f : FuncId) (fn : Func) (s : ChangeSpec) (c : OpenClaim) : jf2 Tryz.prog f fn s c = true := jq2
set_option maxRecDepth 100000 in
theorem jq6 : ((Tryz.prog.stops == [])) = true := by kernel_rfl
theorem jp6 (f : FuncId) (fn : Func) (s : ChangeSpec) (c : OpenClaim) : jf6 Tryz.prog f fn s c = true := jq6
set_option maxRecDepth 100000 in
theorem jq8 : ((Tryz.prog.stopKnobs == [])) = true := by kernel_rfl
theorem jp8 (f : FuncId) (fn : Func) (s : ChangeSpec) (c : OpenClaim) : jf8 Tryz.prog f fn s c = true := jq8
set_option maxRecDepth 100000 in
theorem jq24 : (Tryz.prog.stopsHeard) = true := by kernel_rfl
theorem jp24 (f : FuncId) (fn : Func) (s : ChangeSpec) (c : OpenClaim) : jf24 Tryz.prog f fn s c = true := jq24
set_option maxRecDepth 100000 in
theorem jq25 : (Tryz.prog.mayEnter) = true := by kernel_rfl
theorem jp25 (f : FuncId) (fn : Func) (s : ChangeSpec) (c : OpenClaim) : jf25 Tryz.prog f fn s c = true := jq25
set_option maxRecDepth 100000 in
theorem jplooks : false = Tryz.prog.looks [] := by kernel_rfl
end Go.Proofs.YtnhfdcfnojnofaaGreatDoor

/-
  What the keeper's leaves do: pick, num, over.
-/
namespace Go.Proofs.YtnhfdcfnojnofaaGreatDoor
open Go.RowKit

/-- What pick answers. -/
def pickZ (c n : Int) : Int := (if c < 0 then -(c + 1) else c) % n

theorem pickZ_bd (c : Int) {n : Int} (hn : 0 < n) : 0 ≤ pickZ c n ∧ pickZ c n < n := by
  unfold pickZ
  exact ⟨Int.emod_nonneg _ (by omega), Int.emod_lt_of_pos _ hn⟩

theorem tmod_eq {a b : Int} (ha : 0 ≤ a) : Int.tmod a b = a % b := Int.tmod_eq_emod_of_nonneg ha

set_option maxHeartbeats 400000 in
theorem pick_any (c n : Int) (h0 : -9223372036854775808 ≤ c) (h1 : c ≤ 9223372036854775807) (hn : 0 < n) (hn1 : n ≤ 9223372036854775807) (w : World) :
    Calls Tryz.prog 16 #[.int .i64 c, .int .i64 n] w fun e w' => e = .returned (.int .i64 (pickZ c n)) ∧ w' = w := by
  have hb := pickZ_bd c hn
  by_cases hc : c < 0
  · have e : pickZ c n = Int.tmod (-(c + 1)) n := by rw [pickZ, if_pos hc, tmod_eq (by omega)]
    have HE := hide e
    rw [e] at hb
    clear e
    go_enter Tryz.func16, Tryz.ntmps16
    go_wp2
    go_ret
    exact ⟨ret_int (by rw [HE.out, Int.neg_tmod]), rfl⟩
  · have e : pickZ c n = Int.tmod c n := by rw [pickZ, if_neg hc, tmod_eq (by omega)]
    have HE := hide e
    rw [e] at hb
    clear e
    go_enter Tryz.func16, Tryz.ntmps16
    go_wp2
    go_ret
    exact ⟨ret_int (by rw [HE.out, tmod_eq hc]), rfl⟩

set_option maxHeartbeats 400000 in
theorem num_any (z : Int) (h0 : -9223372036854775808 ≤ z) (h1 : z ≤ 9223372036854775807) (w : World) (htab : Lib.TabIs Tryz.prog w "internal/strconv.uint64pow10" .u64 Lib.pow10Tab) :
    Calls Tryz.prog 20 #[.int .i64 z] w fun e w' => e = .returned (.string ⟨(Lib.itoa z).toArray⟩) ∧ Below w.heap.size w w' := by
  go_enter Tryz.func20, Tryz.ntmps20
  go_wp2_with fail
  refine (Tryz.strconv_Itoa z h0 h1 w htab).mono ?_
  rintro e w1 ⟨rfl, k, os, rfl⟩
  go_wp2
  go_ret
  exact ⟨rfl, Go.Lib.below_grow _ w (Nat.le_refl _) k os⟩

theorem ba_app (a b : List UInt8) : (ByteArray.mk a.toArray) ++ (ByteArray.mk b.toArray) = ByteArray.mk (a ++ b).toArray := by
  apply ByteArray.ext
  simp

theorem tabIs_below {w w' : World} (h : Lib.TabIs Tryz.prog w "internal/strconv.uint64pow10" .u64 Lib.pow10Tab) (hb : Below w.heap.size w w') : Lib.TabIs Tryz.prog w' "internal/strconv.uint64pow10" .u64 Lib.pow10Tab := by
  unfold Lib.TabIs World.var? at *
  cases hg : Tryz.prog.globalNamed "internal/strconv.uint64pow10" with
  | none => rw [hg] at h; simp at h
  | some g =>
    rw [hg] at h
    simp only [Option.bind_some] at h ⊢
    have hlt : g < w.heap.size := by
      rcases Nat.lt_or_ge g w.heap.size with h1 | h1
      · exact h1
      · rw [Array.getElem?_eq_none h1] at h; simp at h
    rw [hb.block g hlt]
    exact h

/-- A fraction's text, not in lowest terms. -/
def overText (a b : Int) : List UInt8 := Lib.itoa a ++ ([47] ++ Lib.itoa b)

theorem nd_le {n : Nat} (hn : n < 18446744073709551616) : (Lib.decDigits n).length ≤ 20 := by
  by_cases h0 : n = 0
  · subst h0; rw [Lib.decDigits_one (by omega)]; simp
  · rw [Lib.decDigits_length]
    have h1 := Lib.numDigits_eq n (by omega) hn
    split at h1 <;> omega

theorem it_le {z : Int} (hz : z.natAbs < 18446744073709551616) : (Lib.itoa z).length ≤ 21 := by
  unfold Lib.itoa
  split
  · have := nd_le hz; simp; omega
  · have := nd_le (n := z.toNat) (by omega); omega

set_option maxHeartbeats 400000 in
set_option maxRecDepth 100000 in
theorem keepOver_any (a b : Int) (h0 : -9223372036854775808 ≤ a) (h1 : a ≤ 9223372036854775807) (h2 : -9223372036854775808 ≤ b) (h3 : b ≤ 9223372036854775807) (w : World) (htab : Lib.TabIs Tryz.prog w "internal/strconv.uint64pow10" .u64 Lib.pow10Tab) :
    Calls Tryz.prog 17 #[.int .i64 a, .int .i64 b] w fun e w' => e = .returned (.string ⟨(overText a b).toArray⟩) ∧ Below w.heap.size w w' := by
  have hl1 := it_le (z := a) (by omega)
  have hl2 := it_le (z := b) (by omega)
  have HT : Hid (ByteArray.mk (Lib.itoa a).toArray ++ ByteArray.mk #[47] ++ ByteArray.mk (Lib.itoa b).toArray = ByteArray.mk (overText a b).toArray) := by
    rw [Hid, overText]
    have e1 : ByteArray.mk (Lib.itoa a).toArray ++ ByteArray.mk #[47] = ByteArray.mk (Lib.itoa a ++ [47]).toArray := ba_app _ [47]
    rw [e1, ba_app, List.append_assoc]
  go_enter Tryz.func17, Tryz.ntmps17
  go_wp2_with fail
  refine (num_any a h0 h1 _ htab).mono ?_
  rintro e wB ⟨rfl, hbB⟩
  go_wp2_with fail
  refine (num_any b h2 h3 _ (tabIs_below htab hbB)).mono ?_
  rintro e wC ⟨rfl, hbC⟩
  go_wp2
  go_ret
  exact ⟨by rw [← HT.out]; rfl, hbB.trans (hbC.mono hbB.size)⟩
end Go.Proofs.YtnhfdcfnojnofaaGreatDoor

/-
  Numbers written are read as themselves: facts of texts.
-/
namespace Go.Proofs.YtnhfdcfnojnofaaGreatDoor
open Go.RowKit

theorem dig_toNat {k : Nat} (h : k < 10) : (UInt8.ofNat (48 + k)).toNat = 48 + k := by
  rw [UInt8.toNat_ofNat']; omega

theorem allDig_append (a b : List UInt8) : allDig (a ++ b) = (allDig a && allDig b) := by simp [allDig]

theorem dec_all (n : Nat) : allDig (Lib.decDigits n) = true := by
  induction n using Nat.strongRecOn with
  | _ n ih =>
    have h1 : ∀ k, k < 10 → allDig [UInt8.ofNat (48 + k)] = true := by
      intro k hk
      simp only [allDig, List.all_cons, List.all_nil, Bool.and_true, isDig, dig_toNat hk]
      simp; omega
    by_cases h : n < 10
    · rw [Lib.decDigits, dif_pos h]; exact h1 n h
    · rw [Lib.decDigits, dif_neg h, allDig_append, ih (n / 10) (by omega), h1 (n % 10) (Nat.mod_lt _ (by omega))]; rfl

theorem dec_val (n : Nat) : decVal (Lib.decDigits n) = n := by
  induction n using Nat.strongRecOn with
  | _ n ih =>
    by_cases h : n < 10
    · rw [Lib.decDigits, dif_pos h]
      show decVal ([] ++ [_]) = n
      rw [decVal_snoc, dig_toNat h]; simp [decVal]
    · rw [Lib.decDigits, dif_neg h, decVal_snoc, ih (n / 10) (by omega), dig_toNat (Nat.mod_lt _ (by omega))]; omega

theorem index_at (a b : List UInt8) (h : ∀ c ∈ a, c ≠ 47) : Lib.index (a ++ 47 :: b) [47] = a.length := by
  induction a with
  | nil => simp [Lib.index]
  | cons c a ih =>
    have ih := ih (fun d hd => h d (List.mem_cons_of_mem _ hd))
    have hc := h c List.mem_cons_self
    simp only [List.cons_append, Lib.index, ih]
    have hp : ([47] : List UInt8).isPrefixOf (c :: (a ++ 47 :: b)) = false := by
      simp [List.isPrefixOf, Ne.symm hc]
    rw [hp]
    have hn : ((a.length : Int) == -1) = false := by
      rw [beq_eq_false_iff_ne]; omega
    rw [hn]; simp

theorem cut_at (a b : List UInt8) (h : ∀ c ∈ a, c ≠ 47) : Lib.cut (a ++ 47 :: b) [47] = (a, b, true) := by
  unfold Lib.cut
  rw [index_at a b h, if_pos (by omega)]
  simp

theorem dig_ne {l : List UInt8} (h : allDig l = true) : ∀ c ∈ l, c ≠ 47 ∧ c ≠ 45 := by
  intro c hc
  have := isDig_bd (List.all_eq_true.1 h c hc)
  constructor
  · rintro rfl; revert this; decide
  · rintro rfl; revert this; decide

theorem pre_dec (n : Nat) : Lib.hasPrefix (Lib.decDigits n) [45] = false := by
  have h := dig_ne (dec_all n)
  cases hd : Lib.decDigits n with
  | nil => rfl
  | cons c r =>
    have hc := (h c (by rw [hd]; exact List.mem_cons_self)).2
    simp [Lib.hasPrefix, List.isPrefixOf, Ne.symm hc]

theorem trim_itoa (z : Int) : Lib.trimPrefix (Lib.itoa z) [45] = Lib.decDigits z.natAbs ∧ Lib.hasPrefix (Lib.itoa z) [45] = decide (z < 0) := by
  unfold Lib.itoa
  by_cases h : z < 0
  · rw [if_pos h]
    constructor
    · simp [Lib.trimPrefix, Lib.hasPrefix]
    · simp [Lib.hasPrefix, h]
  · rw [if_neg h]
    have e : z.toNat = z.natAbs := by omega
    rw [e]
    constructor
    · rw [Lib.trimPrefix, pre_dec]; rfl
    · rw [pre_dec]; simp [h]

theorem itoa_ne (z : Int) : ∀ c ∈ Lib.itoa z, c ≠ 47 := by
  unfold Lib.itoa
  split
  · intro c hc
    rcases List.mem_cons.1 hc with rfl | h
    · decide
    · exact (dig_ne (dec_all _) c h).1
  · intro c hc
    exact (dig_ne (dec_all _) c hc).1

theorem sg_self (z : Int) : sg (decide (z < 0)) z.natAbs = z := by
  unfold sg
  by_cases h : z < 0
  · simp [h]; omega
  · simp [h]; omega

theorem itoa_nat (b : Nat) : Lib.itoa (b : Int) = Lib.decDigits b := by
  rw [Lib.itoa, if_neg (by omega)]; simp

theorem fracParse_text (a : Int) (b : Nat) (hb : b ≠ 0) (ha1 : a.natAbs < 1000000000) (hb1 : b < 1000000000) (w : World) (mx : Int) (hmx : w.cell? ⟨1, 0, none⟩ = some (.int .i64 mx)) (h1w : 1 < w.heap.size) :
    Calls Tryz.prog 56 #[.string ⟨(overText a (b : Int)).toArray⟩, .int .i64 40] w fun e w' => ∃ x, e = .returned (.tuple #[x, .bool true]) ∧ FracV w' x (a / (Nat.gcd a.natAbs b : Int)) (b / Nat.gcd a.natAbs b) ∧ Below w.heap.size w w' := by
  have hl1 := decDigits_len (n := a.natAbs) (by omega)
  have hl2 := decDigits_len (n := b) (by omega)
  have hl3 := itoa_len ha1
  have ht := trim_itoa a
  have hd : (ByteArray.mk (overText a (b : Int)).toArray).data.toList = overText a (b : Int) := by simp
  refine (fracParse_frac 2 (by omega) (over_any 2 (by omega) longOK_two) ⟨(overText a (b : Int)).toArray⟩ 40 w mx hmx h1w (by omega) (by rw [size_mk, overText, itoa_nat]; simp; omega) (Lib.itoa a) (Lib.decDigits b) (by rw [hd, overText, itoa_nat]; exact cut_at _ _ (itoa_ne a))
    (by rw [ht.1]; omega) (by rw [ht.1]; omega) (by rw [ht.1]; exact dec_all _) (by omega) (by omega) (dec_all _) (by rw [dec_val]; exact hb) (by rw [ht.1, dec_val]; omega) (by rw [dec_val]; omega)).mono ?_
  rintro e w' ⟨x, z, hz, rfl, hx, hbw⟩
  rw [ht.1, ht.2, dec_val, sg_self] at hz
  subst hz
  rw [dec_val] at hx
  exact ⟨x, rfl, hx, hbw⟩
end Go.Proofs.YtnhfdcfnojnofaaGreatDoor

/-
  What package planes does: Calc; and where the divisor is 0.
-/
namespace Go.Proofs.YtnhfdcfnojnofaaGreatDoor
open Go.RowKit

set_option maxHeartbeats 1000000 in
set_option maxRecDepth 100000 in
theorem calc_zero (w : World) (s t : ByteArray) (p : Int) (q u : Nat) (hg : Gl w) (hs : ParseOK s p q) (ht : ParseOK t 0 u) :
    Calls Tryz.prog 41 #[.int .i64 4, .string s, .string t] w fun e w' => e = .returned (.tuple #[.string ⟨#[]⟩, .int .i64 3]) ∧ Below w.heap.size w w' := by
  go_enter Tryz.func41, Tryz.ntmps41
  go_wp2_with fail
  refine (find_4 _).mono ?_
  rintro e w1 ⟨rfl, hb1⟩
  have hbox8 := Box3.new w1 (.int .i64 4) (.func (.func 123) #[] #[]) (.func (.func 124) #[] #[]) 95
  have hbA : Below w.heap.size w (w1.alloc (.cells #[.int .i64 4, .func (.func 123) #[] #[], .func (.func 124) #[] #[]] 95)) := hb1.alloc hb1.size _
  have hgA := hg.below hbA
  go_wp2_with fail
  refine (hs _ hgA).mono ?_
  rintro e w2 ⟨x, rfl, hx, hb2⟩
  obtain ⟨b, ao, l, cap, ao', l', cap', rfl, _⟩ := hx.parts
  have hbB0 : Below w.heap.size w w2 := hbA.trans (hb2.mono hbA.size)
  have hbB : Below w.heap.size w (w2.alloc (.cells #[.bool b, .slice ao l cap, .slice ao' l' cap'] 103)) := hbB0.alloc hbB0.size _
  have hbox8B := (hbox8.below hb2).alloc (.cells #[.bool b, .slice ao l cap, .slice ao' l' cap'] 103)
  have hbox10 := Box3.new w2 (.bool b) (.slice ao l cap) (.slice ao' l' cap') 103
  have hxB := hx.alloc (.cells #[.bool b, .slice ao l cap, .slice ao' l' cap'] 103)
  have hgB := hg.below hbB
  clear hb1 hb2 hbox8 hbA hgA hx hbB0
  go_wp2_with fail
  refine (ht _ hgB).mono ?_
  rintro e w3 ⟨y, rfl, hy, hb3⟩
  obtain ⟨c, bo, m, dap, bo', m', dap', rfl, _⟩ := hy.parts
  have hbC0 : Below w.heap.size w w3 := hbB.trans (hb3.mono hbB.size)
  have hbC : Below w.heap.size w (w3.alloc (.cells #[.bool c, .slice bo m dap, .slice bo' m' dap'] 103)) := hbC0.alloc hbC0.size _
  have hbox8C := (hbox8B.below hb3).alloc (.cells #[.bool c, .slice bo m dap, .slice bo' m' dap'] 103)
  have hbox10C := (hbox10.below hb3).alloc (.cells #[.bool c, .slice bo m dap, .slice bo' m' dap'] 103)
  have hbox11 := Box3.new w3 (.bool c) (.slice bo m dap) (.slice bo' m' dap') 103
  have hxC := (hxB.below hb3).alloc (.cells #[.bool c, .slice bo m dap, .slice bo' m' dap'] 103)
  have hyC := hy.alloc (.cells #[.bool c, .slice bo m dap, .slice bo' m' dap'] 103)
  have d8 := hbox8B.below hb3
  obtain ⟨i0, i1, i2, i3, i4, i5, i6⟩ := d8
  have d10 := hbox10.below hb3
  obtain ⟨j0, j1, j2, j3, j4, j5, j6⟩ := d10
  clear hb3 hbox8B hbox10 hxB hgB hbB hbC0 hy
  go_wp2_with fail
  refine (faultIfZero_yes _ _ _ p q u hxC hyC).mono ?_
  rintro e w4 ⟨rfl, hb4⟩
  have hbD : Below w.heap.size w w4 := hbC.trans (hb4.mono hbC.size)
  have d8 := hbox8C.below hb4
  have d10 := hbox10C.below hb4
  have d11 := hbox11.below hb4
  have hxD := hxC.below hb4
  have hyD := hyC.below hb4
  have hgD := hg.below hbD
  clear hb4 hbox8C hbox10C hbox11 hxC hyC hbC i0 i1 i2 i3 i4 i5 i6 j0 j1 j2 j3 j4 j5 j6
  obtain ⟨i0, i1, i2, i3, i4, i5, i6⟩ := d8
  obtain ⟨j0, j1, j2, j3, j4, j5, j6⟩ := d10
  obtain ⟨k0, k1, k2, k3, k4, k5, k6⟩ := d11
  go_wp2
  go_ret2
  exact ⟨rfl, hbD⟩

set_option maxHeartbeats 400000 in
theorem planesCalc_of (op : Int) (s t r : ByteArray) (k : Int) (w : World) (h : Calls Tryz.prog 41 #[.int .i64 op, .string s, .string t] w fun e w' => e = .returned (.tuple #[.string r, .int .i64 k]) ∧ Below w.heap.size w w') :
    Calls Tryz.prog 18 #[.int .i64 op, .string s, .string t] w fun e w' => e = .returned (.tuple #[.string r, .int .i64 k]) ∧ Below w.heap.size w w' := by
  go_enter Tryz.func18, Tryz.ntmps18
  go_wp2_with fail
  refine h.mono ?_
  rintro e w1 ⟨rfl, hb1⟩
  go_wp2
  go_ret2
  exact ⟨rfl, hb1⟩

theorem parseOK_over (a : Int) (b : Nat) (hb : b ≠ 0) (ha1 : a.natAbs < 1000000000) (hb1 : b < 1000000000) : ParseOK ⟨(overText a (b : Int)).toArray⟩ (a / (Nat.gcd a.natAbs b : Int)) (b / Nat.gcd a.natAbs b) := by
  rintro W ⟨_, mx, h1, h2⟩
  exact fracParse_text a b hb ha1 hb1 W mx h1 h2
end Go.Proofs.YtnhfdcfnojnofaaGreatDoor

/-
  What the keeper's lowest does.
-/
namespace Go.Proofs.YtnhfdcfnojnofaaGreatDoor
open Go.RowKit

/-- A fraction as it is written: in lowest terms. -/
def lowText (a : Int) (b : Nat) : List UInt8 :=
  if b / Nat.gcd a.natAbs b = 1 then Lib.itoa (a / (Nat.gcd a.natAbs b : Int)) else overText (a / (Nat.gcd a.natAbs b : Int)) (b / Nat.gcd a.natAbs b : Nat)

theorem tdiv_dvd {a : Int} {g : Nat} (hg : g ∣ a.natAbs) : Int.tdiv a (g : Int) = a / (g : Int) := by
  have h : (g : Int) ∣ a := Int.ofNat_dvd_left.2 hg
  rw [Int.tdiv_eq_ediv_of_dvd h]

theorem tdiv_abs {a : Int} {g : Nat} : (Int.tdiv a (g : Int)).natAbs ≤ a.natAbs := by
  rw [Int.natAbs_tdiv]; exact Nat.div_le_self _ _

set_option maxHeartbeats 1000000 in
set_option maxRecDepth 100000 in
theorem lowest_any (a : Int) (b : Nat) (ha : a.natAbs < 4611686018427387904) (hb0 : 0 < b) (hb : b < 4611686018427387904) (w : World) (htab : Lib.TabIs Tryz.prog w "internal/strconv.uint64pow10" .u64 Lib.pow10Tab) :
    Calls Tryz.prog 19 #[.int .i64 a, .int .i64 (b : Nat)] w fun e w' => e = .returned (.string ⟨(lowText a b).toArray⟩) ∧ Below w.heap.size w w' := by
  have hgp : 0 < Nat.gcd a.natAbs b := Nat.gcd_pos_of_pos_right _ hb0
  have hgle : Nat.gcd a.natAbs b ≤ b := Nat.le_of_dvd hb0 (Nat.gcd_dvd_right _ _)
  have hA1 := tdiv_abs (a := a) (g := Nat.gcd a.natAbs b)
  have hA2 : Hid (Int.tdiv a (Nat.gcd a.natAbs b : Int) = a / (Nat.gcd a.natAbs b : Int)) := tdiv_dvd (Nat.gcd_dvd_left _ _)
  have hLT : Hid (lowText a b = if b / Nat.gcd a.natAbs b = 1 then Lib.itoa (Int.tdiv a (Nat.gcd a.natAbs b : Int)) else overText (Int.tdiv a (Nat.gcd a.natAbs b : Int)) (b / Nat.gcd a.natAbs b : Nat)) := by
    rw [Hid, hA2.out]; rfl
  clear hA2
  have hB1 : b / Nat.gcd a.natAbs b ≤ b := Nat.div_le_self _ _
  have HG : Hid (Nat.gcd a.natAbs b = Nat.gcd a.natAbs b) := rfl
  generalize hgg : Nat.gcd a.natAbs b = g at hgp hgle hA1 hB1 hLT
  rw [hgg] at HG
  have HGG := hide hgg
  clear hgg HG
  generalize lowText a b = LT at *
  by_cases hneg : a < 0
  · go_enter Tryz.func19, Tryz.ntmps19
    go_wp2_with fail
    go_loopw [5, 6] (fun u v wr => ∃ x y : Nat, x < 4611686018427387904 ∧ y < 4611686018427387904 ∧ u = .int .i64 (x : Nat) ∧ v = .int .i64 (y : Nat) ∧ Hid (Nat.gcd x y = g) ∧ ∃ n, wr = w.drewN n) (fun _ v _ => (intOf v).toNat)
    case atStart => exact ⟨a.natAbs, b, ha, hb, by congr 1; omega, rfl, HGG, 0, rfl⟩
    case round =>
      obtain ⟨x, y, hx, hy, rfl, rfl, hg, n, rfl⟩ := hrel
      by_cases h0 : 0 < y
      · go_wp2
        go_region
        all_goals go_wp2
        go_roundw
        case rel => exact ⟨y, x % y, hy, Nat.lt_trans (Nat.mod_lt _ h0) hy, rfl, by go_num, by rw [Hid, ← hg.out, Nat.gcd_comm y (x % y), ← Nat.gcd_rec, Nat.gcd_comm], n + 1, rfl⟩
        case measure => have := Nat.mod_lt x h0; simp [intOf]; omega
      · have : y = 0 := by omega
        subst this
        have hxg : x = g := by have := hg.out; rwa [Nat.gcd_zero_right] at this
        subst hxg
        have hC : ((b / x : Nat) : Int) = (b : Int) / (x : Int) := Int.natCast_ediv _ _
        have hD0 : 0 ≤ (b : Int) / (x : Int) := by rw [← hC]; exact Int.natCast_nonneg _
        have hD1 : (b : Int) / (x : Int) < 4611686018427387904 := by omega
        rw [hC] at hLT
        have hC1 : b / x = 1 ↔ (b : Int) / (x : Int) = 1 := by omega
        simp only [hC1] at hLT
        clear hC hC1
        by_cases h1 : (b : Int) / (x : Int) = 1
        · rw [if_pos h1] at hLT
          go_wp2_with fail
          refine (num_any _ (by omega) (by omega) _ (tabIs_below htab (below_drewN (Below.refl _ _) n))).mono ?_
          rintro e wB ⟨rfl, hbB⟩
          go_wp2
          go_ret
          exact ⟨by rw [hLT.out]; rfl, ⟨hbB.os, hbB.tape, hbB.output, hbB.size, hbB.block⟩⟩
        · rw [if_neg h1] at hLT
          have hW : Hid (wrap64 ((b : Int) / (x : Int)) = (b : Int) / (x : Int)) := Go.IntWalk.wrap64_in _ (by omega)
          have H1 : ∀ _u : Unit, ¬ (b : Int) / (x : Int) = 1 := fun _ => h1
          have HD0 : ∀ _u : Unit, 0 ≤ (b : Int) / (x : Int) := fun _ => hD0
          have HD1 : ∀ _u : Unit, (b : Int) / (x : Int) < 4611686018427387904 := fun _ => hD1
          clear h1 hD0 hD1
          go_wp2_with fail
          case' _ => exact absurd (show (wrap64 ((b : Int) / (x : Int)) == 1) = true by assumption) (by rw [hW.out]; simpa using H1 ())
          have h1 := H1 ()
          have hD0 := HD0 ()
          have hD1 := HD1 ()
          rw [hW.out]
          refine (keepOver_any _ _ (by omega) (by omega) (by omega) (by omega) _ (tabIs_below htab (below_drewN (Below.refl _ _) n))).mono ?_
          rintro e wB ⟨rfl, hbB⟩
          go_wp2
          go_ret
          exact ⟨by rw [hLT.out]; rfl, ⟨hbB.os, hbB.tape, hbB.output, hbB.size, hbB.block⟩⟩
  · go_enter Tryz.func19, Tryz.ntmps19
    go_wp2_with fail
    go_loopw [5, 6] (fun u v wr => ∃ x y : Nat, x < 4611686018427387904 ∧ y < 4611686018427387904 ∧ u = .int .i64 (x : Nat) ∧ v = .int .i64 (y : Nat) ∧ Hid (Nat.gcd x y = g) ∧ ∃ n, wr = w.drewN n) (fun _ v _ => (intOf v).toNat)
    case atStart => exact ⟨a.natAbs, b, ha, hb, by congr 1; omega, rfl, HGG, 0, rfl⟩
    case round =>
      obtain ⟨x, y, hx, hy, rfl, rfl, hg, n, rfl⟩ := hrel
      by_cases h0 : 0 < y
      · go_wp2
        go_region
        all_goals go_wp2
        go_roundw
        case rel => exact ⟨y, x % y, hy, Nat.lt_trans (Nat.mod_lt _ h0) hy, rfl, by go_num, by rw [Hid, ← hg.out, Nat.gcd_comm y (x % y), ← Nat.gcd_rec, Nat.gcd_comm], n + 1, rfl⟩
        case measure => have := Nat.mod_lt x h0; simp [intOf]; omega
      · have : y = 0 := by omega
        subst this
        have hxg : x = g := by have := hg.out; rwa [Nat.gcd_zero_right] at this
        subst hxg
        have hC : ((b / x : Nat) : Int) = (b : Int) / (x : Int) := Int.natCast_ediv _ _
        have hD0 : 0 ≤ (b : Int) / (x : Int) := by rw [← hC]; exact Int.natCast_nonneg _
        have hD1 : (b : Int) / (x : Int) < 4611686018427387904 := by omega
        rw [hC] at hLT
        have hC1 : b / x = 1 ↔ (b : Int) / (x : Int) = 1 := by omega
        simp only [hC1] at hLT
        clear hC hC1
        by_cases h1 : (b : Int) / (x : Int) = 1
        · rw [if_pos h1] at hLT
          go_wp2_with fail
          refine (num_any _ (by omega) (by omega) _ (tabIs_below htab (below_drewN (Below.refl _ _) n))).mono ?_
          rintro e wB ⟨rfl, hbB⟩
          go_wp2
          go_ret
          exact ⟨by rw [hLT.out]; rfl, ⟨hbB.os, hbB.tape, hbB.output, hbB.size, hbB.block⟩⟩
        · rw [if_neg h1] at hLT
          have hW : Hid (wrap64 ((b : Int) / (x : Int)) = (b : Int) / (x : Int)) := Go.IntWalk.wrap64_in _ (by omega)
          have H1 : ∀ _u : Unit, ¬ (b : Int) / (x : Int) = 1 := fun _ => h1
          have HD0 : ∀ _u : Unit, 0 ≤ (b : Int) / (x : Int) := fun _ => hD0
          have HD1 : ∀ _u : Unit, (b : Int) / (x : Int) < 4611686018427387904 := fun _ => hD1
          clear h1 hD0 hD1
          go_wp2_with fail
          case' _ => exact absurd (show (wrap64 ((b : Int) / (x : Int)) == 1) = true by assumption) (by rw [hW.out]; simpa using H1 ())
          have h1 := H1 ()
          have hD0 := HD0 ()
          have hD1 := HD1 ()
          rw [hW.out]
          refine (keepOver_any _ _ (by omega) (by omega) (by omega) (by omega) _ (tabIs_below htab (below_drewN (Below.refl _ _) n))).mono ?_
          rintro e wB ⟨rfl, hbB⟩
          go_wp2
          go_ret
          exact ⟨by rw [hLT.out]; rfl, ⟨hbB.os, hbB.tape, hbB.output, hbB.size, hbB.block⟩⟩
end Go.Proofs.YtnhfdcfnojnofaaGreatDoor
