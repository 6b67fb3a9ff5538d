/-
  Part 8 of the texts ahead of Cal1: Pla3, Row1, Row2, Pla7, Kee1, Txt9, Num3.
-/
import Derived.Test.YtnhfdcfnojnofaaGreatDoorCal1Z7
import Derived.Test.YtnhfdcfnojnofaaGreatDoorTie
import Derived.Test.YtnhfdcfnojnofaaGreatDoorCards
import Derived.Test.YtnhfdcfnojnofaaGreatDoorRows
import Derived.ProofKit
import Derived.OpenShut
import Derived.LaidMore
import Derived.Lay
import Derived.SevenTiedAt
import Derived.Stop.Joined
import Derived.Stop.LaidErr
import Derived.Shelf.Vars
import Derived.Test.YtnhfdcfnojnofaaGreatDoorCal1Z4
import Derived.Test.YtnhfdcfnojnofaaGreatDoorCal1Z1
import Derived.Test.YtnhfdcfnojnofaaGreatDoorShelf
import Derived.Lib.AppendIntMem
import Derived.WalkSmall
import Derived.Lib.IndexMore
import Derived.Test.YtnhfdcfnojnofaaGreatDoorCal1Z2
set_option linter.unusedSimpArgs false
set_option linter.unusedVariables false
/-
  What package planes does: calc, for each operation, where both texts are numbers'.
-/
namespace Go.Proofs.YtnhfdcfnojnofaaGreatDoor
open Go.RowKit

/-- What the calls lean on in old memory: the table of powers of ten, and the library's bound on short searches. -/
def Gl (w : World) : Prop := Tab w ∧ ∃ mx, w.cell? ⟨1, 0, none⟩ = some (.int .i64 mx) ∧ 1 < w.heap.size

theorem Gl.below {w w' : World} (h : Gl w) (hb : Below w.heap.size w w') : Gl w' := by
  obtain ⟨h1, mx, h2, h3⟩ := h
  exact ⟨h1.below hb, mx, (hb.cell (p := ⟨1, 0, none⟩) h3).trans h2, Nat.lt_of_lt_of_le h3 hb.size⟩

/-- The text is read as the fraction p / q. -/
def ParseOK (s : ByteArray) (p : Int) (q : Nat) : Prop := ∀ W, Gl W → Calls Tryz.prog 56 #[.string s, .int .i64 40] W fun e w' => ∃ x, e = .returned (.tuple #[x, .bool true]) ∧ FracV w' x p q ∧ Below W.heap.size W w'

set_option maxHeartbeats 1000000 in
set_option maxRecDepth 100000 in
theorem calc_1 (w : World) (s t : ByteArray) (p r P : Int) (q u Q : Nat) (hg : Gl w) (hs : ParseOK s p q) (ht : ParseOK t r u)
    (hreck : ∀ W x y, FracV W x p q → FracV W y r u → Calls Tryz.prog 120 #[x, y] W fun e w' => ∃ z, e = .returned z ∧ FracV w' z P Q ∧ Below W.heap.size W w') (hP : P.natAbs < Cap) (hQ : Q < Cap) :
    Calls Tryz.prog 41 #[.int .i64 1, .string s, .string t] w fun e w' => e = .returned (.tuple #[.string ⟨(fracText P Q).toArray⟩, .int .i64 0]) ∧ Below w.heap.size w w' := by
  have HR := hide hreck
  clear hreck
  go_enter Tryz.func41, Tryz.ntmps41
  go_wp2_with fail
  refine (find_1 _).mono ?_
  rintro e w1 ⟨rfl, hb1⟩
  have hbox8 := Box3.new w1 (.int .i64 1) (.func (.func 119) #[] #[]) (.func (.func 120) #[] #[]) 95
  have hbA : Below w.heap.size w (w1.alloc (.cells #[.int .i64 1, .func (.func 119) #[] #[], .func (.func 120) #[] #[]] 95)) := hb1.alloc hb1.size _
  have hgA := hg.below hbA
  go_wp2_with fail
  refine (hs _ hgA).mono ?_
  rintro e w2 ⟨x, rfl, hx, hb2⟩
  obtain ⟨b, ao, l, cap, ao', l', cap', rfl, _⟩ := hx.parts
  have hbB0 : Below w.heap.size w w2 := hbA.trans (hb2.mono hbA.size)
  have hbB : Below w.heap.size w (w2.alloc (.cells #[.bool b, .slice ao l cap, .slice ao' l' cap'] 103)) := hbB0.alloc hbB0.size _
  have hbox8B := (hbox8.below hb2).alloc (.cells #[.bool b, .slice ao l cap, .slice ao' l' cap'] 103)
  have hbox10 := Box3.new w2 (.bool b) (.slice ao l cap) (.slice ao' l' cap') 103
  have hxB := hx.alloc (.cells #[.bool b, .slice ao l cap, .slice ao' l' cap'] 103)
  have hgB := hg.below hbB
  clear hb1 hb2 hbox8 hbA hgA hx hbB0
  go_wp2_with fail
  refine (ht _ hgB).mono ?_
  rintro e w3 ⟨y, rfl, hy, hb3⟩
  obtain ⟨c, bo, m, dap, bo', m', dap', rfl, _⟩ := hy.parts
  have hbC0 : Below w.heap.size w w3 := hbB.trans (hb3.mono hbB.size)
  have hbC : Below w.heap.size w (w3.alloc (.cells #[.bool c, .slice bo m dap, .slice bo' m' dap'] 103)) := hbC0.alloc hbC0.size _
  have hbox8C := (hbox8B.below hb3).alloc (.cells #[.bool c, .slice bo m dap, .slice bo' m' dap'] 103)
  have hbox10C := (hbox10.below hb3).alloc (.cells #[.bool c, .slice bo m dap, .slice bo' m' dap'] 103)
  have hbox11 := Box3.new w3 (.bool c) (.slice bo m dap) (.slice bo' m' dap') 103
  have hxC := (hxB.below hb3).alloc (.cells #[.bool c, .slice bo m dap, .slice bo' m' dap'] 103)
  have hyC := hy.alloc (.cells #[.bool c, .slice bo m dap, .slice bo' m' dap'] 103)
  have d8 := hbox8B.below hb3
  obtain ⟨i0, i1, i2, i3, i4, i5, i6⟩ := d8
  have d10 := hbox10.below hb3
  obtain ⟨j0, j1, j2, j3, j4, j5, j6⟩ := d10
  clear hb3 hbox8B hbox10 hxB hgB hbB hbC0 hy
  go_wp2_with fail
  refine (noFault_any _ _ _ p r q u hxC hyC).mono ?_
  rintro e w4 ⟨rfl, hb4⟩
  have hbD : Below w.heap.size w w4 := hbC.trans (hb4.mono hbC.size)
  have d8 := hbox8C.below hb4
  have d10 := hbox10C.below hb4
  have d11 := hbox11.below hb4
  have hxD := hxC.below hb4
  have hyD := hyC.below hb4
  have hgD := hg.below hbD
  clear hb4 hbox8C hbox10C hbox11 hxC hyC hbC i0 i1 i2 i3 i4 i5 i6 j0 j1 j2 j3 j4 j5 j6
  obtain ⟨i0, i1, i2, i3, i4, i5, i6⟩ := d8
  obtain ⟨j0, j1, j2, j3, j4, j5, j6⟩ := d10
  obtain ⟨k0, k1, k2, k3, k4, k5, k6⟩ := d11
  go_wp2_with fail
  refine (HR.out _ _ _ hxD hyD).mono ?_
  rintro e w5 ⟨z, rfl, hz, hb5⟩
  have hbE : Below w.heap.size w w5 := hbD.trans (hb5.mono hbD.size)
  have hgE := hgD.below hb5
  clear hb5 hxD hyD hgD hbD i0 i1 i2 i3 i4 i5 i6 j0 j1 j2 j3 j4 j5 j6 k0 k1 k2 k3 k4 k5 k6
  go_wp2_with fail
  refine (fracString_any _ _ P Q hz hP hQ hgE.1).mono ?_
  rintro e w6 ⟨rfl, hb6⟩
  go_wp2
  go_ret2
  exact ⟨rfl, hbE.trans (hb6.mono hbE.size)⟩

set_option maxHeartbeats 1000000 in
set_option maxRecDepth 100000 in
theorem calc_2 (w : World) (s t : ByteArray) (p r P : Int) (q u Q : Nat) (hg : Gl w) (hs : ParseOK s p q) (ht : ParseOK t r u)
    (hreck : ∀ W x y, FracV W x p q → FracV W y r u → Calls Tryz.prog 121 #[x, y] W fun e w' => ∃ z, e = .returned z ∧ FracV w' z P Q ∧ Below W.heap.size W w') (hP : P.natAbs < Cap) (hQ : Q < Cap) :
    Calls Tryz.prog 41 #[.int .i64 2, .string s, .string t] w fun e w' => e = .returned (.tuple #[.string ⟨(fracText P Q).toArray⟩, .int .i64 0]) ∧ Below w.heap.size w w' := by
  have HR := hide hreck
  clear hreck
  go_enter Tryz.func41, Tryz.ntmps41
  go_wp2_with fail
  refine (find_2 _).mono ?_
  rintro e w1 ⟨rfl, hb1⟩
  have hbox8 := Box3.new w1 (.int .i64 2) (.func (.func 119) #[] #[]) (.func (.func 121) #[] #[]) 95
  have hbA : Below w.heap.size w (w1.alloc (.cells #[.int .i64 2, .func (.func 119) #[] #[], .func (.func 121) #[] #[]] 95)) := hb1.alloc hb1.size _
  have hgA := hg.below hbA
  go_wp2_with fail
  refine (hs _ hgA).mono ?_
  rintro e w2 ⟨x, rfl, hx, hb2⟩
  obtain ⟨b, ao, l, cap, ao', l', cap', rfl, _⟩ := hx.parts
  have hbB0 : Below w.heap.size w w2 := hbA.trans (hb2.mono hbA.size)
  have hbB : Below w.heap.size w (w2.alloc (.cells #[.bool b, .slice ao l cap, .slice ao' l' cap'] 103)) := hbB0.alloc hbB0.size _
  have hbox8B := (hbox8.below hb2).alloc (.cells #[.bool b, .slice ao l cap, .slice ao' l' cap'] 103)
  have hbox10 := Box3.new w2 (.bool b) (.slice ao l cap) (.slice ao' l' cap') 103
  have hxB := hx.alloc (.cells #[.bool b, .slice ao l cap, .slice ao' l' cap'] 103)
  have hgB := hg.below hbB
  clear hb1 hb2 hbox8 hbA hgA hx hbB0
  go_wp2_with fail
  refine (ht _ hgB).mono ?_
  rintro e w3 ⟨y, rfl, hy, hb3⟩
  obtain ⟨c, bo, m, dap, bo', m', dap', rfl, _⟩ := hy.parts
  have hbC0 : Below w.heap.size w w3 := hbB.trans (hb3.mono hbB.size)
  have hbC : Below w.heap.size w (w3.alloc (.cells #[.bool c, .slice bo m dap, .slice bo' m' dap'] 103)) := hbC0.alloc hbC0.size _
  have hbox8C := (hbox8B.below hb3).alloc (.cells #[.bool c, .slice bo m dap, .slice bo' m' dap'] 103)
  have hbox10C := (hbox10.below hb3).alloc (.cells #[.bool c, .slice bo m dap, .slice bo' m' dap'] 103)
  have hbox11 := Box3.new w3 (.bool c) (.slice bo m dap) (.slice bo' m' dap') 103
  have hxC := (hxB.below hb3).alloc (.cells #[.bool c, .slice bo m dap, .slice bo' m' dap'] 103)
  have hyC := hy.alloc (.cells #[.bool c, .slice bo m dap, .slice bo' m' dap'] 103)
  have d8 := hbox8B.below hb3
  obtain ⟨i0, i1, i2, i3, i4, i5, i6⟩ := d8
  have d10 := hbox10.below hb3
  obtain ⟨j0, j1, j2, j3, j4, j5, j6⟩ := d10
  clear hb3 hbox8B hbox10 hxB hgB hbB hbC0 hy
  go_wp2_with fail
  refine (noFault_any _ _ _ p r q u hxC hyC).mono ?_
  rintro e w4 ⟨rfl, hb4⟩
  have hbD : Below w.heap.size w w4 := hbC.trans (hb4.mono hbC.size)
  have d8 := hbox8C.below hb4
  have d10 := hbox10C.below hb4
  have d11 := hbox11.below hb4
  have hxD := hxC.below hb4
  have hyD := hyC.below hb4
  have hgD := hg.below hbD
  clear hb4 hbox8C hbox10C hbox11 hxC hyC hbC i0 i1 i2 i3 i4 i5 i6 j0 j1 j2 j3 j4 j5 j6
  obtain ⟨i0, i1, i2, i3, i4, i5, i6⟩ := d8
  obtain ⟨j0, j1, j2, j3, j4, j5, j6⟩ := d10
  obtain ⟨k0, k1, k2, k3, k4, k5, k6⟩ := d11
  go_wp2_with fail
  refine (HR.out _ _ _ hxD hyD).mono ?_
  rintro e w5 ⟨z, rfl, hz, hb5⟩
  have hbE : Below w.heap.size w w5 := hbD.trans (hb5.mono hbD.size)
  have hgE := hgD.below hb5
  clear hb5 hxD hyD hgD hbD i0 i1 i2 i3 i4 i5 i6 j0 j1 j2 j3 j4 j5 j6 k0 k1 k2 k3 k4 k5 k6
  go_wp2_with fail
  refine (fracString_any _ _ P Q hz hP hQ hgE.1).mono ?_
  rintro e w6 ⟨rfl, hb6⟩
  go_wp2
  go_ret2
  exact ⟨rfl, hbE.trans (hb6.mono hbE.size)⟩

set_option maxHeartbeats 1000000 in
set_option maxRecDepth 100000 in
theorem calc_3 (w : World) (s t : ByteArray) (p r P : Int) (q u Q : Nat) (hg : Gl w) (hs : ParseOK s p q) (ht : ParseOK t r u)
    (hreck : ∀ W x y, FracV W x p q → FracV W y r u → Calls Tryz.prog 122 #[x, y] W fun e w' => ∃ z, e = .returned z ∧ FracV w' z P Q ∧ Below W.heap.size W w') (hP : P.natAbs < Cap) (hQ : Q < Cap) :
    Calls Tryz.prog 41 #[.int .i64 3, .string s, .string t] w fun e w' => e = .returned (.tuple #[.string ⟨(fracText P Q).toArray⟩, .int .i64 0]) ∧ Below w.heap.size w w' := by
  have HR := hide hreck
  clear hreck
  go_enter Tryz.func41, Tryz.ntmps41
  go_wp2_with fail
  refine (find_3 _).mono ?_
  rintro e w1 ⟨rfl, hb1⟩
  have hbox8 := Box3.new w1 (.int .i64 3) (.func (.func 119) #[] #[]) (.func (.func 122) #[] #[]) 95
  have hbA : Below w.heap.size w (w1.alloc (.cells #[.int .i64 3, .func (.func 119) #[] #[], .func (.func 122) #[] #[]] 95)) := hb1.alloc hb1.size _
  have hgA := hg.below hbA
  go_wp2_with fail
  refine (hs _ hgA).mono ?_
  rintro e w2 ⟨x, rfl, hx, hb2⟩
  obtain ⟨b, ao, l, cap, ao', l', cap', rfl, _⟩ := hx.parts
  have hbB0 : Below w.heap.size w w2 := hbA.trans (hb2.mono hbA.size)
  have hbB : Below w.heap.size w (w2.alloc (.cells #[.bool b, .slice ao l cap, .slice ao' l' cap'] 103)) := hbB0.alloc hbB0.size _
  have hbox8B := (hbox8.below hb2).alloc (.cells #[.bool b, .slice ao l cap, .slice ao' l' cap'] 103)
  have hbox10 := Box3.new w2 (.bool b) (.slice ao l cap) (.slice ao' l' cap') 103
  have hxB := hx.alloc (.cells #[.bool b, .slice ao l cap, .slice ao' l' cap'] 103)
  have hgB := hg.below hbB
  clear hb1 hb2 hbox8 hbA hgA hx hbB0
  go_wp2_with fail
  refine (ht _ hgB).mono ?_
  rintro e w3 ⟨y, rfl, hy, hb3⟩
  obtain ⟨c, bo, m, dap, bo', m', dap', rfl, _⟩ := hy.parts
  have hbC0 : Below w.heap.size w w3 := hbB.trans (hb3.mono hbB.size)
  have hbC : Below w.heap.size w (w3.alloc (.cells #[.bool c, .slice bo m dap, .slice bo' m' dap'] 103)) := hbC0.alloc hbC0.size _
  have hbox8C := (hbox8B.below hb3).alloc (.cells #[.bool c, .slice bo m dap, .slice bo' m' dap'] 103)
  have hbox10C := (hbox10.below hb3).alloc (.cells #[.bool c, .slice bo m dap, .slice bo' m' dap'] 103)
  have hbox11 := Box3.new w3 (.bool c) (.slice bo m dap) (.slice bo' m' dap') 103
  have hxC := (hxB.below hb3).alloc (.cells #[.bool c, .slice bo m dap, .slice bo' m' dap'] 103)
  have hyC := hy.alloc (.cells #[.bool c, .slice bo m dap, .slice bo' m' dap'] 103)
  have d8 := hbox8B.below hb3
  obtain ⟨i0, i1, i2, i3, i4, i5, i6⟩ := d8
  have d10 := hbox10.below hb3
  obtain ⟨j0, j1, j2, j3, j4, j5, j6⟩ := d10
  clear hb3 hbox8B hbox10 hxB hgB hbB hbC0 hy
  go_wp2_with fail
  refine (noFault_any _ _ _ p r q u hxC hyC).mono ?_
  rintro e w4 ⟨rfl, hb4⟩
  have hbD : Below w.heap.size w w4 := hbC.trans (hb4.mono hbC.size)
  have d8 := hbox8C.below hb4
  have d10 := hbox10C.below hb4
  have d11 := hbox11.below hb4
  have hxD := hxC.below hb4
  have hyD := hyC.below hb4
  have hgD := hg.below hbD
  clear hb4 hbox8C hbox10C hbox11 hxC hyC hbC i0 i1 i2 i3 i4 i5 i6 j0 j1 j2 j3 j4 j5 j6
  obtain ⟨i0, i1, i2, i3, i4, i5, i6⟩ := d8
  obtain ⟨j0, j1, j2, j3, j4, j5, j6⟩ := d10
  obtain ⟨k0, k1, k2, k3, k4, k5, k6⟩ := d11
  go_wp2_with fail
  refine (HR.out _ _ _ hxD hyD).mono ?_
  rintro e w5 ⟨z, rfl, hz, hb5⟩
  have hbE : Below w.heap.size w w5 := hbD.trans (hb5.mono hbD.size)
  have hgE := hgD.below hb5
  clear hb5 hxD hyD hgD hbD i0 i1 i2 i3 i4 i5 i6 j0 j1 j2 j3 j4 j5 j6 k0 k1 k2 k3 k4 k5 k6
  go_wp2_with fail
  refine (fracString_any _ _ P Q hz hP hQ hgE.1).mono ?_
  rintro e w6 ⟨rfl, hb6⟩
  go_wp2
  go_ret2
  exact ⟨rfl, hbE.trans (hb6.mono hbE.size)⟩

set_option maxHeartbeats 1000000 in
set_option maxRecDepth 100000 in
theorem calc_4 (w : World) (s t : ByteArray) (p r P : Int) (q u Q : Nat) (hg : Gl w) (hs : ParseOK s p q) (ht : ParseOK t r u) (hr0 : r ≠ 0)
    (hreck : ∀ W x y, FracV W x p q → FracV W y r u → Calls Tryz.prog 124 #[x, y] W fun e w' => ∃ z, e = .returned z ∧ FracV w' z P Q ∧ Below W.heap.size W w') (hP : P.natAbs < Cap) (hQ : Q < Cap) :
    Calls Tryz.prog 41 #[.int .i64 4, .string s, .string t] w fun e w' => e = .returned (.tuple #[.string ⟨(fracText P Q).toArray⟩, .int .i64 0]) ∧ Below w.heap.size w w' := by
  have HR := hide hreck
  clear hreck
  go_enter Tryz.func41, Tryz.ntmps41
  go_wp2_with fail
  refine (find_4 _).mono ?_
  rintro e w1 ⟨rfl, hb1⟩
  have hbox8 := Box3.new w1 (.int .i64 4) (.func (.func 123) #[] #[]) (.func (.func 124) #[] #[]) 95
  have hbA : Below w.heap.size w (w1.alloc (.cells #[.int .i64 4, .func (.func 123) #[] #[], .func (.func 124) #[] #[]] 95)) := hb1.alloc hb1.size _
  have hgA := hg.below hbA
  go_wp2_with fail
  refine (hs _ hgA).mono ?_
  rintro e w2 ⟨x, rfl, hx, hb2⟩
  obtain ⟨b, ao, l, cap, ao', l', cap', rfl, _⟩ := hx.parts
  have hbB0 : Below w.heap.size w w2 := hbA.trans (hb2.mono hbA.size)
  have hbB : Below w.heap.size w (w2.alloc (.cells #[.bool b, .slice ao l cap, .slice ao' l' cap'] 103)) := hbB0.alloc hbB0.size _
  have hbox8B := (hbox8.below hb2).alloc (.cells #[.bool b, .slice ao l cap, .slice ao' l' cap'] 103)
  have hbox10 := Box3.new w2 (.bool b) (.slice ao l cap) (.slice ao' l' cap') 103
  have hxB := hx.alloc (.cells #[.bool b, .slice ao l cap, .slice ao' l' cap'] 103)
  have hgB := hg.below hbB
  clear hb1 hb2 hbox8 hbA hgA hx hbB0
  go_wp2_with fail
  refine (ht _ hgB).mono ?_
  rintro e w3 ⟨y, rfl, hy, hb3⟩
  obtain ⟨c, bo, m, dap, bo', m', dap', rfl, _⟩ := hy.parts
  have hbC0 : Below w.heap.size w w3 := hbB.trans (hb3.mono hbB.size)
  have hbC : Below w.heap.size w (w3.alloc (.cells #[.bool c, .slice bo m dap, .slice bo' m' dap'] 103)) := hbC0.alloc hbC0.size _
  have hbox8C := (hbox8B.below hb3).alloc (.cells #[.bool c, .slice bo m dap, .slice bo' m' dap'] 103)
  have hbox10C := (hbox10.below hb3).alloc (.cells #[.bool c, .slice bo m dap, .slice bo' m' dap'] 103)
  have hbox11 := Box3.new w3 (.bool c) (.slice bo m dap) (.slice bo' m' dap') 103
  have hxC := (hxB.below hb3).alloc (.cells #[.bool c, .slice bo m dap, .slice bo' m' dap'] 103)
  have hyC := hy.alloc (.cells #[.bool c, .slice bo m dap, .slice bo' m' dap'] 103)
  have d8 := hbox8B.below hb3
  obtain ⟨i0, i1, i2, i3, i4, i5, i6⟩ := d8
  have d10 := hbox10.below hb3
  obtain ⟨j0, j1, j2, j3, j4, j5, j6⟩ := d10
  clear hb3 hbox8B hbox10 hxB hgB hbB hbC0 hy
  go_wp2_with fail
  refine (faultIfZero_no _ _ _ p r q u hxC hyC hr0).mono ?_
  rintro e w4 ⟨rfl, hb4⟩
  have hbD : Below w.heap.size w w4 := hbC.trans (hb4.mono hbC.size)
  have d8 := hbox8C.below hb4
  have d10 := hbox10C.below hb4
  have d11 := hbox11.below hb4
  have hxD := hxC.below hb4
  have hyD := hyC.below hb4
  have hgD := hg.below hbD
  clear hb4 hbox8C hbox10C hbox11 hxC hyC hbC i0 i1 i2 i3 i4 i5 i6 j0 j1 j2 j3 j4 j5 j6
  obtain ⟨i0, i1, i2, i3, i4, i5, i6⟩ := d8
  obtain ⟨j0, j1, j2, j3, j4, j5, j6⟩ := d10
  obtain ⟨k0, k1, k2, k3, k4, k5, k6⟩ := d11
  go_wp2_with fail
  refine (HR.out _ _ _ hxD hyD).mono ?_
  rintro e w5 ⟨z, rfl, hz, hb5⟩
  have hbE : Below w.heap.size w w5 := hbD.trans (hb5.mono hbD.size)
  have hgE := hgD.below hb5
  clear hb5 hxD hyD hgD hbD i0 i1 i2 i3 i4 i5 i6 j0 j1 j2 j3 j4 j5 j6 k0 k1 k2 k3 k4 k5 k6
  go_wp2_with fail
  refine (fracString_any _ _ P Q hz hP hQ hgE.1).mono ?_
  rintro e w6 ⟨rfl, hb6⟩
  go_wp2
  go_ret2
  exact ⟨rfl, hbE.trans (hb6.mono hbE.size)⟩

set_option maxHeartbeats 1000000 in
set_option maxRecDepth 100000 in
theorem calc_5 (w : World) (s t : ByteArray) (p r P : Int) (q u Q : Nat) (hg : Gl w) (hs : ParseOK s p q) (ht : ParseOK t r u)
    (hreck : ∀ W x y, FracV W x p q → FracV W y r u → Calls Tryz.prog 125 #[x, y] W fun e w' => ∃ z, e = .returned z ∧ FracV w' z P Q ∧ Below W.heap.size W w') (hP : P.natAbs < Cap) (hQ : Q < Cap) :
    Calls Tryz.prog 41 #[.int .i64 5, .string s, .string t] w fun e w' => e = .returned (.tuple #[.string ⟨(fracText P Q).toArray⟩, .int .i64 0]) ∧ Below w.heap.size w w' := by
  have HR := hide hreck
  clear hreck
  go_enter Tryz.func41, Tryz.ntmps41
  go_wp2_with fail
  refine (find_5 _).mono ?_
  rintro e w1 ⟨rfl, hb1⟩
  have hbox8 := Box3.new w1 (.int .i64 5) (.func (.func 119) #[] #[]) (.func (.func 125) #[] #[]) 95
  have hbA : Below w.heap.size w (w1.alloc (.cells #[.int .i64 5, .func (.func 119) #[] #[], .func (.func 125) #[] #[]] 95)) := hb1.alloc hb1.size _
  have hgA := hg.below hbA
  go_wp2_with fail
  refine (hs _ hgA).mono ?_
  rintro e w2 ⟨x, rfl, hx, hb2⟩
  obtain ⟨b, ao, l, cap, ao', l', cap', rfl, _⟩ := hx.parts
  have hbB0 : Below w.heap.size w w2 := hbA.trans (hb2.mono hbA.size)
  have hbB : Below w.heap.size w (w2.alloc (.cells #[.bool b, .slice ao l cap, .slice ao' l' cap'] 103)) := hbB0.alloc hbB0.size _
  have hbox8B := (hbox8.below hb2).alloc (.cells #[.bool b, .slice ao l cap, .slice ao' l' cap'] 103)
  have hbox10 := Box3.new w2 (.bool b) (.slice ao l cap) (.slice ao' l' cap') 103
  have hxB := hx.alloc (.cells #[.bool b, .slice ao l cap, .slice ao' l' cap'] 103)
  have hgB := hg.below hbB
  clear hb1 hb2 hbox8 hbA hgA hx hbB0
  go_wp2_with fail
  refine (ht _ hgB).mono ?_
  rintro e w3 ⟨y, rfl, hy, hb3⟩
  obtain ⟨c, bo, m, dap, bo', m', dap', rfl, _⟩ := hy.parts
  have hbC0 : Below w.heap.size w w3 := hbB.trans (hb3.mono hbB.size)
  have hbC : Below w.heap.size w (w3.alloc (.cells #[.bool c, .slice bo m dap, .slice bo' m' dap'] 103)) := hbC0.alloc hbC0.size _
  have hbox8C := (hbox8B.below hb3).alloc (.cells #[.bool c, .slice bo m dap, .slice bo' m' dap'] 103)
  have hbox10C := (hbox10.below hb3).alloc (.cells #[.bool c, .slice bo m dap, .slice bo' m' dap'] 103)
  have hbox11 := Box3.new w3 (.bool c) (.slice bo m dap) (.slice bo' m' dap') 103
  have hxC := (hxB.below hb3).alloc (.cells #[.bool c, .slice bo m dap, .slice bo' m' dap'] 103)
  have hyC := hy.alloc (.cells #[.bool c, .slice bo m dap, .slice bo' m' dap'] 103)
  have d8 := hbox8B.below hb3
  obtain ⟨i0, i1, i2, i3, i4, i5, i6⟩ := d8
  have d10 := hbox10.below hb3
  obtain ⟨j0, j1, j2, j3, j4, j5, j6⟩ := d10
  clear hb3 hbox8B hbox10 hxB hgB hbB hbC0 hy
  go_wp2_with fail
  refine (noFault_any _ _ _ p r q u hxC hyC).mono ?_
  rintro e w4 ⟨rfl, hb4⟩
  have hbD : Below w.heap.size w w4 := hbC.trans (hb4.mono hbC.size)
  have d8 := hbox8C.below hb4
  have d10 := hbox10C.below hb4
  have d11 := hbox11.below hb4
  have hxD := hxC.below hb4
  have hyD := hyC.below hb4
  have hgD := hg.below hbD
  clear hb4 hbox8C hbox10C hbox11 hxC hyC hbC i0 i1 i2 i3 i4 i5 i6 j0 j1 j2 j3 j4 j5 j6
  obtain ⟨i0, i1, i2, i3, i4, i5, i6⟩ := d8
  obtain ⟨j0, j1, j2, j3, j4, j5, j6⟩ := d10
  obtain ⟨k0, k1, k2, k3, k4, k5, k6⟩ := d11
  go_wp2_with fail
  refine (HR.out _ _ _ hxD hyD).mono ?_
  rintro e w5 ⟨z, rfl, hz, hb5⟩
  have hbE : Below w.heap.size w w5 := hbD.trans (hb5.mono hbD.size)
  have hgE := hgD.below hb5
  clear hb5 hxD hyD hgD hbD i0 i1 i2 i3 i4 i5 i6 j0 j1 j2 j3 j4 j5 j6 k0 k1 k2 k3 k4 k5 k6
  go_wp2_with fail
  refine (fracString_any _ _ P Q hz hP hQ hgE.1).mono ?_
  rintro e w6 ⟨rfl, hb6⟩
  go_wp2
  go_ret2
  exact ⟨rfl, hbE.trans (hb6.mono hbE.size)⟩

set_option maxHeartbeats 1000000 in
set_option maxRecDepth 100000 in
theorem calc_6 (w : World) (s t : ByteArray) (p r P : Int) (q u Q : Nat) (hg : Gl w) (hs : ParseOK s p q) (ht : ParseOK t r u)
    (hreck : ∀ W x y, FracV W x p q → FracV W y r u → Calls Tryz.prog 126 #[x, y] W fun e w' => ∃ z, e = .returned z ∧ FracV w' z P Q ∧ Below W.heap.size W w') (hP : P.natAbs < Cap) (hQ : Q < Cap) :
    Calls Tryz.prog 41 #[.int .i64 6, .string s, .string t] w fun e w' => e = .returned (.tuple #[.string ⟨(fracText P Q).toArray⟩, .int .i64 0]) ∧ Below w.heap.size w w' := by
  have HR := hide hreck
  clear hreck
  go_enter Tryz.func41, Tryz.ntmps41
  go_wp2_with fail
  refine (find_6 _).mono ?_
  rintro e w1 ⟨rfl, hb1⟩
  have hbox8 := Box3.new w1 (.int .i64 6) (.func (.func 119) #[] #[]) (.func (.func 126) #[] #[]) 95
  have hbA : Below w.heap.size w (w1.alloc (.cells #[.int .i64 6, .func (.func 119) #[] #[], .func (.func 126) #[] #[]] 95)) := hb1.alloc hb1.size _
  have hgA := hg.below hbA
  go_wp2_with fail
  refine (hs _ hgA).mono ?_
  rintro e w2 ⟨x, rfl, hx, hb2⟩
  obtain ⟨b, ao, l, cap, ao', l', cap', rfl, _⟩ := hx.parts
  have hbB0 : Below w.heap.size w w2 := hbA.trans (hb2.mono hbA.size)
  have hbB : Below w.heap.size w (w2.alloc (.cells #[.bool b, .slice ao l cap, .slice ao' l' cap'] 103)) := hbB0.alloc hbB0.size _
  have hbox8B := (hbox8.below hb2).alloc (.cells #[.bool b, .slice ao l cap, .slice ao' l' cap'] 103)
  have hbox10 := Box3.new w2 (.bool b) (.slice ao l cap) (.slice ao' l' cap') 103
  have hxB := hx.alloc (.cells #[.bool b, .slice ao l cap, .slice ao' l' cap'] 103)
  have hgB := hg.below hbB
  clear hb1 hb2 hbox8 hbA hgA hx hbB0
  go_wp2_with fail
  refine (ht _ hgB).mono ?_
  rintro e w3 ⟨y, rfl, hy, hb3⟩
  obtain ⟨c, bo, m, dap, bo', m', dap', rfl, _⟩ := hy.parts
  have hbC0 : Below w.heap.size w w3 := hbB.trans (hb3.mono hbB.size)
  have hbC : Below w.heap.size w (w3.alloc (.cells #[.bool c, .slice bo m dap, .slice bo' m' dap'] 103)) := hbC0.alloc hbC0.size _
  have hbox8C := (hbox8B.below hb3).alloc (.cells #[.bool c, .slice bo m dap, .slice bo' m' dap'] 103)
  have hbox10C := (hbox10.below hb3).alloc (.cells #[.bool c, .slice bo m dap, .slice bo' m' dap'] 103)
  have hbox11 := Box3.new w3 (.bool c) (.slice bo m dap) (.slice bo' m' dap') 103
  have hxC := (hxB.below hb3).alloc (.cells #[.bool c, .slice bo m dap, .slice bo' m' dap'] 103)
  have hyC := hy.alloc (.cells #[.bool c, .slice bo m dap, .slice bo' m' dap'] 103)
  have d8 := hbox8B.below hb3
  obtain ⟨i0, i1, i2, i3, i4, i5, i6⟩ := d8
  have d10 := hbox10.below hb3
  obtain ⟨j0, j1, j2, j3, j4, j5, j6⟩ := d10
  clear hb3 hbox8B hbox10 hxB hgB hbB hbC0 hy
  go_wp2_with fail
  refine (noFault_any _ _ _ p r q u hxC hyC).mono ?_
  rintro e w4 ⟨rfl, hb4⟩
  have hbD : Below w.heap.size w w4 := hbC.trans (hb4.mono hbC.size)
  have d8 := hbox8C.below hb4
  have d10 := hbox10C.below hb4
  have d11 := hbox11.below hb4
  have hxD := hxC.below hb4
  have hyD := hyC.below hb4
  have hgD := hg.below hbD
  clear hb4 hbox8C hbox10C hbox11 hxC hyC hbC i0 i1 i2 i3 i4 i5 i6 j0 j1 j2 j3 j4 j5 j6
  obtain ⟨i0, i1, i2, i3, i4, i5, i6⟩ := d8
  obtain ⟨j0, j1, j2, j3, j4, j5, j6⟩ := d10
  obtain ⟨k0, k1, k2, k3, k4, k5, k6⟩ := d11
  go_wp2_with fail
  refine (HR.out _ _ _ hxD hyD).mono ?_
  rintro e w5 ⟨z, rfl, hz, hb5⟩
  have hbE : Below w.heap.size w w5 := hbD.trans (hb5.mono hbD.size)
  have hgE := hgD.below hb5
  clear hb5 hxD hyD hgD hbD i0 i1 i2 i3 i4 i5 i6 j0 j1 j2 j3 j4 j5 j6 k0 k1 k2 k3 k4 k5 k6
  go_wp2_with fail
  refine (fracString_any _ _ P Q hz hP hQ hgE.1).mono ?_
  rintro e w6 ⟨rfl, hb6⟩
  go_wp2
  go_ret2
  exact ⟨rfl, hbE.trans (hb6.mono hbE.size)⟩
end Go.Proofs.YtnhfdcfnojnofaaGreatDoor

/-
  From a call to a row: what every row here needs.
-/
namespace Go.Proofs.YtnhfdcfnojnofaaGreatDoor
open Go.ChangeShapes Go.WideShapes Go.ChangeAt Go.RowKit

/-- The listed variables, and the world's shape, both kept for the contract. -/
theorem returnsIn_laid_shaped {H : Type} {enc : TypeId × Value → H} {a : Assume} {C : Checked} {os : Os} {f : FuncId} {fn : Func} {s : ChangeSpec} {conds : List PathCond} {apart fresh handsOn again : Bool} {X : World → Array Value → Prop}
    (hX : ∀ (w w' : World) (args : Array Value), w.heap = w'.heap → X w args → X w' args)
    (own : ownKnob C.prog.godebug = none) (started : os.Started) (noInit : C.prog.inits.idxOf? f = none) (hfn : C.prog.funcs[f]? = some fn)
    (witness : ∃ (w : World) (tape : Tape) (i : Input), w.os = os ∧ (w.forCall tape i).Shaped C.prog ∧ i.vars = [] ∧ Input.okWide C.prog (w.forCall tape i) .any w.heap.size f i ∧
      ((s.pre enc C.prog fn conds apart (w.forCall tape i).memory i.args ∧ X (w.forCall tape i).memory i.args) ∧ sizedMet enc C.prog fn (OpenSpec.ofChange s) apart (w.forCall tape i).memory i.args) ∧ a.holds C.prog (lone (Frame.enter C.prog f i.args .normal) [] (w.forCall tape i)))
    (contract : ∀ (W : World) (base : Nat) (args : Array Value) (ds gs : List (DataW H)) (before : List MemPlace),
      (∀ (j : Nat) t v, fn.params[j]? = some t → args[j]? = some v → Value.okWide C.prog W .any base t v) →
      DataW.Whole enc C.prog fn.params.toList s.vars apart W args.toList ds gs before →
      conds.all (PathCond.test C.prog ⟨fn.params.toList, ds, s.plain.varTypes C.prog, gs⟩) = true →
      (DataW.weightsEach C.prog (fn.params.toList ++ s.plain.varTypes C.prog) (ds ++ gs)).all (· ≤ reachBytes) = true → X W args →
      W.ShapedOpen C.prog →
      a.holds C.prog (lone (Frame.enter C.prog f args .normal) [] W) →
      Calls C.prog f args W fun e W' => ∃ v, e = .returned v ∧ s.post enc C.prog fn apart fresh handsOn again W args v W') :
    ReturnsInHanded a C os f .any (fun w args => (s.pre enc C.prog fn conds apart w args ∧ X w args) ∧ sizedMet enc C.prog fn (OpenSpec.ofChange s) apart w args) (s.post enc C.prog fn apart fresh handsOn again) := by
  refine returnsInHanded_of_calls own started noInit witness ?_
  intro w tape i _ hsh _ hok hpre hholds
  obtain ⟨_, _, _, fn', hfn', _, _, _, _, hval⟩ := hok
  have e : fn' = fn := Option.some.inj (hfn'.symm.trans hfn)
  subst e
  obtain ⟨⟨⟨ds, gs, before, hw, hc⟩, hx⟩, hz⟩ := hpre
  have hw' := DataW.Whole.of_heap (w' := w.forCall tape i) (by rfl) hw
  refine (contract (w.forCall tape i) w.heap.size i.args ds gs before hval hw' hc (hz.weights hw) (hX _ _ _ (by rfl) hx) hsh hholds).mono fun e W' ⟨v, he, hp⟩ => ?_
  subst he
  exact ChangeSpec.post_blind hp

/-- What is left where nothing old has turned. -/
theorem post_below {H : Type} {enc : TypeId × Value → H} {P : Program} {f : Func} {s : ChangeSpec} {apart fresh handsOn : Bool} {W W' : World} {args : Array Value} {v : Value} {ds gs : List (DataW H)} {before pa pv : List MemPlace}
    (hW : DataW.Whole enc P f.params.toList s.vars apart W args.toList ds gs before)
    (hres : ∀ (b : Nat) (sp : Nat → Bool) (hd : Bool), DataW.TrodAll enc P W' b sp hd f.resultTypes.toList (v.resultList f.resultTypes.size) (s.fn H (ds ++ gs)).results [])
    (hargs : ∀ sp : Nat → Bool, (∀ p ∈ before, sp p.block = true) → DataW.TrodAll enc P W' 0 sp true f.params.toList args.toList (s.fn H (ds ++ gs)).args pa)
    (hvars : ∀ sp : Nat → Bool, (∀ p ∈ before, sp p.block = true) → DataW.TrodVars enc P W' sp s.vars (s.fn H (ds ++ gs)).vars pv)
    (hps : before = pa ++ pv) (hb : Below W.heap.size W W') :
    s.post enc P f apart fresh handsOn false W args v W' := by
  have hold : ∀ p ∈ before, (fun b => decide (b < W.heap.size)) p.block = true := fun p hp => by simpa using hW.lt p hp
  refine ⟨ds, gs, before, [], pa, pv, hW, hres _ _ _, hargs _ hold, hvars _ hold, World.keptBut_mono (fun p hp => ⟨hp, ?_⟩) (hb.frame _), fun h => by cases h⟩
  rw [hps, List.mem_append] at hp
  exact Or.inr hp

theorem own : ownKnob Tryz.prog.godebug = none := by kernel_rfl

set_option maxRecDepth 100000 in
theorem gl_of_laid {W : World} (h : laidMetH Tryz.prog Rows.fieldRow.laid W) (hs : W.ShapedOpen Tryz.prog) : Gl W := by
  rw [MakeChecks.laidMetH_plain _ _ _ (by kernel_rfl)] at h
  have h3 := (h.tail).tail
  have ht : Tab W := Lib.tabIs_of_head (k := .u64) (zs := Lib.pow10Tab) (show Tryz.prog.globalNamed "internal/strconv.uint64pow10" = some 0 by kernel_rfl) (t := 340) (by kernel_rfl) Tryz.underlying340 Tryz.underlying233 (by kernel_rfl) (by kernel_rfl) h3
  obtain ⟨m, hm⟩ := Go.Proofs.cell_of_shapedOpen_int (g := 1) (zero := #[.int .i64 0]) (t := 3) hs (of_decide_eq_true (by kernel_rfl)) (by kernel_rfl) rfl (by kernel_rfl) (by kernel_rfl) Tryz.underlying3
  exact ⟨ht, m, hm, by
    rcases Nat.lt_or_ge 1 W.heap.size with h1 | h1
    · exact h1
    · rw [World.cell?] at hm; simp [Array.getElem?_eq_none h1] at hm⟩

theorem wf_bd {a : Int} (h : (Lit.int .i64 a).wf = true) : -9223372036854775808 ≤ a ∧ a ≤ 9223372036854775807 := by
  simpa [Lit.wf, IntKind.min, IntKind.max, IntKind.signed, IntKind.bits] using h

end Go.Proofs.YtnhfdcfnojnofaaGreatDoor

/-
  From a call to a row: the closed facts, one at a time (all at once they want more memory than there is).
-/
namespace Go.Proofs.YtnhfdcfnojnofaaGreatDoor
open Go.ChangeShapes Go.WideShapes Go.ChangeAt Go.RowKit

def jf0 (P : Program) (f : FuncId) (fn : Func) (s : ChangeSpec) (c : OpenClaim) : Bool := c.wf (OpenSpec.ofChange s)
def jf1 (P : Program) (f : FuncId) (fn : Func) (s : ChangeSpec) (c : OpenClaim) : Bool := laidOutB P
def jf2 (P : Program) (f : FuncId) (fn : Func) (s : ChangeSpec) (c : OpenClaim) : Bool := mapsRowed P
def jf3 (P : Program) (f : FuncId) (fn : Func) (s : ChangeSpec) (c : OpenClaim) : Bool := fn.params.all (P.readableRec ·)
def jf4 (P : Program) (f : FuncId) (fn : Func) (s : ChangeSpec) (c : OpenClaim) : Bool := namedTie P c.named s.vars
def jf5 (P : Program) (f : FuncId) (fn : Func) (s : ChangeSpec) (c : OpenClaim) : Bool := (c.stops == [])
def jf6 (P : Program) (f : FuncId) (fn : Func) (s : ChangeSpec) (c : OpenClaim) : Bool := (P.stops == [])
def jf7 (P : Program) (f : FuncId) (fn : Func) (s : ChangeSpec) (c : OpenClaim) : Bool := (c.knobs == [])
def jf8 (P : Program) (f : FuncId) (fn : Func) (s : ChangeSpec) (c : OpenClaim) : Bool := (P.stopKnobs == [])
def jf9 (P : Program) (f : FuncId) (fn : Func) (s : ChangeSpec) (c : OpenClaim) : Bool := (c.inPlace == P.inPlace f)
def jf10 (P : Program) (f : FuncId) (fn : Func) (s : ChangeSpec) (c : OpenClaim) : Bool := (c.unfollowed == P.unfollowed f)
def jf11 (P : Program) (f : FuncId) (fn : Func) (s : ChangeSpec) (c : OpenClaim) : Bool := (c.recurses == P.recurses f)
def jf12 (P : Program) (f : FuncId) (fn : Func) (s : ChangeSpec) (c : OpenClaim) : Bool := (c.named == P.varsNamed f)
def jf13 (P : Program) (f : FuncId) (fn : Func) (s : ChangeSpec) (c : OpenClaim) : Bool := (c.maps == (fn.params.toList ++ s.plain.varTypes P).any (P.mapsRec ·))
def jf14 (P : Program) (f : FuncId) (fn : Func) (s : ChangeSpec) (c : OpenClaim) : Bool := (c.ifaces == (fn.params.toList ++ s.plain.varTypes P).any (P.ifacesRec ·))
def jf15 (P : Program) (f : FuncId) (fn : Func) (s : ChangeSpec) (c : OpenClaim) : Bool := (c.mapsOut == P.mapsAmong fn.resultTypes.toList)
def jf16 (P : Program) (f : FuncId) (fn : Func) (s : ChangeSpec) (c : OpenClaim) : Bool := (c.loops == (fn.params.toList ++ s.plain.varTypes P).any (P.loopsFrom ·))
def jf17 (P : Program) (f : FuncId) (fn : Func) (s : ChangeSpec) (c : OpenClaim) : Bool := (c.wideKeys == (fn.params.toList ++ s.plain.varTypes P ++ fn.resultTypes.toList).any (P.wideKeysFrom ·))
def jf18 (P : Program) (f : FuncId) (fn : Func) (s : ChangeSpec) (c : OpenClaim) : Bool := s.vars.all (P.varReadable ·)
def jf19 (P : Program) (f : FuncId) (fn : Func) (s : ChangeSpec) (c : OpenClaim) : Bool := fn.resultTypes.all (fun t => P.readableRec t && decide (t < P.types.size))
def jf20 (P : Program) (f : FuncId) (fn : Func) (s : ChangeSpec) (c : OpenClaim) : Bool := (c.ifacesOut == fn.resultTypes.toList.any (P.ifacesRec ·))
def jf21 (P : Program) (f : FuncId) (fn : Func) (s : ChangeSpec) (c : OpenClaim) : Bool := (c.loopsOut == fn.resultTypes.toList.any (P.loopsFrom ·))
def jf22 (P : Program) (f : FuncId) (fn : Func) (s : ChangeSpec) (c : OpenClaim) : Bool := (c.plainKeys == P.plainKeys)
def jf23 (P : Program) (f : FuncId) (fn : Func) (s : ChangeSpec) (c : OpenClaim) : Bool := c.shortTexts.isNone
def jf24 (P : Program) (f : FuncId) (fn : Func) (s : ChangeSpec) (c : OpenClaim) : Bool := P.stopsHeard
def jf25 (P : Program) (f : FuncId) (fn : Func) (s : ChangeSpec) (c : OpenClaim) : Bool := P.mayEnter
def jf26 (P : Program) (f : FuncId) (fn : Func) (s : ChangeSpec) (c : OpenClaim) : Bool := (c.lifted == P.liftsFinal)
def jf27 (P : Program) (f : FuncId) (fn : Func) (s : ChangeSpec) (c : OpenClaim) : Bool := (P.make == some c.make)
def jf28 (P : Program) (f : FuncId) (fn : Func) (s : ChangeSpec) (c : OpenClaim) : Bool := (c.kinds == (if c.domain.isEmpty then [] else fn.params.toList.map fun t => match P.underlying t with | some (.int k) => some k | _ => none))
def jf29 (P : Program) (f : FuncId) (fn : Func) (s : ChangeSpec) (c : OpenClaim) : Bool := (c.pinned == c.pinnedBy)
def jf30 (P : Program) (f : FuncId) (fn : Func) (s : ChangeSpec) (c : OpenClaim) : Bool := (c.veiled == (fn.params.toList ++ s.plain.varTypes P ++ fn.resultTypes.toList).any (P.veiledRec ·))
def jf31 (P : Program) (f : FuncId) (fn : Func) (s : ChangeSpec) (c : OpenClaim) : Bool := c.veiledFits P fn.params.toList (fn.params.toList ++ s.plain.varTypes P ++ fn.resultTypes.toList)

theorem joined_of {P : Program} {f : FuncId} {fn : Func} {s : ChangeSpec} {c : OpenClaim} (h0 : jf0 P f fn s c = true) (h1 : jf1 P f fn s c = true) (h2 : jf2 P f fn s c = true) (h3 : jf3 P f fn s c = true) (h4 : jf4 P f fn s c = true) (h5 : jf5 P f fn s c = true) (h6 : jf6 P f fn s c = true) (h7 : jf7 P f fn s c = true) (h8 : jf8 P f fn s c = true) (h9 : jf9 P f fn s c = true) (h10 : jf10 P f fn s c = true) (h11 : jf11 P f fn s c = true) (h12 : jf12 P f fn s c = true) (h13 : jf13 P f fn s c = true) (h14 : jf14 P f fn s c = true) (h15 : jf15 P f fn s c = true) (h16 : jf16 P f fn s c = true) (h17 : jf17 P f fn s c = true) (h18 : jf18 P f fn s c = true) (h19 : jf19 P f fn s c = true) (h20 : jf20 P f fn s c = true) (h21 : jf21 P f fn s c = true) (h22 : jf22 P f fn s c = true) (h23 : jf23 P f fn s c = true) (h24 : jf24 P f fn s c = true) (h25 : jf25 P f fn s c = true) (h26 : jf26 P f fn s c = true) (h27 : jf27 P f fn s c = true) (h28 : jf28 P f fn s c = true) (h29 : jf29 P f fn s c = true) (h30 : jf30 P f fn s c = true) (h31 : jf31 P f fn s c = true) : joinedFacts P f fn s c = true := by
  unfold joinedFacts
  unfold jf0 at h0
  unfold jf1 at h1
  unfold jf2 at h2
  unfold jf3 at h3
  unfold jf4 at h4
  unfold jf5 at h5
  unfold jf6 at h6
  unfold jf7 at h7
  unfold jf8 at h8
  unfold jf9 at h9
  unfold jf10 at h10
  unfold jf11 at h11
  unfold jf12 at h12
  unfold jf13 at h13
  unfold jf14 at h14
  unfold jf15 at h15
  unfold jf16 at h16
  unfold jf17 at h17
  unfold jf18 at h18
  unfold jf19 at h19
  unfold jf20 at h20
  unfold jf21 at h21
  unfold jf22 at h22
  unfold jf23 at h23
  unfold jf24 at h24
  unfold jf25 at h25
  unfold jf26 at h26
  unfold jf27 at h27
  unfold jf28 at h28
  unfold jf29 at h29
  unfold jf30 at h30
  unfold jf31 at h31
  simp only [h0, h1, h2, h3, h4, h5, h6, h7, h8, h9, h10, h11, h12, h13, h14, h15, h16, h17, h18, h19, h20, h21, h22, h23, h24, h25, h26, h27, h29, h30, h31, Bool.and_true, Bool.and_self, Bool.true_and]
  try exact h28

set_option maxRecDepth 100000 in
theorem jq1 : (laidOutB Tryz.prog) = true := by kernel_rfl
theorem jp1 (f : FuncId) (fn : Func) (s : ChangeSpec) (c : OpenClaim) : jf1 Tryz.prog f fn s c = true := jq1
set_option maxRecDepth 100000 in
theorem jq2 : (mapsRowed Tryz.prog) = true := by kernel_rfl
theorem jp2 (f : FuncId) (fn : Func) (s : ChangeSpec) (c : OpenClaim) : jf2 Tryz.prog f fn s c = true := jq2
set_option maxRecDepth 100000 in
theorem jq6 : ((Tryz.prog.stops == [])) = true := by kernel_rfl
theorem jp6 (f : FuncId) (fn : Func) (s : ChangeSpec) (c : OpenClaim) : jf6 Tryz.prog f fn s c = true := jq6
set_option maxRecDepth 100000 in
theorem jq8 : ((Tryz.prog.stopKnobs == [])) = true := by kernel_rfl
theorem jp8 (f : FuncId) (fn : Func) (s : ChangeSpec) (c : OpenClaim) : jf8 Tryz.prog f fn s c = true := jq8
set_option maxRecDepth 100000 in
theorem jq24 : (Tryz.prog.stopsHeard) = true := by kernel_rfl
theorem jp24 (f : FuncId) (fn : Func) (s : ChangeSpec) (c : OpenClaim) : jf24 Tryz.prog f fn s c = true := jq24
set_option maxRecDepth 100000 in
theorem jq25 : (Tryz.prog.mayEnter) = true := by kernel_rfl
theorem jp25 (f : FuncId) (fn : Func) (s : ChangeSpec) (c : OpenClaim) : jf25 Tryz.prog f fn s c = true := jq25
set_option maxRecDepth 100000 in
theorem jplooks : false = Tryz.prog.looks [] := by kernel_rfl
end Go.Proofs.YtnhfdcfnojnofaaGreatDoor

/-
  What package planes does: an operation that is none.
-/
namespace Go.Proofs.YtnhfdcfnojnofaaGreatDoor
open Go.RowKit

set_option maxHeartbeats 2000000 in
set_option maxRecDepth 100000 in
theorem find_none (op : Int) (h : op < 1 ∨ 6 < op) (w : World) :
    Calls Tryz.prog 55 #[.int .i64 op] w fun e w' => e = .returned (.tuple #[.agg #[.int .i64 0, .nilFunc, .nilFunc], .bool false]) ∧ Below w.heap.size w w' := by
  have n1 : ((1 : Int) == op) = false := beq_eq_false_iff_ne.2 (by omega)
  have n2 : ((2 : Int) == op) = false := beq_eq_false_iff_ne.2 (by omega)
  have n3 : ((3 : Int) == op) = false := beq_eq_false_iff_ne.2 (by omega)
  have n4 : ((4 : Int) == op) = false := beq_eq_false_iff_ne.2 (by omega)
  have n5 : ((5 : Int) == op) = false := beq_eq_false_iff_ne.2 (by omega)
  have n6 : ((6 : Int) == op) = false := beq_eq_false_iff_ne.2 (by omega)
  have m1 : (1 : Int) ≠ op := by omega
  have m2 : (2 : Int) ≠ op := by omega
  have m3 : (3 : Int) ≠ op := by omega
  have m4 : (4 : Int) ≠ op := by omega
  have m5 : (5 : Int) ≠ op := by omega
  have m6 : (6 : Int) ≠ op := by omega
  clear h
  go_enter Tryz.func55, Tryz.ntmps55
  go_wp2
  refine wp_loop_rounds 7 ?_
  rw [rounds_succ]
  go_wp2
  rw [rounds_succ]
  go_wp2
  rw [rounds_succ]
  go_wp2
  rw [rounds_succ]
  go_wp2
  rw [rounds_succ]
  go_wp2
  rw [rounds_succ]
  go_wp2
  rw [rounds_succ]
  go_wp2
  exact bodyPost_ret (v := .tuple #[.agg #[.int .i64 0, .nilFunc, .nilFunc], .bool false]) (by simp [results, Tryz.results55, go_sem]) rfl ⟨rfl, (((((((((Below.refl w.heap.size w).alloc (Nat.le_refl _) _).alloc (by simp) _).alloc (by simp; omega) _).alloc (by simp; omega) _).alloc (by simp; omega) _).alloc (by simp; omega) _).alloc (by simp; omega) _).alloc (by simp; omega) _)⟩

theorem find_some (op : Int) (h1 : 1 ≤ op) (h6 : op ≤ 6) (w : World) :
    Calls Tryz.prog 55 #[.int .i64 op] w fun e w' => ∃ f g, e = .returned (.tuple #[.agg #[.int .i64 op, .func (.func f) #[] #[], .func (.func g) #[] #[]], .bool true]) ∧ Below w.heap.size w w' := by
  have hops : op = 1 ∨ op = 2 ∨ op = 3 ∨ op = 4 ∨ op = 5 ∨ op = 6 := by omega
  rcases hops with rfl | rfl | rfl | rfl | rfl | rfl
  · exact (find_1 w).mono fun e w' h => ⟨_, _, h⟩
  · exact (find_2 w).mono fun e w' h => ⟨_, _, h⟩
  · exact (find_3 w).mono fun e w' h => ⟨_, _, h⟩
  · exact (find_4 w).mono fun e w' h => ⟨_, _, h⟩
  · exact (find_5 w).mono fun e w' h => ⟨_, _, h⟩
  · exact (find_6 w).mono fun e w' h => ⟨_, _, h⟩
end Go.Proofs.YtnhfdcfnojnofaaGreatDoor

/-
  What the keeper's leaves do: pick, num, over.
-/
namespace Go.Proofs.YtnhfdcfnojnofaaGreatDoor
open Go.RowKit

/-- What pick answers. -/
def pickZ (c n : Int) : Int := (if c < 0 then -(c + 1) else c) % n

theorem pickZ_bd (c : Int) {n : Int} (hn : 0 < n) : 0 ≤ pickZ c n ∧ pickZ c n < n := by
  unfold pickZ
  exact ⟨Int.emod_nonneg _ (by omega), Int.emod_lt_of_pos _ hn⟩

theorem tmod_eq {a b : Int} (ha : 0 ≤ a) : Int.tmod a b = a % b := Int.tmod_eq_emod_of_nonneg ha

set_option maxHeartbeats 400000 in
theorem pick_any (c n : Int) (h0 : -9223372036854775808 ≤ c) (h1 : c ≤ 9223372036854775807) (hn : 0 < n) (hn1 : n ≤ 9223372036854775807) (w : World) :
    Calls Tryz.prog 16 #[.int .i64 c, .int .i64 n] w fun e w' => e = .returned (.int .i64 (pickZ c n)) ∧ w' = w := by
  have hb := pickZ_bd c hn
  by_cases hc : c < 0
  · have e : pickZ c n = Int.tmod (-(c + 1)) n := by rw [pickZ, if_pos hc, tmod_eq (by omega)]
    have HE := hide e
    rw [e] at hb
    clear e
    go_enter Tryz.func16, Tryz.ntmps16
    go_wp2
    go_ret
    exact ⟨ret_int (by rw [HE.out, Int.neg_tmod]), rfl⟩
  · have e : pickZ c n = Int.tmod c n := by rw [pickZ, if_neg hc, tmod_eq (by omega)]
    have HE := hide e
    rw [e] at hb
    clear e
    go_enter Tryz.func16, Tryz.ntmps16
    go_wp2
    go_ret
    exact ⟨ret_int (by rw [HE.out, tmod_eq hc]), rfl⟩

set_option maxHeartbeats 400000 in
theorem num_any (z : Int) (h0 : -9223372036854775808 ≤ z) (h1 : z ≤ 9223372036854775807) (w : World) (htab : Lib.TabIs Tryz.prog w "internal/strconv.uint64pow10" .u64 Lib.pow10Tab) :
    Calls Tryz.prog 20 #[.int .i64 z] w fun e w' => e = .returned (.string ⟨(Lib.itoa z).toArray⟩) ∧ Below w.heap.size w w' := by
  go_enter Tryz.func20, Tryz.ntmps20
  go_wp2_with fail
  refine (Tryz.strconv_Itoa z h0 h1 w htab).mono ?_
  rintro e w1 ⟨rfl, k, os, rfl⟩
  go_wp2
  go_ret
  exact ⟨rfl, Go.Lib.below_grow _ w (Nat.le_refl _) k os⟩

theorem ba_app (a b : List UInt8) : (ByteArray.mk a.toArray) ++ (ByteArray.mk b.toArray) = ByteArray.mk (a ++ b).toArray := by
  apply ByteArray.ext
  simp

theorem tabIs_below {w w' : World} (h : Lib.TabIs Tryz.prog w "internal/strconv.uint64pow10" .u64 Lib.pow10Tab) (hb : Below w.heap.size w w') : Lib.TabIs Tryz.prog w' "internal/strconv.uint64pow10" .u64 Lib.pow10Tab := by
  unfold Lib.TabIs World.var? at *
  cases hg : Tryz.prog.globalNamed "internal/strconv.uint64pow10" with
  | none => rw [hg] at h; simp at h
  | some g =>
    rw [hg] at h
    simp only [Option.bind_some] at h ⊢
    have hlt : g < w.heap.size := by
      rcases Nat.lt_or_ge g w.heap.size with h1 | h1
      · exact h1
      · rw [Array.getElem?_eq_none h1] at h; simp at h
    rw [hb.block g hlt]
    exact h

/-- A fraction's text, not in lowest terms. -/
def overText (a b : Int) : List UInt8 := Lib.itoa a ++ ([47] ++ Lib.itoa b)

theorem nd_le {n : Nat} (hn : n < 18446744073709551616) : (Lib.decDigits n).length ≤ 20 := by
  by_cases h0 : n = 0
  · subst h0; rw [Lib.decDigits_one (by omega)]; simp
  · rw [Lib.decDigits_length]
    have h1 := Lib.numDigits_eq n (by omega) hn
    split at h1 <;> omega

theorem it_le {z : Int} (hz : z.natAbs < 18446744073709551616) : (Lib.itoa z).length ≤ 21 := by
  unfold Lib.itoa
  split
  · have := nd_le hz; simp; omega
  · have := nd_le (n := z.toNat) (by omega); omega

set_option maxHeartbeats 400000 in
set_option maxRecDepth 100000 in
theorem keepOver_any (a b : Int) (h0 : -9223372036854775808 ≤ a) (h1 : a ≤ 9223372036854775807) (h2 : -9223372036854775808 ≤ b) (h3 : b ≤ 9223372036854775807) (w : World) (htab : Lib.TabIs Tryz.prog w "internal/strconv.uint64pow10" .u64 Lib.pow10Tab) :
    Calls Tryz.prog 17 #[.int .i64 a, .int .i64 b] w fun e w' => e = .returned (.string ⟨(overText a b).toArray⟩) ∧ Below w.heap.size w w' := by
  have hl1 := it_le (z := a) (by omega)
  have hl2 := it_le (z := b) (by omega)
  have HT : Hid (ByteArray.mk (Lib.itoa a).toArray ++ ByteArray.mk #[47] ++ ByteArray.mk (Lib.itoa b).toArray = ByteArray.mk (overText a b).toArray) := by
    rw [Hid, overText]
    have e1 : ByteArray.mk (Lib.itoa a).toArray ++ ByteArray.mk #[47] = ByteArray.mk (Lib.itoa a ++ [47]).toArray := ba_app _ [47]
    rw [e1, ba_app, List.append_assoc]
  go_enter Tryz.func17, Tryz.ntmps17
  go_wp2_with fail
  refine (num_any a h0 h1 _ htab).mono ?_
  rintro e wB ⟨rfl, hbB⟩
  go_wp2_with fail
  refine (num_any b h2 h3 _ (tabIs_below htab hbB)).mono ?_
  rintro e wC ⟨rfl, hbC⟩
  go_wp2
  go_ret
  exact ⟨by rw [← HT.out]; rfl, hbB.trans (hbC.mono hbB.size)⟩
end Go.Proofs.YtnhfdcfnojnofaaGreatDoor

/-
  Numbers written are read as themselves: facts of texts.
-/
namespace Go.Proofs.YtnhfdcfnojnofaaGreatDoor
open Go.RowKit

theorem dig_toNat {k : Nat} (h : k < 10) : (UInt8.ofNat (48 + k)).toNat = 48 + k := by
  rw [UInt8.toNat_ofNat']; omega

theorem allDig_append (a b : List UInt8) : allDig (a ++ b) = (allDig a && allDig b) := by simp [allDig]

theorem dec_all (n : Nat) : allDig (Lib.decDigits n) = true := by
  induction n using Nat.strongRecOn with
  | _ n ih =>
    have h1 : ∀ k, k < 10 → allDig [UInt8.ofNat (48 + k)] = true := by
      intro k hk
      simp only [allDig, List.all_cons, List.all_nil, Bool.and_true, isDig, dig_toNat hk]
      simp; omega
    by_cases h : n < 10
    · rw [Lib.decDigits, dif_pos h]; exact h1 n h
    · rw [Lib.decDigits, dif_neg h, allDig_append, ih (n / 10) (by omega), h1 (n % 10) (Nat.mod_lt _ (by omega))]; rfl

theorem dec_val (n : Nat) : decVal (Lib.decDigits n) = n := by
  induction n using Nat.strongRecOn with
  | _ n ih =>
    by_cases h : n < 10
    · rw [Lib.decDigits, dif_pos h]
      show decVal ([] ++ [_]) = n
      rw [decVal_snoc, dig_toNat h]; simp [decVal]
    · rw [Lib.decDigits, dif_neg h, decVal_snoc, ih (n / 10) (by omega), dig_toNat (Nat.mod_lt _ (by omega))]; omega

theorem index_at (a b : List UInt8) (h : ∀ c ∈ a, c ≠ 47) : Lib.index (a ++ 47 :: b) [47] = a.length := by
  induction a with
  | nil => simp [Lib.index]
  | cons c a ih =>
    have ih := ih (fun d hd => h d (List.mem_cons_of_mem _ hd))
    have hc := h c List.mem_cons_self
    simp only [List.cons_append, Lib.index, ih]
    have hp : ([47] : List UInt8).isPrefixOf (c :: (a ++ 47 :: b)) = false := by
      simp [List.isPrefixOf, Ne.symm hc]
    rw [hp]
    have hn : ((a.length : Int) == -1) = false := by
      rw [beq_eq_false_iff_ne]; omega
    rw [hn]; simp

theorem cut_at (a b : List UInt8) (h : ∀ c ∈ a, c ≠ 47) : Lib.cut (a ++ 47 :: b) [47] = (a, b, true) := by
  unfold Lib.cut
  rw [index_at a b h, if_pos (by omega)]
  simp

theorem dig_ne {l : List UInt8} (h : allDig l = true) : ∀ c ∈ l, c ≠ 47 ∧ c ≠ 45 := by
  intro c hc
  have := isDig_bd (List.all_eq_true.1 h c hc)
  constructor
  · rintro rfl; revert this; decide
  · rintro rfl; revert this; decide

theorem pre_dec (n : Nat) : Lib.hasPrefix (Lib.decDigits n) [45] = false := by
  have h := dig_ne (dec_all n)
  cases hd : Lib.decDigits n with
  | nil => rfl
  | cons c r =>
    have hc := (h c (by rw [hd]; exact List.mem_cons_self)).2
    simp [Lib.hasPrefix, List.isPrefixOf, Ne.symm hc]

theorem trim_itoa (z : Int) : Lib.trimPrefix (Lib.itoa z) [45] = Lib.decDigits z.natAbs ∧ Lib.hasPrefix (Lib.itoa z) [45] = decide (z < 0) := by
  unfold Lib.itoa
  by_cases h : z < 0
  · rw [if_pos h]
    constructor
    · simp [Lib.trimPrefix, Lib.hasPrefix]
    · simp [Lib.hasPrefix, h]
  · rw [if_neg h]
    have e : z.toNat = z.natAbs := by omega
    rw [e]
    constructor
    · rw [Lib.trimPrefix, pre_dec]; rfl
    · rw [pre_dec]; simp [h]

theorem itoa_ne (z : Int) : ∀ c ∈ Lib.itoa z, c ≠ 47 := by
  unfold Lib.itoa
  split
  · intro c hc
    rcases List.mem_cons.1 hc with rfl | h
    · decide
    · exact (dig_ne (dec_all _) c h).1
  · intro c hc
    exact (dig_ne (dec_all _) c hc).1

theorem sg_self (z : Int) : sg (decide (z < 0)) z.natAbs = z := by
  unfold sg
  by_cases h : z < 0
  · simp [h]; omega
  · simp [h]; omega

theorem itoa_nat (b : Nat) : Lib.itoa (b : Int) = Lib.decDigits b := by
  rw [Lib.itoa, if_neg (by omega)]; simp

theorem fracParse_text (a : Int) (b : Nat) (hb : b ≠ 0) (ha1 : a.natAbs < 1000000000) (hb1 : b < 1000000000) (w : World) (mx : Int) (hmx : w.cell? ⟨1, 0, none⟩ = some (.int .i64 mx)) (h1w : 1 < w.heap.size) :
    Calls Tryz.prog 56 #[.string ⟨(overText a (b : Int)).toArray⟩, .int .i64 40] w fun e w' => ∃ x, e = .returned (.tuple #[x, .bool true]) ∧ FracV w' x (a / (Nat.gcd a.natAbs b : Int)) (b / Nat.gcd a.natAbs b) ∧ Below w.heap.size w w' := by
  have hl1 := decDigits_len (n := a.natAbs) (by omega)
  have hl2 := decDigits_len (n := b) (by omega)
  have hl3 := itoa_len ha1
  have ht := trim_itoa a
  have hd : (ByteArray.mk (overText a (b : Int)).toArray).data.toList = overText a (b : Int) := by simp
  refine (fracParse_frac 2 (by omega) (over_any 2 (by omega) longOK_two) ⟨(overText a (b : Int)).toArray⟩ 40 w mx hmx h1w (by omega) (by rw [size_mk, overText, itoa_nat]; simp; omega) (Lib.itoa a) (Lib.decDigits b) (by rw [hd, overText, itoa_nat]; exact cut_at _ _ (itoa_ne a))
    (by rw [ht.1]; omega) (by rw [ht.1]; omega) (by rw [ht.1]; exact dec_all _) (by omega) (by omega) (dec_all _) (by rw [dec_val]; exact hb) (by rw [ht.1, dec_val]; omega) (by rw [dec_val]; omega)).mono ?_
  rintro e w' ⟨x, z, hz, rfl, hx, hbw⟩
  rw [ht.1, ht.2, dec_val, sg_self] at hz
  subst hz
  rw [dec_val] at hx
  exact ⟨x, rfl, hx, hbw⟩
end Go.Proofs.YtnhfdcfnojnofaaGreatDoor

/-
  Plain numbers to the base 2^32: the division of school by guessed digits; no program here.
-/
namespace Go.Proofs.YtnhfdcfnojnofaaGreatDoor

/-- What stands ahead of the loop: the guess from the two highest digits is not too small. -/
theorem guess_start {u v lead high P Q : Nat} (hP : 0 < P) (hv : lead * P ≤ v) (hv0 : 0 < v) (hu : u < (high + 1) * P) (hl : 0 < lead) (hQ : Q = u / v) : Q ≤ high / lead := by
  subst hQ
  rw [Nat.le_div_iff_mul_le hl]
  have h1 : u / v * v ≤ u := Nat.div_mul_le_self u v
  have h2 : u / v * (lead * P) ≤ u / v * v := Nat.mul_le_mul_left _ hv
  have h3 : (u / v * lead) * P < (high + 1) * P := by
    rw [Nat.mul_assoc]; omega
  exact Nat.lt_succ_iff.1 (Nat.lt_of_mul_lt_mul_right h3)

/-- A guess that is too great for the three highest digits is too great. -/
theorem guess_over {u v P V2 U3 g Q : Nat} (hv : V2 * P ≤ v) (hv0 : 0 < v) (hu : u < (U3 + 1) * P) (hg : U3 < g * V2) (hQ : Q = u / v) : Q < g := by
  subst hQ
  rw [Nat.div_lt_iff_lt_mul hv0]
  have h1 : (U3 + 1) * P ≤ g * V2 * P := Nat.mul_le_mul_right _ hg
  have h2 : g * (V2 * P) ≤ g * v := Nat.mul_le_mul_left _ hv
  rw [← Nat.mul_assoc] at h2
  omega

/-- A guess that is not too great for the three highest digits is at most one too great. -/
theorem guess_under {u v P V2 U3 g Q : Nat} (hv : v < (V2 + 1) * P) (hv0 : 0 < v) (hu : U3 * P ≤ u) (hg : g * V2 ≤ U3) (hgl : g ≤ V2) (hQ : Q = u / v) : g ≤ Q + 1 := by
  have h1 : u < (Q + 1) * v := (Nat.div_lt_iff_lt_mul hv0).1 (by rw [hQ]; exact Nat.lt_succ_self _)
  clear hQ
  rcases Nat.lt_or_ge (Q + 1) g with h | h
  · exfalso
    obtain ⟨k, rfl⟩ : ∃ k, g = k + 1 := ⟨g - 1, by omega⟩
    have h2 : (Q + 1) * v ≤ k * v := Nat.mul_le_mul_right _ (by omega)
    have h3 : k * v ≤ k * ((V2 + 1) * P) := Nat.mul_le_mul_left _ (Nat.le_of_lt hv)
    have h4 : (k + 1) * V2 * P ≤ U3 * P := Nat.mul_le_mul_right _ hg
    have h5 : k * ((V2 + 1) * P) = (k * V2 + k) * P := by rw [← Nat.mul_assoc, Nat.mul_add, Nat.mul_one]
    have h6 : (k + 1) * V2 * P = (k * V2 + V2) * P := by rw [Nat.add_mul, Nat.one_mul]
    have h7 : (k * V2 + V2) * P < (k * V2 + k) * P := by omega
    have h8 := Nat.lt_of_mul_lt_mul_right h7
    omega
  · exact h

/-- The window behind the first taking away: the guess was right. -/
theorem take_right {a u v f r W : Nat} (ha : a < W) (h : a + f * v = u + W * r) (hf : f * v ≤ u) (hu : u < W) : r = 0 ∧ a = u - f * v := by
  rcases Nat.eq_zero_or_pos r with h0 | h0
  · subst h0; exact ⟨rfl, by omega⟩
  · have : W * 1 ≤ W * r := Nat.mul_le_mul_left _ h0
    omega

/-- The window behind the first taking away: the guess was one too great. -/
theorem take_wrong {a u v f r W : Nat} (ha : a < W) (h : a + f * v = u + W * r) (hf : u < f * v) (hfv : f * v ≤ u + v) (hv : v < W) : 0 < r ∧ a + v = u + W + v - f * v := by
  rcases Nat.eq_zero_or_pos r with h0 | h0
  · subst h0; omega
  · rcases Nat.lt_or_ge 1 r with h1 | h1
    · have : W * 2 ≤ W * r := Nat.mul_le_mul_left _ h1
      omega
    · have : r = 1 := by omega
      subst this; omega

theorem mod_of {u v q a : Nat} (hq : q = u / v) (ha : a = u - q * v) : a = u % v := by
  subst hq; subst ha
  have := Nat.mod_add_div u v
  rw [Nat.mul_comm] at this; omega

/-- What a list of digits is behind a window of it has been written anew. -/
def splice (L W : List Nat) (j : Nat) : List Nat := L.take j ++ (W ++ L.drop (j + W.length))

theorem splice_len {L W : List Nat} {j : Nat} (h : j + W.length ≤ L.length) : (splice L W j).length = L.length := by
  simp [splice]; omega

theorem splice_dig {L W : List Nat} {j : Nat} (hL : Dig L) (hW : Dig W) : Dig (splice L W j) := (hL.take _).append (hW.append (hL.drop _))

theorem splice_drop {L W : List Nat} {j : Nat} (h : j ≤ L.length) : (splice L W j).drop j = W ++ L.drop (j + W.length) := by
  rw [splice, List.drop_append_of_le_length (by simp; omega), List.drop_of_length_le (by simp; omega), List.nil_append]

theorem splice_take {L W : List Nat} {j : Nat} (h : j ≤ L.length) : (splice L W j).take j = L.take j := by
  rw [splice, List.take_append_of_le_length (by simp; omega), List.take_of_length_le (by simp; omega)]

/-- The window ahead of a step. -/
theorem window_val {L : List Nat} {j t v : Nat} (hL : Dig L) (hj : j + t + 1 ≤ L.length) (hlt : val (L.drop (j + 1)) < v) (hv : v < 4294967296 ^ t) :
    val ((L.drop j).take (t + 1)) = val (L.drop j) ∧ val (L.drop (j + (t + 1))) = 0 ∧ val (L.drop j) < v * 4294967296 := by
  have e1 := val_drop L j (by omega)
  have e2 := val_take_drop (L.drop (j + 1)) t (by simp; omega)
  rw [List.drop_drop] at e2
  have h0 : val (L.drop (j + 1 + t)) = 0 := by
    rcases Nat.eq_zero_or_pos (val (L.drop (j + 1 + t))) with h | h
    · exact h
    · have : 4294967296 ^ t * 1 ≤ 4294967296 ^ t * val (L.drop (j + 1 + t)) := Nat.mul_le_mul_left _ h
      omega
  have e3 := val_take_drop (L.drop j) (t + 1) (by simp; omega)
  rw [List.drop_drop] at e3
  have h1 : val (L.drop (j + (t + 1))) = 0 := by rw [show j + (t + 1) = j + 1 + t by omega]; exact h0
  rw [h1, Nat.mul_zero, Nat.add_zero] at e3
  refine ⟨e3.symm, h1, ?_⟩
  have := hL.get j
  rw [e1]
  have : val (L.drop (j + 1)) + 1 ≤ v := hlt
  omega

/-- One step of the division. -/
theorem long_step {L W Q : List Nat} {j t v q N : Nat} (hL : j + t + 1 ≤ L.length) (hW : W.length = t + 1) (hQ : j < Q.length)
    (hwin : val ((L.drop j).take (t + 1)) = val (L.drop j)) (h0 : val (L.drop (j + (t + 1))) = 0)
    (hq : val (L.drop j) = q * v + val W) (hinv : N = val L + v * (4294967296 ^ (j + 1) * val (Q.drop (j + 1)))) :
    N = val (splice L W j) + v * (4294967296 ^ j * val ((Q.set j q).drop j)) ∧ val ((splice L W j).drop j) = val W := by
  have e1 := val_take_drop L j (by omega)
  have e2 : val ((splice L W j).drop j) = val W := by
    rw [splice_drop (by omega), val_append, hW, h0, Nat.mul_zero, Nat.add_zero]
  have e3 := val_take_drop (splice L W j) j (by rw [splice_len (by omega)]; omega)
  rw [splice_take (by omega), e2] at e3
  have e4 := val_drop (Q.set j q) j (by simpa using hQ)
  rw [getD_set_same Q j q hQ, drop_set_succ] at e4
  refine ⟨?_, e2⟩
  rw [hinv, e1, hq, e3, e4, Nat.pow_succ]
  generalize 4294967296 ^ j = P
  generalize val (Q.drop (j + 1)) = D
  generalize val (L.take j) = A
  generalize val W = R
  simp only [Nat.mul_add]
  have e6 : P * (q * v) = v * (P * q) := by ac_rfl
  have e7 : v * (P * 4294967296 * D) = v * (P * (4294967296 * D)) := by ac_rfl
  omega
end Go.Proofs.YtnhfdcfnojnofaaGreatDoor
