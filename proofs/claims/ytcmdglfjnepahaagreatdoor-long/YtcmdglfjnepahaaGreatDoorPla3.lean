/-
  What package planes does: calc, for each operation, where both texts are numbers'.
-/
import Derived.Test.YtcmdglfjnepahaaGreatDoorPla2
set_option linter.unusedSimpArgs false
set_option linter.unusedVariables false
namespace Go.Proofs.YtcmdglfjnepahaaGreatDoor
open Go.RowKit

/-- What the calls lean on in old memory: the table of powers of ten, and the library's bound on short searches. -/
def Gl (w : World) : Prop := Tab w ∧ ∃ mx, w.cell? ⟨1, 0, none⟩ = some (.int .i64 mx) ∧ 1 < w.heap.size

theorem Gl.below {w w' : World} (h : Gl w) (hb : Below w.heap.size w w') : Gl w' := by
  obtain ⟨h1, mx, h2, h3⟩ := h
  exact ⟨h1.below hb, mx, (hb.cell (p := ⟨1, 0, none⟩) h3).trans h2, Nat.lt_of_lt_of_le h3 hb.size⟩

/-- The text is read as the fraction p / q. -/
def ParseOK (s : ByteArray) (p : Int) (q : Nat) : Prop := ∀ W, Gl W → Calls Tryz.prog 24 #[.string s, .int .i64 40] W fun e w' => ∃ x, e = .returned (.tuple #[x, .bool true]) ∧ FracV w' x p q ∧ Below W.heap.size W w'

set_option maxHeartbeats 1000000 in
set_option maxRecDepth 100000 in
theorem calc_1 (w : World) (s t : ByteArray) (p r P : Int) (q u Q : Nat) (hg : Gl w) (hs : ParseOK s p q) (ht : ParseOK t r u)
    (hreck : ∀ W x y, FracV W x p q → FracV W y r u → Calls Tryz.prog 68 #[x, y] W fun e w' => ∃ z, e = .returned z ∧ FracV w' z P Q ∧ Below W.heap.size W w') (hP : P.natAbs < Cap) (hQ : Q < Cap) :
    Calls Tryz.prog 16 #[.int .i64 1, .string s, .string t] w fun e w' => e = .returned (.tuple #[.string ⟨(fracText P Q).toArray⟩, .int .i64 0]) ∧ Below w.heap.size w w' := by
  have HR := hide hreck
  clear hreck
  go_enter Tryz.func16, Tryz.ntmps16
  go_wp2_with fail
  refine (find_1 _).mono ?_
  rintro e w1 ⟨rfl, hb1⟩
  have hbox8 := Box3.new w1 (.int .i64 1) (.func (.func 67) #[] #[]) (.func (.func 68) #[] #[]) 56
  have hbA : Below w.heap.size w (w1.alloc (.cells #[.int .i64 1, .func (.func 67) #[] #[], .func (.func 68) #[] #[]] 56)) := hb1.alloc hb1.size _
  have hgA := hg.below hbA
  go_wp2_with fail
  refine (hs _ hgA).mono ?_
  rintro e w2 ⟨x, rfl, hx, hb2⟩
  obtain ⟨b, ao, l, cap, ao', l', cap', rfl, _⟩ := hx.parts
  have hbB0 : Below w.heap.size w w2 := hbA.trans (hb2.mono hbA.size)
  have hbB : Below w.heap.size w (w2.alloc (.cells #[.bool b, .slice ao l cap, .slice ao' l' cap'] 64)) := hbB0.alloc hbB0.size _
  have hbox8B := (hbox8.below hb2).alloc (.cells #[.bool b, .slice ao l cap, .slice ao' l' cap'] 64)
  have hbox10 := Box3.new w2 (.bool b) (.slice ao l cap) (.slice ao' l' cap') 64
  have hxB := hx.alloc (.cells #[.bool b, .slice ao l cap, .slice ao' l' cap'] 64)
  have hgB := hg.below hbB
  clear hb1 hb2 hbox8 hbA hgA hx hbB0
  go_wp2_with fail
  refine (ht _ hgB).mono ?_
  rintro e w3 ⟨y, rfl, hy, hb3⟩
  obtain ⟨c, bo, m, dap, bo', m', dap', rfl, _⟩ := hy.parts
  have hbC0 : Below w.heap.size w w3 := hbB.trans (hb3.mono hbB.size)
  have hbC : Below w.heap.size w (w3.alloc (.cells #[.bool c, .slice bo m dap, .slice bo' m' dap'] 64)) := hbC0.alloc hbC0.size _
  have hbox8C := (hbox8B.below hb3).alloc (.cells #[.bool c, .slice bo m dap, .slice bo' m' dap'] 64)
  have hbox10C := (hbox10.below hb3).alloc (.cells #[.bool c, .slice bo m dap, .slice bo' m' dap'] 64)
  have hbox11 := Box3.new w3 (.bool c) (.slice bo m dap) (.slice bo' m' dap') 64
  have hxC := (hxB.below hb3).alloc (.cells #[.bool c, .slice bo m dap, .slice bo' m' dap'] 64)
  have hyC := hy.alloc (.cells #[.bool c, .slice bo m dap, .slice bo' m' dap'] 64)
  have d8 := hbox8B.below hb3
  obtain ⟨i0, i1, i2, i3, i4, i5, i6⟩ := d8
  have d10 := hbox10.below hb3
  obtain ⟨j0, j1, j2, j3, j4, j5, j6⟩ := d10
  clear hb3 hbox8B hbox10 hxB hgB hbB hbC0 hy
  go_wp2_with fail
  refine (noFault_any _ _ _ p r q u hxC hyC).mono ?_
  rintro e w4 ⟨rfl, hb4⟩
  have hbD : Below w.heap.size w w4 := hbC.trans (hb4.mono hbC.size)
  have d8 := hbox8C.below hb4
  have d10 := hbox10C.below hb4
  have d11 := hbox11.below hb4
  have hxD := hxC.below hb4
  have hyD := hyC.below hb4
  have hgD := hg.below hbD
  clear hb4 hbox8C hbox10C hbox11 hxC hyC hbC i0 i1 i2 i3 i4 i5 i6 j0 j1 j2 j3 j4 j5 j6
  obtain ⟨i0, i1, i2, i3, i4, i5, i6⟩ := d8
  obtain ⟨j0, j1, j2, j3, j4, j5, j6⟩ := d10
  obtain ⟨k0, k1, k2, k3, k4, k5, k6⟩ := d11
  go_wp2_with fail
  refine (HR.out _ _ _ hxD hyD).mono ?_
  rintro e w5 ⟨z, rfl, hz, hb5⟩
  have hbE : Below w.heap.size w w5 := hbD.trans (hb5.mono hbD.size)
  have hgE := hgD.below hb5
  clear hb5 hxD hyD hgD hbD i0 i1 i2 i3 i4 i5 i6 j0 j1 j2 j3 j4 j5 j6 k0 k1 k2 k3 k4 k5 k6
  go_wp2_with fail
  refine (fracString_any _ _ P Q hz hP hQ hgE.1).mono ?_
  rintro e w6 ⟨rfl, hb6⟩
  go_wp2
  go_ret2
  exact ⟨rfl, hbE.trans (hb6.mono hbE.size)⟩

set_option maxHeartbeats 1000000 in
set_option maxRecDepth 100000 in
theorem calc_2 (w : World) (s t : ByteArray) (p r P : Int) (q u Q : Nat) (hg : Gl w) (hs : ParseOK s p q) (ht : ParseOK t r u)
    (hreck : ∀ W x y, FracV W x p q → FracV W y r u → Calls Tryz.prog 69 #[x, y] W fun e w' => ∃ z, e = .returned z ∧ FracV w' z P Q ∧ Below W.heap.size W w') (hP : P.natAbs < Cap) (hQ : Q < Cap) :
    Calls Tryz.prog 16 #[.int .i64 2, .string s, .string t] w fun e w' => e = .returned (.tuple #[.string ⟨(fracText P Q).toArray⟩, .int .i64 0]) ∧ Below w.heap.size w w' := by
  have HR := hide hreck
  clear hreck
  go_enter Tryz.func16, Tryz.ntmps16
  go_wp2_with fail
  refine (find_2 _).mono ?_
  rintro e w1 ⟨rfl, hb1⟩
  have hbox8 := Box3.new w1 (.int .i64 2) (.func (.func 67) #[] #[]) (.func (.func 69) #[] #[]) 56
  have hbA : Below w.heap.size w (w1.alloc (.cells #[.int .i64 2, .func (.func 67) #[] #[], .func (.func 69) #[] #[]] 56)) := hb1.alloc hb1.size _
  have hgA := hg.below hbA
  go_wp2_with fail
  refine (hs _ hgA).mono ?_
  rintro e w2 ⟨x, rfl, hx, hb2⟩
  obtain ⟨b, ao, l, cap, ao', l', cap', rfl, _⟩ := hx.parts
  have hbB0 : Below w.heap.size w w2 := hbA.trans (hb2.mono hbA.size)
  have hbB : Below w.heap.size w (w2.alloc (.cells #[.bool b, .slice ao l cap, .slice ao' l' cap'] 64)) := hbB0.alloc hbB0.size _
  have hbox8B := (hbox8.below hb2).alloc (.cells #[.bool b, .slice ao l cap, .slice ao' l' cap'] 64)
  have hbox10 := Box3.new w2 (.bool b) (.slice ao l cap) (.slice ao' l' cap') 64
  have hxB := hx.alloc (.cells #[.bool b, .slice ao l cap, .slice ao' l' cap'] 64)
  have hgB := hg.below hbB
  clear hb1 hb2 hbox8 hbA hgA hx hbB0
  go_wp2_with fail
  refine (ht _ hgB).mono ?_
  rintro e w3 ⟨y, rfl, hy, hb3⟩
  obtain ⟨c, bo, m, dap, bo', m', dap', rfl, _⟩ := hy.parts
  have hbC0 : Below w.heap.size w w3 := hbB.trans (hb3.mono hbB.size)
  have hbC : Below w.heap.size w (w3.alloc (.cells #[.bool c, .slice bo m dap, .slice bo' m' dap'] 64)) := hbC0.alloc hbC0.size _
  have hbox8C := (hbox8B.below hb3).alloc (.cells #[.bool c, .slice bo m dap, .slice bo' m' dap'] 64)
  have hbox10C := (hbox10.below hb3).alloc (.cells #[.bool c, .slice bo m dap, .slice bo' m' dap'] 64)
  have hbox11 := Box3.new w3 (.bool c) (.slice bo m dap) (.slice bo' m' dap') 64
  have hxC := (hxB.below hb3).alloc (.cells #[.bool c, .slice bo m dap, .slice bo' m' dap'] 64)
  have hyC := hy.alloc (.cells #[.bool c, .slice bo m dap, .slice bo' m' dap'] 64)
  have d8 := hbox8B.below hb3
  obtain ⟨i0, i1, i2, i3, i4, i5, i6⟩ := d8
  have d10 := hbox10.below hb3
  obtain ⟨j0, j1, j2, j3, j4, j5, j6⟩ := d10
  clear hb3 hbox8B hbox10 hxB hgB hbB hbC0 hy
  go_wp2_with fail
  refine (noFault_any _ _ _ p r q u hxC hyC).mono ?_
  rintro e w4 ⟨rfl, hb4⟩
  have hbD : Below w.heap.size w w4 := hbC.trans (hb4.mono hbC.size)
  have d8 := hbox8C.below hb4
  have d10 := hbox10C.below hb4
  have d11 := hbox11.below hb4
  have hxD := hxC.below hb4
  have hyD := hyC.below hb4
  have hgD := hg.below hbD
  clear hb4 hbox8C hbox10C hbox11 hxC hyC hbC i0 i1 i2 i3 i4 i5 i6 j0 j1 j2 j3 j4 j5 j6
  obtain ⟨i0, i1, i2, i3, i4, i5, i6⟩ := d8
  obtain ⟨j0, j1, j2, j3, j4, j5, j6⟩ := d10
  obtain ⟨k0, k1, k2, k3, k4, k5, k6⟩ := d11
  go_wp2_with fail
  refine (HR.out _ _ _ hxD hyD).mono ?_
  rintro e w5 ⟨z, rfl, hz, hb5⟩
  have hbE : Below w.heap.size w w5 := hbD.trans (hb5.mono hbD.size)
  have hgE := hgD.below hb5
  clear hb5 hxD hyD hgD hbD i0 i1 i2 i3 i4 i5 i6 j0 j1 j2 j3 j4 j5 j6 k0 k1 k2 k3 k4 k5 k6
  go_wp2_with fail
  refine (fracString_any _ _ P Q hz hP hQ hgE.1).mono ?_
  rintro e w6 ⟨rfl, hb6⟩
  go_wp2
  go_ret2
  exact ⟨rfl, hbE.trans (hb6.mono hbE.size)⟩

set_option maxHeartbeats 1000000 in
set_option maxRecDepth 100000 in
theorem calc_3 (w : World) (s t : ByteArray) (p r P : Int) (q u Q : Nat) (hg : Gl w) (hs : ParseOK s p q) (ht : ParseOK t r u)
    (hreck : ∀ W x y, FracV W x p q → FracV W y r u → Calls Tryz.prog 70 #[x, y] W fun e w' => ∃ z, e = .returned z ∧ FracV w' z P Q ∧ Below W.heap.size W w') (hP : P.natAbs < Cap) (hQ : Q < Cap) :
    Calls Tryz.prog 16 #[.int .i64 3, .string s, .string t] w fun e w' => e = .returned (.tuple #[.string ⟨(fracText P Q).toArray⟩, .int .i64 0]) ∧ Below w.heap.size w w' := by
  have HR := hide hreck
  clear hreck
  go_enter Tryz.func16, Tryz.ntmps16
  go_wp2_with fail
  refine (find_3 _).mono ?_
  rintro e w1 ⟨rfl, hb1⟩
  have hbox8 := Box3.new w1 (.int .i64 3) (.func (.func 67) #[] #[]) (.func (.func 70) #[] #[]) 56
  have hbA : Below w.heap.size w (w1.alloc (.cells #[.int .i64 3, .func (.func 67) #[] #[], .func (.func 70) #[] #[]] 56)) := hb1.alloc hb1.size _
  have hgA := hg.below hbA
  go_wp2_with fail
  refine (hs _ hgA).mono ?_
  rintro e w2 ⟨x, rfl, hx, hb2⟩
  obtain ⟨b, ao, l, cap, ao', l', cap', rfl, _⟩ := hx.parts
  have hbB0 : Below w.heap.size w w2 := hbA.trans (hb2.mono hbA.size)
  have hbB : Below w.heap.size w (w2.alloc (.cells #[.bool b, .slice ao l cap, .slice ao' l' cap'] 64)) := hbB0.alloc hbB0.size _
  have hbox8B := (hbox8.below hb2).alloc (.cells #[.bool b, .slice ao l cap, .slice ao' l' cap'] 64)
  have hbox10 := Box3.new w2 (.bool b) (.slice ao l cap) (.slice ao' l' cap') 64
  have hxB := hx.alloc (.cells #[.bool b, .slice ao l cap, .slice ao' l' cap'] 64)
  have hgB := hg.below hbB
  clear hb1 hb2 hbox8 hbA hgA hx hbB0
  go_wp2_with fail
  refine (ht _ hgB).mono ?_
  rintro e w3 ⟨y, rfl, hy, hb3⟩
  obtain ⟨c, bo, m, dap, bo', m', dap', rfl, _⟩ := hy.parts
  have hbC0 : Below w.heap.size w w3 := hbB.trans (hb3.mono hbB.size)
  have hbC : Below w.heap.size w (w3.alloc (.cells #[.bool c, .slice bo m dap, .slice bo' m' dap'] 64)) := hbC0.alloc hbC0.size _
  have hbox8C := (hbox8B.below hb3).alloc (.cells #[.bool c, .slice bo m dap, .slice bo' m' dap'] 64)
  have hbox10C := (hbox10.below hb3).alloc (.cells #[.bool c, .slice bo m dap, .slice bo' m' dap'] 64)
  have hbox11 := Box3.new w3 (.bool c) (.slice bo m dap) (.slice bo' m' dap') 64
  have hxC := (hxB.below hb3).alloc (.cells #[.bool c, .slice bo m dap, .slice bo' m' dap'] 64)
  have hyC := hy.alloc (.cells #[.bool c, .slice bo m dap, .slice bo' m' dap'] 64)
  have d8 := hbox8B.below hb3
  obtain ⟨i0, i1, i2, i3, i4, i5, i6⟩ := d8
  have d10 := hbox10.below hb3
  obtain ⟨j0, j1, j2, j3, j4, j5, j6⟩ := d10
  clear hb3 hbox8B hbox10 hxB hgB hbB hbC0 hy
  go_wp2_with fail
  refine (noFault_any _ _ _ p r q u hxC hyC).mono ?_
  rintro e w4 ⟨rfl, hb4⟩
  have hbD : Below w.heap.size w w4 := hbC.trans (hb4.mono hbC.size)
  have d8 := hbox8C.below hb4
  have d10 := hbox10C.below hb4
  have d11 := hbox11.below hb4
  have hxD := hxC.below hb4
  have hyD := hyC.below hb4
  have hgD := hg.below hbD
  clear hb4 hbox8C hbox10C hbox11 hxC hyC hbC i0 i1 i2 i3 i4 i5 i6 j0 j1 j2 j3 j4 j5 j6
  obtain ⟨i0, i1, i2, i3, i4, i5, i6⟩ := d8
  obtain ⟨j0, j1, j2, j3, j4, j5, j6⟩ := d10
  obtain ⟨k0, k1, k2, k3, k4, k5, k6⟩ := d11
  go_wp2_with fail
  refine (HR.out _ _ _ hxD hyD).mono ?_
  rintro e w5 ⟨z, rfl, hz, hb5⟩
  have hbE : Below w.heap.size w w5 := hbD.trans (hb5.mono hbD.size)
  have hgE := hgD.below hb5
  clear hb5 hxD hyD hgD hbD i0 i1 i2 i3 i4 i5 i6 j0 j1 j2 j3 j4 j5 j6 k0 k1 k2 k3 k4 k5 k6
  go_wp2_with fail
  refine (fracString_any _ _ P Q hz hP hQ hgE.1).mono ?_
  rintro e w6 ⟨rfl, hb6⟩
  go_wp2
  go_ret2
  exact ⟨rfl, hbE.trans (hb6.mono hbE.size)⟩

set_option maxHeartbeats 1000000 in
set_option maxRecDepth 100000 in
theorem calc_4 (w : World) (s t : ByteArray) (p r P : Int) (q u Q : Nat) (hg : Gl w) (hs : ParseOK s p q) (ht : ParseOK t r u) (hr0 : r ≠ 0)
    (hreck : ∀ W x y, FracV W x p q → FracV W y r u → Calls Tryz.prog 72 #[x, y] W fun e w' => ∃ z, e = .returned z ∧ FracV w' z P Q ∧ Below W.heap.size W w') (hP : P.natAbs < Cap) (hQ : Q < Cap) :
    Calls Tryz.prog 16 #[.int .i64 4, .string s, .string t] w fun e w' => e = .returned (.tuple #[.string ⟨(fracText P Q).toArray⟩, .int .i64 0]) ∧ Below w.heap.size w w' := by
  have HR := hide hreck
  clear hreck
  go_enter Tryz.func16, Tryz.ntmps16
  go_wp2_with fail
  refine (find_4 _).mono ?_
  rintro e w1 ⟨rfl, hb1⟩
  have hbox8 := Box3.new w1 (.int .i64 4) (.func (.func 71) #[] #[]) (.func (.func 72) #[] #[]) 56
  have hbA : Below w.heap.size w (w1.alloc (.cells #[.int .i64 4, .func (.func 71) #[] #[], .func (.func 72) #[] #[]] 56)) := hb1.alloc hb1.size _
  have hgA := hg.below hbA
  go_wp2_with fail
  refine (hs _ hgA).mono ?_
  rintro e w2 ⟨x, rfl, hx, hb2⟩
  obtain ⟨b, ao, l, cap, ao', l', cap', rfl, _⟩ := hx.parts
  have hbB0 : Below w.heap.size w w2 := hbA.trans (hb2.mono hbA.size)
  have hbB : Below w.heap.size w (w2.alloc (.cells #[.bool b, .slice ao l cap, .slice ao' l' cap'] 64)) := hbB0.alloc hbB0.size _
  have hbox8B := (hbox8.below hb2).alloc (.cells #[.bool b, .slice ao l cap, .slice ao' l' cap'] 64)
  have hbox10 := Box3.new w2 (.bool b) (.slice ao l cap) (.slice ao' l' cap') 64
  have hxB := hx.alloc (.cells #[.bool b, .slice ao l cap, .slice ao' l' cap'] 64)
  have hgB := hg.below hbB
  clear hb1 hb2 hbox8 hbA hgA hx hbB0
  go_wp2_with fail
  refine (ht _ hgB).mono ?_
  rintro e w3 ⟨y, rfl, hy, hb3⟩
  obtain ⟨c, bo, m, dap, bo', m', dap', rfl, _⟩ := hy.parts
  have hbC0 : Below w.heap.size w w3 := hbB.trans (hb3.mono hbB.size)
  have hbC : Below w.heap.size w (w3.alloc (.cells #[.bool c, .slice bo m dap, .slice bo' m' dap'] 64)) := hbC0.alloc hbC0.size _
  have hbox8C := (hbox8B.below hb3).alloc (.cells #[.bool c, .slice bo m dap, .slice bo' m' dap'] 64)
  have hbox10C := (hbox10.below hb3).alloc (.cells #[.bool c, .slice bo m dap, .slice bo' m' dap'] 64)
  have hbox11 := Box3.new w3 (.bool c) (.slice bo m dap) (.slice bo' m' dap') 64
  have hxC := (hxB.below hb3).alloc (.cells #[.bool c, .slice bo m dap, .slice bo' m' dap'] 64)
  have hyC := hy.alloc (.cells #[.bool c, .slice bo m dap, .slice bo' m' dap'] 64)
  have d8 := hbox8B.below hb3
  obtain ⟨i0, i1, i2, i3, i4, i5, i6⟩ := d8
  have d10 := hbox10.below hb3
  obtain ⟨j0, j1, j2, j3, j4, j5, j6⟩ := d10
  clear hb3 hbox8B hbox10 hxB hgB hbB hbC0 hy
  go_wp2_with fail
  refine (faultIfZero_no _ _ _ p r q u hxC hyC hr0).mono ?_
  rintro e w4 ⟨rfl, hb4⟩
  have hbD : Below w.heap.size w w4 := hbC.trans (hb4.mono hbC.size)
  have d8 := hbox8C.below hb4
  have d10 := hbox10C.below hb4
  have d11 := hbox11.below hb4
  have hxD := hxC.below hb4
  have hyD := hyC.below hb4
  have hgD := hg.below hbD
  clear hb4 hbox8C hbox10C hbox11 hxC hyC hbC i0 i1 i2 i3 i4 i5 i6 j0 j1 j2 j3 j4 j5 j6
  obtain ⟨i0, i1, i2, i3, i4, i5, i6⟩ := d8
  obtain ⟨j0, j1, j2, j3, j4, j5, j6⟩ := d10
  obtain ⟨k0, k1, k2, k3, k4, k5, k6⟩ := d11
  go_wp2_with fail
  refine (HR.out _ _ _ hxD hyD).mono ?_
  rintro e w5 ⟨z, rfl, hz, hb5⟩
  have hbE : Below w.heap.size w w5 := hbD.trans (hb5.mono hbD.size)
  have hgE := hgD.below hb5
  clear hb5 hxD hyD hgD hbD i0 i1 i2 i3 i4 i5 i6 j0 j1 j2 j3 j4 j5 j6 k0 k1 k2 k3 k4 k5 k6
  go_wp2_with fail
  refine (fracString_any _ _ P Q hz hP hQ hgE.1).mono ?_
  rintro e w6 ⟨rfl, hb6⟩
  go_wp2
  go_ret2
  exact ⟨rfl, hbE.trans (hb6.mono hbE.size)⟩

set_option maxHeartbeats 1000000 in
set_option maxRecDepth 100000 in
theorem calc_5 (w : World) (s t : ByteArray) (p r P : Int) (q u Q : Nat) (hg : Gl w) (hs : ParseOK s p q) (ht : ParseOK t r u)
    (hreck : ∀ W x y, FracV W x p q → FracV W y r u → Calls Tryz.prog 73 #[x, y] W fun e w' => ∃ z, e = .returned z ∧ FracV w' z P Q ∧ Below W.heap.size W w') (hP : P.natAbs < Cap) (hQ : Q < Cap) :
    Calls Tryz.prog 16 #[.int .i64 5, .string s, .string t] w fun e w' => e = .returned (.tuple #[.string ⟨(fracText P Q).toArray⟩, .int .i64 0]) ∧ Below w.heap.size w w' := by
  have HR := hide hreck
  clear hreck
  go_enter Tryz.func16, Tryz.ntmps16
  go_wp2_with fail
  refine (find_5 _).mono ?_
  rintro e w1 ⟨rfl, hb1⟩
  have hbox8 := Box3.new w1 (.int .i64 5) (.func (.func 67) #[] #[]) (.func (.func 73) #[] #[]) 56
  have hbA : Below w.heap.size w (w1.alloc (.cells #[.int .i64 5, .func (.func 67) #[] #[], .func (.func 73) #[] #[]] 56)) := hb1.alloc hb1.size _
  have hgA := hg.below hbA
  go_wp2_with fail
  refine (hs _ hgA).mono ?_
  rintro e w2 ⟨x, rfl, hx, hb2⟩
  obtain ⟨b, ao, l, cap, ao', l', cap', rfl, _⟩ := hx.parts
  have hbB0 : Below w.heap.size w w2 := hbA.trans (hb2.mono hbA.size)
  have hbB : Below w.heap.size w (w2.alloc (.cells #[.bool b, .slice ao l cap, .slice ao' l' cap'] 64)) := hbB0.alloc hbB0.size _
  have hbox8B := (hbox8.below hb2).alloc (.cells #[.bool b, .slice ao l cap, .slice ao' l' cap'] 64)
  have hbox10 := Box3.new w2 (.bool b) (.slice ao l cap) (.slice ao' l' cap') 64
  have hxB := hx.alloc (.cells #[.bool b, .slice ao l cap, .slice ao' l' cap'] 64)
  have hgB := hg.below hbB
  clear hb1 hb2 hbox8 hbA hgA hx hbB0
  go_wp2_with fail
  refine (ht _ hgB).mono ?_
  rintro e w3 ⟨y, rfl, hy, hb3⟩
  obtain ⟨c, bo, m, dap, bo', m', dap', rfl, _⟩ := hy.parts
  have hbC0 : Below w.heap.size w w3 := hbB.trans (hb3.mono hbB.size)
  have hbC : Below w.heap.size w (w3.alloc (.cells #[.bool c, .slice bo m dap, .slice bo' m' dap'] 64)) := hbC0.alloc hbC0.size _
  have hbox8C := (hbox8B.below hb3).alloc (.cells #[.bool c, .slice bo m dap, .slice bo' m' dap'] 64)
  have hbox10C := (hbox10.below hb3).alloc (.cells #[.bool c, .slice bo m dap, .slice bo' m' dap'] 64)
  have hbox11 := Box3.new w3 (.bool c) (.slice bo m dap) (.slice bo' m' dap') 64
  have hxC := (hxB.below hb3).alloc (.cells #[.bool c, .slice bo m dap, .slice bo' m' dap'] 64)
  have hyC := hy.alloc (.cells #[.bool c, .slice bo m dap, .slice bo' m' dap'] 64)
  have d8 := hbox8B.below hb3
  obtain ⟨i0, i1, i2, i3, i4, i5, i6⟩ := d8
  have d10 := hbox10.below hb3
  obtain ⟨j0, j1, j2, j3, j4, j5, j6⟩ := d10
  clear hb3 hbox8B hbox10 hxB hgB hbB hbC0 hy
  go_wp2_with fail
  refine (noFault_any _ _ _ p r q u hxC hyC).mono ?_
  rintro e w4 ⟨rfl, hb4⟩
  have hbD : Below w.heap.size w w4 := hbC.trans (hb4.mono hbC.size)
  have d8 := hbox8C.below hb4
  have d10 := hbox10C.below hb4
  have d11 := hbox11.below hb4
  have hxD := hxC.below hb4
  have hyD := hyC.below hb4
  have hgD := hg.below hbD
  clear hb4 hbox8C hbox10C hbox11 hxC hyC hbC i0 i1 i2 i3 i4 i5 i6 j0 j1 j2 j3 j4 j5 j6
  obtain ⟨i0, i1, i2, i3, i4, i5, i6⟩ := d8
  obtain ⟨j0, j1, j2, j3, j4, j5, j6⟩ := d10
  obtain ⟨k0, k1, k2, k3, k4, k5, k6⟩ := d11
  go_wp2_with fail
  refine (HR.out _ _ _ hxD hyD).mono ?_
  rintro e w5 ⟨z, rfl, hz, hb5⟩
  have hbE : Below w.heap.size w w5 := hbD.trans (hb5.mono hbD.size)
  have hgE := hgD.below hb5
  clear hb5 hxD hyD hgD hbD i0 i1 i2 i3 i4 i5 i6 j0 j1 j2 j3 j4 j5 j6 k0 k1 k2 k3 k4 k5 k6
  go_wp2_with fail
  refine (fracString_any _ _ P Q hz hP hQ hgE.1).mono ?_
  rintro e w6 ⟨rfl, hb6⟩
  go_wp2
  go_ret2
  exact ⟨rfl, hbE.trans (hb6.mono hbE.size)⟩

set_option maxHeartbeats 1000000 in
set_option maxRecDepth 100000 in
theorem calc_6 (w : World) (s t : ByteArray) (p r P : Int) (q u Q : Nat) (hg : Gl w) (hs : ParseOK s p q) (ht : ParseOK t r u)
    (hreck : ∀ W x y, FracV W x p q → FracV W y r u → Calls Tryz.prog 74 #[x, y] W fun e w' => ∃ z, e = .returned z ∧ FracV w' z P Q ∧ Below W.heap.size W w') (hP : P.natAbs < Cap) (hQ : Q < Cap) :
    Calls Tryz.prog 16 #[.int .i64 6, .string s, .string t] w fun e w' => e = .returned (.tuple #[.string ⟨(fracText P Q).toArray⟩, .int .i64 0]) ∧ Below w.heap.size w w' := by
  have HR := hide hreck
  clear hreck
  go_enter Tryz.func16, Tryz.ntmps16
  go_wp2_with fail
  refine (find_6 _).mono ?_
  rintro e w1 ⟨rfl, hb1⟩
  have hbox8 := Box3.new w1 (.int .i64 6) (.func (.func 67) #[] #[]) (.func (.func 74) #[] #[]) 56
  have hbA : Below w.heap.size w (w1.alloc (.cells #[.int .i64 6, .func (.func 67) #[] #[], .func (.func 74) #[] #[]] 56)) := hb1.alloc hb1.size _
  have hgA := hg.below hbA
  go_wp2_with fail
  refine (hs _ hgA).mono ?_
  rintro e w2 ⟨x, rfl, hx, hb2⟩
  obtain ⟨b, ao, l, cap, ao', l', cap', rfl, _⟩ := hx.parts
  have hbB0 : Below w.heap.size w w2 := hbA.trans (hb2.mono hbA.size)
  have hbB : Below w.heap.size w (w2.alloc (.cells #[.bool b, .slice ao l cap, .slice ao' l' cap'] 64)) := hbB0.alloc hbB0.size _
  have hbox8B := (hbox8.below hb2).alloc (.cells #[.bool b, .slice ao l cap, .slice ao' l' cap'] 64)
  have hbox10 := Box3.new w2 (.bool b) (.slice ao l cap) (.slice ao' l' cap') 64
  have hxB := hx.alloc (.cells #[.bool b, .slice ao l cap, .slice ao' l' cap'] 64)
  have hgB := hg.below hbB
  clear hb1 hb2 hbox8 hbA hgA hx hbB0
  go_wp2_with fail
  refine (ht _ hgB).mono ?_
  rintro e w3 ⟨y, rfl, hy, hb3⟩
  obtain ⟨c, bo, m, dap, bo', m', dap', rfl, _⟩ := hy.parts
  have hbC0 : Below w.heap.size w w3 := hbB.trans (hb3.mono hbB.size)
  have hbC : Below w.heap.size w (w3.alloc (.cells #[.bool c, .slice bo m dap, .slice bo' m' dap'] 64)) := hbC0.alloc hbC0.size _
  have hbox8C := (hbox8B.below hb3).alloc (.cells #[.bool c, .slice bo m dap, .slice bo' m' dap'] 64)
  have hbox10C := (hbox10.below hb3).alloc (.cells #[.bool c, .slice bo m dap, .slice bo' m' dap'] 64)
  have hbox11 := Box3.new w3 (.bool c) (.slice bo m dap) (.slice bo' m' dap') 64
  have hxC := (hxB.below hb3).alloc (.cells #[.bool c, .slice bo m dap, .slice bo' m' dap'] 64)
  have hyC := hy.alloc (.cells #[.bool c, .slice bo m dap, .slice bo' m' dap'] 64)
  have d8 := hbox8B.below hb3
  obtain ⟨i0, i1, i2, i3, i4, i5, i6⟩ := d8
  have d10 := hbox10.below hb3
  obtain ⟨j0, j1, j2, j3, j4, j5, j6⟩ := d10
  clear hb3 hbox8B hbox10 hxB hgB hbB hbC0 hy
  go_wp2_with fail
  refine (noFault_any _ _ _ p r q u hxC hyC).mono ?_
  rintro e w4 ⟨rfl, hb4⟩
  have hbD : Below w.heap.size w w4 := hbC.trans (hb4.mono hbC.size)
  have d8 := hbox8C.below hb4
  have d10 := hbox10C.below hb4
  have d11 := hbox11.below hb4
  have hxD := hxC.below hb4
  have hyD := hyC.below hb4
  have hgD := hg.below hbD
  clear hb4 hbox8C hbox10C hbox11 hxC hyC hbC i0 i1 i2 i3 i4 i5 i6 j0 j1 j2 j3 j4 j5 j6
  obtain ⟨i0, i1, i2, i3, i4, i5, i6⟩ := d8
  obtain ⟨j0, j1, j2, j3, j4, j5, j6⟩ := d10
  obtain ⟨k0, k1, k2, k3, k4, k5, k6⟩ := d11
  go_wp2_with fail
  refine (HR.out _ _ _ hxD hyD).mono ?_
  rintro e w5 ⟨z, rfl, hz, hb5⟩
  have hbE : Below w.heap.size w w5 := hbD.trans (hb5.mono hbD.size)
  have hgE := hgD.below hb5
  clear hb5 hxD hyD hgD hbD i0 i1 i2 i3 i4 i5 i6 j0 j1 j2 j3 j4 j5 j6 k0 k1 k2 k3 k4 k5 k6
  go_wp2_with fail
  refine (fracString_any _ _ P Q hz hP hQ hgE.1).mono ?_
  rintro e w6 ⟨rfl, hb6⟩
  go_wp2
  go_ret2
  exact ⟨rfl, hbE.trans (hb6.mono hbE.size)⟩
end Go.Proofs.YtcmdglfjnepahaaGreatDoor
