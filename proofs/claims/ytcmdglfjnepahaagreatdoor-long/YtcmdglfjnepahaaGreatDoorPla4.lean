/-
  What package planes does: Calc; and where the divisor is 0.
-/
import Derived.Test.YtcmdglfjnepahaaGreatDoorPla3
import Derived.Test.YtcmdglfjnepahaaGreatDoorTxt9
set_option linter.unusedSimpArgs false
set_option linter.unusedVariables false
namespace Go.Proofs.YtcmdglfjnepahaaGreatDoor
open Go.RowKit

set_option maxHeartbeats 1000000 in
set_option maxRecDepth 100000 in
theorem calc_zero (w : World) (s t : ByteArray) (p : Int) (q u : Nat) (hg : Gl w) (hs : ParseOK s p q) (ht : ParseOK t 0 u) :
    Calls Tryz.prog 16 #[.int .i64 4, .string s, .string t] w fun e w' => e = .returned (.tuple #[.string ⟨#[]⟩, .int .i64 3]) ∧ Below w.heap.size w w' := by
  go_enter Tryz.func16, Tryz.ntmps16
  go_wp2_with fail
  refine (find_4 _).mono ?_
  rintro e w1 ⟨rfl, hb1⟩
  have hbox8 := Box3.new w1 (.int .i64 4) (.func (.func 71) #[] #[]) (.func (.func 72) #[] #[]) 56
  have hbA : Below w.heap.size w (w1.alloc (.cells #[.int .i64 4, .func (.func 71) #[] #[], .func (.func 72) #[] #[]] 56)) := hb1.alloc hb1.size _
  have hgA := hg.below hbA
  go_wp2_with fail
  refine (hs _ hgA).mono ?_
  rintro e w2 ⟨x, rfl, hx, hb2⟩
  obtain ⟨b, ao, l, cap, ao', l', cap', rfl, _⟩ := hx.parts
  have hbB0 : Below w.heap.size w w2 := hbA.trans (hb2.mono hbA.size)
  have hbB : Below w.heap.size w (w2.alloc (.cells #[.bool b, .slice ao l cap, .slice ao' l' cap'] 64)) := hbB0.alloc hbB0.size _
  have hbox8B := (hbox8.below hb2).alloc (.cells #[.bool b, .slice ao l cap, .slice ao' l' cap'] 64)
  have hbox10 := Box3.new w2 (.bool b) (.slice ao l cap) (.slice ao' l' cap') 64
  have hxB := hx.alloc (.cells #[.bool b, .slice ao l cap, .slice ao' l' cap'] 64)
  have hgB := hg.below hbB
  clear hb1 hb2 hbox8 hbA hgA hx hbB0
  go_wp2_with fail
  refine (ht _ hgB).mono ?_
  rintro e w3 ⟨y, rfl, hy, hb3⟩
  obtain ⟨c, bo, m, dap, bo', m', dap', rfl, _⟩ := hy.parts
  have hbC0 : Below w.heap.size w w3 := hbB.trans (hb3.mono hbB.size)
  have hbC : Below w.heap.size w (w3.alloc (.cells #[.bool c, .slice bo m dap, .slice bo' m' dap'] 64)) := hbC0.alloc hbC0.size _
  have hbox8C := (hbox8B.below hb3).alloc (.cells #[.bool c, .slice bo m dap, .slice bo' m' dap'] 64)
  have hbox10C := (hbox10.below hb3).alloc (.cells #[.bool c, .slice bo m dap, .slice bo' m' dap'] 64)
  have hbox11 := Box3.new w3 (.bool c) (.slice bo m dap) (.slice bo' m' dap') 64
  have hxC := (hxB.below hb3).alloc (.cells #[.bool c, .slice bo m dap, .slice bo' m' dap'] 64)
  have hyC := hy.alloc (.cells #[.bool c, .slice bo m dap, .slice bo' m' dap'] 64)
  have d8 := hbox8B.below hb3
  obtain ⟨i0, i1, i2, i3, i4, i5, i6⟩ := d8
  have d10 := hbox10.below hb3
  obtain ⟨j0, j1, j2, j3, j4, j5, j6⟩ := d10
  clear hb3 hbox8B hbox10 hxB hgB hbB hbC0 hy
  go_wp2_with fail
  refine (faultIfZero_yes _ _ _ p q u hxC hyC).mono ?_
  rintro e w4 ⟨rfl, hb4⟩
  have hbD : Below w.heap.size w w4 := hbC.trans (hb4.mono hbC.size)
  have d8 := hbox8C.below hb4
  have d10 := hbox10C.below hb4
  have d11 := hbox11.below hb4
  have hxD := hxC.below hb4
  have hyD := hyC.below hb4
  have hgD := hg.below hbD
  clear hb4 hbox8C hbox10C hbox11 hxC hyC hbC i0 i1 i2 i3 i4 i5 i6 j0 j1 j2 j3 j4 j5 j6
  obtain ⟨i0, i1, i2, i3, i4, i5, i6⟩ := d8
  obtain ⟨j0, j1, j2, j3, j4, j5, j6⟩ := d10
  obtain ⟨k0, k1, k2, k3, k4, k5, k6⟩ := d11
  go_wp2
  go_ret2
  exact ⟨rfl, hbD⟩

set_option maxHeartbeats 400000 in
theorem planesCalc_of (op : Int) (s t r : ByteArray) (k : Int) (w : World) (h : Calls Tryz.prog 16 #[.int .i64 op, .string s, .string t] w fun e w' => e = .returned (.tuple #[.string r, .int .i64 k]) ∧ Below w.heap.size w w') :
    Calls Tryz.prog 9 #[.int .i64 op, .string s, .string t] w fun e w' => e = .returned (.tuple #[.string r, .int .i64 k]) ∧ Below w.heap.size w w' := by
  go_enter Tryz.func9, Tryz.ntmps9
  go_wp2_with fail
  refine h.mono ?_
  rintro e w1 ⟨rfl, hb1⟩
  go_wp2
  go_ret2
  exact ⟨rfl, hb1⟩

theorem parseOK_over (a : Int) (b : Nat) (hb : b ≠ 0) (ha1 : a.natAbs < 1000000000) (hb1 : b < 1000000000) : ParseOK ⟨(overText a (b : Int)).toArray⟩ (a / (Nat.gcd a.natAbs b : Int)) (b / Nat.gcd a.natAbs b) := by
  rintro W ⟨_, mx, h1, h2⟩
  exact fracParse_text a b hb ha1 hb1 W mx h1 h2
end Go.Proofs.YtcmdglfjnepahaaGreatDoor
