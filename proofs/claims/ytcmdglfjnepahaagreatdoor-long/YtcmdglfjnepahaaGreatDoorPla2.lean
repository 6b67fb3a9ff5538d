/-
  What package planes does: the operations' own functions.
-/
import Derived.Test.YtcmdglfjnepahaaGreatDoorPla1
set_option linter.unusedSimpArgs false
set_option linter.unusedVariables false
namespace Go.Proofs.YtcmdglfjnepahaaGreatDoor
open Go.RowKit

set_option maxHeartbeats 400000 in
set_option maxRecDepth 100000 in
theorem noFault_any (w : World) (x y : Value) (p r : Int) (q s : Nat) (h : FracV w x p q) (k : FracV w y r s) :
    Calls Tryz.prog 67 #[x, y] w fun e w' => e = .returned (.int .i64 0) ∧ Below w.heap.size w w' := by
  obtain ⟨b, ao, l, cap, ao', l', cap', rfl, _⟩ := h.parts
  obtain ⟨c, bo, m, dap, bo', m', dap', rfl, _⟩ := k.parts
  go_enter Tryz.func67, Tryz.ntmps67
  go_wp2
  go_ret
  first | exact ⟨rfl, Below.refl _ _⟩ | exact ⟨rfl, below2 w _ _⟩

set_option maxHeartbeats 400000 in
set_option maxRecDepth 100000 in
theorem faultIfZero_no (w : World) (x y : Value) (p r : Int) (q s : Nat) (h : FracV w x p q) (k : FracV w y r s) (hr : r ≠ 0) :
    Calls Tryz.prog 71 #[x, y] w fun e w' => e = .returned (.int .i64 0) ∧ Below w.heap.size w w' := by
  have k0 := k
  obtain ⟨b, ao, l, cap, ao', l', cap', rfl, _⟩ := h.parts
  obtain ⟨c, bo, m, dap, bo', m', dap', rfl, _⟩ := k.parts
  have hsg : (r.sign == 0) = false := by
    rcases Int.lt_trichotomy r 0 with h | h | h
    · rw [Int.sign_eq_neg_one_of_neg h]; rfl
    · exact absurd h hr
    · rw [Int.sign_eq_one_of_pos h]; rfl
  go_enter Tryz.func71, Tryz.ntmps71
  go_wp2_with fail
  refine (fsign_any _ _ r s ((k0.alloc _).alloc _)).mono ?_
  rintro e w1 ⟨rfl, hb1⟩
  go_wp2
  go_ret
  exact ⟨rfl, (below2 w _ _).trans (hb1.mono (below2 w _ _).size)⟩

set_option maxHeartbeats 400000 in
set_option maxRecDepth 100000 in
theorem faultIfZero_yes (w : World) (x y : Value) (p : Int) (q s : Nat) (h : FracV w x p q) (k : FracV w y 0 s) :
    Calls Tryz.prog 71 #[x, y] w fun e w' => e = .returned (.int .i64 3) ∧ Below w.heap.size w w' := by
  have k0 := k
  obtain ⟨b, ao, l, cap, ao', l', cap', rfl, _⟩ := h.parts
  obtain ⟨c, bo, m, dap, bo', m', dap', rfl, _⟩ := k.parts
  go_enter Tryz.func71, Tryz.ntmps71
  go_wp2_with fail
  refine (fsign_any _ _ 0 s ((k0.alloc _).alloc _)).mono ?_
  rintro e w1 ⟨rfl, hb1⟩
  go_wp2
  go_ret
  exact ⟨rfl, (below2 w _ _).trans (hb1.mono (below2 w _ _).size)⟩

set_option maxHeartbeats 400000 in
set_option maxRecDepth 100000 in
theorem opFloor_any (K : Nat) (hK : K ≤ 1073741822) (hO : OverOK K) (w : World) (x y : Value) (p r : Int) (q s : Nat) (h : FracV w x p q) (k : FracV w y r s) (hp : p.natAbs < 4294967296 ^ K) (hq : q < 4294967296 ^ K) :
    Calls Tryz.prog 73 #[x, y] w fun e w' => ∃ t, e = .returned t ∧ FracV w' t (p / (q : Int)) 1 ∧ Below w.heap.size w w' := by
  have h0 := h
  obtain ⟨b, ao, l, cap, ao', l', cap', rfl, _⟩ := h.parts
  obtain ⟨c, bo, m, dap, bo', m', dap', rfl, _⟩ := k.parts
  have hboxR : Box3 (((w.alloc (.cells #[.bool b, .slice ao l cap, .slice ao' l' cap'] 64)).alloc (.cells #[.bool c, .slice bo m dap, .slice bo' m' dap'] 64)).alloc (.cells #[.bool false, .slice none 0 0, .slice none 0 0] 64)) (w.heap.size + 1 + 1) (.bool false) (.slice none 0 0) (.slice none 0 0) := Box3.new2 _ _ _ _ _ _ _
  have hbW := below3 w (.cells #[.bool b, .slice ao l cap, .slice ao' l' cap'] 64) (.cells #[.bool c, .slice bo m dap, .slice bo' m' dap'] 64) (.cells #[.bool false, .slice none 0 0, .slice none 0 0] 64)
  go_enter Tryz.func73, Tryz.ntmps73
  go_wp2_with fail
  refine (floor_any K hK hO _ _ p q (((h0.alloc _).alloc _).alloc _) hp hq).mono ?_
  rintro e w1 ⟨t, rfl, ht, hb1⟩
  have hR1 := hboxR.below hb1
  have hB1 : Below w.heap.size w w1 := hbW.trans (hb1.mono hbW.size)
  clear hb1 hboxR hbW
  go_wp2_with fail
  refine (fof_any _ _ _ ht).mono ?_
  rintro e w2 ⟨y, rfl, hy, hb2⟩
  obtain ⟨b2, a2, l2, k2, a3, l3, k3, rfl, hp1, hp2, hp3, hp4, hp5⟩ := hy.parts
  have hR2 := hR1.below hb2
  have hB2 : Below w.heap.size w w2 := hB1.trans (hb2.mono hB1.size)
  obtain ⟨c0, c1, c2, f0, f1, f2, g0⟩ := hR2
  clear hb2 hR1 hB1
  go_wp2
  exact bodyPost_ret (v := .agg #[.bool b2, .slice a2 l2 k2, .slice a3 l3 k3]) (by simp [results, Tryz.results73, go_sem, c0, c1, c2]) rfl ⟨_, rfl, fracV_boxed hp1 hp2 hp3 hp4 hp5 c0 c1 c2,
    ((hB2.setCell (by simp; omega) _).setCell (by simp; omega) _).setCell (by simp; omega) _⟩

set_option maxHeartbeats 400000 in
set_option maxRecDepth 100000 in
theorem opLess_any (K : Nat) (hK : K + K ≤ 1073741822) (w : World) (x y : Value) (p r : Int) (q s : Nat) (h : FracV w x p q) (k : FracV w y r s) (hp : p.natAbs < 4294967296 ^ K) (hr : r.natAbs < 4294967296 ^ K) (hq : q < 4294967296 ^ K) (hs : s < 4294967296 ^ K) :
    Calls Tryz.prog 74 #[x, y] w fun e w' => ∃ t, e = .returned t ∧ FracV w' t (if p * (s : Int) < r * (q : Int) then 1 else 0) 1 ∧ Below w.heap.size w w' := by
  have h0 := h
  have k0 := k
  obtain ⟨b, ao, l, cap, ao', l', cap', rfl, _⟩ := h.parts
  obtain ⟨c, bo, m, dap, bo', m', dap', rfl, _⟩ := k.parts
  have hboxR : Box3 (((w.alloc (.cells #[.bool b, .slice ao l cap, .slice ao' l' cap'] 64)).alloc (.cells #[.bool c, .slice bo m dap, .slice bo' m' dap'] 64)).alloc (.cells #[.bool false, .slice none 0 0, .slice none 0 0] 64)) (w.heap.size + 1 + 1) (.bool false) (.slice none 0 0) (.slice none 0 0) := Box3.new2 _ _ _ _ _ _ _
  have hbW := below3 w (.cells #[.bool b, .slice ao l cap, .slice ao' l' cap'] 64) (.cells #[.bool c, .slice bo m dap, .slice bo' m' dap'] 64) (.cells #[.bool false, .slice none 0 0, .slice none 0 0] 64)
  go_enter Tryz.func74, Tryz.ntmps74
  go_wp2_with fail
  refine (fcompare_any _ _ _ p r q s K (by omega) (((h0.alloc _).alloc _).alloc _) (((k0.alloc _).alloc _).alloc _) hp hr hq hs).mono ?_
  rintro e w1 ⟨cc, rfl, hc1, hc2, hc3, hc4, hb1⟩
  have hR1 := hboxR.below hb1
  have hB1 : Below w.heap.size w w1 := hbW.trans (hb1.mono hbW.size)
  have HC1 := hide hc1
  clear hb1 hboxR hbW hc1 hc2
  by_cases hlt : cc < 0
  · have HL := hide (HC1.out.1 hlt)
    go_wp2_with fail
    refine (wof_any _ 1 (by omega)).mono ?_
    rintro e w2 ⟨t, rfl, ht, hb2⟩
    have hR2 := hR1.below hb2
    have hB2 : Below w.heap.size w w2 := hB1.trans (hb2.mono hB1.size)
    clear hb2 hR1 hB1
    go_wp2_with fail
    refine (fof_any _ _ _ ht).mono ?_
    rintro e w3 ⟨y, rfl, hy, hb3⟩
    obtain ⟨b2, a2, l2, k2, a3, l3, k3, rfl, hp1, hp2, hp3, hp4, hp5⟩ := hy.parts
    have hR3 := hR2.below hb3
    have hB3 : Below w.heap.size w w3 := hB2.trans (hb3.mono hB2.size)
    obtain ⟨c0, c1, c2, f0, f1, f2, g0⟩ := hR3
    clear hb3 hR2 hB2
    go_wp2
    exact bodyPost_ret (v := .agg #[.bool b2, .slice a2 l2 k2, .slice a3 l3 k3]) (by simp [results, Tryz.results74, go_sem, c0, c1, c2]) rfl ⟨_, rfl, by first | exact fracV_boxed hp1 hp2 hp3 hp4 hp5 c0 c1 c2 | (rw [if_pos HL.out]; exact fracV_boxed hp1 hp2 hp3 hp4 hp5 c0 c1 c2),
      ((hB3.setCell (by simp; omega) _).setCell (by simp; omega) _).setCell (by simp; omega) _⟩
  · have HL := hide (fun h => hlt (HC1.out.2 h))
    have hge : 0 ≤ cc := by omega
    clear hlt
    go_wp2_with fail
    refine (wof_any _ 0 (by omega)).mono ?_
    rintro e w2 ⟨t, rfl, ht, hb2⟩
    have hR2 := hR1.below hb2
    have hB2 : Below w.heap.size w w2 := hB1.trans (hb2.mono hB1.size)
    clear hb2 hR1 hB1
    go_wp2_with fail
    refine (fof_any _ _ _ ht).mono ?_
    rintro e w3 ⟨y, rfl, hy, hb3⟩
    obtain ⟨b2, a2, l2, k2, a3, l3, k3, rfl, hp1, hp2, hp3, hp4, hp5⟩ := hy.parts
    have hR3 := hR2.below hb3
    have hB3 : Below w.heap.size w w3 := hB2.trans (hb3.mono hB2.size)
    obtain ⟨c0, c1, c2, f0, f1, f2, g0⟩ := hR3
    clear hb3 hR2 hB2
    go_wp2
    exact bodyPost_ret (v := .agg #[.bool b2, .slice a2 l2 k2, .slice a3 l3 k3]) (by simp [results, Tryz.results74, go_sem, c0, c1, c2]) rfl ⟨_, rfl, by first | exact fracV_boxed hp1 hp2 hp3 hp4 hp5 c0 c1 c2 | (rw [if_neg HL.out]; exact fracV_boxed hp1 hp2 hp3 hp4 hp5 c0 c1 c2),
      ((hB3.setCell (by simp; omega) _).setCell (by simp; omega) _).setCell (by simp; omega) _⟩
end Go.Proofs.YtcmdglfjnepahaaGreatDoor
