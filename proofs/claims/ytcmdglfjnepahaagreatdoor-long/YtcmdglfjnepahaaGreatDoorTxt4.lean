/-
  Numbers read: whole.Parse and fraction.Parse where the text is a number's.
-/
import Derived.Test.YtcmdglfjnepahaaGreatDoorTxt3
import Derived.Test.YtcmdglfjnepahaaGreatDoorFra8
set_option linter.unusedSimpArgs false
set_option linter.unusedVariables false
namespace Go.Proofs.YtcmdglfjnepahaaGreatDoor
open Go.RowKit

theorem size_mk (l : List UInt8) : (ByteArray.mk l.toArray).size = l.length := by simp [ByteArray.size]

set_option maxRecDepth 100000 in
set_option maxHeartbeats 1000000 in
theorem wholeParse_yes (s : ByteArray) (m : Nat) (w : World) (hm : m ≤ 1000000000) (h0 : 0 < (Lib.trimPrefix s.data.toList [45]).length) (h1 : (Lib.trimPrefix s.data.toList [45]).length ≤ m) (h2 : allDig (Lib.trimPrefix s.data.toList [45]) = true) :
    Calls Tryz.prog 41 #[.string s, .int .i64 (m : Nat)] w fun e w' => ∃ x, e = .returned (.tuple #[x, .bool true]) ∧ WholeV w' x (sg (Lib.hasPrefix s.data.toList [45]) (decVal (Lib.trimPrefix s.data.toList [45]))) ∧ Below w.heap.size w w' := by
  have hbox : Box2 (w.alloc (.cells #[.bool false, .slice none 0 0] 62)) w.heap.size (.bool false) (.slice none 0 0) := Box2.new _ _ _ _
  have hbW : Below w.heap.size w (w.alloc (.cells #[.bool false, .slice none 0 0] 62)) := (Below.refl _ _).alloc (Nat.le_refl _) _
  have hcp := Tryz.strings_CutPrefix s ⟨#[45]⟩ (w.alloc (.cells #[.bool false, .slice none 0 0] 62))
  have e45 : (ByteArray.mk #[45]).data.toList = [45] := rfl
  rw [e45] at hcp
  generalize Lib.trimPrefix s.data.toList [45] = d at *
  generalize Lib.hasPrefix s.data.toList [45] = neg at *
  have HCP := hide hcp
  have hsz := size_mk d
  have HSZ := hide hsz
  clear hcp e45 hsz
  go_enter Tryz.func41, Tryz.ntmps41
  go_wp2_with fail
  refine HCP.out.mono ?_
  rintro e w1 ⟨rfl, rfl⟩
  go_wp2_with fail
  refine (natParse_yes ⟨d.toArray⟩ m _ hm (by rw [HSZ.out]; exact h0) (by rw [HSZ.out]; exact h1) (by simpa using h2)).mono ?_
  rintro e w2 ⟨v, rfl, hv, hbv⟩
  have hv' : NatV w2 v (decVal d) := by simpa using hv
  have hboxA := hbox.below hbv
  have hbA : Below w.heap.size w w2 := hbW.trans (hbv.mono hbW.size)
  clear hv hbv
  go_wp2_with fail
  refine (signed_any _ _ _ _ hv').mono ?_
  rintro e w3 ⟨x, rfl, hx, hbx⟩
  obtain ⟨b2, a2, l2, k2, rfl, hv2, hb2⟩ := hx.parts
  have hboxB := hboxA.below hbx
  have hbB : Below w.heap.size w w3 := hbA.trans (hbx.mono hbA.size)
  obtain ⟨c0, c1, f0, f1, g0⟩ := hboxB
  clear hboxA hbx hbox
  go_wp2
  exact bodyPost_ret (v := .tuple #[.agg #[.bool b2, .slice a2 l2 k2], .bool true]) (by simp [results, Tryz.results41, go_sem, c0, c1]) rfl ⟨_, rfl, wholeV_boxed hv2 hb2 c0 c1,
    (hbB.setCell (by simp) _).setCell (by simp) _⟩

set_option maxRecDepth 100000 in
set_option maxHeartbeats 2000000 in
theorem fracParse_frac (K : Nat) (hK : K ≤ 1073741822) (hO : OverOK K) (s : ByteArray) (m : Nat) (w : World) (mx : Int) (hmx : w.cell? ⟨1, 0, none⟩ = some (.int .i64 mx)) (h1w : 1 < w.heap.size) (hm : m ≤ 1000000000) (hs : s.size < 4294967281) (a b : List UInt8) (hcut : Lib.cut s.data.toList [47] = (a, b, true))
    (ha0 : 0 < (Lib.trimPrefix a [45]).length) (ha1 : (Lib.trimPrefix a [45]).length ≤ m) (ha2 : allDig (Lib.trimPrefix a [45]) = true) (hb0 : 0 < b.length) (hb1 : b.length ≤ m) (hb2 : allDig b = true) (hbn : decVal b ≠ 0)
    (hz : decVal (Lib.trimPrefix a [45]) < 4294967296 ^ K) (hn : decVal b < 4294967296 ^ K) :
    Calls Tryz.prog 24 #[.string s, .int .i64 (m : Nat)] w fun e w' => ∃ x z, z = sg (Lib.hasPrefix a [45]) (decVal (Lib.trimPrefix a [45])) ∧ e = .returned (.tuple #[x, .bool true]) ∧ FracV w' x (z / (Nat.gcd z.natAbs (decVal b) : Int)) (decVal b / Nat.gcd z.natAbs (decVal b)) ∧ Below w.heap.size w w' := by
  have hbox : Box3 (w.alloc (.cells #[.bool false, .slice none 0 0, .slice none 0 0] 64)) w.heap.size (.bool false) (.slice none 0 0) (.slice none 0 0) := Box3.new _ _ _ _ _
  have hbW : Below w.heap.size w (w.alloc (.cells #[.bool false, .slice none 0 0, .slice none 0 0] 64)) := (Below.refl _ _).alloc (Nat.le_refl _) _
  have hmx2 : (w.alloc (.cells #[.bool false, .slice none 0 0, .slice none 0 0] 64)).cell? ⟨1, 0, none⟩ = some (.int .i64 mx) := (hbW.cell (p := ⟨1, 0, none⟩) h1w).trans hmx
  have hcp := Tryz.strings_Cut s ⟨#[47]⟩ mx (w.alloc (.cells #[.bool false, .slice none 0 0, .slice none 0 0] 64)) hs hmx2
  have e47 : (ByteArray.mk #[47]).data.toList = [47] := rfl
  rw [e47, hcut] at hcp
  have HCP := hide hcp
  have hp := fun W => wholeParse_yes ⟨a.toArray⟩ m W hm (by simpa using ha0) (by simpa using ha1) (by simpa using ha2)
  have ea : (ByteArray.mk a.toArray).data.toList = a := by simp
  rw [ea] at hp
  have HP := hide hp
  have hq := fun W => natParse_yes ⟨b.toArray⟩ m W hm (by rw [size_mk]; exact hb0) (by rw [size_mk]; exact hb1) (by simpa using hb2)
  have eb : (ByteArray.mk b.toArray).data.toList = b := by simp
  rw [eb] at hq
  have HQ := hide hq
  have hzz : (sg (Lib.hasPrefix a [45]) (decVal (Lib.trimPrefix a [45]))).natAbs < 4294967296 ^ K := by rw [sg_abs]; exact hz
  generalize sg (Lib.hasPrefix a [45]) (decVal (Lib.trimPrefix a [45])) = z at *
  generalize decVal b = n at *
  clear hcp hp hq ea eb e47 hcut ha0 ha1 ha2 hb0 hb1 hb2 hz hmx hmx2 hs
  go_enter Tryz.func24, Tryz.ntmps24
  go_wp2_with fail
  refine HCP.out.mono ?_
  rintro e w1 ⟨rfl, q1, rfl⟩
  go_wp2_with fail
  refine (HP.out _).mono ?_
  rintro e w2 ⟨x, rfl, hx, hbx⟩
  obtain ⟨b2, a2, l2, k2, rfl, hv2, hbb2⟩ := hx.parts
  have hboxA := (hbox.drewN q1).below hbx
  have hbA : Below w.heap.size w w2 := hbW.trans ((below_ofDrewN hbx).mono hbW.size)
  have hboxB := hboxA.alloc (.cells #[.bool b2, .slice a2 l2 k2] 62)
  have hxB := hx.alloc (.cells #[.bool b2, .slice a2 l2 k2] 62)
  have hbB : Below w.heap.size w (w2.alloc (.cells #[.bool b2, .slice a2 l2 k2] 62)) := hbA.alloc hbA.size _
  have hbox5 : Box2 (w2.alloc (.cells #[.bool b2, .slice a2 l2 k2] 62)) w2.heap.size (.bool b2) (.slice a2 l2 k2) := Box2.new _ _ _ _
  clear hbx hboxA hbox hx hv2 hbW
  go_wp2_with fail
  refine (HQ.out _).mono ?_
  rintro e w3 ⟨v, rfl, hv, hbv⟩
  have hboxC := hboxB.below hbv
  have hxC := hxB.below hbv
  have hbox6 := hbox5.below hbv
  have hbC : Below w.heap.size w w3 := hbB.trans (hbv.mono hbB.size)
  clear hbv hboxB hxB hbox5 hbB
  obtain ⟨i0, i1, i2, i3, i4⟩ := hbox6
  go_wp2_with fail
  refine (isZero_no _ _ _ hv hbn).mono ?_
  rintro e w4 ⟨rfl, rfl⟩
  go_wp2_with fail
  refine (reduced_any K hK hO _ _ _ z n hxC hv hbn hzz hn).mono ?_
  rintro e w5 ⟨y, rfl, hy, hby⟩
  obtain ⟨b3, a5, l5, k5, a6, l6, k6, rfl, hr1, hr2, hr3, hr4, hr5⟩ := hy.parts
  have hboxD := hboxC.below hby
  have hbD : Below w.heap.size w w5 := hbC.trans (hby.mono hbC.size)
  obtain ⟨c0, c1, c2, f0, f1, f2, g0⟩ := hboxD
  clear hby hboxC hxC i0 i1 i2 i3 i4 hy
  go_wp2
  exact bodyPost_ret (v := .tuple #[.agg #[.bool b3, .slice a5 l5 k5, .slice a6 l6 k6], .bool true]) (by simp [results, Tryz.results24, go_sem, c0, c1, c2]) rfl ⟨_, z, rfl, rfl, fracV_boxed hr1 hr2 hr3 hr4 hr5 c0 c1 c2,
    ((hbD.setCell (by simp) _).setCell (by simp) _).setCell (by simp) _⟩
end Go.Proofs.YtcmdglfjnepahaaGreatDoor
