/-
  Part 40 of the texts ahead of Pls1: Pls0.
-/
import Derived.Test.YtnhfdcfnojnofaaGreatDoorPls1Z39
import Derived.ChangeArms
import Derived.Carry
set_option linter.unusedSimpArgs false
set_option linter.unusedVariables false
/-
  PLANESLAW'S PLAINS: what the row asks of the text alone.
-/
namespace Go.Proofs.YtnhfdcfnojnofaaGreatDoor
open Go.ChangeShapes Go.WideShapes Go.ChangeAt Go.RowKit

set_option maxRecDepth 100000 in
theorem plains_j0 : jf0 Tryz.prog 6 Tryz.f6 Rows.plainsSpec Rows.plainsRow = true := by kernel_rfl
set_option maxRecDepth 100000 in
theorem plains_j3 : jf3 Tryz.prog 6 Tryz.f6 Rows.plainsSpec Rows.plainsRow = true := by kernel_rfl
set_option maxRecDepth 100000 in
theorem plains_j4 : jf4 Tryz.prog 6 Tryz.f6 Rows.plainsSpec Rows.plainsRow = true := by kernel_rfl
set_option maxRecDepth 100000 in
theorem plains_j5 : jf5 Tryz.prog 6 Tryz.f6 Rows.plainsSpec Rows.plainsRow = true := by kernel_rfl
set_option maxRecDepth 100000 in
theorem plains_j7 : jf7 Tryz.prog 6 Tryz.f6 Rows.plainsSpec Rows.plainsRow = true := by kernel_rfl
set_option maxRecDepth 100000 in
theorem plains_j9 : jf9 Tryz.prog 6 Tryz.f6 Rows.plainsSpec Rows.plainsRow = true := by kernel_rfl
set_option maxRecDepth 100000 in
theorem plains_j10 : jf10 Tryz.prog 6 Tryz.f6 Rows.plainsSpec Rows.plainsRow = true := by kernel_rfl
set_option maxRecDepth 100000 in
theorem plains_j11 : jf11 Tryz.prog 6 Tryz.f6 Rows.plainsSpec Rows.plainsRow = true := by kernel_rfl
set_option maxRecDepth 100000 in
theorem plains_j12 : jf12 Tryz.prog 6 Tryz.f6 Rows.plainsSpec Rows.plainsRow = true := by kernel_rfl
set_option maxRecDepth 100000 in
theorem plains_j13 : jf13 Tryz.prog 6 Tryz.f6 Rows.plainsSpec Rows.plainsRow = true := by kernel_rfl
set_option maxRecDepth 100000 in
theorem plains_j14 : jf14 Tryz.prog 6 Tryz.f6 Rows.plainsSpec Rows.plainsRow = true := by kernel_rfl
set_option maxRecDepth 100000 in
theorem plains_j15 : jf15 Tryz.prog 6 Tryz.f6 Rows.plainsSpec Rows.plainsRow = true := by kernel_rfl
set_option maxRecDepth 100000 in
theorem plains_j16 : jf16 Tryz.prog 6 Tryz.f6 Rows.plainsSpec Rows.plainsRow = true := by kernel_rfl
set_option maxRecDepth 100000 in
theorem plains_j17 : jf17 Tryz.prog 6 Tryz.f6 Rows.plainsSpec Rows.plainsRow = true := by kernel_rfl
set_option maxRecDepth 100000 in
theorem plains_j18 : jf18 Tryz.prog 6 Tryz.f6 Rows.plainsSpec Rows.plainsRow = true := by kernel_rfl
set_option maxRecDepth 100000 in
theorem plains_j19 : jf19 Tryz.prog 6 Tryz.f6 Rows.plainsSpec Rows.plainsRow = true := by kernel_rfl
set_option maxRecDepth 100000 in
theorem plains_j20 : jf20 Tryz.prog 6 Tryz.f6 Rows.plainsSpec Rows.plainsRow = true := by kernel_rfl
set_option maxRecDepth 100000 in
theorem plains_j21 : jf21 Tryz.prog 6 Tryz.f6 Rows.plainsSpec Rows.plainsRow = true := by kernel_rfl
set_option maxRecDepth 100000 in
theorem plains_j22 : jf22 Tryz.prog 6 Tryz.f6 Rows.plainsSpec Rows.plainsRow = true := by kernel_rfl
set_option maxRecDepth 100000 in
theorem plains_j23 : jf23 Tryz.prog 6 Tryz.f6 Rows.plainsSpec Rows.plainsRow = true := by kernel_rfl
set_option maxRecDepth 100000 in
theorem plains_j26 : jf26 Tryz.prog 6 Tryz.f6 Rows.plainsSpec Rows.plainsRow = true := by kernel_rfl
set_option maxRecDepth 100000 in
theorem plains_j27 : jf27 Tryz.prog 6 Tryz.f6 Rows.plainsSpec Rows.plainsRow = true := by kernel_rfl
set_option maxRecDepth 100000 in
theorem plains_j28 : jf28 Tryz.prog 6 Tryz.f6 Rows.plainsSpec Rows.plainsRow = true := by kernel_rfl
set_option maxRecDepth 100000 in
theorem plains_j29 : jf29 Tryz.prog 6 Tryz.f6 Rows.plainsSpec Rows.plainsRow = true := by kernel_rfl
set_option maxRecDepth 100000 in
theorem plains_j30 : jf30 Tryz.prog 6 Tryz.f6 Rows.plainsSpec Rows.plainsRow = true := by kernel_rfl
set_option maxRecDepth 100000 in
theorem plains_j31 : jf31 Tryz.prog 6 Tryz.f6 Rows.plainsSpec Rows.plainsRow = true := by kernel_rfl
set_option maxRecDepth 100000 in
theorem plains_main : Tryz.prog.mainIs = some (Rows.plainsCard.stood.harness.1, Rows.plainsCard.stood.harness.2.toList) := by kernel_rfl
set_option maxRecDepth 100000 in
theorem plains_goes : false = Rows.plainsRow.goesBy Tryz.prog := by kernel_rfl
set_option maxRecDepth 100000 in
theorem plains_named : Tryz.prog.funcNamed Rows.plainsRow.func = some 6 := by kernel_rfl
set_option maxRecDepth 100000 in
theorem plains_closed : joinedFacts Tryz.prog 6 Tryz.f6 Rows.plainsSpec Rows.plainsRow = true :=
  joined_of plains_j0 (jp1 _ _ _ _) (jp2 _ _ _ _) plains_j3 plains_j4 plains_j5 (jp6 _ _ _ _) plains_j7 (jp8 _ _ _ _) plains_j9 plains_j10 plains_j11 plains_j12 plains_j13 plains_j14 plains_j15 plains_j16 plains_j17 plains_j18 plains_j19 plains_j20 plains_j21 plains_j22 plains_j23 (jp24 _ _ _ _) (jp25 _ _ _ _) plains_j26 plains_j27 plains_j28 plains_j29 plains_j30 plains_j31
end Go.Proofs.YtnhfdcfnojnofaaGreatDoor
