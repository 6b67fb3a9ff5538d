/-
  Part 33 of the texts ahead of Pks1: Pks0.
-/
import Derived.Test.YtnhfdcfnojnofaaGreatDoorPks1Z32
import Derived.ChangeArms
import Derived.Carry
set_option linter.unusedSimpArgs false
set_option linter.unusedVariables false
/-
  PLANESKEEP'S PLAIN: what the row asks of the text alone.
-/
namespace Go.Proofs.YtnhfdcfnojnofaaGreatDoor
open Go.ChangeShapes Go.WideShapes Go.ChangeAt Go.RowKit

set_option maxRecDepth 100000 in
theorem plain_j0 : jf0 Tryz.prog 7 Tryz.f7 Rows.plainSpec Rows.plainRow = true := by kernel_rfl
set_option maxRecDepth 100000 in
theorem plain_j3 : jf3 Tryz.prog 7 Tryz.f7 Rows.plainSpec Rows.plainRow = true := by kernel_rfl
set_option maxRecDepth 100000 in
theorem plain_j4 : jf4 Tryz.prog 7 Tryz.f7 Rows.plainSpec Rows.plainRow = true := by kernel_rfl
set_option maxRecDepth 100000 in
theorem plain_j5 : jf5 Tryz.prog 7 Tryz.f7 Rows.plainSpec Rows.plainRow = true := by kernel_rfl
set_option maxRecDepth 100000 in
theorem plain_j7 : jf7 Tryz.prog 7 Tryz.f7 Rows.plainSpec Rows.plainRow = true := by kernel_rfl
set_option maxRecDepth 100000 in
theorem plain_j9 : jf9 Tryz.prog 7 Tryz.f7 Rows.plainSpec Rows.plainRow = true := by kernel_rfl
set_option maxRecDepth 100000 in
theorem plain_j10 : jf10 Tryz.prog 7 Tryz.f7 Rows.plainSpec Rows.plainRow = true := by kernel_rfl
set_option maxRecDepth 100000 in
theorem plain_j11 : jf11 Tryz.prog 7 Tryz.f7 Rows.plainSpec Rows.plainRow = true := by kernel_rfl
set_option maxRecDepth 100000 in
theorem plain_j12 : jf12 Tryz.prog 7 Tryz.f7 Rows.plainSpec Rows.plainRow = true := by kernel_rfl
set_option maxRecDepth 100000 in
theorem plain_j13 : jf13 Tryz.prog 7 Tryz.f7 Rows.plainSpec Rows.plainRow = true := by kernel_rfl
set_option maxRecDepth 100000 in
theorem plain_j14 : jf14 Tryz.prog 7 Tryz.f7 Rows.plainSpec Rows.plainRow = true := by kernel_rfl
set_option maxRecDepth 100000 in
theorem plain_j15 : jf15 Tryz.prog 7 Tryz.f7 Rows.plainSpec Rows.plainRow = true := by kernel_rfl
set_option maxRecDepth 100000 in
theorem plain_j16 : jf16 Tryz.prog 7 Tryz.f7 Rows.plainSpec Rows.plainRow = true := by kernel_rfl
set_option maxRecDepth 100000 in
theorem plain_j17 : jf17 Tryz.prog 7 Tryz.f7 Rows.plainSpec Rows.plainRow = true := by kernel_rfl
set_option maxRecDepth 100000 in
theorem plain_j18 : jf18 Tryz.prog 7 Tryz.f7 Rows.plainSpec Rows.plainRow = true := by kernel_rfl
set_option maxRecDepth 100000 in
theorem plain_j19 : jf19 Tryz.prog 7 Tryz.f7 Rows.plainSpec Rows.plainRow = true := by kernel_rfl
set_option maxRecDepth 100000 in
theorem plain_j20 : jf20 Tryz.prog 7 Tryz.f7 Rows.plainSpec Rows.plainRow = true := by kernel_rfl
set_option maxRecDepth 100000 in
theorem plain_j21 : jf21 Tryz.prog 7 Tryz.f7 Rows.plainSpec Rows.plainRow = true := by kernel_rfl
set_option maxRecDepth 100000 in
theorem plain_j22 : jf22 Tryz.prog 7 Tryz.f7 Rows.plainSpec Rows.plainRow = true := by kernel_rfl
set_option maxRecDepth 100000 in
theorem plain_j23 : jf23 Tryz.prog 7 Tryz.f7 Rows.plainSpec Rows.plainRow = true := by kernel_rfl
set_option maxRecDepth 100000 in
theorem plain_j26 : jf26 Tryz.prog 7 Tryz.f7 Rows.plainSpec Rows.plainRow = true := by kernel_rfl
set_option maxRecDepth 100000 in
theorem plain_j27 : jf27 Tryz.prog 7 Tryz.f7 Rows.plainSpec Rows.plainRow = true := by kernel_rfl
set_option maxRecDepth 100000 in
theorem plain_j28 : jf28 Tryz.prog 7 Tryz.f7 Rows.plainSpec Rows.plainRow = true := by kernel_rfl
set_option maxRecDepth 100000 in
theorem plain_j29 : jf29 Tryz.prog 7 Tryz.f7 Rows.plainSpec Rows.plainRow = true := by kernel_rfl
set_option maxRecDepth 100000 in
theorem plain_j30 : jf30 Tryz.prog 7 Tryz.f7 Rows.plainSpec Rows.plainRow = true := by kernel_rfl
set_option maxRecDepth 100000 in
theorem plain_j31 : jf31 Tryz.prog 7 Tryz.f7 Rows.plainSpec Rows.plainRow = true := by kernel_rfl
set_option maxRecDepth 100000 in
theorem plain_main : Tryz.prog.mainIs = some (Rows.plainCard.stood.harness.1, Rows.plainCard.stood.harness.2.toList) := by kernel_rfl
set_option maxRecDepth 100000 in
theorem plain_goes : false = Rows.plainRow.goesBy Tryz.prog := by kernel_rfl
set_option maxRecDepth 100000 in
theorem plain_named : Tryz.prog.funcNamed Rows.plainRow.func = some 7 := by kernel_rfl
set_option maxRecDepth 100000 in
theorem plain_closed : joinedFacts Tryz.prog 7 Tryz.f7 Rows.plainSpec Rows.plainRow = true :=
  joined_of plain_j0 (jp1 _ _ _ _) (jp2 _ _ _ _) plain_j3 plain_j4 plain_j5 (jp6 _ _ _ _) plain_j7 (jp8 _ _ _ _) plain_j9 plain_j10 plain_j11 plain_j12 plain_j13 plain_j14 plain_j15 plain_j16 plain_j17 plain_j18 plain_j19 plain_j20 plain_j21 plain_j22 plain_j23 (jp24 _ _ _ _) (jp25 _ _ _ _) plain_j26 plain_j27 plain_j28 plain_j29 plain_j30 plain_j31
end Go.Proofs.YtnhfdcfnojnofaaGreatDoor
