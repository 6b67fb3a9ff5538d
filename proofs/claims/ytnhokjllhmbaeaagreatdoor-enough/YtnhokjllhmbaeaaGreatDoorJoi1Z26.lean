import Derived.Test.YtnhokjllhmbaeaaGreatDoorJoi1Z9
set_option linter.unusedSimpArgs false
set_option linter.unusedVariables false
set_option maxRecDepth 100000
namespace Go.Proofs.YtnhokjllhmbaeaaGreatDoor
open Go.ChangeShapes Go.WideShapes Go.ChangeAt Go.RowKit
theorem enough_j0:jf0 Tryz.prog 4 Tryz.f4 Rows.enoughSpec Rows.enoughRow=true:=by kernel_rfl
theorem enough_j3:jf3 Tryz.prog 4 Tryz.f4 Rows.enoughSpec Rows.enoughRow=true:=by kernel_rfl
theorem enough_j4:jf4 Tryz.prog 4 Tryz.f4 Rows.enoughSpec Rows.enoughRow=true:=by kernel_rfl
theorem enough_j5:jf5 Tryz.prog 4 Tryz.f4 Rows.enoughSpec Rows.enoughRow=true:=by kernel_rfl
theorem enough_j7:jf7 Tryz.prog 4 Tryz.f4 Rows.enoughSpec Rows.enoughRow=true:=by kernel_rfl
theorem enough_j9:jf9 Tryz.prog 4 Tryz.f4 Rows.enoughSpec Rows.enoughRow=true:=by kernel_rfl
theorem enough_j10:jf10 Tryz.prog 4 Tryz.f4 Rows.enoughSpec Rows.enoughRow=true:=by kernel_rfl
theorem enough_j11:jf11 Tryz.prog 4 Tryz.f4 Rows.enoughSpec Rows.enoughRow=true:=by kernel_rfl
theorem enough_j12:jf12 Tryz.prog 4 Tryz.f4 Rows.enoughSpec Rows.enoughRow=true:=by kernel_rfl
theorem enough_j13:jf13 Tryz.prog 4 Tryz.f4 Rows.enoughSpec Rows.enoughRow=true:=by kernel_rfl
theorem enough_j14:jf14 Tryz.prog 4 Tryz.f4 Rows.enoughSpec Rows.enoughRow=true:=by kernel_rfl
theorem enough_j15:jf15 Tryz.prog 4 Tryz.f4 Rows.enoughSpec Rows.enoughRow=true:=by kernel_rfl
theorem enough_j16:jf16 Tryz.prog 4 Tryz.f4 Rows.enoughSpec Rows.enoughRow=true:=by kernel_rfl
theorem enough_j17:jf17 Tryz.prog 4 Tryz.f4 Rows.enoughSpec Rows.enoughRow=true:=by kernel_rfl
theorem enough_j18:jf18 Tryz.prog 4 Tryz.f4 Rows.enoughSpec Rows.enoughRow=true:=by kernel_rfl
theorem enough_j19:jf19 Tryz.prog 4 Tryz.f4 Rows.enoughSpec Rows.enoughRow=true:=by kernel_rfl
theorem enough_j20:jf20 Tryz.prog 4 Tryz.f4 Rows.enoughSpec Rows.enoughRow=true:=by kernel_rfl
theorem enough_j21:jf21 Tryz.prog 4 Tryz.f4 Rows.enoughSpec Rows.enoughRow=true:=by kernel_rfl
theorem enough_j22:jf22 Tryz.prog 4 Tryz.f4 Rows.enoughSpec Rows.enoughRow=true:=by kernel_rfl
theorem enough_j23:jf23 Tryz.prog 4 Tryz.f4 Rows.enoughSpec Rows.enoughRow=true:=by kernel_rfl
theorem enough_j26:jf26 Tryz.prog 4 Tryz.f4 Rows.enoughSpec Rows.enoughRow=true:=by kernel_rfl
theorem enough_j27:jf27 Tryz.prog 4 Tryz.f4 Rows.enoughSpec Rows.enoughRow=true:=by kernel_rfl
theorem enough_j28:jf28 Tryz.prog 4 Tryz.f4 Rows.enoughSpec Rows.enoughRow=true:=by kernel_rfl
theorem enough_j29:jf29 Tryz.prog 4 Tryz.f4 Rows.enoughSpec Rows.enoughRow=true:=by kernel_rfl
theorem enough_j30:jf30 Tryz.prog 4 Tryz.f4 Rows.enoughSpec Rows.enoughRow=true:=by kernel_rfl
theorem enough_j31:jf31 Tryz.prog 4 Tryz.f4 Rows.enoughSpec Rows.enoughRow=true:=by kernel_rfl
theorem enough_main:Tryz.prog.mainIs=some (Rows.enoughCard.stood.harness.1,Rows.enoughCard.stood.harness.2.toList):=by kernel_rfl
theorem enough_goes:false=Rows.enoughRow.goesBy Tryz.prog:=by kernel_rfl
theorem enough_named:Tryz.prog.funcNamed Rows.enoughRow.func=some 4:=by kernel_rfl
theorem enough_closed:joinedFacts Tryz.prog 4 Tryz.f4 Rows.enoughSpec Rows.enoughRow=true:=
 zoU enough_j0 (jp1 _ _ _ _) (jp2 _ _ _ _) enough_j3 enough_j4 enough_j5 (jp6 _ _ _ _) enough_j7 (jp8 _ _ _ _) enough_j9 enough_j10 enough_j11 enough_j12 enough_j13 enough_j14 enough_j15 enough_j16 enough_j17 enough_j18 enough_j19 enough_j20 enough_j21 enough_j22 enough_j23 (jp24 _ _ _ _) (jp25 _ _ _ _) enough_j26 enough_j27 enough_j28 enough_j29 enough_j30 enough_j31
