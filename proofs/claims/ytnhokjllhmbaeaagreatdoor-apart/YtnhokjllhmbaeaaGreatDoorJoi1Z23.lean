import Derived.Test.YtnhokjllhmbaeaaGreatDoorJoi1Z9
set_option linter.unusedSimpArgs false
set_option linter.unusedVariables false
set_option maxRecDepth 100000
namespace Go.Proofs.YtnhokjllhmbaeaaGreatDoor
open Go.ChangeShapes Go.WideShapes Go.ChangeAt Go.RowKit
theorem apart_j0:jf0 Tryz.prog 5 Tryz.f5 Rows.apartSpec Rows.apartRow=true:=by kernel_rfl
theorem apart_j3:jf3 Tryz.prog 5 Tryz.f5 Rows.apartSpec Rows.apartRow=true:=by kernel_rfl
theorem apart_j4:jf4 Tryz.prog 5 Tryz.f5 Rows.apartSpec Rows.apartRow=true:=by kernel_rfl
theorem apart_j5:jf5 Tryz.prog 5 Tryz.f5 Rows.apartSpec Rows.apartRow=true:=by kernel_rfl
theorem apart_j7:jf7 Tryz.prog 5 Tryz.f5 Rows.apartSpec Rows.apartRow=true:=by kernel_rfl
theorem apart_j9:jf9 Tryz.prog 5 Tryz.f5 Rows.apartSpec Rows.apartRow=true:=by kernel_rfl
theorem apart_j10:jf10 Tryz.prog 5 Tryz.f5 Rows.apartSpec Rows.apartRow=true:=by kernel_rfl
theorem apart_j11:jf11 Tryz.prog 5 Tryz.f5 Rows.apartSpec Rows.apartRow=true:=by kernel_rfl
theorem apart_j12:jf12 Tryz.prog 5 Tryz.f5 Rows.apartSpec Rows.apartRow=true:=by kernel_rfl
theorem apart_j13:jf13 Tryz.prog 5 Tryz.f5 Rows.apartSpec Rows.apartRow=true:=by kernel_rfl
theorem apart_j14:jf14 Tryz.prog 5 Tryz.f5 Rows.apartSpec Rows.apartRow=true:=by kernel_rfl
theorem apart_j15:jf15 Tryz.prog 5 Tryz.f5 Rows.apartSpec Rows.apartRow=true:=by kernel_rfl
theorem apart_j16:jf16 Tryz.prog 5 Tryz.f5 Rows.apartSpec Rows.apartRow=true:=by kernel_rfl
theorem apart_j17:jf17 Tryz.prog 5 Tryz.f5 Rows.apartSpec Rows.apartRow=true:=by kernel_rfl
theorem apart_j18:jf18 Tryz.prog 5 Tryz.f5 Rows.apartSpec Rows.apartRow=true:=by kernel_rfl
theorem apart_j19:jf19 Tryz.prog 5 Tryz.f5 Rows.apartSpec Rows.apartRow=true:=by kernel_rfl
theorem apart_j20:jf20 Tryz.prog 5 Tryz.f5 Rows.apartSpec Rows.apartRow=true:=by kernel_rfl
theorem apart_j21:jf21 Tryz.prog 5 Tryz.f5 Rows.apartSpec Rows.apartRow=true:=by kernel_rfl
theorem apart_j22:jf22 Tryz.prog 5 Tryz.f5 Rows.apartSpec Rows.apartRow=true:=by kernel_rfl
theorem apart_j23:jf23 Tryz.prog 5 Tryz.f5 Rows.apartSpec Rows.apartRow=true:=by kernel_rfl
theorem apart_j26:jf26 Tryz.prog 5 Tryz.f5 Rows.apartSpec Rows.apartRow=true:=by kernel_rfl
theorem apart_j27:jf27 Tryz.prog 5 Tryz.f5 Rows.apartSpec Rows.apartRow=true:=by kernel_rfl
theorem apart_j28:jf28 Tryz.prog 5 Tryz.f5 Rows.apartSpec Rows.apartRow=true:=by kernel_rfl
theorem apart_j29:jf29 Tryz.prog 5 Tryz.f5 Rows.apartSpec Rows.apartRow=true:=by kernel_rfl
theorem apart_j30:jf30 Tryz.prog 5 Tryz.f5 Rows.apartSpec Rows.apartRow=true:=by kernel_rfl
theorem apart_j31:jf31 Tryz.prog 5 Tryz.f5 Rows.apartSpec Rows.apartRow=true:=by kernel_rfl
theorem apart_main:Tryz.prog.mainIs=some (Rows.apartCard.stood.harness.1,Rows.apartCard.stood.harness.2.toList):=by kernel_rfl
theorem apart_goes:false=Rows.apartRow.goesBy Tryz.prog:=by kernel_rfl
theorem apart_named:Tryz.prog.funcNamed Rows.apartRow.func=some 5:=by kernel_rfl
theorem apart_closed:joinedFacts Tryz.prog 5 Tryz.f5 Rows.apartSpec Rows.apartRow=true:=
 zoU apart_j0 (jp1 _ _ _ _) (jp2 _ _ _ _) apart_j3 apart_j4 apart_j5 (jp6 _ _ _ _) apart_j7 (jp8 _ _ _ _) apart_j9 apart_j10 apart_j11 apart_j12 apart_j13 apart_j14 apart_j15 apart_j16 apart_j17 apart_j18 apart_j19 apart_j20 apart_j21 apart_j22 apart_j23 (jp24 _ _ _ _) (jp25 _ _ _ _) apart_j26 apart_j27 apart_j28 apart_j29 apart_j30 apart_j31
