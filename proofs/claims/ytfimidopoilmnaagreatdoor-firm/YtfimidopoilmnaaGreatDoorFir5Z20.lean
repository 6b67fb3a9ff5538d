import Derived.Test.YtfimidopoilmnaaGreatDoorFir5Z8
open Option renaming some->E
open Go.Proofs.Tryz renaming prog->pg
set_option linter.unusedSimpArgs false
set_option linter.unusedVariables false
set_option maxRecDepth 100000
namespace Go.Proofs.YtfimidopoilmnaaGreatDoor
open Go.ChangeShapes Go.WideShapes Go.ChangeAt Go.RowKit
theorem firm_j0:jf0 pg 3 Tryz.f3 Rows.firmSpec Rows.firmRow=true:=by kernel_rfl
theorem firm_j3:jf3 pg 3 Tryz.f3 Rows.firmSpec Rows.firmRow=true:=by kernel_rfl
theorem firm_j4:jf4 pg 3 Tryz.f3 Rows.firmSpec Rows.firmRow=true:=by kernel_rfl
theorem firm_j5:jf5 pg 3 Tryz.f3 Rows.firmSpec Rows.firmRow=true:=by kernel_rfl
theorem firm_j7:jf7 pg 3 Tryz.f3 Rows.firmSpec Rows.firmRow=true:=by kernel_rfl
theorem firm_j9:jf9 pg 3 Tryz.f3 Rows.firmSpec Rows.firmRow=true:=by kernel_rfl
theorem firm_j10:jf10 pg 3 Tryz.f3 Rows.firmSpec Rows.firmRow=true:=by kernel_rfl
theorem firm_j11:jf11 pg 3 Tryz.f3 Rows.firmSpec Rows.firmRow=true:=by kernel_rfl
theorem firm_j12:jf12 pg 3 Tryz.f3 Rows.firmSpec Rows.firmRow=true:=by kernel_rfl
theorem firm_j13:jf13 pg 3 Tryz.f3 Rows.firmSpec Rows.firmRow=true:=by kernel_rfl
theorem firm_j14:jf14 pg 3 Tryz.f3 Rows.firmSpec Rows.firmRow=true:=by kernel_rfl
theorem firm_j15:jf15 pg 3 Tryz.f3 Rows.firmSpec Rows.firmRow=true:=by kernel_rfl
theorem firm_j16:jf16 pg 3 Tryz.f3 Rows.firmSpec Rows.firmRow=true:=by kernel_rfl
theorem firm_j17:jf17 pg 3 Tryz.f3 Rows.firmSpec Rows.firmRow=true:=by kernel_rfl
theorem firm_j18:jf18 pg 3 Tryz.f3 Rows.firmSpec Rows.firmRow=true:=by kernel_rfl
theorem firm_j19:jf19 pg 3 Tryz.f3 Rows.firmSpec Rows.firmRow=true:=by kernel_rfl
theorem firm_j20:jf20 pg 3 Tryz.f3 Rows.firmSpec Rows.firmRow=true:=by kernel_rfl
theorem firm_j21:jf21 pg 3 Tryz.f3 Rows.firmSpec Rows.firmRow=true:=by kernel_rfl
theorem firm_j22:jf22 pg 3 Tryz.f3 Rows.firmSpec Rows.firmRow=true:=by kernel_rfl
theorem firm_j23:jf23 pg 3 Tryz.f3 Rows.firmSpec Rows.firmRow=true:=by kernel_rfl
theorem firm_j26:jf26 pg 3 Tryz.f3 Rows.firmSpec Rows.firmRow=true:=by kernel_rfl
theorem firm_j27:jf27 pg 3 Tryz.f3 Rows.firmSpec Rows.firmRow=true:=by kernel_rfl
theorem firm_j28:jf28 pg 3 Tryz.f3 Rows.firmSpec Rows.firmRow=true:=by kernel_rfl
theorem firm_j29:jf29 pg 3 Tryz.f3 Rows.firmSpec Rows.firmRow=true:=by kernel_rfl
theorem firm_j30:jf30 pg 3 Tryz.f3 Rows.firmSpec Rows.firmRow=true:=by kernel_rfl
theorem firm_j31:jf31 pg 3 Tryz.f3 Rows.firmSpec Rows.firmRow=true:=by kernel_rfl
theorem firm_main:Tryz.prog.mainIs=E (Rows.firmCard.stood.harness.1,Rows.firmCard.stood.harness.2.toList):=by kernel_rfl
theorem firm_goes:false=Rows.firmRow.goesBy pg:=by kernel_rfl
theorem firm_named:Tryz.prog.funcNamed Rows.firmRow.func=E 3:=by kernel_rfl
theorem firm_closed:joinedFacts pg 3 Tryz.f3 Rows.firmSpec Rows.firmRow=true:=
 zoU firm_j0 (jp1 _ _ _ _) (jp2 _ _ _ _) firm_j3 firm_j4 firm_j5 (jp6 _ _ _ _) firm_j7 (jp8 _ _ _ _) firm_j9 firm_j10 firm_j11 firm_j12 firm_j13 firm_j14 firm_j15 firm_j16 firm_j17 firm_j18 firm_j19 firm_j20 firm_j21 firm_j22 firm_j23 (jp24 _ _ _ _) (jp25 _ _ _ _) firm_j26 firm_j27 firm_j28 firm_j29 firm_j30 firm_j31
