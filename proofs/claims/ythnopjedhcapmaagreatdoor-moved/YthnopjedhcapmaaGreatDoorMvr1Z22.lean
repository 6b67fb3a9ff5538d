import Derived.Test.YthnopjedhcapmaaGreatDoorMvr1Z9
open Option renaming some->E
open Go.Proofs.Tryz renaming prog->pg
set_option linter.unusedSimpArgs false
set_option linter.unusedVariables false
set_option maxRecDepth 100000
namespace Go.Proofs.YthnopjedhcapmaaGreatDoor
open Go.ChangeShapes Go.WideShapes Go.ChangeAt Go.RowKit
theorem moved_j0:jf0 pg 3 Tryz.f3 Rows.movedSpec Rows.movedRow=true:=by kernel_rfl
theorem moved_j3:jf3 pg 3 Tryz.f3 Rows.movedSpec Rows.movedRow=true:=by kernel_rfl
theorem moved_j4:jf4 pg 3 Tryz.f3 Rows.movedSpec Rows.movedRow=true:=by kernel_rfl
theorem moved_j5:jf5 pg 3 Tryz.f3 Rows.movedSpec Rows.movedRow=true:=by kernel_rfl
theorem moved_j7:jf7 pg 3 Tryz.f3 Rows.movedSpec Rows.movedRow=true:=by kernel_rfl
theorem moved_j9:jf9 pg 3 Tryz.f3 Rows.movedSpec Rows.movedRow=true:=by kernel_rfl
theorem moved_j10:jf10 pg 3 Tryz.f3 Rows.movedSpec Rows.movedRow=true:=by kernel_rfl
theorem moved_j11:jf11 pg 3 Tryz.f3 Rows.movedSpec Rows.movedRow=true:=by kernel_rfl
theorem moved_j12:jf12 pg 3 Tryz.f3 Rows.movedSpec Rows.movedRow=true:=by kernel_rfl
theorem moved_j13:jf13 pg 3 Tryz.f3 Rows.movedSpec Rows.movedRow=true:=by kernel_rfl
theorem moved_j14:jf14 pg 3 Tryz.f3 Rows.movedSpec Rows.movedRow=true:=by kernel_rfl
theorem moved_j15:jf15 pg 3 Tryz.f3 Rows.movedSpec Rows.movedRow=true:=by kernel_rfl
theorem moved_j16:jf16 pg 3 Tryz.f3 Rows.movedSpec Rows.movedRow=true:=by kernel_rfl
theorem moved_j17:jf17 pg 3 Tryz.f3 Rows.movedSpec Rows.movedRow=true:=by kernel_rfl
theorem moved_j18:jf18 pg 3 Tryz.f3 Rows.movedSpec Rows.movedRow=true:=by kernel_rfl
theorem moved_j19:jf19 pg 3 Tryz.f3 Rows.movedSpec Rows.movedRow=true:=by kernel_rfl
theorem moved_j20:jf20 pg 3 Tryz.f3 Rows.movedSpec Rows.movedRow=true:=by kernel_rfl
theorem moved_j21:jf21 pg 3 Tryz.f3 Rows.movedSpec Rows.movedRow=true:=by kernel_rfl
theorem moved_j22:jf22 pg 3 Tryz.f3 Rows.movedSpec Rows.movedRow=true:=by kernel_rfl
theorem moved_j23:jf23 pg 3 Tryz.f3 Rows.movedSpec Rows.movedRow=true:=by kernel_rfl
theorem moved_j26:jf26 pg 3 Tryz.f3 Rows.movedSpec Rows.movedRow=true:=by kernel_rfl
theorem moved_j27:jf27 pg 3 Tryz.f3 Rows.movedSpec Rows.movedRow=true:=by kernel_rfl
theorem moved_j28:jf28 pg 3 Tryz.f3 Rows.movedSpec Rows.movedRow=true:=by kernel_rfl
theorem moved_j29:jf29 pg 3 Tryz.f3 Rows.movedSpec Rows.movedRow=true:=by kernel_rfl
theorem moved_j30:jf30 pg 3 Tryz.f3 Rows.movedSpec Rows.movedRow=true:=by kernel_rfl
theorem moved_j31:jf31 pg 3 Tryz.f3 Rows.movedSpec Rows.movedRow=true:=by kernel_rfl
theorem moved_main:Tryz.prog.mainIs=E (Rows.movedCard.stood.harness.1,Rows.movedCard.stood.harness.2.toList):=by kernel_rfl
theorem moved_goes:false=Rows.movedRow.goesBy pg:=by kernel_rfl
theorem moved_named:Tryz.prog.funcNamed Rows.movedRow.func=E 3:=by kernel_rfl
theorem moved_closed:joinedFacts pg 3 Tryz.f3 Rows.movedSpec Rows.movedRow=true:=
 zoU moved_j0 (jp1 _ _ _ _) (jp2 _ _ _ _) moved_j3 moved_j4 moved_j5 (jp6 _ _ _ _) moved_j7 (jp8 _ _ _ _) moved_j9 moved_j10 moved_j11 moved_j12 moved_j13 moved_j14 moved_j15 moved_j16 moved_j17 moved_j18 moved_j19 moved_j20 moved_j21 moved_j22 moved_j23 (jp24 _ _ _ _) (jp25 _ _ _ _) moved_j26 moved_j27 moved_j28 moved_j29 moved_j30 moved_j31
