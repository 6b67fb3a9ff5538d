import Derived.Test.YtnhfdcfnojnofaaGreatDoorAds1Z50
open Option renaming some->E
open Go.Proofs.Tryz renaming prog->pg
set_option linter.unusedSimpArgs false
set_option linter.unusedVariables false
set_option maxRecDepth 100000
namespace Go.Proofs.YtnhfdcfnojnofaaGreatDoor
open Go.ChangeShapes Go.WideShapes Go.ChangeAt Go.RowKit
theorem zmN:jf0 pg 8 Tryz.f8 Rows.auditsSpec Rows.auditsRow=true:=by kernel_rfl
theorem zmO:jf3 pg 8 Tryz.f8 Rows.auditsSpec Rows.auditsRow=true:=by kernel_rfl
theorem zmP:jf4 pg 8 Tryz.f8 Rows.auditsSpec Rows.auditsRow=true:=by kernel_rfl
theorem zmQ:jf5 pg 8 Tryz.f8 Rows.auditsSpec Rows.auditsRow=true:=by kernel_rfl
theorem zmR:jf7 pg 8 Tryz.f8 Rows.auditsSpec Rows.auditsRow=true:=by kernel_rfl
theorem zmS:jf9 pg 8 Tryz.f8 Rows.auditsSpec Rows.auditsRow=true:=by kernel_rfl
theorem zlp:jf10 pg 8 Tryz.f8 Rows.auditsSpec Rows.auditsRow=true:=by kernel_rfl
theorem zlq:jf11 pg 8 Tryz.f8 Rows.auditsSpec Rows.auditsRow=true:=by kernel_rfl
theorem zlr:jf12 pg 8 Tryz.f8 Rows.auditsSpec Rows.auditsRow=true:=by kernel_rfl
theorem zls:jf13 pg 8 Tryz.f8 Rows.auditsSpec Rows.auditsRow=true:=by kernel_rfl
theorem zlt:jf14 pg 8 Tryz.f8 Rows.auditsSpec Rows.auditsRow=true:=by kernel_rfl
theorem zlu:jf15 pg 8 Tryz.f8 Rows.auditsSpec Rows.auditsRow=true:=by kernel_rfl
theorem zlv:jf16 pg 8 Tryz.f8 Rows.auditsSpec Rows.auditsRow=true:=by kernel_rfl
theorem zlw:jf17 pg 8 Tryz.f8 Rows.auditsSpec Rows.auditsRow=true:=by kernel_rfl
theorem zlx:jf18 pg 8 Tryz.f8 Rows.auditsSpec Rows.auditsRow=true:=by kernel_rfl
theorem zly:jf19 pg 8 Tryz.f8 Rows.auditsSpec Rows.auditsRow=true:=by kernel_rfl
theorem zlz:jf20 pg 8 Tryz.f8 Rows.auditsSpec Rows.auditsRow=true:=by kernel_rfl
theorem zlA:jf21 pg 8 Tryz.f8 Rows.auditsSpec Rows.auditsRow=true:=by kernel_rfl
theorem zlB:jf22 pg 8 Tryz.f8 Rows.auditsSpec Rows.auditsRow=true:=by kernel_rfl
theorem zlC:jf23 pg 8 Tryz.f8 Rows.auditsSpec Rows.auditsRow=true:=by kernel_rfl
theorem zlD:jf26 pg 8 Tryz.f8 Rows.auditsSpec Rows.auditsRow=true:=by kernel_rfl
theorem zlE:jf27 pg 8 Tryz.f8 Rows.auditsSpec Rows.auditsRow=true:=by kernel_rfl
theorem zlF:jf28 pg 8 Tryz.f8 Rows.auditsSpec Rows.auditsRow=true:=by kernel_rfl
theorem zlG:jf29 pg 8 Tryz.f8 Rows.auditsSpec Rows.auditsRow=true:=by kernel_rfl
theorem zlH:jf30 pg 8 Tryz.f8 Rows.auditsSpec Rows.auditsRow=true:=by kernel_rfl
theorem zlI:jf31 pg 8 Tryz.f8 Rows.auditsSpec Rows.auditsRow=true:=by kernel_rfl
theorem zkh:Tryz.prog.mainIs=E (Rows.auditsCard.stood.harness.1,Rows.auditsCard.stood.harness.2.toList):=by kernel_rfl
theorem zki:false=Rows.auditsRow.goesBy pg:=by kernel_rfl
theorem zf2:Tryz.prog.funcNamed Rows.auditsRow.func=E 8:=by kernel_rfl
theorem ziL:joinedFacts pg 8 Tryz.f8 Rows.auditsSpec Rows.auditsRow=true:=
 zmK zmN (jp1 _ _ _ _) (jp2 _ _ _ _) zmO zmP zmQ (jp6 _ _ _ _) zmR (jp8 _ _ _ _) zmS zlp zlq zlr zls zlt zlu zlv zlw zlx zly zlz zlA zlB zlC (jp24 _ _ _ _) (jp25 _ _ _ _) zlD zlE zlF zlG zlH zlI
end Go.Proofs.YtnhfdcfnojnofaaGreatDoor
