import Derived.Test.YtnhokjllhmbaeaaGreatDoorJoi1Z9
open Option renaming some->E
open Go.Proofs.Tryz renaming prog->pg
set_option linter.unusedSimpArgs false
set_option linter.unusedVariables false
set_option maxRecDepth 100000
namespace Go.Proofs.YtnhokjllhmbaeaaGreatDoor
open Go.ChangeShapes Go.WideShapes Go.ChangeAt Go.RowKit
theorem zrw:jf0 pg 3 Tryz.f3 Rows.foundSpec Rows.foundRow=true:=by kernel_rfl
theorem zrx:jf3 pg 3 Tryz.f3 Rows.foundSpec Rows.foundRow=true:=by kernel_rfl
theorem zry:jf4 pg 3 Tryz.f3 Rows.foundSpec Rows.foundRow=true:=by kernel_rfl
theorem zrz:jf5 pg 3 Tryz.f3 Rows.foundSpec Rows.foundRow=true:=by kernel_rfl
theorem zrA:jf7 pg 3 Tryz.f3 Rows.foundSpec Rows.foundRow=true:=by kernel_rfl
theorem zrB:jf9 pg 3 Tryz.f3 Rows.foundSpec Rows.foundRow=true:=by kernel_rfl
theorem zpO:jf10 pg 3 Tryz.f3 Rows.foundSpec Rows.foundRow=true:=by kernel_rfl
theorem zpP:jf11 pg 3 Tryz.f3 Rows.foundSpec Rows.foundRow=true:=by kernel_rfl
theorem zpQ:jf12 pg 3 Tryz.f3 Rows.foundSpec Rows.foundRow=true:=by kernel_rfl
theorem zpR:jf13 pg 3 Tryz.f3 Rows.foundSpec Rows.foundRow=true:=by kernel_rfl
theorem zpS:jf14 pg 3 Tryz.f3 Rows.foundSpec Rows.foundRow=true:=by kernel_rfl
theorem zpT:jf15 pg 3 Tryz.f3 Rows.foundSpec Rows.foundRow=true:=by kernel_rfl
theorem zpU:jf16 pg 3 Tryz.f3 Rows.foundSpec Rows.foundRow=true:=by kernel_rfl
theorem zpV:jf17 pg 3 Tryz.f3 Rows.foundSpec Rows.foundRow=true:=by kernel_rfl
theorem zpW:jf18 pg 3 Tryz.f3 Rows.foundSpec Rows.foundRow=true:=by kernel_rfl
theorem zpX:jf19 pg 3 Tryz.f3 Rows.foundSpec Rows.foundRow=true:=by kernel_rfl
theorem zpY:jf20 pg 3 Tryz.f3 Rows.foundSpec Rows.foundRow=true:=by kernel_rfl
theorem zpZ:jf21 pg 3 Tryz.f3 Rows.foundSpec Rows.foundRow=true:=by kernel_rfl
theorem zp0:jf22 pg 3 Tryz.f3 Rows.foundSpec Rows.foundRow=true:=by kernel_rfl
theorem zp1:jf23 pg 3 Tryz.f3 Rows.foundSpec Rows.foundRow=true:=by kernel_rfl
theorem zp2:jf26 pg 3 Tryz.f3 Rows.foundSpec Rows.foundRow=true:=by kernel_rfl
theorem zp3:jf27 pg 3 Tryz.f3 Rows.foundSpec Rows.foundRow=true:=by kernel_rfl
theorem zp4:jf28 pg 3 Tryz.f3 Rows.foundSpec Rows.foundRow=true:=by kernel_rfl
theorem zp5:jf29 pg 3 Tryz.f3 Rows.foundSpec Rows.foundRow=true:=by kernel_rfl
theorem zp6:jf30 pg 3 Tryz.f3 Rows.foundSpec Rows.foundRow=true:=by kernel_rfl
theorem zp7:jf31 pg 3 Tryz.f3 Rows.foundSpec Rows.foundRow=true:=by kernel_rfl
theorem zof:Tryz.prog.mainIs=E (Rows.foundCard.stood.harness.1,Rows.foundCard.stood.harness.2.toList):=by kernel_rfl
theorem zog:false=Rows.foundRow.goesBy pg:=by kernel_rfl
theorem ziu:Tryz.prog.funcNamed Rows.foundRow.func=E 3:=by kernel_rfl
theorem zml:joinedFacts pg 3 Tryz.f3 Rows.foundSpec Rows.foundRow=true:=
 zoU zrw (jp1 _ _ _ _) (jp2 _ _ _ _) zrx zry zrz (jp6 _ _ _ _) zrA (jp8 _ _ _ _) zrB zpO zpP zpQ zpR zpS zpT zpU zpV zpW zpX zpY zpZ zp0 zp1 (jp24 _ _ _ _) (jp25 _ _ _ _) zp2 zp3 zp4 zp5 zp6 zp7
