import Derived.Test.YtikmppijocpamaaGreatDoorSls1Z9
open Option renaming some->E
open Go.Proofs.Tryz renaming prog->pg
set_option linter.unusedSimpArgs false
set_option linter.unusedVariables false
set_option maxRecDepth 100000
namespace Go.Proofs.YtikmppijocpamaaGreatDoor
open Go.ChangeShapes Go.WideShapes Go.ChangeAt Go.RowKit
theorem AU:Rj pg 3 Tryz.f3 Rows.solvesSpec Rows.solvesRow=true:=by kernel_rfl
theorem Bx:SC pg 3 Tryz.f3 Rows.solvesSpec Rows.solvesRow=true:=by kernel_rfl
theorem AW:Q1 pg 3 Tryz.f3 Rows.solvesSpec Rows.solvesRow=true:=by kernel_rfl
theorem Bq:Sc pg 3 Tryz.f3 Rows.solvesSpec Rows.solvesRow=true:=by kernel_rfl
theorem Bn:OZ pg 3 Tryz.f3 Rows.solvesSpec Rows.solvesRow=true:=by kernel_rfl
theorem Be:SH pg 3 Tryz.f3 Rows.solvesSpec Rows.solvesRow=true:=by kernel_rfl
theorem yo:Ih pg 3 Tryz.f3 Rows.solvesSpec Rows.solvesRow=true:=by kernel_rfl
theorem wL:G0 pg 3 Tryz.f3 Rows.solvesSpec Rows.solvesRow=true:=by kernel_rfl
theorem yM:Ib pg 3 Tryz.f3 Rows.solvesSpec Rows.solvesRow=true:=by kernel_rfl
theorem yx:G_ pg 3 Tryz.f3 Rows.solvesSpec Rows.solvesRow=true:=by kernel_rfl
theorem ym:GQ pg 3 Tryz.f3 Rows.solvesSpec Rows.solvesRow=true:=by kernel_rfl
theorem wV:Hy pg 3 Tryz.f3 Rows.solvesSpec Rows.solvesRow=true:=by kernel_rfl
theorem yS:G7 pg 3 Tryz.f3 Rows.solvesSpec Rows.solvesRow=true:=by kernel_rfl
theorem xj:GJ pg 3 Tryz.f3 Rows.solvesSpec Rows.solvesRow=true:=by kernel_rfl
theorem yq:Ir pg 3 Tryz.f3 Rows.solvesSpec Rows.solvesRow=true:=by kernel_rfl
theorem yu:GO pg 3 Tryz.f3 Rows.solvesSpec Rows.solvesRow=true:=by kernel_rfl
theorem yQ:Gm pg 3 Tryz.f3 Rows.solvesSpec Rows.solvesRow=true:=by kernel_rfl
theorem xZ:H9 pg 3 Tryz.f3 Rows.solvesSpec Rows.solvesRow=true:=by kernel_rfl
theorem xP:Gq pg 3 Tryz.f3 Rows.solvesSpec Rows.solvesRow=true:=by kernel_rfl
theorem yR:Hz pg 3 Tryz.f3 Rows.solvesSpec Rows.solvesRow=true:=by kernel_rfl
theorem xL:Ht pg 3 Tryz.f3 Rows.solvesSpec Rows.solvesRow=true:=by kernel_rfl
theorem xI:Im pg 3 Tryz.f3 Rows.solvesSpec Rows.solvesRow=true:=by kernel_rfl
theorem yG:Ic pg 3 Tryz.f3 Rows.solvesSpec Rows.solvesRow=true:=by kernel_rfl
theorem wI:HI pg 3 Tryz.f3 Rows.solvesSpec Rows.solvesRow=true:=by kernel_rfl
theorem yK:GP pg 3 Tryz.f3 Rows.solvesSpec Rows.solvesRow=true:=by kernel_rfl
theorem yI:Iq pg 3 Tryz.f3 Rows.solvesSpec Rows.solvesRow=true:=by kernel_rfl
theorem solves_main:Tryz.prog.mainIs=E (Rows.solvesCard.stood.harness.1,Rows.solvesCard.stood.harness.2.toList):=by kernel_rfl
theorem solves_goes:false=Rows.solvesRow.goesBy pg:=by kernel_rfl
theorem solves_named:Tryz.prog.funcNamed Rows.solvesRow.func=E 3:=by kernel_rfl
theorem solves_closed:joinedFacts pg 3 Tryz.f3 Rows.solvesSpec Rows.solvesRow=true:=zoU AU (jp1 _ _ _ _) (jp2 _ _ _ _) Bx AW Bq (jp6 _ _ _ _) Bn (jp8 _ _ _ _) Be yo wL yM yx ym wV yS xj yq yu yQ xZ xP yR (Pz _ _ _ _) (Ss _ _ _ _) xL xI yG wI yK yI
