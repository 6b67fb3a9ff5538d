/-
  Firm: for every text and every number the call returns true, and the arguments read behind it as before; no condition. (The texts ahead of this one were shortened by program.)
-/
import Derived.Test.YtfimidopoilmnaaGreatDoorFir5Z19
import Derived.Test.YtfimidopoilmnaaGreatDoorFir5Z20
open Go renaming World->H
open Go.Proofs.Tryz
open Go.IntKind renaming i64->Xb
set_option linter.unusedSimpArgs false
set_option linter.unusedVariables false
set_option maxRecDepth 100000
namespace Go.Proofs.YtfimidopoilmnaaGreatDoor
open Go.ChangeShapes Go.WideShapes Go.ChangeAt Go.RowKit
open Go.ChangeMaps (open_string shut_string)
theorem firm_lifted (os:Os)(started:os.Started)(H:Type)(enc:TypeId×Value->H):
 ReturnsInHanded {} Tryz.checked os 3 .any (fun w args=>(Rows.firmSpec.pre enc Tryz.prog Tryz.f3 Rows.firmRow.domain false w args/\laidMetH Tryz.prog Rows.firmRow.laid w)/\sizedMet enc Tryz.prog Tryz.f3 (OpenSpec.ofChange Rows.firmSpec) false w args)
  (Rows.firmSpec.post enc Tryz.prog Tryz.f3 false true false false):=by
 refine zgk (C:=Tryz.checked) (X:=fun w _=>laidMetH Tryz.prog Rows.firmRow.laid w) (fun _ _ _ hh h=>h.of_heap hh) own started (by kernel_rfl) Tryz.func3
  (ChangeSpec.witness_shaped (enc:=enc) (C:=Tryz.checked) (os:=os) (X:=fun w _=>laidMetH Tryz.prog Rows.firmRow.laid w) false (World.laidAll Tryz.prog os Rows.firmRow.laid) #[.string ⟨#[]⟩,.int Xb 0] 8 (World.laidAll_os _ _ _)
   (World.shaped_of_ZipB (by kernel_rfl) (by kernel_rfl)) (by kernel_rfl) (by kernel_rfl) (by kernel_rfl)
   (by rw[MakeChecks.laidMetH_plain _ _ _ (by kernel_rfl)];exact laidMet_laidAll _ (by kernel_rfl) (by kernel_rfl))) ?_
 intro W base args ds gs before hval0 hW hcnd _ hL hsh _;have hval:∀(j:Nat) t v,Tryz.f3.params[j]? =some t->args[j]? =some v->Value.okWide Tryz.prog W .any base t v:=hval0;have hW':=hW;obtain⟨p,q,hA0,hV,rfl,hfz,hnd⟩:=hW;have hA:DataW.TrodAll enc Tryz.prog W 0 (fun _=>true) true Tryz.f3.params.toList args.toList ds p:=hA0;rw[Tryz.params3]at hA hval;obtain⟨v0,vs0,d0,ds0,p0,q0,hargs,rfl,rfl,h0,r0⟩:=trodAll_cons hA;obtain⟨v1,vs1,d1,ds1,p1,q1,rfl,rfl,rfl,h1,r1⟩:=trodAll_cons r0;obtain⟨rfl,rfl,rfl⟩:=trodAll_nil r1;obtain rfl:args=#[v0,v1]:=by cases args;simp_all
 obtain⟨rfl,rfl⟩:=trodVars_none hV;obtain⟨s0,rfl,rfl,rfl,z0⟩:=open_string Tryz.underlying9 (hval 0 9 v0 rfl rfl) h0;obtain⟨a4,rfl,rfl,rfl,w4⟩:=open_int Tryz.underlying3 (hval 1 3 v1 rfl rfl) h1;clear hA0 hval0;simp only[ZR]at hW';have b4:=wf_bd w4;refine(keepFirm_any s0 a4 W (by unfold maxLen at z0;omega) b4.1 b4.2 (tab_of_laid hL)).mono fun e W' ⟨he,hg⟩=>?_
 subst he;exact⟨_,rfl,znF (pa:= []) (pv:= []) hW' (fun _ _ _=>(trodAll_cons_mk (shut_bool Tryz.underlying4 _) trodAll_mk0)) (fun sp _=>(trodAll_cons_mk (shut_string Tryz.underlying9 z0) (trodAll_cons_mk (shut_int Tryz.underlying3 w4) trodAll_mk0))) (fun _ _=>rfl) rfl hg⟩
theorem firm_row:Rows.FirmSaid:=
 OpenClaim.holds_of_wide 3 Tryz.f3 rfl rfl rfl rfl rfl rfl rfl ⟨rfl,rfl,rfl,rfl,rfl⟩ rfl rfl rfl rfl rfl firm_named func3 firm_closed
  (jU kr) (by unfold Func.isWrapper;first|(rw[zQ (by decide +kernel)];kernel_rfl)|(rw[zO (by decide +kernel)];exact⟨rfl,rfl⟩))
  (fun c d a b _=>firm_lifted c d a b)
theorem firm_card:Rows.FirmCardSaid:=
 Claim7.holds_tied_plain_at .later [] [.data,.data,.data,.data,.pinned] true Rows.firmCard.stood.harness false firm_row (fun _ h=>by cases h) kr (fun _ h=>by cases h) firm_row_tie rfl ⟨rfl,rfl⟩ firm_main rfl
  (fun f b d e=>by
   obtain rfl:f=3:=Q8 (firm_named.symm.trans d) |>.symm
   obtain rfl:b=Tryz.f3:=(Q8 (Tryz.func3.symm.trans e)).symm;exact⟨zrV,fun j t a=>by
    rw[Tryz.params3]at a;have hm:t∈ [9,3]:=by simpa using Array.mem_of_getElem? a
    have c:([9,3].all fun u=>!Tryz.prog.wantsStandIn u)=true:=kr;exact(show Tryz.prog.wantsStandIn t=false by simpa using Zi.1 c t hm)⟩)
  firm_goes
#print axioms firm_card
end Go.Proofs.YtfimidopoilmnaaGreatDoor
