/-
  Found: for every text the call returns true, and the arguments read behind it as before; no condition. (The texts ahead of this one were shortened by program.)
-/
import Derived.Test.YtnhokjllhmbaeaaGreatDoorJoi1Z28
import Derived.Test.YtnhokjllhmbaeaaGreatDoorJoi1Z29
open Go renaming World->H
open Go.Proofs.Tryz
set_option linter.unusedSimpArgs false
set_option linter.unusedVariables false
set_option maxRecDepth 100000
namespace Go.Proofs.YtnhokjllhmbaeaaGreatDoor
open Go.ChangeShapes Go.WideShapes Go.ChangeAt Go.RowKit
open Go.ChangeMaps (open_string shut_string)
theorem zmm (os:Os)(started:os.Started)(H:Type)(enc:TypeId×Value->H):
 ReturnsInHanded {} Tryz.checked os 3 .any (fun w args=>(Rows.foundSpec.pre enc Tryz.prog Tryz.f3 Rows.foundRow.domain false w args/\laidMetH Tryz.prog Rows.foundRow.laid w)/\sizedMet enc Tryz.prog Tryz.f3 (OpenSpec.ofChange Rows.foundSpec) false w args)
  (Rows.foundSpec.post enc Tryz.prog Tryz.f3 false true false false):=by
 refine zgk (C:=Tryz.checked) (X:=fun w _=>laidMetH Tryz.prog Rows.foundRow.laid w) (fun _ _ _ hh h=>h.of_heap hh) own started (by kernel_rfl) Tryz.func3
  (ChangeSpec.witness_shaped (enc:=enc) (C:=Tryz.checked) (os:=os) (X:=fun w _=>laidMetH Tryz.prog Rows.foundRow.laid w) false (World.laidAll Tryz.prog os Rows.foundRow.laid) #[.string ⟨#[]⟩] 8 (World.laidAll_os _ _ _)
   (World.shaped_of_ZipB (by kernel_rfl) (by kernel_rfl)) (by kernel_rfl) (by kernel_rfl) (by kernel_rfl)
   (by rw[MakeChecks.laidMetH_plain _ _ _ (by kernel_rfl)];exact laidMet_laidAll _ (by kernel_rfl) (by kernel_rfl))) ?_
 intro W base args ds gs before hval0 hW hcnd _ hL hsh _;have hval:∀(j:Nat) t v,Tryz.f3.params[j]? =some t->args[j]? =some v->Value.okWide Tryz.prog W .any base t v:=hval0;have hW':=hW;obtain⟨p,q,hA0,hV,rfl,hfz,hnd⟩:=hW;have hA:DataW.TrodAll enc Tryz.prog W 0 (fun _=>true) true Tryz.f3.params.toList args.toList ds p:=hA0;rw[Tryz.params3]at hA hval;obtain⟨v0,vs0,d0,ds0,p0,q0,hargs,rfl,rfl,h0,r0⟩:=trodAll_cons hA;obtain⟨rfl,rfl,rfl⟩:=trodAll_nil r0;obtain rfl:args=#[v0]:=by cases args;simp_all
 obtain⟨rfl,rfl⟩:=trodVars_none hV;obtain⟨s0,rfl,rfl,rfl,z0⟩:=open_string Tryz.underlying9 (hval 0 9 v0 rfl rfl) h0;clear hA0 hval0;simp only[ZR]at hW';refine(zll s0 W (by unfold maxLen at z0;omega) (tab_of_laid hL)).mono fun e W' ⟨he,hg⟩=>?_
 subst he;exact⟨_,rfl,znF (pa:= []) (pv:= []) hW' (fun _ _ _=>(trodAll_cons_mk (shut_bool Tryz.underlying4 _) trodAll_mk0)) (fun sp _=>(trodAll_cons_mk (shut_string Tryz.underlying9 z0) trodAll_mk0)) (fun _ _=>rfl) rfl hg⟩
theorem zp8:Rows.FoundSaid:=
 OpenClaim.holds_of_wide 3 Tryz.f3 rfl rfl rfl rfl rfl rfl rfl ⟨rfl,rfl,rfl,rfl,rfl⟩ rfl rfl rfl rfl rfl ziu func3 zml
  (jU kr) (by unfold Func.isWrapper;first|(rw[zQ (by decide +kernel)];kernel_rfl)|(rw[zO (by decide +kernel)];exact⟨rfl,rfl⟩))
  (fun c d a b _=>zmm c d a b)
theorem found_card:Rows.FoundCardSaid:=
 Claim7.holds_tied_plain_at .later [] [.data,.data,.data,.data,.pinned] true Rows.foundCard.stood.harness false zp8 (fun _ h=>by cases h) kr (fun _ h=>by cases h) found_row_tie rfl ⟨rfl,rfl⟩ zof rfl
  (fun f a b c=>by
   obtain rfl:f=3:=Q8 (ziu.symm.trans b) |>.symm
   obtain rfl:a=Tryz.f3:=(Q8 (Tryz.func3.symm.trans c)).symm;exact⟨zrV,fun j t a=>by
    rw[Tryz.params3]at a;have hm:t∈ [9]:=by simpa using Array.mem_of_getElem? a
    have a:([9].all fun u=>!Tryz.prog.wantsStandIn u)=true:=kr;exact(show Tryz.prog.wantsStandIn t=false by simpa using Zi.1 a t hm)⟩)
  zog
#print axioms found_card
