/-
  Apart: for every two texts the call returns true, and the arguments read behind it as before; no condition. (The texts ahead of this one were shortened by program.)
-/
import Derived.Test.YtnhokjllhmbaeaaGreatDoorJoi1Z22
import Derived.Test.YtnhokjllhmbaeaaGreatDoorJoi1Z23
open Go renaming World->H
open Go.Proofs.Tryz
set_option linter.unusedSimpArgs false
set_option linter.unusedVariables false
set_option maxRecDepth 100000
namespace Go.Proofs.YtnhokjllhmbaeaaGreatDoor
open Go.ChangeShapes Go.WideShapes Go.ChangeAt Go.RowKit
open Go.ChangeMaps (open_string shut_string)
theorem apart_lifted (os:Os)(started:os.Started)(H:Type)(enc:TypeId×Value->H):
 ReturnsInHanded {} Tryz.checked os 5 .any (fun w args=>(Rows.apartSpec.pre enc Tryz.prog Tryz.f5 Rows.apartRow.domain false w args/\laidMetH Tryz.prog Rows.apartRow.laid w)/\sizedMet enc Tryz.prog Tryz.f5 (OpenSpec.ofChange Rows.apartSpec) false w args)
  (Rows.apartSpec.post enc Tryz.prog Tryz.f5 false true false false):=by
 refine zgk (C:=Tryz.checked) (X:=fun w _=>laidMetH Tryz.prog Rows.apartRow.laid w) (fun _ _ _ hh h=>h.of_heap hh) own started (by kernel_rfl) Tryz.func5
  (ChangeSpec.witness_shaped (enc:=enc) (C:=Tryz.checked) (os:=os) (X:=fun w _=>laidMetH Tryz.prog Rows.apartRow.laid w) false (World.laidAll Tryz.prog os Rows.apartRow.laid) #[.string ⟨#[]⟩,.string ⟨#[]⟩] 8 (World.laidAll_os _ _ _)
   (World.shaped_of_ZipB (by kernel_rfl) (by kernel_rfl)) (by kernel_rfl) (by kernel_rfl) (by kernel_rfl)
   (by rw[MakeChecks.laidMetH_plain _ _ _ (by kernel_rfl)];exact laidMet_laidAll _ (by kernel_rfl) (by kernel_rfl))) ?_
 intro W base args ds gs before hval0 hW hcnd _ hL hsh _;have hval:∀(j:Nat) t v,Tryz.f5.params[j]? =some t->args[j]? =some v->Value.okWide Tryz.prog W .any base t v:=hval0;have hW':=hW;obtain⟨p,q,hA0,hV,rfl,hfz,hnd⟩:=hW;have hA:DataW.TrodAll enc Tryz.prog W 0 (fun _=>true) true Tryz.f5.params.toList args.toList ds p:=hA0;rw[Tryz.params5]at hA hval;obtain⟨v0,vs0,d0,ds0,p0,q0,hargs,rfl,rfl,h0,r0⟩:=trodAll_cons hA;obtain⟨v1,vs1,d1,ds1,p1,q1,rfl,rfl,rfl,h1,r1⟩:=trodAll_cons r0;obtain⟨rfl,rfl,rfl⟩:=trodAll_nil r1;obtain rfl:args=#[v0,v1]:=by cases args;simp_all
 obtain⟨rfl,rfl⟩:=trodVars_none hV;obtain⟨s0,rfl,rfl,rfl,z0⟩:=open_string Tryz.underlying9 (hval 0 9 v0 rfl rfl) h0;obtain⟨s1,rfl,rfl,rfl,z1⟩:=open_string Tryz.underlying9 (hval 1 9 v1 rfl rfl) h1;clear hA0 hval0;simp only[ZR]at hW';refine(keepApart_any s0 s1 W (by unfold maxLen at z0;omega) (by unfold maxLen at z1;omega) (tab_of_laid hL)).mono fun e W' ⟨he,hg⟩=>?_
 subst he;exact⟨_,rfl,znF (pa:= []) (pv:= []) hW' (fun _ _ _=>(trodAll_cons_mk (shut_bool Tryz.underlying4 _) trodAll_mk0)) (fun sp _=>(trodAll_cons_mk (shut_string Tryz.underlying9 z0) (trodAll_cons_mk (shut_string Tryz.underlying9 z1) trodAll_mk0))) (fun _ _=>rfl) rfl hg⟩
theorem apart_row:Rows.ApartSaid:=
 OpenClaim.holds_of_wide 5 Tryz.f5 rfl rfl rfl rfl rfl rfl rfl ⟨rfl,rfl,rfl,rfl,rfl⟩ rfl rfl rfl rfl rfl apart_named func5 apart_closed
  (jU kr) (by unfold Func.isWrapper;first|(rw[zQ (by decide +kernel)];kernel_rfl)|(rw[zO (by decide +kernel)];exact⟨rfl,rfl⟩))
  (fun c d a b _=>apart_lifted c d a b)
theorem apart_card:Rows.ApartCardSaid:=
 Claim7.holds_tied_plain_at .later [] [.data,.data,.data,.data,.pinned] true Rows.apartCard.stood.harness false apart_row (fun _ h=>by cases h) kr (fun _ h=>by cases h) apart_row_tie rfl ⟨rfl,rfl⟩ apart_main rfl
  (fun f a b c=>by
   obtain rfl:f=5:=Q8 (apart_named.symm.trans b) |>.symm
   obtain rfl:a=Tryz.f5:=(Q8 (Tryz.func5.symm.trans c)).symm;exact⟨zrV,fun j t a=>by
    rw[Tryz.params5]at a;have hm:t∈ [9,9]:=by simpa using Array.mem_of_getElem? a
    have a:([9,9].all fun u=>!Tryz.prog.wantsStandIn u)=true:=kr;exact(show Tryz.prog.wantsStandIn t=false by simpa using Zi.1 a t hm)⟩)
  apart_goes
#print axioms apart_card
