/-
  Enough: for every text and every two numbers the call returns true, and the arguments read behind it as before; no condition. (The texts ahead of this one were shortened by program.)
-/
import Derived.Test.YtnhokjllhmbaeaaGreatDoorJoi1Z25
import Derived.Test.YtnhokjllhmbaeaaGreatDoorJoi1Z26
open Go renaming World->H
open Go.Proofs.Tryz
open Go.IntKind renaming i64->Xb
set_option linter.unusedSimpArgs false
set_option linter.unusedVariables false
set_option maxRecDepth 100000
namespace Go.Proofs.YtnhokjllhmbaeaaGreatDoor
open Go.ChangeShapes Go.WideShapes Go.ChangeAt Go.RowKit
open Go.ChangeMaps (open_string shut_string)
theorem enough_lifted (os:Os)(started:os.Started)(H:Type)(enc:TypeId×Value->H):
 ReturnsInHanded {} Tryz.checked os 4 .any (fun w args=>(Rows.enoughSpec.pre enc Tryz.prog Tryz.f4 Rows.enoughRow.domain false w args/\laidMetH Tryz.prog Rows.enoughRow.laid w)/\sizedMet enc Tryz.prog Tryz.f4 (OpenSpec.ofChange Rows.enoughSpec) false w args)
  (Rows.enoughSpec.post enc Tryz.prog Tryz.f4 false true false false):=by
 refine zgk (C:=Tryz.checked) (X:=fun w _=>laidMetH Tryz.prog Rows.enoughRow.laid w) (fun _ _ _ hh h=>h.of_heap hh) own started (by kernel_rfl) Tryz.func4
  (ChangeSpec.witness_shaped (enc:=enc) (C:=Tryz.checked) (os:=os) (X:=fun w _=>laidMetH Tryz.prog Rows.enoughRow.laid w) false (World.laidAll Tryz.prog os Rows.enoughRow.laid) #[.string ⟨#[]⟩,.int Xb 0,.int Xb 0] 8 (World.laidAll_os _ _ _)
   (World.shaped_of_ZipB (by kernel_rfl) (by kernel_rfl)) (by kernel_rfl) (by kernel_rfl) (by kernel_rfl)
   (by rw[MakeChecks.laidMetH_plain _ _ _ (by kernel_rfl)];exact laidMet_laidAll _ (by kernel_rfl) (by kernel_rfl))) ?_
 intro W base args ds gs before hval0 hW hcnd _ hL hsh _;have hval:∀(j:Nat) t v,Tryz.f4.params[j]? =some t->args[j]? =some v->Value.okWide Tryz.prog W .any base t v:=hval0;have hW':=hW;obtain⟨p,q,hA0,hV,rfl,hfz,hnd⟩:=hW;have hA:DataW.TrodAll enc Tryz.prog W 0 (fun _=>true) true Tryz.f4.params.toList args.toList ds p:=hA0;rw[Tryz.params4]at hA hval;obtain⟨v0,vs0,d0,ds0,p0,q0,hargs,rfl,rfl,h0,r0⟩:=trodAll_cons hA;obtain⟨v1,vs1,d1,ds1,p1,q1,rfl,rfl,rfl,h1,r1⟩:=trodAll_cons r0;obtain⟨v2,vs2,d2,ds2,p2,q2,rfl,rfl,rfl,h2,r2⟩:=trodAll_cons r1;obtain⟨rfl,rfl,rfl⟩:=trodAll_nil r2;obtain rfl:args=#[v0,v1,v2]:=by cases args;simp_all
 obtain⟨rfl,rfl⟩:=trodVars_none hV;obtain⟨s0,rfl,rfl,rfl,z0⟩:=open_string Tryz.underlying9 (hval 0 9 v0 rfl rfl) h0;obtain⟨a4,rfl,rfl,rfl,w4⟩:=open_int Tryz.underlying3 (hval 1 3 v1 rfl rfl) h1;obtain⟨a5,rfl,rfl,rfl,w5⟩:=open_int Tryz.underlying3 (hval 2 3 v2 rfl rfl) h2;clear hA0 hval0;simp only[ZR]at hW';have b4:=wf_bd w4;have b5:=wf_bd w5;refine(keepEnough_any s0 a4 a5 W (by unfold maxLen at z0;omega) b4.1 b4.2 b5.1 b5.2 (tab_of_laid hL)).mono fun e W' ⟨he,hg⟩=>?_
 subst he;exact⟨_,rfl,znF (pa:= []) (pv:= []) hW' (fun _ _ _=>(trodAll_cons_mk (shut_bool Tryz.underlying4 _) trodAll_mk0)) (fun sp _=>(trodAll_cons_mk (shut_string Tryz.underlying9 z0) (trodAll_cons_mk (shut_int Tryz.underlying3 w4) (trodAll_cons_mk (shut_int Tryz.underlying3 w5) trodAll_mk0)))) (fun _ _=>rfl) rfl hg⟩
theorem enough_row:Rows.EnoughSaid:=
 OpenClaim.holds_of_wide 4 Tryz.f4 rfl rfl rfl rfl rfl rfl rfl ⟨rfl,rfl,rfl,rfl,rfl⟩ rfl rfl rfl rfl rfl enough_named func4 enough_closed
  (jU kr) (by unfold Func.isWrapper;first|(rw[zQ (by decide +kernel)];kernel_rfl)|(rw[zO (by decide +kernel)];exact⟨rfl,rfl⟩))
  (fun c d a b _=>enough_lifted c d a b)
theorem enough_card:Rows.EnoughCardSaid:=
 Claim7.holds_tied_plain_at .later [] [.data,.data,.data,.data,.pinned] true Rows.enoughCard.stood.harness false enough_row (fun _ h=>by cases h) kr (fun _ h=>by cases h) enough_row_tie rfl ⟨rfl,rfl⟩ enough_main rfl
  (fun f b d e=>by
   obtain rfl:f=4:=Q8 (enough_named.symm.trans d) |>.symm
   obtain rfl:b=Tryz.f4:=(Q8 (Tryz.func4.symm.trans e)).symm;exact⟨zrV,fun j t a=>by
    rw[Tryz.params4]at a;have hm:t∈ [9,3,3]:=by simpa using Array.mem_of_getElem? a
    have c:([9,3,3].all fun u=>!Tryz.prog.wantsStandIn u)=true:=kr;exact(show Tryz.prog.wantsStandIn t=false by simpa using Zi.1 c t hm)⟩)
  enough_goes
#print axioms enough_card
