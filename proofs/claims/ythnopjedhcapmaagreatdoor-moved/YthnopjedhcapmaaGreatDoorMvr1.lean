/-
  planeskeep.Moved holds of the landed program at every input that its row admits: the same problem at numbers of thirty digits has the same point, moved. No condition beyond the row's own.
-/
import Derived.Test.YthnopjedhcapmaaGreatDoorMvr1Z21
import Derived.Test.YthnopjedhcapmaaGreatDoorMvr1Z22
open Go renaming World->H
open Go.Proofs.Tryz
set_option linter.unusedSimpArgs false
set_option linter.unusedVariables false
set_option maxRecDepth 100000
namespace Go.Proofs.YthnopjedhcapmaaGreatDoor
open Go.ChangeShapes Go.WideShapes Go.ChangeAt Go.RowKit
open Go.ChangeMaps (open_string shut_string)
theorem moved_lifted (os:Os)(started:os.Started)(H:Type)(enc:TypeId×Value->H):
 ReturnsInHanded {} Tryz.checked os 3 .any (fun w args=>(Rows.movedSpec.pre enc Tryz.prog Tryz.f3 Rows.movedRow.domain false w args/\laidMetH Tryz.prog Rows.movedRow.laid w)/\sizedMet enc Tryz.prog Tryz.f3 (OpenSpec.ofChange Rows.movedSpec) false w args)
  (Rows.movedSpec.post enc Tryz.prog Tryz.f3 false true false false):=by
 refine zgk (C:=Tryz.checked) (X:=fun w _=>laidMetH Tryz.prog Rows.movedRow.laid w) (fun _ _ _ hh h=>h.of_heap hh) own started (by kernel_rfl) Tryz.func3
  (ChangeSpec.witness_shaped (enc:=enc) (C:=Tryz.checked) (os:=os) (X:=fun w _=>laidMetH Tryz.prog Rows.movedRow.laid w) false (World.laidAll Tryz.prog os Rows.movedRow.laid) #[.string ⟨#[]⟩,.string ⟨#[]⟩,.bool false] 8 (World.laidAll_os _ _ _)
   (World.shaped_of_ZipB (by kernel_rfl) (by kernel_rfl)) (by kernel_rfl) (by kernel_rfl) (by kernel_rfl)
   (by rw[MakeChecks.laidMetH_plain _ _ _ (by kernel_rfl)];exact laidMet_laidAll _ (by kernel_rfl) (by kernel_rfl))) ?_
 intro W base args ds gs before hval0 hW hcnd _ hL hsh _;have hval:∀(j:Nat) t v,Tryz.f3.params[j]? =some t->args[j]? =some v->Value.okWide Tryz.prog W .any base t v:=hval0;have hW':=hW;obtain⟨p,q,hA0,hV,rfl,hfz,hnd⟩:=hW;have hA:DataW.TrodAll enc Tryz.prog W 0 (fun _=>true) true Tryz.f3.params.toList args.toList ds p:=hA0;rw[Tryz.params3]at hA hval;obtain⟨v0,vs0,d0,ds0,p0,q0,hargs,rfl,rfl,h0,r0⟩:=trodAll_cons hA;obtain⟨v1,vs1,d1,ds1,p1,q1,rfl,rfl,rfl,h1,r1⟩:=trodAll_cons r0;obtain⟨v2,vs2,d2,ds2,p2,q2,rfl,rfl,rfl,h2,r2⟩:=trodAll_cons r1;obtain⟨rfl,rfl,rfl⟩:=trodAll_nil r2;obtain rfl:args=#[v0,v1,v2]:=by cases args;simp_all
 obtain⟨rfl,rfl⟩:=trodVars_none hV;obtain⟨s0,rfl,rfl,rfl,z0⟩:=open_string Tryz.underlying9 (hval 0 9 v0 rfl rfl) h0;obtain⟨s1,rfl,rfl,rfl,z1⟩:=open_string Tryz.underlying9 (hval 1 9 v1 rfl rfl) h1;obtain⟨b2,rfl,rfl,rfl⟩:=open_bool Tryz.underlying4 (hval 2 4 v2 rfl rfl) h2;clear hA0 hval0;simp only[ZR]at hW';refine(keepMoved_any s0 s1 b2 W (by unfold maxLen at z0;omega) (by unfold maxLen at z1;omega) (znG hL hsh)).mono fun e W' ⟨he,hg⟩=>?_
 subst he;exact⟨_,rfl,znF (pa:= []) (pv:= []) hW' (fun _ _ _=>(trodAll_cons_mk (shut_bool Tryz.underlying4 _) trodAll_mk0)) (fun sp _=>(trodAll_cons_mk (shut_string Tryz.underlying9 z0) (trodAll_cons_mk (shut_string Tryz.underlying9 z1) (trodAll_cons_mk (shut_bool Tryz.underlying4 _) trodAll_mk0)))) (fun _ _=>rfl) rfl hg⟩
theorem moved_row:Rows.MovedSaid:=
 OpenClaim.holds_of_wide 3 Tryz.f3 rfl rfl rfl rfl rfl rfl rfl ⟨rfl,rfl,rfl,rfl,rfl⟩ rfl rfl rfl rfl rfl moved_named func3 moved_closed
  (jU kr) (by unfold Func.isWrapper;first|(rw[zQ (by decide +kernel)];kernel_rfl)|(rw[zO (by decide +kernel)];exact⟨rfl,rfl⟩))
  (fun c d a b _=>moved_lifted c d a b)
theorem moved_card:Rows.MovedCardSaid:=
 Claim7.holds_tied_plain_at .later [] [.data,.data,.data,.data,.pinned] true Rows.movedCard.stood.harness false moved_row (fun _ h=>by cases h) kr (fun _ h=>by cases h) moved_row_tie rfl ⟨rfl,rfl⟩ moved_main rfl
  (fun f a b c=>by
   obtain rfl:f=3:=Q8 (moved_named.symm.trans b) |>.symm
   obtain rfl:a=Tryz.f3:=(Q8 (Tryz.func3.symm.trans c)).symm;exact⟨zrV,fun j t a=>by
    rw[Tryz.params3]at a;have hm:t∈ [9,9,4]:=by simpa using Array.mem_of_getElem? a
    have a:([9,9,4].all fun u=>!Tryz.prog.wantsStandIn u)=true:=kr;exact(show Tryz.prog.wantsStandIn t=false by simpa using Zi.1 a t hm)⟩)
  moved_goes
#print axioms moved_card
end Go.Proofs.YthnopjedhcapmaaGreatDoor
