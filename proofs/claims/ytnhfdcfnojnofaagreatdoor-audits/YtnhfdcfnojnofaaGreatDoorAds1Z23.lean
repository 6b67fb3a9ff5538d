import Derived.Test.YtnhfdcfnojnofaaGreatDoorAds1Z20
open Option renaming none->O,some->E
open Go.Value renaming slice->V,bool->G,string->gS,pointer->pn,int->it,agg->ag
open Go.Obj renaming cells->cl
open Go renaming World->H
open Go.Proofs.Tryz renaming prog->pg
open Go.Proofs.Tryz
set_option linter.unusedSimpArgs false
set_option linter.unusedVariables false
set_option maxHeartbeats 2000000
set_option maxRecDepth 100000
namespace Go.Proofs.YtnhfdcfnojnofaaGreatDoor.T
open Go.RowKit
theorem Qj.two {w:H}{v:Value}{a b:Int×Nat}(h:Qj w v [a,b]):∃g c cap,∃x y:Tri,v=V (E ⟨g,c,O⟩) 2 cap/\2<=cap/\qe w x.val a.1 a.2/\qe w y.val b.1 b.2/\
 (w.cell? ⟨g,c,O⟩=E (G x.b)/\w.cell? ⟨g,c+1,O⟩=E x.up/\w.cell? ⟨g,c+2,O⟩=E x.down)/\
 (w.cell? ⟨g,c+3,O⟩=E (G y.b)/\w.cell? ⟨g,c+4,O⟩=E y.up/\w.cell? ⟨g,c+5,O⟩=E y.down):=by
 obtain⟨d,f,e,i⟩:=h;obtain⟨x,y,rfl⟩:∃x y,d= [x,y]:=by
  match d,f with
  |[x,y],_=>exact⟨x,y,rfl⟩
 rcases i with ⟨_,f⟩|⟨g,c,cap,o,n,_,d⟩
 ·cases f
 ·obtain⟨f,i,j⟩:=d 0 x rfl;obtain⟨k,l,m⟩:=d 1 y rfl;exact⟨g,c,cap,x,y,o,n,e 0 x a rfl rfl,e 1 y b rfl rfl,⟨f,i,j⟩,⟨k,l,m⟩⟩
theorem ziy (q w:H)(b n i:Nat)(sr l g:ByteArray)(v:Value)(mx j J:List Int)(vM L C vC:Value)(h:RQ q w b n mx j J [] vM L C vC)(K:Sv w v [sr,l,g])(aP:∀k,v.ownBlock=E k->k≠b)(al:l.size<=1000000000/\g.size<=1000000000)(bd:0<n/\n<=4)(b6:2<=i)(b9:i<=1+n)
 (hs:sr.toList= [114,97,110,103,101]) (ha:wOk l.data.toList=true) (hb:wOk g.data.toList=true) (ba:j.length<=100) (b3:J.length<=100):
 Calls pg 112 #[pn (E ⟨b,0,O⟩),it .i64 (i:Nat),v] w fun e w'=>e= .returned (G true)/\∃aV aU,RQ q w' b n mx (j ++ [wZ l.data.toList]) (J ++ [wZ g.data.toList]) [] vM aV aU vC:=by
 obtain⟨i0,ae,ar,au,av⟩:=qL Tryz.infoNum;obtain⟨_,N,P,_,_,_,_,_,_,_⟩:=h.box;have aO:=K;obtain⟨_,a5,rfl⟩:=K.shape;obtain⟨F,a3,rfl,hg,ak⟩:=K.row sp;have c0:w.cell? ⟨F,a3,O⟩=E (gS sr):=ak 0 sp;have aZ:=aP F rfl;have aY:3<=a5:=by
  rcases K with ⟨e,_⟩|⟨_,_,_,e,M,_⟩
  ·simp at e
  ·simp only[zV]at e;simp at M;omega
 have S:=(aO.tail1 2 sp).1 om;have aL:Sv w (V (E ⟨F,a3+1,O⟩) 2 (a5-1)) [l,g]:=S;have a8:([l,g].all fun aS=>wOk aS.data.toList)=true:=by simp[ha,hb]
 have a4:=zi (zbf w _ [l,g] aL (by simp;exact al) sp);rw[a8]at a4;have b4:¬((i:Int)=0):=om;have b5:¬((i:Int)=1):=om;have b7:¬(1+(n:Int)<(i:Int)):=om;have b8:(i:Int)<=1+(n:Int):=om;clear a8 S K ak al;go_enter func112,ntmps112
 go_wp2_with fail
 refine a4.out.mono ?_;rintro e d ⟨_,rfl,hx,_,aa⟩;obtain⟨aQ,aA⟩:=hx (by first|exact trivial|rfl);have B:=h.below aa;obtain⟨c,ox,_,t,u,rfl,_,ht,S,⟨t0,t1,t2⟩,u0,u1,u2⟩:=aQ.two;obtain⟨k0,k1,k2,k3,k4,e0,e1,M,e3,e4⟩:=B.box;have c1:=(aa.cell (p:=⟨F,a3,O⟩) hg).trans c0;have b2:=aA c rfl;obtain⟨y,an,a1,aE⟩:=B.lo;have Z:y.length=j.length:=by simpa using an
 have aC:c<d.heap.size:=zN t0;have aD:∀k,L.ownBlock=E k->k≠c:=fun k x=>by have:=(h.lo.lt k x).2;omega
 have be:∀k,C.ownBlock=E k->k≠c:=fun k x=>by have:=(h.hi.lt k x).2;omega
 have Q:=(B.alloc (cl #[G t.b,t.up,t.down] 118)).drew;have aI:((d.alloc (cl #[G t.b,t.up,t.down] 118)).drew).ownsRow q.heap.size 118 3 L y.length (Zj y):=zaJ a1 sp (fun k x=>zI _ _ _ (za5 a1 k x).2);have aW:=B.wr.size;have U:=Q.box;have b0:=B.gpw;have X:E b≠L.ownBlock:=fun e=>by have:=(za5 a1 b e.symm).1;have:=h.lt;omega
 have aB:E b≠C.ownBlock:=fun e=>by have:=(B.hi.lt b e.symm).1;have:=h.lt;omega
 have aR:=Jb (o:=cl #[G t.b,t.up,t.down] 118) k2;go_wp2_with fail
 have aF:∀(i:Nat) (m:Tri) (z:Int×Nat),y[i]? =E m->(j.map fun z=>(z,1))[i]? =E z->qe ((d.alloc (cl #[G t.b,t.up,t.down] 118)).drew) m.val z.1 z.2:=fun i m z N P=>(aE i m z N P).alloc _
 have aK:qe ((d.alloc (cl #[G t.b,t.up,t.down] 118)).drew) t.val (wZ l.data.toList) 1:=ht.alloc _;have aM:qe ((d.alloc (cl #[G t.b,t.up,t.down] 118)).drew) u.val (wZ g.data.toList) 1:=S.alloc _;go_region_law (refine zct _ rfl (.tmp 90) (.tmp 94) 200 rfl q.heap.size 118 i0 (ag #[G false,V O 0 0,V O 0 0]) 3 56 underlying200 ae ar au av rfl dc L y.length (Zj y) rfl aI ⟨d.heap.size,0,O⟩ 1 1 t.cells rfl rfl (zap d t _) (zhB t) om mo om so (d.heap.size+1) sp ?_;intro I D T a2 r a9 bb;have q2:=(r.cell_far ⟨b,2,O⟩ so X).trans U.2.2.1;have aT:=(r.frozen_far ⟨b,2,O⟩ so X).trans U.2.2.2.2.2.2.2.1)
 all_goals
  rw[Z]at a2;have s:=Q.growLo (x:=t) (z:=wZ l.data.toList) (g:=I) (cap:=D) (ts:=y) an aF (by exact aK) (by rw[Z];exact a2) r (a9.imp id (fun e=>by rw[e];simp));rw[Z]at s;have af:=QH.of_grown r Q.noKindL;have ad:=(r.block c so (fun e=>aD c e.symm rfl)).trans (zI _ _ _ aC);have R:(T.setCell ⟨b,2,O⟩ (V (E ⟨I,0,O⟩) (j.length+1) D)).heap[c]? =d.heap[c]?:=(zK _ _ _ _ (by have:=h.gpw;simp;omega)).trans ad;have v0:=(zP (w:=d) (a:=⟨c,ox+3,O⟩) R).trans u0;have v1:=(zP (w:=d) (a:=⟨c,ox+4,O⟩) R).trans u1;have v2:=(zP (w:=d) (a:=⟨c,ox+5,O⟩) R).trans u2;have ah:¬QE T b:=by
   rintro⟨ax,fr,hc⟩;have e:=r.block b so X;exact Q.kind ⟨ax,fr,e.symm.trans hc⟩
  have ap:=(aM.kept af).kept (QH.of_setCell (a:=⟨b,2,O⟩) ah (V (E ⟨I,0,O⟩) (j.length+1) D));obtain⟨f,hw3⟩:∃f,T.setCell ⟨b,2,O⟩ (V (E ⟨I,0,O⟩) (j.length+1) D)=f:=⟨_,rfl⟩;have bf:c<f.heap.size:=by rw[<-hw3];simp;have:=r.size;simp at this;omega
  rw[hw3]at s v0 v1 v2 ap⊢;clear hw3 ad R ah af r a2 a9 q2 aT k0 k1 k2 k3 k4 e0 e1 M e3 e4 aR U t0 t1 t2 u0 u1 u2;obtain⟨aw,hvL2⟩:∃aw:Value,(V (E ⟨I,0,O⟩) (j.length+1) D)=aw:=⟨_,rfl⟩;obtain⟨k0,k1,k2,k3,k4,e0,e1,M,e3,e4⟩:=s.box;obtain⟨A,aq,aj,aH⟩:=s.hi;have a0:A.length=J.length:=by simpa using aq
  have a7:=(s.alloc (cl #[G u.b,u.up,u.down] 118)).drew;have aJ:((f.alloc (cl #[G u.b,u.up,u.down] 118)).drew).ownsRow q.heap.size 118 3 C A.length (Zj A):=zaJ aj sp (fun k x=>zI _ _ _ (za5 aj k x).2);have aX:=s.wr.size;have a6:=a7.box;have b1:=s.gpw;have bg:=Jb (o:=cl #[G u.b,u.up,u.down] 118) k3;have ab:=aB;have aG:∀(i:Nat) (m:Tri) (z:Int×Nat),A[i]? =E m->(J.map fun z=>(z,1))[i]? =E z->qe ((f.alloc (cl #[G u.b,u.up,u.down] 118)).drew) m.val z.1 z.2:=fun i m z N P=>(aH i m z N P).alloc _
  have aN:qe ((f.alloc (cl #[G u.b,u.up,u.down] 118)).drew) u.val (wZ g.data.toList) 1:=ap.alloc _;go_wp2;go_region_law (refine zct _ rfl (.tmp 102) (.tmp 106) 200 rfl q.heap.size 118 i0 (ag #[G false,V O 0 0,V O 0 0]) 3 56 underlying200 ae ar au av rfl dc C A.length (Zj A) rfl aJ ⟨f.heap.size,0,O⟩ 1 1 u.cells rfl rfl (zap f u _) (zhB u) om mo om so (f.heap.size+1) sp ?_;intro g4 ay w4 ai Y az bc;have q3:=(Y.cell_far ⟨b,3,O⟩ so ab).trans a6.2.2.2.1;have bh:=(Y.frozen_far ⟨b,3,O⟩ so ab).trans a6.2.2.2.2.2.2.2.2.1)
  all_goals
   rw[a0]at ai;have W:=a7.growHi (x:=u) (z:=wZ g.data.toList) (g:=g4) (cap:=ay) (ts:=A) aq aG (by exact aN) (by rw[a0];exact ai) Y (az.imp id (fun e=>by rw[e];simp));rw[a0]at W;have HZ:=zi W;clear W;go_wp2;go_ret;exact⟨rfl,_,_,HZ.out⟩
end Go.Proofs.YtnhfdcfnojnofaaGreatDoor.T
