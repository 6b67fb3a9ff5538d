import Derived.Test.YtnhfdcfnojnofaaGreatDoorAds1Z20
open Option renaming none->O,some->E
open Go.Value renaming slice->V,bool->G,string->gS,pointer->pn,int->it,agg->ag
open Go.Obj renaming cells->cl
open Go renaming World->H
open Go.Proofs.Tryz renaming prog->pg
open Go.Proofs.Tryz
set_option linter.unusedSimpArgs false
set_option linter.unusedVariables false
set_option maxHeartbeats 2000000
set_option maxRecDepth 100000
namespace Go.Proofs.YtnhfdcfnojnofaaGreatDoor.T
open Go.RowKit
theorem Tryz.infoCond:(Tryz.prog.info? 206).map (fun i=>(i.zero,i.size,i.bytes))=E (E (ag #[V O 0 0,gS ⟨#[]⟩,G false,V O 0 0,V O 0 0]),5,96):=kr
theorem Qj.one {w:H}{v:Value}{a:Int×Nat}(h:Qj w v [a]):∃g b cap,∃x:Tri,v=V (E ⟨g,b,O⟩) 1 cap/\1<=cap/\qe w x.val a.1 a.2/\(w.cell? ⟨g,b,O⟩=E (G x.b)/\w.cell? ⟨g,b+1,O⟩=E x.up/\w.cell? ⟨g,b+2,O⟩=E x.down):=by
 obtain⟨c,d,j,e⟩:=h;obtain⟨x,rfl⟩:∃x,c= [x]:=by
  match c,d with
  |[x],_=>exact⟨x,rfl⟩
 rcases e with ⟨_,e⟩|⟨g,b,cap,k,i,_,f⟩
 ·cases e
 ·obtain⟨c,d,e⟩:=f 0 x rfl;exact⟨g,b,cap,x,k,i,j 0 x a rfl rfl,⟨c,d,e⟩⟩
theorem zjY (m w:H)(c n i:Nat)(a:List ByteArray)(s b f:ByteArray)(v:Value)(r q d:List Int)(rows:List (List Int×List UInt8×Int))(B A u y:Value)(h:RQ m w c n r q d rows B A u y)(g:Sv w v a)(N:∀k,v.ownBlock=E k->k≠c)(j:a.length=n+3)(t:∀l∈a,l.size<=1000000000)(K:0<n/\n<=4)(J:1+n<i)(I:i<=1000000)
 (g0:a.getD 0 ⟨#[]⟩=s) (C:a.getD (n+1) ⟨#[]⟩=b) (x:a.getD (n+2) ⟨#[]⟩=f) (hs:s.toList= [114,111,119]) (z:((a.drop 1).take n).all (fun l=>wOk l.data.toList)=true) (D:b.toList= [60,61]\/b.toList= [62,61]\/b.toList= [61]) (L:wOk f.data.toList=true) (M:rows.length<=6):
 Calls pg 112 #[pn (E ⟨c,0,O⟩),it .i64 (i:Nat),v] w fun e w'=>e= .returned (G (decide (rows.length<6)))/\∃F,RQ m w' c n r q d (rows ++ [(((a.drop 1).take n).map fun l=>wZ l.data.toList,b.data.toList,wZ f.data.toList)]) B A u F:=by
 obtain⟨i0,a0,a4,a5,a6⟩:=qL Tryz.infoCond;obtain⟨_,_,_,_,_,_,_,_,_,_⟩:=h.box;have B:=g;obtain⟨_,d,rfl⟩:=g.shape;obtain⟨q,u,rfl,s,r⟩:=g.row (by intro e;rw[e]at j;simp at j);have I:=r 0 om;have J:=r (n+1) om;rw[qy,g0]at I;rw[C]at J;have M:a.length<=d:=by
  rcases g with ⟨e,_⟩|⟨_,_,_,e,K,_⟩
  ·simp at e
  ·simp only[zV]at e;omega
 have A:=B.part 1 n (d-1) om om (fun _=>trivial);have X:Sv w (V (E ⟨q,u+(n+1+1),O⟩) 1 (d-(n+1+1))) [f]:=by
  have:=B.part (n+2) 1 (d-(n+1+1)) om om (fun _=>trivial);have e:(a.drop (n+2)).take 1= [f]:=by
   rw[<-x,zk,zj om,Zn om];rfl
  rwa [e]at this
 have F:=zi (zbf w _ ((a.drop 1).take n) A (fun l B=>t l (QO (Zv B))) so);rw[z]at F;have N:f.size<=1000000000:=by rw[<-x,zk,zj om];exact t _ (zZ _)
 have x:([f].all fun l=>wOk l.data.toList)=true:=by simp[L]
 have C:=zi (fun(W:H) (B:Sv W (V (E ⟨q,u+(n+1+1),O⟩) 1 (d-(n+1+1))) [f])=>zbf W _ [f] B (by simpa using N) sp);rw[x]at C;have d:¬((i:Int)=0):=om;have d:¬((i:Int)=1):=om;have d:1+(n:Int)<(i:Int):=om;have d:¬(i:Int)<=1+(n:Int):=om;have B:((a.drop 1).take n).length=n:=so;rw[j]at M⊢;clear x g r t z;go_enter func112,ntmps112
 go_wp2_with fail
 refine F.out.mono ?_;rintro e t ⟨x,rfl,W,_,r⟩;obtain⟨z,U⟩:=W (by first|exact trivial|rfl);have d:=z.shape;rw[zo,B]at d;obtain⟨j,g,rfl⟩:=d;have T:=h.below r;obtain⟨Y,Z,k2,k3,L,P,Q,K,R,S⟩:=T.box;have M:=(r.cell (p:=⟨q,u,O⟩) s).trans I;have N:=(r.cell (p:=⟨q,u+(n+1),O⟩) s).trans J;go_wp2_with fail
 refine(C.out t (X.below r)).mono ?_;rintro e d ⟨_,rfl,X,_,B⟩;obtain⟨a3,_⟩:=X (by first|exact trivial|rfl);obtain⟨_,_,_,t,rfl,_,ht,_,_,_⟩:=a3.one;have a3:=z.below B;have z:=T.below B;have T:=(B.cell (p:=⟨q,u,O⟩) (zv s r.size)).trans M;have T:=(B.cell (p:=⟨q,u+(n+1),O⟩) (zv s r.size)).trans N;clear Y Z k2 k3 L P Q K R S M N I J F C X W;obtain⟨Y,Z,k2,k3,L,P,Q,K,R,S⟩:=z.box;obtain⟨r,B,u,N⟩:=z.cs;have C:=z.gpw;have J:E c≠y.ownBlock:=fun e=>by have:=(za5 u c e.symm).1;have:=h.lt;omega
 have I:=(z.alloc (cl #[V j n g,gS b,G t.b,t.up,t.down] 206)).drew;have F:=I.box;have Q:((d.alloc (cl #[V j n g,gS b,G t.b,t.up,t.down] 206)).drew).ownsRow m.heap.size 206 5 y r.length (JR r):=zaJ u sp (fun k C=>zI _ _ _ (za5 u k C).2);have u:=z.wr.size;obtain⟨x,hxe⟩:∃x:jU,x=⟨(j,n,g),b,t⟩:=⟨_,rfl⟩;have P:∀(z:Nat) (u:Value),x.cells[z]? =E u->((d.alloc (cl #[V j n g,gS b,G t.b,t.up,t.down] 206)).drew).cell? ((⟨d.heap.size,0,O⟩:Addr).add z)=E u:=by
  have M:=qq d (cl #[V j n g,gS b,G t.b,t.up,t.down] 206);intro z u K;refine Jw (w:=(d.alloc (cl #[V j n g,gS b,G t.b,t.up,t.down] 206)).drew) M z u ?_;rw[hxe]at K;exact K
 have K:∀u∈x.cells,u.oneCell'=true:=by
  intro u A;rw[hxe]at A;simp only[jU.cells,jU.gv,qw,Zi,QF]at A;rcases A with rfl|rfl|rfl|rfl|rfl<;>rfl
 have A:x.cells.length=1*5:=by rw[hxe];rfl
 have M:zbQ m.heap.size ((d.alloc (cl #[V j n g,gS b,G t.b,t.up,t.down] 206)).drew) y x (((a.drop 1).take n).map fun l=>wZ l.data.toList,b.data.toList,wZ f.data.toList):=by
  rw[hxe];refine⟨?_,fun k C=>⟨zL h.wr.size (U k C),fun e=>?_⟩,rfl,ht.alloc _⟩
  ·have e:((((a.drop 1).take n).map fun l=>wZ l.data.toList).map fun z=>(z,(1:Nat)))=(((a.drop 1).take n).map fun l=>(wZ l.data.toList,1)):=by rw[ZV];rfl
   show Qj _ (V j n g) ((((a.drop 1).take n).map fun l=>wZ l.data.toList).map fun z=>(z,1))
   rw[e];exact a3.below (Below.drawn ((zR _ _).alloc (zh _) _) 1)
  ·have:=(h.cs.lt k e).2;have:=U k C;omega
 have C:∀(i:Nat) (a:jU) (f:List Int×List UInt8×Int),r[i]? =E a->rows[i]? =E f->zbQ m.heap.size ((d.alloc (cl #[V j n g,gS b,G t.b,t.up,t.down] 206)).drew) y a f:=fun i a f u z=>(N i a f u z).kept (QH.of_below (Below.drawn ((zR _ _).alloc (zh _) _) 1)) (fun q _ s _=>zI _ _ _ s)
 have a:=Jb (o:=cl #[V j n g,gS b,G t.b,t.up,t.down] 206) L;have a:=zi hxe;clear hxe;rcases D with D|D|D
 all_goals
  go_wp2;go_region_law (refine zct _ rfl (.tmp 155) (.tmp 162) 201 rfl m.heap.size 206 i0 (ag #[V O 0 0,gS ⟨#[]⟩,G false,V O 0 0,V O 0 0]) 5 96 underlying201 a0 a4 a5 a6 rfl dc y r.length (JR r) rfl Q ⟨d.heap.size,0,O⟩ 1 1 x.cells rfl A P K om mo om so (d.heap.size+1) sp ?_;intro b a q g f j d;have m:=(f.cell_far ⟨c,4,O⟩ so J).trans F.2.2.2.2.1;have d:=(f.frozen_far ⟨c,4,O⟩ so J).trans F.2.2.2.2.2.2.2.2.2)
  all_goals
   have d:=I.growCs (x:=x) (g:=b) (cap:=a) (cs:=r) B C M (by rw[B];rw[B]at g;exact g) f (j.imp id (fun e=>by rw[e];simp));rw[B]at d;have f:=zi d;clear d;have d:(q.setCell ⟨c,4,O⟩ (V (E ⟨b,0,O⟩) (rows.length+1) a)).cell? ⟨c,4,O⟩=E (V (E ⟨b,0,O⟩) (rows.length+1) a):=zu _ _ _ m;go_wp2;go_ret;refine⟨?_,_,f.out⟩;apply jH;rw[QD];simp;omega
end Go.Proofs.YtnhfdcfnojnofaaGreatDoor.T
