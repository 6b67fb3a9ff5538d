import Derived.Test.YtnhfdcfnojnofaaGreatDoorAds1Z32
open Option renaming none->O,some->E
open Go.Value renaming slice->V,bool->G,string->gS,pointer->pn,tuple->tp,int->it,agg->ag
open Go.Obj renaming cells->cl
open Go renaming World->H
open Go.Proofs.Tryz renaming prog->pg
open Go.Proofs.Tryz
set_option linter.unusedSimpArgs false
set_option linter.unusedVariables false
set_option maxHeartbeats 4000000
set_option maxRecDepth 100000
namespace Go.Proofs.YtnhfdcfnojnofaaGreatDoor
open Go.RowKit
attribute [local go_sem] qm qW ZR
theorem znN {rg:List (Int×Int)}{k:Nat}(a:k<rg.length):jz k (rg.drop k)=if 7<(rg.getD k (0,0)).2-(rg.getD k (0,0)).1 then E k else jz (k+1) (rg.drop (k+1)):=by
 rw[Zn a,jz,zk,zj a];rfl
theorem zml {n:Nat}(h:n<10^40):n<4294967296^5:=Qm h dc
def zdY (rg:List (Int×Int)):Nat:=match jz 0 rg with|some k=>k+3|.none=>0
theorem zgs (f n:Nat)(z:Option Addr)(cap:Nat)(g:Value)(x:Nat->Nat->Value)(b:Nat)(rg:List (Int×Int))(w:H)(h:w.cell? ⟨f,0,O⟩=E (V z n cap))(d:w.cell? ⟨f,1,O⟩=E g)(r:n<=4)(q:0<n->z=E ⟨b,0,O⟩)(s:rg.length=n)
 (m:∀i j,i<n->j<6->w.cell? ⟨b,i*6+j,O⟩=E (x i j)) (X:∀k t,k<n->t<3->∃b a l c,x k (2*t)=G b/\x k (2*t+1)=V a l c) (o:∀k,k<n->zY w (ag #[x k 2,x k 3]) (rg.getD k (0,0)).1/\zY w (ag #[x k 4,x k 5]) (rg.getD k (0,0)).2/\(rg.getD k (0,0)).1.natAbs<10^40/\(rg.getD k (0,0)).2.natAbs<10^40):
 Calls pg 84 #[pn (E ⟨f,0,O⟩)] w fun e w'=>e= .returned (it .i64 (zdY rg:Nat))/\Below w.heap.size w w':=by
 have r:Tryz.prog.follows .mixedOrders=true:=kr;have r:((w.alloc (cl #[it .i64 0] 3)).alloc (cl #[it .i64 2] 3)).cell? ⟨f,0,O⟩=E (V z n cap):=((zw.alloc 0 w _).trans (zw.alloc 0 _ _)).cell h;have r:((w.alloc (cl #[it .i64 0] 3)).alloc (cl #[it .i64 2] 3)).cell? ⟨f,1,O⟩=E g:=((zw.alloc 0 w _).trans (zw.alloc 0 _ _)).cell d;have T:=zi m;have HX:=zi o;clear m o;have J:0<n->b<w.heap.size:=fun h0=>zN (T.out 0 0 h0 om)
 obtain⟨f,D,m,I⟩:=zdz w (cl #[it .i64 0] 3) (cl #[it .i64 2] 3) (cl #[V z n cap,g] 109) (cl #[V z n cap] 106);have HT:=zi (And.intro f (And.intro D I));clear f D m I;refine JO func84 ntmps84 (h:=?_);gi_wp2;refine(zS.2 (ze6 _ _ _ _ _)).mono ?_;rintro e g ⟨rfl,rfl⟩;gi_wp2;refine zaE (zcN x z b n cap (w.heap.size+1+1+1) om q) rfl (ZJ func244 kr rfl) (fun a4 v=>?_)
  (fun k M A=>k<=n/\A.cell? ⟨w.heap.size+1,0,O⟩=E (it .i64 ((k:Int)+2))/\A.frozen? ⟨w.heap.size+1,0,O⟩=false/\A.cell? ⟨w.heap.size,0,O⟩=E (it .i64 0)/\A.frozen? ⟨w.heap.size,0,O⟩=false/\A.cell? ⟨w.heap.size+1+1+1,0,O⟩=E (V z n cap)/\Below w.heap.size w A/\Hid (jz 0 rg=jz k (rg.drop k))/\∀y,M y↔y=w.heap.size\/y=w.heap.size+1)
  (fun c k A=>c= .ret/\A.cell? ⟨w.heap.size,0,O⟩=E (it .i64 ((k:Int)+3))/\Below w.heap.size w A/\Hid (jz 0 rg=E k))
  (fun y=>y=w.heap.size\/y=w.heap.size+1) ?hI ?hIx ?hC ?h0 ?round ?done ?stop
 case hI=>
  rintro k M A q ⟨g,d,m,o,F,B,C,s,u⟩ r;exact⟨g,r.cell d,(r.frozen d).trans m,r.cell o,(r.frozen o).trans F,r.cell B,r.below C so (zh _),s,u⟩
 case hIx=>
  rintro c k A q ⟨g,d,m,o⟩ r;exact⟨g,r.cell d,r.below m so (zh _),o⟩
 case hC=>
  rintro k M A ⟨g,d,m,o,F,B,C,s,u⟩;refine⟨⟨B,fun i j q K=>(C.cell (p:=⟨b,i*6+j,O⟩) (J om)).trans (T.out i j q K)⟩,fun y Y=>?_⟩;have:=zN d;rcases(u y).1 Y with e|e
  ·simp at this;omega
  ·rw[e];exact this
 case h0=>
  obtain⟨f,D,I⟩:=HT.out;exact⟨qp _,qh _ _ _ _ _ _ D,ZW _ _ _ _ _ D,qh _ _ _ _ _ _ f,ZW _ _ _ _ _ f,qh _ _ _ _ _ _ I,(J4 w _ _ _).alloc so _,by rw[Hid,Zd],fun _=>Ql⟩
 case round=>
  rintro l2 k a4 M A v ⟨ab,d,m,o,F,B,C,s,u⟩;have f:k<n:=by
   have:=(zn.1 v).1;rwa [jD]at this
  rw[za1 f]at v;injection v with v
  subst v;have D:=HX.out k f;have U:=zi (znN (rg:=rg) (k:=k) om);obtain⟨y0,a0,l0,c0,Q,R⟩:=X k 0 f om;obtain⟨y1,N,Z,S,I,J⟩:=X k 1 f om;obtain⟨y2,P,a3,W,K,L⟩:=X k 2 f om;simp only[Z7,Qe,qi,Nat.reduceMul,Nat.reduceAdd]at Q R I J K L;rw[I,J,K,L]at D;rw[Q,R,I,J,K,L];obtain⟨X,a5,a8,a9⟩:=D;have aa:((rg.getD k (0,0)).2-(rg.getD k (0,0)).1).natAbs<4294967296^6:=by
   have f:(10:Nat)^40+10^40<4294967296^6:=dc;omega
  obtain⟨D,hlo⟩:∃D,(rg.getD k (0,0)).1=D:=⟨_,rfl⟩;obtain⟨q,hhi⟩:∃q,(rg.getD k (0,0)).2=q:=⟨_,rfl⟩;rw[hlo,hhi]at U aa;rw[hlo]at X a8;rw[hhi]at a5 a9;clear hlo hhi Q R I J K L;unfold Qr;gi_wp2;refine⟨Wr.of_below ((zR _ _).alloc (zh _) _),fun J K=>?_⟩;have f:=(zw.alloc _ A _).trans K;have I:=fun j a4 (v:(#[G y0,V a0 l0 c0,G y1,V N Z S,G y2,V P a3 W]:Array Value)[j]? =E a4)=>K.cell ((qh _ _ j _ _ _ (qq A (cl #[G y0,V a0 l0 c0,G y1,V N Z S,G y2,V P a3 W] 153))).trans v)
  have p2:=I 2 _ rfl;have p3:=I 3 _ rfl;have p4:=I 4 _ rfl;have p5:=I 5 _ rfl;clear I;have I:w.heap.size+1<A.heap.size:=zN d;have I:A.heap.size<J.heap.size:=zN p2;have I:=f.cell d;have R:=(f.frozen d).trans m;have q4:=f.cell o;have q5:=(f.frozen o).trans F;have q6:=f.cell B;have Q:=f.below C so (zh _);clear K f d m o F B C;obtain⟨f,hA3⟩:∃f,J.setCell ⟨w.heap.size+1,0,O⟩ (it .i64 ((k:Int)+2+1))=f:=⟨_,rfl⟩;have ad:Wr M J f:=by rw[<-hA3];exact(Wr.refl _ _).setCell (p:=⟨w.heap.size+1,0,O⟩) ((u _).2 (.inr rfl)) _
  have L:Below w.heap.size w f:=by rw[<-hA3];exact Q.setCell (p:=⟨w.heap.size+1,0,O⟩) sp _
  have Q:f.cell? ⟨w.heap.size+1,0,O⟩=E (it .i64 ((k:Int)+2+1)):=by rw[<-hA3];exact zu _ _ _ I
  have s3:f.frozen? ⟨w.heap.size+1,0,O⟩=false:=by rw[<-hA3];simpa using R
  have R:f.cell? ⟨w.heap.size,0,O⟩=E (it .i64 0):=by rw[<-hA3,qf _ _ _ _ sp];exact q4
  have s5:f.frozen? ⟨w.heap.size,0,O⟩=false:=by rw[<-hA3];simpa using q5
  have s6:f.cell? ⟨w.heap.size+1+1+1,0,O⟩=E (V z n cap):=by rw[<-hA3,qf _ _ _ _ sp];exact q6
  have u2:f.cell? ⟨A.heap.size,2,O⟩=E (G y1):=by rw[<-hA3,qf _ _ _ _ so];exact p2
  have u3:f.cell? ⟨A.heap.size,3,O⟩=E (V N Z S):=by rw[<-hA3,qf _ _ _ _ so];exact p3
  have u4:f.cell? ⟨A.heap.size,4,O⟩=E (G y2):=by rw[<-hA3,qf _ _ _ _ so];exact p4
  have u5:f.cell? ⟨A.heap.size,5,O⟩=E (V P a3 W):=by rw[<-hA3,qf _ _ _ _ so];exact p5
  have a6:=X.below L;have a7:=a5.below L;have N:Hid ((q-D).natAbs<4294967296^6):=aa;gi_wp2;refine(Zr l2 (zS.2 (zkW f _ _ q D 5 om a7 a6 (zml a9) (zml a8)))).mono ?_;rintro e z ⟨_,rfl,W,I⟩;obtain⟨_,_,_,_,rfl,_,_⟩:=W.parts;gi_wp2;refine(Zr l2 (zS.2 (zkl z 7 om))).mono ?_;rintro e z ⟨_,rfl,X,K⟩;obtain⟨_,_,_,_,rfl,_,_⟩:=X.parts;gi_wp2;refine(Zr l2 (zS.2 (zbJ z _ _ (q-D) 7 6 om (W.below K) X N.out dc))).mono ?_;rintro e S ⟨c,rfl,N,P,a4,a5,a3⟩;have z:=(I.trans (K.mono I.size)).trans (a3.mono (zL I.size K.size));have v2:=(z.cell (p:=⟨w.heap.size+1,0,O⟩) (zN Q)).trans Q;have v3:=(z.frozen (p:=⟨w.heap.size+1,0,O⟩) (zN Q)).trans s3;have v4:=(z.cell (p:=⟨w.heap.size,0,O⟩) (zN R)).trans R;have v5:=(z.frozen (p:=⟨w.heap.size,0,O⟩) (zN R)).trans s5;have v6:=(z.cell (p:=⟨w.heap.size+1+1+1,0,O⟩) (zN s6)).trans s6;have Z:=L.trans (z.mono L.size);have L:=ad.trans (Wr.of_below z);clear I K a3 z W X Q s3 R s5 s6 u2 u3 u4 u5 a6 a7;by_cases z:7<q-D
  ·have I:0<c:=by
    have g:¬c<0:=fun e=>by have:=N.1 e;omega
    have d:¬c=0:=fun e=>by have:=P.1 e;omega
    omega
   have f:Hid (jz 0 rg=E k):=by rw[Hid,s.out,U.out,z8 z]
   clear N P a4 a5;gi_wp2;refine⟨L.setCell (p:=⟨w.heap.size,0,O⟩) ((u _).2 (.inl rfl)) _,rfl,?_,Z.setCell (p:=⟨w.heap.size,0,O⟩) (zh _) _,f⟩;rw[zu _ _ _ v4];congr 2
   all_goals omega
  ·have I:¬0<c:=by
    intro e;have g:q-D<7\/q-D=7:=om;rcases g with g|g
    ·have:=N.2 g;omega
    ·have:=P.2 g;omega
   have f:Hid (jz 0 rg=jz (k+1) (rg.drop (k+1))):=by rw[Hid,s.out,U.out,zW z]
   clear N P a4 a5;gi_wp2;refine⟨L,M,⟨om,?_,v3,v4,v5,v6,Z,f,u⟩,fun y Y=> .inl Y⟩;rw[v2];congr 2
   all_goals first|omega|(simp;omega)
 case stop=>
  rintro D c k A I r ⟨rfl,g,d,m⟩ y;have K:w.heap.size<D:=by simp at I;omega
  have r:zw w.heap.size A (A.putObj D (.deferred O)):=zw.putObj (.deferred O) om y rfl;have J:=r.cell g;have z:=r.below d (zh _) (zh _);clear g d;gi_wp2;refine qt y ?_;refine⟨it .i64 ((k:Int)+3),by simp[results,results84,go_sem,J],?_,z⟩;rw[zdY,m.out];simp
 case done=>
  rintro D M A I ⟨ab,d,m,o,F,B,C,s,u⟩ y;rw[jD]at s;have K:w.heap.size<D:=by simp at I;omega
  have f:Hid (zdY rg=0):=by
   rw[Hid,zdY,s.out,zcf om];rfl
  clear s u d m B T HX HT;have d:(A.setCell ⟨w.heap.size,0,O⟩ (it .i64 0)).heap[D]? =E (.deferred (E [])):=(zK _ _ _ _ so).trans y;have r:zw w.heap.size (A.setCell ⟨w.heap.size,0,O⟩ (it .i64 0)) ((A.setCell ⟨w.heap.size,0,O⟩ (it .i64 0)).putObj D (.deferred O)):=zw.putObj (.deferred O) om d rfl;have J:=r.cell (zu A ⟨w.heap.size,0,O⟩ (it .i64 0) o);have z:=r.below (C.setCell (p:=⟨w.heap.size,0,O⟩) (zh _) (it .i64 0)) (zh _) (zh _);gi_wp2;refine qt d ?_;refine⟨it .i64 0,by simp[results,results84,go_sem,J],?_,z⟩;rw[f.out];rfl
 ·obtain⟨i,q,rfl⟩:=ZC.1 v;rfl
end Go.Proofs.YtnhfdcfnojnofaaGreatDoor
namespace Go.Proofs.YtnhfdcfnojnofaaGreatDoor
open Go.RowKit
theorem zhe {w:H}{f n:Nat}{zs:List Int}(p:Whs w f zs)(d:zs.length=3*n):
 ∃x:Nat->Nat->Value,(∀i j,i<n->j<6->w.cell? ⟨f,i*6+j,O⟩=E (x i j))/\(∀k t,k<n->t<3->∃b a l c,x k (2*t)=G b/\x k (2*t+1)=V a l c)/\
  ∀k t,k<n->t<3->zY w (ag #[x k (2*t),x k (2*t+1)]) (zs.getD (3*k+t) 0):=by
 have o:∀k t,k<n->t<3->∃b a l c,w.cell? ⟨f,k*6+2*t,O⟩=E (G b)/\w.cell? ⟨f,k*6+(2*t+1),O⟩=E (V a l c)/\zY w (ag #[G b,V a l c]) (zs.getD (3*k+t) 0):=by
  intro k t g h;obtain⟨b,a,l,c,d,e,m,_,_⟩:=p.2 (3*k+t) om;rw[show 2*(3*k+t)=k*6+2*t by omega]at d;rw[show 2*(3*k+t)+1=k*6+(2*t+1)by omega]at e;exact⟨b,a,l,c,d,e,m⟩
 refine⟨fun i j=>(w.cell? ⟨f,i*6+j,O⟩).getD .nilFunc,fun i j f p=>?_,fun k t g h=>?_,fun k t g h=>?_⟩
 ·obtain⟨b,a,l,c,d,e,_⟩:=o i (j/2) f om;rcases Nat.mod_two_eq_zero_or_one j with f|f
  ·rw[show 2*(j/2)=j by omega]at d;simp only[d,Zg]
  ·rw[show 2*(j/2)+1=j by omega]at e;simp only[e,Zg]
 ·obtain⟨b,a,l,c,d,e,_⟩:=o k t g h;exact⟨b,a,l,c,by simp only[d,Zg],by simp only[e,Zg]⟩
 ·obtain⟨b,a,l,c,d,e,m⟩:=o k t g h;simp only[d,e,Zg];exact m
theorem zk5 (a:Nat)(p:qo)(b c:Value)(w:H)(h:DQ w a p b c)(l:p.n<=4)(m:p.rg.length=p.n)(i:∀r∈p.rg,r.1.natAbs<10^40/\r.2.natAbs<10^40):
 Calls pg 84 #[pn (E ⟨a,0,O⟩)] w fun e w'=>e= .returned (it .i64 (zdY p.rg:Nat))/\Below w.heap.size w w':=by
 obtain⟨d,f,_,_,_⟩:=h.box;rcases h.cols with ⟨b,rfl⟩|⟨n,_,rfl,_,s,j⟩
 ·refine zgs a p.n O 0 c (fun _ _=> .nilFunc) 0 p.rg w (by rw[b];exact d) f l (fun h=>om) m (fun b b b=>om) (fun k t b=>om) (fun k b=>om)
 ·obtain⟨x,o,q,g⟩:=zhe s j.1;refine zgs a p.n _ _ c x n p.rg w d f l (fun _=>rfl) m o q (fun k b=>?_);have a:=g k 1 b om;have c:=g k 2 b om;obtain⟨b,d⟩:=j.2.2 k om;simp only[Qe,Nat.reduceMul,Nat.reduceAdd]at a c;rw[b]at a;rw[d]at c;have b:p.rg.getD k (0,0)∈p.rg:=by
   rw[zk,zj om];exact zZ _
  exact⟨a,c,(i _ b).1,(i _ b).2⟩
theorem DQ.moved {w:H}{a:Nat}{p:qo}{b d:Option Addr}{n c m k:Nat}(h:DQ w a p (V b n c) (V d m k)):DQ (w.alloc (cl #[V b n c,V d m k] 109)) w.heap.size p (V b n c) (V d m k):=by
 have i:=h.lt;have f:=h.keep (zw.alloc 0 w (cl #[V b n c,V d m k] 109));have a:=qq w (cl #[V b n c,V d m k] 109);refine⟨⟨qh _ _ _ _ _ _ a,qh _ _ _ _ _ _ a,ZW _ _ _ _ _ a,ZW _ _ _ _ _ a,jn a⟩,qj a (fun v b=>?_),?_,fun g a=>⟨(f.nodR g a).1,fun e=>by have:=i g (Or.inr (Or.inr a));omega,(f.nodR g a).2.2⟩,?_⟩
 ·simp only[qw,Zi,QF]at b;intro n e;rcases b with rfl|rfl<;>cases e
 ·rcases f.cols with a|⟨b,j,a,_,d,g⟩
  ·exact Or.inl a
  ·exact Or.inr ⟨b,j,a,fun e=>by have:=i b (Or.inr (Or.inl (by rw[a];rfl)));omega,d,g⟩
 ·obtain⟨_,_,_,_⟩:=f.rows;obtain⟨f,a,b,d⟩:=h.rows;refine⟨f,a,b.alloc _,fun j r row l o=>?_⟩;obtain⟨a,f,b,g,i⟩:=d j r row l o;have d:=b.lt;exact⟨fun e=>by
   rcases e with e|e|e
   ·omega
   ·exact a (Or.inr (Or.inl e))
   ·exact a (Or.inr (Or.inr e)),f,b.keep (zw.alloc 0 w _),g,i.keep (zw.alloc 0 w _)⟩
theorem zid:∀(l:List (List UInt8×Bool)) (i:Nat) (p:qo) (k:Nat),jd i p l= .error k->i<k
 |[],i,p,k,h=>by simp[jd]at h
 |x::r,i,p,k,h=>by
  rw[jd]at h;split at h
  ·injection h with h;omega
  ·split at h
   ·injection h with h;omega
   ·rename_i q a
    have:=zid r (i+1) q k h;omega
theorem zmm {rg:List (Int×Int)}{k:Nat}(h:jz 0 rg=E k):zdY rg=k+3:=by unfold zdY;rw[h]
theorem zk6 {rg:List (Int×Int)}(h:jz 0 rg=O):zdY rg=0:=by unfold zdY;rw[h]
theorem zmn (s:List UInt8)(hs:2000<s.length)(w:H):
 Calls pg 59 #[gS ⟨s.toArray⟩] w fun e w'=>e= .returned (tp #[ag #[V O 0 0,V O 0 0],it .i64 4,it .i64 0])/\Below w.heap.size w w':=by
 have a:(2000:Int)<(s.length:Int):=om;have a:=qq w (cl #[V O 0 0,V O 0 0] 109);have b:=c_ 0 a;have b:=c_ 1 a;go_enter func59,ntmps59
 go_wp2;exact zH (v:=tp #[ag #[V O 0 0,V O 0 0],it .i64 4,it .i64 0]) (by simp[results,results59,go_sem]) rfl ⟨rfl,(zR _ _).alloc (zh _) _⟩
theorem read_any (s:List UInt8)(hs:s.length<=2000)(w:H):
 Calls pg 59 #[gS ⟨s.toArray⟩] w fun e w'=>Below w.heap.size w w'/\
  (
   (∃a b:Nat,jj s= .error (a,b)/\0<a/\e= .returned (tp #[ag #[V O 0 0,V O 0 0],it .i64 (a:Nat),it .i64 (b:Nat)]))\/
   ∃p c i m,jj s= .ok p/\e= .returned (tp #[ag #[i,m],it .i64 0,it .i64 0])/\DQ w' c p i m/\ji (qE s).length p/\2+p.n<=(qE s).length):=by
 have c:¬(2000:Int)<(s.length:Int):=om;have u:Hid (jj s=match jd 0 qo.none (qE s)with
  |.error k=> .error (5,k)
  |.ok p=>if (qE s).length<2+p.n then .error (5,(qE s).length+1)else match jz 0 p.rg with
   |some l=> .error (6,l+3)
   |.none=> .ok p):=by
  rw[Hid];unfold jj;rw[zW om];rfl
 have f:=zi (fun W=>ziB s hs W);have y:Hid (∀k,jd 0 qo.none (qE s)= .error k->0<k):=fun k d=>by have:=zid (qE s) 0 qo.none k d;omega
 obtain⟨h,hLL⟩:∃h,qE s=h:=⟨_,rfl⟩;rw[hLL]at u f y⊢;clear hLL;have n:Below w.heap.size w (w.alloc (cl #[V O 0 0,V O 0 0] 109)):=(zR _ _).alloc (zh _) _;have c:=qq w (cl #[V O 0 0,V O 0 0] 109);have q:=c_ 0 c;have r:=c_ 1 c;have x:=ZW _ _ 0 _ _ c;have z:=ZW _ _ 1 _ _ c;go_enter func59,ntmps59
 go_wp2_with fail
 refine(f.out _).mono ?_;rintro e f ⟨c,t⟩;have o:=c.size;simp only[qx]at o;have D:=(c.cell (p:=⟨w.heap.size,0,O⟩) sp).trans q;have F:=(c.cell (p:=⟨w.heap.size,1,O⟩) sp).trans r;have N:=(c.frozen (p:=⟨w.heap.size,0,O⟩) sp).trans x;have P:=(c.frozen (p:=⟨w.heap.size,1,O⟩) sp).trans z;have C:=n.trans (c.mono sp);have r:=(zw.alloc 0 f (cl #[V O 0 0,V O 0 0] 109)).cell D;have x:=(zw.alloc 0 f (cl #[V O 0 0,V O 0 0] 109)).cell F;have Q:=((zw.alloc 0 f (cl #[V O 0 0,V O 0 0] 109)).frozen D).trans N;have R:=((zw.alloc 0 f (cl #[V O 0 0,V O 0 0] 109)).frozen F).trans P;have n:((f.alloc (cl #[V O 0 0,V O 0 0] 109)).setCell ⟨w.heap.size,0,O⟩ (V O 0 0)).cell? ⟨w.heap.size,1,O⟩=E (V O 0 0):=by rw[zp _ _ _ _ sp];exact x
 have o:(((f.alloc (cl #[V O 0 0,V O 0 0] 109)).setCell ⟨w.heap.size,0,O⟩ (V O 0 0)).setCell ⟨w.heap.size,1,O⟩ (V O 0 0)).cell? ⟨w.heap.size,1,O⟩=E (V O 0 0):=zu _ _ _ n;have q:(((f.alloc (cl #[V O 0 0,V O 0 0] 109)).setCell ⟨w.heap.size,0,O⟩ (V O 0 0)).setCell ⟨w.heap.size,1,O⟩ (V O 0 0)).cell? ⟨w.heap.size,0,O⟩=E (V O 0 0):=by
  rw[zp _ _ _ _ sp];exact zu _ _ _ r
 have J:Below w.heap.size w (((f.alloc (cl #[V O 0 0,V O 0 0] 109)).setCell ⟨w.heap.size,0,O⟩ (V O 0 0)).setCell ⟨w.heap.size,1,O⟩ (V O 0 0)):=((C.alloc C.size _).setCell (p:=⟨w.heap.size,0,O⟩) (zh _) _).setCell (p:=⟨w.heap.size,1,O⟩) (zh _) _;rcases t with ⟨k,d,rfl⟩|⟨p,A,⟨c,rfl⟩|⟨S,i,m,rfl,z,t,L⟩⟩
 ·have m:=y.out k d;have M:¬(k:Int)=0:=om;have m:Hid (jj s= .error (5,k)):=by rw[Hid,u.out,d]
  clear d;go_wp2;exact zH (v:=tp #[ag #[V O 0 0,V O 0 0],it .i64 5,it .i64 (k:Int)]) (by simp[results,results59,go_sem,o,q]) rfl ⟨J,Or.inl ⟨5,k,m.out,om,rfl⟩⟩
 ·have M:¬((h.length:Int)+1)=0:=om;have m:Hid (jj s= .error (5,h.length+1)):=by
   rw[Hid,u.out,A];simp only[c,jo]
  clear A;go_wp2;exact zH (v:=tp #[ag #[V O 0 0,V O 0 0],it .i64 5,it .i64 ((h.length:Int)+1)]) (by simp[results,results59,go_sem,o,q]) rfl ⟨J,Or.inl ⟨5,h.length+1,m.out,om,sp⟩⟩
 ·obtain⟨c,d,hvC⟩:∃c d,i=V c p.n d:=by
   rcases z.cols with ⟨k,i⟩|⟨_,_,i,_⟩
   ·exact⟨O,0,by rw[i,k]⟩
   ·exact⟨_,_,i⟩
  obtain⟨i,k,y⟩:=z.shapeR;subst hvC y;have y:0<h.length:=om;have T:=t.n y;have y:p.rg.length=p.n:=by have:=t.g;omega
  have I:=z.moved;have K:=zi (zk5 f.heap.size p _ _ _ I T.2 y t.bg);have y:Hid (jj s=match jz 0 p.rg with|some l=> .error (6,l+3)|.none=> .ok p):=by
   rw[Hid,u.out,A];simp only[show ¬h.length<2+p.n from S,Jg]
  clear A r x Q R n o q J;go_wp2_with fail
  refine K.out.mono ?_;rintro e h ⟨rfl,A⟩;have u:=C.alloc C.size (cl #[V c p.n d,V i p.rows.length k] 109);have J:=u.trans (A.mono u.size);have u:=(zw.alloc 0 f (cl #[V c p.n d,V i p.rows.length k] 109)).trans (zw.of_below (B:=0) A);have r:=u.cell D;have x:=u.cell F;have Q:=(u.frozen D).trans N;have R:=(u.frozen F).trans P;have C:=I.below A;have D:=C.box;obtain⟨_,_,_,_,_⟩:=D;have D:¬Own f.heap.size (V c p.n d) (V i p.rows.length k) w.heap.size:=by
   intro e;rcases e with e|e|e
   ·omega
   ·have:=L _ (Or.inr (Or.inl e));simp only[qx]at this;omega
   ·have:=L _ (Or.inr (Or.inr e));simp only[qx]at this;omega
  clear u A I z K;cases hwd:jz 0 p.rg with
  |some l=>
   have m:Hid (jj s= .error (6,l+3)):=by rw[Hid,y.out,hwd]
   rw[zmm hwd];have M:¬((l:Int)+3)=0:=om;have n:(h.setCell ⟨w.heap.size,0,O⟩ (V O 0 0)).cell? ⟨w.heap.size,1,O⟩=E (V O 0 0):=by rw[zp _ _ _ _ sp];exact x
   have o:((h.setCell ⟨w.heap.size,0,O⟩ (V O 0 0)).setCell ⟨w.heap.size,1,O⟩ (V O 0 0)).cell? ⟨w.heap.size,1,O⟩=E (V O 0 0):=zu _ _ _ n;have q:((h.setCell ⟨w.heap.size,0,O⟩ (V O 0 0)).setCell ⟨w.heap.size,1,O⟩ (V O 0 0)).cell? ⟨w.heap.size,0,O⟩=E (V O 0 0):=by
    rw[zp _ _ _ _ sp];exact zu _ _ _ r
   clear hwd y;go_wp2;exact zH (v:=tp #[ag #[V O 0 0,V O 0 0],it .i64 6,it .i64 ((l:Int)+3)]) (by simp[results,results59,go_sem,o,q]) rfl ⟨(J.setCell (p:=⟨w.heap.size,0,O⟩) (zh _) _).setCell (p:=⟨w.heap.size,1,O⟩) (zh _) _,Or.inl ⟨6,l+3,m.out,om,sp⟩⟩
  |none=>
   have m:Hid (jj s= .ok p):=by rw[Hid,y.out,hwd]
   rw[zk6 hwd];have l:(h.setCell ⟨w.heap.size,0,O⟩ (V c p.n d)).cell? ⟨w.heap.size,0,O⟩=E (V c p.n d):=zu _ _ _ r;have n:(h.setCell ⟨w.heap.size,0,O⟩ (V c p.n d)).cell? ⟨w.heap.size,1,O⟩=E (V O 0 0):=by rw[zp _ _ _ _ sp];exact x
   have o:((h.setCell ⟨w.heap.size,0,O⟩ (V c p.n d)).setCell ⟨w.heap.size,1,O⟩ (V i p.rows.length k)).cell? ⟨w.heap.size,1,O⟩=E (V i p.rows.length k):=zu _ _ _ n;have q:((h.setCell ⟨w.heap.size,0,O⟩ (V c p.n d)).setCell ⟨w.heap.size,1,O⟩ (V i p.rows.length k)).cell? ⟨w.heap.size,0,O⟩=E (V c p.n d):=by
    rw[zp _ _ _ _ sp];exact l
   have h:=zi ((C.set_other (g:=w.heap.size) (j:=0) (v:=V c p.n d) D r sp sp r sp).set_other (g:=w.heap.size) (j:=1) (v:=V i p.rows.length k) D n sp sp l sp);have l:=zi t;clear hwd y C t;go_wp2;exact zH (v:=tp #[ag #[V c p.n d,V i p.rows.length k],it .i64 0,it .i64 0]) (by simp[results,results59,go_sem,o,q]) rfl ⟨(J.setCell (p:=⟨w.heap.size,0,O⟩) (zh _) _).setCell (p:=⟨w.heap.size,1,O⟩) (zh _) _,Or.inr ⟨p,f.heap.size,_,_,m.out,rfl,h.out,l.out,om⟩⟩
attribute [local go_sem] qm qW ZR
def itoaB (z:Int):ByteArray:=⟨(Lib.itoa z).toArray⟩
end Go.Proofs.YtnhfdcfnojnofaaGreatDoor
