import Derived.Test.YtnhfdcfnojnofaaGreatDoorAds1Z19
import Derived.Test.YtnhfdcfnojnofaaGreatDoorAds1Z20
open Option renaming none->O,some->E
open Go.Value renaming slice->V,bool->G,string->gS,pointer->pn,tuple->tp,int->it,agg->ag
open Go.Obj renaming cells->cl
open Go renaming World->H
open Go.Proofs.Tryz renaming prog->pg
open Go.Proofs.Tryz
set_option linter.unusedSimpArgs false
set_option linter.unusedVariables false
set_option maxHeartbeats 2000000
set_option maxRecDepth 100000
namespace Go.Proofs.YtnhfdcfnojnofaaGreatDoor
open Go.RowKit
attribute [local go_sem] qm qW ZR
theorem Wr.keep {T:Nat->Prop}{w W W':H}(h:Wr T w W)(a:zw w.heap.size W W'):Wr T w W':=
 ⟨a.os.trans h.os,a.tape.trans h.tape,a.output.trans h.output,zL h.size a.size,fun k b c=>by
  have d:=h.block k b c;have c:=zv b h.size;rw[<-d,ZM c];exact a.block k _ (ZM c) (.inl b)⟩
theorem Wr.frozen {T:Nat->Prop}{w w':H}(h:Wr T w w'){p:Addr}(b:¬T p.block)(a:p.block<w.heap.size):w'.frozen? p=w.frozen? p:=
 zt (w:=w) (h.block p.block a b)
theorem Wr.new {T:Nat->Prop}{w w':H}(h:Wr T w w'){p:Addr}(a:w.heap.size<=p.block)(v:Value):Wr T w (w'.setCell p v):=
 ⟨h.os,h.tape,h.output,by simpa using h.size,fun k a b=>(zK _ _ _ _ om).trans (h.block k a b)⟩
def zcX (m:Nat)(ok:Nat->List UInt8->Bool)(ws:List (List UInt8)):Bool:=decide (ws.length=m/\∀j,j<m->ok j (ws.getD j [])=true)
theorem znA {s:List UInt8}(k:Nat)(a:k<(qg s).length):((qg s).getD k []).length<=s.length:=by
 rw[zk,zj a];exact(zcJ _ s).2 _ (zZ a)
theorem zgH (s:List UInt8)(hs:s.length<=2000)(t:List Value)(ok:Nat->List UInt8->Bool)(T:Nat->Prop)(z:List (List UInt8)->H->Prop)(g cap:Nat)(w:H)
 (j:∀x,T x->x<w.heap.size) (hg:¬T g) (c:t.length<=1000) (b:t.length<=cap) (X:cap<=9223372036854775807)
 (l:∀i fv,t[i]? =E fv->w.cell? ⟨g,i,O⟩=E fv)
 (d:∀pre A B,z pre A->zw w.heap.size A B->z pre B)
 (h:∀pre A a y v,z pre A->A.cell? a=E y->(∀k,y≠it .u32 k)->w.heap.size<=a.block->z pre (A.setCell a v))
 (n:∀k fv,t[k]? =E fv->∃f q,fv= .func (.func f) #[] #[pn (E ⟨q,0,O⟩)]/\(∀args w,(callFunc f args).run pg w= .ok (.enter f args) w)/\
  ∀pre x W,pre.length=k->x.length<=2000->Wr T w W->z pre W->Calls pg f #[gS ⟨x.toArray⟩,pn (E ⟨q,0,O⟩)] W fun e W'=>e= .returned (G (ok k x))/\Wr T W W'/\(ok k x=true->z (pre ++ [x]) W'))
 (h0:z [] w):
 Calls pg 319 #[gS ⟨s.toArray⟩,V (E ⟨g,0,O⟩) t.length cap] w fun e w'=>
  e= .returned (G (zcX t.length ok (qg s)))/\Wr T w w'/\(zcX t.length ok (qg s)=true->z (qg s) w'):=by
 obtain⟨m,hm⟩:∃m,t.length=m:=⟨_,rfl⟩;rw[hm]at c b⊢;have HS:=zi n;have Z:=zi d;have a3:=zi h;have HR:=zi l;have HM:=zi hm;have J:=zi (fun k (r:k<(qg s).length)=>zL (znA k r) hs);have c:=zi (zh8 s om (w.heap.size+2));have L:=zi j;obtain⟨b,hws⟩:∃b,qg s=b:=⟨_,rfl⟩;rw[hws]at J c⊢;clear n d h l hm j hws;refine JO func319 ntmps319 (h:=?_);gi_wp2;refine(zS.2 (zjj _ _)).mono ?_;rintro e d ⟨rfl,rfl⟩;gi_wp2;have h:∀x,w.heap.size<=x->¬T x:=fun x d j=>by have:=L.out x j;omega
 have C:=zi h;clear h;refine zaE c.out rfl (ZJ func370 kr rfl) (fun v F=>?_)
  (fun k M A=>k<=m/\Hid (∀n,n<k->ok n (b.getD n [])=true)/\z (b.take k) A/\Wr T w A/\
   (∃N o,A.cell? ⟨w.heap.size,0,O⟩=E (V N (m-k) o)/\(k<m->N=E ⟨g,k,O⟩)/\m-k<=o/\o<=9223372036854775807)/\A.frozen? ⟨w.heap.size,0,O⟩=false/\
   A.cell? ⟨w.heap.size+1,0,O⟩=E (G false)/\A.frozen? ⟨w.heap.size+1,0,O⟩=false/\
   A.cell? ⟨w.heap.size+2,0,O⟩=E (gS ⟨s.toArray⟩)/\∀x,M x↔T x\/x=w.heap.size\/x=w.heap.size+1)
  (fun o k A=>o= .ret/\Wr T w A/\A.cell? ⟨w.heap.size+1,0,O⟩=E (G false)/\zcX m ok b=false) (fun x=>T x\/x=w.heap.size\/x=w.heap.size+1) ?hI ?hIx ?hC ?h0 ?round ?done ?stop
 case hI=>
  rintro k M A B ⟨I,D,c,j,⟨N,o,l,S,U,h8⟩,R,h,Q,K,u⟩ r;have Y:=r.mono (B':=w.heap.size) so;exact⟨I,D,Z.out _ _ _ c Y,j.keep Y,⟨N,o,r.cell l,S,U,h8⟩,(r.frozen l).trans R,r.cell h,(r.frozen h).trans Q,r.cell K,u⟩
 case hIx=>
  rintro o k A B ⟨I,D,c,j⟩ r;exact⟨I,D.keep (r.mono (B':=w.heap.size) so),r.cell c,j⟩
 case hC=>
  rintro k M A ⟨I,D,c,j,⟨N,o,l,S,U,h8⟩,R,h,Q,K,u⟩;refine⟨K,fun x d=>?_⟩;rcases(u x).1 d with P|P|P
  ·exact zv (L.out x P) j.size
  ·rw[P];exact zN l
  ·rw[P];exact zN h
 case h0=>
  refine⟨qp _,fun n hj=>om,Z.out _ _ _ h0 (((zw.alloc _ _ _).trans (zw.alloc _ _ _)).trans (zw.alloc _ _ _)),?_,⟨E ⟨g,0,O⟩,cap,?_,fun _=>rfl,om,X⟩,?_,?_,?_,?_,fun _=>Ql⟩;·exact Wr.of_below ((((zR _ w).alloc (zh _) _).alloc sp _).alloc so _)
  ·exact(((Qp w _ _).alloc _).alloc _).cell
  ·exact(((Qp w _ _).alloc _).alloc _).frozen
  ·have:=((Qp (w.alloc (cl #[V (E ⟨g,0,O⟩) m cap] 433)) 4 (G false)).alloc (cl #[gS ⟨s.toArray⟩] 9)).cell;rwa [qx]at this
  ·have:=((Qp (w.alloc (cl #[V (E ⟨g,0,O⟩) m cap] 433)) 4 (G false)).alloc (cl #[gS ⟨s.toArray⟩] 9)).frozen;rwa [qx]at this
  ·have:=(Qp ((w.alloc (cl #[V (E ⟨g,0,O⟩) m cap] 433)).alloc (cl #[G false] 4)) 9 (gS ⟨s.toArray⟩)).cell;rwa [qx,qx]at this
 case round=>
  rintro a1 k v M A F ⟨I,D,c,j,⟨N,o,l,S,U,h8⟩,R,h,Q,K,u⟩;obtain⟨Y,hvx⟩:∃r:k<b.length,v=zeu (b.getD k []):=by
   rw[zQ]at F;cases d:b[k]? with
   |none=>rw[d]at F;cases F
   |some x=>
    rw[d]at F;injection F with F
    exact⟨(zn.1 d).1,by rw[<-F,zk,d];rfl⟩
  obtain⟨x,d⟩:∃x,b.getD k []=x:=⟨_,rfl⟩;have L:=d▸J.out k Y;rw[d]at hvx;subst hvx;have HX:=zi d;clear d F;unfold Qr zeu;gi_wp2;refine⟨Wr.refl _ _,fun A2 d=>?_⟩;have J:=d.mono (B':=w.heap.size) so;replace c:=Z.out _ _ _ c J
  replace j:=j.keep J
  replace R:=(d.frozen l).trans R
  replace l:=d.cell l
  replace Q:=(d.frozen h).trans Q
  replace h:=d.cell h
  replace K:=d.cell K
  by_cases a0:k<m
  ·obtain rfl:=S a0;obtain⟨d,X⟩:∃d,m-k=d+1:=⟨m-k-1,om⟩;rw[X]at l U;obtain⟨fv,hfv⟩:∃fv,t[k]? =E fv:=⟨_,zj (by rw[HM.out];exact a0)⟩;obtain⟨f,q,rfl,_,t⟩:=HS.out k fv hfv;have J:=j.cell (p:=⟨g,k,O⟩) hg (HR.out k _ hfv);have J:=zi (t (b.take k) x A2 (by rw[zU];omega) L j c);clear t;gi_wp2;refine(Zr a1 (zS.2 J.out)).mono ?_;rintro e J ⟨rfl,L,a2⟩;have p5:=L.cell (p:=⟨w.heap.size,0,O⟩) (C.out _ (zh _)) l;have p9:=(L.frozen (p:=⟨w.heap.size,0,O⟩) (C.out _ (zh _)) (zN l)).trans R;have a6:=L.cell (p:=⟨w.heap.size+1,0,O⟩) (C.out _ sp) h;have a9:=(L.frozen (p:=⟨w.heap.size+1,0,O⟩) (C.out _ sp) (zN h)).trans Q;have aa:=L.cell (p:=⟨w.heap.size+2,0,O⟩) (C.out _ sp) K;have a5:=j.trans L;by_cases a1:ok k x=true
   ·have a7:=zi (a2 a1);clear a2;have H2:Hid (∀n,n<k+1->ok n (b[n]?.getD [])=true):=by
     intro n hj;rw[<-zk];by_cases t:n<k
     ·exact D.out n t
     ·obtain rfl:n=k:=om;rw[HX.out];exact a1
    have t:b.take (k+1)=b.take k ++ [x]:=by
     rw[List.take_add_one,<-HX.out,zk,zj Y];rfl
    have a8:=zi t;clear t;have Y:∀(C:Option Addr) (t:Nat),(0<d->C=E ⟨g,k+1,O⟩)->d<=t->t<=9223372036854775807->
     Wr M A2 (J.setCell ⟨w.heap.size,0,O⟩ (V C d t))/\z (b.take (k+1)) (J.setCell ⟨w.heap.size,0,O⟩ (V C d t))/\Wr T w (J.setCell ⟨w.heap.size,0,O⟩ (V C d t))/\
     (J.setCell ⟨w.heap.size,0,O⟩ (V C d t)).cell? ⟨w.heap.size,0,O⟩=E (V C (m-(k+1)) t)/\
     (J.setCell ⟨w.heap.size,0,O⟩ (V C d t)).frozen? ⟨w.heap.size,0,O⟩=false/\
     (J.setCell ⟨w.heap.size,0,O⟩ (V C d t)).cell? ⟨w.heap.size+1,0,O⟩=E (G false)/\
     (J.setCell ⟨w.heap.size,0,O⟩ (V C d t)).frozen? ⟨w.heap.size+1,0,O⟩=false/\
     (J.setCell ⟨w.heap.size,0,O⟩ (V C d t)).cell? ⟨w.heap.size+2,0,O⟩=E (gS ⟨s.toArray⟩):=by
     intro C t t t a4;refine⟨(L.mono fun y t=>(u y).2 (.inl t)).setCell (p:=⟨w.heap.size,0,O⟩) ((u _).2 (.inr (.inl rfl))) _,?_,a5.new (p:=⟨w.heap.size,0,O⟩) (zh _) _,?_,by simpa using p9,?_,by simpa using a9,?_⟩
     ·rw[a8.out];exact a3.out _ _ ⟨w.heap.size,0,O⟩ _ _ a7.out p5 sp (zh _)
     ·rw[zu _ _ _ p5];rw[show m-(k+1)=d by omega]
     ·rw[far om];exact a6
     ·rw[far om];exact aa
    have HF:=zi Y;clear Y;gi_wp2
    ·obtain rfl:d=0:=om;obtain⟨d,C,J,Y,f5,f6,f7,f8⟩:=HF.out (E ⟨g,k,O⟩) 0 om om om;exact⟨d,M,⟨om,H2,C,J,⟨_,_,Y,om,om,om⟩,f5,f6,f7,f8,u⟩,fun y t=> .inl t⟩
    ·obtain⟨d,C,J,Y,f5,f6,f7,f8⟩:=HF.out (E ⟨g,k+1,O⟩) (o-1) (fun _=>rfl) om om;exact⟨d,M,⟨om,H2,C,J,⟨_,_,Y,fun _=>rfl,om,om⟩,f5,f6,f7,f8,u⟩,fun y t=> .inl t⟩
   ·have C:ok k x=false:=by simpa using a1
    clear a2;gi_wp2;refine⟨?_,rfl,?_,?_,?_⟩;·exact(L.mono fun y t=>(u y).2 (.inl t)).setCell (p:=⟨w.heap.size+1,0,O⟩) ((u _).2 (.inr (.inr rfl))) _
    ·exact a5.new (p:=⟨w.heap.size+1,0,O⟩) sp _
    ·exact zu _ _ _ a6
    ·refine ZB fun d=>?_
     have:=d.2 k a0;rw[HX.out,C]at this;cases this
  ·obtain rfl:k=m:=om;rw[Zy]at l;gi_wp2;refine⟨?_,rfl,?_,?_,?_⟩;·exact(Wr.refl _ _).setCell (p:=⟨w.heap.size+1,0,O⟩) ((u _).2 (.inr (.inr rfl))) _
   ·exact j.new (p:=⟨w.heap.size+1,0,O⟩) sp _
   ·exact zu _ _ _ h
   ·exact ZB fun d=>om
 case done=>
  rintro C M A t ⟨I,D,c,j,⟨N,o,l,S,U,h8⟩,R,h,Q,K,u⟩ X;rw[zo]at I D c l S U;have d:zcX m ok b=(((m-b.length:Nat):Int) == 0):=by
   rw[QD,zcX,Qw,beq_iff_eq];constructor
   ·intro P;omega
   ·intro P;have J:b.length=m:=om;exact⟨J,fun n hj=>D.out n om⟩
  have n:=zi d;clear d;gi_wp2;have u:(A.setCell ⟨w.heap.size+1,0,O⟩ (G (((m-b.length:Nat):Int) == 0))).heap[C]? =E (.deferred (E [])):=(zK _ _ _ _ (by simp at t;simp;omega)).trans X;have d:zw w.heap.size (A.setCell ⟨w.heap.size+1,0,O⟩ (G (((m-b.length:Nat):Int) == 0))) _:=zw.putObj (.deferred O) (by simp at t;omega) u rfl;have l:=d.cell (zu A ⟨w.heap.size+1,0,O⟩ (G (((m-b.length:Nat):Int) == 0)) h);refine qt u ?_;refine⟨G (((m-b.length:Nat):Int) == 0),by simp[results,results319,go_sem,l],by rw[n.out],(j.new (p:=⟨w.heap.size+1,0,O⟩) sp _).keep d,fun j=>?_⟩;rw[n.out]at j;have J:b.length=m:=by simp at j;omega
  have a4:z b A:=by rw[zy (zh _)]at c;exact c
  exact Z.out _ _ _ (a3.out _ _ ⟨w.heap.size+1,0,O⟩ _ _ a4 h sp sp) d
 case stop=>
  rintro C o k A t r ⟨rfl,I,D,c⟩ X;gi_wp2;have d:zw w.heap.size A _:=zw.putObj (.deferred O) (by simp at t;omega) X rfl;have l:=d.cell D;refine qt X ?_;exact⟨G false,by simp[results,results319,go_sem,l],by rw[c],I.keep d,fun j=>by rw[c]at j;cases j⟩
 ·obtain⟨i,_,rfl⟩:=ZC.1 F;rfl
end Go.Proofs.YtnhfdcfnojnofaaGreatDoor
namespace Go.Proofs.YtnhfdcfnojnofaaGreatDoor
open Go.RowKit
def Whs (w:H)(b:Nat)(zs:List Int):Prop:=qU w b/\∀j,j<zs.length->QK w b (2*j) (zs.getD j 0)
theorem Whs.lt {w:H}{b:Nat}{zs:List Int}(h:Whs w b zs):b<w.heap.size:=by
 obtain⟨_,a,_⟩:=h.1.1;exact(zf.1 a).1
theorem Whs.keep {B:Nat}{w w':H}{b:Nat}{zs:List Int}(h:Whs w b zs)(a:zw B w w'):Whs w' b zs:=
 ⟨h.1.keep a,fun j c=>(h.2 j c).keep a⟩
theorem Whs.below {w w':H}{b:Nat}{zs:List Int}(h:Whs w b zs)(a:Below w.heap.size w w'):Whs w' b zs:=h.keep (B:=0) (zw.of_below a)
theorem QK.setCell {w:H}{b o:Nat}{z:Int}(h:QK w b o z){a:Addr}{y:Value}(n:w.cell? a=E y)(m:∀k,y≠it .u32 k)(c:a.block≠b)(v:Value):QK (w.setCell a v) b o z:=by
 obtain⟨x,d,p,e,f,g,i,j,l⟩:=h;exact⟨x,d,p,e,(qf _ _ _ _ c).trans f,(qf _ _ _ _ c).trans g,i.setCell n m v,by simpa using j,by simpa using l⟩
theorem qU.far {w:H}{b:Nat}(h:qU w b){a:Addr}(c:a.block≠b)(v:Value):qU (w.setCell a v) b:=
 h.same (zK _ _ _ _ (fun e=>c e.symm))
theorem Whs.setCell {w:H}{b:Nat}{zs:List Int}(h:Whs w b zs){a:Addr}{y:Value}(f:w.cell? a=E y)(e:∀k,y≠it .u32 k)(c:a.block≠b)(v:Value):Whs (w.setCell a v) b zs:=
 ⟨h.1.far c v,fun j d=>(h.2 j d).setCell f e c v⟩
theorem QK.wr {T:Nat->Prop}{w w':H}{b o:Nat}{z:Int}(h:QK w b o z)(a:Wr T w w')(c:¬T b)(n:∀k,T k->qU w k):QK w' b o z:=by
 have d:=h.lt;obtain⟨x,e,q,f,g,i,j,l,m⟩:=h;exact⟨x,e,q,f,a.cell c g,a.cell c i,j.wr a n,(a.frozen (p:=⟨b,o,O⟩) c d).trans l,(a.frozen (p:=⟨b,o+1,O⟩) c d).trans m⟩
theorem Whs.wr {T:Nat->Prop}{w w':H}{b:Nat}{zs:List Int}(h:Whs w b zs)(c:Wr T w w')(a:¬T b)(e:∀k,T k->qU w k):Whs w' b zs:=
 ⟨h.1.wr c a,fun j d=>(h.2 j d).wr c a e⟩
theorem Whs.put {w:H}{b j:Nat}{zs:List Int}{z:Int}{x:Bool}{a:Option Addr}{l c:Nat}(h:Whs w b zs)(f:j<zs.length)(g:zY w (ag #[G x,V a l c]) z):
 Whs ((w.setCell ⟨b,2*j,O⟩ (G x)).setCell ⟨b,2*j+1,O⟩ (V a l c)) b (zs.set j z):=by
 obtain⟨_,d,n,e,k,m,_⟩:=h.2 j f;refine⟨?_,fun i a=>?_⟩
 ·have f:(w.setCell ⟨b,2*j,O⟩ (G x)).cell? ⟨b,2*j+1,O⟩=E (V d n e):=by
   rw[zp _ _ _ _ (by intro e;injection e with _ d;omega)];exact m
  exact(h.1.setCell k sp).setCell f sp
 ·rw[Zf]at a;by_cases d:i=j
  ·subst d;have e:(zs.set i z).getD i 0=z:=by simp[zk,a]
   rw[e];exact(h.2 i a).put h.1 g
  ·have e:(zs.set j z).getD i 0=zs.getD i 0:=by simp[zk,Q7 (Qi d)]
   rw[e];exact(h.2 i a).other h.1 om
theorem zgp (x:List UInt8)(q b j o:Nat)(zs:List Int)(w:H)(h:w.cell? ⟨q,0,O⟩=E (pn (E ⟨b,o,O⟩)))(ho:o=2*j)(d:Whs w b zs)(c:j<zs.length)(a:q≠b)(f:x.length<=2000):
 Calls pg 366 #[gS ⟨x.toArray⟩,pn (E ⟨q,0,O⟩)] w fun e w'=>e= .returned (G (dOk x))/\Wr (fun k=>k=b) w w'/\(dOk x=true->Whs w' b (zs.set j (T.wZ x))):=by
 subst ho;refine(zeS x q b (2*j) _ w h (d.2 j c) a om).mono ?_;rintro e w' ⟨rfl,_,_,_,_,_,a,rfl,g⟩;refine⟨rfl,((Wr.of_below (T:=fun k=>k=b) a).setCell (p:=⟨b,2*j,O⟩) rfl _).setCell (p:=⟨b,2*j+1,O⟩) rfl _,fun f=>?_⟩;exact(d.below a).put c (g f)
def zaQ (pos:Nat->Nat):Nat->List Int->List (List UInt8)->List Int
 |_,zs,[]=>zs
 |k,zs,x::r=>zaQ pos (k+1) (zs.set (pos k) (T.wZ x)) r
theorem zfM (a:Nat->Nat)(x:List UInt8):∀(r:List (List UInt8)) (k:Nat) (zs:List Int),zaQ a k zs (r ++ [x])=(zaQ a k zs r).set (a (k+r.length)) (T.wZ x)
 |[],k,zs=>by simp[zaQ]
 |y::r,k,zs=>by
  rw[Q5,zaQ,zfM a x r,zaQ,Zo,show k+1+r.length=k+(r.length+1)by omega]
theorem zde (a:Nat->Nat):∀(r:List (List UInt8)) (k:Nat) (zs:List Int),(zaQ a k zs r).length=zs.length
 |[],_,_=>rfl
 |_::r,k,zs=>by rw[zaQ,zde a r,Zf]
theorem ziN {l:List UInt8}(h:dOk l=true):(T.wZ l).natAbs<10^40:=by
 have a:(T.wZ l).natAbs=qd (Lib.trimPrefix l [45]):=by
  unfold T.wZ sg;split<;>simp
 rw[a];exact T.zoh h
theorem zma {a:List (List UInt8)}(h:a.all dOk=true):∀z∈a.map T.wZ,z.natAbs<10^40:=by
 intro z b;obtain⟨l,a,rfl⟩:=ZC.1 b;exact ziN (qR.1 h l a)
structure ji (i:Nat)(p:qo):Prop where
 z:i=0->p=qo.none
 n:0<i->0<p.n/\p.n<=4
 r:i<=2+p.n->p.rows= []
 l:p.rows.length<=6
 g:p.rg.length=min (i-2) p.n
 m:2<=i->p.mx.length=p.n
 c:∀x∈p.rows,x.1.length=p.n/\jQ x.2.1=true
 bm:∀z∈p.mx,z.natAbs<10^40
 bg:∀r∈p.rg,r.1.natAbs<10^40/\r.2.natAbs<10^40
 br:∀x∈p.rows,(∀z∈x.1,z.natAbs<10^40)/\x.2.2.natAbs<10^40
theorem ji.start:ji 0 qo.none:=by
 refine⟨fun _=>rfl,fun h=>om,fun _=>rfl,by simp[qo.none],by simp[qo.none],fun h=>om,fun x a=>by simp[qo.none]at a,fun x a=>by simp[qo.none]at a,fun x a=>by simp[qo.none]at a,fun x a=>by simp[qo.none]at a⟩
theorem zjk (a:List (List UInt8)):T.zbC a<=4:=by
 unfold T.zbC;split
 ·exact T.varB_le _
 ·omega
theorem ji.step {i:Nat}{p q:qo}{g:List (List UInt8)}(h:ji i p)(a:Q2 i p g=E q):ji (i+1) q:=by
 unfold Q2 at a;by_cases k:i=0
 ·rw[z8 k]at a;subst k;by_cases o:T.zbC g=0
  ·rw[z8 o]at a;cases a
  ·rw[zW o]at a;injection a with a
   subst a;exact⟨fun h=>om,fun _=>⟨Zm o,zjk g⟩,fun _=>rfl,sp,sp,fun h=>om,fun x b=>by simp at b,fun x b=>by simp at b,fun x b=>by simp at b,fun x b=>by simp at b⟩
 ·rw[zW k]at a;have n:=h.n om;by_cases l:i=1
  ·rw[z8 l]at a;subst l;split at a
   ·rename_i c
    injection a with a
    subst a;have m:=h.g;refine⟨fun h=>om,fun _=>n,fun _=>h.r om,h.l,by simpa using m,fun _=>?_,h.c,zma c.2.2,h.bg,h.br⟩;simp only[zo,qu];omega
   ·cases a
  ·rw[zW l]at a;by_cases r:i<=1+p.n
   ·rw[z8 r]at a;split at a
    ·rename_i c
     injection a with a
     subst a;have m:=h.g;refine⟨fun h=>om,fun _=>n,fun _=>h.r om,h.l,?_,fun _=>h.m om,h.c,h.bm,fun u t=>?_,h.br⟩
     ·simp only[zX,qF];omega
     ·rcases Zs.1 t with e|e
      ·exact h.bg u e
      ·obtain rfl:=Qo.1 e;obtain⟨j,d,f,rfl⟩:∃j d f,g= [j,d,f]:=by
        match g,c.1 with
        |[j,d,f],_=>exact⟨j,d,f,rfl⟩
       have s:dOk d=true/\dOk f=true:=by simpa using c.2.2
       exact⟨ziN s.1,ziN s.2⟩
    ·cases a
   ·rw[zW r]at a;split at a
    ·rename_i c
     injection a with a
     subst a;have m:=h.g;refine⟨fun h=>om,fun _=>n,fun h=>?_,?_,?_,fun _=>h.m om,fun x b=>?_,h.bm,h.bg,fun x b=>?_⟩;·simp only at h;omega
     ·simp only[zX,qF];omega
     ·simp only;omega
     ·rcases Zs.1 b with e|e
      ·exact h.c x e
      ·obtain rfl:=Qo.1 e;refine⟨?_,c.2.2.2.2.1⟩;simp only[zo,zU,qu];omega
     ·rcases Zs.1 b with e|e
      ·exact h.br x e
      ·obtain rfl:=Qo.1 e;exact⟨zma c.2.2.2.1,ziN c.2.2.2.2.2⟩
    ·cases a
theorem ji.read:∀(b:List (List UInt8×Bool)) (i:Nat) (p q:qo),ji i p->jd i p b= .ok q->ji (i+b.length) q
 |[],i,p,q,h,a=>by
  simp only[jd,Except.ok.injEq]at a;subst a;exact h
 |l::r,i,p,q,h,a=>by
  rw[jd]at a;split at a
  ·cases a
  ·split at a
   ·cases a
   ·rename_i d c
    have:=ji.read r (i+1) d q (h.step c) a;rw[Zo,show i+(r.length+1)=i+1+r.length by omega];exact this
def jj (s:List UInt8):Except (Nat×Nat) qo:=
 if 2000<s.length then .error (4,0)
 else match jd 0 qo.none (qE s)with
  |.error k=> .error (5,k)
  |.ok p=>if (qE s).length<2+p.n then .error (5,(qE s).length+1)else match jz 0 p.rg with
   |some i=> .error (6,i+3)
   |.none=> .ok p
def zed (p:qo)(zs:List Int):Prop:=
 zs.length=3*p.n/\(∀k,k<p.mx.length->zs.getD (3*k) 0=p.mx.getD k 0)/\∀k,k<p.rg.length->zs.getD (3*k+1) 0=(p.rg.getD k (0,0)).1/\zs.getD (3*k+2) 0=(p.rg.getD k (0,0)).2
structure jX where
 s:ByteArray
 x:Bool
 b:Option Addr×Nat×Nat
 f:Nat
 n:Nat
def jX.cells (r:jX):List Value:= [gS r.s,G r.x,V r.b.1 r.b.2.1 r.b.2.2,V (E ⟨r.f,0,O⟩) r.n r.n]
def zaq (rs:List jX):List Value:=rs.flatMap jX.cells
def RowIs (w:H)(T:Nat->Prop)(r:jX)(row:List Int×List UInt8×Int):Prop:=
 ¬T r.f/\r.n=row.1.length/\Whs w r.f row.1/\r.s=⟨row.2.1.toArray⟩/\zY w (ag #[G r.x,V r.b.1 r.b.2.1 r.b.2.2]) row.2.2
def Own (gp:Nat)(vC vR:Value)(k:Nat):Prop:=k=gp\/vC.ownBlock=E k\/vR.ownBlock=E k
theorem RowIs.keep {B:Nat}{w w':H}{T:Nat->Prop}{r:jX}{row:List Int×List UInt8×Int}(h:RowIs w T r row)(a:zw B w w'):RowIs w' T r row:=
 ⟨h.1,h.2.1,h.2.2.1.keep a,h.2.2.2.1,h.2.2.2.2.keep a⟩
theorem RowIs.wr {w w':H}{T U:Nat->Prop}{r:jX}{row:List Int×List UInt8×Int}(h:RowIs w T r row)(b:Wr U w w')(c:∀k,U k->T k)(a:∀k,U k->qU w k):RowIs w' T r row:=
 ⟨h.1,h.2.1,h.2.2.1.wr b (fun e=>h.1 (c _ e)) a,h.2.2.2.1,h.2.2.2.2.wr b a⟩
structure DQ (w:H)(gp:Nat)(p:qo)(vC vR:Value):Prop where
 box:qX w gp vC vR
 nodP:qU w gp
 cols:(p.n=0/\vC=V O 0 0)\/∃bc zs,vC=V (E ⟨bc,0,O⟩) p.n p.n/\bc≠gp/\Whs w bc zs/\zed p zs
 nodR:∀g,vR.ownBlock=E g->qU w g/\g≠gp/\vC.ownBlock≠E g
 rows:∃rs:List jX,rs.length=p.rows.length/\w.ownsRow 0 160 4 vR rs.length (zaq rs)/\∀(i:Nat) (r:jX) (row:List Int×List UInt8×Int),rs[i]? =E r->p.rows[i]? =E row->RowIs w (Own gp vC vR) r row
theorem qX.same {w w':H}{g:Nat}{x y:Value}(h:qX w g x y)(b:w'.heap[g]? =w.heap[g]?)(hs:w.heap.size<=w'.heap.size):qX w' g x y:=by
 obtain⟨c,d,e,f,i⟩:=h;exact⟨(zP (w:=w) (a:=⟨g,0,O⟩) b).trans c,(zP (w:=w) (a:=⟨g,1,O⟩) b).trans d,(zt (w:=w) (a:=⟨g,0,O⟩) b).trans e,(zt (w:=w) (a:=⟨g,1,O⟩) b).trans f,zv i hs⟩
theorem zw.cells {B:Nat}{w w':H}(b:zw B w w'){g:Nat}{o:Obj}(ho:w.heap[g]? =E o)(a:o.isCells=true):w'.heap[g]? =w.heap[g]?:=(b.block g o ho (.inr a)).trans ho.symm
theorem qX.keep {B:Nat}{w w':H}{g:Nat}{x y:Value}(h:qX w g x y)(a:zw B w w'):qX w' g x y:=by
 obtain⟨_,c,b⟩:=cells_of_cell h.1;exact h.same (a.cells c b) a.size
theorem zd4 {w w':H}{B e size n:Nat}{v:Value}{a:List Value}(h:w.ownsRow B e size v n a)(p:∀g,v.ownBlock=E g->w'.heap[g]? =w.heap[g]?):w'.ownsRow B e size v n a:=by
 obtain⟨a,f|⟨g,c,d,b,l,m,o,i,j,k⟩⟩:=h;·exact⟨a,Or.inl f⟩
 ·exact⟨a,Or.inr ⟨g,c,d,b,l,(p g (by rw[b];rfl)).trans m,o,i,j,k⟩⟩
theorem zmb {B':Nat}{w w':H}{B e size n:Nat}{v:Value}{a:List Value}(h:w.ownsRow B e size v n a)(d:zw B' w w'):w'.ownsRow B e size v n a:=by
 refine zd4 h fun g a=>?_
 obtain⟨_,b|⟨_,_,_,f,_,c,_,_,_,_⟩⟩:=h;·rw[b.1]at a;cases a
 ·rw[f]at a;simp[Value.ownBlock]at a;subst a;exact d.cells c rfl
theorem DQ.keep {B:Nat}{w w':H}{b:Nat}{p:qo}{c d:Value}(h:DQ w b p c d)(a:zw B w w'):DQ w' b p c d:=by
 refine⟨h.box.keep a,h.nodP.keep a,?_,fun g b=>⟨(h.nodR g b).1.keep a,(h.nodR g b).2⟩,?_⟩
 ·rcases h.cols with b|⟨e,g,b,c,d,f⟩
  ·exact Or.inl b
  ·exact Or.inr ⟨e,g,b,c,d.keep a,f⟩
 ·obtain⟨e,b,c,d⟩:=h.rows;exact⟨e,b,zmb c a,fun i r row b c=>(d i r row b c).keep a⟩
theorem DQ.below {w w':H}{a:Nat}{p:qo}{b c:Value}(h:DQ w a p b c)(d:Below w.heap.size w w'):DQ w' a p b c:=h.keep (B:=0) (zw.of_below d)
theorem DQ.cols_anew {w w':H}{g a:Nat}{p q:qo}{b d:Value}{zs:List Int}(h:DQ w g p b d)(f:b=V (E ⟨a,0,O⟩) p.n p.n)(e:0<p.n)(c:Wr (fun k=>k=a) w w')(s:Whs w' a zs)(o:zed q zs)(r:q.n=p.n)(l:q.rows=p.rows):DQ w' g q b d:=by
 obtain⟨j,m⟩:a≠g/\qU w a:=by
  rcases h.cols with ⟨_,_⟩|⟨_,_,d,i,b,_⟩
  ·omega
  ·rw[f]at d;simp at d;subst d;exact⟨i,b.1⟩
 have n:∀k,k=a->qU w k:=fun k e=>e▸m
 refine⟨h.box.same (c.block g h.box.2.2.2.2 (Qi j)) c.size,h.nodP.wr c (Qi j),Or.inr ⟨a,zs,by rw[r];exact f,j,s,o⟩,fun g a=>?_,?_⟩
 ·have b:=h.nodR g a;exact⟨b.1.wr c (fun e=>b.2.2 (by rw[f,e];rfl)),b.2⟩
 ·obtain⟨j,d,i,b⟩:=h.rows;refine⟨j,by rw[l];exact d,zd4 i (fun g a=>?_),fun o r row j d=>?_⟩
  ·have m:=(i.lt g a).2;exact c.block g m (fun e=>(h.nodR g a).2.2 (by rw[f,e];rfl))
  ·rw[l]at d;exact(b o r row j d).wr c (fun k e=>Or.inr (Or.inl (by rw[f,e];rfl))) n
theorem DQ.cols_made {w:H}{a b n:Nat}{d c:Value}{zs:List Int}(h:DQ w a qo.none d c)(r:Whs w b zs)(f:b≠a)(m:c.ownBlock≠E b)(o:zs.length=3*n):
 DQ (w.setCell ⟨a,0,O⟩ (V (E ⟨b,0,O⟩) n n)) a ⟨n,[],[],[]⟩ (V (E ⟨b,0,O⟩) n n) c:=by
 obtain⟨d,i,g,j,l⟩:=h.box;have c:Wr (fun k=>k=a) w (w.setCell ⟨a,0,O⟩ (V (E ⟨b,0,O⟩) n n)):=Wr.setCell (T:=fun k=>k=a) (Wr.refl _ _) (p:=⟨a,0,O⟩) rfl _;have q:∀k,k=a->qU w k:=fun k e=>e▸h.nodP
 refine⟨⟨zu _ _ _ d,?_,by simpa using g,by simpa using j,by simpa using l⟩,?_,Or.inr ⟨b,zs,rfl,f,r.wr c f q,o,fun k a=>by simp at a,fun k a=>by simp at a⟩,fun g a=>?_,?_⟩;·rw[zp _ _ _ _ sp];exact i
 ·exact h.nodP.setCell d sp
 ·have b:=h.nodR g a;refine⟨b.1.wr c b.2.1,b.2.1,fun e=>?_⟩;simp[Value.ownBlock]at e;exact m (by rw[a,e])
 ·obtain⟨f,e,d,b⟩:=h.rows;obtain rfl:f= []:=ZP (by simpa[qo.none]using e);refine⟨[],rfl,zd4 d (fun g a=>c.block g (d.lt g a).2 (h.nodR g a).2.1),fun i r row a b=>by simp at a⟩
theorem DQ.rows_grown {w w':H}{a g cap:Nat}{p:qo}{d c:Value}{rs:List jX}{r:jX}{row:List Int×List UInt8×Int}(h:DQ w a p d c)(v:rs.length=p.rows.length)
 (L:∀(i:Nat) (r:jX) (row:List Int×List UInt8×Int),rs[i]? =E r->p.rows[i]? =E row->RowIs w (Own a d c) r row) (K:RowIs w (Own a d c) r row)
 (A:w'.ownsRow 0 160 4 (V (E ⟨g,0,O⟩) (rs.length+1) cap) (rs.length+1) (zaq rs++r.cells)) (f:w.grownBy w' c.ownBlock) (q:c.ownBlock=E g\/g=w.heap.size) (J:qU w' g):
 DQ (w'.setCell ⟨a,1,O⟩ (V (E ⟨g,0,O⟩) (rs.length+1) cap)) a { p with rows:=p.rows ++ [row] } d (V (E ⟨g,0,O⟩) (rs.length+1) cap):=by
 have j:Wr (fun k=>c.ownBlock=E k) w w':=⟨f.os,f.tape,f.output,f.size,fun k b e=>f.block k b (fun f=>e f.symm)⟩;have x:=fun k e=>(h.nodR k e).1
 have l:¬c.ownBlock=E a:=fun e=>(h.nodR a e).2.1 rfl
 have m:=h.box.same (j.block a h.box.2.2.2.2 l) j.size;have z:=h.nodP.wr j l;obtain⟨C,t,D,F,I⟩:=m;have n:Wr (fun k=>k=a) w' (w'.setCell ⟨a,1,O⟩ (V (E ⟨g,0,O⟩) (rs.length+1) cap)):=Wr.setCell (T:=fun k=>k=a) (Wr.refl _ _) (p:=⟨a,1,O⟩) rfl _;have y:∀k,k=a->qU w' k:=fun k e=>e▸z
 have u:g≠a:=by
  rcases q with e|e
  ·exact(h.nodR g e).2.1
  ·have:=h.box.2.2.2.2;omega
 have s:∀k,d.ownBlock=E k->k<w.heap.size/\¬c.ownBlock=E k:=by
  intro k b;rcases h.cols with ⟨_,e⟩|⟨l,B,e,f,m,_⟩
  ·rw[e]at b;cases b
  ·rw[e]at b;simp[Value.ownBlock]at b;subst b;exact⟨m.lt,fun m=>(h.nodR l m).2.2 (by rw[e];rfl)⟩
 have one:∀{r:jX} {row:List Int×List UInt8×Int},RowIs w (Own a d c) r row->RowIs (w'.setCell ⟨a,1,O⟩ (V (E ⟨g,0,O⟩) (rs.length+1) cap)) (Own a d (V (E ⟨g,0,O⟩) (rs.length+1) cap)) r row:=by
  intro r row c;have m:=c.wr j (fun k e=>Or.inr (Or.inr e)) x;have o:RowIs w' (Own a d (V (E ⟨g,0,O⟩) (rs.length+1) cap)) r row:=by
   refine⟨fun e=>?_,m.2⟩;rcases e with e|e|e
   ·exact c.1 (Or.inl e)
   ·exact c.1 (Or.inr (Or.inl e))
   ·simp[Value.ownBlock]at e;rcases q with f|f
    ·exact c.1 (Or.inr (Or.inr (by rw[f,e])))
    ·have:=c.2.2.1.lt;omega
  exact o.wr n (fun k e=>Or.inl e) y
 refine⟨⟨?_,zu _ _ _ t,by simpa using D,by simpa using F,by simpa using I⟩,z.setCell t sp,?_,fun k b=>?_,rs ++ [r],by simp[v],?_,fun i z D a d=>?_⟩;·rw[zp _ _ _ _ sp];exact C
 ·rcases h.cols with c|⟨l,B,c,m,o,t⟩
  ·exact Or.inl c
  ·refine Or.inr ⟨l,B,c,m,?_,t⟩;have t:=(s l (by rw[c];rfl)).2;exact(o.wr j t x).wr n m y
 ·simp[Value.ownBlock]at b;subst b;refine⟨J.wr n u,u,fun e=>?_⟩;rcases q with f|f
  ·exact(s g e).2 f
  ·have:=(s g e).1;omega
 ·have e:zaq rs++r.cells=zaq (rs ++ [r]):=by simp[zaq]
  rw[zX,qF,<-e];exact zd4 A (fun k b=>n.block k (A.lt k b).2 (by simp[Value.ownBlock]at b;omega))
 ·by_cases b:i<rs.length
  ·rw[zM b]at a;rw[zM om]at d;exact one (L i z D a d)
  ·have b:i=rs.length:=by
    have:=(zn.1 a).1;simp at this;omega
   subst b;rw[zJ (zh _),Zy]at a;rw[v,zJ (zh _),Zy]at d;simp at a d;subst a d;exact one K
def zaU (wd:List UInt8)(m:Nat)(ws:List (List UInt8)):Bool:=decide (ws.length=m+1/\ws.getD 0 []=wd/\(ws.drop 1).all dOk=true)
theorem zjl {b:Type}(f:b->Bool)(d:b)(a:List b)(m:Nat)(h:a.length=m+1):(a.drop 1).all f=true↔∀j,0<j->j<m+1->f (a.getD j d)=true:=by
 rw[qR];constructor
 ·intro b j c c;rw[zk,zj om];refine b _ ?_;have:a[j]' om=(a.drop 1)[j-1]'(by rw[qu];omega):=by
   rw[Jp];congr 1
   omega
  rw[Zg,this];exact zZ _
 ·intro b x a;obtain⟨j,c,rfl⟩:=List.mem_iff_getElem.1 a;rw[qu]at c;have:=b (1+j) om om;rw[zk,zj om]at this;rw[Jp];exact this
theorem zkZ (a:List UInt8)(m:Nat)(c:List (List UInt8)):zcX (m+1) (fun k x=>if k=0 then decide (x=a)else dOk x) c=zaU a m c:=by
 unfold zcX zaU;rw[Q8];constructor
 ·rintro⟨a,b⟩;refine⟨a,?_,(zjl dOk [] c m a).2 fun j d e=>?_⟩
  ·have:=b 0 om;simpa using this
  ·have:=b j e;dsimp only at this;rwa [zW om]at this
 ·rintro⟨a,b,f⟩;refine⟨a,fun j e=>?_⟩;dsimp only;by_cases d:j=0
  ·subst d;rw[z8 rfl,b];simp
  ·rw[zW d];exact(zjl dOk [] c m a).1 f j om e
theorem zgq (s:List UInt8)(hs:s.length<=2000)(h:List UInt8)(d:Nat)(a:List Nat)(f:Nat->Nat)(b:Nat)(zs:List Int)(g cap:Nat)(w:H)
 (o:g≠b) (n:a.length<=900) (l:a.length+1<=cap) (c:cap<=9223372036854775807)
 (y:∀i fv,(QQ d::a.map ZG)[i]? =E fv->w.cell? ⟨g,i,O⟩=E fv)
 (r:w.cell? ⟨d,0,O⟩=E (gS ⟨h.toArray⟩)) (u:d≠b)
 (v:∀j q,a[j]? =E q->q≠b/\w.cell? ⟨q,0,O⟩=E (pn (E ⟨b,2*f j,O⟩))/\f j<zs.length)
 (m:Whs w b zs):
 Calls pg 319 #[gS ⟨s.toArray⟩,V (E ⟨g,0,O⟩) (a.length+1) cap] w fun e w'=>
  e= .returned (G (zaU h a.length (qg s)))/\Wr (fun k=>k=b) w w'/\(zaU h a.length (qg s)=true->Whs w' b (zaQ f 0 zs ((qg s).drop 1))):=by
 have t:(QQ d::a.map ZG).length=a.length+1:=sp;have n:=zgH s hs (QQ d::a.map ZG) (fun k x=>if k=0 then decide (x=h)else dOk x) (fun k=>k=b) (fun pre A=>Whs A b (zaQ f 0 zs (pre.drop 1))) g cap w
  (fun x l=>l▸m.lt) o om om c y (fun pre A B c o=>c.keep o) (fun pre A o y z c y o A=>c.setCell y o (by have:=m.lt;omega) z) ?_ m
 ·rw[t,zkZ]at n;exact n
 ·intro k fv c;cases k with
  |zero=>
   simp at c;subst c;refine⟨_,d,rfl,zgB,fun pre x W o l n m=>?_⟩;refine(zd9 x h d W (n.cell (p:=⟨d,0,O⟩) u r)).mono ?_;rintro e d ⟨rfl,rfl⟩;refine⟨rfl,Wr.refl _ _,fun _=>?_⟩;obtain rfl:pre= []:=ZP o;exact m
  |succ j=>
   rw[Jt,zQ]at c;cases hq:a[j]? with
   |none=>rw[hq]at c;cases c
   |some q=>
    rw[hq]at c;injection c with c
    subst c;obtain⟨a,h,c⟩:=v j q hq;refine⟨_,q,rfl,zgC,fun pre x W o l n m=>?_⟩;refine(zgp x q b (f j) (2*f j) _ W (n.cell (p:=⟨q,0,O⟩) a h) rfl m (by rw[zde];exact c) a l).mono ?_;rintro e d ⟨rfl,a,f⟩;refine⟨rfl,a,fun d=>?_⟩;have a:(pre ++ [x]).drop 1=pre.drop 1 ++ [x]:=by rw[jy om]
    have c:(pre.drop 1).length=j:=by rw[qu];omega
    rw[a,zfM,c,qi];exact f d
theorem zh9 {w:H}{g m:Nat}{cs:Array Value}{t:TypeId}(h:w.heap[g]? =E (cl cs t (0,0)))(hs:cs.size=2*m)
 (b:∀j,j<m->cs[2*j]? =E (G false)/\cs[2*j+1]? =E (V O 0 0)):Whs w g (List.replicate m 0):=by
 refine⟨qj h fun v c=>?_,fun j a=>?_⟩
 ·obtain⟨i,d,rfl⟩:=Array.mem_iff_getElem.1 (by simpa using c:v∈cs);have c:=b (i/2) om;rcases Nat.mod_two_eq_zero_or_one i with e|e
  ·have:=c.1;rw[show 2*(i/2)=i by omega,ZM d]at this;injection this with this
   rw[this];intro n e;cases e
  ·have:=c.2;rw[show 2*(i/2)+1=i by omega,ZM d]at this;injection this with this
   rw[this];intro n e;cases e
 ·rw[Jd]at a;have e:(List.replicate m (0:Int)).getD j 0=0:=by simp[zk,Ju,a]
  rw[e];refine⟨false,O,0,0,?_,?_,⟨false,_,rfl,NatV.zero _ _ _,by rw[Hid];rfl⟩,ZW w g _ cs t h,ZW w g _ cs t h⟩;·rw[qh w g _ cs t _ h];exact(b j a).1
  ·rw[qh w g _ cs t _ h];exact(b j a).2
theorem zg4 {w:H}{g n size:Nat}{e:TypeId}{z:Array Value}(h:w.ownsRow 0 e size (V (E ⟨g,0,O⟩) n n) n (madeCells z (n*size)).toList):w.heap[g]? =E (cl (madeCells z (n*size)) e (0,0)):=by
 obtain⟨_,c|⟨_,_,_,b,_,d,_,_,_,a⟩⟩:=h;·exact absurd c.1 sp
 ·simp only[zV,z7,je]at b;obtain⟨⟨rfl,_,_⟩,_,rfl⟩:=b;rw[zy so]at a;rw[d];congr 2
  exact Array.toList_inj.1 a
theorem zcr {z:Array Value}{m j:Nat}(h:j<m):(madeCells z m)[j]? =E (z[j%z.size]!):=by
 simp[madeCells,h]
theorem zmc {w:H}{g n:Nat}{e:TypeId}(h:w.ownsRow 0 e 6 (V (E ⟨g,0,O⟩) n n) n (madeCells #[G false,V O 0 0,G false,V O 0 0,G false,V O 0 0] (n*6)).toList):Whs w g (List.replicate (3*n) 0):=by
 refine zh9 (zg4 h) (by rw[zdf];omega) fun j a=>⟨?_,?_⟩
 ·rw[zcr om];have:(2*j)%(#[G false,V O 0 0,G false,V O 0 0,G false,V O 0 0]:Array Value).size=0\/(2*j)%(#[G false,V O 0 0,G false,V O 0 0,G false,V O 0 0]:Array Value).size=2\/(2*j)%(#[G false,V O 0 0,G false,V O 0 0,G false,V O 0 0]:Array Value).size=4:=so;rcases this with e|e|e<;>(rw[e];rfl)
 ·rw[zcr om];have:(2*j+1)%(#[G false,V O 0 0,G false,V O 0 0,G false,V O 0 0]:Array Value).size=1\/(2*j+1)%(#[G false,V O 0 0,G false,V O 0 0,G false,V O 0 0]:Array Value).size=3\/(2*j+1)%(#[G false,V O 0 0,G false,V O 0 0,G false,V O 0 0]:Array Value).size=5:=so;rcases this with e|e|e<;>(rw[e];rfl)
theorem zdz (w:H)(a b c d:Obj):((((w.alloc a).alloc b).alloc c).alloc d).heap[w.heap.size]? =E a/\((((w.alloc a).alloc b).alloc c).alloc d).heap[w.heap.size+1]? =E b/\((((w.alloc a).alloc b).alloc c).alloc d).heap[w.heap.size+1+1]? =E c/\((((w.alloc a).alloc b).alloc c).alloc d).heap[w.heap.size+1+1+1]? =E d:=by
 have h:(w.alloc a).heap.size=w.heap.size+1:=qx _ _;have i:((w.alloc a).alloc b).heap.size=w.heap.size+1+1:=by rw[qx,h]
 have k:(((w.alloc a).alloc b).alloc c).heap.size=w.heap.size+1+1+1:=by rw[qx,i]
 have j:=qq w a;have e:=qq (w.alloc a) b;have f:=qq ((w.alloc a).alloc b) c;have g:=qq (((w.alloc a).alloc b).alloc c) d;rw[h]at e;rw[i]at f;rw[k]at g;refine⟨?_,?_,?_,g⟩;·rw[zI _ _ _ om,zI _ _ _ om,zI _ _ _ om];exact j
 ·rw[zI _ _ _ om,zI _ _ _ om];exact e
 ·rw[zI _ _ _ om];exact f
theorem Tryz.infoColumn:(Tryz.prog.info? 153).map (fun i=>(i.zero,i.size,i.bytes))=E (E (ag #[G false,V O 0 0,G false,V O 0 0,G false,V O 0 0]),6,96):=by kernel_rfl
theorem Tryz.infoWhole:(Tryz.prog.info? 101).map (fun i=>(i.zero,i.size,i.bytes))=E (E (ag #[G false,V O 0 0]),2,32):=by kernel_rfl
theorem Tryz.infoRow:(Tryz.prog.info? 160).map (fun i=>(i.zero,i.size,i.bytes))=E (E (ag #[gS ⟨#[]⟩,G false,V O 0 0,V O 0 0]),4,72):=by kernel_rfl
theorem zfN (a:List (List UInt8)):T.zbC a=if a.length=2/\a.getD 0 []=zcU then zb3 (a.getD 1 [])else 0:=by
 unfold T.zbC zb3 T.varB zcU;by_cases b:a.length=2/\a.getD 0 []= [118,97,114,115]
 ·by_cases c:(a.getD 1 []).length=1
  ·rw[z8 ⟨b.1,b.2,c⟩,z8 b,z8 c]
  ·rw[zW (fun h=>c h.2.2),z8 b,zW c]
 ·rw[zW (fun h=>b ⟨h.1,h.2.1⟩),zW b]
theorem zk0 (a:List (List UInt8)):zcX 2 (fun k x=>if k=0 then decide (x=zcU)else decide (zb3 x≠0)) a=decide (T.zbC a≠0):=by
 unfold zcX;rw[Q8,zfN];constructor
 ·rintro⟨d,c⟩;have a:=c 0 om;have b:=c 1 om;simp at a b;rw[z8 ⟨d,by simpa using a⟩];simpa using b
 ·intro h;split at h
  ·rename_i a
   refine⟨a.1,fun j b=>?_⟩;dsimp only;obtain rfl|rfl:j=0\/j=1:=om
   ·rw[z8 rfl,a.2];simp
   ·rw[zW om];simpa using h
  ·exact absurd rfl h
theorem zmd (s:List UInt8)(hs:s.length<=2000)(f h c:Nat)(g cap:Nat)(w:H)
 (j:g≠c) (a:2<=cap) (b:cap<=9223372036854775807)
 (n:∀i fv,[QQ f,zeP h][i]? =E fv->w.cell? ⟨g,i,O⟩=E fv)
 (r:w.cell? ⟨f,0,O⟩=E (gS ⟨zcU.toArray⟩)) (u:f≠c)
 (h1:w.cell? ⟨h,0,O⟩=E (pn (E ⟨c,0,O⟩))) (v:h≠c)
 (m:w.cell? ⟨c,0,O⟩=E (it .i64 0)) (o:w.frozen? ⟨c,0,O⟩=false):
 Calls pg 319 #[gS ⟨s.toArray⟩,V (E ⟨g,0,O⟩) 2 cap] w fun e w'=>
  e= .returned (G (decide (T.zbC (qg s)≠0)))/\Wr (fun k=>k=c) w w'/\(T.zbC (qg s)≠0->w'.cell? ⟨c,0,O⟩=E (it .i64 (T.zbC (qg s):Nat))):=by
 have d:c<w.heap.size:=zN m;have l:=zgH s hs [QQ f,zeP h] (fun k x=>if k=0 then decide (x=zcU)else decide (zb3 x≠0)) (fun k=>k=c)
  (fun pre A=>∃z:Int,A.cell? ⟨c,0,O⟩=E (it .i64 z)/\A.frozen? ⟨c,0,O⟩=false/\(1<pre.length->z=(zb3 (pre.getD 1 []):Nat))) g cap w
  (fun x q=>q▸d) j sp (by simpa using a) b n
  (fun pre A B d n=>by obtain⟨z,a,b,j⟩:=d;exact⟨z,n.cell a,(n.frozen a).trans b,j⟩)
  (fun pre A n y n d n n n=>by obtain⟨z,a,b,j⟩:=d;exact⟨z,(qf _ _ _ _ so).trans a,by simpa using b,j⟩) ?_ ⟨0,m,o,fun n=>by simp at n⟩
 ·have d: [QQ f,zeP h].length=2:=rfl;rw[d,zk0]at l;refine l.mono ?_;rintro e w' ⟨rfl,m,l⟩;refine⟨rfl,m,fun o=>?_⟩;obtain⟨z,a,b,j⟩:=l (by simpa using o);have d:=o;rw[zfN]at d;have o:=zfN (qg s);split at d
  ·rename_i t
   rw[z8 t]at o;rw[a,j om,o]
  ·exact absurd rfl d
 ·intro k fv d;match k,d with
  |0,d=>
   simp at d;subst d;refine⟨_,f,rfl,zgB,fun pre x W o q m l=>?_⟩;refine(zd9 x zcU f W (m.cell (p:=⟨f,0,O⟩) u r)).mono ?_;rintro e f ⟨rfl,rfl⟩;obtain rfl:pre= []:=ZP o;obtain⟨z,a,b,j⟩:=l;exact⟨rfl,Wr.refl _ _,fun _=>⟨z,a,b,fun n=>by simp at n⟩⟩
  |1,d=>
   simp at d;subst d;refine⟨_,h,rfl,znf,fun pre x W o q m l=>?_⟩;obtain⟨z,a,b,j⟩:=l;refine(zhv x h c z W (m.cell (p:=⟨h,0,O⟩) v h1) a b om).mono ?_;rintro e f ⟨rfl,a,h⟩;refine⟨rfl,?_,fun f=>⟨(zb3 x:Nat),h (by simpa using f),?_,fun _=>?_⟩⟩
   ·rcases a with rfl|rfl
    ·exact Wr.refl _ _
    ·exact Wr.setCell (T:=fun k=>k=c) (Wr.drew _ _) (p:=⟨c,0,O⟩) rfl _
   ·rcases a with rfl|rfl
    ·exact b
    ·simpa using b
   ·rw[zk,zJ om,o];simp
  |k+2,d=>simp at d
def zcY (n:Nat)(ws:List (List UInt8)):Bool:=decide (ws.length=n+3/\ws.getD 0 []=zcT/\((ws.drop 1).take n).all dOk=true/\jQ (ws.getD (n+1) [])=true/\dOk (ws.getD (n+2) [])=true)
def okR (n k:Nat)(x:List UInt8):Bool:=if k=0 then decide (x=zcT)else if k<=n then dOk x else if k=n+1 then jQ x else dOk x
theorem zkt {b:Type}(f:b->Bool)(d:b)(a:List b)(n:Nat)(h:n+1<=a.length):((a.drop 1).take n).all f=true↔∀j,0<j->j<=n->f (a.getD j d)=true:=by
 rw[qR];constructor
 ·intro b j c c;rw[zk,zj om];refine b _ ?_;have:a[j]' om=((a.drop 1).take n)[j-1]'(by rw[zU,qu];omega):=by
   rw[zb5,Jp];congr 1
   omega
  rw[Zg,this];exact zZ _
 ·intro b x a;obtain⟨j,c,rfl⟩:=List.mem_iff_getElem.1 a;rw[zU,qu]at c;have:=b (1+j) om om;rw[zk,zj om]at this;rw[zb5,Jp];exact this
theorem zme (n:Nat)(b:List (List UInt8)):zcX (n+3) (okR n) b=zcY n b:=by
 unfold zcX zcY okR;rw[Q8];constructor
 ·rintro⟨d,a⟩;refine⟨d,?_,(zkt dOk [] b n om).2 fun j c e=>?_,?_,?_⟩;·simpa using a 0 om
  ·have:=a j om;rwa [zW om,z8 e]at this
  ·have:=a (n+1) om;rwa [zW om,zW om,z8 rfl]at this
  ·have:=a (n+2) om;rwa [zW om,zW om,zW om]at this
 ·rintro⟨d,a,f,g,h⟩;refine⟨d,fun j e=>?_⟩;by_cases c:j=0
  ·subst c;rw[z8 rfl,a];simp
  ·rw[zW c];by_cases a:j<=n
   ·rw[z8 a];exact(zkt dOk [] b n om).1 f j om a
   ·rw[zW a];by_cases a:j=n+1
    ·rw[z8 a,a];exact g
    ·rw[zW a,show j=n+2 by omega];exact h
def zdr (n bf gr:Nat)(zs:List Int)(pre:List (List UInt8))(A:H):Prop:=
 Whs A bf (zaQ id 0 zs ((pre.drop 1).take n))/\qU A gr/\(∃sr,A.cell? ⟨gr,0,O⟩=E (gS sr)/\A.frozen? ⟨gr,0,O⟩=false/\(n+1<pre.length->sr=⟨(pre.getD (n+1) []).toArray⟩))/\
  (∃z,QK A gr 1 z/\(n+2<pre.length->z=T.wZ (pre.getD (n+2) [])))/\A.cell? ⟨gr,3,O⟩=E (V (E ⟨bf,0,O⟩) n n)
theorem zdr.keep {B n b c:Nat}{zs:List Int}{pre:List (List UInt8)}{w w':H}(h:zdr n b c zs pre w)(a:zw B w w'):zdr n b c zs pre w':=by
 obtain⟨c,d,⟨k,b,e,f⟩,⟨z,g,i⟩,j⟩:=h;exact⟨c.keep a,d.keep a,⟨k,a.cell b,(a.frozen b).trans e,f⟩,⟨z,g.keep a,i⟩,a.cell j⟩
theorem zdr.far {n c d:Nat}{zs:List Int}{pre:List (List UInt8)}{w:H}(h:zdr n c d zs pre w){a:Addr}{y:Value}(f:w.cell? a=E y)(e:∀k,y≠it .u32 k)(p:a.block≠c)(b:a.block≠d)(v:Value):zdr n c d zs pre (w.setCell a v):=by
 obtain⟨c,d,⟨q,g,i,j⟩,⟨z,l,m⟩,o⟩:=h;exact⟨c.setCell f e p v,d.far b v,⟨q,(qf _ _ _ _ b).trans g,by simpa using i,j⟩,⟨z,l.setCell f e b v,m⟩,(qf _ _ _ _ b).trans o⟩
theorem QK.beside {w:H}{b o p:Nat}{z:Int}(h:QK w b o z){y:Value}(f:w.cell? ⟨b,p,O⟩=E y)(e:∀k,y≠it .u32 k)(d:p≠o)(h1:p≠o+1)(v:Value):QK (w.setCell ⟨b,p,O⟩ v) b o z:=by
 obtain⟨x,a,n,c,g,i,j,l,m⟩:=h;refine⟨x,a,n,c,?_,?_,j.setCell f e v,by simpa using l,by simpa using m⟩;·rw[zp _ _ _ _ (by intro e;injection e with _ a;exact d a)];exact g
 ·rw[zp _ _ _ _ (by intro e;injection e with _ a;exact h1 a)];exact i
theorem znB (s:List UInt8)(hs:s.length<=2000)(q0 qr qb n:Nat)(qs:List Nat)(bf gr:Nat)(zs:List Int)(g cap:Nat)(w:H)
 (hg:g≠bf/\g≠gr) (hn:qs.length=n) (hl:n<=900) (hcap:n+3<=cap) (hcap9:cap<=9223372036854775807) (hzl:zs.length=n) (hbg:bf≠gr)
 (hrow:∀i fv,(QQ q0::(qs.map ZG ++ [jF qr,ZG qb]))[i]? =E fv->w.cell? ⟨g,i,O⟩=E fv)
 (h0:w.cell? ⟨q0,0,O⟩=E (gS ⟨zcT.toArray⟩)) (hq0:q0≠bf/\q0≠gr)
 (hqs:∀j q,qs[j]? =E q->q≠bf/\q≠gr/\w.cell? ⟨q,0,O⟩=E (pn (E ⟨bf,2*j,O⟩)))
 (hqr:qr≠bf/\qr≠gr/\w.cell? ⟨qr,0,O⟩=E (pn (E ⟨gr,0,O⟩)))
 (hqb:qb≠bf/\qb≠gr/\w.cell? ⟨qb,0,O⟩=E (pn (E ⟨gr,1,O⟩)))
 (hst:zdr n bf gr zs [] w):
 Calls pg 319 #[gS ⟨s.toArray⟩,V (E ⟨g,0,O⟩) (n+3) cap] w fun e w'=>
  e= .returned (G (zcY n (qg s)))/\Wr (fun k=>k=bf\/k=gr) w w'/\(zcY n (qg s)=true->zdr n bf gr zs (qg s) w'):=by
 have hlen:(QQ q0::(qs.map ZG ++ [jF qr,ZG qb])).length=n+3:=by simp[hn]
 have hbl:=hst.1.lt;have hgl:=hst.2.2.2.1.choose_spec.1.lt;have hF:=zgH s hs (QQ q0::(qs.map ZG ++ [jF qr,ZG qb])) (okR n) (fun k=>k=bf\/k=gr) (zdr n bf gr zs) g cap w
  (fun x hx=>by rcases hx with rfl|rfl<;>assumption) (fun e=>by rcases e with e|e;exact hg.1 e;exact hg.2 e) om om hcap9 hrow (fun pre A B hA hk=>hA.keep hk) (fun pre A a y v hA hy hn ha=>hA.far hy hn om om v) ?_ hst
 ·rw[hlen,zme]at hF;exact hF
 ·intro k fv hfv;have hnT:∀{q:Nat},q≠bf->q≠gr->¬(q=bf\/q=gr):=fun h1 h2 e=>by rcases e with e|e;exact h1 e;exact h2 e
  by_cases hk0:k=0
  ·subst hk0;simp at hfv;subst hfv;refine⟨_,q0,rfl,zgB,fun pre x W hp hx hw hst=>?_⟩;refine(zd9 x zcT q0 W (hw.cell (p:=⟨q0,0,O⟩) (hnT hq0.1 hq0.2) h0)).mono ?_;rintro e W' ⟨rfl,rfl⟩;refine⟨rfl,Wr.refl _ _,fun _=>?_⟩;obtain rfl:pre= []:=ZP hp;obtain⟨a1,a2,⟨sr,a3,a4,a5⟩,⟨z,a6,a7⟩,a8⟩:=hst;exact⟨a1,a2,⟨sr,a3,a4,fun e=>by simp at e⟩,⟨z,a6,fun e=>by simp at e⟩,a8⟩
  ·obtain⟨j,rfl⟩:∃j,k=j+1:=⟨k-1,om⟩;rw[Jt]at hfv;by_cases hjn:j<n
   ·rw[zM so,zQ,zj om]at hfv;injection hfv with hfv
    subst hfv;obtain⟨hq1,hq2,hq3⟩:=hqs j _ (zj om);generalize qs[j]=q at *;refine⟨_,q,rfl,zgC,fun pre x W hp hx hw hst=>?_⟩;obtain⟨a1,a2,⟨sr,a3,a4,a5⟩,⟨z,a6,a7⟩,a8⟩:=hst;refine(zgp x q bf j (2*j) _ W (hw.cell (p:=⟨q,0,O⟩) (hnT hq1 hq2) hq3) rfl a1 (by rw[zde];omega) hq1 hx).mono ?_;rintro e W' ⟨rfl,hw',hz'⟩;have hok:okR n (j+1) x=dOk x:=by unfold okR;rw[zW om,z8 om]
    rw[hok];refine⟨rfl,hw'.mono (fun k e=>Or.inl e),fun hd=>?_⟩;have hnd:∀k,k=bf->qU W k:=fun k e=>e▸a1.1
    refine⟨?_,a2.wr hw' (Qi hbg),⟨sr,hw'.cell (p:=⟨gr,0,O⟩) (Qi hbg) a3,(hw'.frozen (p:=⟨gr,0,O⟩) (Qi hbg) (zN a3)).trans a4,fun e=>?_⟩,⟨z,a6.wr hw' (Qi hbg) hnd,fun e=>?_⟩,hw'.cell (p:=⟨gr,3,O⟩) (Qi hbg) a8⟩
    ·have e0:(pre.drop 1).length=j:=by rw[qu];omega
     have e1:((pre ++ [x]).drop 1).take n=pre.drop 1 ++ [x]:=by
      rw[jy om,zy (by rw[zX,e0];simp;omega)]
     have e2:(pre.drop 1).take n=pre.drop 1:=zy om;rw[e2]at hz';rw[e1,zfM,e0,qi];exact hz' hd
    ·simp at e;omega
    ·simp at e;omega
   ·rw[zJ so,zo,hn]at hfv;by_cases hjr:j=n
    ·subst hjr;simp at hfv;subst hfv;refine⟨_,qr,rfl,zne,fun pre x W hp hx hw hst=>?_⟩;obtain⟨a1,a2,⟨sr,a3,a4,a5⟩,⟨z,a6,a7⟩,a8⟩:=hst;refine(zge x qr gr sr W (hw.cell (p:=⟨qr,0,O⟩) (hnT hqr.1 hqr.2.1) hqr.2.2) a3 a4).mono ?_;rintro e W' ⟨rfl,hw',hs'⟩;have hok:okR j (j+1) x=jQ x:=by unfold okR;rw[zW om,zW om,z8 rfl]
     rw[hok];refine⟨rfl,hw'.mono (fun k e=>Or.inr e),fun hd=>?_⟩;obtain⟨w1,hb1,rfl⟩:=hs' hd;have hkp:zw 0 W w1:=zw.of_below hb1;have c0:=hkp.cell a3;refine⟨?_,(a2.keep hkp).setCell c0 sp,⟨⟨x.toArray⟩,zu _ _ _ c0,by simpa using (hkp.frozen a3).trans a4,fun _=>?_⟩,⟨z,(a6.keep hkp).beside c0 sp om om _,fun e=>?_⟩,?_⟩
     ·have e2:((pre ++ [x]).drop 1).take j=(pre.drop 1).take j:=by
       rw[jy om,zaR (by rw[qu];omega)]
      rw[e2];exact(a1.keep hkp).setCell (a:=⟨gr,0,O⟩) c0 sp (Qi hbg) _
     ·rw[zk,zJ om,hp];simp
     ·simp at e;omega
     ·rw[zp _ _ _ _ sp];exact hkp.cell a8
    ·have hjr1:j=n+1:=by
      have:=(zn.1 hfv).1;simp at this;omega
     subst hjr1;have e3:n+1-n=1:=om;rw[e3]at hfv;simp at hfv;subst hfv;refine⟨_,qb,rfl,zgC,fun pre x W hp hx hw hst=>?_⟩;obtain⟨a1,a2,⟨sr,a3,a4,a5⟩,⟨z,a6,a7⟩,a8⟩:=hst;refine(zeS x qb gr 1 z W (hw.cell (p:=⟨qb,0,O⟩) (hnT hqb.1 hqb.2.1) hqb.2.2) a6 hqb.2.1 om).mono ?_;rintro e W' ⟨rfl,w1,y,ao,l,c,hb1,rfl,hv⟩;have hok:okR n (n+1+1) x=dOk x:=by unfold okR;rw[zW om,zW om,zW om]
     rw[hok];refine⟨rfl,((Wr.of_below (T:=fun k=>k=bf\/k=gr) hb1).setCell (p:=⟨gr,1,O⟩) (Or.inr rfl) _).setCell (p:=⟨gr,1+1,O⟩) (Or.inr rfl) _,fun hd=>?_⟩;have hkp:zw 0 W w1:=zw.of_below hb1;obtain⟨x0,a0,l0,c0,k0,k1,_⟩:=a6.keep hkp;have k1':(w1.setCell ⟨gr,1,O⟩ (G y)).cell? ⟨gr,1+1,O⟩=E (V a0 l0 c0):=by
      rw[zp _ _ _ _ sp];exact k1
     refine⟨?_,((a2.keep hkp).setCell k0 sp).setCell k1' sp,⟨sr,?_,by simpa using (hkp.frozen a3).trans a4,fun _=>?_⟩,⟨_,(a6.keep hkp).put (a2.keep hkp) (hv hd),fun _=>?_⟩,?_⟩
     ·have e2:((pre ++ [x]).drop 1).take n=(pre.drop 1).take n:=by
       rw[jy om,zaR (by rw[qu];omega)]
      rw[e2];exact((a1.keep hkp).setCell (a:=⟨gr,1,O⟩) k0 sp (Qi hbg) _).setCell (a:=⟨gr,1+1,O⟩) k1' sp (Qi hbg) _
     ·rw[zp _ _ _ _ sp,zp _ _ _ _ sp];exact hkp.cell a3
     ·have:=a5 om;rw[this,zk,zk,zM om]
     ·rw[zk,zJ om,hp];simp
     ·rw[zp _ _ _ _ sp,zp _ _ _ _ sp];exact hkp.cell a8
theorem zee (a:Nat->Nat)(i:Nat):∀(r:List (List UInt8)) (k:Nat) (zs:List Int),(∀j,j<r.length->a (k+j)≠i)->(zaQ a k zs r).getD i 0=zs.getD i 0
 |[],k,zs,_=>rfl
 |x::r,k,zs,h=>by
  rw[zaQ,zee a i r (k+1) _ (fun j c=>by have:=h (j+1) so;rwa [show k+(j+1)=k+1+j by omega]at this)];have b:=h 0 sp;rw[qy]at b;simp only[zk,Q7 b]
theorem zf9 (c:Nat->Nat)(g:∀a b,c a=c b->a=b):∀(r:List (List UInt8)) (k:Nat) (zs:List Int) (j:Nat),j<r.length->c (k+j)<zs.length->(zaQ c k zs r).getD (c (k+j)) 0=T.wZ (r.getD j [])
 |[],k,zs,j,d,_=>by simp at d
 |x::r,k,zs,0,_,f=>by
  rw[qy]at f⊢;rw[zaQ,zee c _ r (k+1) _ (fun j d e=>by have:=g _ _ e;omega)];simp only[zk,jm f];rfl
 |x::r,k,zs,j+1,d,f=>by
  rw[zaQ,show k+(j+1)=k+1+j by omega,zf9 c g r (k+1) _ j (by simpa using d) (by rw[Zf,show k+1+j=k+(j+1)by omega];exact f)];simp
theorem znC {zs:List Int}{r:List (List UInt8)}(h:zs.length=r.length):zaQ id 0 zs r=r.map T.wZ:=by
 refine zcs (by rw[zde,zo,h]) fun j c a=>?_
 rw[zo]at a;have b:=zf9 id (fun d d e=>e) r 0 zs j a so;simp only[id,qi,zk,zj c,zj a,Zg]at b;rw[b,List.getElem_map]
theorem znD {p:qo}{zs:List Int}{ws:List (List UInt8)}(h:zed p zs)(hrg:p.rg= [])(hl:ws.length=p.n+1):zed { p with mx:=(ws.drop 1).map T.wZ } (zaQ (fun j=>3*j) 0 zs (ws.drop 1)):=by
 have hd:(ws.drop 1).length=p.n:=by rw[qu];omega
 refine⟨by rw[zde];exact h.1,fun k hk=>?_,fun k hk=>by simp[hrg]at hk⟩;have hk2:k<p.n:=by simp at hk;omega
 have:=zf9 (fun j=>3*j) (fun a b e=>by have e':=e;omega) (ws.drop 1) 0 zs k om (by have:=h.1;simp;omega);simp only[qi]at this;rw[this];simp only[zk,zQ,zj (show k<(ws.drop 1).length by omega),Zz,Zg]
theorem zk1 {p:qo}{zs:List Int}{a:List (List UInt8)}{m:Nat}(h:zed p zs)(g:p.rg.length=m)(c:m<p.n)(b:a.length=3):
 zed { p with rg:=p.rg ++ [(T.wZ (a.getD 1 []),T.wZ (a.getD 2 []))] } (zaQ (fun j=>3*m+1+j) 0 zs (a.drop 1)):=by
 have b:(a.drop 1).length=2:=by rw[qu];omega
 have c:=zf9 (fun j=>3*m+1+j) (fun b d e=>by have f:=e;omega) (a.drop 1) 0 zs;have d:(a.drop 1).getD 0 []=a.getD 1 []:=by simp[zk]
 have f:(a.drop 1).getD 1 []=a.getD 2 []:=by simp[zk]
 refine⟨by rw[zde];exact h.1,fun k a=>?_,fun k a=>?_⟩
 ·rw[zee _ _ _ _ _ (fun j b e=>by simp at e;omega)];exact h.2.1 k a
 ·simp only[zX,qF]at a;by_cases a:k<m
  ·rw[zee _ _ _ _ _ (fun j b e=>by simp at e;omega),zee _ _ _ _ _ (fun j b e=>by simp at e;omega)];have:=h.2.2 k om;simp only[zk,zM (show k<p.rg.length by omega)]at this⊢;exact this
  ·obtain rfl:k=m:=om;have a:=c 0 om (by have:=h.1;simp;omega);have b:=c 1 om (by have:=h.1;simp;omega);simp only[qi,qy]at a b;rw[d]at a;rw[f]at b;rw[a,show 3*k+2=3*k+1+1 by omega,b];simp only[zk,zJ (show p.rg.length<=k by omega),g,Zy];exact⟨rfl,rfl⟩
theorem zfO {F:Fence}{n:Nat}{P:Program}{c:Code}{Q:Exit->Act->H->Prop}{a:Act}{w:H}(h:c.wpIn F n P (fun e a w=>e= .normal/\Q e a w) a w):c.wpIn F n P Q a w:=zbF h (fun _ _ _ h=>h.2)
theorem zcZ {F:Fence}{n:Nat}{P:Program}{c:Code}{Q:Exit->Act->H->Prop}{a:Act}{w:H}(h:c.wpIn F n P (fun e a w=>match e with|.normal=>Q .normal a w|_=>False) a w):c.wpIn F n P Q a w:=
 zbF h (fun e a w h=>by cases e with|normal=>exact h|_=>exact h.elim)
def TwoP (B:Nat)(w A3 AA:H)(a gpl q0:Nat)(wd:List UInt8)(qs:List Nat)(pt:Nat->Addr)(xs:List Nat)(own:Option Nat)(g cap:Nat)(y1 y2:Value):Prop:=
 Below B w AA/\Wr (fun x=>x=gpl\/own=E x) A3 AA/\
  (∀i fv,(QQ q0::(qs.map ZG ++ [jF a,ZG (a+1)]))[i]? =E fv->AA.cell? ⟨g,i,O⟩=E fv)/\
  AA.cell? ⟨gpl,0,O⟩=E (V (E ⟨g,0,O⟩) (qs.length+1+2) cap)/\AA.cell? ⟨q0,0,O⟩=E (gS ⟨wd.toArray⟩)/\
  (∀j q,qs[j]? =E q->AA.cell? ⟨q,0,O⟩=E (pn (E (pt j))))/\AA.cell? ⟨a,0,O⟩=E y1/\AA.cell? ⟨a+1,0,O⟩=E y2/\
  B<=g/\(∀x∈gpl::q0::(qs++xs),g≠x)/\qs.length+3<=cap/\cap<=9223372036854775807
theorem zdW {B:Nat}{w A d A':H}{a l g cap:Nat}{e:List UInt8}{b:List Nat}{c:Nat->Addr}{q:List Nat}{i:Option Addr}{j:Nat}{k m:Value}(f:Pls B w A a l e b c q i j)(r:zw B A d)(n:d.heap.size=A.heap.size+1+1+1)
 (h1:d.cell? ⟨A.heap.size,0,O⟩=E k) (y:d.cell? ⟨A.heap.size+1,0,O⟩=E m)
 (u:A'.ownsRow B 429 1 (V (E ⟨g,0,O⟩) (b.length+1+2) cap) (b.length+1+2) (QQ l::b.map ZG ++ [jF A.heap.size,ZG (A.heap.size+1)])) (h:d.grownBy A' (V i (b.length+1) j).ownBlock) (v:(V i (b.length+1) j).ownBlock=E g\/g=d.heap.size):
 A'.cell? ⟨a,0,O⟩=E (V i (b.length+1) j)/\A'.frozen? ⟨a,0,O⟩=false/\Hid (TwoP B w d (A'.setCell ⟨a,0,O⟩ (V (E ⟨g,0,O⟩) (b.length+1+2) cap)) A.heap.size a l e b c q (V i (b.length+1) j).ownBlock g cap k m):=by
 have c:=f.keep r (zh _);have o:∀{x:Nat},x∈a::l::(b++q)->¬(V i (b.length+1) j).ownBlock=E x:=fun n e=>f.sep _ e _ n rfl
 have t:∀{x:Nat},A.heap.size<=x->¬(V i (b.length+1) j).ownBlock=E x:=fun n e=>by have:=(f.own.lt _ e).2;omega
 have k:Wr (fun x=>(V i (b.length+1) j).ownBlock=E x) d A':=⟨h.os,h.tape,h.output,h.size,fun m r e=>h.block m r (fun r=>e r.symm)⟩;have L:=c.lt a sp;have s:∀x∈a::l::(b++q),g≠x:=by
  intro x n;rcases v with e|e
  ·exact f.sep g e x n
  ·have:=c.lt x n;omega
 have n:=f.lt a sp;have q:=k.cell (p:=⟨a,0,O⟩) (o sp) c.box;have C:Below B w A':=⟨h.os.trans c.bel.os,h.tape.trans c.bel.tape,h.output.trans c.bel.output,zL c.bel.size h.size,fun m n=>(h.block m (by have:=c.bel.size;have:=f.le;omega) (fun e=>by have:=(f.own.lt m e.symm).1;omega)).trans (c.bel.block m n)⟩;have K:∀h fv,(QQ l::(b.map ZG ++ [jF A.heap.size,ZG (A.heap.size+1)]))[h]? =E fv->A'.cell? ⟨g,h,O⟩=E fv:=by
  intro h fv r;have n:=u.cells (g:=g) rfl h fv (by simpa using r);have e:(⟨g,0,O⟩:Addr).add h=⟨g,h,O⟩:=by
   unfold Addr.add;split
   ·rename_i v;rw[v]
   ·simp
  rw[e]at n;exact n
 obtain⟨D,I,J⟩:B<=g/\b.length+3<=cap/\cap<=9223372036854775807:=by
  obtain⟨_,h1|⟨_,_,_,v,F,_,_,z,n,_⟩⟩:=u;·exact absurd h1.1 sp
  ·simp only[zV,z7,je]at v;obtain⟨⟨rfl,_,_⟩,_,rfl⟩:=v;exact⟨F,om,by unfold maxLen at z;omega⟩
 have u:=s a sp;refine⟨q,?_,C.setCell (p:=⟨a,0,O⟩) f.new.1 _,?_,fun h fv r=>?_,zu _ _ _ q,?_,fun v q n=>?_,?_,?_,D,s,I,J⟩
 ·have s:A'.frozen? ⟨a,0,O⟩=d.frozen? ⟨a,0,O⟩:=zt (w:=d) (k.block a L (o sp));exact s.trans c.fro
 ·exact Wr.setCell (T:=fun x=>x=a\/(V i (b.length+1) j).ownBlock=E x) (k.mono (fun m e=>Or.inr e)) (p:=⟨a,0,O⟩) (Or.inl rfl) _
 ·rw[qf _ _ _ _ (by simpa using Qi u)];exact K h fv r
 ·rw[qf _ _ _ _ (by simpa using f.new.2.1)];exact k.cell (p:=⟨l,0,O⟩) (o sp) c.q0c
 ·have a:=qJ n;rw[qf _ _ _ _ (by simpa using Qi (f.new.2.2.2 q a).2)];exact k.cell (p:=⟨q,0,O⟩) (o (by simp[a])) (c.qsc v q n)
 ·rw[qf _ _ _ _ so];exact k.cell (p:=⟨A.heap.size,0,O⟩) (t (zh _)) h1
 ·rw[qf _ _ _ _ so];exact k.cell (p:=⟨A.heap.size+1,0,O⟩) (t sp) y
def zc0 (A:H)(bf gr n:Nat):Prop:=
 A.heap[bf]? =E (cl (madeCells #[G false,V O 0 0] (n*2)) 101 (0,0))/\A.heap[gr]? =E (cl #[gS ⟨#[]⟩,G false,V O 0 0,V (E ⟨bf,0,O⟩) n n] 160 (0,0))
theorem zc0.keep {B:Nat}{A A':H}{a b n:Nat}(h:zc0 A a b n)(c:zw B A A'):zc0 A' a b n:=⟨(c.cells' h.1 rfl).trans h.1,(c.cells' h.2 rfl).trans h.2⟩
theorem zc0.wr {T:Nat->Prop}{A A':H}{a b n:Nat}(h:zc0 A a b n)(c:Wr T A A')(h1:¬T a)(d:¬T b):zc0 A' a b n:=⟨c.some h.1 h1,c.some h.2 d⟩
theorem zc0.start {A:H}{a b n:Nat}(h:zc0 A a b n):zdr n a b (List.replicate n 0) [] A:=by
 refine⟨?_,qj h.2 fun v a=>?_,⟨_,qh _ _ _ _ _ _ h.2,ZW _ _ _ _ _ h.2,fun e=>by simp at e⟩,⟨0,⟨false,O,0,0,qh _ _ _ _ _ _ h.2,qh _ _ _ _ _ _ h.2,⟨false,_,rfl,NatV.zero _ _ _,by rw[Hid];rfl⟩,ZW _ _ _ _ _ h.2,ZW _ _ _ _ _ h.2⟩,fun e=>by simp at e⟩,qh _ _ _ _ _ _ h.2⟩
 ·have:=zh9 (m:=n) h.1 (by rw[zdf];omega) fun j b=>⟨by
   rw[zcr om];have:(2*j)%(#[G false,V O 0 0]:Array Value).size=0:=sp;rw[this];rfl,by
   rw[zcr om];have:(2*j+1)%(#[G false,V O 0 0]:Array Value).size=1:=by simp<;>omega
   rw[this];rfl⟩
  rw[show List.take n (List.drop 1 ([]:List (List UInt8)))= []by simp];exact this
 ·simp only[qw,Zi,QF]at a;intro n e;rcases a with rfl|rfl|rfl|rfl<;>cases e
def rowOf (n:Nat)(ws:List (List UInt8)):List Int×List UInt8×Int:=(((ws.drop 1).take n).map T.wZ,ws.getD (n+1) [],T.wZ (ws.getD (n+2) []))
theorem znE (s:List UInt8)(hs:s.length<=2000){w A n f:H}{o a h k g cap D:Nat}{p:qo}{S T:Value}{b:List Nat}{C:Option Addr}{N:Nat}{y:Nat}(r:DQ w o p S T)(ad:b.length<=900)(ar:w.heap.size<a)(aq:a<h/\a<k)
 (an:w.heap.size<h/\w.heap.size<k) (t:Pls w.heap.size w A h k zcT b (fun j=>⟨w.heap.size,j*2,O⟩) [y,a,w.heap.size] C N) (K:∀q∈b,a<q) (a9:zc0 A w.heap.size a b.length) (J:zw w.heap.size A n) (au:a<A.heap.size) (I:n.heap[D]? =E (.deferred (E []))) (al:a<D) (a0:D≠h)
 (hT:TwoP w.heap.size w n f A.heap.size h k zcT b (fun j=>⟨w.heap.size,j*2,O⟩) [y,a,w.heap.size] (V C (b.length+1) N).ownBlock g cap (pn (E ⟨a,0,O⟩)) (pn (E ⟨a,1,O⟩))):
 Calls pg 319 #[gS ⟨s.toArray⟩,V (E ⟨g,0,O⟩) (b.length+1+2) cap] f fun e d=>
  e= .returned (G (zcY b.length (qg s)))/\Below w.heap.size w d/\d.heap[D]? =E (.deferred (E []))/\a<d.heap.size/\
   (zcY b.length (qg s)=true->∃z x m l c,d.cell? ⟨a,0,O⟩=E (gS z)/\d.cell? ⟨a,1,O⟩=E (G x)/\d.cell? ⟨a,2,O⟩=E (V m l c)/\d.cell? ⟨a,3,O⟩=E (V (E ⟨w.heap.size,0,O⟩) b.length b.length)/\
    RowIs d (Own o S T) ⟨z,x,(m,l,c),w.heap.size,b.length⟩ (rowOf b.length (qg s))):=by
 obtain⟨P,R,t3,_,t5,t6,t7,t8,_,Q,aj,ak⟩:=hT;have F:zc0 f w.heap.size a b.length:=(a9.keep J).wr R (fun e=>by
  rcases e with e|e
  ·omega
  ·exact t.sep _ e w.heap.size sp rfl) (fun e=>by
  rcases e with e|e
  ·omega
  ·exact t.sep _ e a sp rfl)
 have ab:f.heap[D]? =E (.deferred (E [])):=R.some I (fun e=>by
  rcases e with e|e
  ·exact a0 e
  ·have a6:=(t.keep J (zh _)).own;obtain⟨_,k1|⟨_,_,_,kv,_,M,_⟩⟩:=a6;·exact absurd k1.1 sp
   ·rw[kv]at e;simp[Value.ownBlock]at e;subst e;rw[I]at M;cases M)
 refine(znB s hs k A.heap.size (A.heap.size+1) b.length b w.heap.size a (List.replicate b.length 0) g cap f ⟨fun e=>Q w.heap.size sp om,fun e=>Q a sp e⟩ rfl ad aj ak sp om t3 t5 ⟨om,om⟩
  (fun j q u=>⟨by have:=K q (qJ u);omega,by have:=K q (qJ u);omega,by rw[t6 j q u,Qg]⟩) ⟨om,om,t7⟩ ⟨om,om,t8⟩ F.start).mono ?_
 rintro e d ⟨rfl,v,ah⟩;have aa:=P.trans (v.below (by have:=P.size;omega) (fun av e=>by rcases e with e|e<;>omega));refine⟨rfl,aa,v.some ab (fun e=>by rcases e with e|e<;>omega),by have:=v.size;have:=jn F.2;omega,fun L=>?_⟩;obtain⟨B,_,⟨z,U,_,W⟩,⟨_,⟨x,m,l,c,Z,c2,c3,_,_⟩,X⟩,Y⟩:=ah L;have ae:=(QU L).1;have af:=W om;have ai:=X om;subst af ai;refine⟨_,x,m,l,c,U,Z,c2,Y,fun e=>?_,?_,?_,rfl,c3⟩
 ·have h1:=r.box.2.2.2.2;rcases e with e|e|e
  ·have e:w.heap.size=o:=e;omega
  ·rcases r.cols with ⟨_,i⟩|⟨_,_,i,_,h3,_⟩
   ·rw[i]at e;cases e
   ·rw[i]at e;simp[Value.ownBlock]at e;have:=h3.lt;omega
  ·obtain⟨_,_,i,_⟩:=r.rows;have:=(i.lt _ e).2;simp at this
 ·simp[rowOf,ae]
 ·have hl:((qg s).drop 1 |>.take b.length).length=b.length:=by
   rw[zU,qu];omega
  rw[znC (by rw[Jd,hl])]at B;exact B
theorem znF {w a e:H}{b g cap D:Nat}{p:qo}{h d:Value}{rs:List jX}{r:jX}{row:List Int×List UInt8×Int}(l:DQ w b p h d)(m:Below w.heap.size w a)(X:Obj)(q:a.heap[D]? =E (.deferred (E [])))(j:w.heap.size<=D)
 (t:rs.length=p.rows.length) (y:∀(i:Nat) (r:jX) (row:List Int×List UInt8×Int),rs[i]? =E r->p.rows[i]? =E row->RowIs a (Own b h d) r row) (x:RowIs a (Own b h d) r row)
 (v:e.ownsRow 0 160 4 (V (E ⟨g,0,O⟩) (rs.length+1) cap) (rs.length+1) (zaq rs++r.cells)) (f:(a.alloc X).drew.grownBy e d.ownBlock) (n:d.ownBlock=E g\/g=(a.alloc X).drew.heap.size) (u:qU e g):
 Wr (Own b h d) w (e.setCell ⟨b,1,O⟩ (V (E ⟨g,0,O⟩) (rs.length+1) cap))/\DQ (e.setCell ⟨b,1,O⟩ (V (E ⟨g,0,O⟩) (rs.length+1) cap)) b { p with rows:=p.rows ++ [row] } h (V (E ⟨g,0,O⟩) (rs.length+1) cap)/\
  (e.setCell ⟨b,1,O⟩ (V (E ⟨g,0,O⟩) (rs.length+1) cap)).heap[D]? =E (.deferred (E []))/\(∀k,(V (E ⟨g,0,O⟩) (rs.length+1) cap).ownBlock=E k->d.ownBlock=E k\/w.heap.size<=k):=by
 have j:zw 0 a (a.alloc X).drew:=(zw.alloc _ _ _).trans (zw.drew _ _);have o:=l.below m;have s:=o.keep j;have o:Below w.heap.size w (a.alloc X).drew:=(m.alloc m.size X).trans (c:=World.drew _) ⟨rfl,rfl,rfl,zh _,fun _ _=>rfl⟩;have z:Wr (Own b h d) (a.alloc X).drew e:=⟨f.os,f.tape,f.output,f.size,fun k j e=>f.block k j (fun m=>e (Or.inr (Or.inr m.symm)))⟩;have m:=l.box.2.2.2.2;refine⟨Wr.setCell (T:=Own b h d) ((Wr.of_below o).trans z) (p:=⟨b,1,O⟩) (Or.inl rfl) _,s.rows_grown t (fun i r row b d=>(y i r row b d).keep j) (x.keep j) v f n u,?_,fun k d=>?_⟩
 ·rw[zK _ _ _ _ so];have b:=jn q;rw[f.block D so (fun e=>?_)];·exact(zI a X D b).trans q
  ·obtain⟨_,_,a,_⟩:=l.rows;have:=(a.lt D e.symm).2;omega
 ·have:k=g:=by simpa[Value.ownBlock]using d.symm
  subst this;rcases n with e|e
  ·exact Or.inl e
  ·right
   have:=o.size;omega
theorem zhF (a:Option Addr)(l c:Nat)(w:H):
 Calls pg 156 #[V a l c] w fun e w'=>e= .returned (.func (.func 244) #[] #[pn (E ⟨w.heap.size,0,O⟩)])/\w'=w.alloc (cl #[V a l c] 106):=by
 go_enter func156,ntmps156
 have a:=JN;go_wp2;go_ret;exact⟨rfl,rfl⟩
theorem zjW (a:Option Addr)(l c:Nat)(w:H):
 Calls pg 157 #[V a l c] w fun e w'=>e= .returned (.func (.func 246) #[] #[pn (E ⟨w.heap.size,0,O⟩)])/\w'=w.alloc (cl #[V a l c] 107):=by
 go_enter func157,ntmps157
 have a:=JN;go_wp2;go_ret;exact⟨rfl,rfl⟩
theorem ziv (a:Option Addr)(l c:Nat)(w:H):
 Calls pg 248 #[V a l c] w fun e w'=>e= .returned (.func (.func 327) #[] #[pn (E ⟨w.heap.size,0,O⟩)])/\w'=w.alloc (cl #[V a l c] 158):=by
 go_enter func248,ntmps248
 have a:=JN;go_wp2;go_ret;exact⟨rfl,rfl⟩
theorem ze6 (a:Option Addr)(n cap:Nat)(b:Value)(w:H):
 Calls pg 89 #[ag #[V a n cap,b]] w fun e w'=>e= .returned (.func (.func 244) #[] #[pn (E ⟨w.heap.size+1,0,O⟩)])/\w'=(w.alloc (cl #[V a n cap,b] 109)).alloc (cl #[V a n cap] 106):=by
 go_enter func89,ntmps89
 go_wp2_with fail
 refine(zhF a n cap _).mono ?_;rintro e a ⟨rfl,rfl⟩;go_wp2;go_ret;exact⟨sp,rfl⟩
theorem zol (a:Option Addr)(n cap:Nat)(b:Value)(w:H):
 Calls pg 90 #[ag #[b,V a n cap]] w fun e w'=>e= .returned (.func (.func 246) #[] #[pn (E ⟨w.heap.size+1,0,O⟩)])/\w'=(w.alloc (cl #[b,V a n cap] 109)).alloc (cl #[V a n cap] 107):=by
 go_enter func90,ntmps90
 go_wp2_with fail
 refine(zjW a n cap _).mono ?_;rintro e a ⟨rfl,rfl⟩;go_wp2;go_ret;exact⟨sp,rfl⟩
theorem zg5 (s:ByteArray)(x:Bool)(d:Option Addr)(c b:Nat)(a:Option Addr)(n cap:Nat)(w:H):
 Calls pg 158 #[ag #[gS s,G x,V d c b,V a n cap]] w fun e w'=>e= .returned (.func (.func 327) #[] #[pn (E ⟨w.heap.size+1,0,O⟩)])/\w'=(w.alloc (cl #[gS s,G x,V d c b,V a n cap] 160)).alloc (cl #[V a n cap] 158):=by
 go_enter func158,ntmps158
 go_wp2_with fail
 refine(ziv a n cap _).mono ?_;rintro e a ⟨rfl,rfl⟩;go_wp2;go_ret;exact⟨sp,rfl⟩
structure Wds (B:Nat)(w A:H)(gw:Nat)(xs:List ByteArray)(av:List Nat)(ap:Option Addr)(kp:Nat):Prop where
 own:A.ownsRow B 9 1 (V ap xs.length kp) xs.length (xs.map gS)
 box:A.cell? ⟨gw,0,O⟩=E (V ap xs.length kp)
 fro:A.frozen? ⟨gw,0,O⟩=false
 newB:B<=gw
 lt:∀x∈gw::av,x<A.heap.size
 sep:∀g,(V ap xs.length kp).ownBlock=E g->∀x∈gw::av,g≠x
 bel:Below B w A
 le:B<=w.heap.size
theorem Wds.keep {C B:Nat}{w A A':H}{d:Nat}{f:List ByteArray}{c:List Nat}{b:Option Addr}{e:Nat}(h:Wds B w A d f c b e)(a:zw C A A')(g:B<=C):Wds B w A' d f c b e:=
 ⟨zg1 h.own a,a.cell h.box,(a.frozen h.box).trans h.fro,h.newB,fun x b=>zv (h.lt x b) a.size,h.sep,a.below h.bel g h.le,h.le⟩
theorem Wds.below {B:Nat}{w A A':H}{c:Nat}{e:List ByteArray}{b:List Nat}{a:Option Addr}{d:Nat}(h:Wds B w A c e b a d)(f:Below A.heap.size A A'):Wds B w A' c e b a d:=h.keep (zw.of_below (B:=B) f) (zh _)
theorem Wds.row {B:Nat}{w A:H}{e:Nat}{a:List ByteArray}{d:List Nat}{b:Option Addr}{c:Nat}(h:Wds B w A e a d b c)(f:0<a.length):
 ∃g,b=E ⟨g,0,O⟩/\B<=g/\g<A.heap.size/\a.length<=c/\∀(j:Nat) x,a[j]? =E x->A.cell? ⟨g,0+j,O⟩=E (gS x):=by
 have c:=h.own;have d:=h.own.lt;obtain⟨_,a|⟨g,_,_,a,b,_,e,_,_,_⟩⟩:=h.own;·omega
 ·simp only[zV]at a;obtain⟨rfl,_,rfl⟩:=a;refine⟨g,rfl,b,(d g rfl).2,e,fun j x a=>?_⟩;have:=c.cells (g:=g) rfl j (gS x) (by rw[zQ,a];rfl);have e:(⟨g,0,O⟩:Addr).add j=⟨g,0+j,O⟩:=by
   unfold Addr.add;split
   ·rename_i a;rw[a]
   ·rfl
  rw[e]at this;exact this
theorem Wds.grow {B:Nat}{w A A':H}{a g cap:Nat}{b ys:List ByteArray}{j:List Nat}{d:Option Addr}{f:Nat}(h:Wds B w A a b j d f)
 (K:A'.ownsRow B 9 1 (V (E ⟨g,0,O⟩) (b.length+ys.length) cap) (b.length+ys.length) (b.map gS++ys.map gS)) (c:A.grownBy A' (V d b.length f).ownBlock) (o:(V d b.length f).ownBlock=E g\/g=A.heap.size):
 A'.cell? ⟨a,0,O⟩=E (V d b.length f)/\A'.frozen? ⟨a,0,O⟩=false/\Hid (Below B w A'/\Wr (fun x=>(V d b.length f).ownBlock=E x) A A'/\(∀x∈a::j,g≠x)/\
  Wds B w (A'.setCell ⟨a,0,O⟩ (V (E ⟨g,0,O⟩) (b.length+ys.length) cap)) a (b++ys) j (E ⟨g,0,O⟩) cap/\
  Wr (fun x=>x=a\/(V d b.length f).ownBlock=E x) A (A'.setCell ⟨a,0,O⟩ (V (E ⟨g,0,O⟩) (b.length+ys.length) cap))/\((V d b.length f).ownBlock=E g\/A.heap.size<=g)):=by
 have n:Wr (fun x=>(V d b.length f).ownBlock=E x) A A':=⟨c.os,c.tape,c.output,c.size,fun k m e=>c.block k m (fun i=>e i.symm)⟩;have l:∀{x:Nat},x∈a::j->¬(V d b.length f).ownBlock=E x:=fun i e=>h.sep _ e _ i rfl
 have q:=n.cell (p:=⟨a,0,O⟩) (l sp) h.box;have s:=h.lt a sp;have r:=(c.frozen_far ⟨a,0,O⟩ s (fun e=>l (x:=a) sp e.symm)).trans h.fro;have l:∀x∈a::j,g≠x:=by
  intro x i;rcases o with e|e
  ·exact h.sep g e x i
  ·have:=h.lt x i;omega
 have F:=l a sp;have j:Below B w A':=⟨c.os.trans h.bel.os,c.tape.trans h.bel.tape,c.output.trans h.bel.output,zL h.bel.size c.size,fun k m=>(c.block k (by have:=h.bel.size;have:=h.le;omega) (fun e=>by have:=(h.own.lt k e.symm).1;omega)).trans (h.bel.block k m)⟩;refine⟨q,r,j,n,l,⟨?_,?_,by simpa using r,h.newB,fun x i=>?_,fun s D x i=>?_,j.setCell (p:=⟨a,0,O⟩) h.newB _,h.le⟩,?_,o.imp id (fun e=>om)⟩
 ·rw[zX,ZN];obtain⟨t,u|⟨r,m,o,j,C,I,J,v,y,z⟩⟩:=K;·exact absurd u.1 sp
  ·refine⟨t,Or.inr ⟨r,m,o,j,C,(zK _ _ _ _ ?_).trans I,J,v,y,z⟩⟩;simp only[zV,z7,je]at j;rw[<-j.1.1];exact F
 ·rw[zX];exact zu _ _ _ q
 ·have:=h.lt x i;have:=c.size;simp;omega
 ·have:s=g:=by simpa[Value.ownBlock]using D.symm
  subst this;exact l x i
 ·exact Wr.setCell (T:=fun x=>x=a\/(V d b.length f).ownBlock=E x) (n.mono (fun k e=>Or.inr e)) (p:=⟨a,0,O⟩) (Or.inl rfl) _
attribute [local go_sem] qm qW ZR
def aimVs (x:Nat->Nat->Value)(n:Nat):List (Array Value):=(List.range n).map fun i=>#[Value.agg #[x i 0,x i 1]]
theorem zku (a:Option Addr)(n cap:Nat)(b:Option Addr)(m c:Nat)(w:H):
 Calls pg 88 #[ag #[V a n cap,V b m c]] w fun e w'=>e= .returned (.func (.func 155) #[] #[pn (E ⟨w.heap.size,0,O⟩)])/\w'=w.alloc (cl #[V a n cap,V b m c] 109):=by
 go_enter func88,ntmps88
 have a:=JN;go_wp2;go_ret;exact⟨rfl,rfl⟩
end Go.Proofs.YtnhfdcfnojnofaaGreatDoor
namespace Go.Proofs.YtnhfdcfnojnofaaGreatDoor.T
open Go.RowKit
def jV (w:H)(g o:Nat)(t:Tri):Prop:=
 w.cell? ⟨g,o,O⟩=E (G t.b)/\w.cell? ⟨g,o+1,O⟩=E t.up/\w.cell? ⟨g,o+2,O⟩=E t.down/\w.frozen? ⟨g,o,O⟩=false/\w.frozen? ⟨g,o+1,O⟩=false/\w.frozen? ⟨g,o+2,O⟩=false
theorem jV.same {w w':H}{g o:Nat}{t:Tri}(h:jV w g o t)(b:w'.heap[g]? =w.heap[g]?):jV w' g o t:=by
 obtain⟨c,d,e,f,i,j⟩:=h;exact⟨(zP (w:=w) (a:=⟨g,o,O⟩) b).trans c,(zP (w:=w) (a:=⟨g,o+1,O⟩) b).trans d,(zP (w:=w) (a:=⟨g,o+2,O⟩) b).trans e,(zt (w:=w) (a:=⟨g,o,O⟩) b).trans f,(zt (w:=w) (a:=⟨g,o+1,O⟩) b).trans i,(zt (w:=w) (a:=⟨g,o+2,O⟩) b).trans j⟩
def QA (w:H)(g o:Nat)(t:Tri):H:=((w.setCell ⟨g,o,O⟩ (G t.b)).setCell ⟨g,o+1,O⟩ t.up).setCell ⟨g,o+2,O⟩ t.down
theorem zbr {w:H}{g o:Nat}{a:Tri}(t:Tri)(h:jV w g o a):jV (QA w g o t) g o t:=by
 obtain⟨c,d,e,f,i,j⟩:=h;have b:(w.setCell ⟨g,o,O⟩ (G t.b)).cell? ⟨g,o,O⟩=E (G t.b):=zu _ _ _ c;have c:(w.setCell ⟨g,o,O⟩ (G t.b)).cell? ⟨g,o+1,O⟩=E a.up:=qT d om;have d:(w.setCell ⟨g,o,O⟩ (G t.b)).cell? ⟨g,o+2,O⟩=E a.down:=qT e om;have e:((w.setCell ⟨g,o,O⟩ (G t.b)).setCell ⟨g,o+1,O⟩ t.up).cell? ⟨g,o,O⟩=E (G t.b):=qT b om;have b:((w.setCell ⟨g,o,O⟩ (G t.b)).setCell ⟨g,o+1,O⟩ t.up).cell? ⟨g,o+1,O⟩=E t.up:=zu _ _ _ c;have c:((w.setCell ⟨g,o,O⟩ (G t.b)).setCell ⟨g,o+1,O⟩ t.up).cell? ⟨g,o+2,O⟩=E a.down:=qT d om;exact⟨qT e om,qT b om,zu _ _ _ c,by simpa[QA]using f,by simpa[QA]using i,by simpa[QA]using j⟩
theorem zk2 {w:H}{g o a:Nat}{t b:Tri}(h:jV w g a b)(c:a+2<o\/o+2<a):jV (QA w g o t) g a b:=by
 obtain⟨a,b,c,d,e,f⟩:=h;refine⟨qT (qT (qT a om) om) om,qT (qT (qT b om) om) om,qT (qT (qT c om) om) om,by simpa[QA]using d,by simpa[QA]using e,by simpa[QA]using f⟩
theorem JT {w:H}{g o b:Nat}{t:Tri}(h:b≠g):(QA w g o t).heap[b]? =w.heap[b]?:=by
 unfold QA;rw[zK _ _ _ _ so,zK _ _ _ _ so,zK _ _ _ _ so]
theorem JI (w:H)(g o:Nat)(t:Tri):(QA w g o t).heap.size=w.heap.size:=by simp[QA]
theorem zae {w:H}{g o k:Nat}{t:Tri}(h:¬QE w k):¬QE (QA w g o t) k:=QY (QY (QY h))
theorem jS {w:H}{g o:Nat}{t:Tri}(h:¬QE w g):QH w (QA w g o t):=
 ⟨by rw[JI];exact zh _,fun k a=>JT (fun e=>h (e▸a))⟩
theorem zfP {w:H}{g o:Nat}{t:Tri}:Wr (fun k=>k=g) w (QA w g o t):=
 (((Wr.refl (fun k=>k=g) w).setCell (p:=⟨g,o,O⟩) rfl _).setCell (p:=⟨g,o+1,O⟩) rfl _).setCell (p:=⟨g,o+2,O⟩) rfl _
structure jk (w0 w:H)(gr go gg:Nat)(ts:List Tri)(R:Tri):Prop where
 lt:w0.heap.size<=gr/\w0.heap.size<=go/\w0.heap.size<=gg/\gr<w.heap.size/\go<w.heap.size/\gg<w.heap.size
 ne:gr≠go/\gr≠gg/\go≠gg
 kr:¬QE w gr
 ko:¬QE w go
 kg:¬QE w gg
 rs:w.cell? ⟨gr,0,O⟩=E (V O 0 0)/\w.cell? ⟨gr,1,O⟩=E (G false)/\w.cell? ⟨gr,2,O⟩=E (V O 0 0)/\w.cell? ⟨gr,3,O⟩=E (V O 0 0)/\(∀j,w.frozen? ⟨gr,j,O⟩=false)
 bg:w.cell? ⟨go,0,O⟩=E (V (E ⟨gg,0,O⟩) ts.length ts.length)
 br:jV w go 1 R
 el:∀(i:Nat) (t:Tri),ts[i]? =E t->jV w gg (i*3) t
 low:Below w0.heap.size w0 w
theorem jk.ext {e w w':H}{f d c:Nat}{ts:List Tri}{R:Tri}(h:jk e w f d c ts R)(b:Ext w w'):jk e w' f d c ts R:=by
 obtain⟨e,k,l,g,m,n⟩:=h.lt;have i:=b.size;have j:=b.block f g;have i:=b.block d m;have g:=b.block c n;obtain⟨m,n,o,p,q⟩:=h.rs;exact⟨⟨e,k,l,om,om,om⟩,h.ne,fun⟨c,d,e⟩=>h.kr ⟨c,d,j.symm.trans e⟩,fun⟨c,d,e⟩=>h.ko ⟨c,d,i.symm.trans e⟩,fun⟨c,d,e⟩=>h.kg ⟨c,d,g.symm.trans e⟩,
  ⟨b.cell m,b.cell n,b.cell o,b.cell p,fun c=>(zt (w:=w) (a:=⟨f,c,O⟩) j).trans (q c)⟩,b.cell h.bg,h.br.same i,fun i t c=>(h.el i t c).same g,h.low.trans (b.mono h.low.size)⟩
theorem jk.putEl {c w:H}{b e d:Nat}{ts:List Tri}{R:Tri}(h:jk c w b e d ts R){i:Nat}(g:i<ts.length)(x:Tri):jk c (QA w d (i*3) x) b e d (ts.set i x) R:=by
 obtain⟨j,k,l,m,n,o⟩:=h.lt;obtain⟨_,f,p⟩:=h.ne;have c:(QA w d (i*3) x).heap[b]? =w.heap[b]?:=JT f;have f:(QA w d (i*3) x).heap[e]? =w.heap[e]?:=JT p;obtain⟨d,p,q,r,s⟩:=h.rs;refine⟨⟨j,k,l,by rw[JI];exact m,by rw[JI];exact n,by rw[JI];exact o⟩,h.ne,zae h.kr,zae h.ko,zae h.kg,
  ⟨(zP (w:=w) (a:=⟨b,0,O⟩) c).trans d,(zP (w:=w) (a:=⟨b,1,O⟩) c).trans p,(zP (w:=w) (a:=⟨b,2,O⟩) c).trans q,(zP (w:=w) (a:=⟨b,3,O⟩) c).trans r,fun j=>(zt (w:=w) (a:=⟨b,j,O⟩) c).trans (s j)⟩,
  by rw[Zf];exact(zP (w:=w) (a:=⟨e,0,O⟩) f).trans h.bg,h.br.same f,fun j t b=>?_,h.low.trans (zfP.below h.low.size (by intro k c;omega))⟩
 by_cases c:j=i
 ·subst c;rw[jm g]at b;obtain rfl:x=t:=by simpa using b
  exact zbr x (h.el j _ (zj g))
 ·rw[Q7 (Qi c)]at b;exact zk2 (h.el j t b) om
theorem jk.putR {c w:H}{b d e:Nat}{ts:List Tri}{R:Tri}(h:jk c w b d e ts R)(x:Tri):jk c (QA w d 1 x) b d e ts x:=by
 obtain⟨g,i,j,k,l,m⟩:=h.lt;obtain⟨f,_,n⟩:=h.ne;have c:(QA w d 1 x).heap[b]? =w.heap[b]?:=JT f;have f:(QA w d 1 x).heap[e]? =w.heap[e]?:=JT (Qi n);obtain⟨d,e,n,o,p⟩:=h.rs;exact⟨⟨g,i,j,by rw[JI];exact k,by rw[JI];exact l,by rw[JI];exact m⟩,h.ne,zae h.kr,zae h.ko,zae h.kg,
  ⟨(zP (w:=w) (a:=⟨b,0,O⟩) c).trans d,(zP (w:=w) (a:=⟨b,1,O⟩) c).trans e,(zP (w:=w) (a:=⟨b,2,O⟩) c).trans n,(zP (w:=w) (a:=⟨b,3,O⟩) c).trans o,fun j=>(zt (w:=w) (a:=⟨b,j,O⟩) c).trans (p j)⟩,
  qT (qT (qT h.bg om) om) om,zbr x h.br,fun j t b=>(h.el j t b).same f,h.low.trans (zfP.below h.low.size (by intro k b;omega))⟩
structure Qb where
 g:Option Addr×Nat×Nat
 r:Tri
def Qb.gv (c:Qb):Value:=V c.g.1 c.g.2.1 c.g.2.2
def Qb.cells (c:Qb):List Value:= [c.gv,G c.r.b,c.r.up,c.r.down]
def zds (w:H)(v:Value)(rows:List (List Int×Int)):Prop:=
 ∃ts:List Qb,ts.length=rows.length/\(∀(i:Nat) (c:Qb) (x:List Int×Int),ts[i]? =E c->rows[i]? =E x->Qj w c.gv (x.1.map fun z=>(z,1))/\qe w c.r.val x.2 1)/\Recs w v 4 (ts.map Qb.cells)
theorem zds.below {w w':H}{v:Value}{rows:List (List Int×Int)}(h:zds w v rows)(a:Below w.heap.size w w'):zds w' v rows:=by
 obtain⟨d,c,b,f⟩:=h;exact⟨d,c,fun i c x d e=>⟨(b i c x d e).1.below a,(b i c x d e).2.below a⟩,f.below a⟩
theorem zev {w:H}{g i:Nat}{v:Value}{cs:Array Value}{t:TypeId}{a:Nat×Nat}(h:w.heap[g]? =E (cl cs t a)):(w.setCell ⟨g,i,O⟩ v).heap[g]? =E (cl (cs.setIfInBounds i v) t a):=by
 unfold World.setCell;simp only[zcy,jo,h,Zz];rfl
theorem ze7 {w:H}{g:Nat}{a b c d a' b' c' d':Value}{t:TypeId}(h:w.heap[g]? =E (cl #[a,b,c,d] t)):((((w.setCell ⟨g,0,O⟩ a').setCell ⟨g,1,O⟩ b').setCell ⟨g,2,O⟩ c').setCell ⟨g,3,O⟩ d').heap[g]? =E (cl #[a',b',c',d'] t):=by
 rw[zev (zev (zev (zev h)))];rfl
theorem zc1 {w:H}{g b:Nat}{a' b' c' d':Value}(h:b≠g):((((w.setCell ⟨g,0,O⟩ a').setCell ⟨g,1,O⟩ b').setCell ⟨g,2,O⟩ c').setCell ⟨g,3,O⟩ d').heap[b]? =w.heap[b]?:=by
 rw[zK _ _ _ _ so,zK _ _ _ _ so,zK _ _ _ _ so,zK _ _ _ _ so]
theorem zgI {b w:H}{g:Nat}{a' b' c' d':Value}(h:Ext b w)(a:b.heap.size<=g):Ext b ((((w.setCell ⟨g,0,O⟩ a').setCell ⟨g,1,O⟩ b').setCell ⟨g,2,O⟩ c').setCell ⟨g,3,O⟩ d'):=
 (((Qu h a _).setCell a _).setCell a _).setCell a _
def zT:Tri:=⟨false,(O,0,0),(O,0,0)⟩
theorem ZX {w:H}{g j:Nat}{cs:Array Value}{t:TypeId}(h:w.heap[g]? =E (cl cs t)):w.frozen? ⟨g,j,O⟩=false:=by
 simp[World.frozen?,h]
theorem zmf {n i:Nat}(h:i<n):(madeCells #[G false,V O 0 0,V O 0 0] (n*3))[i*3]? =E (G false)/\(madeCells #[G false,V O 0 0,V O 0 0] (n*3))[i*3+1]? =E (V O 0 0)/\(madeCells #[G false,V O 0 0,V O 0 0] (n*3))[i*3+2]? =E (V O 0 0):=by
 have a:i*3%3=0:=om;have b:(i*3+1)%3=1:=om;have c:(i*3+2)%3=2:=om;refine⟨(zcr om).trans ?_,(zcr om).trans ?_,(zcr om).trans ?_⟩
 ·show E (#[G false,V O 0 0,V O 0 0][i*3%3]!)=_
  rw[a];rfl
 ·show E (#[G false,V O 0 0,V O 0 0][(i*3+1)%3]!)=_
  rw[b];rfl
 ·show E (#[G false,V O 0 0,V O 0 0][(i*3+2)%3]!)=_
  rw[c];rfl
theorem jk.start {w c W:H}{d b n:Nat}{R:Tri}(g:Ext w c)(f:c.heap[w.heap.size]? =E (cl #[V O 0 0,G false,V O 0 0,V O 0 0] 308))(e:Ext c W)(h1:c.heap.size<=d)(h:c.heap.size<=b)
 (ho:W.heap[d]? =E (cl #[V (E ⟨b,0,O⟩) n n,G R.b,R.up,R.down] 308)) (a:W.heap[b]? =E (cl (madeCells #[G false,V O 0 0,V O 0 0] (n*3)) 118)):jk w W w.heap.size d b (List.replicate n zT) R:=by
 have i:=(zf.1 ho).1;have j:=(zf.1 a).1;have h:=(zf.1 f).1;have c:=e.size;have c:=(e.block _ h).trans f;have f:d≠b:=by
  rintro rfl;rw[ho]at a;simp at a
 refine⟨⟨zh _,om,om,om,i,j⟩,⟨om,om,f⟩,?_,?_,?_,⟨c_ 0 c,c_ 1 c,c_ 2 c,c_ 3 c,fun j=>ZX c⟩,?_,⟨c_ 1 ho,c_ 2 ho,c_ 3 ho,ZX ho,ZX ho,ZX ho⟩,fun i t d=>?_,g.trans e⟩
 ·rintro⟨e,f,b⟩;rw[c]at b;simp at b
 ·rintro⟨e,f,b⟩;rw[ho]at b;simp at b
 ·rintro⟨e,f,b⟩;rw[a]at b;simp at b
 ·rw[Jd];exact c_ 0 ho
 ·have b:i<n:=by simpa using (zn.1 d).1
  have e:t=zT:=by
   rw[Ju,z8 b]at d;simpa using d.symm
  subst e;obtain⟨c,d,e⟩:=zmf b;exact⟨(qh _ _ _ _ _ _ a).trans c,(qh _ _ _ _ _ _ a).trans d,(qh _ _ _ _ _ _ a).trans e,ZX a,ZX a,ZX a⟩
def MadeR (n:Nat)(rows:List (List Int×Int))(ps:List (Nat×Int×Nat))(w:H)(e:Ending)(w':H):Prop:=
 ∃(ga:Option Addr) (gl gc:Nat) (t:Tri) (err:Nat),e= .returned (tp #[ag #[V ga gl gc,G t.b,t.up,t.down],it .i64 (err:Nat)])/\Below w.heap.size w w'/\
  match qG rows ps (List.replicate n (0,1),(0,1))with
  |.error k=>err=k
  |.ok acc=>err=0/\Qj w' (V ga gl gc) acc.1/\qe w' t.val (acc.2.1/(acc.2.2:Int)) 1/\(∀g,(V ga gl gc).ownBlock=E g->w.heap.size<=g)
abbrev mO (n:Nat):Obj:=cl (madeCells #[G false,V O 0 0,V O 0 0] (n*3)) 118
abbrev vO (gg n:Nat)(R:Tri):Obj:=cl #[V (E ⟨gg,0,O⟩) n n,G R.b,R.up,R.down] 308
abbrev zO:Obj:=cl #[V O 0 0,G false,V O 0 0,V O 0 0] 308
abbrev putV (w:H)(go gg n:Nat)(R:Tri):H:=(((w.setCell ⟨go,0,O⟩ (V (E ⟨gg,0,O⟩) n n)).setCell ⟨go,1,O⟩ (G R.b)).setCell ⟨go,2,O⟩ R.up).setCell ⟨go,3,O⟩ R.down
theorem zbs (w:H)(a b:Obj):((w.alloc a).alloc b).heap[w.heap.size]? =E a/\((w.alloc a).alloc b).heap[w.heap.size+1]? =E b:=by
 have e:(w.alloc a).heap.size=w.heap.size+1:=sp;refine⟨(zI _ _ _ om).trans (zq w a),?_⟩;have:=zq (w.alloc a) b;rwa [e]at this
theorem zar {w:H}{g:Nat}{cs:Array Value}{t:TypeId}{a:Nat×Nat}(h:w.heap[g]? =E (cl cs t a))(b:t≠3):¬QE w g:=by
 rintro⟨_,_,a⟩;rw[h]at a;simp only[z7,zcS]at a;exact b a.2.1
theorem start1 {w b a:H}{n:Nat}{R:Tri}(e:Ext w b)(d:b.heap[w.heap.size]? =E zO)(c:Ext b a)(f:qe a R.val 0 1):jk w ((a.alloc (mO n)).alloc (vO a.heap.size n R)) w.heap.size (a.heap.size+1) a.heap.size (List.replicate n zT) R/\qe ((a.alloc (mO n)).alloc (vO a.heap.size n R)) R.val 0 1:=by
 have b:=c.size;obtain⟨g,h⟩:=zbs a (mO n) (vO a.heap.size n R);exact⟨jk.start e d ((c.alloc _).alloc _) om b h g,(f.alloc _).alloc _⟩
theorem start2 {w b a:H}{n:Nat}{R:Tri}(e:Ext w b)(d:b.heap[w.heap.size]? =E zO)(c:Ext b a)(f:qe a R.val 0 1):jk w ((a.alloc (vO (a.heap.size+1) n R)).alloc (mO n)) w.heap.size a.heap.size (a.heap.size+1) (List.replicate n zT) R/\qe ((a.alloc (vO (a.heap.size+1) n R)).alloc (mO n)) R.val 0 1:=by
 have b:=c.size;obtain⟨g,h⟩:=zbs a (vO (a.heap.size+1) n R) (mO n);exact⟨jk.start e d ((c.alloc _).alloc _) b om g h,(f.alloc _).alloc _⟩
theorem start3 {w a b:H}{n:Nat}{R:Tri}(e:Ext w a)(d:a.heap[w.heap.size]? =E zO)(c:Ext (a.alloc (mO n)) b)(g:qe b R.val 0 1):jk w (b.alloc (vO a.heap.size n R)) w.heap.size b.heap.size a.heap.size (List.replicate n zT) R/\qe (b.alloc (vO a.heap.size n R)) R.val 0 1:=by
 have f:=c.size;have f:(a.alloc (mO n)).heap.size=a.heap.size+1:=sp;have h:=((Ext.refl a).alloc (mO n)).trans c;have f:=(c.block _ om).trans (zq a _);exact⟨jk.start e d (h.alloc _) om (zh _) (zq b _) ((zI _ _ _ om).trans f),g.alloc _⟩
theorem start4 {w a b:H}{n:Nat}{R:Tri}(g:Ext w a)(f:a.heap[w.heap.size]? =E zO)(c:Ext ((a.alloc (mO n)).alloc zO) b)(h:qe b R.val 0 1):jk w (putV b (a.heap.size+1) a.heap.size n R) w.heap.size (a.heap.size+1) a.heap.size (List.replicate n zT) R/\qe (putV b (a.heap.size+1) a.heap.size n R) R.val 0 1:=by
 obtain⟨d,e⟩:=zbs a (mO n) zO;have i:=(zf.1 d).1;have j:=(zf.1 e).1;have k:=(((Ext.refl a).alloc (mO n)).alloc zO).trans c;have a:=(c.block _ j).trans e;exact⟨jk.start g f (zgI k om) om (zh _) (ze7 a) ((zc1 om).trans ((c.block _ i).trans d)),zbT h (zar a dc) _ _ _ _⟩
theorem start5 {w a b:H}{n:Nat}{R:Tri}(g:Ext w a)(f:a.heap[w.heap.size]? =E zO)(c:Ext (a.alloc zO) b)(h:qe b R.val 0 1):jk w ((putV b a.heap.size b.heap.size n R).alloc (mO n)) w.heap.size a.heap.size b.heap.size (List.replicate n zT) R/\qe ((putV b a.heap.size b.heap.size n R).alloc (mO n)) R.val 0 1:=by
 have d:=c.size;have e:(a.alloc zO).heap.size=a.heap.size+1:=sp;have i:=((Ext.refl a).alloc zO).trans c;have e:=(c.block _ om).trans (zq a _);have c:(putV b a.heap.size b.heap.size n R).heap.size=b.heap.size:=sp;have d:=zq (putV b a.heap.size b.heap.size n R) (mO n);rw[c]at d;exact⟨jk.start g f ((zgI i (zh _)).alloc _) (zh _) om ((zI _ _ _ (by rw[c];omega)).trans (ze7 e)) d,(zbT h (zar e dc) _ _ _ _).alloc _⟩
theorem start6 {w a b:H}{n:Nat}{R:Tri}(g:Ext w a)(f:a.heap[w.heap.size]? =E zO)(c:Ext ((a.alloc zO).alloc (mO n)) b)(h:qe b R.val 0 1):jk w (putV b a.heap.size (a.heap.size+1) n R) w.heap.size a.heap.size (a.heap.size+1) (List.replicate n zT) R/\qe (putV b a.heap.size (a.heap.size+1) n R) R.val 0 1:=by
 obtain⟨d,e⟩:=zbs a zO (mO n);have i:=(zf.1 d).1;have j:=(zf.1 e).1;have k:=(((Ext.refl a).alloc zO).alloc (mO n)).trans c;have a:=(c.block _ i).trans d;exact⟨jk.start g f (zgI k (zh _)) (zh _) om (ze7 a) ((zc1 om).trans ((c.block _ j).trans e)),zbT h (zar a dc) _ _ _ _⟩
end Go.Proofs.YtnhfdcfnojnofaaGreatDoor.T
