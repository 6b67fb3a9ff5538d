import Derived.Test.YtmimmcmbgnjjcaaGreatDoorFon1Z19
open Option renaming none->O,some->E
open Go.Value renaming slice->V,bool->G,string->gS,pointer->pn,tuple->tp,int->it,agg->ag
open Go.Obj renaming cells->cl
open Go renaming World->H
open Go.Proofs.Tryz renaming prog->pg
open Go.Proofs.Tryz
open Go.Ending renaming returned->Xa
open Go.IntKind renaming i64->Xb
open Go.Addr renaming mk->Xd
set_option linter.unusedSimpArgs false
set_option linter.unusedVariables false
set_option maxHeartbeats 4000000
set_option maxRecDepth 100000
namespace Go.Proofs.YtmimmcmbgnjjcaaGreatDoor
section
open Go.RowKit
attribute [local go_sem] zD zW qJ
theorem zq3 {rg:List (Int×Int)}{k:Nat}(a:k<rg.length):zao k (rg.drop k)=if 7<(rg.getD k (0,0)).2-(rg.getD k (0,0)).1 then E k else zao (k+1) (rg.drop (k+1)):=by
 rw[jt a,zao,zk,zg a];rfl
theorem zo3 {n:Nat}(h:n<10^40):n<4294967296^5:=zbr h dc
def zfb (rg:List (Int×Int)):Nat:=match zao 0 rg with|some k=>k+3|.none=>0
theorem zin (d n:Nat)(s:Option Addr)(cap:Nat)(f:Value)(x:Nat->Nat->Value)(b:Nat)(rg:List (Int×Int))(w:H)(h:w.cell? (Xd d 0 O)=E (V s n cap))(h2:w.cell? (Xd d 1 O)=E f)(q:n<=4)(g:0<n->s=E (Xd b 0 O))(r:rg.length=n)
 (m:∀i j,i<n->j<6->w.cell? ⟨b,i*6+j,O⟩=E (x i j)) (R:∀k t,k<n->t<3->∃b a l c,x k (2*t)=G b/\x k (2*t+1)=V a l c) (o:∀k,k<n->zy w (ag #[x k 2,x k 3]) (rg.getD k (0,0)).1/\zy w (ag #[x k 4,x k 5]) (rg.getD k (0,0)).2/\(rg.getD k (0,0)).1.natAbs<10^40/\(rg.getD k (0,0)).2.natAbs<10^40):
 Calls pg 45 #[pn (E (Xd d 0 O))] w fun e w'=>e=Xa (it Xb (zfb rg:Nat))/\Below w.heap.size w w':=by
 have q:((w.alloc (cl #[it Xb 0] 3)).alloc (cl #[it Xb 2] 3)).cell? (Xd d 0 O)=E (V s n cap):=((zn.alloc 0 w _).trans (zn.alloc 0 _ _)).cell h;have q:((w.alloc (cl #[it Xb 0] 3)).alloc (cl #[it Xb 2] 3)).cell? (Xd d 1 O)=E f:=((zn.alloc 0 w _).trans (zn.alloc 0 _ _)).cell h2;have I:=zf m;have K:=zf o;have L:0<n->b<w.heap.size:=fun h0=>zw (I.out 0 0 h0 om)
 obtain⟨d,z,_,D⟩:=zeK w (cl #[it Xb 0] 3) (cl #[it Xb 2] 3) (cl #[V s n cap,f] 71) (cl #[V s n cap] 68);have J:=zf (Xc d (Xc z D));refine Q0 func45 ntmps45 (h:=?_);gi_wp2;refine(zq.2 (zgE _ _ _ _ _)).mono ?_;rintro e f ⟨rfl,rfl⟩;gi_wp2;refine zaW (zdK x s b n cap (w.heap.size+1+1+1) om g) rfl (qW func192 kr rfl) (fun X r=>?_)
  (fun k M A=>k<=n/\A.cell? ⟨w.heap.size+1,0,O⟩=E (it Xb ((k:Int)+2))/\A.frozen? ⟨w.heap.size+1,0,O⟩=false/\A.cell? (Xd w.heap.size 0 O)=E (it Xb 0)/\A.frozen? (Xd w.heap.size 0 O)=false/\A.cell? ⟨w.heap.size+1+1+1,0,O⟩=E (V s n cap)/\Below w.heap.size w A/\Hid (zao 0 rg=zao k (rg.drop k))/\∀y,M y↔y=w.heap.size\/y=w.heap.size+1)
  (fun c k A=>c= .ret/\A.cell? (Xd w.heap.size 0 O)=E (it Xb ((k:Int)+3))/\Below w.heap.size w A/\Hid (zao 0 rg=E k))
  (fun y=>y=w.heap.size\/y=w.heap.size+1) ?hI ?hIx ?hC ?h0 ?round ?done ?stop
 case hI=>
  rintro k M A g ⟨f,h2,q,m,F,C,B,u,v⟩ o;exact⟨f,o.cell h2,(o.frozen h2).trans q,o.cell m,(o.frozen m).trans F,o.cell C,o.below B so (zh _),u,v⟩
 case hIx=>
  rintro c k A g ⟨f,h2,q,m⟩ o;exact⟨f,o.cell h2,o.below q so (zh _),m⟩
 case hC=>
  rintro k M A ⟨f,h2,q,m,F,C,B,u,v⟩;refine⟨⟨C,fun i j g N=>(B.cell (p:=⟨b,i*6+j,O⟩) (L om)).trans (I.out i j g N)⟩,fun y S=>?_⟩;have:=zw h2;rcases(v y).1 S with e|e
  ·simp at this;omega
  ·rw[e];exact this
 case h0=>
  obtain⟨d,z,D⟩:=J.out;exact⟨qo _,ze _ _ _ _ _ _ z,ZK _ _ _ _ _ z,ze _ _ _ _ _ _ d,ZK _ _ _ _ _ d,ze _ _ _ _ _ _ D,(zbt w _ _ _).alloc so _,by rw[Hid,Q2],fun _=>Qb⟩
 case round=>
  rintro U k X M A r ⟨a8,h2,q,m,F,C,B,u,v⟩;have d:k<n:=by
   have:=(zo.1 r).1;rwa [jJ]at this
  rw[zbx d]at r;injection r with r
  subst r;have a5:=K.out k d;have K:=zf (zq3 (rg:=rg) (k:=k) om);obtain⟨y0,a0,l0,c0,e0,e1⟩:=R k 0 d om;obtain⟨Y,J,T,N,z,D⟩:=R k 1 d om;obtain⟨Z,L,W,P,I,Q⟩:=R k 2 d om;simp only[Ql,jM,qt,Nat.reduceMul,Nat.reduceAdd]at e0 e1 z D I Q;rw[z,D,I,Q]at a5;rw[e0,e1,z,D,I,Q];obtain⟨a3,a4,a6,a7⟩:=a5;have a5:((rg.getD k (0,0)).2-(rg.getD k (0,0)).1).natAbs<4294967296^6:=by
   have d:(10:Nat)^40+10^40<4294967296^6:=dc;omega
  obtain⟨z,hlo⟩:∃z,(rg.getD k (0,0)).1=z:=⟨_,rfl⟩;obtain⟨g,hhi⟩:∃g,(rg.getD k (0,0)).2=g:=⟨_,rfl⟩;rw[hlo,hhi]at K a5;rw[hlo]at a3 a6;rw[hhi]at a4 a7;unfold Zz;gi_wp2;refine⟨Xf ((qf _ _).alloc (zh _) _),fun D Q=>?_⟩;have d:=(zn.alloc _ A _).trans Q;have I:=fun j X (r:(#[G y0,V a0 l0 c0,G Y,V J T N,G Z,V L W P]:Array Value)[j]? =E X)=>Q.cell ((ze _ _ j _ _ _ (qR A (cl #[G y0,V a0 l0 c0,G Y,V J T N,G Z,V L W P] 137))).trans r)
  have X:=I 2 _ rfl;have p3:=I 3 _ rfl;have p4:=I 4 _ rfl;have p5:=I 5 _ rfl;have I:w.heap.size+1<A.heap.size:=zw h2;have I:A.heap.size<D.heap.size:=zw X;have R:=d.cell h2;have q3:=(d.frozen h2).trans q;have q4:=d.cell m;have q5:=(d.frozen m).trans F;have q6:=d.cell C;have Q:=d.below B so (zh _);obtain⟨d,hA3⟩:∃d,D.setCell ⟨w.heap.size+1,0,O⟩ (it Xb ((k:Int)+2+1))=d:=⟨_,rfl⟩;have a9:Wr M D d:=by rw[<-hA3];exact(Xi _ _).setCell (p:=⟨w.heap.size+1,0,O⟩) ((v _).2 (.inr rfl)) _
  have I:Below w.heap.size w d:=by rw[<-hA3];exact Q.setCell (p:=⟨w.heap.size+1,0,O⟩) sp _
  have Q:d.cell? ⟨w.heap.size+1,0,O⟩=E (it Xb ((k:Int)+2+1)):=by rw[<-hA3];exact zN _ _ _ R
  have s3:d.frozen? ⟨w.heap.size+1,0,O⟩=false:=by rw[<-hA3];simpa using q3
  have R:d.cell? (Xd w.heap.size 0 O)=E (it Xb 0):=by rw[<-hA3,qj _ _ _ _ sp];exact q4
  have s5:d.frozen? (Xd w.heap.size 0 O)=false:=by rw[<-hA3];simpa using q5
  have s6:d.cell? ⟨w.heap.size+1+1+1,0,O⟩=E (V s n cap):=by rw[<-hA3,qj _ _ _ _ sp];exact q6
  have s:d.cell? (Xd A.heap.size 2 O)=E (G Y):=by rw[<-hA3,qj _ _ _ _ so];exact X
  have s:d.cell? (Xd A.heap.size 3 O)=E (V J T N):=by rw[<-hA3,qj _ _ _ _ so];exact p3
  have s:d.cell? (Xd A.heap.size 4 O)=E (G Z):=by rw[<-hA3,qj _ _ _ _ so];exact p4
  have s:d.cell? (Xd A.heap.size 5 O)=E (V L W P):=by rw[<-hA3,qj _ _ _ _ so];exact p5
  have s:=a3.below I;have J:=a4.below I;have T:Hid ((g-z).natAbs<4294967296^6):=a5;gi_wp2;refine(Zq U (zq.2 (zgD d _ _ g z 5 om J s (zo3 a7) (zo3 a6)))).mono ?_;rintro e J ⟨_,rfl,s,L⟩;obtain⟨_,_,_,_,rfl,_,_⟩:=s.parts;gi_wp2;refine(Zq U (zq.2 (zjP J 7 om))).mono ?_;rintro e P ⟨_,rfl,J,N⟩;obtain⟨_,_,_,_,rfl,_,_⟩:=J.parts;gi_wp2;refine(Zq U (zq.2 (zlt P _ _ (g-z) 7 6 om (s.below N) J T.out dc))).mono ?_;rintro e J ⟨c,rfl,P,T,_,_,U⟩;have s:=(L.trans (N.mono L.size)).trans (U.mono (zF L.size N.size));have U:=(s.cell (p:=⟨w.heap.size+1,0,O⟩) (zw Q)).trans Q;have W:=(s.frozen (p:=⟨w.heap.size+1,0,O⟩) (zw Q)).trans s3;have N:=(s.cell (p:=(Xd w.heap.size 0 O)) (zw R)).trans R;have Q:=(s.frozen (p:=(Xd w.heap.size 0 O)) (zw R)).trans s5;have R:=(s.cell (p:=⟨w.heap.size+1+1+1,0,O⟩) (zw s6)).trans s6;have L:=I.trans (s.mono I.size);have I:=a9.trans (Xf s);by_cases s:7<g-z
  ·have D:0<c:=by
    have f:¬c<0:=fun e=>by have:=P.1 e;omega
    have h2:¬c=0:=fun e=>by have:=T.1 e;omega
    omega
   have d:Hid (zao 0 rg=E k):=by rw[Hid,u.out,K.out,zQ s]
   gi_wp2;refine⟨I.setCell (p:=(Xd w.heap.size 0 O)) ((v _).2 (.inl rfl)) _,rfl,?_,L.setCell (p:=(Xd w.heap.size 0 O)) (zh _) _,d⟩;rw[zN _ _ _ N];congr 2
   all_goals omega
  ·have D:¬0<c:=by
    intro e;have f:g-z<7\/g-z=7:=om;rcases f with f|f
    ·have:=P.2 f;omega
    ·have:=T.2 f;omega
   have d:Hid (zao 0 rg=zao (k+1) (rg.drop (k+1))):=by rw[Hid,u.out,K.out,zO s]
   gi_wp2;refine⟨I,M,⟨om,?_,W,N,Q,R,L,d,v⟩,fun y S=> .inl S⟩;rw[U];congr 2
   all_goals first|omega|(simp;omega)
 case stop=>
  rintro D c k A y o ⟨rfl,f,h2,q⟩ s;have I:w.heap.size<D:=by simp at y;omega
  have o:zn w.heap.size A (A.putObj D (.deferred O)):=zn.putObj (.deferred O) om s rfl;have z:=o.cell f;have f:=o.below h2 (zh _) (zh _);gi_wp2;refine qh s ?_;refine⟨it Xb ((k:Int)+3),by simp[results,results45,go_sem,z],?_,f⟩;rw[zfb,q.out];simp
 case done=>
  rintro D M A y ⟨a8,h2,q,m,F,C,B,u,v⟩ s;rw[jJ]at u;have I:w.heap.size<D:=by simp at y;omega
  have d:Hid (zfb rg=0):=by
   rw[Hid,zfb,u.out,List.drop_eq_nil_of_le om];rfl
  have q:(A.setCell (Xd w.heap.size 0 O) (it Xb 0)).heap[D]? =E (.deferred (E [])):=(qC _ _ _ _ so).trans s;have o:zn w.heap.size (A.setCell (Xd w.heap.size 0 O) (it Xb 0)) ((A.setCell (Xd w.heap.size 0 O) (it Xb 0)).putObj D (.deferred O)):=zn.putObj (.deferred O) om q rfl;have z:=o.cell (zN A ⟨w.heap.size,0,O⟩ (it Xb 0) m);have f:=o.below (B.setCell (p:=(Xd w.heap.size 0 O)) (zh _) (it Xb 0)) (zh _) (zh _);gi_wp2;refine qh q ?_;refine⟨it Xb 0,by simp[results,results45,go_sem,z],?_,f⟩;rw[d.out];rfl
 ·obtain⟨i,g,rfl⟩:=qP.1 r;rfl
end

section
open Go.RowKit
theorem zjv {w:H}{f n:Nat}{zs:List Int}(p:Whs w f zs)(d:zs.length=3*n):
 ∃x:Nat->Nat->Value,(∀i j,i<n->j<6->w.cell? ⟨f,i*6+j,O⟩=E (x i j))/\(∀k t,k<n->t<3->∃b a l c,x k (2*t)=G b/\x k (2*t+1)=V a l c)/\
  ∀k t,k<n->t<3->zy w (ag #[x k (2*t),x k (2*t+1)]) (zs.getD (3*k+t) 0):=by
 have o:∀k t,k<n->t<3->∃b a l c,w.cell? ⟨f,k*6+2*t,O⟩=E (G b)/\w.cell? ⟨f,k*6+(2*t+1),O⟩=E (V a l c)/\zy w (ag #[G b,V a l c]) (zs.getD (3*k+t) 0):=by
  intro k t g h;obtain⟨b,a,l,c,d,e,m,_,_⟩:=p.2 (3*k+t) om;rw[show 2*(3*k+t)=k*6+2*t by omega]at d;rw[show 2*(3*k+t)+1=k*6+(2*t+1)by omega]at e;exact⟨b,a,l,c,d,e,m⟩
 refine⟨fun i j=>(w.cell? ⟨f,i*6+j,O⟩).getD .nilFunc,fun i j f p=>?_,fun k t g h=>?_,fun k t g h=>?_⟩
 ·obtain⟨b,a,l,c,d,e,_⟩:=o i (j/2) f om;rcases Nat.mod_two_eq_zero_or_one j with f|f
  ·rw[show 2*(j/2)=j by omega]at d;simp only[d,qB]
  ·rw[show 2*(j/2)+1=j by omega]at e;simp only[e,qB]
 ·obtain⟨b,a,l,c,d,e,_⟩:=o k t g h;exact⟨b,a,l,c,by simp only[d,qB],by simp only[e,qB]⟩
 ·obtain⟨b,a,l,c,d,e,m⟩:=o k t g h;simp only[d,e,qB];exact m
theorem znT (a:Nat)(p:qF)(b c:Value)(w:H)(h:DQ w a p b c)(l:p.n<=4)(m:p.rg.length=p.n)(i:∀r∈p.rg,r.1.natAbs<10^40/\r.2.natAbs<10^40):
 Calls pg 45 #[pn (E (Xd a 0 O))] w fun e w'=>e=Xa (it Xb (zfb p.rg:Nat))/\Below w.heap.size w w':=by
 obtain⟨d,f,_,_,_⟩:=h.box;rcases h.cols with ⟨b,rfl⟩|⟨o,_,rfl,_,t,j⟩
 ·refine zin a p.n O 0 c (fun _ _=> .nilFunc) 0 p.rg w (by rw[b];exact d) f l (fun h=>om) m (fun b b b=>om) (fun k b b=>om) (fun k b=>om)
 ·obtain⟨x,q,s,g⟩:=zjv t j.1;refine zin a p.n _ _ c x o p.rg w d f l (fun _=>rfl) m q s (fun k b=>?_);have a:=g k 1 b om;have c:=g k 2 b om;obtain⟨b,d⟩:=j.2.2 k om;simp only[jM,Nat.reduceMul,Nat.reduceAdd]at a c;rw[b]at a;rw[d]at c;have hm:p.rg.getD k (0,0)∈p.rg:=by
   rw[zk,zg om];exact zJ _
  exact⟨a,c,(i _ hm).1,(i _ hm).2⟩
theorem DQ.moved {w:H}{a:Nat}{p:qF}{b d:Option Addr}{n c m k:Nat}(h:DQ w a p (V b n c) (V d m k)):DQ (w.alloc (cl #[V b n c,V d m k] 71)) w.heap.size p (V b n c) (V d m k):=by
 have i:=h.lt;have f:=h.keep (zn.alloc 0 w (cl #[V b n c,V d m k] 71));have a:=qR w (cl #[V b n c,V d m k] 71);refine⟨⟨ze _ _ _ _ _ _ a,ze _ _ _ _ _ _ a,ZK _ _ _ _ _ a,ZK _ _ _ _ _ a,Jw a⟩,zE a (fun v b=>?_),?_,fun g a=>⟨(f.nodR g a).1,fun e=>by have:=i g (Or.inr (Or.inr a));omega,(f.nodR g a).2.2⟩,?_⟩
 ·simp only[zI,zY,Zp]at b;intro n e;rcases b with rfl|rfl<;>cases e
 ·rcases f.cols with a|⟨b,j,a,_,d,g⟩
  ·exact Or.inl a
  ·exact Or.inr ⟨b,j,a,fun e=>by have:=i b (Or.inr (Or.inl (by rw[a];rfl)));omega,d,g⟩
 ·obtain⟨_,_,_,_⟩:=f.rows;obtain⟨f,a,b,d⟩:=h.rows;refine⟨f,a,b.alloc _,fun j r row l o=>?_⟩;obtain⟨a,f,b,g,i⟩:=d j r row l o;have d:=b.lt;exact⟨fun e=>by
   rcases e with e|e|e
   ·omega
   ·exact a (Or.inr (Or.inl e))
   ·exact a (Or.inr (Or.inr e)),f,b.keep (zn.alloc 0 w _),g,i.keep (zn.alloc 0 w _)⟩
theorem zkK:∀(l:List (List UInt8×Bool)) (i:Nat) (p:qF) (k:Nat),ju i p l= .error k->i<k
 |[],i,p,k,h=>by simp[ju]at h
 |x::r,i,p,k,h=>by
  rw[ju]at h;split at h
  ·injection h with h;omega
  ·split at h
   ·injection h with h;omega
   ·rename_i q a
    have:=zkK r (i+1) q k h;omega
theorem zo4 {rg:List (Int×Int)}{k:Nat}(h:zao 0 rg=E k):zfb rg=k+3:=by unfold zfb;rw[h]
theorem znU {rg:List (Int×Int)}(h:zao 0 rg=O):zfb rg=0:=by unfold zfb;rw[h]
theorem zo5 (s:List UInt8)(hs:2000<s.length)(w:H):
 Calls pg 36 #[gS ⟨s.toArray⟩] w fun e w'=>e=Xa (tp #[ag #[V O 0 0,V O 0 0],it Xb 4,it Xb 0])/\Below w.heap.size w w':=by
 have a:(2000:Int)<(s.length:Int):=om;have a:=qR w (cl #[V O 0 0,V O 0 0] 71);have b:=c_ 0 a;have b:=c_ 1 a;go_enter func36,ntmps36
 go_wp2;exact zH (v:=tp #[ag #[V O 0 0,V O 0 0],it Xb 4,it Xb 0]) (by simp[results,results36,go_sem]) rfl ⟨rfl,(qf _ _).alloc (zh _) _⟩
theorem read_any (s:List UInt8)(hs:s.length<=2000)(w:H):
 Calls pg 36 #[gS ⟨s.toArray⟩] w fun e w'=>Below w.heap.size w w'/\
  (
   (∃a b:Nat,JY s= .error (a,b)/\0<a/\e=Xa (tp #[ag #[V O 0 0,V O 0 0],it Xb (a:Nat),it Xb (b:Nat)]))\/
   ∃p c i m,JY s= .ok p/\e=Xa (tp #[ag #[i,m],it Xb 0,it Xb 0])/\DQ w' c p i m/\zbU (QW s).length p/\2+p.n<=(QW s).length):=by
 have c:¬(2000:Int)<(s.length:Int):=om;have u:Hid (JY s=match ju 0 qF.none (QW s)with
  |.error k=> .error (5,k)
  |.ok p=>if (QW s).length<2+p.n then .error (5,(QW s).length+1)else match zao 0 p.rg with
   |some l=> .error (6,l+3)
   |.none=> .ok p):=by
  rw[Hid];unfold JY;rw[zO om];rfl
 have f:=zf (fun W=>zlc s hs W);have F:Hid (∀k,ju 0 qF.none (QW s)= .error k->0<k):=fun k d=>by have:=zkK (QW s) 0 qF.none k d;omega
 obtain⟨h,hLL⟩:∃h,QW s=h:=⟨_,rfl⟩;rw[hLL]at u f F⊢;have o:Below w.heap.size w (w.alloc (cl #[V O 0 0,V O 0 0] 71)):=(qf _ _).alloc (zh _) _;have c:=qR w (cl #[V O 0 0,V O 0 0] 71);have r:=c_ 0 c;have t:=c_ 1 c;have y:=ZK _ _ 0 _ _ c;have C:=ZK _ _ 1 _ _ c;go_enter func36,ntmps36
 go_wp2_with fail
 refine(f.out _).mono ?_;rintro e f ⟨c,x⟩;have q:=c.size;simp only[zL]at q;have z:=(c.cell (p:=(Xd w.heap.size 0 O)) sp).trans r;have A:=(c.cell (p:=(Xd w.heap.size 1 O)) sp).trans t;have M:=(c.frozen (p:=(Xd w.heap.size 0 O)) sp).trans y;have N:=(c.frozen (p:=(Xd w.heap.size 1 O)) sp).trans C;have y:=o.trans (c.mono sp);have t:=(zn.alloc 0 f (cl #[V O 0 0,V O 0 0] 71)).cell z;have C:=(zn.alloc 0 f (cl #[V O 0 0,V O 0 0] 71)).cell A;have R:=((zn.alloc 0 f (cl #[V O 0 0,V O 0 0] 71)).frozen z).trans M;have S:=((zn.alloc 0 f (cl #[V O 0 0,V O 0 0] 71)).frozen A).trans N;have o:((f.alloc (cl #[V O 0 0,V O 0 0] 71)).setCell (Xd w.heap.size 0 O) (V O 0 0)).cell? (Xd w.heap.size 1 O)=E (V O 0 0):=by rw[zA _ _ _ _ sp];exact C
 have q:(((f.alloc (cl #[V O 0 0,V O 0 0] 71)).setCell (Xd w.heap.size 0 O) (V O 0 0)).setCell (Xd w.heap.size 1 O) (V O 0 0)).cell? (Xd w.heap.size 1 O)=E (V O 0 0):=zN _ _ _ o;have r:(((f.alloc (cl #[V O 0 0,V O 0 0] 71)).setCell (Xd w.heap.size 0 O) (V O 0 0)).setCell (Xd w.heap.size 1 O) (V O 0 0)).cell? (Xd w.heap.size 0 O)=E (V O 0 0):=by
  rw[zA _ _ _ _ sp];exact zN _ _ _ t
 have c:Below w.heap.size w (((f.alloc (cl #[V O 0 0,V O 0 0] 71)).setCell (Xd w.heap.size 0 O) (V O 0 0)).setCell (Xd w.heap.size 1 O) (V O 0 0)):=((y.alloc y.size _).setCell (p:=(Xd w.heap.size 0 O)) (zh _) _).setCell (p:=(Xd w.heap.size 1 O)) (zh _) _;rcases x with ⟨k,d,rfl⟩|⟨p,L,⟨I,rfl⟩|⟨P,i,m,rfl,D,x,J⟩⟩
 ·have m:=F.out k d;have K:¬(k:Int)=0:=om;have m:Hid (JY s= .error (5,k)):=by rw[Hid,u.out,d]
  go_wp2;exact zH (v:=tp #[ag #[V O 0 0,V O 0 0],it Xb 5,it Xb (k:Int)]) (by simp[results,results36,go_sem,q,r]) rfl ⟨c,Or.inl ⟨5,k,m.out,om,rfl⟩⟩
 ·have K:¬((h.length:Int)+1)=0:=om;have m:Hid (JY s= .error (5,h.length+1)):=by
   rw[Hid,u.out,L];simp only[I,zbu]
  go_wp2;exact zH (v:=tp #[ag #[V O 0 0,V O 0 0],it Xb 5,it Xb ((h.length:Int)+1)]) (by simp[results,results36,go_sem,q,r]) rfl ⟨c,Or.inl ⟨5,h.length+1,m.out,om,sp⟩⟩
 ·obtain⟨c,d,hvC⟩:∃c d,i=V c p.n d:=by
   rcases D.cols with ⟨k,i⟩|⟨_,_,i,_⟩
   ·exact⟨O,0,by rw[i,k]⟩
   ·exact⟨_,_,i⟩
  obtain⟨i,k,F⟩:=D.shapeR;subst hvC F;have F:0<h.length:=om;have Q:=x.n F;have F:p.rg.length=p.n:=by have:=x.g;omega
  have I:=D.moved;have D:=zf (znT f.heap.size p _ _ _ I Q.2 F x.bg);have F:Hid (JY s=match zao 0 p.rg with|some l=> .error (6,l+3)|.none=> .ok p):=by
   rw[Hid,u.out,L];simp only[show ¬h.length<2+p.n from P,zaK]
  go_wp2_with fail
  refine D.out.mono ?_;rintro e h ⟨rfl,D⟩;have u:=y.alloc y.size (cl #[V c p.n d,V i p.rows.length k] 71);have y:=u.trans (D.mono u.size);have u:=(zn.alloc 0 f (cl #[V c p.n d,V i p.rows.length k] 71)).trans (zn.of_below (B:=0) D);have t:=u.cell z;have C:=u.cell A;have R:=(u.frozen z).trans M;have S:=(u.frozen A).trans N;have u:=I.below D;have z:=u.box;obtain⟨_,_,_,_,_⟩:=z;have z:¬Own f.heap.size (V c p.n d) (V i p.rows.length k) w.heap.size:=by
   intro e;rcases e with e|e|e
   ·omega
   ·have:=J _ (Or.inr (Or.inl e));simp only[zL]at this;omega
   ·have:=J _ (Or.inr (Or.inr e));simp only[zL]at this;omega
  cases hwd:zao 0 p.rg with
  |some l=>
   have m:Hid (JY s= .error (6,l+3)):=by rw[Hid,F.out,hwd]
   rw[zo4 hwd];have K:¬((l:Int)+3)=0:=om;have o:(h.setCell (Xd w.heap.size 0 O) (V O 0 0)).cell? (Xd w.heap.size 1 O)=E (V O 0 0):=by rw[zA _ _ _ _ sp];exact C
   have q:((h.setCell (Xd w.heap.size 0 O) (V O 0 0)).setCell (Xd w.heap.size 1 O) (V O 0 0)).cell? (Xd w.heap.size 1 O)=E (V O 0 0):=zN _ _ _ o;have r:((h.setCell (Xd w.heap.size 0 O) (V O 0 0)).setCell (Xd w.heap.size 1 O) (V O 0 0)).cell? (Xd w.heap.size 0 O)=E (V O 0 0):=by
    rw[zA _ _ _ _ sp];exact zN _ _ _ t
   go_wp2;exact zH (v:=tp #[ag #[V O 0 0,V O 0 0],it Xb 6,it Xb ((l:Int)+3)]) (by simp[results,results36,go_sem,q,r]) rfl ⟨(y.setCell (p:=(Xd w.heap.size 0 O)) (zh _) _).setCell (p:=(Xd w.heap.size 1 O)) (zh _) _,Or.inl ⟨6,l+3,m.out,om,sp⟩⟩
  |none=>
   have m:Hid (JY s= .ok p):=by rw[Hid,F.out,hwd]
   rw[znU hwd];have l:(h.setCell (Xd w.heap.size 0 O) (V c p.n d)).cell? (Xd w.heap.size 0 O)=E (V c p.n d):=zN _ _ _ t;have o:(h.setCell (Xd w.heap.size 0 O) (V c p.n d)).cell? (Xd w.heap.size 1 O)=E (V O 0 0):=by rw[zA _ _ _ _ sp];exact C
   have q:((h.setCell (Xd w.heap.size 0 O) (V c p.n d)).setCell (Xd w.heap.size 1 O) (V i p.rows.length k)).cell? (Xd w.heap.size 1 O)=E (V i p.rows.length k):=zN _ _ _ o;have r:((h.setCell (Xd w.heap.size 0 O) (V c p.n d)).setCell (Xd w.heap.size 1 O) (V i p.rows.length k)).cell? (Xd w.heap.size 0 O)=E (V c p.n d):=by
    rw[zA _ _ _ _ sp];exact l
   have h:=zf ((u.set_other (g:=w.heap.size) (j:=0) (v:=V c p.n d) z t sp sp t sp).set_other (g:=w.heap.size) (j:=1) (v:=V i p.rows.length k) z o sp sp l sp);have l:=zf x;go_wp2;exact zH (v:=tp #[ag #[V c p.n d,V i p.rows.length k],it Xb 0,it Xb 0]) (by simp[results,results36,go_sem,q,r]) rfl ⟨(y.setCell (p:=(Xd w.heap.size 0 O)) (zh _) _).setCell (p:=(Xd w.heap.size 1 O)) (zh _) _,Or.inr ⟨p,f.heap.size,_,_,m.out,rfl,h.out,l.out,om⟩⟩
attribute [local go_sem] zD zW qJ
