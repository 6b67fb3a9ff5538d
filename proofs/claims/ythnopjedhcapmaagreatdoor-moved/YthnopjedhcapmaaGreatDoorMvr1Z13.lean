import Derived.Test.YthnopjedhcapmaaGreatDoorMvr1Z11
import Derived.Test.YthnopjedhcapmaaGreatDoorMvr1Z12
open Option renaming none->O,some->E
open Go.Value renaming slice->V,bool->G,string->gS,pointer->pn,tuple->tp,int->it,agg->ag
open Go.Obj renaming cells->cl
open Go renaming World->H
open Go.Proofs.Tryz renaming prog->pg
open Go.Proofs.Tryz
open Go.Ending renaming returned->Xa
open Go.IntKind renaming i64->Xb
open Go.Addr renaming mk->Xd
set_option linter.unusedSimpArgs false
set_option linter.unusedVariables false
set_option maxHeartbeats 4000000
set_option maxRecDepth 100000
namespace Go.Proofs.YthnopjedhcapmaaGreatDoor
section
open Go.RowKit
attribute [local go_sem] zD zW qJ
variable {b:Bool}{n:Nat}{sv:S_}
theorem zdB{F:Fence}{P:Program}{b:Array Oper}{Q:Exit->Act->H->Prop}{L:Nat}{a:Act}{w:H}{o:Oper}(hs:b.size=L+1:=by rfl)(ho:b.toList[L]? =E o:=by rfl)(hg:Region.wanted o (yielded b a.tmps)=true:=by rfl)(h:o.wpIn F n P a w (fun a w=>Q .normal a w) Q):zdL F n P b Q L .normal a w:=by
 show wpOpsIn F n P b Q (List.range' L (b.size-L)) a w
 have e:List.range' L (b.size-L)= [L]:=by
  rw[hs,show L+1-L=1 by omega];rfl
 rw[e,wpOpsIn_cons];exact zds (ho:=ho) (hg:=hg) (h:=h)
def plusQ (xs ys:L_)(z:Int)(i:Nat):Int:=xs.getD i 0+ys.getD i 0*z
def PlI (w1:H)(b0 g:Nat)(b:Bool)(sv:S_)(N:Nat)(q:Nat->Int)(k:Nat)(M:Nat->Prop)(A:H):Prop:=
 k<=N/\∃(v:Value) (us:List WT),us.length=k/\GrJ 64 2 104 (fun v=>#[v,G b,sl3 sv]) WT.cells w1 b0 g g v us M A/\∀(i:Nat) (u:WT),us[i]? =E u->zy A u.val (q i)
theorem PlI.keep{w1 A B:H}{d g:Nat}{N:Nat}{q:Nat->Int}{k:Nat}{M:Nat->Prop}(h:PlI w1 d g b sv N q k M A)(e:zn w1.heap.size A B):PlI w1 d g b sv N q k M B:=by
 have⟨d,v,l,f,i,j⟩:=h;exact⟨d,v,l,f,i.keep e,fun i u d=>(j i u d).keep e⟩
theorem zr0{v:Value}(d:∃a l c,v=V a l c):∀x∈(#[v,G b,sl3 sv]:W_).toList,ZM x:=by
 obtain⟨a,l,c,rfl⟩:=d;intro x d;simp[sl3]at d;rcases d with rfl|rfl|rfl<;>(intro n e;cases e)
theorem PlI.more{w1 A A2 X3 A8:H}{f g:Nat}{N:Nat}{q:Nat->Int}{k:Nat}{M:Nat->Prop}{v:Value}{d:List WT}{u:WT}{g8 cap8:Nat}{o:Obj}(r:d.length=k)(h:GrJ 64 2 104 (fun v=>#[v,G b,sl3 sv]) WT.cells w1 f g g v d M A)(y:∀(i:Nat) (u:WT),d[i]? =E u->zy A u.val (q i))(l:zn w1.heap.size A A2)(m:Ext A2 X3)(t:g<w1.heap.size)(z:k<N)(D:zy X3 u.val (q k))(own:A8.ownsRow f 64 2 (V (E (Xd g8 0 O)) (d.length+1) cap8) (d.length+1) ((d.map WT.cells).flatten++u.cells))(grow:(X3.alloc o).grownBy A8 v.ownBlock)(p:v.ownBlock=E g8\/(X3.alloc o).heap.size<=g8)(dig:qK A8 g8):
 Wr M A2 (A8.setCell (Xd g 0 O) (V (E (Xd g8 0 O)) (d.length+1) cap8))/\∃e,PlI w1 f g b sv N q (k+1) e (A8.setCell (Xd g 0 O) (V (E (Xd g8 0 O)) (d.length+1) cap8))/\∀x,e x->M x\/A.heap.size<=x:=by
 have f:=m.alloc o;have s:Wr (fun b=>A.heap.size<=b) A2 _:=Xg f;have⟨m,e,F,I⟩:=h.more (j:=0) l s t own rfl grow p dig rfl;have C:∃a p c,v=V a p c:=by have⟨a,c,p⟩:=h.2.2.1.shape;exact⟨a,_,c,p⟩
 have p:=fun b t=>((h.fresh l s).far (zr0 C) b t).1
 refine⟨(Xg f).trans m,e,⟨z,_,d ++ [u],by rw[zM,r];rfl,F,fun i t e=>?_⟩,I⟩;by_cases h:i<d.length
 ·rw[zS h]at e;exact(((y i t e).keep l).below f).wr m p
 ·have f:i=d.length:=by
   have:=(zo.1 e).1;rw[zM,ZH]at this;omega
  rw[f,zG (zh _),Qn]at e;have h:u=t:=by simpa using e
  have d:q i=q k:=by rw[f,r]
  rw[d,<-h];exact(D.below ((Xe X3).alloc o)).wr m p
theorem zmN(K:Nat)(f:K+K<=1073741800)(w:H)(r o:RW)(t:WT)(x y:L_×Int)(z:Int)(hr:QG w r x)(ho:QG w o y)(ht:zy w t.val z)(hl:x.1.length=y.1.length)(hn:x.1.length<=4){a6:Nat}(hx:Jm a6 x)(hy:Jm a6 y)(hz:Lim a6 z)(hE:a6<4294967296^K)(aT:a6*a6<4294967296^K):
 C_ 171 #[r.val,o.val,t.val] w fun e w'=>∃r':RW,e=Xa r'.val/\QG w' r' (JQ x y z)/\b_ w w':=by
 obtain⟨i0,bH,bO,bP,bQ⟩:=Zn zbW;obtain⟨⟨fa,_,fc⟩,ab,⟨aa,al,ac⟩⟩:=r;obtain⟨⟨ga,_,gc⟩,bb,⟨ba,bl,bc⟩⟩:=o;obtain⟨tb,⟨ta,tl,tc⟩⟩:=t;obtain⟨⟨L,h1,h2,D⟩,bL⟩:=hr;obtain⟨⟨ss,k1,Z,k3⟩,bJ⟩:=ho;obtain⟨ao,bz,e⟩:=h2.shape;rw[zm]at e;simp only[RW.fv,qp]at e;obtain⟨rfl,rfl,rfl⟩:=e;obtain⟨ao,bz,e⟩:=Z.shape;rw[zm]at e;simp only[RW.fv,qp]at e;obtain⟨rfl,rfl,rfl⟩:=e;have aG:ss.length=L.length:=om;rw[aG]at Z⊢;simp only[RW.val,RW.fv,WT.sv,WT.val]at *;obtain⟨n0,aJ,n2,aK,hX⟩:=zem w (cl #[V fa L.length fc,G ab,V aa al ac] 104) (cl #[V ga L.length gc,G bb,V ba bl bc] 104) (cl #[G tb,V ta tl tc] 64) (cl #[V_,G false,V_] 104);have bY:L.length<=4:=om;have br:=zf aG;have H1:=zf h1;have H2:=zf h2;have H3:=zf D;have bd:=zf Z;have be:=zf k3;have HL:=zf hl;clear aG h1 h2 D k1 Z k3 hl;refine Q0 func171 ntmps171 (h:=?_);gi_wp2;generalize H.alloc _ _=b at *;have bM:=(zd.1 aK).1;have af:=zf (fun W (i:Ext b W)=>Xc ((i.block _ (zd.1 n0).1).trans n0) (Xc ((i.block _ (zd.1 aJ).1).trans aJ) (Xc ((i.block _ (zd.1 n2).1).trans n2) ((i.block _ bM).trans aK))));have M:=zf (fun W (i:Ext b W)=>
  have d:=af.out W i;Xc (c_ 1 d.1) (Xc (c_ 2 d.1) (Xc (c_ 1 d.2.1) (Xc (c_ 2 d.2.1) (Xc (c_ 0 d.2.2.1) (c_ 1 d.2.2.1))))))
 have b1:=hy.2.mul hz;have aO:=zf (fun W (i:Ext b W)=>zam W _ _ y.2 z K K om (bJ.below (hX.trans i)) (ht.below (hX.trans i)) (hy.2.lt hE) (hz.lt hE));have ay:=zf (fun W ak (i:Ext b W) (hp:zy W ak (y.2*z))=>zeF W _ ak x.2 _ K om (bL.below (hX.trans i)) hp (hx.2.lt hE) (b1.lt aT));clear n0 aJ n2 aK;refine Jc (S:=fun W=>W.cell? (Xd w.heap.size 1 O)=E (G ab)/\W.cell? (Xd w.heap.size 2 O)=E (V aa al ac)/\W.cell? ⟨w.heap.size+1,1,O⟩=E (G bb)/\W.cell? ⟨w.heap.size+1,2,O⟩=E (V ba bl bc)/\W.cell? ⟨w.heap.size+1+1,0,O⟩=E (G tb)/\W.cell? ⟨w.heap.size+1+1,1,O⟩=E (V ta tl tc)) hm (M.out b (Xe _)) (fun u=>?_);refine tkl [0,1,2,3,4] ?_;refine rd2 5 8 (h:=fun K f=>?_) (h1:=fun K f=>?_);go_simp;refine(aO.out _ (Xe b).drew).mono ?_;rintro e s ⟨p1,rfl,a5,a1⟩;have I:=((Xe b).drew:Ext b _).trans (Xf a1);go_wp2_with fail
 refine f.out _ _ (M.out _ I) (h:=fun u=>?_);clear f K;refine rd2 6 8 (h:=fun K f=>?_) (h1:=fun K f=>?_);go_simp;refine(ay.out _ _ I a5).mono ?_;rintro e g ⟨p2,rfl,F,Y⟩;obtain⟨⟨m,l,q,p⟩,rfl⟩:=F.shape;have J:=(I:Ext b _).trans (Xf Y);simp only[WT.val,WT.sv]at F⊢;go_wp2_with fail
 refine f.out _ _ (M.out _ J) (h:=fun u=>?_);clear f K;refine tkv 7 ?_;refine rd1 8 fun K f=>?_;go_simp;refine f.out _ _ (M.out _ (J.alloc _)) (h:=fun u=>?_);clear f K;refine rd1 9 fun K f=>?_;go_simp;refine f.out _ _ (M.out _ (J.alloc _)) (h:=fun u=>?_);clear f K;have a8:=zC g (cl #[V_,G m,V l q p] 104);have xX:Ext b (g.alloc (cl #[V_,G m,V l q p] 104)):=J.alloc _;have a9:=F.below ((Xe g).alloc (cl #[V_,G m,V l q p] 104));have aW:=J.size;generalize g.alloc (cl #[V_,G m,V l q p] 104)=X at *;generalize g.heap.size=h at *;clear I J a1 Y a5 F;rotate_left;go_simp;have a0:=zC s (cl #[V_,G false,V_] 104);have yA:Ext b (s.alloc (cl #[V_,G false,V_] 104)):=I.alloc _;refine f.out _ _ (M.out _ yA) (h:=fun u=>?_);clear f K;refine rcl 6 (ay.out _ _ yA (a5.below ((Xe s).alloc (cl #[V_,G false,V_] 104)))) ?_;rintro e g ⟨p2,rfl,F,Y⟩;obtain⟨⟨m,l,q,p⟩,rfl⟩:=F.shape;have J:=(yA:Ext b _).trans (Xf Y);simp only[WT.val,WT.sv]at F⊢;refine bk (M.out _ J) fun u=>?_
 have v:=((Xf Y).block _ (zd.1 a0).1).trans a0;have a2:=I.size;refine tkv 7 ?_;refine rd1 9 fun K f=>?_;have a8:=qG (i:=2) (v:=V l q p) (qG (i:=1) (v:=G m) (qG (i:=0) (v:=V_) v));have xX:Ext b (((g.setCell (Xd s.heap.size 0 O) (V_)).setCell (Xd s.heap.size 1 O) (G m)).setCell (Xd s.heap.size 2 O) (V l q p)):=((J.setCell a2 _).setCell a2 _).setCell (p:=(Xd s.heap.size 2 O)) a2 _;have aj:Wr (fun d=>d=s.heap.size) g (((g.setCell (Xd s.heap.size 0 O) (V_)).setCell (Xd s.heap.size 1 O) (G m)).setCell (Xd s.heap.size 2 O) (V l q p)):=zce rfl _ _ _;have a9:=F.wr aj (fun d j=>by rw[j];exact zE v n3);have k0:=c_ 0 v;have k1:=c_ 1 v;have Z:=c_ 2 v;have f0:=Xh (j:=0) v;have f1:=Xh (j:=1) v;have f2:=Xh (j:=2) v;go_simp;refine f.out _ _ (M.out _ xX) (h:=fun u=>?_);clear f K;obtain⟨h,hg99⟩:∃h,s.heap.size=h:=⟨_,rfl⟩;have aW:b.heap.size<=h:=om;simp only[hg99]at a8 xX a9 u⊢;generalize ((g.setCell (Xd h 0 O) (V_)).setCell (Xd h 1 O) (G m)).setCell (Xd h 2 O) (V l q p)=X at *;clear I J a1 Y a5 F v a0 yA aj k0 k1 Z f0 f1 f2 hg99 a2;rotate_left;go_simp;have a0:=zC b.drew (cl #[V_,G false,V_] 104);have y0:Ext b (b.drew.alloc (cl #[V_,G false,V_] 104)):=(Xe b).drew.alloc _;refine f.out _ _ (M.out _ y0) (h:=fun u=>?_);clear f K;refine rcl 5 (aO.out _ y0) ?_;rintro e s ⟨p1,rfl,a5,a1⟩;have I:=(y0:Ext b _).trans (Xf a1);refine bk (M.out _ I) fun u=>?_
 refine rcl 6 (ay.out _ _ I a5) ?_;rintro e g ⟨p2,rfl,F,Y⟩;obtain⟨⟨m,l,q,p⟩,rfl⟩:=F.shape;have J:=(I:Ext b _).trans (Xf Y);simp only[WT.val,WT.sv]at F⊢;refine bk (M.out _ J) fun u=>?_
 have v:g.heap[b.heap.size]? =E (cl #[V_,G false,V_] 104):=((Xf Y).block _ (by have:=(zd.1 a0).1;have:=(Xf a1).size;exact zK (zd.1 a0).1 (Xf a1).size)).trans (((Xf a1).block _ (zd.1 a0).1).trans a0);have a2:b.heap.size<=b.heap.size:=zh _;refine tkv 7 ?_;refine rd1 9 fun K f=>?_;have a8:=qG (i:=2) (v:=V l q p) (qG (i:=1) (v:=G m) (qG (i:=0) (v:=V_) v));have xX:Ext b (((g.setCell (Xd b.heap.size 0 O) (V_)).setCell (Xd b.heap.size 1 O) (G m)).setCell (Xd b.heap.size 2 O) (V l q p)):=((J.setCell (p:=(Xd b.heap.size 0 O)) a2 _).setCell (p:=(Xd b.heap.size 1 O)) a2 _).setCell (p:=(Xd b.heap.size 2 O)) a2 _;have aj:Wr (fun d=>d=b.heap.size) g (((g.setCell (Xd b.heap.size 0 O) (V_)).setCell (Xd b.heap.size 1 O) (G m)).setCell (Xd b.heap.size 2 O) (V l q p)):=zce rfl _ _ _;have a9:=F.wr aj (fun d j=>by rw[j];exact zE v n3);have k0:=c_ 0 v;have k1:=c_ 1 v;have Z:=c_ 2 v;have f0:=Xh (j:=0) v;have f1:=Xh (j:=1) v;have f2:=Xh (j:=2) v;go_simp;refine f.out _ _ (M.out _ xX) (h:=fun u=>?_);clear f K;obtain⟨h,hg99⟩:∃h,b.heap.size=h:=⟨_,rfl⟩;have aW:b.heap.size<=h:=om;simp only[hg99]at a8 xX a9 u⊢;generalize ((g.setCell (Xd h 0 O) (V_)).setCell (Xd h 1 O) (G m)).setCell (Xd h 2 O) (V l q p)=X at *;clear I J a1 Y a5 F v a0 y0 aj k0 k1 Z f0 f1 f2 hg99 a2;all_goals
  refine zV kr ⟨rfl,?_⟩ _;clear u;have bu:=zf a9;have bv:=c_ 0 (af.out X xX).1;have bw:=c_ 0 (af.out X xX).2.1;have bG:=(zd.1 a8).1;clear a9;gi_wp2;refine(zq.2 (zex fa ga L.length fc L.length gc X)).mono ?_;rintro e w1 ⟨rfl,aq⟩;have x1:Ext X w1:=by rw[aq];exact((Xe X).alloc _).alloc _
  have k1:w1.cell? (Xd X.heap.size 0 O)=E (V fa L.length fc):=by rw[aq];exact c_ 0 (Xk _ _ _).1
  have Z:w1.cell? ⟨X.heap.size+1,0,O⟩=E (V ga L.length gc):=by rw[aq];exact c_ 0 (Xk _ _ _).2
  have aL:=xX.trans x1;have aM:=hX.trans aL;have aR:=(x1.block _ bG).trans a8;have bU:=x1.size;have bW:=xX.size;have bX:=hX.size;have bo:=zf (bu.out.below x1);clear aq bv bw;gi_wp2;refine ZT (zcz L ss br.out.symm fa ga fc gc X.heap.size (X.heap.size+1) om) rfl (qW func230 kr rfl) (fun k ax W=>by rintro⟨t,_,_,_,rfl⟩;rfl)
   (PlI w1 w.heap.size h m (l,q,p) L.length (plusQ x.1 y.1 z)) (fun _ _ _=>False) (fun d=>d=h) ?hI ?hIx ?hC ?h0 ?round ?done ?stop
  case hI=>exact fun k az A B a4 hk=>a4.keep hk
  case hIx=>exact fun _ _ _ _ a4 _=>a4
  case hC=>
   rintro k az A ⟨h1,ax,C,h2,D,h4⟩;have ad:=qk aM D.1 (fun d j=>by rcases j with e|e<;>omega);exact⟨⟨D.1.cell (p:=(Xd X.heap.size 0 O)) so k1,D.1.cell (p:=⟨X.heap.size+1,0,O⟩) so Z,(H2.out.ext ad).recs,(bd.out.ext ad).recs⟩,D.lt⟩
  case h0=>exact⟨qo _,_,[],rfl,GrJ.start aR,fun a3 ae P=>by simp at P⟩
  case round=>
   rintro l2 k ax az A bI ⟨t0,s0,b6,b5,rfl⟩ ⟨h1,ax,C,b8,U,aU⟩;have aX:k<x.1.length:=by have:=H1.out;omega
   have aY:k<y.1.length:=by have:=HL.out;omega
   have aH:=zg aX;have aI:=zg aY;have ad:=qk aM U.1 (fun d j=>by rcases j with e|e<;>omega);have bB:=qk aL U.1 (fun d j=>by rcases j with e|e<;>omega);have aD:=(H3.out k t0 _ b6 aH).below ad;have aE:=(be.out k s0 _ b5 aI).below ad;have bx:=hx.1 _ (zJ aX);have aA:=hy.1 _ (zJ aY);have b4:plusQ x.1 y.1 z k=x.1[k]+y.1[k]*z:=by simp only[plusQ,zk,aH,aI,qB]
   generalize x.1[k]=xk at *;generalize y.1[k]=yk at *;have b2:=aA.mul hz;have bq:=zf b4;have aN:=zf U;have bi:=zf aU;have bt:=zf b8;have bZ:C.length<=4:=om;obtain⟨Q,R,rfl⟩:=U.2.2.1.shape;rw[zm]at aN U;obtain⟨yb,ya,yl,yc⟩:=t0;obtain⟨pb,au,aw,av⟩:=s0;simp only[WT.val,WT.sv]at aD aE⊢;clear b4 aH aI aU b8 b6 b5;unfold Zz;gi_wp2;refine⟨Xg (((Xe A).alloc _).alloc _),fun A2 ap=>?_⟩;have xA:=((zn.alloc w1.heap.size A (cl #[G yb,V ya yl yc] 64)).trans (zn.alloc w1.heap.size _ (cl #[G pb,V au aw av] 64))).trans ap;have e0:=ap.block _ _ (Xk A (cl #[G yb,V ya yl yc] 64) (cl #[G pb,V au aw av] 64)).1 (.inr rfl);have e1:=ap.block _ _ (Xk A (cl #[G yb,V ya yl yc] 64) (cl #[G pb,V au aw av] 64)).2 (.inr rfl);have e2:=xA.block _ _ U.2.1 (.inr rfl);have e3:=xA.block _ _ (af.out A bB).2.2.1 (.inr rfl);have bN:=ap.size;simp only[zL]at bN;have bV:=U.1.size;have G2:=U.keep xA;have ai:∀d,(V Q C.length R).ownBlock=E d->d<A.heap.size/\d≠h/\(d=h\/w1.heap.size<=d):=fun d j=>⟨(U.2.2.1.type d j).1.lt,U.2.2.2.1 d j⟩
   simp only[sl3]at e2;have a7:=zf (fun W (i:Wr (fun d=>(V Q C.length R).ownBlock=E d) A2 W)=>
    have q0:=i.some e0 (fun e=>by have:=ai _ e;omega);have q1:=i.some e1 (fun e=>by have:=ai _ e;omega);have q2:=i.some e2 (fun e=>by have:=ai _ e;omega);have q3:=i.some e3 (fun e=>by have:=ai _ e;omega);Xc (c_ 0 q2) (Xc (c_ 0 q0) (Xc (c_ 1 q0) (Xc (c_ 0 q1) (Xc (c_ 1 q1) (Xc (c_ 0 q3) (c_ 1 q3)))))))
   have bj:=zf (fun W (i:Wr (fun d=>(V Q C.length R).ownBlock=E d) A2 W)=>(Xh (i.some e2 (fun e=>by have:=ai _ e;omega)):W.frozen? (Xd h 0 O)=false));have bs:=zf (fun W (i:Ext A2 W)=>zam W _ _ yk z K K om ((aE.keep xA).below i) (((ht.below ad).keep xA).below i) (aA.lt hE) (hz.lt hE));have bp:=zf (fun W ak (i:Ext A2 W) (hp:zy W ak (yk*z))=>zeF W _ ak xk _ K om ((aD.keep xA).below i) hp (bx.lt hE) (b2.lt aT));have bn:=zf (fun(X3 A8:H) (g8 aB:Nat) (ae:WT) (o:Obj) hx3 (P:zy X3 ae.val (xk+yk*z)) own grow an dig=>PlI.more (N:=L.length) (X3:=X3) (A8:=A8) (g8:=g8) (cap8:=aB) (u:=ae) (o:=o) bt.out aN.out bi.out xA hx3 om bI (by rw[bq.out];exact P) own grow an dig);clear aD aE e0 e1 e2 e3 bx aA b2 U;refine ZW ?_;refine zdM 12 (S:=fun W=>W.cell? (Xd h 0 O)=E (V Q C.length R)/\W.cell? (Xd A.heap.size 0 O)=E (G yb)/\W.cell? (Xd A.heap.size 1 O)=E (V ya yl yc)/\W.cell? ⟨A.heap.size+1,0,O⟩=E (G pb)/\W.cell? ⟨A.heap.size+1,1,O⟩=E (V au aw av)/\W.cell? ⟨w.heap.size+1+1,0,O⟩=E (G tb)/\W.cell? ⟨w.heap.size+1+1,1,O⟩=E (V ta tl tc)) hm (by rfl) (fun⟨a,w,a4⟩=>a4) (a7.out A2 (Xj _ _)) (h:=fun u=>?_);refine tkl [0,1,2,3,4,5] ?_;refine rcl 6 (bs.out _ (Xe A2).drew) ?_;rintro e A3 ⟨_,rfl,bK,bC⟩;have x3:=ZG bC;refine bk (a7.out _ (Xg x3)) fun u=>?_
   refine rcl 7 (bp.out _ _ x3 bK) ?_;rintro e A6 ⟨_,rfl,b3,bD⟩;have x6:=x3.trans (Xf bD);obtain⟨⟨rb,ra,rl,rc⟩,rfl⟩:=b3.shape;have x7:Ext A2 (A6.alloc (cl #[G rb,V ra rl rc] 64)):=x6.alloc _;have b0:=(G2.2.2.1.ext x7).own;rw[zm]at b0;have bF:=(G2.2.2.1.ext x7).dig;simp only[WT.val,WT.sv];refine bk (a7.out _ (Xg x6)) fun u=>?_
   refine rd1 8 fun K f=>?_;go_simp;refine f.out _ _ (a7.out _ (Xg x7)) (h:=fun u=>?_);clear f K;refine rd1 9 fun K f=>?_;refine QM _ rfl (.tmp 29) (.tmp 35) 100 rfl w.heap.size 64 i0 (ag #[G false,V_]) 2 32 underlying100 bH bO bP bQ rfl dc (V Q C.length R) C.length (C.map WT.cells).flatten rfl b0 ⟨A6.heap.size,0,O⟩ 1 1 [G rb,V ra rl rc] rfl rfl (rec_new A6 [G rb,V ra rl rc] 64) (by intro ae P;simp only[zI,zY,Zp]at P;rcases P with rfl|rfl<;>rfl) om mo om (by have h1:=x7.size;omega) (A6.heap.size+1) sp (by intro ae P;simp[Value.cells]at P;rcases P with rfl|rfl<;>(intro n e;cases e)) (by intro ae P;simp only[zI,zY,Zp]at P;rcases P with rfl|rfl<;>(intro n e;cases e)) bF ?_;intro g8 aB A8 b9 aC an bR aQ;have x8:=(Xg x7).trans (Qh aC (fun bT hg=>hg));have HF:=zf (bn.out A6 A8 g8 aB ⟨rb,ra,rl,rc⟩ _ x6 b3 b9 aC (an.imp id (fun e=>so)) aQ);have s8:=(a7.out _ x8).1;clear b9 aC an bR aQ;refine f.out _ _ (a7.out _ x8) (h:=fun u=>?_);clear f K;have f8:=bj.out _ x8;refine tkl [10,11] ?_;refine zV kr (zdB (h:=?_)) _;go_simp;exact HF.out
  case done=>
   rintro D' az A hD ⟨h1,ax,C,h2,D,h4⟩ hd;obtain⟨Q,R,rfl⟩:=D.2.2.1.shape;rw[zm]at D;have I:=qk aM D.1 (fun d j=>by rcases j with e|e<;>omega);have bS:=qk aL D.1 (fun d j=>by rcases j with e|e<;>omega);have r2:=(af.out A bS).2.2.2;have p9:=D.2.1;have aS:w1.heap[h]? =E (cl #[V_,G m,V l q p] 104):=aR;have aZ:∀d,d=h\/d=h->qK w1 d:=fun d j=>by
    have j:d=h:=by rcases j with e|e<;>exact e
    rw[j];exact zE aS n3
   have aV:QG A ⟨(Q,C.length,R),⟨m,l,q,p⟩⟩ (JQ x y z):=by
    refine⟨⟨C,?_,D.2.2.1.list,fun a3 t c b7 bE=>?_⟩,bo.out.wr D.1 aZ⟩
    ·unfold JQ;rw[jY,<-HL.out,zbG,h2];exact H1.out
    ·have h9:=h4 a3 t b7;have hi:a3<x.1.length:=by have:=jQ b7;have:=H1.out;omega
     have aF:(List.zipWith (fun bA w=>bA+w*z) x.1 y.1)[a3]? =E c:=bE;rw[List.getElem?_zipWith,zg hi,zg (show a3<y.1.length by have:=HL.out;omega)]at aF;simp only[qN]at aF;rw[<-aF];have hq:plusQ x.1 y.1 z a3=x.1[a3]+y.1[a3]'(by have:=HL.out;omega)*z:=by
      simp only[plusQ,zk,zg hi,zg (show a3<y.1.length by have:=HL.out;omega),qB]
     rw[hq]at h9;exact h9
   simp only[sl3]at p9;have k0:=c_ 0 p9;have c3:=c_ 1 p9;have c4:=c_ 2 p9;have c0:=c_ 0 r2;have c1:=c_ 1 r2;have c2:=c_ 2 r2;have f0:=Xh (j:=0) r2;have f1:=Xh (j:=1) r2;have f2:=Xh (j:=2) r2;have ar:Wr (fun d=>d=w.heap.size+1+1+1) A (((A.setCell ⟨w.heap.size+1+1+1,0,O⟩ (V Q C.length R)).setCell ⟨w.heap.size+1+1+1,1,O⟩ (G m)).setCell ⟨w.heap.size+1+1+1,2,O⟩ (V l q p)):=zce rfl _ _ _;have qZ:=qG (i:=2) (v:=V l q p) (qG (i:=1) (v:=G m) (qG (i:=0) (v:=V Q C.length R) r2));have bg:=zf (aV.wr ar (fun d j=>by rw[j];exact⟨fun ht=>absurd (ht.one ⟨_,_,r2⟩) dc,zE r2 n3⟩));have bh:=zf (Xc (c_ 0 qZ) (Xc (c_ 1 qZ) (c_ 2 qZ)));have aP:=zf (ar.some hd (fun e=>om));have bf:=zf (qk I ar (fun d j=>om));clear h1 h2 D h4 r2 p9 aV ar qZ aZ aS;gi_wp2;refine qh aP.out ?_;have ah:=zn.putObj (B:=w.heap.size) (.deferred O) om aP.out rfl;obtain⟨d0,d1,d2⟩:=bh.out;have j0:=ah.cell d0;have j1:=ah.cell d1;have j2:=ah.cell d2;exact⟨ag #[V Q C.length R,G m,V l q p],by simp[results,results171,go_sem,j0,j1,j2],⟨(Q,C.length,R),⟨m,l,q,p⟩⟩,rfl,bg.out.keep ah,ah.below bf.out (zh _) (zh _)⟩
  case stop=>exact fun _ _ _ _ _ _ a4 _=>a4.elim
theorem zeB{P:Program}{ops:Array Oper}{Q:Exit->Act->World->Prop}{id:Nat}{S:World->Prop}{a:Act}{w:World}(L:Nat)(hm:P.follows .mixedOrders=true)(hS:S w.drew)(hcl:zdt .any ops L=true:=by kernel_rfl)(h:S w.drew->wpAnyH P .any ops (zdL Fence.wide n P ops (fun e a w=>e= .normal/\Q .normal a w) L) S L (zbQ L (Array.replicate ops.size false)) a w.drew):(Code.region id ops true).wpIn Fence.wide n P Q a w:=by
 have e:=(zaU hcl).1;have e2:L+(ops.size-L)=ops.size:=by omega
 refine zbI (jX (Q:=fun e a w=>e= .normal/\Q .normal a w) hm ?_) ?_
 ·rw[<-e2]
  have:=zhk hcl L (Array.replicate ops.size false) a w.drew (by simp) (fun i o ho hl=>?_) (fun j _ hj=>by simp[Zw,hj]) (zdN ?_ _ _ _ _ (zb5 _ _ _ _ (h hS)))
  ·rw[e2]at this⊢;exact this
  ·simp[Zw,((zd.1 ho).1)]at hl
  ·rintro⟨a,w,h,-⟩;cases h
 ·rintro e a' w' ⟨rfl,h⟩;exact h
theorem zpg:(Tryz.prog.info? 260).map (fun i=>(i.zero,i.size,i.bytes))=E (E (ag #[i_ 0,G false,V_]),3,40):=kr
theorem zd4(w:H)(g:Nat)(ov:S_)(pv:Value)(d:List PT)(s:Nat)(i:s<=w.heap.size)(u:w.heap[g]? =E (cl #[sl3 ov,pv] 109))(f:Grw s 260 3 w pv (d.map PT.cells))(C:∀b,pv.ownBlock=E b->b≠g)(l:d.length<=1000)(num:Int)(t:WT)(z:Int)(r:zy w t.val z):
 C_ 103 #[p_ g 0,i_ num,t.val] w fun e w'=>(∃v,e=Xa v)/\Wr (fun b=>b=g\/pv.ownBlock=E b) w w'/\∃h,w'.heap[g]? =E (cl #[sl3 ov,h] 109)/\Grw s 260 3 w' h ((if z=0 then d else d ++ [⟨num,t⟩]).map PT.cells)/\∀b,h.ownBlock=E b->b≠g/\(pv.ownBlock=E b\/w.heap.size<=b):=by
 obtain⟨Y,Q,R,U,X⟩:=Zn zpg;obtain⟨A,hps'⟩:∃A,(if z=0 then d else d ++ [⟨num,t⟩])=A:=⟨_,rfl⟩;rw[hps'];have I:=zf hps';obtain⟨h,F,y⟩:=ov;obtain⟨o,m,q,p⟩:=t;obtain⟨i,l,rfl⟩:=f.shape;rw[zm]at *;have D:=(zd.1 u).1;have x:GrJ 260 3 109 (fun v=>#[sl3 (h,F,y),v]) PT.cells w s g ((V i d.length l).ownBlock.getD g) (V i d.length l) d (fun b=>b=g\/(V i d.length l).ownBlock=E b) w:=⟨Xj _ _,u,f,fun b h=>⟨C b h,.inl (by rw[h];rfl)⟩,fun b=>Qb⟩;have N:=zf x;obtain⟨K,F⟩:=new1 w (cl #[G o,V m q p] 64);have x:=zf f;simp only[WT.val,WT.sv,sl3]at r u⊢;refine Q0 func103 ntmps103 (h:=?_);gi_wp2;generalize World.alloc _ _=y at *;refine(zq.2 (sign_any y _ z (r.below F))).mono ?_;rintro e f ⟨rfl,r⟩;have L:=Xf r;have r:=F.trans L;by_cases y:z=0
 ·have J:z.sign=0:=by rw[y];rfl
  rw[J];have P:=zf ((r.block _ D).trans u);have M:=zf (x.out.ext r);have F:A=d:=by rw[<-I.out,zQ y]
  subst F;gi_wp2;exact⟨_,qI rfl _ _ _,⟨_,rfl⟩,Xg r,_,P.out,M.out,fun b h=>⟨C b h,.inl h⟩⟩
 ·have J:¬z.sign=0:=by rw[zap];exact y
  have F:A=d ++ [⟨num,⟨o,m,q,p⟩⟩]:=by rw[<-I.out,zO y]
  subst F;generalize z.sign=sg at *;have I:=(L.block _ (zd.1 K).1).trans K;have F:=(r.block _ D).trans u;have u:=r.size;have A:∀b,(V i d.length l).ownBlock=E b->b<w.heap.size/\b≠g:=fun b h=>⟨(x.out.type b h).1.lt,C b h⟩
  have u:=zf (fun W (y:Wr (fun b=>(V i d.length l).ownBlock=E b) f W)=>
   have C:=y.some I (fun e=>by have:=A _ e;omega);have I:=y.some F (fun e=>by have:=A _ e;omega);Xc (c_ 1 I) (Xc (c_ 0 C) (c_ 1 C)))
  have J:=zf (fun W (y:Wr (fun b=>(V i d.length l).ownBlock=E b) f W)=>(Xh (y.some F (fun e=>by have:=A _ e;omega)):W.frozen? (Xd g 1 O)=false));have y:Ext w (f.drew.alloc (cl #[i_ num,G o,V m q p] 260)):=r.drew.alloc _;have I:Ext f (f.drew.alloc (cl #[i_ num,G o,V m q p] 260)):=(Xe f).drew.alloc _;have F:=(x.out.ext y).own;rw[zm]at F;have M:=(x.out.ext y).dig;have K:=zf (fun(r:H) (C A:Nat) own grow x dig=>N.out.more (A2:=w) (A4:=f.drew.alloc (cl #[i_ num,G o,V m q p] 260)) (A5:=r) (g5:=C) (cap5:=A) (j:=1) (u:=⟨num,⟨o,m,q,p⟩⟩) (zn.refl _ _) (Xg y) D own rfl grow x dig rfl);gi_wp2;refine zeB 12 (S:=fun W=>W.cell? (Xd g 1 O)=E (V i d.length l)/\W.cell? (y_ w 0)=E (G o)/\W.cell? (y_ w 1)=E (V m q p)) hm (u.out f (Xj _ _)) (h:=fun D=>?_);refine tkl [0,1,2,3,4,5,6,7] ?_;refine rd1 8 fun L g=>?_;go_simp;refine g.out _ _ (u.out _ (Xg I)) (h:=fun D=>?_);refine rd1 9 fun L g=>?_;refine QM _ rfl (.tmp 13) (.tmp 17) 107 rfl s 260 Y (ag #[i_ 0,G false,V_]) 3 40 underlying107 Q R U X rfl dc (V i d.length l) d.length (d.map PT.cells).flatten rfl F (y_ f 0) 1 1 [i_ num,G o,V m q p] rfl rfl (rec_new f.drew [i_ num,G o,V m q p] 260) r3 om mo om so (f.heap.size+1) sp (by intro m m;simp[Value.cells]at m;rcases m with rfl|rfl|rfl<;>(intro n e;cases e)) n4 M ?_;intro C A r q o x m p;have m:=(Xg I).trans (Qh o (fun d d=>d));have d:=zf (K.out r C A q o (x.imp id (fun e=>so)) p);have f:=(u.out _ m).1;refine g.out _ _ (u.out _ m) (h:=fun D=>?_);have f:=J.out _ m;refine tkl [10,11] ?_;refine zV kr (zdB (h:=?_)) _;go_simp;gi_wp2;obtain⟨g,_,⟨_,i,l,f,m⟩,o⟩:=d.out;refine⟨_,qI rfl _ _ _,⟨_,rfl⟩,(Xg y).trans g,_,i,l,fun b h=>⟨(f b h).1,?_⟩⟩;rcases o b ((m b).2 (.inr h))with d|d
  ·rcases d with d|d
   ·exact absurd d (f b h).1
   ·exact .inl d
  ·exact .inr d
structure RowsM (w:H)(v:Value)(rows:List qO)(rts:List NT):Prop where
 len:rts.length=rows.length
 list:ZS w 106 v 4 (rts.map NT.cells)
 row:∀(i:Nat) (t:NT) (r:qO),rts[i]? =E t->rows[i]? =E r->zaP w t r
def jh (a:S_)(vars given:Int)(rv:Value)(c:CT)(cv:Value):W_:=#[sl3 a,i_ vars,i_ given,rv,sl3 c.a,sl3 c.o,sl3 c.p,sl3 c.e,cv]
def FbR (rts:List NT)(rows:List qO)(res:Option qO)(e:Ending):Prop:=
 match res with
 |none=>∃t:NT,e=Xa (tp #[t.val,G false])
 |some r=>∃(i:Nat) (t:NT),rts[i]? =E t/\rows[i]? =E r/\e=Xa (tp #[t.val,G true])
def FbB (b x:Nat):Prop:=x=b\/x=b+1
def FbI (w1:H)(b:Nat)(k:Cor)(rows:List qO)(j:Nat)(M:Nat->Prop)(A:H):Prop:=
 Wr (FbB b) w1 A/\(∀(i:Nat) (r:qO),i<j->rows[i]? =E r->0<=Z2 k r.1)/\(∀x,M x↔FbB b x)/\A.heap[b]? =E (cl #[V_,G false,V_,i_ 0] 106)/\A.heap[b+1]? =E (cl #[G false] 4)
def FbX (w:H)(b:Nat)(k:Cor)(rts:List NT)(rows:List qO)(c:Code)(j:Nat)(A:H):Prop:=
 c= .ret/\(∀(i:Nat) (r:qO),i<j->rows[i]? =E r->0<=Z2 k r.1)/\(∃(t:NT) (r:qO),rts[j]? =E t/\rows[j]? =E r/\Z2 k r.1<0/\A.heap[b]? =E (cl #[t.fv,G t.t.b,t.t.sv,i_ t.num] 106))/\A.heap[b+1]? =E (cl #[G true] 4)/\b_ w A
theorem zr1{k:Cor}{rows:List qO}(h:∀(i:Nat) (r:qO),i<rows.length->rows[i]? =E r->0<=Z2 k r.1):Qv k rows=O:=by
 unfold Qv;rw[zeP];intro r d;obtain⟨i,b,rfl⟩:=qM d;have:=h i _ b (zg b);simp only[Z9];omega
theorem fb_at{k:Cor}:∀{rows:List qO} {j:Nat} {r:qO},(∀(i:Nat) (r:qO),i<j->rows[i]? =E r->0<=Z2 k r.1)->rows[j]? =E r->Z2 k r.1<0->Qv k rows=E r
 |[],j,r,_,h,_=>by simp at h
 |x::rows,0,r,_,h,b=>by
  have:x=r:=by simpa using h
  subst this;unfold Qv;rw[List.find?_cons_of_pos (by simpa using b)]
 |x::rows,j+1,r,d,h,b=>by
  have e:=d 0 x om rfl;unfold Qv;rw[List.find?_cons_of_neg (by simp only[Z9];omega)];exact fb_at (j:=j) (fun i r e e=>d (i+1) r om (by simpa using e)) (by simpa using h) b
theorem zjB{D K:Nat}(f:jN D K)(w:H)(gs:Nat)(a:S_)(l given:Int)(rv cv:Value)(c:CT)(j:w.heap[gs]? =E (cl (jh a l given rv c cv) 123))(aims:L_)(k:Cor)(ets:List ET)(i:JF w aims c k ets)(d:Fit D n aims k)(rows:List qO)(rts:List NT)(b:RowsM w rv rows rts)(m:rows.length<=1000)(h:∀r∈rows,r.1.1.length=n/\Jm D r.1):
 C_ 95 #[p_ gs 0] w fun e w'=>FbR rts rows (Qv k rows) e/\b_ w w':=by
 obtain⟨a2,hres⟩:∃a2,Qv k rows=a2:=⟨_,rfl⟩;rw[hres];have a6:=zf hres;clear hres;have s:=b.len;have x:=zf b;have y:=zf (fun(W:H) (R:Ext w W) (u:Nat) (t:NT) (r:qO) (l:rts[u]? =E t) (X:rows[u]? =E r)=>
  have v:=h r (zx X);have h:=(b.row u t r l X).ext R;zl0 K (by have:=f.k;omega) W c t k.over k.point r.1.1 r.1.2 (i.ext R).over (i.ext R).point h.1 h.2.1 (by rw[v.1,d.plen]) (by rw[v.1];exact d.n4) v.2.1 d.pointD v.2.2 d.overD f.one f.one f.two)
 obtain⟨f,h,rfl⟩:=b.list.shape;rw[zm]at *;obtain⟨_,_,_⟩:=a;obtain⟨⟨aa,al,ac⟩,⟨oa,ol,oc⟩,⟨pa,pl,pc⟩,⟨ab,el,ec⟩⟩:=c;simp only[CT.val,sl3,jh]at *;have z:=(zd.1 j).1;obtain⟨l,m,o,q⟩:=zax w (cl #[p_ gs 0] 97) (cl #[V_,G false,V_,i_ 0] 106) (cl #[G false] 4);have d:=(q.block _ z).trans j;have j:rts.length<=1000:=om;have a5:=zf s;clear i b s;refine Q0 func95 ntmps95 (h:=?_);have z:=c_ 3 d;gi_wp2;generalize World.alloc _ _=i at *;refine(zq.2 (zgZ f rts.length h i)).mono ?_;rintro e Y ⟨rfl,j⟩;have b:Ext i Y:=by rw[j];exact(Xe i).alloc _
 have C:Y.cell? (y_ i 0)=E (V f rts.length h):=by rw[j];exact c_ 0 (zC _ _)
 have a0:=q.trans b;have q:=(zd.1 o).1;have N:=(b.block _ (zd.1 l).1).trans l;have F:=(b.block _ (zd.1 m).1).trans m;have I:=(b.block _ q).trans o;have Q:=(b.block _ (zd.1 d).1).trans d;have q:=b.size;have s:∀Z,FbB (w.heap.size+1) Z->w.heap.size+1<=Z/\Z<i.heap.size:=by rintro Z (rfl|rfl)<;>omega
 clear j l m o d z;gi_wp2;refine ZT (zgj rts f h i.heap.size om) rfl (qW func163 kr rfl) (fun k m W=>by rintro⟨t,_,rfl⟩;rfl)
  (FbI Y (w.heap.size+1) k rows) (FbX w (w.heap.size+1) k rts rows) (FbB (w.heap.size+1)) ?hI ?hIx ?hC ?h0 ?round ?done ?stop
 case hI=>
  rintro o U A B ⟨f,j,l,b,h⟩ d;exact⟨f.keep d,j,l,d.block _ _ b (.inr rfl),d.block _ _ h (.inr rfl)⟩
 case hIx=>
  rintro c o A B ⟨f,j,⟨t,r,l,b,h,P⟩,h7,h8⟩ d;exact⟨f,j,⟨t,r,l,b,h,d.block _ _ P (.inr rfl)⟩,d.block _ _ h7 (.inr rfl),d.below h8 a0.size (zh _)⟩
 case hC=>
  rintro o U A ⟨f,j,l,b,h⟩;refine⟨⟨f.cell (p:=(y_ i 0)) (fun e=>by have:=s _ e;simp at this) C,(x.out.list.ext (qk a0 f (fun d i=>by have:=s d i;omega))).recs⟩,fun d i=>?_⟩;have:=s d ((l d).1 i);have:=f.size;omega
 case h0=>exact⟨Xj _ _,(fun u r hi=>om),fun Z=>Qb,F,I⟩
 case round=>
  rintro q o m U A m ⟨t,q,rfl⟩ ⟨f,j,l,b,h⟩;have x:o<rows.length:=by have:=a5.out;omega
  have m:=zg x;have x:=qk a0 f (fun d i=>by have:=s d i;omega);have a3:=zf (fun W (R:Ext w W)=>y.out W R o t _ q m);generalize rows[o]=x at *;obtain⟨z,hz⟩:∃z,x.1.2*(k.over:Int)-T.dotZ x.1.1 k.point=z:=⟨_,rfl⟩;rw[hz]at a3;have HZ:Hid (Z2 k x.1=z):=hz;have a4:=zf (Xc q m);have H2:=zf j;have H3:=zf l;obtain⟨⟨fa,C,y⟩,⟨J,⟨I,M,L⟩⟩,F⟩:=t;simp only[NT.val,NT.fv,WT.sv]at a3⊢;clear q m hz j l;unfold Zz;gi_wp2;refine⟨Xg ((Xe A).alloc _),fun x q=>?_⟩;have m:=(zn.alloc Y.heap.size A (cl #[V fa C y,G J,V I M L,i_ F] 106)).trans q;have e0:=q.block _ _ (zC A (cl #[V fa C y,G J,V I M L,i_ F] 106)) (.inr rfl);have g0:=m.block _ _ (f.some N (fun e=>by have:=s _ e;omega)) (.inr rfl);have a1:=m.block _ _ (f.some Q (fun e=>by have:=s _ e;omega)) (.inr rfl);have g4:=m.block _ _ b (.inr rfl);have g5:=m.block _ _ h (.inr rfl);have a7:=f.keep m;have a8:=qk a0 a7 (fun d i=>by have:=s d i;omega);have Q:=zf (fun W (m:Ext x W)=>
   have q0:=(m.block _ (zd.1 g0).1).trans g0;have q:=(m.block _ (zd.1 a1).1).trans a1;have N:=(m.block _ (zd.1 e0).1).trans e0;Xc (c_ 0 q0) (Xc (Xc (c_ 4 q) (Xc (c_ 5 q) (Xc (c_ 6 q) (c_ 7 q)))) (Xc (c_ 0 N) (Xc (c_ 1 N) (Xc (c_ 2 N) (c_ 3 N))))))
  have a9:=zf (fun W (m:Ext x W)=>Xc ((m.block _ (zd.1 g4).1).trans g4) ((m.block _ (zd.1 g5).1).trans g5));clear e0 g0 a1 g4 g5 f b h;refine ZW (zcE ?_);refine jK (S:=fun W=>W.cell? (y_ w 0)=E (p_ gs 0)/\(W.cell? (Xd gs 4 O)=E (V aa al ac)/\W.cell? (Xd gs 5 O)=E (V oa ol oc)/\W.cell? (Xd gs 6 O)=E (V pa pl pc)/\W.cell? (Xd gs 7 O)=E (V ab el ec))/\W.cell? (y_ A 0)=E (V fa C y)/\W.cell? (y_ A 1)=E (G J)/\W.cell? (y_ A 2)=E (V I M L)/\W.cell? (y_ A 3)=E (i_ F)) hm (by rfl) (fun⟨a,w,N⟩=>N) (Q.out x (Xe _)) (fun a1=>?_);refine tkl [0,1,2,3,4] ?_;refine rcl 5 (a3.out _ a8.drew) ?_;rintro e m ⟨⟨_,_,_,_⟩,rfl,q,a3⟩;have W:=ZG a3;simp only[WT.val,WT.sv]at q⊢;refine bk (Q.out _ W) fun a1=>?_
  refine rcl 6 (sign_any m _ z q) ?_;rintro e m ⟨rfl,q⟩;have x4:=W.trans (Xf q);refine bk (Q.out _ x4) fun a1=>?_
  obtain⟨q,W⟩:=a9.out m x4;by_cases a3:z<0
  ·have a9:z.sign<0:=by rw[Qi a3];decide
   have qZ:=qG (i:=3) (v:=i_ F) (qG (i:=2) (v:=V I M L) (qG (i:=1) (v:=G J) (qG (i:=0) (v:=V fa C y) q)));have Q:Wr (FbB (w.heap.size+1)) m (((((m.setCell (x_ w 0) (V fa C y)).setCell (x_ w 1) (G J)).setCell (x_ w 2) (V I M L)).setCell (x_ w 3) (i_ F)).setCell (w_ w 0) (G true)):=(((((Xj (FbB (w.heap.size+1)) m).trans (zv (.inl rfl) _)).trans (zv (.inl rfl) _)).trans (zv (.inl rfl) _)).trans (zv (.inl rfl) _)).trans (zv (.inr rfl) _);have HR:Hid (ZL U (FbI Y (w.heap.size+1) k rows) (FbX w (w.heap.size+1) k rts rows) o A x .ret { tmps:=#[],defers:= [] } (((((m.setCell (x_ w 0) (V fa C y)).setCell (x_ w 1) (G J)).setCell (x_ w 2) (V I M L)).setCell (x_ w 3) (i_ F)).setCell (w_ w 0) (G true))):=by
    refine⟨((Xg x4).trans Q).mono (fun d i=>(H3.out d).2 i),rfl,H2.out,⟨_,_,a4.out.1,a4.out.2,by rw[HZ.out];exact a3,set_other qZ om⟩,qG (set_other (set_other (set_other (set_other W om) om) om) om),?_⟩;exact qk (a8.trans x4) Q (fun d i=>by have:=s d i;omega)
   have b0:=c_ 0 q;have b1:=c_ 1 q;have b2:=c_ 2 q;have b3:=c_ 3 q;have b4:=c_ 0 W;have f0:=Xh (j:=0) q;have f1:=Xh (j:=1) q;have f2:=Xh (j:=2) q;have f3:=Xh (j:=3) q;have f4:=Xh (j:=0) W;generalize z.sign=sg at *;refine tkv 7 ?_;refine zV kr ?_ _;obtain⟨-,-,d0,d1,d2,d3⟩:=a1;clear qZ Q q W;gi_wp2;exact HR.out
  ·have a9:¬z.sign<0:=by
    rcases zad z 0 with N|N|N
    ·exact absurd N a3
    ·rw[N];decide
    ·rw[Qs N];decide
   have HR:Hid (ZL U (FbI Y (w.heap.size+1) k rows) (FbX w (w.heap.size+1) k rts rows) o A x .normal { tmps:=#[],defers:= [] } m):=by
    refine⟨Xg x4,U,⟨a7.trans (Xg x4),fun u r hi X=>?_,H3.out,q,W⟩,fun Z R=> .inl R⟩;by_cases m:u<o
    ·exact H2.out u r m X
    ·obtain rfl:u=o:=om;rw[a4.out.2]at X;cases X;rw[HZ.out];omega
   generalize z.sign=sg at *;refine tkv 7 ?_;refine zV kr ?_ _;clear a1 q W;gi_wp2;exact HR.out
 case done=>
  rintro z U A U ⟨f,j,l,b,h⟩ v;have q:a2=O:=by rw[<-a6.out];exact zr1 (fun u r hi m=>j u r (by have:=a5.out;omega) m)
  subst q;have b0:=c_ 0 b;have b1:=c_ 1 b;have b2:=c_ 2 b;have b3:=c_ 3 b;have b4:=c_ 0 h;have f0:=Xh (j:=0) b;have f1:=Xh (j:=1) b;have f2:=Xh (j:=2) b;have f3:=Xh (j:=3) b;have f4:=Xh (j:=0) h;have qZ:=qG (i:=3) (v:=i_ 0) (qG (i:=2) (v:=V_) (qG (i:=1) (v:=G false) (qG (i:=0) (v:=V_) b)));have m:=set_other (g:=w.heap.size+1+1) (i:=0) (v:=G false) qZ om;have x:=qG (i:=0) (v:=G false) (set_other (g:=w.heap.size+1) (i:=3) (v:=i_ 0) (set_other (g:=w.heap.size+1) (i:=2) (v:=V_) (set_other (g:=w.heap.size+1) (i:=1) (v:=G false) (set_other (g:=w.heap.size+1) (i:=0) (v:=V_) h om) om) om) om);have Q:Wr (FbB (w.heap.size+1)) A (((((A.setCell (x_ w 0) (V_)).setCell (x_ w 1) (G false)).setCell (x_ w 2) (V_)).setCell (x_ w 3) (i_ 0)).setCell (w_ w 0) (G false)):=(((((Xj (FbB (w.heap.size+1)) A).trans (zv (.inl rfl) _)).trans (zv (.inl rfl) _)).trans (zv (.inl rfl) _)).trans (zv (.inl rfl) _)).trans (zv (.inr rfl) _);have R:=zf (Xc (c_ 0 m) (Xc (c_ 1 m) (Xc (c_ 2 m) (Xc (c_ 3 m) (c_ 0 x)))));have u:=zf (Q.some v (fun e=>by have:=s _ e;omega));have N:=zf (qk (qk a0 f (fun d i=>by have:=s d i;omega)) Q (fun d i=>by have:=s d i;omega));clear f j l b h qZ m x Q;gi_wp2;refine qh u.out ?_;have d:=zn.putObj (B:=w.heap.size) (.deferred O) om u.out rfl;obtain⟨d0,d1,d2,d3,x⟩:=R.out;have f:=d.cell d0;have i:=d.cell d1;have m:=d.cell d2;have s:=d.cell d3;have u:=d.cell x;exact⟨tp #[ag #[V_,G false,V_,i_ 0],G false],by simp[results,results95,go_sem,f,i,m,s,u],⟨⟨(O,0,0),⟨false,O,0,0⟩,0⟩,rfl⟩,d.below N.out (zh _) (zh _)⟩
 case stop=>
  rintro z c o A U x ⟨rfl,j,⟨t,r,l,b,h,P⟩,h7,h8⟩ v;have q:a2=E r:=by rw[<-a6.out];exact fb_at j b h
  subst q;obtain⟨⟨fa,C,y⟩,⟨J,⟨I,M,L⟩⟩,F⟩:=t;simp only[NT.fv,WT.sv]at P;have q:=zf (Xc l b);clear j l b h;gi_wp2;refine qh v ?_;have d:=zn.putObj (B:=w.heap.size) (.deferred O) om v rfl;have f:=d.cell (c_ 0 P);have i:=d.cell (c_ 1 P);have m:=d.cell (c_ 2 P);have s:=d.cell (c_ 3 P);have u:=d.cell (c_ 0 h7);exact⟨tp #[ag #[V fa C y,G J,V I M L,i_ F],G true],by simp[results,results95,go_sem,f,i,m,s,u],⟨o,_,q.out.1,q.out.2,rfl⟩,d.below h8 (zh _) (zh _)⟩
end

section
open Go.RowKit
variable {aims:L_}{ets:List ET}{k:Cor}{l:Zy}{t:LT}{w w':H}
theorem zmO(w:H)(g:Nat)(b:W_)(zs:L_)(h:zdT w g b zs)(i:zs.length<=100000):
 C_ 89 #[.func (.func g) #[] b] w fun e w'=>∃f:S_,e=Xa (ag #[sl3 f])/\Zo w' (sl3 f) zs/\b_ w w':=by
 obtain⟨m,o⟩:=new1 w (cl #[V_] 111);have d:=zf (zky _ g b zs (h.ext o) i);clear h;go_enter func89,ntmps89
 go_wp2_with fail
 generalize World.alloc _ _=b at *;refine d.out.mono ?_;rintro e l ⟨⟨fa,j,i⟩,rfl,q,u,p⟩;have r:=Xf p;have d:=(r.block _ (zd.1 m).1).trans m;have b:=c_ 0 d;have b:=Xh (j:=0) d;have m:Wr (fun b=>b=w.heap.size) l (l.setCell (y_ w 0) (V fa j i)):=zv (U:=fun b=>b=w.heap.size) rfl _;have t:=zf (q.wr m (fun b l=>by rw[l];exact⟨fun s=>absurd (s.one ⟨_,_,d⟩) dc,zE d n1⟩));have s:=zf (qk (o.trans r) m (fun b l=>om));have b:=c_ 0 (zfz (v:=V fa j i) d);have d:=zf b;clear q u p m b;go_wp2;exact zH (v:=ag #[V fa j i]) (by simp[results,results89,go_sem,d.out]) rfl ⟨(fa,j,i),rfl,t.out,s.out⟩
theorem zph(w:H)(gs:Nat)(a:S_)(h given:Int)(rv:Value)(c:CT)(f:A_)(b g:Nat)(d:w.heap[gs]? =E (cl (jh a h given rv c (V f b g)) 123)):
 C_ 49 #[p_ gs 0] w fun e w'=>e=Xa (ag #[i_ 3,V_,gS ⟨#[]⟩,i_ (b:Nat),gS ⟨#[]⟩])/\b_ w w':=by
 obtain⟨_,_,_⟩:=a;obtain⟨⟨_,_,ac⟩,⟨_,_,_⟩,⟨_,_,_⟩,⟨_,_,_⟩⟩:=c;simp only[jh,sl3]at d;have h:=(zd.1 d).1;have h:(w.alloc (cl #[i_ 0,V_,gS ⟨#[]⟩,i_ 0,gS ⟨#[]⟩] 35)).cell? (Xd gs 8 O)=E (V f b g):=((Xe w).alloc _).cell (c_ 8 d);go_enter func49,ntmps49
 go_wp2;have q:=zC w (cl #[i_ 3,V_,gS ⟨#[]⟩,i_ (b:Nat),gS ⟨#[]⟩] 35);have d:=c_ 0 q;have f:=c_ 1 q;have g:=c_ 2 q;have h:=c_ 3 q;have i:=c_ 4 q;exact zH (v:=ag #[i_ 3,V_,gS ⟨#[]⟩,i_ (b:Nat),gS ⟨#[]⟩]) (by simp[results,results49,go_sem,d,f,g,h,i]) rfl ⟨rfl,(Xe w).alloc _⟩
theorem znZ(w:H)(g gs:Nat)(hb:w.cell? (Xd g 0 O)=E (p_ gs 0))(a:S_)(f given:Int)(rv cv:Value)(c:CT)(m:w.heap[gs]? =E (cl (jh a f given rv c cv) 123))(ets:List ET)(b:ZS w 194 (sl3 c.e) 5 (ets.map ET.cells))(d:ets.length<=1000)(t:NT):
 C_ 185 #[t.val,p_ g 0] w fun e w'=>e=Xa (G (decide (given<t.num) && !(ets.any fun x=>decide (x.n.num=t.num))))/\b_ w w':=by
 have o:=zf (fun W (f:Ext w W)=>zmJ W c ets (b.ext f) d t.num);obtain⟨_,_,_⟩:=a;obtain⟨⟨p,q,ac⟩,⟨z,C,A⟩,⟨D,I,F⟩,⟨r,u,s⟩⟩:=c;obtain⟨⟨fa,j,i⟩,⟨J,⟨l,L,K⟩⟩,b⟩:=t;simp only[CT.val,sl3,jh,NT.val,NT.fv,WT.sv]at *;have y:=(zd.1 m).1;obtain⟨d,f⟩:=new1 w (cl #[V fa j i,G J,V l L K,i_ b] 106);generalize (ets.any fun x=>decide (x.n.num=b))=K at *;go_enter func185,ntmps185
 go_wp2_with fail
 generalize World.alloc _ _=j at *;have l:=zf (fun W (i:Ext j W)=>
  have J:=(i.block _ (zd.1 d).1).trans d;have d:=((f.trans i).block _ y).trans m;Xc (c_ 3 J) (Xc ((f.trans i).cell hb) (Xc (c_ 2 d) (Xc (c_ 4 d) (Xc (c_ 5 d) (Xc (c_ 6 d) (c_ 7 d)))))))
 refine ZO (S:=fun W=>W.cell? (y_ w 3)=E (i_ b)/\W.cell? (Xd g 0 O)=E (p_ gs 0)/\W.cell? (Xd gs 2 O)=E (i_ given)/\W.cell? (Xd gs 4 O)=E (V p q ac)/\W.cell? (Xd gs 5 O)=E (V z C A)/\W.cell? (Xd gs 6 O)=E (V D I F)/\W.cell? (Xd gs 7 O)=E (V r u s)) kr (l.out j (Xe _)) (fun m=>?_);by_cases p:given<b
 ·refine tkv 0 ?_;refine tkl [1,2,3,4,5,6,7,8,9,10,11,12,13] ?_;refine rcl 14 (o.out _ f.drew) ?_;rintro e d ⟨rfl,i⟩;have g:=ZG i;have i:=zf (f.trans g);refine bk (l.out d g) fun m=>?_
  refine tkl [15,16,17] ?_;refine zV kr ?_ _;go_wp2;exact zH (v:=G (!K)) (by simp[results,results185,go_sem]) rfl ⟨by simp[p],i.out⟩
 ·refine tkv 0 ?_;refine tkl [1,2,3,4,5,6,7,8,9,10,11,12,13,14,15,16,17] ?_;refine zV kr ?_ _;go_wp2;exact zH (v:=G false) (by simp[results,results185,go_sem]) rfl ⟨by rw[J2 (show ¬given<b by omega),Bool.false_and],f.drew⟩
def lgP (given:Int)(ets:List ET)(t:NT):Bool:=decide (given<t.num) && !(ets.any fun x=>decide (x.n.num=t.num))
structure LgM (w:H)(bs gs:Nat)(a:S_)(vars given:Int)(rv cv:Value)(c:CT)(ets:List ET):Prop where
 box:w.cell? (Xd bs 0 O)=E (p_ gs 0)
 sr:w.heap[gs]? =E (cl (jh a vars given rv c cv) 123)
 edges:ZS w 194 (sl3 c.e) 5 (ets.map ET.cells)
 few:ets.length<=1000
theorem LgM.ext{d gs:Nat}{a:S_}{e given:Int}{rv cv:Value}{c:CT}(h:LgM w d gs a e given rv cv c ets)(b:Ext w w'):LgM w' d gs a e given rv cv c ets:=
 ⟨b.cell h.box,(b.block _ (zd.1 h.sr).1).trans h.sr,h.edges.ext b,h.few⟩
theorem LgM.call{b gs:Nat}{a:S_}{d given:Int}{rv cv:Value}{c:CT}(h:LgM w b gs a d given rv cv c ets)(t:NT):C_ 185 #[t.val,p_ b 0] w fun e w'=>e=Xa (G (lgP given ets t))/\b_ w w':=
 znZ w b gs h.box a d given rv cv c h.sr ets h.edges h.few t
theorem zle(w:H)(d gs:Nat)(a:S_)(h given:Int)(g cv:Value)(c:CT)(ets:List ET)(f:LgM w d gs a h given g cv c ets)(rv:Value)(rts:List NT)(b:ZS w 106 rv 4 (rts.map NT.cells))(l:rts.length<=1000):
 C_ 236 #[rv,.func (.func 185) #[] #[p_ d 0]] w fun e w'=>(((∃(i:Nat) (t:NT),e=Xa (i_ (i:Nat))/\rts[i]? =E t/\lgP given ets t=true/\∀(j:Nat) (s:NT),j<i->rts[j]? =E s->lgP given ets s=false))\/(e=Xa (i_ (-1))/\∀(j:Nat) (s:NT),rts[j]? =E s->lgP given ets s=false))/\b_ w w':=by
 have l:=zf f;have m:=zf b.recs;obtain⟨p,_,rfl⟩:=b.shape;rw[zm]at *;clear f b;go_enter func236,ntmps236
 go_wp2;go_loopw [8] (fun b wr=>∃(i:Nat),i<=rts.length/\b=i_ (i:Nat)/\Hid (∀(j:Nat) (s:NT),j<i->rts[j]? =E s->lgP given ets s=false)/\Ext w wr) (fun b _=>((rts.length:Int)-intOf b).toNat)
 case atStart=>exact⟨0,om,rfl,fun j s x=>om,Xe _⟩
 case round=>
  obtain⟨i,_,rfl,f,b⟩:=hrel;by_cases g:i<rts.length
  ·have h:=zg g;obtain⟨q,off,d,_,o⟩:=m.out.at (by intro e;rw[QB]at e;rw[e]at g;simp at g);obtain⟨rfl⟩:p=E (Xd q off O):=by first|exact d|(simp only[qp]at d;exact d.1)
   have d:=o i _ (by rw[zR,h];rfl);have g:=zf ((l.out.ext b).call rts[i]);have l:=zf h;generalize rts[i]=t at *;obtain⟨⟨fa,v,u⟩,⟨A,⟨z,D,C⟩⟩,y⟩:=t;have m:=b.cell (d 0 _ rfl);have p:=b.cell (d 1 _ rfl);have q:=b.cell (d 2 _ rfl);have r:=b.cell (d 3 _ rfl);rw[qV]at m;simp only[NT.fv,WT.sv,NT.val]at m p q r g;clear d o h;go_wp2_with fail
   refine g.out.mono ?_;rintro e d ⟨rfl,d⟩;have g:=b.trans (Xf d);cases hp:lgP given ets ⟨(fa,v,u),⟨A,z,D,C⟩,y⟩with
   |true=>
    go_wp2;go_ret;exact⟨.inl ⟨i,_,rfl,l.out,hp,f.out⟩,g⟩
   |false=>
    go_wp2;go_roundw
    case rel=>
     refine⟨i+1,om,by go_num,fun j s x d=>?_,g⟩;by_cases g:j<i
     ·exact f.out j s g d
     ·obtain rfl:j=i:=om;rw[l.out]at d;cases d;exact hp
    case measure=>simp[intOf];omega
  ·obtain rfl:i=rts.length:=om;go_wp2;go_ret;exact⟨.inr ⟨rfl,fun j s d=>f.out j s (zo.1 d).1 d⟩,b⟩
def za7 (w:H)(t:LT)(l:Zy):Prop:=
 NatV w t.ov l.over/\∃ps:List PT,ps.length=l.parts.length/\ZS w 260 t.pv 3 (ps.map PT.cells)/\∀(i:Nat) (p:PT) (q:Nat×Int),ps[i]? =E p->l.parts[i]? =E q->p.num=(q.1:Int)/\zy w p.t.val q.2
theorem za7.keep{B:Nat}(h:za7 w t l)(b:zn B w w'):za7 w' t l:=by
 obtain⟨e,i,f,g,d⟩:=h;exact⟨e.keep b,i,f,g.keep b,fun i p q e f=>⟨(d i p q e f).1,(d i p q e f).2.keep b⟩⟩
theorem za7.ext(h:za7 w t l)(b:Ext w w'):za7 w' t l:=h.keep (B:=0) (zn.of_below b)
theorem za7.wr{U:Nat->Prop}(h:za7 w t l)(e:Wr U w w')(d:∀k,U k->¬qQ w k 260/\qK w k):za7 w' t l:=by
 obtain⟨b,j,g,i,f⟩:=h;exact⟨b.wr e (fun k b=>(d k b).2),j,g,i.wr e (fun k b=>(d k b).1),fun j p q g i=>⟨(f j p q g i).1,(f j p q g i).2.wr e (fun k b=>(d k b).2)⟩⟩
structure JG where
 n:NT
 l:LT
 c:CT
def JG.cells (t:JG):W_:=#[t.n.fv,G t.n.t.b,t.n.t.sv,i_ t.n.num,t.l.ov,t.l.pv,sl3 t.c.a,sl3 t.c.o,sl3 t.c.p,sl3 t.c.e]
def JG.val (t:JG):Value:=ag t.cells
structure zcH (w:H)(aims:L_)(t:JG)(r:qO)(l:Zy)(k:Cor)(ets:List ET):Prop where
 row:zaP w t.n r
 line:za7 w t.l l
 cor:JF w aims t.c k ets
theorem zcH.keep{B:Nat}{t:JG}{r:qO}(h:zcH w aims t r l k ets)(b:zn B w w'):zcH w' aims t r l k ets:=⟨h.row.keep b,h.line.keep b,h.cor.keep b⟩
theorem zcH.ext{t:JG}{r:qO}(h:zcH w aims t r l k ets)(b:Ext w w'):zcH w' aims t r l k ets:=h.keep (B:=0) (zn.of_below b)
def Off (w:H)(k:Nat):Prop:=((¬qQ w k 64/\qK w k)/\¬qQ w k 194)/\¬qQ w k 260
theorem zcH.wr{U:Nat->Prop}{t:JG}{r:qO}{k:Cor}(h:zcH w aims t r l k ets)(e:Wr U w w')(d:∀k,U k->Off w k):zcH w' aims t r l k ets:=
 ⟨h.row.wr e (fun k b=>(d k b).1.1),h.line.wr e (fun k b=>⟨(d k b).2,(d k b).1.1.2⟩),h.cor.wr e (fun k b=>(d k b).1)⟩
structure SrM (w:H)(B gs n given:Nat)(aims:L_)(a:S_)(c:CT)(rv cv:Value)(k:Cor)(ets:List ET)(rows:List qO)(rts:List NT)(ls:List Zy)(lts:List LT):Prop where
 box:w.heap[gs]? =E (cl (jh a n given rv c cv) 123)
 old:B<=gs
 ord:Zo w (sl3 a) aims
 cor:JF w aims c k ets
 rlen:rts.length=rows.length
 rgrw:Grw B 106 4 w rv (rts.map NT.cells)
 row:∀(i:Nat) (t:NT) (r:qO),rts[i]? =E t->rows[i]? =E r->zaP w t r
 llen:lts.length=ls.length
 lgrw:Grw B 109 2 w cv (lts.map LT.cells)
 line:∀(i:Nat) (t:LT) (l:Zy),lts[i]? =E t->ls[i]? =E l->za7 w t l
section

variable {w w':World} {B gs n given:Nat} {aims:L_} {a:S_} {c:CT} {rv cv:Value} {k:Cor} {ets:List ET} {rows:List qO} {rts:List NT} {ls:List Zy} {lts:List LT}
theorem SrM.keep {C:Nat}(h:SrM w B gs n given aims a c rv cv k ets rows rts ls lts)(b:zn C w w'):SrM w' B gs n given aims a c rv cv k ets rows rts ls lts:=
 ⟨b.block _ _ h.box (.inr rfl),h.old,h.ord.keep b,h.cor.keep b,h.rlen,h.rgrw.keep b,fun i t r d e=>(h.row i t r d e).keep b,h.llen,h.lgrw.keep b,fun i t l d e=>(h.line i t l d e).keep b⟩
theorem SrM.ext (h:SrM w B gs n given aims a c rv cv k ets rows rts ls lts)(b:Ext w w'):SrM w' B gs n given aims a c rv cv k ets rows rts ls lts:=h.keep (C:=0) (zn.of_below b)
theorem SrM.rowsM (h:SrM w B gs n given aims a c rv cv k ets rows rts ls lts):RowsM w rv rows rts:=⟨h.rlen,h.rgrw.list,h.row⟩
theorem SrM.gsT (h:SrM w B gs n given aims a c rv cv k ets rows rts ls lts):qQ w gs 123:=⟨_,_,h.box⟩
theorem zpi {a:S_}{n given:Int}{rv cv:Value}{c:CT}(e:ZM rv)(d:ZM cv):∀x∈(jh a n given rv c cv).toList,ZM x:=by
 intro x b;simp[jh,sl3]at b;rcases b with rfl|rfl|rfl|rfl|rfl|rfl|rfl|rfl|rfl
 all_goals first|exact e|exact d|(intro m e;cases e)
theorem zb0 {B:Nat}{t:TypeId}{size:Nat}{w:H}{v:Value}{b:List (List Value)}(h:Grw B t size w v b):ZM v:=by
 obtain⟨_,_,rfl⟩:=h.shape;intro m e;cases e
theorem SrM.off (h:SrM w B gs n given aims a c rv cv k ets rows rts ls lts):∀b,b=gs->Off w b:=fun b d=>by
 rw[d];have d:=h.gsT;exact⟨⟨⟨fun e=>absurd (e.one d) dc,zE h.box (zpi (zb0 h.rgrw) (zb0 h.lgrw))⟩,fun e=>absurd (e.one d) dc⟩,fun e=>absurd (e.one d) dc⟩
theorem SrM.rvOff (h:SrM w B gs n given aims a c rv cv k ets rows rts ls lts):∀b,rv.ownBlock=E b->Off w b:=fun b f=>by
 have d:=(h.rgrw.type b f).1;exact⟨⟨⟨fun e=>absurd (e.one d) dc,h.rgrw.dig b f⟩,fun e=>absurd (e.one d) dc⟩,fun e=>absurd (e.one d) dc⟩
theorem SrM.cvOff (h:SrM w B gs n given aims a c rv cv k ets rows rts ls lts):∀b,cv.ownBlock=E b->Off w b:=fun b f=>by
 have d:=(h.lgrw.type b f).1;exact⟨⟨⟨fun e=>absurd (e.one d) dc,h.lgrw.dig b f⟩,fun e=>absurd (e.one d) dc⟩,fun e=>absurd (e.one d) dc⟩
theorem SrM.rvgs (h:SrM w B gs n given aims a c rv cv k ets rows rts ls lts):∀b,rv.ownBlock=E b->b≠gs/\cv.ownBlock≠E b:=fun b e=>by
 have d:=(h.rgrw.type b e).1;exact⟨fun e=>absurd (d.one (by rw[e];exact h.gsT)) dc,fun e=>absurd (d.one (h.lgrw.type b e).1) dc⟩
theorem SrM.cvgs (h:SrM w B gs n given aims a c rv cv k ets rows rts ls lts):∀b,cv.ownBlock=E b->b≠gs/\rv.ownBlock≠E b:=fun b e=>by
 have d:=(h.lgrw.type b e).1;exact⟨fun e=>absurd (d.one (by rw[e];exact h.gsT)) dc,fun e=>absurd (d.one (h.rgrw.type b e).1) dc⟩
end

end

section
open Go.RowKit
variable {L rts:List NT}{i j:Nat}{p:NT->Bool}{t:NT}
theorem LgM.wr{U:Nat->Prop}{w w':H}{d gs:Nat}{a:S_}{e given:Int}{rv cv:Value}{c:CT}{ets:List ET}(h:LgM w d gs a e given rv cv c ets)(g:Wr U w w')(f:∀b,U b->b≠d/\b≠gs/\¬qQ w b 194):LgM w' d gs a e given rv cv c ets:=
 ⟨g.cell (p:=(Xd d 0 O)) (fun e=>(f _ e).1 rfl) h.box,g.some h.sr (fun e=>(f _ e).2.1 rfl),h.edges.wr g (fun b d=>(f b d).2.2),h.few⟩
theorem zr2(t:NT):∀v∈t.cells,ZM v:=by
 obtain⟨⟨fa,_,_⟩,⟨_,⟨_,_,_⟩⟩,_⟩:=t;intro v b;simp[NT.cells,NT.fv,WT.sv]at b;rcases b with rfl|rfl|rfl|rfl<;>(intro m e;cases e)
theorem zr3{B:Nat}{w:H}{g n cap:Nat}(h:Grw B 106 4 w (V (E (Xd g 0 O)) n cap) (L.map NT.cells))(hi:i<L.length)(t:NT):
 Grw B 106 4 ((((w.setCell ⟨g,i*4,O⟩ t.fv).setCell ⟨g,i*4+1,O⟩ (G t.t.b)).setCell ⟨g,i*4+2,O⟩ t.t.sv).setCell ⟨g,i*4+3,O⟩ (i_ t.num)) (V (E (Xd g 0 O)) n cap) ((L.set i t).map NT.cells):=by
 have b:=zr2 t;have e:(L.map NT.cells)[i]? =E (NT.cells L[i]):=by rw[zR,zg hi];rfl
 have f:i<(L.map NT.cells).length:=by simpa using hi
 have get:∀(x:List Value) (l:List (List Value)),i<l.length->(l.set i x)[i]? =E x:=fun x l d=>by rw[jZ d]
 have d:=h.put dc e (j:=0) dc (v:=t.fv) (b _ (by simp[NT.cells]));have e:=d.put dc (get _ _ f) (j:=1) dc (v:=G t.t.b) (b _ (by simp[NT.cells]));have d:=e.put dc (get _ _ (by simpa using hi)) (j:=2) dc (v:=t.t.sv) (b _ (by simp[NT.cells]));have f:=d.put dc (get _ _ (by simpa using hi)) (j:=3) dc (v:=i_ t.num) (b _ (by simp[NT.cells]));have e:(L.set i t).map NT.cells=((((L.map NT.cells).set i ((NT.cells L[i]).set 0 t.fv)).set i (((NT.cells L[i]).set 0 t.fv).set 1 (G t.t.b))).set i ((((NT.cells L[i]).set 0 t.fv).set 1 (G t.t.b)).set 2 t.t.sv)).set i (((((NT.cells L[i]).set 0 t.fv).set 1 (G t.t.b)).set 2 t.t.sv).set 3 (i_ t.num)):=by
  rw[List.map_set,List.set_set,List.set_set,List.set_set];rfl
 rw[e];exact f
def DelI (rts L:List NT)(p:NT->Bool)(i j:Nat):Prop:=L.length=rts.length/\L.take i=(rts.take j).filter p/\L.drop j=rts.drop j
theorem zpj(d:rts[i]? =E t)(b:p t=false)(h:∀(j:Nat) (s:NT),j<i->rts[j]? =E s->p s=true):DelI rts rts p i (i+1):=by
 refine⟨rfl,?_,rfl⟩;rw[ZB,d,je];simp only[zcI,Qz,b,za3,zaK,List.filter_nil,ZR];symm
 rw[List.filter_eq_self];intro s d;obtain⟨j,b,rfl⟩:=qM d;rw[zX]at b;exact h j _ om (by rw[List.getElem_take];exact zg _)
theorem del_at(h:DelI rts L p i j)(d:j<rts.length):L[j]? =E rts[j]:=by
 have b:=qm (fun l=>l[0]?) h.2.2;simp only[Jo,qV]at b;rw[b];exact zg d
theorem zrb(h:DelI rts L p i j)(d:rts[j]? =E t)(b:p t=false):DelI rts L p i (j+1):=by
 refine⟨h.1,?_,?_⟩
 ·rw[h.2.1,ZB,d,je];simp[Qz,b]
 ·rw[<-Jn,h.2.2,Jn]
theorem zrc(h:DelI rts L p i j)(d:i<j)(b:rts[j]? =E t)(e:p t=true):DelI rts (L.set i t) p (i+1) (j+1):=by
 have d:=jQ b;have d:i<L.length:=by rw[h.1];omega
 refine⟨by rw[qX,h.1],?_,?_⟩
 ·rw[ZB,zd8 (zh _),jZ d,h.2.1,ZB,b,je];simp[Qz,e]
 ·rw[List.drop_set_of_lt om,<-Jn,h.2.2,Jn]
theorem zr4(h:DelI rts L p i rts.length):L.take i=rts.filter p:=by
 rw[h.2.1,Zx]
