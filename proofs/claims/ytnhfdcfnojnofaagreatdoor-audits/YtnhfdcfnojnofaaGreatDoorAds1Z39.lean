import Derived.Test.YtnhfdcfnojnofaaGreatDoorAds1Z37
open Option renaming none->O,some->E
open Go.Value renaming slice->V,bool->G,tuple->tp,agg->ag
open Go.Obj renaming cells->cl
open Go renaming World->H
open Go.Proofs.Tryz renaming prog->pg
open Go.Proofs.Tryz
set_option linter.unusedSimpArgs false
set_option linter.unusedVariables false
set_option maxHeartbeats 4000000
set_option maxRecDepth 100000
namespace Go.Proofs.YtnhfdcfnojnofaaGreatDoor
open Go.RowKit
attribute [local go_sem] qm qW ZR
theorem zjw:(Tryz.prog.info? 103).map (fun i=>(i.zero,i.size,i.bytes))=E (E (ag #[G false,V O 0 0,V O 0 0]),3,56):=kr
theorem zfU {B:Nat}{t tb:TypeId}{size gb j:Nat}{A A4:H}{v:Value}{css:List (List Value)}{cs:List Value}{bc:Array Value}{g cap:Nat}{fr:Nat×Nat}{o:Obj}(hG:Grw B t size A v css)(hc:cs.length=size)(ho:A4.ownsRow B t size (V (E ⟨g,0,O⟩) (css.length+1) cap) (css.length+1) (css.flatten++cs))(hd:qU A4 g)(hg:(A.alloc o).grownBy A4 v.ownBlock)(hb:A.heap[gb]? =E (cl bc tb fr))(hB:gb<B)(hat:v.ownBlock=E g\/g=(A.alloc o).heap.size):
 Wr (fun b=>b=gb\/v.ownBlock=E b) A (A4.setCell ⟨gb,j,O⟩ (V (E ⟨g,0,O⟩) (css.length+1) cap))/\
 (A4.setCell ⟨gb,j,O⟩ (V (E ⟨g,0,O⟩) (css.length+1) cap)).heap[gb]? =E (cl (bc.setIfInBounds j (V (E ⟨g,0,O⟩) (css.length+1) cap)) tb fr)/\
 Grw B t size (A4.setCell ⟨gb,j,O⟩ (V (E ⟨g,0,O⟩) (css.length+1) cap)) (V (E ⟨g,0,O⟩) (css.length+1) cap) (css ++ [cs])/\
 (∀k,k=gb\/(V (E ⟨g,0,O⟩) (css.length+1) cap).ownBlock=E k->(k=gb\/v.ownBlock=E k)\/A.heap.size<=k):=by
 have hlt:=(zf.1 hb).1;have e4:=(hg.block gb so (fun e=>by have:=(hG.type gb e.symm).2;omega)).trans ((zI _ _ _ hlt).trans hb);have hgB:=(ho.lt g rfl).1;refine⟨?_,?_,?_,?_⟩;·exact((Wr.of_below ((Ext.refl A).alloc o)).trans (zbt hg (fun k hk=>Or.inr hk))).trans (qS (Or.inl rfl) _)
 ·exact T.zev e4
 ·refine(hG.ext ((Ext.refl A).alloc o)).more hc ho hd |>.same sp (fun k hk=>?_)
  have e:g=k:=by simpa[Value.ownBlock]using hk
  exact zK _ _ _ _ so
 ·rintro k (rfl|hk);·exact .inl (.inl rfl)
  ·have e:g=k:=by simpa[Value.ownBlock]using hk
   subst e;rcases hat with h|h
   ·exact .inl (.inr h)
   ·exact .inr (by rw[h];simp)
def BlI (w1:H)(g7:Nat)(n:Nat)(m:T.Tri)(q:Nat->Int×Nat)(k:Nat)(M:Nat->Prop)(A:H):Prop:=
 Wr (fun b=>b=g7) w1 A/\k<=n/\(∃(v:Value) (us:List T.Tri) (fr:Nat×Nat),us.length=k/\A.heap[g7]? =E (cl #[G m.b,m.up,m.down,v] 365 fr)/\A.frozen? ⟨g7,3,O⟩=false/\Grw w1.heap.size 103 3 A v (us.map T.Tri.cells)/\(∀(i:Nat) (u:T.Tri),us[i]? =E u->qP A u.val (q i).1 (q i).2)/\∀b,M b↔b=g7\/v.ownBlock=E b)
theorem BlI.keep {d A B:H}{c n:Nat}{m:T.Tri}{q:Nat->Int×Nat}{k:Nat}{M:Nat->Prop}(h:BlI d c n m q k M A)(b:zw d.heap.size A B):BlI d c n m q k M B:=by
 obtain⟨g,i,v,s,f,j,d,l,o,p,r⟩:=h;have e:=b.block _ _ d (.inr rfl);exact⟨g.keep b,i,v,s,f,j,e,(zt (w:=A) (a:=⟨c,3,O⟩) (e.trans d.symm)).trans l,o.keep b,fun i u c=>(p i u c).keep b,r⟩
theorem zdZ.open {w:H}{b:Option Addr}{d c:Nat}{a:List (Int×Nat)}(h:zdZ w (V b d c) a):∃ts:List T.Tri,d=ts.length/\ts.length=a.length/\Qk w 103 (V b ts.length c) 3 (ts.map T.Tri.cells)/\∀(i:Nat) (t:T.Tri) (q:Int×Nat),ts[i]? =E t->a[i]? =E q->qP w t.val q.1 q.2:=by
 obtain⟨ts,b,a,c⟩:=h;obtain⟨_,_,e⟩:=a.shape;rw[zo]at e;simp only[zV]at e;obtain⟨rfl,rfl,rfl⟩:=e;exact⟨ts,rfl,b,a,c⟩
theorem ziE (K:Nat)(i:K+K+1<=1073741800)(w:H)(b:BT)(r:RW)(z:T.Tri)(o:List (Int×Nat)×(Int×Nat))(x:List Int×Int)(m:Int×Nat)(f:JU w b o)(hr:QC w r x)(hz:qP w z.val m.1 m.2)(hl:o.1.length=x.1.length)(hn:o.1.length<=100000)
 (ba:(∀a∈o.1,a.1.natAbs<4294967296^K/\a.2<4294967296^K)/\o.2.1.natAbs<4294967296^K/\o.2.2<4294967296^K) (bx:(∀g∈x.1,g.natAbs<4294967296^K/\(m.1*g).natAbs<4294967296^K)/\x.2.natAbs<4294967296^K/\(m.1*x.2).natAbs<4294967296^K) (bf:m.1.natAbs<4294967296^K/\m.2<4294967296^K):
 Calls pg 337 #[b.val,r.val,z.val] w fun e w'=>∃b':BT,e= .returned b'.val/\JU w' b' (List.zipWith (fun a g=>jh a (Z5 (g,1) m)) o.1 x.1,jh o.2 (Z5 (x.2,1) m))/\Below w.heap.size w w':=by
 obtain⟨i0,bB,bM,bN,bO⟩:=qL zjw;obtain⟨⟨mb,⟨ma,ml,mc⟩,⟨na,nl,nc⟩⟩,fa,_,fc⟩:=b;obtain⟨aW,aX⟩:=f;obtain⟨h,rfl,v,h2,h3⟩:=aW.open;obtain⟨ga,gc,⟨wb,wa,wl,wc⟩,ss,rfl,aT,aE,aU,bd⟩:=hr.open;obtain⟨Z,⟨Y,zl,zc⟩,⟨Q,X,R⟩⟩:=z;have aN:ss.length=h.length:=om;rw[aN]at aE⊢;simp only[BT.val,BT.fv,RW.val,RW.fv,WT.sv,WT.val,T.Tri.val,T.Tri.up,T.Tri.down]at aX bd hz h2⊢;have H1:=zi v;have H2:=zi h2;have H3:=zi h3;have bT:=zi aT;have aP:=zi aE;have bm:=zi aU;have bu:=zi aN;have c5:h.length<=100000:=om;have aB:=zi ba;have aC:=zi bx;have aQ:=zi bf;have aS:Hid (∀W ax a5 p0 q0 n0,Ext w W->qP W ax p0 q0->zY W a5 n0->p0.natAbs<4294967296^K->q0<4294967296^K->n0.natAbs<4294967296^K->(m.1*n0).natAbs<4294967296^K->Calls pg 375 #[ax,a5,ag #[G Z,V Y zl zc,V Q X R]] W fun e w'=>∃L:T.Tri,e= .returned L.val/\qP w' L.val (jh (p0,q0) (Z5 (n0,1) m)).1 (jh (p0,q0) (Z5 (n0,1) m)).2/\Below W.heap.size W w'):=by
  intro W ax a5 p0 q0 n0 p hp hn b1 b2 b3 b4;refine(ziz K i W ax a5 _ p0 n0 m.1 q0 m.2 hp hn (hz.below p) b1 b2 b3 aQ.out.1 aQ.out.2 b4).mono ?_;rintro e w' ⟨L,rfl,ht,f⟩;obtain⟨L,rfl,-⟩:=ht.shape;exact⟨L,rfl,ht,f⟩
 clear v h2 h3 aT aE aU aN ba bx bf aW hr;have ar:Ext w ((((w.alloc (cl #[G mb,V ma ml mc,V na nl nc,V fa h.length fc] 365)).alloc (cl #[V ga h.length gc,G wb,V wa wl wc] 174)).alloc (cl #[G Z,V Y zl zc,V Q X R] 103)).alloc (cl #[G false,V O 0 0,V O 0 0,V O 0 0] 365)):=((((Ext.refl w).alloc _).alloc _).alloc _).alloc _;have ai:((((w.alloc (cl #[G mb,V ma ml mc,V na nl nc,V fa h.length fc] 365)).alloc (cl #[V ga h.length gc,G wb,V wa wl wc] 174)).alloc (cl #[G Z,V Y zl zc,V Q X R] 103)).alloc (cl #[G false,V O 0 0,V O 0 0,V O 0 0] 365)).heap[w.heap.size]? =E (cl #[G mb,V ma ml mc,V na nl nc,V fa h.length fc] 365):=(zI _ _ _ sd).trans ((zI _ _ _ sd).trans (T.zbs w _ _).1);have ap:((((w.alloc (cl #[G mb,V ma ml mc,V na nl nc,V fa h.length fc] 365)).alloc (cl #[V ga h.length gc,G wb,V wa wl wc] 174)).alloc (cl #[G Z,V Y zl zc,V Q X R] 103)).alloc (cl #[G false,V O 0 0,V O 0 0,V O 0 0] 365)).heap[w.heap.size+1]? =E (cl #[V ga h.length gc,G wb,V wa wl wc] 174):=(zI _ _ _ sd).trans ((zI _ _ _ sd).trans (T.zbs w _ _).2);have aG:((((w.alloc (cl #[G mb,V ma ml mc,V na nl nc,V fa h.length fc] 365)).alloc (cl #[V ga h.length gc,G wb,V wa wl wc] 174)).alloc (cl #[G Z,V Y zl zc,V Q X R] 103)).alloc (cl #[G false,V O 0 0,V O 0 0,V O 0 0] 365)).heap[w.heap.size+1+1]? =E (cl #[G Z,V Y zl zc,V Q X R] 103):=by
  have:=(T.zbs ((w.alloc (cl #[G mb,V ma ml mc,V na nl nc,V fa h.length fc] 365)).alloc (cl #[V ga h.length gc,G wb,V wa wl wc] 174)) (cl #[G Z,V Y zl zc,V Q X R] 103) (cl #[G false,V O 0 0,V O 0 0,V O 0 0] 365)).1;simpa using this
 have aF:((((w.alloc (cl #[G mb,V ma ml mc,V na nl nc,V fa h.length fc] 365)).alloc (cl #[V ga h.length gc,G wb,V wa wl wc] 174)).alloc (cl #[G Z,V Y zl zc,V Q X R] 103)).alloc (cl #[G false,V O 0 0,V O 0 0,V O 0 0] 365)).heap[w.heap.size+1+1+1]? =E (cl #[G false,V O 0 0,V O 0 0,V O 0 0] 365):=by
  have:=(T.zbs ((w.alloc (cl #[G mb,V ma ml mc,V na nl nc,V fa h.length fc] 365)).alloc (cl #[V ga h.length gc,G wb,V wa wl wc] 174)) (cl #[G Z,V Y zl zc,V Q X R] 103) (cl #[G false,V O 0 0,V O 0 0,V O 0 0] 365)).2;simpa using this
 refine JO func337 ntmps337 (h:=?_);gi_wp2;generalize ((((w.alloc (cl #[G mb,V ma ml mc,V na nl nc,V fa h.length fc] 365)).alloc (cl #[V ga h.length gc,G wb,V wa wl wc] 174)).alloc (cl #[G Z,V Y zl zc,V Q X R] 103)).alloc (cl #[G false,V O 0 0,V O 0 0,V O 0 0] 365))=w0 at *;have bn:=zi (fun W (p:Ext w0 W)=>And.intro (p.cell (c_ 0 ai)) (And.intro (p.cell (c_ 1 ai)) (And.intro (p.cell (c_ 2 ai)) (p.cell (c_ 3 ai)))));have bt:=zi (fun W (p:Ext w0 W)=>And.intro (p.cell (c_ 0 ap)) (And.intro (p.cell (c_ 1 ap)) (p.cell (c_ 2 ap))));have bv:=zi (fun W (p:Ext w0 W)=>(p.block _ (zf.1 aG).1).trans aG);have aD:=zi (fun W (p:Ext w0 W)=>(p.block _ (zf.1 aF).1).trans aF);clear ai ap aG aF;refine(zS.2 (aS.out w0 _ _ o.2.1 o.2.2 x.2 ar (aX.below ar) (bd.below ar) aB.out.2.1 aB.out.2.2 aC.out.2.1 aC.out.2.2)).mono ?_;rintro e wA ⟨⟨F,⟨D,J,I⟩,⟨y,C,B⟩⟩,rfl,hv,aV⟩;simp only[T.Tri.val,T.Tri.up,T.Tri.down]at hv⊢;have xA:=Ext.of aV;obtain⟨b0,b1,b2,b3⟩:=bn.out _ (xA.alloc (cl #[G F,V D J I,V y C B,V O 0 0] 365));obtain⟨r0,r1,r2⟩:=bt.out _ (xA.alloc (cl #[G F,V D J I,V y C B,V O 0 0] 365));gi_wp2;have aj:=zq wA (cl #[G F,V D J I,V y C B,V O 0 0] 365);have xB:Ext w0 (wA.alloc (cl #[G F,V D J I,V y C B,V O 0 0] 365)):=xA.alloc _;have bi:=hv.below ((Ext.refl wA).alloc (cl #[G F,V D J I,V y C B,V O 0 0] 365));generalize bL:wA.alloc (cl #[G F,V D J I,V y C B,V O 0 0] 365)=wB at *;obtain⟨d,hg7⟩:∃d,wA.heap.size=d:=⟨_,rfl⟩;rw[hg7]at aj⊢;have bX:w.heap.size+1+1+1<d:=by
  have v:=(zf.1 (aD.out w0 (Ext.refl _))).1;have h2:=xA.size;omega
 clear bL aV hg7 xA hv;refine(zS.2 (zjZ fa ga h.length fc h.length gc wB)).mono ?_;rintro e t ⟨rfl,av⟩;have x1:Ext wB t:=by rw[av];exact((Ext.refl wB).alloc _).alloc _
 have k1:t.cell? ⟨wB.heap.size,0,O⟩=E (V fa h.length fc):=by rw[av];exact c_ 0 (T.zbs _ _ _).1
 have k2:t.cell? ⟨wB.heap.size+1,0,O⟩=E (V ga h.length gc):=by rw[av];exact c_ 0 (T.zbs _ _ _).2
 clear av;have aA:=xB.trans x1;have a2:=ar.trans aA;have af:=(x1.block _ (zf.1 aj).1).trans aj;have bA:=(zf.1 af).1;have bW:=(zf.1 aj).1;have br:=zi (bi.below x1);have aK:∀b,b=d->qU t b:=fun b f=>by rw[f];exact qj af (by intro a6 q;simp at q;rcases q with rfl|rfl|rfl|rfl<;>(intro a5 e;cases e))
 clear aj b0 b1 b2 b3 r0 r1 r2 bi;gi_wp2;refine jB (zjn h ss bu.out.symm fa ga fc gc wB.heap.size (wB.heap.size+1) om) rfl (ZJ func385 kr rfl) (fun P az W=>by rintro⟨L,_,_,_,rfl⟩;rfl)
  (BlI t d h.length ⟨F,(D,J,I),(y,C,B)⟩ (fun s=>jh (o.1.getD s (0,1)) (Z5 (x.1.getD s 0,1) m))) (fun _ _ _=>False) (fun b=>b=d) ?hI ?hIx ?hC ?h0 ?round ?done ?stop
 case hI=>exact fun P ak A bS a0 hk=>a0.keep hk
 case hIx=>exact fun _ _ _ _ a0 _=>a0
 case hC=>
  rintro P ak A ⟨v,h2,az,c,fr,h3,N,h5,h6,h7,h8⟩;refine⟨⟨v.cell (p:=⟨wB.heap.size,0,O⟩) so k1,v.cell (p:=⟨wB.heap.size+1,0,O⟩) so k2,((H2.out.ext a2).wr2 v (fun g hg e=>by have:=H2.out.lt g hg;omega)).recs,((aP.out.ext a2).wr2 v (fun g hg e=>by have:=aP.out.lt g hg;omega)).recs⟩,fun b f=>?_⟩;rcases(h8 b).1 f with rfl|f
  ·exact(zf.1 N).1
  ·exact(h6.type b f).1.lt
 case h0=>exact⟨Wr.refl _ _,qp _,V O 0 0,[],(0,0),rfl,af,T.ZX af,Grw.nil _ _ _ _,(fun s a6 a0=>by simp at a0),fun b=>by simp[Value.ownBlock]⟩
 case round=>
  rintro l2 P az ak A bE ⟨t0,s0,bJ,bI,rfl⟩ ⟨v,h2,az,c,fr,h3,N,h5,h6,h7,h8⟩;have bF:P<o.1.length:=by have:=H1.out;omega
  have bG:P<x.1.length:=om;have aL:o.1[P]? =E (o.1.getD P (0,1)):=by rw[zk,zj bF];rfl
  have aM:x.1[P]? =E (x.1.getD P 0):=by rw[zk,zj bG];rfl
  have ao:=((H3.out P t0 _ bJ aL).below a2).wr v aK;have aq:=((bm.out P s0 _ bI aM).below a2).wr v aK;have ba:=aB.out.1 _ (qJ aL);have bx:=aC.out.1 _ (qJ aM);obtain⟨⟨p0,q0⟩,hpq⟩:∃pq,o.1.getD P (0,1)=pq:=⟨_,rfl⟩;obtain⟨z0,hz0⟩:∃z0,x.1.getD P 0=z0:=⟨_,rfl⟩;rw[hpq]at ao ba;rw[hz0]at aq bx;have bs:=zi hpq;have bw:=zi hz0;clear aL aM hpq hz0;obtain⟨eb,⟨aa,el,ec⟩,⟨da,dl,a9⟩⟩:=t0;obtain⟨pb,pa,pl,pc⟩:=s0;obtain⟨k,l,rfl⟩:=h6.shape;rw[zo]at N h6 h8;have ah:=zi h3;have c6:c.length<=100000:=om;simp only[WT.val,WT.sv,T.Tri.val,T.Tri.up,T.Tri.down]at ao aq N⊢;clear h3;unfold Qr;gi_wp2;refine⟨Wr.of_below (((Ext.refl A).alloc _).alloc _),fun n aJ=>?_⟩;have xA:=((zw.alloc t.heap.size A (cl #[G eb,V aa el ec,V da dl a9] 103)).trans (zw.alloc t.heap.size _ (cl #[G pb,V pa pl pc] 101))).trans aJ;have e0:=aJ.block _ _ (T.zbs A (cl #[G eb,V aa el ec,V da dl a9] 103) (cl #[G pb,V pa pl pc] 101)).1 (.inr rfl);have e1:=aJ.block _ _ (T.zbs A (cl #[G eb,V aa el ec,V da dl a9] 103) (cl #[G pb,V pa pl pc] 101)).2 (.inr rfl);have e2:=xA.block _ _ N (.inr rfl);have bV:=(zf.1 N).1;have aI:=(zf.1 e2).1;have G2:=h6.keep xA;have a1:=v.keep xA;have et:=a1.some (bv.out t aA) (fun e=>by have:w.heap.size+1+1=d:=e;omega);have c4:w.heap.size+1+1<t.heap.size:=om;have ae:∀b,(V k c.length l).ownBlock=E b->t.heap.size<=b/\b<A.heap.size:=fun b f=>⟨(h6.type b f).2,(h6.type b f).1.lt⟩
  have a3:Hid (∀W,Wr (fun b=>b=d\/(V k c.length l).ownBlock=E b) n W->W.cell? ⟨A.heap.size,0,O⟩=E (G eb)/\W.cell? ⟨A.heap.size,1,O⟩=E (V aa el ec)/\W.cell? ⟨A.heap.size,2,O⟩=E (V da dl a9)/\W.cell? ⟨A.heap.size+1,0,O⟩=E (G pb)/\W.cell? ⟨A.heap.size+1,1,O⟩=E (V pa pl pc)/\W.cell? ⟨w.heap.size+1+1,0,O⟩=E (G Z)/\W.cell? ⟨w.heap.size+1+1,1,O⟩=E (V Y zl zc)/\W.cell? ⟨w.heap.size+1+1,2,O⟩=E (V Q X R)):=by
   intro W p;have n0:¬(A.heap.size=d\/(V k c.length l).ownBlock=E A.heap.size):=by
    rintro(e|e);·omega
    ·have:=(ae _ e).2;omega
   have af:¬(A.heap.size+1=d\/(V k c.length l).ownBlock=E (A.heap.size+1)):=by
    rintro(e|e);·omega
    ·have:=(ae _ e).2;omega
   have n2:¬(w.heap.size+1+1=d\/(V k c.length l).ownBlock=E (w.heap.size+1+1)):=by
    rintro(e|e);·omega
    ·have:=(ae _ e).1;omega
   have f0:=p.some e0 n0;have f1:=p.some e1 af;have f2:=p.some et n2;exact⟨c_ 0 f0,c_ 1 f0,c_ 2 f0,c_ 0 f1,c_ 1 f1,c_ 0 f2,c_ 1 f2,c_ 2 f2⟩
  have ay:n.cell? ⟨d,3,O⟩=E (V k c.length l):=c_ 3 e2;have bk:=(zt (w:=A) (a:=⟨d,3,O⟩) (e2.trans N.symm)).trans h5;have bY:=a1.size;have bR:=ZA a2 (a1.below (B:=w.heap.size) a2.size (fun b f=>om));have aR:Hid (Calls pg 375 #[ag #[G eb,V aa el ec,V da dl a9],ag #[G pb,V pa pl pc],ag #[G Z,V Y zl zc,V Q X R]] n.drew fun e w'=>∃L:T.Tri,e= .returned L.val/\qP w' L.val (jh (p0,q0) (Z5 (z0,1) m)).1 (jh (p0,q0) (Z5 (z0,1) m)).2/\Below n.drew.heap.size n.drew w'):=
   aS.out n.drew _ _ p0 q0 z0 (Ext.drew bR) (ao.keep (xA.trans (zw.drew _ _))) (aq.keep (xA.trans (zw.drew _ _))) ba.1 ba.2 bx.1 bx.2
  have bq:Hid (∀(u:H) (L:T.Tri) (g5 a7:Nat) (A5:H),Ext n u->qP u L.val (jh (p0,q0) (Z5 (z0,1) m)).1 (jh (p0,q0) (Z5 (z0,1) m)).2->A5.ownsRow t.heap.size 103 3 (V (E ⟨g5,0,O⟩) (c.length+1) a7) (c.length+1) ((c.map T.Tri.cells).flatten++L.cells)->qU A5 g5->(u.alloc (cl #[G L.b,L.up,L.down] 103)).grownBy A5 (V k c.length l).ownBlock->((V k c.length l).ownBlock=E g5\/g5=u.heap.size+1)->Qs ak (BlI t d h.length ⟨F,(D,J,I),(y,C,B)⟩ (fun s=>jh (o.1.getD s (0,1)) (Z5 (x.1.getD s 0,1) m))) (fun _ _ _=>False) P A n .normal { tmps:=#[],defers:= [] } (A5.setCell ⟨d,3,O⟩ (V (E ⟨g5,0,O⟩) (c.length+1) a7))):=by
   intro u L g5 a7 A5 M ht aw an ab al;have e3:=(M.block d aI).trans e2;have bQ:A5.ownsRow t.heap.size 103 3 (V (E ⟨g5,0,O⟩) ((c.map T.Tri.cells).length+1) a7) ((c.map T.Tri.cells).length+1) ((c.map T.Tri.cells).flatten++L.cells):=by rw[zo];exact aw
   obtain⟨q1,q2,q3,q4⟩:=zfU (j:=3) (G2.ext M) rfl bQ an ab e3 bA (by simpa using al);rw[zo]at q1 q2 q3 q4;have a8:=(Wr.of_below (T:=fun b=>b=d\/(V k c.length l).ownBlock=E b) M).trans q1;have be:∀b,b=d\/(V k c.length l).ownBlock=E b->qU n b:=by
    rintro b (rfl|f);·exact qj e2 (by intro a6 q;simp at q;rcases q with rfl|rfl|rfl|rfl<;>(intro a5 e;cases e))
    ·exact G2.dig b f
   have bH:=fun b f=>(be b f).keep (B:=0) (zw.of_below M)
   refine⟨a8.mono (fun b f=>(h8 b).2 f),fun b=>b=d\/(V (E ⟨g5,0,O⟩) (c.length+1) a7).ownBlock=E b,⟨?_,bE,_,c ++ [L],fr,by rw[zX,qF,ah.out],q2,?_,by rw[ZN];exact q3,fun s a6 q=>?_,fun b=>Ql⟩,fun b f=>?_⟩
   ·exact⟨a8.os.trans a1.os,a8.tape.trans a1.tape,a8.output.trans a1.output,zL a1.size a8.size,fun b f bg=>(a8.block b (zv f a1.size) (fun e=>by
     rcases e with e|e
     ·exact bg e
     ·have:=(ae b e).1;omega)).trans (a1.block b f bg)⟩
   ·have f5:=(zt (w:=u) (a:=⟨d,3,O⟩) (show A5.heap[d]? =u.heap[d]? from(ab.block d (by have:=M.size;simp;omega) (fun e=>by have:=(ae _ e.symm).1;omega)).trans (zI _ _ _ (by have:=M.size;omega))));have f3:=zt (w:=n) (a:=⟨d,3,O⟩) (M.block d aI);simpa using (f5.trans f3).trans bk
   ·by_cases bD:s<c.length
    ·rw[zM bD]at q;exact((h7 s a6 q).keep xA).wr a8 be
    ·have bc:s=c.length:=by
      have:=(zn.1 q).1;simp at this;omega
     rw[bc,zJ (zh _),Zy]at q;have e5:=qV q;subst e5;have bC:=bc.trans ah.out;show qP _ _ (jh (o.1.getD s (0,1)) (Z5 (x.1.getD s 0,1) m)).1 (jh (o.1.getD s (0,1)) (Z5 (x.1.getD s 0,1) m)).2
     rw[bC,bs.out,bw.out];exact ht.wr q1 bH
   ·rcases q4 b f with a0|a0
    ·exact .inl ((h8 b).2 a0)
    ·exact .inr (zL xA.size (zL M.size a0))
  obtain⟨b0,b1,b2,b3,b4,b5,b6,b7⟩:=a3.out n (Wr.refl _ _);clear e0 e1 e2 et v N h5 h6 h7 h8 ao aq ba bx a1 ae;refine zaK ?_;refine zan (S:=fun W=>W.cell? ⟨A.heap.size,0,O⟩=E (G eb)/\W.cell? ⟨A.heap.size,1,O⟩=E (V aa el ec)/\W.cell? ⟨A.heap.size,2,O⟩=E (V da dl a9)/\W.cell? ⟨A.heap.size+1,0,O⟩=E (G pb)/\W.cell? ⟨A.heap.size+1,1,O⟩=E (V pa pl pc)/\W.cell? ⟨w.heap.size+1+1,0,O⟩=E (G Z)/\W.cell? ⟨w.heap.size+1+1,1,O⟩=E (V Y zl zc)/\W.cell? ⟨w.heap.size+1+1,2,O⟩=E (V Q X R)) kr (by rfl) (fun⟨a,w,a0⟩=>a0) ⟨b0,b1,b2,b3,b4,b5,b6,b7⟩ (fun a4=>?_);refine tkv 0 (h:=?_);refine tkv 2 (h:=?_);refine tkv 3 (h:=?_);refine tkv 4 (h:=?_);refine rd2 1 5 (h:=fun K i=>?_) (h1:=fun K i=>?_);go_simp;refine i.out _ _ am (h:=fun a4=>?_);clear i K;refine rd1 5 (h:=fun K i=>?_);go_simp;go_at_call 375
  refine aR.out.mono ?_;rintro e u ⟨⟨qb,⟨qa,ql,qc⟩,⟨ra,rl,rc⟩⟩,rfl,bh,aH⟩;have M:=jG aH;have s3:=M.cell ay;have x4:Ext n (u.alloc (cl #[G qb,V qa ql qc,V ra rl rc] 103)):=M.alloc _;have s4:=x4.cell ay;have G4:=G2.ext x4;have au:=G4.own;rw[zo]at au;have aZ:=G4.dig;simp only[T.Tri.val,T.Tri.up,T.Tri.down];go_wp2_with fail
  refine i.out _ _ (by exact a3.out _ (Wr.of_below M)) (h:=fun a4=>?_);clear i K;refine rd1 6 (h:=fun K i=>?_);rotate_left;go_simp;go_at_call 375
  refine aR.out.mono ?_;rintro e u ⟨⟨qb,⟨qa,ql,qc⟩,⟨ra,rl,rc⟩⟩,rfl,bh,aH⟩;have M:=jG aH;have s3:=M.cell ay;have x4:Ext n (u.alloc (cl #[G qb,V qa ql qc,V ra rl rc] 103)):=M.alloc _;have s4:=x4.cell ay;have G4:=G2.ext x4;have au:=G4.own;rw[zo]at au;have aZ:=G4.dig;simp only[T.Tri.val,T.Tri.up,T.Tri.down];go_wp2_with fail
  refine i.out _ _ (by exact a3.out _ (Wr.of_below M)) (h:=fun a4=>?_);clear i K;refine rd2 1 6 (h:=fun K i=>?_) (h1:=fun K i=>?_);go_simp;refine i.out _ _ (by exact a3.out _ (Wr.of_below M)) (h:=fun a4=>?_);clear i K;refine rd1 6 (h:=fun K i=>?_);rotate_left;go_simp;refine i.out _ _ (by exact a3.out _ (Wr.of_below x4)) (h:=fun a4=>?_);clear i K;refine rd1 1 (h:=fun K i=>?_);rotate_left;all_goals
   go_simp;refine i.out _ _ (by exact a3.out _ (Wr.of_below x4)) (h:=fun a4=>?_);clear i K;refine rd1 7 (h:=fun K i=>?_);refine zbz _ rfl (.tmp 26) (.tmp 31) 363 rfl t.heap.size 103 i0 (ag #[G false,V O 0 0,V O 0 0]) 3 56 underlying363 bB bM bN bO rfl dc (V k c.length l) c.length (c.map T.Tri.cells).flatten rfl au ⟨u.heap.size,0,O⟩ 1 1 [G qb,V qa ql qc,V ra rl rc] rfl rfl (rec_new u [G qb,V qa ql qc,V ra rl rc] 103) r3 om mo om (by have v:=x4.size;omega) (u.heap.size+1) sp (by intro a6 q;simp[Value.cells]at q;rcases q with rfl|rfl|rfl<;>(intro a5 e;cases e)) n4 aZ ?_;intro g5 a7 A5 aw ab al bP an;have x5:Wr (fun b=>(V k c.length l).ownBlock=E b) (u.alloc (cl #[G qb,V qa ql qc,V ra rl rc] 103)) A5:=zbt ab (fun g hg=>hg);have b8:¬(V k c.length l).ownBlock=E d:=fun e=>by have:=(G2.type d e).2;omega
   have t3:=x5.cell (p:=⟨d,3,O⟩) b8 s4;have c8:=(zt (w:=n) (a:=⟨d,3,O⟩) ((x5.block d (by have:=x4.size;omega) b8).trans (x4.block d aI))).trans bk;have bp:=zi (bq.out u ⟨qb,(qa,ql,qc),(ra,rl,rc)⟩ g5 a7 A5 M bh aw an ab (by simpa using al));have bU:=zi (fun W (p:Wr (fun b=>b=d\/(V k c.length l).ownBlock=E b) n W)=>a3.out W p);have bl:Wr (fun b=>b=d\/(V k c.length l).ownBlock=E b) n A5:=(Wr.of_below x4).trans (x5.mono (fun b f=> .inr f));clear aw ab al bP an;refine i.out _ _ (by exact a3.out _ bl) (h:=fun a4=>?_);clear i K;refine tkv 8 (h:=?_);refine rd1 9 (h:=fun K i=>?_);go_simp;refine i.out _ _ (by exact a3.out _ (bl.trans (qS (.inl rfl) _))) (h:=fun a4=>?_);clear i K;refine QB kr ?_ _;exact bp.out
 case done=>
  rintro aO ak A hD ⟨v,h2,az,c,fr,h3,N,h5,h6,h7,h8⟩ hd;obtain⟨k,l,rfl⟩:=h6.shape;rw[zo]at N h6;simp only[T.Tri.up,T.Tri.down]at N;have ah:=zi h3;have m0:=c_ 0 N;have m1:=c_ 1 N;have m2:=c_ 2 N;have m3:=c_ 3 N;have r1:=v.some (aD.out t aA) (fun e=>by have:w.heap.size+1+1+1=d:=e;omega);have c0:=c_ 0 r1;have c1:=c_ 1 r1;have c2:=c_ 2 r1;have c3:=c_ 3 r1;have f0:A.frozen? ⟨w.heap.size+1+1+1,0,O⟩=false:=T.ZX r1;have f1:A.frozen? ⟨w.heap.size+1+1+1,1,O⟩=false:=T.ZX r1;have f2:A.frozen? ⟨w.heap.size+1+1+1,2,O⟩=false:=T.ZX r1;have f3:A.frozen? ⟨w.heap.size+1+1+1,3,O⟩=false:=T.ZX r1;have bo:Hid (JU A ⟨⟨F,(D,J,I),(y,C,B)⟩,(k,c.length,l)⟩ (List.zipWith (fun a g=>jh a (Z5 (g,1) m)) o.1 x.1,jh o.2 (Z5 (x.2,1) m))):=by
   refine⟨⟨c,?_,h6.list,fun s a6 c7 q hq=>?_⟩,(br.out).wr v aK⟩
   ·rw[Jy,<-hl,Nat.min_self,ah.out];exact H1.out
   ·have hi:s<h.length:=by
     have:=(zn.1 q).1;have:=ah.out;omega
    have b9:s<o.1.length:=by have:=H1.out;omega
    have bb:s<x.1.length:=om;rw[List.getElem?_zipWith,zj b9,zj bb]at hq;simp only[z7]at hq;have h9:=h7 s a6 q;simp only[zk,zj b9,zj bb,Zg]at h9;rw[<-hq];exact h9
  have bZ:=(zf.1 (aD.out t aA)).1;clear h3 h7;gi_wp2;have aY:((((A.setCell ⟨w.heap.size+1+1+1,0,O⟩ (G F)).setCell ⟨w.heap.size+1+1+1,1,O⟩ (V D J I)).setCell ⟨w.heap.size+1+1+1,2,O⟩ (V y C B)).setCell ⟨w.heap.size+1+1+1,3,O⟩ (V k c.length l)).heap[aO]? =E (.deferred (E [])):=(T.zc1 om).trans hd;refine qt aY ?_;have ad:zw t.heap.size ((((A.setCell ⟨w.heap.size+1+1+1,0,O⟩ (G F)).setCell ⟨w.heap.size+1+1+1,1,O⟩ (V D J I)).setCell ⟨w.heap.size+1+1+1,2,O⟩ (V y C B)).setCell ⟨w.heap.size+1+1+1,3,O⟩ (V k c.length l)) (((((A.setCell ⟨w.heap.size+1+1+1,0,O⟩ (G F)).setCell ⟨w.heap.size+1+1+1,1,O⟩ (V D J I)).setCell ⟨w.heap.size+1+1+1,2,O⟩ (V y C B)).setCell ⟨w.heap.size+1+1+1,3,O⟩ (V k c.length l)).putObj aO (.deferred O)):=zw.putObj _ hD aY rfl;have bj:Wr (fun b=>b=w.heap.size+1+1+1) A ((((A.setCell ⟨w.heap.size+1+1+1,0,O⟩ (G F)).setCell ⟨w.heap.size+1+1+1,1,O⟩ (V D J I)).setCell ⟨w.heap.size+1+1+1,2,O⟩ (V y C B)).setCell ⟨w.heap.size+1+1+1,3,O⟩ (V k c.length l)):=(((qS (U:=fun b=>b=w.heap.size+1+1+1) rfl _).trans (qS (U:=fun b=>b=w.heap.size+1+1+1) rfl _)).trans (qS (U:=fun b=>b=w.heap.size+1+1+1) rfl _)).trans (qS (U:=fun b=>b=w.heap.size+1+1+1) rfl _);have e9:((((A.setCell ⟨w.heap.size+1+1+1,0,O⟩ (G F)).setCell ⟨w.heap.size+1+1+1,1,O⟩ (V D J I)).setCell ⟨w.heap.size+1+1+1,2,O⟩ (V y C B)).setCell ⟨w.heap.size+1+1+1,3,O⟩ (V k c.length l)).heap[w.heap.size+1+1+1]? =E (cl #[G F,V D J I,V y C B,V k c.length l] 365):=T.ze7 r1;have d0:=ad.cell (c_ 0 e9);have d1:=ad.cell (c_ 1 e9);have d2:=ad.cell (c_ 2 e9);have d3:=ad.cell (c_ 3 e9);have bK:=bo.out.wr bj (fun b f=>by
   rw[f];exact⟨fun ht=>absurd (ht.one ⟨_,_,r1⟩) dc,qj r1 (by intro a6 q;simp at q;rcases q with rfl|rfl|rfl|rfl<;>(intro a5 e;cases e))⟩)
  have bz:=(ZA a2 (v.below (B:=w.heap.size) a2.size (fun b f=>om))).trans (bj.below (by have:=a2.size;have:=v.size;omega) (fun b f=>om));exact⟨ag #[G F,V D J I,V y C B,V k c.length l],by simp[results,results337,go_sem,d0,d1,d2,d3],⟨⟨F,(D,J,I),(y,C,B)⟩,(k,c.length,l)⟩,rfl,bK.keep ad,(ad.mono a2.size).below bz (zh _) (zh _)⟩
 case stop=>exact fun _ _ _ _ _ _ a0 _=>a0.elim
def FlI (w1:H)(g4 r2 r3 n:Nat)(m:WT)(q:Nat->Int×Nat)(k:Nat)(M:Nat->Prop)(A:H):Prop:=
 Wr (fun b=>b=g4) w1 A/\k<=n/\(∀i,i<k->(q i).2=1)/\(∃(v:Value) (us:List WT) (fr:Nat×Nat),us.length=k/\A.heap[g4]? =E (cl #[v,G m.b,m.sv] 174 fr)/\A.frozen? ⟨g4,0,O⟩=false/\Grw w1.heap.size 101 2 A v (us.map WT.cells)/\(∀(i:Nat) (u:WT),us[i]? =E u->zY A u.val (q i).1)/\∀b,M b↔b=g4\/v.ownBlock=E b\/b=r2\/b=r3)
theorem FlI.keep {d A B:H}{c e f n:Nat}{m:WT}{q:Nat->Int×Nat}{k:Nat}{M:Nat->Prop}(h:FlI d c e f n m q k M A)(b:zw d.heap.size A B):FlI d c e f n m q k M B:=by
 obtain⟨i,j,g,v,t,f,l,d,o,p,r,s⟩:=h;have e:=b.block _ _ d (.inr rfl);exact⟨i.keep b,j,g,v,t,f,l,e,(zt (w:=A) (a:=⟨c,0,O⟩) (e.trans d.symm)).trans o,p.keep b,fun i u c=>(r i u c).keep b,s⟩
def FlX (w:H)(r2 r3:Nat)(q:Nat->Int×Nat)(c:Code)(k:Nat)(A:H):Prop:=c= .ret/\¬(q k).2=1/\Below w.heap.size w A/\A.cell? ⟨r2,0,O⟩=E (V O 0 0)/\A.cell? ⟨r2,1,O⟩=E (G false)/\A.cell? ⟨r2,2,O⟩=E (V O 0 0)/\A.cell? ⟨r3,0,O⟩=E (G false)
theorem zgb {w:H}{r s:Nat}(n:r≠s){g h j l:Value}{e f:TypeId}(h1:w.heap[r]? =E (cl #[g,h,j] e))(m:w.heap[s]? =E (cl #[l] f))(a b c d:Value):
 ((((w.setCell ⟨r,0,O⟩ a).setCell ⟨r,1,O⟩ b).setCell ⟨r,2,O⟩ c).setCell ⟨s,0,O⟩ d).heap[r]? =E (cl #[a,b,c] e)/\((((w.setCell ⟨r,0,O⟩ a).setCell ⟨r,1,O⟩ b).setCell ⟨r,2,O⟩ c).setCell ⟨s,0,O⟩ d).heap[s]? =E (cl #[d] f)/\Wr (fun k=>k=r\/k=s) w ((((w.setCell ⟨r,0,O⟩ a).setCell ⟨r,1,O⟩ b).setCell ⟨r,2,O⟩ c).setCell ⟨s,0,O⟩ d):=by
 have e:=T.zev (i:=0) (v:=a) h1;have f:=T.zev (i:=1) (v:=b) e;have e:=T.zev (i:=2) (v:=c) f;refine⟨(zK _ _ _ _ so).trans e,?_,?_⟩;·exact T.zev ((zK _ _ _ _ so).trans ((zK _ _ _ _ so).trans ((zK _ _ _ _ so).trans m)))
 ·exact(((qS (U:=fun k=>k=r\/k=s) (.inl rfl) _).trans (qS (U:=fun k=>k=r\/k=s) (.inl rfl) _)).trans (qS (U:=fun k=>k=r\/k=s) (.inl rfl) _)).trans (qS (U:=fun k=>k=r\/k=s) (.inr rfl) _)
theorem FlX.keep {w A B:H}{b d C:Nat}{q:Nat->Int×Nat}{c:Code}{k:Nat}(h:FlX w b d q c k A)(a:zw C A B)(l:w.heap.size<=C):FlX w b d q c k B:=by
 obtain⟨b,d,e,f,g,i,j⟩:=h;exact⟨b,d,a.below e l (zh _),a.cell f,a.cell g,a.cell i,a.cell j⟩
theorem zj8 (K:Nat)(k:K<=1073741800)(w:H)(b:BT)(h:List (Int×Nat)×(Int×Nat))(d:JU w b h)(c:h.1.length<=100000)(ba:(∀a∈h.1,a.1.natAbs<4294967296^K/\a.2<4294967296^K)/\h.2.1.natAbs<4294967296^K/\h.2.2<4294967296^K):
 Calls pg 258 #[b.val] w fun e w'=>(∃r:RW,(Qa h=O/\e= .returned (tp #[r.val,G false]))\/(∃row,Qa h=E row/\e= .returned (tp #[r.val,G true])/\QC w' r row/\∀g,r.fv.ownBlock=E g->w.heap.size<=g))/\Below w.heap.size w w':=by
 obtain⟨i0,aC,aE,aF,aG⟩:=qL ze9;obtain⟨⟨l,⟨c,n,m⟩,⟨o,s,q⟩⟩,f,_,i⟩:=b;obtain⟨v,z⟩:=d;obtain⟨F,rfl,p,Y,P⟩:=v.open;simp only[BT.val,BT.fv,T.Tri.val,T.Tri.up,T.Tri.down]at z Y⊢;have H1:=zi p;have I:=zi Y;have L:=zi P;have t:F.length<=100000:=om;have u:=zi ba;have N:Hid (∀W t J q0,qP W t J q0->J.natAbs<4294967296^K->q0<4294967296^K->Calls pg 210 #[t] W fun e w'=>∃x:WT,e= .returned x.val/\zY w' x.val (J/(q0:Int))/\Below W.heap.size W w'):=by
  intro W t J q0 y b1 b2;refine(floor_any K om (zdX K k) W t J q0 y b1 b2).mono ?_;rintro e w' ⟨x,rfl,ht,d⟩;obtain⟨x,rfl⟩:=ht.shape;exact⟨x,rfl,ht,d⟩
 clear p Y P ba v;have A:Ext w (((w.alloc (cl #[G l,V c n m,V o s q,V f F.length i] 365)).alloc (cl #[V O 0 0,G false,V O 0 0] 174)).alloc (cl #[G false] 4)):=(((Ext.refl w).alloc _).alloc _).alloc _;have t:(((w.alloc (cl #[G l,V c n m,V o s q,V f F.length i] 365)).alloc (cl #[V O 0 0,G false,V O 0 0] 174)).alloc (cl #[G false] 4)).heap[w.heap.size]? =E (cl #[G l,V c n m,V o s q,V f F.length i] 365):=(zI _ _ _ sd).trans (T.zbs w _ _).1;have y:(((w.alloc (cl #[G l,V c n m,V o s q,V f F.length i] 365)).alloc (cl #[V O 0 0,G false,V O 0 0] 174)).alloc (cl #[G false] 4)).heap[w.heap.size+1]? =E (cl #[V O 0 0,G false,V O 0 0] 174):=(zI _ _ _ sd).trans (T.zbs w _ _).2;have v:(((w.alloc (cl #[G l,V c n m,V o s q,V f F.length i] 365)).alloc (cl #[V O 0 0,G false,V O 0 0] 174)).alloc (cl #[G false] 4)).heap[w.heap.size+1+1]? =E (cl #[G false] 4):=by
  have:=zq ((w.alloc (cl #[G l,V c n m,V o s q,V f F.length i] 365)).alloc (cl #[V O 0 0,G false,V O 0 0] 174)) (cl #[G false] 4);simpa using this
 refine JO func258 ntmps258 (h:=?_);gi_wp2;generalize (((w.alloc (cl #[G l,V c n m,V o s q,V f F.length i] 365)).alloc (cl #[V O 0 0,G false,V O 0 0] 174)).alloc (cl #[G false] 4))=l at *;have c:=zi (fun W (q:Ext l W)=>And.intro (q.cell (c_ 0 t)) (And.intro (q.cell (c_ 1 t)) (And.intro (q.cell (c_ 2 t)) (q.cell (c_ 3 t)))));have ar:=zi (fun W (q:Ext l W)=>(q.block _ (zf.1 y).1).trans y);have aa:=zi (fun W (q:Ext l W)=>(q.block _ (zf.1 v).1).trans v);clear t y v;refine(zS.2 (N.out l _ h.2.1 h.2.2 (z.below A) u.out.2.1 u.out.2.2)).mono ?_;rintro e n ⟨⟨B,z,D,C⟩,rfl,o,t⟩;simp only[WT.val,WT.sv]at o⊢;have R:=Ext.of t;obtain⟨b0,b1,b2,y⟩:=c.out _ (R.alloc (cl #[V O 0 0,G B,V z D C] 174));gi_wp2;have s:=zq n (cl #[V O 0 0,G B,V z D C] 174);have Q:Ext l (n.alloc (cl #[V O 0 0,G B,V z D C] 174)):=R.alloc _;have v:=o.below ((Ext.refl n).alloc (cl #[V O 0 0,G B,V z D C] 174));generalize M:n.alloc (cl #[V O 0 0,G B,V z D C] 174)=m at *;obtain⟨c,hg4⟩:∃c,n.heap.size=c:=⟨_,rfl⟩;rw[hg4]at s⊢;have n:w.heap.size+1+1<c:=by
  have p:=(zf.1 (aa.out l (Ext.refl _))).1;have Y:=R.size;omega
 clear M t hg4 R o;refine(zS.2 (zhG f F.length i m)).mono ?_;rintro e o ⟨rfl,l⟩;have n:Ext m o:=by rw[l];exact(Ext.refl m).alloc _
 have U:o.cell? ⟨m.heap.size,0,O⟩=E (V f F.length i):=by rw[l];exact c_ 0 (zq _ _)
 clear l;have a4:=Q.trans n;have M:=A.trans a4;have l:=(n.block _ (zf.1 s).1).trans s;have a1:=(zf.1 l).1;have t:=(zf.1 s).1;have aA:=zi (v.below n);have av:∀b,b=c->qU o b:=fun b d=>by rw[d];exact qj l n3
 clear s b0 b1 b2 y v;gi_wp2;refine jB (zg7 F f i m.heap.size om) rfl (ZJ func377 kr rfl) (fun s ak W=>by rintro⟨x,_,rfl⟩;rfl)
  (FlI o c (w.heap.size+1) (w.heap.size+1+1) F.length ⟨B,z,D,C⟩ (fun i=>h.1.getD i (0,1))) (FlX w (w.heap.size+1) (w.heap.size+1+1) (fun i=>h.1.getD i (0,1))) (fun b=>b=c\/b=w.heap.size+1\/b=w.heap.size+1+1) ?hI ?hIx ?hC ?h0 ?round ?done ?stop
 case hI=>exact fun s a6 A f t hk=>t.keep hk
 case hIx=>exact fun aB s A f t hk=>t.keep hk M.size
 case hC=>
  rintro s a6 A ⟨p,Y,h0,ak,f,fr,P,v,h5,y,h7,Q⟩;have n:=(zf.1 v).1;refine⟨⟨p.cell (p:=⟨m.heap.size,0,O⟩) so U,((I.out.ext M).wr2 p (fun g hg e=>by have:=I.out.lt g hg;omega)).recs⟩,fun b d=>?_⟩;rcases(Q b).1 d with rfl|d|d|d
  ·exact n
  ·exact(y.type b d).1.lt
  ·omega
  ·omega
 case h0=>exact⟨Wr.refl _ _,qp _,(fun i hi=>om),V O 0 0,[],(0,0),rfl,l,T.ZX l,Grw.nil _ _ _ _,(fun i a2 t=>by simp at t),fun b=>by simp[Value.ownBlock]⟩
 case round=>
  rintro l s ak a6 A aw ⟨m,n,rfl⟩ ⟨p,Y,h0,ak,f,fr,P,v,h5,y,h7,Q⟩;have ah:s<h.1.length:=by have:=H1.out;omega
  have l:h.1[s]? =E (h.1.getD s (0,1)):=by rw[zk,zj ah];rfl
  have a7:=((L.out s m _ n l).below M).wr p av;have ba:=u.out.1 _ (qJ l);obtain⟨⟨J,q0⟩,hpq⟩:∃n,h.1.getD s (0,1)=n:=⟨_,rfl⟩;rw[hpq]at a7 ba;have an:=zi hpq;clear l hpq;obtain⟨eb,⟨af,el,ec⟩,⟨da,dl,ad⟩⟩:=m;obtain⟨m,n,rfl⟩:=y.shape;rw[zo]at v y Q;have a5:=zi P;have l:f.length<=100000:=om;simp only[WT.sv,T.Tri.val,T.Tri.up,T.Tri.down]at a7 v⊢;clear P;unfold Qr;gi_wp2;refine⟨Wr.of_below ((Ext.refl A).alloc _),fun X l=>?_⟩;have R:=(zw.alloc o.heap.size A (cl #[G eb,V af el ec,V da dl ad] 103)).trans l;have e0:=l.block _ _ (zq A (cl #[G eb,V af el ec,V da dl ad] 103)) (.inr rfl);have e2:=R.block _ _ v (.inr rfl);have l:=(zf.1 v).1;have u:=(zf.1 e2).1;have G2:=y.keep R;have I:=p.keep R;have ap:∀b,(V m f.length n).ownBlock=E b->o.heap.size<=b/\b<A.heap.size:=fun b d=>⟨(y.type b d).2,(y.type b d).1.lt⟩
  have d0:=c_ 0 e0;have d1:=c_ 1 e0;have d2:=c_ 2 e0;have a8:=a7.keep R;have U:=I.size;have ay:=ZA M (I.below (B:=w.heap.size) M.size (fun b d=>om));refine zaK ?_;refine zbX ?_;refine zbX ?_;refine JJ (by rfl) (fun⟨a,w,t⟩=>t) ?_;by_cases aq:q0=1
  ·subst aq;go_wp2_with fail
   refine(zdo X _ J a8).mono ?_;rintro e l ⟨rfl,a9⟩;have L:=Ext.of a9;go_wp2_with fail
   refine(show(Code.cond _ _ _).wpIn _ _ _ _ _ _ from zc4 rfl (wpIn_skip ?_));have e3:=(L.block c u).trans e2;have f0:=(L.block _ (zf.1 e0).1).trans e0;have ao:=(zf.1 e3).1;have G3:=G2.ext L;have u:=zL U L.size;have Z:Hid (∀W,Wr (fun b=>b=c\/(V m f.length n).ownBlock=E b) l W->W.cell? ⟨A.heap.size,0,O⟩=E (G eb)/\W.cell? ⟨A.heap.size,1,O⟩=E (V af el ec)/\W.cell? ⟨A.heap.size,2,O⟩=E (V da dl ad)):=by
    intro W q;have u:¬(A.heap.size=c\/(V m f.length n).ownBlock=E A.heap.size):=by
     rintro(e|e);·omega
     ·have:=(ap _ e).2;omega
    have f1:=q.some f0 u;exact⟨c_ 0 f1,c_ 1 f1,c_ 2 f1⟩
   have aj:l.cell? ⟨c,0,O⟩=E (V m f.length n):=c_ 0 e3;have ax:=(zt (w:=A) (a:=⟨c,0,O⟩) (e3.trans v.symm)).trans h5;have al:=zi (N.out l.drew _ J 1 (a8.below L.drew) ba.1 ba.2);have q:J/((1:Nat):Int)=J:=sp;rw[q]at al;have az:Hid (∀(q:H) (x:WT) (U a0:Nat) (N:H),Ext l q->zY q x.val J->N.ownsRow o.heap.size 101 2 (V (E ⟨U,0,O⟩) (f.length+1) a0) (f.length+1) ((f.map WT.cells).flatten++x.cells)->qU N U->(q.alloc (cl #[G x.b,x.sv] 101)).grownBy N (V m f.length n).ownBlock->((V m f.length n).ownBlock=E U\/U=q.heap.size+1)->Qs a6 (FlI o c (w.heap.size+1) (w.heap.size+1+1) F.length ⟨B,z,D,C⟩ (fun i=>h.1.getD i (0,1))) (FlX w (w.heap.size+1) (w.heap.size+1+1) (fun i=>h.1.getD i (0,1))) s A X .normal { tmps:=#[],defers:= [] } (N.setCell ⟨c,0,O⟩ (V (E ⟨U,0,O⟩) (f.length+1) a0))):=by
    intro q x U a0 N u ht ai ae a3 ab;have e4:=(u.block c ao).trans e3;have au:N.ownsRow o.heap.size 101 2 (V (E ⟨U,0,O⟩) ((f.map WT.cells).length+1) a0) ((f.map WT.cells).length+1) ((f.map WT.cells).flatten++x.cells):=by rw[zo];exact ai
    obtain⟨q1,q2,q3,q4⟩:=zfU (j:=0) (G3.ext u) rfl au ae a3 e4 a1 (by simpa using ab);rw[zo]at q1 q2 q3 q4;have a1:=((Wr.of_below (T:=fun b=>b=c\/(V m f.length n).ownBlock=E b) L).trans (Wr.of_below u)).trans q1;have au:∀b,b=c\/(V m f.length n).ownBlock=E b->qU X b:=by
     rintro b (rfl|d);·exact qj e2 n3
     ·exact G2.dig b d
    have aD:=fun b d=>(au b d).keep (B:=0) (zw.of_below (L.trans u))
    refine⟨a1.mono (fun b d=>(Q b).2 (d.elim .inl (fun e=> .inr (.inl e)))),fun b=>b=c\/(V (E ⟨U,0,O⟩) (f.length+1) a0).ownBlock=E b\/b=w.heap.size+1\/b=w.heap.size+1+1,⟨?_,aw,fun i hi=>?_,_,f ++ [x],fr,by rw[zX,qF,a5.out],q2,?_,by rw[ZN];exact q3,fun i a2 x=>?_,fun b=>Ql⟩,fun b d=>?_⟩
    ·exact⟨a1.os.trans I.os,a1.tape.trans I.tape,a1.output.trans I.output,zL I.size a1.size,fun b d aw=>(a1.block b (zv d I.size) (fun e=>by
      rcases e with e|e
      ·exact aw e
      ·have:=(ap b e).1;omega)).trans (I.block b d aw)⟩
    ·rcases Z8 i s with t|t
     ·exact h0 i t
     ·have:i=s:=om;show(h.1.getD i (0,1)).2=1
      rw[this,an.out]
    ·have f5:=(zt (w:=q) (a:=⟨c,0,O⟩) (show N.heap[c]? =q.heap[c]? from(a3.block c (by have:=u.size;simp;omega) (fun e=>by have:=(ap _ e.symm).1;omega)).trans (zI _ _ _ (by have:=u.size;omega))));have f3:=zt (w:=l) (a:=⟨c,0,O⟩) (u.block c ao);simpa using (f5.trans f3).trans ax
    ·by_cases ap:i<f.length
     ·rw[zM ap]at x;exact((h7 i a2 x).keep R).wr a1 au
     ·have a1:i=f.length:=by
       have:=(zn.1 x).1;simp at this;omega
      rw[a1,zJ (zh _),Zy]at x;have e5:=qV x;subst e5;have ap:=a1.trans a5.out;show zY _ _ (h.1.getD i (0,1)).1
      rw[ap,an.out];exact ht.wr q1 aD
    ·rcases d with d|d|d
     ·exact .inl ((Q b).2 (.inl d))
     ·rcases q4 b (.inr d)with t|t
      ·exact .inl ((Q b).2 (t.elim .inl (fun e=> .inr (.inl e))))
      ·exact .inr (zL R.size (zL (L.trans u).size t))
     ·exact .inl ((Q b).2 (.inr (.inr d)))
   obtain⟨b0,b1,b2⟩:=Z.out l (Wr.refl _ _);clear e0 e2 e3 f0 p v h5 y h7 Q a7 a8 ba I d0 d1 d2 a9;refine(show(Code.region _ _ _).wpIn _ _ _ _ _ _ from zan (S:=fun W=>W.cell? ⟨A.heap.size,0,O⟩=E (G eb)/\W.cell? ⟨A.heap.size,1,O⟩=E (V af el ec)/\W.cell? ⟨A.heap.size,2,O⟩=E (V da dl ad)) kr (by rfl) (fun⟨a,w,t⟩=>t) ⟨b0,b1,b2⟩ (fun W=>?_));refine tkv 0 (h:=?_);refine tkv 1 (h:=?_);refine tkv 3 (h:=?_);refine rd2 2 4 (h:=fun K k=>?_) (h1:=fun K k=>?_);go_simp;refine k.out _ _ am (h:=fun W=>?_);clear k K;refine rd1 4 (h:=fun K k=>?_);go_simp;go_at_call 210
   refine al.out.mono ?_;rintro e q ⟨⟨qb,qa,ql,qc⟩,rfl,ap,ad⟩;have u:=jG ad;have s3:=u.cell aj;have R:Ext l (q.alloc (cl #[G qb,V qa ql qc] 101)):=u.alloc _;have s4:=R.cell aj;have G5:=G3.ext R;have a1:=G5.own;rw[zo]at a1;have af:=G5.dig;simp only[WT.val,WT.sv];go_wp2_with fail
   refine k.out _ _ (by exact Z.out _ (Wr.of_below u)) (h:=fun W=>?_);clear k K;refine rd1 5 (h:=fun K k=>?_);rotate_left;go_simp;go_at_call 210
   refine al.out.mono ?_;rintro e q ⟨⟨qb,qa,ql,qc⟩,rfl,ap,ad⟩;have u:=jG ad;have s3:=u.cell aj;have R:Ext l (q.alloc (cl #[G qb,V qa ql qc] 101)):=u.alloc _;have s4:=R.cell aj;have G5:=G3.ext R;have a1:=G5.own;rw[zo]at a1;have af:=G5.dig;simp only[WT.val,WT.sv];go_wp2_with fail
   refine k.out _ _ (by exact Z.out _ (Wr.of_below u)) (h:=fun W=>?_);clear k K;refine rd2 2 5 (h:=fun K k=>?_) (h1:=fun K k=>?_);go_simp;refine k.out _ _ (by exact Z.out _ (Wr.of_below u)) (h:=fun W=>?_);clear k K;refine rd1 5 (h:=fun K k=>?_);rotate_left;go_simp;refine k.out _ _ (by exact Z.out _ (Wr.of_below R)) (h:=fun W=>?_);clear k K;refine rd1 2 (h:=fun K k=>?_);rotate_left;all_goals
    go_simp;refine k.out _ _ (by exact Z.out _ (Wr.of_below R)) (h:=fun W=>?_);clear k K;refine rd1 6 (h:=fun K k=>?_);refine zbz _ rfl (.tmp 20) (.tmp 23) 158 rfl o.heap.size 101 i0 (ag #[G false,V O 0 0]) 2 32 underlying158 aC aE aF aG rfl dc (V m f.length n) f.length (f.map WT.cells).flatten rfl a1 ⟨q.heap.size,0,O⟩ 1 1 [G qb,V qa ql qc] rfl rfl (rec_new q [G qb,V qa ql qc] 101) (by intro a2 x;simp only[qw,Zi,QF]at x;rcases x with rfl|rfl<;>rfl) om mo om (by have p:=R.size;omega) (q.heap.size+1) sp (by intro a2 x;simp[Value.cells]at x;rcases x with rfl|rfl<;>(intro a1 e;cases e)) (by intro a2 x;simp only[qw,Zi,QF]at x;rcases x with rfl|rfl<;>(intro a1 e;cases e)) af ?_;intro U a0 N ai a3 ab ad ae;have x6:Wr (fun b=>(V m f.length n).ownBlock=E b) (q.alloc (cl #[G qb,V qa ql qc] 101)) N:=zbt a3 (fun g hg=>hg);have a1:¬(V m f.length n).ownBlock=E c:=fun e=>by have:=(G3.type c e).2;omega
    have t3:=x6.cell (p:=⟨c,0,O⟩) a1 s4;have af:=(zt (w:=l) (a:=⟨c,0,O⟩) ((x6.block c (by have:=R.size;omega) a1).trans (R.block c ao))).trans ax;have a1:=zi (az.out q ⟨qb,qa,ql,qc⟩ U a0 N u ap ai ae a3 (by simpa using ab));have q:Wr (fun b=>b=c\/(V m f.length n).ownBlock=E b) l N:=(Wr.of_below R).trans (x6.mono (fun b d=> .inr d));clear ai a3 ab ad ae;refine k.out _ _ (by exact Z.out _ q) (h:=fun W=>?_);clear k K;refine tkv 7 (h:=?_);refine tkv 8 (h:=?_);refine rd1 9 (h:=fun K k=>?_);go_simp;refine k.out _ _ (by exact Z.out _ (q.trans (qS (.inl rfl) _))) (h:=fun W=>?_);clear k K;refine QB kr ?_ _;exact a1.out
  ·go_wp2_with fail
   refine(zdQ X _ J q0 a8 aq).mono ?_;rintro e l ⟨rfl,a9⟩;have L:=Ext.of a9;go_wp2_with fail
   refine(show(Code.cond _ _ _).wpIn _ _ _ _ _ _ from zdi rfl (zbX ?_));have k:=(Wr.of_below (T:=fun b=>b=c) L).some (I.some (ar.out o a4) (fun e=>by have:w.heap.size+1=c:=e;omega)) (fun e=>by have:w.heap.size+1=c:=e;omega);have q:=(Wr.of_below (T:=fun b=>b=c) L).some (I.some (aa.out o a4) (fun e=>by have:w.heap.size+1+1=c:=e;omega)) (fun e=>by have:w.heap.size+1+1=c:=e;omega);have U:=c_ 0 k;have W:=c_ 1 k;have Z:=c_ 2 k;have c3:=c_ 0 q;have f0:l.frozen? ⟨w.heap.size+1,0,O⟩=false:=T.ZX k;have f1:l.frozen? ⟨w.heap.size+1,1,O⟩=false:=T.ZX k;have f2:l.frozen? ⟨w.heap.size+1,2,O⟩=false:=T.ZX k;have f3:l.frozen? ⟨w.heap.size+1+1,0,O⟩=false:=T.ZX q;obtain⟨u,J,N⟩:=zgb om k q (V O 0 0) (G false) (V O 0 0) (G false);have R:Hid (Wr a6 X ((((l.setCell ⟨w.heap.size+1,0,O⟩ (V O 0 0)).setCell ⟨w.heap.size+1,1,O⟩ (G false)).setCell ⟨w.heap.size+1,2,O⟩ (V O 0 0)).setCell ⟨w.heap.size+1+1,0,O⟩ (G false))/\FlX w (w.heap.size+1) (w.heap.size+1+1) (fun i=>h.1.getD i (0,1)) .ret s ((((l.setCell ⟨w.heap.size+1,0,O⟩ (V O 0 0)).setCell ⟨w.heap.size+1,1,O⟩ (G false)).setCell ⟨w.heap.size+1,2,O⟩ (V O 0 0)).setCell ⟨w.heap.size+1+1,0,O⟩ (G false))):=by
    have l:=(Wr.of_below (T:=fun b=>b=w.heap.size+1\/b=w.heap.size+1+1) L).trans N;refine⟨l.mono (fun b d=>(Q b).2 (.inr (.inr d))),rfl,?_,ay.trans (l.below (by have:=M.size;omega) (fun b d=>om)),c_ 0 u,c_ 1 u,c_ 2 u,c_ 0 J⟩;show ¬(h.1.getD s (0,1)).2=1
    rw[an.out];exact aq
   clear u J N k q e0 e2 p v h5 y h7 Q a7 a8 ba I d0 d1 d2 a9 ay;refine JJ (by rfl) (fun⟨a,w,t⟩=>t) ?_;go_wp2_with fail
   refine(show Code.ret.wpIn _ _ _ _ _ _ from wpIn_ret ?_);exact R.out
 case done=>
  rintro l a6 A I ⟨p,Y,h0,ak,f,fr,P,v,h5,y,h7,Q⟩ t;obtain⟨m,n,rfl⟩:=y.shape;rw[zo]at v y;simp only[WT.sv]at v;have a5:=zi P;have L:=c_ 0 v;have L:=c_ 1 v;have L:=c_ 2 v;have k:=p.some (ar.out o a4) (fun e=>by have:w.heap.size+1=c:=e;omega);have q:=p.some (aa.out o a4) (fun e=>by have:w.heap.size+1+1=c:=e;omega);have U:=c_ 0 k;have W:=c_ 1 k;have Z:=c_ 2 k;have c3:=c_ 0 q;have f0:A.frozen? ⟨w.heap.size+1,0,O⟩=false:=T.ZX k;have f1:A.frozen? ⟨w.heap.size+1,1,O⟩=false:=T.ZX k;have f2:A.frozen? ⟨w.heap.size+1,2,O⟩=false:=T.ZX k;have f3:A.frozen? ⟨w.heap.size+1+1,0,O⟩=false:=T.ZX q;have Q:Hid (QC A ⟨(m,f.length,n),⟨B,z,D,C⟩⟩ (h.1.map Prod.fst,h.2.1/(h.2.2:Int))):=by
   refine⟨⟨f,?_,y.list,fun i a2 c x L=>?_⟩,(aA.out).wr p av⟩
   ·rw[zo,a5.out];exact H1.out
   ·have hi:i<F.length:=by
     have:=(zn.1 x).1;have:=a5.out;omega
    have F:i<h.1.length:=by have:=H1.out;omega
    rw[zQ,zj F]at L;simp only[Zz,z7]at L;have c:=h7 i a2 x;simp only[zk,zj F,Zg]at c;rw[<-L];exact c
  have F:Hid (Qa h=E (h.1.map Prod.fst,h.2.1/(h.2.2:Int))):=by
   unfold Hid Qa;rw[z8];rw[qR];intro a x;obtain⟨i,hi,rfl⟩:=QS x;have c:=h0 i (by have:=H1.out;omega);simp only[zk,zj hi,Zg]at c;exact qH c
  have x:Hid (∀g,(V m f.length n).ownBlock=E g->w.heap.size<=g):=fun g hg=>by
   have:=(y.type g hg).2;have:=M.size;omega
  have c:=(zf.1 (aa.out o a4)).1;obtain⟨u,J,N⟩:=zgb om k q (V m f.length n) (G B) (V z D C) (G true);have i:=zi (And.intro u (And.intro J N));clear P h7 h0 u J N;gi_wp2;have u:=(i.out.2.2.block l (zf.1 t).1 om).trans t;refine qt u ?_;have c:zw o.heap.size (((((A.setCell ⟨w.heap.size+1,0,O⟩ (V m f.length n)).setCell ⟨w.heap.size+1,1,O⟩ (G B)).setCell ⟨w.heap.size+1,2,O⟩ (V z D C))).setCell ⟨w.heap.size+1+1,0,O⟩ (G true)) ((((((A.setCell ⟨w.heap.size+1,0,O⟩ (V m f.length n)).setCell ⟨w.heap.size+1,1,O⟩ (G B)).setCell ⟨w.heap.size+1,2,O⟩ (V z D C))).setCell ⟨w.heap.size+1+1,0,O⟩ (G true)).putObj l (.deferred O)):=zw.putObj _ I u rfl;have d0:=c.cell (c_ 0 i.out.1);have d1:=c.cell (c_ 1 i.out.1);have d2:=c.cell (c_ 2 i.out.1);have u:=c.cell (c_ 0 i.out.2.1);have J:=Q.out.wr i.out.2.2 (fun b d=>by
   rcases d with rfl|rfl
   ·exact⟨fun ht=>absurd (ht.one ⟨_,_,k⟩) dc,qj k n3⟩
   ·exact⟨fun ht=>absurd (ht.one ⟨_,_,q⟩) dc,qj q n1⟩)
  have k:=(ZA M (p.below (B:=w.heap.size) M.size (fun b d=>om))).trans (i.out.2.2.below (by have:=M.size;have:=p.size;omega) (fun b d=>om));exact⟨tp #[ag #[V m f.length n,G B,V z D C],G true],by simp[results,results258,go_sem,d0,d1,d2,u],⟨⟨(m,f.length,n),⟨B,z,D,C⟩⟩,.inr ⟨_,F.out,rfl,J.keep c,x.out⟩⟩,(c.mono M.size).below k (zh _) (zh _)⟩
 case stop=>
  rintro l aB s A I hk ⟨rfl,p,Y,P,v,h5,y⟩ t;gi_wp2;refine qt t ?_;have c:zw o.heap.size A (A.putObj l (.deferred O)):=zw.putObj _ I t rfl;have d0:=c.cell P;have d1:=c.cell v;have d2:=c.cell h5;have u:=c.cell y;have f:Qa h=O:=by
   have ah:s<h.1.length:=by have:=H1.out;omega
   unfold Qa;rw[zW];rw[Bool.not_eq_true,QT];refine⟨h.1[s],zZ ah,?_⟩;have d:=p;rw[zk,zj ah]at d;simpa using d
  exact⟨tp #[ag #[V O 0 0,G false,V O 0 0],G false],by simp[results,results258,go_sem,d0,d1,d2,u],⟨⟨(O,0,0),⟨false,O,0,0⟩⟩,.inl ⟨f,rfl⟩⟩,(c.mono M.size).below Y (zh _) (zh _)⟩
end Go.Proofs.YtnhfdcfnojnofaaGreatDoor
