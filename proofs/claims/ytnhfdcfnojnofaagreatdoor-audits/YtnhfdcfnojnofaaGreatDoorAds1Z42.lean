import Derived.Test.YtnhfdcfnojnofaaGreatDoorAds1Z40
open Option renaming none->O,some->E
open Go.Value renaming slice->V,bool->G,string->gS,tuple->tp,int->it,agg->ag
open Go.Obj renaming cells->cl
open Go renaming World->H
open Go.Proofs.Tryz renaming prog->pg
open Go.Proofs.Tryz
set_option linter.unusedSimpArgs false
set_option linter.unusedVariables false
set_option maxHeartbeats 4000000
set_option maxRecDepth 100000
namespace Go.Proofs.YtnhfdcfnojnofaaGreatDoor
open Go.RowKit
attribute [local go_sem] qm qW ZR
def zgd (ts:List ST)(i:Nat):List UInt8:=(ts.map fun t=>t.s.data.toList).getD i []
theorem zjD (z:Int)(x:List UInt8×Bool)(last:Bool)(hx:x.1.length<=90000)(w:H):
 Calls pg 256 #[ag #[it .i64 z,gS ⟨x.1.toArray⟩,G x.2,G last]] w fun e w'=>∃d:DL,e= .returned (tp #[d.val,G (Je last x)])/\d.n=z/\(Je last x=true->d.e=last/\JZ w' d.pv (((qg x.1).drop 1).map jx))/\Below w.heap.size w w':=by
 obtain⟨i0,bi,bp,bq,br⟩:=qL infoPart;obtain⟨s,o⟩:=x;simp only at hx⊢;have av:Hid (∀W,Je last (s,o)=false->Below w.heap.size w W->∃d:DL,Ending.returned (tp #[ag #[it .i64 z,G false,V O 0 0],G false])= .returned (tp #[d.val,G (Je last (s,o))])/\d.n=z/\(Je last (s,o)=true->d.e=last/\JZ W d.pv (((qg s).drop 1).map jx))/\Below w.heap.size w W):=fun W h a=>by
  rw[h];exact⟨⟨z,false,(O,0,0)⟩,rfl,rfl,(fun h=>by cases h),a⟩
 have ba:Hid (∀W (a4:Option Addr×Nat×Nat),Je last (s,o)=true->JZ W (V a4.1 a4.2.1 a4.2.2) (((qg s).drop 1).map jx)->Below w.heap.size w W->∃d:DL,Ending.returned (tp #[ag #[it .i64 z,G last,V a4.1 a4.2.1 a4.2.2],G true])= .returned (tp #[d.val,G (Je last (s,o))])/\d.n=z/\(Je last (s,o)=true->d.e=last/\JZ W d.pv (((qg s).drop 1).map jx))/\Below w.heap.size w W):=fun W a4 h hp a=>by
  rw[h];exact⟨⟨z,last,a4⟩,rfl,rfl,fun _=>⟨rfl,hp⟩,a⟩
 have af:Ext w (((((w.alloc (cl #[it .i64 z,gS ⟨s.toArray⟩,G o,G last] 243)).alloc (cl #[it .i64 0,G false,V O 0 0] 259)).alloc (cl #[G false] 4)).alloc (cl #[it .i64 z,G false,V O 0 0] 259)).alloc (cl #[it .i64 z,G last,V O 0 0] 259)):=(((((Ext.refl w).alloc _).alloc _).alloc _).alloc _).alloc _;have az:(((((w.alloc (cl #[it .i64 z,gS ⟨s.toArray⟩,G o,G last] 243)).alloc (cl #[it .i64 0,G false,V O 0 0] 259)).alloc (cl #[G false] 4)).alloc (cl #[it .i64 z,G false,V O 0 0] 259)).alloc (cl #[it .i64 z,G last,V O 0 0] 259)).heap[w.heap.size]? =E (cl #[it .i64 z,gS ⟨s.toArray⟩,G o,G last] 243):=(zI _ _ _ sd).trans ((zI _ _ _ sd).trans ((zI _ _ _ sd).trans (T.zbs w _ _).1));have aA:(((((w.alloc (cl #[it .i64 z,gS ⟨s.toArray⟩,G o,G last] 243)).alloc (cl #[it .i64 0,G false,V O 0 0] 259)).alloc (cl #[G false] 4)).alloc (cl #[it .i64 z,G false,V O 0 0] 259)).alloc (cl #[it .i64 z,G last,V O 0 0] 259)).heap[w.heap.size+1]? =E (cl #[it .i64 0,G false,V O 0 0] 259):=(zI _ _ _ sd).trans ((zI _ _ _ sd).trans ((zI _ _ _ sd).trans (T.zbs w _ _).2));have aB:(((((w.alloc (cl #[it .i64 z,gS ⟨s.toArray⟩,G o,G last] 243)).alloc (cl #[it .i64 0,G false,V O 0 0] 259)).alloc (cl #[G false] 4)).alloc (cl #[it .i64 z,G false,V O 0 0] 259)).alloc (cl #[it .i64 z,G last,V O 0 0] 259)).heap[w.heap.size+1+1]? =E (cl #[G false] 4):=by
  refine(zI _ _ _ sd).trans ((zI _ _ _ sd).trans ?_);have:=zq ((w.alloc (cl #[it .i64 z,gS ⟨s.toArray⟩,G o,G last] 243)).alloc (cl #[it .i64 0,G false,V O 0 0] 259)) (cl #[G false] 4);simpa using this
 have aC:(((((w.alloc (cl #[it .i64 z,gS ⟨s.toArray⟩,G o,G last] 243)).alloc (cl #[it .i64 0,G false,V O 0 0] 259)).alloc (cl #[G false] 4)).alloc (cl #[it .i64 z,G false,V O 0 0] 259)).alloc (cl #[it .i64 z,G last,V O 0 0] 259)).heap[w.heap.size+1+1+1]? =E (cl #[it .i64 z,G false,V O 0 0] 259):=by
  refine(zI _ _ _ sd).trans ?_;have:=zq (((w.alloc (cl #[it .i64 z,gS ⟨s.toArray⟩,G o,G last] 243)).alloc (cl #[it .i64 0,G false,V O 0 0] 259)).alloc (cl #[G false] 4)) (cl #[it .i64 z,G false,V O 0 0] 259);simpa using this
 have ao:(((((w.alloc (cl #[it .i64 z,gS ⟨s.toArray⟩,G o,G last] 243)).alloc (cl #[it .i64 0,G false,V O 0 0] 259)).alloc (cl #[G false] 4)).alloc (cl #[it .i64 z,G false,V O 0 0] 259)).alloc (cl #[it .i64 z,G last,V O 0 0] 259)).heap[w.heap.size+1+1+1+1]? =E (cl #[it .i64 z,G last,V O 0 0] 259):=by
  have:=zq ((((w.alloc (cl #[it .i64 z,gS ⟨s.toArray⟩,G o,G last] 243)).alloc (cl #[it .i64 0,G false,V O 0 0] 259)).alloc (cl #[G false] 4)).alloc (cl #[it .i64 z,G false,V O 0 0] 259)) (cl #[it .i64 z,G last,V O 0 0] 259);simpa using this
 refine JO func256 ntmps256 (h:=?_);gi_wp2;generalize (((((w.alloc (cl #[it .i64 z,gS ⟨s.toArray⟩,G o,G last] 243)).alloc (cl #[it .i64 0,G false,V O 0 0] 259)).alloc (cl #[G false] 4)).alloc (cl #[it .i64 z,G false,V O 0 0] 259)).alloc (cl #[it .i64 z,G last,V O 0 0] 259))=w0 at *;have b1:=zi (fun W (hW:Ext w0 W)=>(hW.block _ (zf.1 az).1).trans az);have ah:=zi (fun W (hW:Ext w0 W)=>(hW.block _ (zf.1 aA).1).trans aA);have ai:=zi (fun W (hW:Ext w0 W)=>(hW.block _ (zf.1 aB).1).trans aB);have aj:=zi (fun W (hW:Ext w0 W)=>(hW.block _ (zf.1 aC).1).trans aC);have b2:=zi (fun W (hW:Ext w0 W)=>(hW.block _ (zf.1 ao).1).trans ao);have bm:=(zf.1 ao).1;clear az aA aB aC ao;refine(zS.2 (zjj _ w0)).mono ?_;rintro e w1 ⟨rfl,rfl⟩;have aJ:=zi (words_list s om w0);gi_wp2;refine(zS.2 aJ.out).mono ?_;rintro e c ⟨a1,a2,aL,R,i,rfl,aE,bd,aF,aM⟩;have I:=((Ext.refl w0).alloc _).trans (Ext.of aM);clear aJ aM;have a9:=zi aE;have HT:=zi (aF.tail sp);have aq:=zcJ (s.length+1) s;rw[show Jh (s.length+1) s=R::i.map (fun t=>t.s.data.toList)from aE]at aq;have bD:i.length<=90000:=by
  have:=aq.1;simp at this;omega
 have b9:Hid (∀t∈i,t.s.size<=1000000000):=fun t ht=>by
  have n:=aq.2 t.s.data.toList (Zu _ (zdb ht));rw[qN]at n;omega
 have q0:c.cell? ⟨a1,a2,O⟩=E (gS ⟨R.toArray⟩):=by
  rcases aF with ⟨h,_⟩|⟨_,_,_,n,h2,h3,q⟩
  ·cases h
  ·simp only[zV,z7,je]at n;obtain⟨⟨rfl,rfl,_⟩,_,_⟩:=n;have:=q 0 _ rfl 0 _ rfl;simpa using this
 clear aE aF aq bd;have a0:=b1.out c I;have p2:=c_ 2 a0;have p3:=c_ 3 a0;clear a0;cases o with
 |false=>
  have f:=ah.out c I;have p:=ai.out c I;have v:=aj.out c I;have m0:=c_ 0 v;have m1:=c_ 1 v;have m2:=c_ 2 v;have c0:=c_ 0 f;have c1:=c_ 1 f;have c2:=c_ 2 f;have c3:=c_ 0 p;have f0:c.frozen? ⟨w.heap.size+1,0,O⟩=false:=T.ZX f;have f1:c.frozen? ⟨w.heap.size+1,1,O⟩=false:=T.ZX f;have f2:c.frozen? ⟨w.heap.size+1,2,O⟩=false:=T.ZX f;have f3:c.frozen? ⟨w.heap.size+1+1,0,O⟩=false:=T.ZX p;gi_wp2;refine zfO (wpIn_wide.2 (zdk (S:=fun W=>W.cell? ⟨w.heap.size,2,O⟩=E (G false)/\W.cell? ⟨w.heap.size,3,O⟩=E (G last)/\W.cell? ⟨a1,a2,O⟩=E (gS ⟨R.toArray⟩)) kr ?_));have ae:c.drew.cell? ⟨w.heap.size,2,O⟩=E (G false)/\c.drew.cell? ⟨w.heap.size,3,O⟩=E (G last)/\c.drew.cell? ⟨a1,a2,O⟩=E (gS ⟨R.toArray⟩):=⟨p2,p3,q0⟩;show wpAnyH _ _ _ _ _ _ _ _ c.drew
  refine tkv 0 (h:=?_);refine tkv 1 (h:=?_);refine tkv 2 (h:=?_);refine tkv 3 (h:=?_);refine tks 4 (h:=?_);refine tks 5 (h:=?_);refine tks 6 (h:=?_);refine tks 7 (h:=?_);refine tks 8 (h:=?_);refine tks 9 (h:=?_);refine tks 10 (h:=?_);refine tkv 11 (h:=?_);refine QB kr ?_ _;refine⟨rfl,?_⟩;obtain⟨F,Q,K⟩:=zgb om f p (it .i64 z) (G false) (V O 0 0) (G false);have m:=zi (And.intro F (And.intro Q K));clear F Q K;gi_wp2;have d0:=c_ 0 m.out.1;have d1:=c_ 1 m.out.1;have d2:=c_ 2 m.out.1;have d3:=c_ 0 m.out.2.1;exact⟨tp #[ag #[it .i64 z,G false,V O 0 0],G false],by simp[results,results256,go_sem,d0,d1,d2,d3],av.out _ rfl (Below.drawn (ZA (af.trans I) (m.out.2.2.below (by have:=(af.trans I).size;omega) (fun b a=>om))) 1)⟩
 |true=>
  by_cases aD:R=zeh last
  ·subst aD;by_cases aN:aL=1
   all_goals try subst aN
   all_goals
    gi_wp2;refine zfO (wpIn_wide.2 (zdk (S:=fun W=>W.cell? ⟨w.heap.size,2,O⟩=E (G true)/\W.cell? ⟨w.heap.size,3,O⟩=E (G last)/\W.cell? ⟨a1,a2,O⟩=E (gS ⟨(zeh last).toArray⟩)) kr ?_));have ae:c.drew.cell? ⟨w.heap.size,2,O⟩=E (G true)/\c.drew.cell? ⟨w.heap.size,3,O⟩=E (G last)/\c.drew.cell? ⟨a1,a2,O⟩=E (gS ⟨(zeh last).toArray⟩):=⟨p2,p3,q0⟩;show wpAnyH _ _ _ _ _ _ _ _ c.drew
    refine tkv 0 (h:=?_);refine tkv 1 (h:=?_);refine tkv 2 (h:=?_);refine tkv 3 (h:=?_);refine tkv 4 (h:=?_);refine tkv 5 (h:=?_);refine tkv 6 (h:=?_);refine tkv 7 (h:=?_);refine tkv 8 (h:=?_);refine rd1 9 (h:=fun ay hK=>?_);go_simp;go_at_call 332
    refine(zfq last _).mono ?_;rintro e k ⟨rfl,rfl⟩;go_wp2_with fail
    refine hK.out _ _ am (h:=fun ae=>?_);clear hK ay;refine tkv 10 (h:=?_);refine tkv 11 (h:=?_);refine QB kr ?_ _;refine⟨rfl,?_⟩;gi_wp2;refine(zS.2 (zla _ i.length _ c.drew)).mono ?_;rintro e k ⟨rfl,ap⟩;have aH:Ext c k:=by rw[ap];exact(Ext.refl c).drew.alloc _
    first
     |obtain⟨ad,cp,hvs⟩:∃ad cp,V ad i.length cp=V (E ⟨a1,a2,O⟩) i.length 0:=⟨_,_,rfl⟩
      have k1:k.cell? ⟨c.heap.size,0,O⟩=E (V ad i.length cp):=by rw[ap,hvs];exact c_ 0 (zq c.drew _)
      have ak:=zi ((HT.out.1 (by first|trivial|rfl)).ext aH);rw[<-hvs]at ak
     |obtain⟨ad,cp,hvs⟩:∃ad cp,V ad i.length cp=V (E ⟨a1,a2+1,O⟩) i.length (aL-1):=⟨_,_,rfl⟩
      have k1:k.cell? ⟨c.heap.size,0,O⟩=E (V ad i.length cp):=by rw[ap,hvs];exact c_ 0 (zq c.drew _)
      have ak:=zi ((HT.out.2 aN).ext aH);rw[<-hvs]at ak
    clear ap hvs;have x3:=I.trans aH;have a3:=af.trans x3;have n5:=b2.out k x3;have bb:=(zf.1 n5).1;have bz:=zv bm I.size;have bC:∀b,b=w.heap.size+1+1+1+1->qU k b:=fun b a=>by rw[a];exact qj n5 n3
    clear q0 p2 p3 ae;gi_wp2;refine jB (zj9 i ad cp c.heap.size om b9.out) rfl (ZJ func371 kr rfl) (fun D au W=>by rintro⟨t,d,_,rfl,_⟩;rfl)
     (LrI k (w.heap.size+1+1+1+1) (w.heap.size+1) (w.heap.size+1+1) i.length z last (zgd i)) (LrX w (w.heap.size+1) (w.heap.size+1+1) z (zgd i)) (fun b=>b=w.heap.size+1+1+1+1\/b=w.heap.size+1\/b=w.heap.size+1+1) ?hI ?hIx ?hC ?h0 ?round ?done ?stop
    case hI=>exact fun D aa A b0 h hk=>h.keep hk
    case hIx=>exact fun R D A b0 h hk=>h.keep hk a3.size
    case hC=>
     rintro D aa A ⟨n,h2,h0,au,g,fr,h3,q,h5,C,h7,M⟩;have bh:=(zf.1 q).1;refine⟨⟨n.cell (p:=⟨c.heap.size,0,O⟩) so k1,(ak.out.wr n (fun b a ht=>by rw[a]at ht;exact absurd (ht.one ⟨_,_,n5⟩) dc)).recs⟩,fun b a=>?_⟩;rcases(M b).1 a with rfl|a|a|a
     ·exact bh
     ·exact(C.type b a).1.lt
     ·omega
     ·omega
    case h0=>exact⟨Wr.refl _ _,qp _,(fun u N=>om),V O 0 0,[],(0,0),rfl,n5,T.ZX n5,Grw.nil _ _ _ _,(fun u a5 h=>by simp at h),fun b=>by simp[Value.ownBlock]⟩
    case round=>
     rintro l2 D au aa A bl ⟨t0,⟨⟨ra,rl,rc⟩,⟨fb,⟨Z,fl,fc⟩,⟨U,Y,X⟩⟩⟩,aX,rfl,aV⟩ ⟨n,h2,h0,au,g,fr,h3,q,h5,C,h7,M⟩;have aW:(zgd i) D=t0.s.data.toList:=by
      show(i.map fun t=>t.s.data.toList).getD D []=_
      rw[zk,zQ,aX];rfl
     have b8:Hid (T.QG t0.s.data.toList=true->zaW A ⟨(ra,rl,rc),⟨fb,(Z,fl,fc),(U,Y,X)⟩⟩ (jx t0.s.data.toList)):=aV;clear aV aX;generalize t0.s.data.toList=ql at *;have ax:=zi aW;clear aW;obtain⟨y,B,rfl⟩:=C.shape;rw[zo]at q C M;have a8:=zi h3;have bE:g.length<=100000:=om;clear h3;have bn:∀aY,Hid aY->aY:=fun _ h=>h
     obtain⟨ok,hok⟩:∃ok,T.QG ql=ok:=⟨_,rfl⟩;rw[hok];have aw:=zi hok;clear hok;simp only[DP.val,DP.rv,T.Tri.up,T.Tri.down];unfold Qr;gi_wp2;refine⟨Wr.of_below ((Ext.refl A).alloc _),fun l aR=>?_⟩;have xA:=(zw.alloc k.heap.size A (cl #[V ra rl rc,G fb,V Z fl fc,V U Y X] 454)).trans aR;have e0:=aR.block _ _ (zq A (cl #[V ra rl rc,G fb,V Z fl fc,V U Y X] 454)) (.inr rfl);have e2:=xA.block _ _ q (.inr rfl);have bA:=(zf.1 q).1;have bg:=(zf.1 e2).1;have G2:=C.keep xA;have P:=n.keep xA;have aS:∀b,(V y g.length B).ownBlock=E b->k.heap.size<=b/\b<A.heap.size:=fun b a=>⟨(C.type b a).2,(C.type b a).1.lt⟩
     have bB:=P.size;have aI:=ZA a3 (P.below (B:=w.heap.size) a3.size (fun b a=>om));refine zaK ?_;refine zbX ?_;refine zbX ?_;refine JJ (by rfl) (fun⟨aK,w,h⟩=>h) ?_;cases ok with
     |true=>
      go_wp2_with fail
      refine(show(Code.cond _ _ _).wpIn _ _ _ _ _ _ from zc4 rfl (wpIn_skip ?_));have d0:=c_ 0 e0;have d1:=c_ 1 e0;have d2:=c_ 2 e0;have d3:=c_ 3 e0;have bw:l.cell? ⟨w.heap.size+1+1+1+1,2,O⟩=E (V y g.length B):=c_ 2 e2;have aZ:=(zt (w:=A) (a:=⟨w.heap.size+1+1+1+1,2,O⟩) (e2.trans q.symm)).trans h5;have G3:=G2.ext ((Ext.refl l).alloc (cl #[V ra rl rc,G fb,V Z fl fc,V U Y X] 454));have aU:=G3.own;rw[zo]at aU;have be:=G3.dig;have b3:Hid (∀(g4 a6:Nat) (L:H),L.ownsRow k.heap.size 454 4 (V (E ⟨g4,0,O⟩) (g.length+1) a6) (g.length+1) ((g.map DP.cells).flatten ++ [V ra rl rc,G fb,V Z fl fc,V U Y X])->qU L g4->(l.alloc (cl #[V ra rl rc,G fb,V Z fl fc,V U Y X] 454)).grownBy L (V y g.length B).ownBlock->((V y g.length B).ownBlock=E g4\/g4=l.heap.size+1)->L.cell? ⟨w.heap.size+1+1+1+1,2,O⟩=E (V y g.length B)/\L.frozen? ⟨w.heap.size+1+1+1+1,2,O⟩=false/\Qs aa (LrI k (w.heap.size+1+1+1+1) (w.heap.size+1) (w.heap.size+1+1) i.length z last (zgd i)) (LrX w (w.heap.size+1) (w.heap.size+1+1) z (zgd i)) D A l .normal { tmps:=#[],defers:= [] } (L.setCell ⟨w.heap.size+1+1+1+1,2,O⟩ (V (E ⟨g4,0,O⟩) (g.length+1) a6))):=by
       intro g4 a6 L ar an ab al;have b4:=(ab.block _ so (fun e=>by have:=(aS _ e.symm).1;omega)).trans (zI _ _ _ bg);have bv:L.ownsRow k.heap.size 454 4 (V (E ⟨g4,0,O⟩) ((g.map DP.cells).length+1) a6) ((g.map DP.cells).length+1) ((g.map DP.cells).flatten ++ [V ra rl rc,G fb,V Z fl fc,V U Y X]):=by rw[zo];exact ar
       obtain⟨q1,q2,q3,q4⟩:=zfU (j:=2) G2 rfl bv an ab e2 bb (by simpa using al);rw[zo]at q1 q2 q3 q4;have aT:∀b,b=w.heap.size+1+1+1+1\/(V y g.length B).ownBlock=E b->qU l b:=by
        rintro b (rfl|a);·exact qj e2 n3
        ·exact G2.dig b a
       refine⟨(zP (a:=⟨w.heap.size+1+1+1+1,2,O⟩) b4).trans bw,(zt (a:=⟨w.heap.size+1+1+1+1,2,O⟩) b4).trans aZ,?_⟩;refine⟨q1.mono (fun b a=>(M b).2 (a.elim .inl (fun e=> .inr (.inl e)))),fun b=>b=w.heap.size+1+1+1+1\/(V (E ⟨g4,0,O⟩) (g.length+1) a6).ownBlock=E b\/b=w.heap.size+1\/b=w.heap.size+1+1,⟨?_,bl,fun u N=>?_,_,g ++ [⟨(ra,rl,rc),⟨fb,(Z,fl,fc),(U,Y,X)⟩⟩],fr,by rw[zX,qF,a8.out],q2,?_,by rw[ZN];exact q3,fun u a5 r=>?_,fun b=>Ql⟩,fun b a=>?_⟩
       ·exact⟨q1.os.trans P.os,q1.tape.trans P.tape,q1.output.trans P.output,zL P.size q1.size,fun b a aG=>(q1.block b (zv a P.size) (fun e=>by
         rcases e with e|e
         ·exact aG e
         ·have:=(aS b e).1;omega)).trans (P.block b a aG)⟩
       ·rcases Z8 u D with h|h
        ·exact h0 u h
        ·have:u=D:=om;rw[this,ax.out];exact aw.out
       ·simpa using (zt (w:=l) (a:=⟨w.heap.size+1+1+1+1,2,O⟩) b4).trans aZ
       ·by_cases bk:u<g.length
        ·rw[zM bk]at r;exact((h7 u a5 r).keep xA).wr q1 aT
        ·have aQ:u=g.length:=by
          have:=(zn.1 r).1;simp at this;omega
         rw[aQ,zJ (zh _),Zy]at r;have e5:=qV r;subst e5;have bj:=aQ.trans a8.out;rw[bj,ax.out];exact((b8.out aw.out).keep xA).wr q1 aT
       ·rcases a with a|a|a
        ·exact .inl ((M b).2 (.inl a))
        ·rcases q4 b (.inr a)with h|h
         ·exact .inl ((M b).2 (h.elim .inl (fun e=> .inr (.inl e))))
         ·exact .inr (zL xA.size h)
        ·exact .inl ((M b).2 (.inr (.inr a)))
      clear e0 e2 n q h5 C h7 M P aI;refine(show(Code.region _ _ _).wpIn _ _ _ _ _ _ from JJ (by rfl) (fun⟨aK,w,h⟩=>h) ?_);go_wp2_with (at_builtin;refine bn _ ?_)
      unfold Hid;refine J6 _ rfl _ _ 257 rfl k.heap.size 454 i0 (ag #[V O 0 0,G false,V O 0 0,V O 0 0]) 4 80 underlying257 bi bp bq br rfl dc (V y g.length B) g.length (g.map DP.cells).flatten rfl aU ⟨l.heap.size,0,O⟩ 1 1 [V ra rl rc,G fb,V Z fl fc,V U Y X] rfl rfl (rec_new l [V ra rl rc,G fb,V Z fl fc,V U Y X] 454) (by intro a5 r;simp only[qw,Zi,QF]at r;rcases r with rfl|rfl|rfl|rfl<;>rfl) om mo om so (l.heap.size+1) sp (by intro a5 r;simp[Value.cells]at r;rcases r with rfl|rfl|rfl|rfl<;>(intro bt e;cases e)) (by intro a5 r;simp only[qw,Zi,QF]at r;rcases r with rfl|rfl|rfl|rfl<;>(intro bt e;cases e)) be ?_;intro g4 a6 L ar ab al bs an;obtain⟨_,_,aP⟩:=b3.out g4 a6 L ar an ab al;have HF:=zi aP;clear aP ar ab al bs an;go_wp2_with fail
      exact HF.out
     |false=>
      go_wp2_with fail
      refine(show(Code.cond _ _ _).wpIn _ _ _ _ _ _ from zdi rfl (zbX ?_));have HW:=zi (fun b bu (a:k.heap[b]? =E bu) (hn:¬b=w.heap.size+1+1+1+1)=>P.some a hn);have f:=HW.out _ _ (ah.out k x3) om;have p:=HW.out _ _ (ai.out k x3) om;have v:=HW.out _ _ (aj.out k x3) om;have m0:=c_ 0 v;have m1:=c_ 1 v;have m2:=c_ 2 v;have c0:=c_ 0 f;have c1:=c_ 1 f;have c2:=c_ 2 f;have c3:=c_ 0 p;have f0:l.frozen? ⟨w.heap.size+1,0,O⟩=false:=T.ZX f;have f1:l.frozen? ⟨w.heap.size+1,1,O⟩=false:=T.ZX f;have f2:l.frozen? ⟨w.heap.size+1,2,O⟩=false:=T.ZX f;have f3:l.frozen? ⟨w.heap.size+1+1,0,O⟩=false:=T.ZX p;obtain⟨F,Q,K⟩:=zgb om f p (it .i64 z) (G false) (V O 0 0) (G false);have HX:Hid (Wr aa l ((((l.setCell ⟨w.heap.size+1,0,O⟩ (it .i64 z)).setCell ⟨w.heap.size+1,1,O⟩ (G false)).setCell ⟨w.heap.size+1,2,O⟩ (V O 0 0)).setCell ⟨w.heap.size+1+1,0,O⟩ (G false))/\LrX w (w.heap.size+1) (w.heap.size+1+1) z (zgd i) .ret D ((((l.setCell ⟨w.heap.size+1,0,O⟩ (it .i64 z)).setCell ⟨w.heap.size+1,1,O⟩ (G false)).setCell ⟨w.heap.size+1,2,O⟩ (V O 0 0)).setCell ⟨w.heap.size+1+1,0,O⟩ (G false))):=by
       refine⟨K.mono (fun b a=>(M b).2 (.inr (.inr a))),rfl,?_,aI.trans (K.below (by have:=a3.size;omega) (fun b a=>om)),c_ 0 F,c_ 1 F,c_ 2 F,c_ 0 Q⟩;rw[ax.out];exact aw.out
      clear F Q K f p v e0 e2 n q h5 C h7 M P aI HW;refine JJ (by rfl) (fun⟨aK,w,h⟩=>h) ?_;go_wp2_with fail
      refine(show Code.ret.wpIn _ _ _ _ _ _ from wpIn_ret ?_);exact HX.out
    case done=>
     rintro a7 aa A hD ⟨n,h2,h0,au,g,fr,h3,q,h5,C,h7,M⟩ hd;obtain⟨y,B,rfl⟩:=C.shape;rw[zo]at q C;have a8:=zi h3;have n0:=c_ 0 q;have bF:=c_ 1 q;have n2:=c_ 2 q;have f:=n.some (ah.out k x3) (fun e=>by have:w.heap.size+1=w.heap.size+1+1+1+1:=e;omega);have p:=n.some (ai.out k x3) (fun e=>by have:w.heap.size+1+1=w.heap.size+1+1+1+1:=e;omega);have v:=n.some (aj.out k x3) (fun e=>by have:w.heap.size+1+1+1=w.heap.size+1+1+1+1:=e;omega);have m0:=c_ 0 v;have m1:=c_ 1 v;have m2:=c_ 2 v;have c0:=c_ 0 f;have c1:=c_ 1 f;have c2:=c_ 2 f;have c3:=c_ 0 p;have f0:A.frozen? ⟨w.heap.size+1,0,O⟩=false:=T.ZX f;have f1:A.frozen? ⟨w.heap.size+1,1,O⟩=false:=T.ZX f;have f2:A.frozen? ⟨w.heap.size+1,2,O⟩=false:=T.ZX f;have f3:A.frozen? ⟨w.heap.size+1+1,0,O⟩=false:=T.ZX p;have b5:Hid (Je last (s,true)=true):=by
      unfold Hid Je;simp only[a9.out,List.headD_cons,zdL,zdl,zbp,ZE];rw[qR];intro bx hy;obtain⟨u,N,rfl⟩:=QS hy;have h9:T.QG ((i.map fun t=>t.s.data.toList).getD u [])=true:=h0 u (by rw[zo]at N;exact N);rw[zk,zj N]at h9;exact h9
     have b7:Hid (JZ A (V y g.length B) (((qg s).drop 1).map jx)):=by
      refine⟨g,?_,C.list,fun u a5 bx r hy=>?_⟩;·rw[a9.out,zdL,zdl,zo,zo,a8.out]
      ·rw[a9.out,zdL,zdl,zQ]at hy;have N:u<(i.map fun t=>t.s.data.toList).length:=by
        have:=(zn.1 r).1;have:=a8.out;rw[zo];omega
       rw[zj N]at hy;simp only[Zz,z7]at hy;have h9:zaW A a5 (jx ((i.map fun t=>t.s.data.toList).getD u [])):=h7 u a5 r;rw[zk,zj N]at h9;rw[<-hy];exact h9
     obtain⟨F,Q,K⟩:=zgb om f p (it .i64 z) (G last) (V y g.length B) (G true);have m:=zi (And.intro F (And.intro Q K));clear h3 h7 h0 F Q K m0 m1 m2 v;gi_wp2;have aO:=(m.out.2.2.block a7 (zf.1 hd).1 om).trans hd;refine qt aO ?_;have J:zw k.heap.size ((((A.setCell ⟨w.heap.size+1,0,O⟩ (it .i64 z)).setCell ⟨w.heap.size+1,1,O⟩ (G last)).setCell ⟨w.heap.size+1,2,O⟩ (V y g.length B)).setCell ⟨w.heap.size+1+1,0,O⟩ (G true)) (((((A.setCell ⟨w.heap.size+1,0,O⟩ (it .i64 z)).setCell ⟨w.heap.size+1,1,O⟩ (G last)).setCell ⟨w.heap.size+1,2,O⟩ (V y g.length B)).setCell ⟨w.heap.size+1+1,0,O⟩ (G true)).putObj a7 (.deferred O)):=zw.putObj _ hD aO rfl;have d0:=J.cell (c_ 0 m.out.1);have d1:=J.cell (c_ 1 m.out.1);have d2:=J.cell (c_ 2 m.out.1);have d3:=J.cell (c_ 0 m.out.2.1);have bo:=b7.out.wr m.out.2.2 (fun b a=>by
      rcases a with rfl|rfl
      ·exact⟨fun ht=>absurd (ht.one ⟨_,_,f⟩) dc,qj f n3⟩
      ·exact⟨fun ht=>absurd (ht.one ⟨_,_,p⟩) dc,qj p n1⟩)
     have bc:=(ZA a3 (n.below (B:=w.heap.size) a3.size (fun b a=>om))).trans (m.out.2.2.below (by have:=a3.size;have:=n.size;omega) (fun b a=>om));refine⟨tp #[ag #[it .i64 z,G last,V y g.length B],G true],by simp[results,results256,go_sem,d0,d1,d2,d3],?_⟩;exact ba.out _ (y,g.length,B) b5.out (bo.keep J) ((J.mono a3.size).below bc (zh _) (zh _))
    case stop=>
     rintro a7 R D A hD hk ⟨rfl,n,h2,h3,q,h5,C⟩ hd;gi_wp2;refine qt hd ?_;have J:zw k.heap.size A (A.putObj a7 (.deferred O)):=zw.putObj _ hD hd rfl;have d0:=J.cell h3;have d1:=J.cell q;have d2:=J.cell h5;have d3:=J.cell C;have bf:Je last (s,true)=false:=by
      unfold Je;simp only[a9.out,List.headD_cons,zdL,zdl,zbp,ZE];rw[QT];have N:D<(i.map fun t=>t.s.data.toList).length:=by rw[zo];exact hk
      refine⟨_,zZ N,?_⟩;have h9:T.QG ((i.map fun t=>t.s.data.toList).getD D [])=false:=n;rw[zk,zj N]at h9;simpa using h9
     exact⟨tp #[ag #[it .i64 z,G false,V O 0 0],G false],by simp[results,results256,go_sem,d0,d1,d2,d3],av.out _ bf ((J.mono a3.size).below h2 (zh _) (zh _))⟩
  ·have aG:(R == zeh last)=false:=by simpa using aD
   have b6:Hid (Je last (s,true)=false):=by
    unfold Hid Je;simp only[a9.out,List.headD_cons];rw[ZB aD];rfl
   have f:=ah.out c I;have p:=ai.out c I;have v:=aj.out c I;have m0:=c_ 0 v;have m1:=c_ 1 v;have m2:=c_ 2 v;have c0:=c_ 0 f;have c1:=c_ 1 f;have c2:=c_ 2 f;have c3:=c_ 0 p;have f0:c.frozen? ⟨w.heap.size+1,0,O⟩=false:=T.ZX f;have f1:c.frozen? ⟨w.heap.size+1,1,O⟩=false:=T.ZX f;have f2:c.frozen? ⟨w.heap.size+1,2,O⟩=false:=T.ZX f;have f3:c.frozen? ⟨w.heap.size+1+1,0,O⟩=false:=T.ZX p;gi_wp2;refine zfO (wpIn_wide.2 (zdk (S:=fun W=>W.cell? ⟨w.heap.size,2,O⟩=E (G true)/\W.cell? ⟨w.heap.size,3,O⟩=E (G last)/\W.cell? ⟨a1,a2,O⟩=E (gS ⟨R.toArray⟩)) kr ?_));have ae:c.drew.cell? ⟨w.heap.size,2,O⟩=E (G true)/\c.drew.cell? ⟨w.heap.size,3,O⟩=E (G last)/\c.drew.cell? ⟨a1,a2,O⟩=E (gS ⟨R.toArray⟩):=⟨p2,p3,q0⟩;show wpAnyH _ _ _ _ _ _ _ _ c.drew
   refine tkv 0 (h:=?_);refine tkv 1 (h:=?_);refine tkv 2 (h:=?_);refine tkv 3 (h:=?_);refine tkv 4 (h:=?_);refine tkv 5 (h:=?_);refine tkv 6 (h:=?_);refine tkv 7 (h:=?_);refine tkv 8 (h:=?_);refine rd1 9 (h:=fun ay hK=>?_);go_simp;go_at_call 332
   refine(zfq last _).mono ?_;rintro e k ⟨rfl,rfl⟩;go_wp2_with fail
   refine hK.out _ _ am (h:=fun ae=>?_);clear hK ay;refine tkv 10 (h:=?_);refine tkv 11 (h:=?_);refine QB kr ?_ _;refine⟨rfl,?_⟩;obtain⟨F,Q,K⟩:=zgb om f p (it .i64 z) (G false) (V O 0 0) (G false);have m:=zi (And.intro F (And.intro Q K));clear F Q K;gi_wp2;have d0:=c_ 0 m.out.1;have d1:=c_ 1 m.out.1;have d2:=c_ 2 m.out.1;have d3:=c_ 0 m.out.2.1;exact⟨tp #[ag #[it .i64 z,G false,V O 0 0],G false],by simp[results,results256,go_sem,d0,d1,d2,d3],av.out _ b6.out (Below.drawn (ZA (af.trans I) (m.out.2.2.below (by have:=(af.trans I).size;omega) (fun b a=>om))) 1)⟩
end Go.Proofs.YtnhfdcfnojnofaaGreatDoor
