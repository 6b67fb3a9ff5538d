import Derived.Test.YtnhfdcfnojnofaaGreatDoorAds1Z47
open Option renaming none->O,some->E
open Go.Value renaming slice->V,bool->G,string->gS,pointer->pn,tuple->tp,int->it,agg->ag
open Go.Obj renaming cells->cl
open Go renaming World->H
open Go.Proofs.Tryz renaming prog->pg
open Go.Proofs.Tryz
set_option linter.unusedSimpArgs false
set_option linter.unusedVariables false
set_option maxHeartbeats 8000000
set_option maxRecDepth 100000
namespace Go.Proofs.YtnhfdcfnojnofaaGreatDoor
open Go.RowKit
theorem zho (g:Nat)(w:H)(h:w.cell? ⟨g,1,O⟩=E (V O 0 0)):
 Calls pg 40 #[pn (E ⟨g,1,O⟩)] w fun e w'=>e= .returned (G true)/\w'=w:=by
 go_enter func40,ntmps40
 go_wp2;go_loop [3] (fun v=>v=it .i64 0) (fun v=>(intOf v).toNat)
 case atStart=>rfl
 case round=>
  subst hrel;go_wp2;go_ret;exact⟨rfl,rfl⟩
def StepAt (w:H)(b off:Nat):Prop:=
 ∃(k a c:Int) (s t:ByteArray) (lo:Option Addr) (ll lc:Nat),s.size<=9223372036854775807/\t.size<=9223372036854775807/\
  w.cell? ⟨b,off,O⟩=E (it .i64 k)/\w.cell? ⟨b,off+1,O⟩=E (it .i64 a)/\w.cell? ⟨b,off+2,O⟩=E (it .i64 c)/\w.cell? ⟨b,off+3,O⟩=E (gS s)/\w.cell? ⟨b,off+4,O⟩=E (gS t)/\w.cell? ⟨b,off+5,O⟩=E (V lo ll lc)
theorem StepAt.below {w w':H}{b a B:Nat}(h:StepAt w b a)(d:Below B w w')(c:b<B):StepAt w' b a:=by
 obtain⟨q,e,f,u,v,t,s,r,n,o,g,i,j,k,l,m⟩:=h;exact⟨q,e,f,u,v,t,s,r,n,o,(d.cell (p:=⟨b,a,O⟩) c).trans g,(d.cell (p:=⟨b,a+1,O⟩) c).trans i,(d.cell (p:=⟨b,a+2,O⟩) c).trans j,(d.cell (p:=⟨b,a+3,O⟩) c).trans k,(d.cell (p:=⟨b,a+4,O⟩) c).trans l,(d.cell (p:=⟨b,a+5,O⟩) c).trans m⟩
end Go.Proofs.YtnhfdcfnojnofaaGreatDoor
namespace Go.Proofs.YtnhfdcfnojnofaaGreatDoor.T
open Go.RowKit
def zdB (xo:Option Addr)(LL:List (List UInt8×Bool))(w:H):Prop:=∀(i:Nat) (y:List UInt8×Bool),LL[i]? =E y->∃g o,xo=E ⟨g,o,O⟩/\w.cell? ⟨g,o+i,O⟩=E (gS ⟨y.1.toArray⟩)
theorem zdB.ext {b:Option Addr}{a:List (List UInt8×Bool)}{w w':H}(h:zdB b a w)(c:Ext w w'):zdB b a w':=fun i y d=>by
 obtain⟨g,o,a,b⟩:=h i y d;exact⟨g,o,a,c.cell b⟩
theorem zdB.grown {b:Option Addr}{c:List (List UInt8×Bool)}{w w':H}{row:Option Nat}(h:zdB b c w)(d:w.grownBy w' row)(f:∀a:Addr,b=E a->row≠E a.block):zdB b c w':=fun i y e=>by
 obtain⟨g,o,b,c⟩:=h i y e;exact⟨g,o,b,(d.cell_far ⟨g,o+i,O⟩ (zN c) (fun e=>f _ b e.symm)).trans c⟩
theorem zou {K m:Nat}(h:m<4*K):10^m<10000^K:=by
 have e:10000^K=10^(4*K):=by rw[Nat.pow_mul]
 rw[e];exact Nat.pow_lt_pow_right om h
theorem zn2 {a:List (List UInt8)}{l:List UInt8}(h:l∈a):l.length+1<=Jn a:=by
 unfold Jn;induction a with
 |nil=>simp at h
 |cons a r a=>
  rw[ZF,zbo];rcases qw.1 h with rfl|h
  ·omega
  ·have:=a h;omega
theorem zn3 {a:List (List UInt8×Bool)}{k:Nat}{y:List UInt8×Bool}(b:a[k]? =E y):((a.drop k).map fun x=>x.1.length).sum=y.1.length+((a.drop (k+1)).map fun x=>x.1.length).sum:=by
 obtain⟨a,rfl⟩:=zn.1 b;rw[Zn a,ZF,zbo]
theorem zlj {w:H}{v:Value}{zs:List (Int×Nat)}(h:Qj w v zs)(b:zs.all (fun a=>decide (a.2=1))=true):Qj w v ((zs.map Prod.fst).map fun z=>(z,1)):=by
 have e:(zs.map Prod.fst).map (fun z=>(z,1))=zs:=by
  rw[ZV];clear h;induction zs with
  |nil=>rfl
  |cons a r c=>
   rw[zci,ZQ]at b;rw[ZF,c b.2];congr 1
   exact Prod.ext rfl (QU b.1).symm
 rw[e];exact h
theorem zmE (W1 w:H)(gp L:Nat)(p:qo)(h:RPr W1 w gp p)(ah:ji L p)(hL:2+p.n<=L)(kind z:Int)(Z:Tri)(hZ:qe w Z.val z 1)(bz:z.natAbs<=10^100)(D:ByteArray)(cI:D.size<=20000):
 Calls pg 110 #[pn (E ⟨gp,0,O⟩),it .i64 kind,ag #[G Z.b,Z.up,Z.down],gS D] w fun e w'=>e= .returned (tp #[it .i64 ((QR p.n (jM p kind z) 0 (zaV p) (qE D.data.toList)).1:Nat),it .i64 ((QR p.n (jM p kind z) 0 (zaV p) (qE D.data.toList)).2:Nat)])/\Below w.heap.size w w':=by
 obtain⟨cr,bM⟩:=ah.n om;have cq:=ah.m om;obtain⟨i0,ck,cy,cz,cA⟩:=qL Tryz.infoRowRef;have cu:∀ak:Prop,Hid ak->ak:=fun ak h=>h
 obtain⟨Zb,⟨Za,Zl,Zk⟩,⟨Ya,Yl,Yk⟩⟩:=Z;simp only[Tri.up,Tri.down,Tri.val]at hZ⊢;obtain⟨a5,hK,cf,P⟩:∃a5,a5+a5<100000000/\a5<=10000000/\∀bb,bb<80000->10^bb<10000^a5:=⟨20000,dc,dc,fun bb hm=>zou om⟩;have bu:=zi (fun W (hW:Ext w W)=>zjI W1 W gp L p (h.below hW) ah hL);have bs:=zi (zeV ah hL);have cj:=zhm ah bM;have br:Hid (∀W vR vP rows (i:List (List UInt8)) l S,zds W vR rows->Prts W vP (i.map Jk)->rows.length<=1000000->i.length<=1000000->Jl p.n (10^l) rows->(∀v∈i,QG v=true)->Jn i<=S->S<=20000->l<=20100->Calls pg 196 #[vR,it .i64 (p.n:Nat),vP] W (MadeR p.n rows (i.map Jk) W)):=by
  intro W vR vP rows i l S hR hP b h2 bQ hk hS cE hc;obtain⟨av,hN⟩:∃av:Nat,av=20000:=⟨_,rfl⟩;refine znL p.n cr bM W vR vP rows (i.map Jk) hR hP b (by rw[zo];exact h2) a5 (10^l) (10^av) (10^av) (10^l*10^S) (10^S) hK cf bQ ?_ (fun k a M=>(zgc bQ hk hS k a M).1) (P _ om) (by rw[<-ZI];exact P _ om) (P _ om) (by rw[<-ZI,<-ZI];exact P _ om) (P _ om) (by rw[<-ZI,<-ZI];exact P _ om);intro B J;obtain⟨v,hl,rfl⟩:=ZC.1 J;have bK:10^v.length<=10^av:=qz om (by have:=zn2 hl;omega);exact(zeU (hk v hl)).mono bK bK
 have bj:Hid (∀W c f d (R:Tri) (a:List (Int×Nat)×(Int×Nat)) l S,Ext w W->Qj W (V c f d) a.1->a.1.length=p.n->qe W R.val (a.2.1/(a.2.2:Int)) 1->zcV (10^l*10^S) (10^S) a->S<=20000->l<=20100->Calls pg 197 #[pn (E ⟨gp,0,O⟩),ag #[V c f d,G R.b,R.up,R.down],it .i64 kind,ag #[G Zb,V Za Zl Zk,V Ya Yl Yk]] W fun e w'=>e= .returned (G (endC p kind z a.1 (a.2.1/(a.2.2:Int))))/\Below W.heap.size W w'):=by
  intro W c f d R a l S hW hg bJ hR M hS hc;have ch:10^l*10^S*10^S<10000^a5:=by rw[<-ZI,<-ZI];exact P _ om
  exact zot W1 W gp L p (h.below hW) ah hL c f d R a.1 _ hg bJ hR kind z ⟨Zb,(Za,Zl,Zk),(Ya,Yl,Yk)⟩ (hZ.below hW) a5 hK (P _ om) (fun j hA=>⟨zr (M.1 j hA).num ch,zr (M.1 j hA).down (P _ om)⟩) (zr (zjA M.2.pos M.2.up) (by rw[<-ZI];exact P _ om)) (zr bz (P _ om))
 have bv:Hid (∀W c f d (R:Tri) (a:List (Int×Nat)×(Int×Nat)) bA S,Qj W (V c f d) a.1->a.1.length=p.n->zcV bA (10^S) a->S<=20000->Calls pg 198 #[ag #[V c f d,G R.b,R.up,R.down]] W fun e w'=>e= .returned (G (a.1.all fun j=>decide (j.2=1)))/\Below W.heap.size W w'):=by
  intro W c f d R a bA S hg bJ M hS;exact zjr W c f d R a.1 hg om a5 om (fun j hA=>zr (M.1 j hA).down (P _ om))
 simp only[Tri.up,Tri.down]at bj bv;have aF:=zi (fun W=>zh4 D W om);rw[zhc]at aF;obtain⟨en,ad⟩:∃en,decide ((part 10 D.data.toList).2= [])=en:=⟨_,rfl⟩;rw[ad]at aF;have HE:Hid (∀(aj:Nat) (B:List UInt8×Bool),(qE D.data.toList)[aj]? =E B->B.2=!decide (aj+1=(qE D.data.toList).length/\en=false)):=by
  intro aj B J;rw[zia _ aj B J,<-ad];simp
 have cg:D.data.toList.length=D.size:=qN D;have b8:=zij D.data.toList;have b5:=(zbd D.data.toList.length D.data.toList);obtain⟨g,hLL⟩:∃g,qE D.data.toList=g:=⟨_,rfl⟩;have b6:g.length<=20000/\∀B∈g,B.1.length<=20000:=by
  rw[<-hLL];exact⟨zL b5.1 om,fun B J=>zL (b5.2 B J) om⟩
 rw[hLL]at aF HE b8⊢;have cc:=zi b8;have bR:(g.map fun B=>B.1.length).sum<=20000:=by have:=cc.out;omega
 have cb:=zi bR;have c4:=zi b6.2;have cH:=b6.1;obtain⟨Q,hgoal⟩:∃Q,jM p kind z=Q:=⟨_,rfl⟩;have bZ:=zi hgoal;rw[hgoal];obtain⟨aL,hrows0⟩:∃aL,zaV p=aL:=⟨_,rfl⟩;rw[hrows0]at bu bs cj⊢;obtain⟨x,hRES⟩:∃x,QR p.n Q 0 aL g=x:=⟨_,rfl⟩;rw[hRES];have c9:=zi hRES;obtain⟨_,_,_,_,hQ⟩:=h;obtain⟨k0,-,-,-,-,-,-,-,-,-⟩:=hQ.box;have bm:=zi (fun W (hW:Ext w W)=>hW.cell k0);have I:Ext w (w.alloc (cl #[G Zb,V Za Zl Zk,V Ya Yl Yk] 118)):=(Ext.refl w).alloc _;have aI:=zq w (cl #[G Zb,V Za Zl Zk,V Ya Yl Yk] 118);clear b5 hLL ad cg b6 b8 bR hgoal hrows0 hRES hQ k0 bz hZ;go_enter func110,ntmps110
 go_wp2_with fail
 generalize w.alloc (cl #[G Zb,V Za Zl Zk,V Ya Yl Yk] 118)=X at *;have bx:=zi (fun W (hW:Ext X W)=>And.intro (hW.cell (c_ 0 aI)) (And.intro (hW.cell (c_ 1 aI)) (hW.cell (c_ 2 aI))));clear aI;refine(bu.out _ I).mono ?_;rintro e w1 ⟨cD,rfl,aY,bE⟩;have x1:=Ext.of bE;go_wp2_with fail
 refine(aF.out _).mono ?_;rintro e w2 ⟨B,rfl,J,bI,bF⟩;obtain⟨xo,_,rfl⟩:=J.shape;rw[zo]at J⊢;have x2:=Ext.of bF;have bC:zdB xo g w2:=by
  intro aj y hy;have hi:=(zn.1 hy).1;obtain⟨aw,cC,e,hg,ct⟩:=J.row (by intro e;rw[ZU]at e;rw[e]at hi;simp at hi);refine⟨aw,cC,e,?_⟩;have b:=ct aj (by simpa using hi);rw[zk,zQ,hy]at b;exact b
 have bD:∀j:Addr,xo=E j->cD.ownBlock≠E j.block:=fun j M e=>by
  have b:=(aY.lt _ e).2;have h2:=bI j.block (by rw[M];rfl);omega
 have bt:=zi (aY.ext x2);have bn:=zi bC;have bp:=zi bD;have bB:=x1.trans x2;clear bE bF J bI aY bC bD;go_wp2_with fail
 go_loopw [10,13] (fun lv iv wr=>∃(k l:Nat) (rows:List (List Int×Int)),iv=it .i64 (k:Nat)/\k<=g.length/\Hid (zga X.heap.size wr lv rows)/\Hid (x=QR p.n Q k rows (g.drop k))/\Hid (Jl p.n (10^(40+l)) rows)/\Hid (l+((g.drop k).map fun B=>B.1.length).sum<=20000)/\rows.length<=20+k/\Hid (zdB xo g wr)/\Hid (∀j:Addr,xo=E j->lv.ownBlock≠E j.block)/\Ext X wr) (fun _ iv _=>g.length-(intOf iv).toNat)
 case atStart=>exact⟨0,0,aL,rfl,om,bt.out,by rw[Hid,Zd];exact c9.out.symm,bs.out,by rw[Hid,Zd,qi];exact cb.out,om,bn.out,bp.out,bB⟩
 case round=>
  clear bt bn bp bB;obtain⟨k,l,rows,rfl,hk,aG,aT,aa,bh,_,aP,bo,xr⟩:=hrel;obtain⟨z0,z1,z2⟩:=bx.out wr xr;have k0:=bm.out wr (I.trans xr);by_cases co:k<g.length
  ·obtain⟨y,hy⟩:∃y,g[k]? =E y:=⟨_,zj co⟩;obtain⟨gL,oL,rfl,ci⟩:=aP.out k y hy;have cp:(k:Int)<(g.length:Int):=om;have HY:=zi (zim (n:=p.n) (goal:=Q) (rows:=rows) hy);have bX:=zi (zn3 hy);have aK:y.1.length<=20000:=c4.out y (qJ hy);have b0:40+l<=20100:=by have:=bh.out;omega
   have au:=zi (zex y.1);have aU:=zi (fun W=>zh3 ⟨y.1.toArray⟩ W (by simp[ByteArray.size];omega));have bS:(⟨y.1.toArray⟩:ByteArray).data.toList=y.1:=sp;rw[bS]at aU;obtain⟨K,hls⟩:∃K,(part 32 y.1).1 ++ [(⟨(part 32 y.1).2.toArray⟩:ByteArray)]=K:=⟨_,rfl⟩;have aD:K.map (fun v=>v.data.toList)=qg y.1:=by rw[<-hls];exact words_list y.1
   rw[hls]at aU;have cn:K.length=(qg y.1).length:=by rw[<-aD,zo]
   have cw:=zib y.1;have ba:=zcJ (y.1.length+1) y.1;have aC:0<K.length:=om;have cG:K.length<=20001:=by have b:(qg y.1).length<=y.1.length+1:=ba.1;omega
   have bL:∀v∈K,v.size<=20000:=by
    intro v hl;have b:v.data.toList∈qg y.1:=by rw[<-aD];exact zdb hl
    have h2:=ba.2 _ b;rw[qN]at h2;omega
   have aS:=zi (fun W bV hu=>zl7 W bV K hu bL om aC);have b1:(K.drop 1).map (fun v=>v.data.toList)=(qg y.1).drop 1:=by rw[<-aD,zdH]
   have bN:((K.drop 1).all fun v=>QG v.data.toList)=((qg y.1).drop 1).all QG:=by rw[<-b1,zc6];rfl
   have bO:((K.drop 1).map fun v=>Jk v.data.toList)=((qg y.1).drop 1).map Jk:=by rw[<-b1,ZV];rfl
   rw[bN,bO]at aS;obtain⟨C,hs0⟩:∃C,K.getD 0 ⟨#[]⟩=C:=⟨_,rfl⟩;have bl:Hid ((qg y.1).headD []=C.data.toList):=by
    rw[Hid,<-aD,<-hs0];cases K with
    |nil=>simp at aC
    |cons j bU=>rfl
   have aV:Hid (((qg y.1).drop 1).length<=1000000):=by rw[Hid,qu];omega
   have aW:=zi (HE.out k y hy);obtain⟨i,hws⟩:∃i,(qg y.1).drop 1=i:=⟨_,rfl⟩;have bq:Hid (∀last,zc5 last y=if y.2=true/\C.data.toList=(if last=true then [101,110,100]else [99,117,116])/\i.all QG=true then E (i.map Jk)else O):=by
    intro last;unfold zc5;rw[bl.out,hws]
   rw[hws]at aS au aV;have ca:=zi hs0;clear hls aD cn cw ba bL b1 bN bO bl hws bS hs0;go_wp2_with fail
   refine(aU.out wr).mono ?_;rintro e w3 ⟨bV,rfl,hu,cv,bG⟩;obtain⟨_,_,rfl⟩:=hu.shape;have x3:=Ext.of bG;go_wp2_with fail
   refine(aS.out w3 _ hu).mono ?_;rintro e w4 ⟨ak,rfl,hq,bH⟩;have x4:=Ext.of bH;obtain⟨gU,oU,rfl,_,bP⟩:=hu.row (by intro e;rw[e]at aC;simp at aC);have cK:w4.cell? ⟨gU,oU,O⟩=E (gS C):=by
    have b:=bP 0 aC;rw[ca.out,qy]at b;exact x4.cell b
   have af:=x3.trans x4;have a7:Ext X w4:=xr.trans af;have k4:=bm.out w4 (I.trans a7);clear bP cv bG bH hu ci;have cF:(0:Int)<(K.length:Int):=om;by_cases aJ:k+1=g.length
   ·have cm:(k:Int)=(g.length:Int)-1:=om;have ap:=zi aJ;have a4:Hid (x=match zc5 true y with
     |none=>(5,k+1)
     |some ps=>match qG rows ps (List.replicate p.n (0,1),(0,1))with
      |.error e=>(e,k+1)
      |.ok a=>if ((Qa a).map Q).getD false=true then(0,0)else(12,k+1)):=by
     rw[Hid,aT.out,HY.out,qH ap.out];rfl
    have Y:=zi (bq.out true);simp only[jo]at Y;clear aJ;cases hpo:i.all QG with
    |false=>
     have HN:Hid (x=(5,k+1)):=by rw[Hid,a4.out,Y.out,zW (fun A=>by rw[hpo]at A;exact Bool.noConfusion A.2.2)]
     go_wp2;go_ret2;exact⟨by rw[HN.out];first|(simp;done)|(simp;omega),I.trans a7⟩
    |true=>
     by_cases ae:C.data.toList= [101,110,100]
     ·obtain rfl:C=⟨#[101,110,100]⟩:=by
       have b:C.data=#[101,110,100]:=by rw[<-Array.toList_inj,ae]
       cases C;simp only at b;rw[b]
      cases ai:y.2 with
      |false=>
       have ad:en=false:=by
        have b:=aW.out;rw[ai]at b;have h2:k+1=g.length/\en=false:=by simpa using b.symm
        exact h2.2
       subst ad;have HN:Hid (x=(5,k+1)):=by rw[Hid,a4.out,Y.out,zW (fun A=>by rw[ai]at A;exact Bool.noConfusion A.1)]
       go_wp2;go_ret2;exact⟨by rw[HN.out];first|(simp;done)|(simp;omega),I.trans a7⟩
      |true=>
      have ad:en=true:=by
       have b:=aW.out;rw[ai]at b;cases en with
       |true=>rfl
       |false=>simp[ap.out]at b
      subst ad;have b7:=hq hpo;have aq:Hid (zc5 true y=E (i.map Jk)):=by rw[Hid,Y.out,z8 ⟨ai,rfl,hpo⟩]
      have ab:=zi (qR.1 hpo);have aQ:=zi (br.out w4 u10 ak rows i (40+l) y.1.length (aG.out.ext af).rows b7 om aV.out aa.out ab.out au.out aK b0);go_wp2_with fail
      refine aQ.out.mono ?_;rintro e F ⟨c,f,d,⟨o,⟨m,r,q⟩,⟨s,u,t⟩⟩,err,rfl,aZ,T⟩;have x5:=Ext.of aZ;simp only[Tri.up,Tri.down];have x6:Ext X (F.alloc (cl #[V c f d,G o,V m r q,V s u t] 308)):=(a7.trans x5).alloc _;cases hbl:qG rows (i.map Jk) (List.replicate p.n (0,1),(0,1))with
      |error k2=>
       rw[hbl]at T;simp only at T;subst T;have a8:=zi hbl;have aO:Hid (x=(err,k+1)):=by rw[Hid,a4.out,aq.out];simp only;rw[a8.out]
       have b2:err=9\/err=10:=zdA hbl;clear hbl;rcases b2 with rfl|rfl
       all_goals
        go_wp2;go_ret2;exact⟨by rw[aO.out];first|(simp;done)|(simp;omega),I.trans x6⟩
      |ok a=>
       rw[hbl]at T;obtain⟨rfl,az,aA,aB⟩:=T;have a8:=zi hbl;obtain⟨ay,ax⟩:=zgc aa.out ab.out au.out i.length a (by rw[zy (by rw[zo];exact zh _)];exact hbl);have aE:=zi ay;have an:=zi ax;have bf:=zi (zfX aa.out (i.map Jk) _ a (fun B J=>by
        obtain⟨v,hl,rfl⟩:=ZC.1 J;exact(zeU (ab.out v hl)).pos) (zfY p.n) hbl)
       have ar:=zi az;have aR:=zi aA;have bk:=zi aB;have al:=(Ext.refl F).alloc (cl #[V c f d,G o,V m r q,V s u t] 308);have U:=zq F (cl #[V c f d,G o,V m r q,V s u t] 308);have a0:=c_ 0 U;have a1:=c_ 1 U;have a2:=c_ 2 U;have a3:=c_ 3 U;have bY:Hid (F.heap.size=F.heap.size):=rfl;clear hbl ay ax az aA aB U;have bi:=zi (zn0 (kind:=kind) (z:=z) bf.out an.out cq);rw[bZ.out]at bi;have aN:=zi (bj.out (F.alloc (cl #[V c f d,G o,V m r q,V s u t] 308)) c f d ⟨o,(m,r,q),(s,u,t)⟩ a (40+l) y.1.length (I.trans x6) (ar.out.below al) an.out (aR.out.below al) aE.out aK b0);simp only at aN;rw[bi.out]at aN;obtain⟨z0,z1,z2⟩:=bx.out (F.alloc (cl #[V c f d,G o,V m r q,V s u t] 308)) x6;have ao:Hid (x=if ((Qa a).map Q).getD false=true then(0,0)else(12,k+1)):=by rw[Hid,a4.out,aq.out];simp only;rw[a8.out]
       go_wp2_with fail
       refine aN.out.mono ?_;rintro e N ⟨rfl,a6⟩;have xE:Ext w N:=I.trans (x6.trans (Ext.of a6));cases hgo:((Qa a).map Q).getD false with
       |false=>
        have a9:Hid (x=(12,k+1)):=by rw[Hid,ao.out,hgo];rfl
        go_wp2;go_ret2;exact⟨by rw[a9.out];first|(simp;done)|(simp;omega),xE⟩
       |true=>
        have a9:Hid (x=(0,0)):=by rw[Hid,ao.out,hgo];rfl
        go_wp2;go_ret2;exact⟨by rw[a9.out];rfl,xE⟩
     ·have HN:Hid (x=(5,k+1)):=by rw[Hid,a4.out,Y.out,zW (fun A=>ae A.2.1)]
      have b9:¬C.toList= [101,110,100]:=fun A=>ae (by rw[<-ZT];exact A)
      have cx:(C.toList == [101,110,100])=false:=by simp[b9]
      go_wp2;go_ret2;exact⟨by rw[HN.out];first|(simp;done)|(simp;omega),I.trans a7⟩
   ·have cm:¬(k:Int)=(g.length:Int)-1:=om;have ap:=zi aJ;have a4:Hid (x=match zc5 false y with
     |none=>(5,k+1)
     |some ps=>match qG rows ps (List.replicate p.n (0,1),(0,1))with
      |.error e=>(e,k+1)
      |.ok a=>match Qa a with
       |none=>(11,k+1)
       |some row=>QR p.n Q (k+1) (rows ++ [row]) (g.drop (k+1))):=by
     rw[Hid,aT.out,HY.out,ZB ap.out];rfl
    have Y:=zi (bq.out false);simp only[Q4,Jg]at Y;have ai:y.2=true:=by
     have b:=aW.out;rw[b];simp[ap.out]
    clear aJ;cases hpo:i.all QG with
    |false=>
     have HN:Hid (x=(5,k+1)):=by rw[Hid,a4.out,Y.out,zW (fun A=>by rw[hpo]at A;exact Bool.noConfusion A.2.2)]
     go_wp2;go_ret2;exact⟨by rw[HN.out];first|(simp;done)|(simp;omega),I.trans a7⟩
    |true=>
     by_cases ae:C.data.toList= [99,117,116]
     ·obtain rfl:C=⟨#[99,117,116]⟩:=by
       have b:C.data=#[99,117,116]:=by rw[<-Array.toList_inj,ae]
       cases C;simp only at b;rw[b]
      have b7:=hq hpo;have aq:Hid (zc5 false y=E (i.map Jk)):=by rw[Hid,Y.out,z8 ⟨ai,rfl,hpo⟩]
      have ab:=zi (qR.1 hpo);have aQ:=zi (br.out w4 u10 ak rows i (40+l) y.1.length (aG.out.ext af).rows b7 om aV.out aa.out ab.out au.out aK b0);go_wp2_with fail
      refine aQ.out.mono ?_;rintro e F ⟨c,f,d,⟨o,⟨m,r,q⟩,⟨s,u,t⟩⟩,err,rfl,aZ,T⟩;have x5:=Ext.of aZ;simp only[Tri.up,Tri.down];have x6:Ext X (F.alloc (cl #[V c f d,G o,V m r q,V s u t] 308)):=(a7.trans x5).alloc _;cases hbl:qG rows (i.map Jk) (List.replicate p.n (0,1),(0,1))with
      |error k2=>
       rw[hbl]at T;simp only at T;subst T;have a8:=zi hbl;have aO:Hid (x=(err,k+1)):=by rw[Hid,a4.out,aq.out];simp only;rw[a8.out]
       have b2:err=9\/err=10:=zdA hbl;clear hbl;rcases b2 with rfl|rfl
       all_goals
        go_wp2;go_ret2;exact⟨by rw[aO.out];first|(simp;done)|(simp;omega),I.trans x6⟩
      |ok a=>
       rw[hbl]at T;obtain⟨rfl,az,aA,aB⟩:=T;have a8:=zi hbl;obtain⟨ay,ax⟩:=zgc aa.out ab.out au.out i.length a (by rw[zy (by rw[zo];exact zh _)];exact hbl);have aE:=zi ay;have an:=zi ax;have bf:=zi (zfX aa.out (i.map Jk) _ a (fun B J=>by
        obtain⟨v,hl,rfl⟩:=ZC.1 J;exact(zeU (ab.out v hl)).pos) (zfY p.n) hbl)
       have ar:=zi az;have aR:=zi aA;have bk:=zi aB;have al:=(Ext.refl F).alloc (cl #[V c f d,G o,V m r q,V s u t] 308);have U:=zq F (cl #[V c f d,G o,V m r q,V s u t] 308);have a0:=c_ 0 U;have a1:=c_ 1 U;have a2:=c_ 2 U;have a3:=c_ 3 U;have bY:Hid (F.heap.size=F.heap.size):=rfl;clear hbl ay ax az aA aB U;have bw:=zi (bv.out (F.alloc (cl #[V c f d,G o,V m r q,V s u t] 308)) c f d ⟨o,(m,r,q),(s,u,t)⟩ a _ y.1.length (ar.out.below al) an.out aE.out aK);simp only at bw;have ao:Hid (x=match Qa a with|none=>(11,k+1)|some row=>QR p.n Q (k+1) (rows ++ [row]) (g.drop (k+1))):=by rw[Hid,a4.out,aq.out];simp only;rw[a8.out]
       go_wp2_with fail
       refine bw.out.mono ?_;rintro e N ⟨rfl,a6⟩;have x7:Ext X N:=x6.trans (Ext.of a6);have bd:Ext w4 N:=x5.trans (al.trans (Ext.of a6));have be:Ext F N:=al.trans (Ext.of a6);have c0:=(Ext.of a6).cell a0;have c1:=(Ext.of a6).cell a1;have c2:=(Ext.of a6).cell a2;have c3:=(Ext.of a6).cell a3;cases hwh:a.1.all fun j=>decide (j.2=1)with
       |false=>
        have a9:Hid (x=(11,k+1)):=by
         rw[Hid,ao.out];unfold Qa;rw[hwh];rfl
        go_wp2;go_ret2;exact⟨by rw[a9.out];first|(simp;done)|(simp;omega),I.trans x7⟩
       |true=>
        have b3:Qa a=E (a.1.map Prod.fst,a.2.1/(a.2.2:Int)):=by unfold Qa;rw[z8 hwh]
        have a9:Hid (x=QR p.n Q (k+1) (rows ++ [(a.1.map Prod.fst,a.2.1/(a.2.2:Int))]) (g.drop (k+1))):=by rw[Hid,ao.out,b3]
        obtain⟨f1,f2,f3⟩:=zhi aE.out an.out b3;have cs:10^(40+l)*10^y.1.length=10^(40+(l+y.1.length)):=by rw[<-ZI,zaz]
        rw[cs]at f2 f3;have cd:Hid (Jl p.n (10^(40+(l+y.1.length))) (rows ++ [(a.1.map Prod.fst,a.2.1/(a.2.2:Int))])):=by
         intro bU hr;rcases Zs.1 hr with hr|hr
         ·exact(aa.out.mono (qz om om)) bU hr
         ·rw[Qo.1 hr];exact⟨f1,f2,f3⟩
        have bW:Hid (l+y.1.length+((g.drop (k+1)).map fun B=>B.1.length).sum<=20000):=by
         have b:=bh.out;rw[bX.out]at b;rw[Hid];omega
        have x8:Ext X (N.alloc (cl #[V c f d,G o,V m r q,V s u t] 308)):=x7.alloc _;have L7:=(aG.out.ext (af.trans bd)).ext ((Ext.refl N).alloc (cl #[V c f d,G o,V m r q,V s u t] 308));have c8:=zi (aG.out.lt);have RI:Hid (RowIs (fun _=>False) (N.alloc (cl #[V c f d,G o,V m r q,V s u t] 308)) u10 ⟨(c,f,d),⟨o,(m,r,q),(s,u,t)⟩⟩ (a.1.map Prod.fst,a.2.1/(a.2.2:Int))):=by
         refine⟨zlj (ar.out.below (be.alloc _)) hwh,aR.out.below (be.alloc _),fun aw hg=>⟨fun e=>?_,?_,fun A=>A⟩⟩
         ·have b:=(c8.out aw e).2;have h2:=bk.out aw hg;have h3:=af.size;omega
         ·have b:=(ar.out.lt aw hg);have h2:=(be.alloc (cl #[V c f d,G o,V m r q,V s u t] 308)).size;omega
        obtain⟨ss,bc,aM,sn⟩:=L7.open;have SL:=zi bc;have cJ:ss.length<=30000:=by rw[bc];omega
        have SN:=zi sn;have bg:X.heap.size<=(N.alloc (cl #[V c f d,G o,V m r q,V s u t] 308)).heap.size:=x8.size;have c5:=zi ((aP.out.ext (af.trans bd)).ext ((Ext.refl N).alloc (cl #[V c f d,G o,V m r q,V s u t] 308)));clear bc sn L7 b3 f1 f2 f3 hwh a0 a1 a2 a3;go_wp2_with (at_builtin;refine cu _ ?_)
        unfold Hid;refine Qz _ rfl _ _ 302 rfl X.heap.size 308 i0 (ag #[V O 0 0,G false,V O 0 0,V O 0 0]) 4 80 underlying302 ck cy cz cA rfl dc u10 ss.length (ss.map Qb.cells).flatten rfl aM ⟨N.heap.size,0,O⟩ 1 1 (Qb.cells ⟨(c,f,d),⟨o,(m,r,q),(s,u,t)⟩⟩) rfl rfl (rec_new N (Qb.cells ⟨(c,f,d),⟨o,(m,r,q),(s,u,t)⟩⟩) 308) (Qb.one _) om mo om bg (N.heap.size+1) sp ?_;intro gA ce w9 bT aH aX cB;have RZ:=zi (QJ.grow (x:=(a.1.map Prod.fst,a.2.1/(a.2.2:Int))) SL.out aM SN.out RI.out aH bT (by simpa using aX));have x9:Ext X w9:=JH x8 aM aH bg;have c6:=zi (c5.out.grown aH bo.out);have c7:Hid (∀j:Addr,E (⟨gL,oL,O⟩:Addr)=E j->(V (E ⟨gA,0,O⟩) (ss.length+1) ce).ownBlock≠E j.block):=by
         intro j M e;have b4:gA=j.block:=by simpa[Value.ownBlock]using e
         rcases aX with b|b
         ·exact bo.out j M (by rw[b,b4])
         ·obtain⟨_,_,e1,e2⟩:=aP.out k y hy;have h2:=zN e2;rw[M]at e1;simp only[z7]at e1;have h3:=(af.trans bd).size;rw[e1]at b4;simp only at h2 b4;omega
        clear bT aH aX cB SN RI aM;go_wp2_with fail
        go_roundw
        case rel=>exact⟨k+1,l+y.1.length,rows ++ [(a.1.map Prod.fst,a.2.1/(a.2.2:Int))],by go_num,om,RZ.out,a9.out,cd.out,bW.out,by rw[zX,qF];omega,c6.out,c7.out,x9⟩
        case measure=>simp[intOf];omega
     ·have HN:Hid (x=(5,k+1)):=by rw[Hid,a4.out,Y.out,zW (fun A=>ae A.2.1)]
      have b9:¬C.toList= [99,117,116]:=fun A=>ae (by rw[<-ZT];exact A)
      have cx:(C.toList == [99,117,116])=false:=by simp[b9]
      go_wp2;go_ret2;exact⟨by rw[HN.out];first|(simp;done)|(simp;omega),I.trans a7⟩
  ·obtain rfl:k=g.length:=om;have HF:Hid (x=(5,1)):=by rw[Hid,aT.out,List.drop_length];rfl
   have cp:¬(g.length:Int)<(g.length:Int):=om;go_wp2;go_ret2;exact⟨by rw[HF.out];rfl,I.trans xr⟩
theorem refAudit_all (s:ByteArray)(kind:Int)(pa:Option Addr)(g:Nat)(b:List ByteArray)(val a:ByteArray)(w:H)(hv:Sw w (V pa b.length g) b)(ab:∀l∈b,l.size<=9223372036854775807)(ad:val.size<=9223372036854775807)(aa:b.length<=9223372036854775807):
 Calls pg 65 #[gS s,ag #[it .i64 kind,V pa b.length g,gS val],gS a] w fun e w'=>e= .returned (tp #[it .i64 ((zat s.data.toList kind (b.map fun l=>l.data.toList) val.data.toList a.data.toList).1:Nat),it .i64 ((zat s.data.toList kind (b.map fun l=>l.data.toList) val.data.toList a.data.toList).2:Nat)])/\Below w.heap.size w w':=by
 obtain⟨d,D⟩:∃d,zat s.data.toList kind (b.map fun l=>l.data.toList) val.data.toList a.data.toList=d:=⟨_,rfl⟩;rw[D];have B:=zi D;clear D;have R:Ext w (w.alloc (cl #[it .i64 kind,V pa b.length g,gS val] 46)):=(Ext.refl w).alloc _;have n:=zq w (cl #[it .i64 kind,V pa b.length g,gS val] 46);by_cases U:2000<s.size
 ·have Y:=zi (fun W=>zk4 s W U);have c:Hid (d=(4,0)):=by
   rw[Hid,<-B.out];unfold zat jj;rw[z8 (by rw[qN];exact U)]
  go_enter func65,ntmps65
  go_wp2_with fail
  generalize w.alloc (cl #[it .i64 kind,V pa b.length g,gS val] 46)=i at *;refine(Y.out _).mono ?_;rintro e A ⟨rfl,rfl⟩;have k:=R;go_wp2;go_ret2;exact⟨by rw[c.out];rfl,k⟩
 ·have X:=zi (fun W=>zmi s W om);go_enter func65,ntmps65
  go_wp2_with fail
  generalize w.alloc (cl #[it .i64 kind,V pa b.length g,gS val] 46)=i at *;have L:=zi (fun W (F:Ext i W)=>And.intro (F.cell (c_ 0 n)) (And.intro (F.cell (c_ 1 n)) (F.cell (c_ 2 n))));clear n;refine(X.out i).mono ?_;rintro e A ⟨a4,a7⟩;have k:=Ext.of a4;have j:=R.trans k;rcases a7 with ⟨N,a3,f,rfl⟩|⟨p,M,f,rfl,S,T⟩
  ·have c:Hid (d=(N,a3)):=by
    rw[Hid,<-B.out];unfold zat;rw[f]
   have ae:¬(N:Int)=0:=by
    have:=parseS_err f;omega
   clear f;go_wp2;go_ret2;exact⟨by rw[c.out];rfl,j⟩
  ·have Q:=zlh f;have Z:=zi (zke M A i.heap.size _ p S T Q kind pa g b val (hv.below j) ab ad aa);obtain⟨v0,v1,v2⟩:=L.out A k;have K:Hid (d=match ZH p kind (b.map fun l=>l.data.toList) val.data.toList with
    |.error e=>(e,0)
    |.ok z=>if 20000<a.data.toList.length then(4,0)else QR p.n (jM p kind z) 0 (zaV p) (qE a.data.toList)):=by
    rw[Hid,<-B.out];unfold zat;rw[f];rfl
   clear f;go_wp2_with fail
   refine Z.out.mono ?_;rintro e I ⟨⟨v,⟨u,y,x⟩,⟨o,r,q⟩⟩,P,rfl,h,a5⟩;have x2:=Ext.of a5;simp only[Tri.up,Tri.down];have m:Ext A (I.alloc (cl #[G v,V u y x,V o r q] 118)):=x2.alloc _;cases hve:ZH p kind (b.map fun l=>l.data.toList) val.data.toList with
   |error ai=>
    rw[hve]at h;simp only at h;subst h;have c:Hid (d=(P,0)):=by rw[Hid,K.out,hve]
    have af:¬(P:Int)=0:=by
     have:=zfZ hve;omega
    clear hve;go_wp2;go_ret2;exact⟨by rw[c.out];rfl,j.trans m⟩
   |ok z=>
    rw[hve]at h;obtain⟨rfl,hz⟩:=h;have J:Hid (d=if 20000<a.data.toList.length then(4,0)else QR p.n (jM p kind z) 0 (zaV p) (qE a.data.toList)):=by rw[Hid,K.out,hve]
    have bz:=zgt hve;have a9:=qN a;have t:=zq I (cl #[G v,V u y x,V o r q] 118);have a0:=c_ 0 t;have a1:=c_ 1 t;have a2:=c_ 2 t;obtain⟨v0,v1,v2⟩:=L.out _ (k.trans m);clear hve t;by_cases ah:20000<a.size
    ·have a8:(20000:Int)<(a.size:Int):=om;have c:Hid (d=(4,0)):=by rw[Hid,J.out,z8 om]
     go_wp2;go_ret2;exact⟨by rw[c.out];rfl,j.trans m⟩
    ·have a8:¬(20000:Int)<(a.size:Int):=om;have c:Hid (d=QR p.n (jM p kind z) 0 (zaV p) (qE a.data.toList)):=by rw[Hid,J.out,zW om]
     have C:=zi (zmE M (I.alloc (cl #[G v,V u y x,V o r q] 118)) i.heap.size _ p (S.below m) T Q kind z ⟨v,(u,y,x),(o,r,q)⟩ (hz.alloc _) bz a om);simp only[Tri.up,Tri.down]at C;rw[<-c.out]at C;clear a9;go_wp2_with fail
     refine C.out.mono ?_;rintro e w4 ⟨rfl,a6⟩;go_wp2;go_ret2;exact⟨rfl,j.trans (m.trans (Ext.of a6))⟩
end Go.Proofs.YtnhfdcfnojnofaaGreatDoor.T
