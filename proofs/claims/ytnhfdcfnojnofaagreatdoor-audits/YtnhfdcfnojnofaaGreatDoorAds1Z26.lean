import Derived.Test.YtnhfdcfnojnofaaGreatDoorAds1Z21
import Derived.Test.YtnhfdcfnojnofaaGreatDoorAds1Z24
import Derived.Test.YtnhfdcfnojnofaaGreatDoorAds1Z25
open Option renaming none->O,some->E
open Go.Value renaming slice->V,bool->G,string->gS,pointer->pn,int->it,agg->ag
open Go.Obj renaming cells->cl
open Go renaming World->H
open Go.Proofs.Tryz renaming prog->pg
open Go.Proofs.Tryz
set_option linter.unusedSimpArgs false
set_option linter.unusedVariables false
set_option maxHeartbeats 4000000
set_option maxRecDepth 100000
namespace Go.Proofs.YtnhfdcfnojnofaaGreatDoor
open Go.RowKit
attribute [local go_sem] qm qW ZR
theorem zj0 (s:List UInt8)(hs:s.length<=2000)(U d n:Nat)(vR:Value)(zs:List Int)(w:H)(hb:qX w U (V (E ⟨d,0,O⟩) n n) vR)(hn:n<=4)(hz:Whs w d zs)(ax:zs.length=3*n):
 Calls pg 239 #[pn (E ⟨U,0,O⟩),gS ⟨s.toArray⟩] w fun e w'=>
  e= .returned (G (zaU zbv n (qg s)))/\Wr (fun k=>k=d) w w'/\(zaU zbv n (qg s)=true->Whs w' d (zaQ (fun j=>3*j) 0 zs ((qg s).drop 1))):=by
 obtain⟨b0,_,_,_,b4⟩:=hb;have av:=hz.lt;have hm:Tryz.prog.follows .mixedOrders=true:=kr;have a4:=zi (Pls.start w w (zR _ _) zbv (fun j=>⟨d,j*6,O⟩));have HZ:=zi hz;clear hz;refine JO func239 ntmps239 (h:=?_);gi_wp2;refine(zS.2 (zdR _ _)).mono ?_;rintro e w1 ⟨rfl,rfl⟩;have g0:(((w.alloc (cl #[gS ⟨#[109,97,120]⟩] 9)).alloc (cl #[.func (.func 364) #[] #[pn (E ⟨w.heap.size,0,O⟩)]] 429)).alloc (cl #[V (E ⟨w.heap.size+1,0,O⟩) 1 1] 433)).cell? ⟨U,0,O⟩=E (V (E ⟨d,0,O⟩) n n):=((J4 w _ _ _).cell (p:=⟨U,0,O⟩) b4).trans b0;gi_wp2;refine(zS.2 (zeb _ _ _ _ rfl _)).mono ?_;rintro e w1 ⟨rfl,rfl⟩;gi_wp2;refine zaE (zdO (E ⟨d,0,O⟩) d n n (w.heap.size+1+1+1) om (fun _=>rfl)) rfl (ZJ func325 kr rfl) (fun ar u=>?_)
  (fun k M A=>k<=n/\∃b m l,b.length=k/\Pls w.heap.size w A (w.heap.size+1+1) w.heap.size zbv b (fun j=>⟨d,j*6,O⟩) [w.heap.size+1+1+1] m l/\A.cell? ⟨w.heap.size+1+1+1,0,O⟩=E (V (E ⟨d,0,O⟩) n n)/\∀x,M x↔x=w.heap.size+1+1\/(V m (k+1) l).ownBlock=E x)
  (fun a7 k A=>False) (fun x=>x=w.heap.size+1+1\/(V (E ⟨w.heap.size+1,0,O⟩) (0+1) 1).ownBlock=E x) ?hI ?hIx ?hC ?h0 ?round ?done ?stop
 case hI=>
  rintro k M A B' ⟨h1,b,m,l,h2,W,h4,h5⟩ hk;exact⟨h1,b,m,l,h2,W.keep hk so,hk.cell h4,h5⟩
 case hIx=>
  rintro a7 k A B' F _;exact F.elim
 case hC=>
  rintro k M A ⟨h1,b,m,l,h2,W,h4,h5⟩;refine⟨h4,fun x P=>?_⟩;subst h2;rcases(h5 x).1 P with e|e
  ·rw[e];exact W.lt _ sp
  ·exact(W.own.lt x e).2
 case h0=>
  refine⟨qp _,[],E ⟨w.heap.size+1,0,O⟩,1,rfl,?_,?_,fun _=>Ql⟩
  ·have F:=a4.out.alloc_avoid (cl #[V (E ⟨d,0,O⟩) n n] 106);simp only[qx]at F;exact F
  ·have:=(Qp (((w.alloc (cl #[gS ⟨#[109,97,120]⟩] 9)).alloc (cl #[.func (.func 364) #[] #[pn (E ⟨w.heap.size,0,O⟩)]] 429)).alloc (cl #[V (E ⟨w.heap.size+1,0,O⟩) 1 1] 433)) 106 (V (E ⟨d,0,O⟩) n n)).cell;simp only[qx]at this;exact this
 case round=>
  rintro Q k ar M A u ⟨_,b,m,l,Y,i,X,I⟩;have ao:k<n:=by
   have:=(zn.1 u).1;rwa [Q9]at this
  rw[zbL ao]at u;injection u with u
  subst u;subst Y;unfold Qr;gi_wp2;refine⟨Wr.refl _ _,fun c a2=>?_⟩;have o:=i.keep a2 so;have a8:=a2.cell X;have aw:=a2.size;have c6:=o.box;have c7:=(o.alloc (cl #[pn (E ⟨d,b.length*6,O⟩)] 435)).box;have c8:=((o.alloc (cl #[pn (E ⟨d,b.length*6,O⟩)] 435)).alloc (cl #[.func (.func 366) #[] #[pn (E ⟨c.heap.size,0,O⟩)]] 429)).box;have z:=((o.alloc (cl #[pn (E ⟨d,b.length*6,O⟩)] 435)).alloc (cl #[.func (.func 366) #[] #[pn (E ⟨c.heap.size,0,O⟩)]] 429)).drew;have v:((c.alloc (cl #[pn (E ⟨d,b.length*6,O⟩)] 435)).alloc (cl #[.func (.func 366) #[] #[pn (E ⟨c.heap.size,0,O⟩)]] 429)).drew.cell? ⟨c.heap.size+1,0,O⟩=E (ZG c.heap.size):=by
   have:=(Qp (c.alloc (cl #[pn (E ⟨d,b.length*6,O⟩)] 435)) 429 (ZG c.heap.size)).cell;rwa [qx]at this
  have B:((c.alloc (cl #[pn (E ⟨d,b.length*6,O⟩)] 435)).alloc (cl #[.func (.func 366) #[] #[pn (E ⟨c.heap.size,0,O⟩)]] 429)).drew.cell? ⟨c.heap.size,0,O⟩=E (pn (E ⟨d,b.length*6,O⟩)):=
   ((Qp c 435 (pn (E ⟨d,b.length*6,O⟩))).alloc _).cell
  have y:c.heap.size≠w.heap.size+1+1:=by have:=o.lt (w.heap.size+1+1) sp;omega
  have D:=o.bel.size;have C:∀g,(V m (b.length+1) l).ownBlock=E g->g≠c.heap.size:=fun g e=>by have:=(o.own.lt g e).2;omega
  have J:b.length<=900:=om;have a0:Wr M c ((c.alloc (cl #[pn (E ⟨d,b.length*6,O⟩)] 435)).alloc (cl #[.func (.func 366) #[] #[pn (E ⟨c.heap.size,0,O⟩)]] 429)).drew:=(Wr.of_below (J3 c _ _)).trans (Wr.drew _ _);have a1:((c.alloc (cl #[pn (E ⟨d,b.length*6,O⟩)] 435)).alloc (cl #[.func (.func 366) #[] #[pn (E ⟨c.heap.size,0,O⟩)]] 429)).drew.cell? ⟨w.heap.size+1+1+1,0,O⟩=E (V (E ⟨d,0,O⟩) n n):=((zw.alloc 0 c _).trans (zw.alloc 0 _ _)).cell a8;have a5:c.heap.size<=((c.alloc (cl #[pn (E ⟨d,b.length*6,O⟩)] 435)).alloc (cl #[.func (.func 366) #[] #[pn (E ⟨c.heap.size,0,O⟩)]] 429)).drew.heap.size:=so;obtain⟨S,hA6⟩:∃S,((c.alloc (cl #[pn (E ⟨d,b.length*6,O⟩)] 435)).alloc (cl #[.func (.func 366) #[] #[pn (E ⟨c.heap.size,0,O⟩)]] 429)).drew=S:=⟨_,rfl⟩;have a3:Hid (∀(g f:Nat) (h:H),Pls w.heap.size w (h.setCell ⟨w.heap.size+1+1,0,O⟩ (V (E ⟨g,0,O⟩) (b.length+1+1) f)) (w.heap.size+1+1) w.heap.size zbv (b ++ [c.heap.size]) (fun j=>⟨d,j*6,O⟩) [w.heap.size+1+1+1] (E ⟨g,0,O⟩) f->
   Wr (fun x=>x=w.heap.size+1+1\/(V m (b.length+1) l).ownBlock=E x) S (h.setCell ⟨w.heap.size+1+1,0,O⟩ (V (E ⟨g,0,O⟩) (b.length+1+1) f))->((V m (b.length+1) l).ownBlock=E g\/S.heap.size<=g)->
   Wr M c (h.setCell ⟨w.heap.size+1+1,0,O⟩ (V (E ⟨g,0,O⟩) (b.length+1+1) f))/\∃M':Nat->Prop,(b.length+1<=n/\∃ai a6 af,ai.length=b.length+1/\Pls w.heap.size w (h.setCell ⟨w.heap.size+1+1,0,O⟩ (V (E ⟨g,0,O⟩) (b.length+1+1) f)) (w.heap.size+1+1) w.heap.size zbv ai (fun j=>⟨d,j*6,O⟩) [w.heap.size+1+1+1] a6 af/\
    (h.setCell ⟨w.heap.size+1+1,0,O⟩ (V (E ⟨g,0,O⟩) (b.length+1+1) f)).cell? ⟨w.heap.size+1+1+1,0,O⟩=E (V (E ⟨d,0,O⟩) n n)/\∀x,M' x↔x=w.heap.size+1+1\/(V a6 (b.length+1+1) af).ownBlock=E x)/\∀x,M' x->M x\/A.heap.size<=x):=by
   intro g f h r q t;rw[hA6]at a0 a1 a5;refine⟨a0.trans (q.mono fun x P=>(I x).2 P),fun x=>x=w.heap.size+1+1\/(V (E ⟨g,0,O⟩) (b.length+1+1) f).ownBlock=E x,⟨om,_,_,_,sp,r,?_,fun _=>Ql⟩,fun x P=>?_⟩
   ·refine q.cell (p:=⟨w.heap.size+1+1+1,0,O⟩) (fun e=>?_) a1;rcases e with e|e
    ·simp at e
    ·exact o.sep _ e (w.heap.size+1+1+1) sp rfl
   ·rcases P with e|e
    ·exact .inl ((I x).2 (.inl e))
    ·have aq:x=g:=by simpa[Value.ownBlock]using e.symm
     subst aq;rcases t with e2|e2
     ·exact .inl ((I _).2 (.inr e2))
     ·exact .inr om
  rw[<-hA6]at a3;clear hA6 a0 a1 a5 a8 X I i o HZ a4;gi_wp2;refine zcG hm ?_;try(change wpAnyIn _ _ _ _ _ _ _ _ _ (World.drew _))
  refine rj2 0 1 (h:=fun K a=>?_) (h1:=fun K a=>?_);go_simp;refine a _ _ ?_;clear a K;refine rj1 1 (h:=fun K a=>?_);go_simp;refine a _ _ ?_;clear a K;refine rj1 2 (h:=fun K a=>?_);go_simp;refine a _ _ ?_;clear a K;refine rj1 3 (h:=fun K a=>?_);go_simp;refine a _ _ ?_;clear a K;refine rj1 4 (h:=fun K a=>?_);go_simp;refine(Zr Q (zS.2 (jg _ _))).mono ?_;rintro e R ⟨rfl,rfl⟩;simp only[];refine a _ _ ?_;clear a K;refine rj1 5 (h:=fun K a=>?_);go_simp;refine a _ _ ?_;clear a K;refine rj1 6 (h:=fun K a=>?_);refine JF _ rfl (.tmp 15) (.tmp 20) rfl z J rfl rfl v B D y C ?_;intro g f h r q t L N;refine a _ _ ?_;clear a K;refine rj1 7 (h:=fun K a=>?_);go_simp;refine a _ _ ?_;clear a K;refine Q0 kr ?_ _;rotate_left;go_simp;refine a _ _ ?_;clear a K;refine rj2 0 2 (h:=fun K a=>?_) (h1:=fun K a=>?_);go_simp;refine a _ _ ?_;clear a K;refine rj1 2 (h:=fun K a=>?_);go_simp;refine a _ _ ?_;clear a K;refine rj1 3 (h:=fun K a=>?_);go_simp;refine a _ _ ?_;clear a K;refine rj1 4 (h:=fun K a=>?_);go_simp;refine(Zr Q (zS.2 (jg _ _))).mono ?_;rintro e R ⟨rfl,rfl⟩;simp only[];refine a _ _ ?_;clear a K;refine rj1 5 (h:=fun K a=>?_);go_simp;refine a _ _ ?_;clear a K;refine rj1 6 (h:=fun K a=>?_);refine JF _ rfl (.tmp 15) (.tmp 20) rfl z J rfl rfl v B D y C ?_;intro g f h r q t L N;refine a _ _ ?_;clear a K;refine rj1 7 (h:=fun K a=>?_);go_simp;refine a _ _ ?_;clear a K;refine Q0 kr ?_ _;rotate_left;go_simp;refine a _ _ ?_;clear a K;refine rj2 0 3 (h:=fun K a=>?_) (h1:=fun K a=>?_);go_simp;refine a _ _ ?_;clear a K;refine rj1 3 (h:=fun K a=>?_);go_simp;refine a _ _ ?_;clear a K;refine rj1 4 (h:=fun K a=>?_);go_simp;refine(Zr Q (zS.2 (jg _ _))).mono ?_;rintro e R ⟨rfl,rfl⟩;simp only[];refine a _ _ ?_;clear a K;refine rj1 5 (h:=fun K a=>?_);go_simp;refine a _ _ ?_;clear a K;refine rj1 6 (h:=fun K a=>?_);refine JF _ rfl (.tmp 15) (.tmp 20) rfl z J rfl rfl v B D y C ?_;intro g f h r q t L N;refine a _ _ ?_;clear a K;refine rj1 7 (h:=fun K a=>?_);go_simp;refine a _ _ ?_;clear a K;refine Q0 kr ?_ _;rotate_left;go_simp;refine a _ _ ?_;clear a K;refine rj2 0 4 (h:=fun K a=>?_) (h1:=fun K a=>?_);go_simp;refine a _ _ ?_;clear a K;refine rj1 4 (h:=fun K a=>?_);go_simp;refine(Zr Q (zS.2 (jg _ _))).mono ?_;rintro e R ⟨rfl,rfl⟩;simp only[];refine a _ _ ?_;clear a K;refine rj1 5 (h:=fun K a=>?_);go_simp;refine a _ _ ?_;clear a K;refine rj1 6 (h:=fun K a=>?_);refine JF _ rfl (.tmp 15) (.tmp 20) rfl z J rfl rfl v B D y C ?_;intro g f h r q t L N;refine a _ _ ?_;clear a K;refine rj1 7 (h:=fun K a=>?_);go_simp;refine a _ _ ?_;clear a K;refine Q0 kr ?_ _;rotate_left;go_simp;refine(Zr Q (zS.2 (jg _ _))).mono ?_;rintro e R ⟨rfl,rfl⟩;simp only[];refine a _ _ ?_;clear a K;refine rj2 0 5 (h:=fun K a=>?_) (h1:=fun K a=>?_);go_simp;refine a _ _ ?_;clear a K;refine rj1 5 (h:=fun K a=>?_);go_simp;refine a _ _ ?_;clear a K;refine rj1 6 (h:=fun K a=>?_);refine JF _ rfl (.tmp 15) (.tmp 20) rfl z J rfl rfl v B D y C ?_;intro g f h r q t L N;refine a _ _ ?_;clear a K;refine rj1 7 (h:=fun K a=>?_);go_simp;refine a _ _ ?_
  clear a K;refine Q0 kr ?_ _;rotate_left;go_simp;refine a _ _ ?_;clear a K;refine rj1 0 (h:=fun K a=>?_);go_simp;refine a _ _ ?_;clear a K;refine rj1 6 (h:=fun K a=>?_);refine JF _ rfl (.tmp 15) (.tmp 20) rfl z J rfl rfl v B D y C ?_;intro g f h r q t L N;refine a _ _ ?_;clear a K;refine rj1 7 (h:=fun K a=>?_);go_simp;refine a _ _ ?_;clear a K;refine Q0 kr ?_ _;rotate_left;all_goals
   gi_wp2;exact a3.out g f h r q t
 case done=>
  rintro T M A hD ⟨h1,b,m,l,Y,i,X,I⟩ hd;rw[Q9]at Y;subst Y;obtain⟨g,rfl,_,_,al,an,ab⟩:=i.row;have c0:=i.box;have HF:=zi (zgq s hs zbv w.heap.size b (fun j=>3*j) d zs g l A om om al an ab i.q0c om
   (fun j ah hq=>⟨by have:=(i.new.2.2.2 ah (qJ hq)).1;omega,by have:=i.qsc j ah hq;rw[show 2*(3*j)=j*6 by omega];exact this,by have:=(zn.1 hq).1;omega⟩) (HZ.out.below i.bel))
  have ak:=i.bel;clear i I X ab;gi_wp2;refine(zS.2 HF.out).mono ?_;rintro e Z ⟨rfl,ad,ae⟩;have au:w.heap.size<T:=by simp at hD;omega
  have a9:=ad.some hd om;have aa:zw w.heap.size Z (Z.putObj T (.deferred O)):=zw.putObj (.deferred O) om a9 rfl;have aj:=zi ae;clear ae;gi_wp2;refine qt a9 ?_;refine⟨_,by simp[results,results239,go_sem],rfl,((Wr.of_below ak).trans ad).keep aa,fun hl=>(aj.out hl).keep aa⟩
 case stop=>
  rintro T a7 k A hD hk F hd;exact F.elim
 ·obtain⟨_,_,rfl⟩:=ZC.1 u;rfl
end Go.Proofs.YtnhfdcfnojnofaaGreatDoor
namespace Go.Proofs.YtnhfdcfnojnofaaGreatDoor
open Go.RowKit
theorem zjo (s:List UInt8)(hs:s.length<=2000)(a:Nat)(U A:Value)(w:H)(h:DQ w a qo.none U A):
 Calls pg 238 #[pn (E ⟨a,0,O⟩),gS ⟨s.toArray⟩] w fun e w'=>
  e= .returned (G (decide (T.zbC (qg s)≠0)))/\Wr (fun k=>k=a) w w'/\(T.zbC (qg s)≠0->∃z,DQ w' a ⟨T.zbC (qg s),[],[],[]⟩ z A/\∀k,z.ownBlock=E k->w.heap.size<=k):=by
 obtain⟨S,K,P,Q,R⟩:=qL Tryz.infoColumn;have Z:=h.box.2.2.2.2;have q:Below w.heap.size w ((((w.alloc (cl #[it .i64 0] 3)).alloc (cl #[gS ⟨zcU.toArray⟩] 9)).alloc (cl #[pn (E ⟨w.heap.size,0,O⟩)] 432)).alloc (cl #[QQ (w.heap.size+1),zeP (w.heap.size+1+1)] 429)):=(J4 w _ _ _).alloc so _;obtain⟨m,v,x,y⟩:=zdz w (cl #[it .i64 0] 3) (cl #[gS ⟨zcU.toArray⟩] 9) (cl #[pn (E ⟨w.heap.size,0,O⟩)] 432) (cl #[QQ (w.heap.size+1),zeP (w.heap.size+1+1)] 429);have i:=zi (zmd s hs (w.heap.size+1) (w.heap.size+1+1) w.heap.size (w.heap.size+1+1+1) 2
  ((((w.alloc (cl #[it .i64 0] 3)).alloc (cl #[gS ⟨zcU.toArray⟩] 9)).alloc (cl #[pn (E ⟨w.heap.size,0,O⟩)] 432)).alloc (cl #[QQ (w.heap.size+1),zeP (w.heap.size+1+1)] 429))
  om om om
  (fun u fv b=>by
   rw[qh _ _ _ _ _ _ y];match u,b with
   |0,b=>simpa using b
   |1,b=>simpa using b
   |u+2,b=>simp at b)
  (qh _ _ _ _ _ _ v) om (qh _ _ _ _ _ _ x) om (qh _ _ _ _ _ _ m) (ZW _ _ _ _ _ m))
 clear m v x y;have B:=zi h;have N:=zjk (qg s);obtain⟨n,hn⟩:∃n,T.zbC (qg s)=n:=⟨_,rfl⟩;rw[hn]at i N⊢;clear hn h;go_enter func238,ntmps238
 go_wp2_with fail
 refine(zdR _ _).mono ?_;rintro e W ⟨rfl,rfl⟩;go_wp2_with fail
 refine(zi0 _ _).mono ?_;rintro e W ⟨rfl,rfl⟩;go_wp2_with fail
 refine i.out.mono ?_;rintro e g ⟨rfl,r,l⟩;have t:=(Wr.of_below q).trans r;have c:=t.below (zh _) (fun k e=>om);clear r q i t;by_cases d:n=0
 ·subst d;clear l;go_wp2;go_ret;exact⟨sp,Wr.of_below c,fun h=>absurd rfl h⟩
 ·have Y:=l d;clear l;have j:=B.out.below c;have F:=j.box;obtain⟨C,_,D,_,o⟩:=F;have I:decide (n≠0)=true:=by simpa using d
  rw[I];go_wp2_with (at_make;refine wpList_make_full _ rfl _ _ 106 rfl 0 153 S _ 6 underlying106 K P Q .i64 .i64 (n:Int) (n:Int) n rfl rfl rfl rfl (by rw[R];omega) mo (qp _) ?_;intro X M J;have f:=(zR _ _).grown J (zh _) (fun k h=>by simp at h);have q0:=(f.cell (p:=⟨a,0,O⟩) o).trans C;have q2:=(f.frozen (p:=⟨a,0,O⟩) o).trans D)
  go_ret;refine⟨by first|rfl|simp[d],Wr.setCell (T:=fun k=>k=a) (Wr.of_below (c.trans (f.mono c.size))) (p:=⟨a,0,O⟩) rfl _,fun _=>⟨_,(j.below f).cols_made (zmc M) ?_ ?_ sp,fun k L=>?_⟩⟩;·omega
  ·intro e;have:=(((j.rows).choose_spec.2.1).lt _ e).2;omega
  ·simp[Value.ownBlock]at L;have:=c.size;omega
end Go.Proofs.YtnhfdcfnojnofaaGreatDoor
namespace Go.Proofs.YtnhfdcfnojnofaaGreatDoor.T
open Go.RowKit
theorem zjp (W1 w:World)(gp n i:Nat)(v:Value)(ls:List ByteArray)(mx lo hi:List Int)(rows:List (List Int×List UInt8×Int))(vM vL vH vC:Value)(h:RQ W1 w gp n mx lo hi rows vM vL vH vC)(hv:Sv w v ls)(hl:ls.length<3)(hn4:0<n/\n<=4)(hin:1+n<i)(hi9:i<=1000000):
 Calls Tryz.prog 112 #[.pointer (some ⟨gp,0,none⟩),.int .i64 (i:Nat),v] w fun e w'=>e= .returned (.bool false)/\Wr (fun k=>k=gp) W1 w':=by
 obtain⟨h0,h1,h2,h3,h4,f0,f1,f2,f3,f4⟩:=h.box;obtain⟨ao,cap,rfl⟩:=hv.shape;have hi1:¬((i:Int)=0):=by omega
 have hi3:1+(n:Int)<(i:Int):=by omega
 have hlI:(ls.length:Int)-2<1:=by omega
 have hw:=h.wr;have hwrap:IntKind.i64.wrap ((ls.length:Int)-2)=(ls.length:Int)-2:=by
  obtain e|e|e:ls.length=0\/ls.length=1\/ls.length=2:=by omega
  all_goals rw[e];rfl
 go_enter Tryz.func112,Tryz.ntmps112
 go_wp2;go_ret;exact⟨rfl,hw⟩
theorem zj1 (W1 w:World)(gp n k i:Nat)(ls:List ByteArray)(s0 s1 s2:ByteArray)(v:Value)(mx lo hi:List Int)(rows:List (List Int×List UInt8×Int))(vM vL vH vC:Value)(h:RQ W1 w gp n mx lo hi rows vM vL vH vC)(hv:Sv w v ls)(hlen:ls.length=k+3)(hk9:k<=100000)(hsz:∀l∈ls,l.size<=1000000000)(hn4:0<n/\n<=4)(hin:1+n<i)(hi9:i<=1000000)
 (g0:ls.getD 0 ⟨#[]⟩=s0) (g1:ls.getD (k+1) ⟨#[]⟩=s1) (g2:ls.getD (k+2) ⟨#[]⟩=s2)
 (hno:¬(k=n/\s0.toList= [114,111,119]/\((ls.drop 1).take k).all (fun l=>wOk l.data.toList)=true/\(s1.toList= [60,61]\/s1.toList= [62,61]\/s1.toList= [61])/\wOk s2.data.toList=true)):
 Calls Tryz.prog 112 #[.pointer (some ⟨gp,0,none⟩),.int .i64 (i:Nat),v] w fun e w'=>e= .returned (.bool false)/\Wr (fun k=>k=gp) W1 w':=by
 obtain⟨h0,h1,h2,h3,h4,f0,f1,f2,f3,f4⟩:=h.box;have hv0:=hv;obtain⟨ao,cap,rfl⟩:=hv.shape;obtain⟨g,off,rfl,hg,hrow⟩:=hv.row (by intro e;rw[e]at hlen;simp at hlen);have c0:=hrow 0 (by omega);have cn:=hrow (k+1) (by omega);rw[qy,g0]at c0;rw[g1]at cn;have hcap:ls.length<=cap:=by
  rcases hv with ⟨e,_⟩|⟨_,_,_,e,e2,_⟩
  ·simp at e
  ·simp only[zV]at e;omega
 have hu:=hv0.part 1 k (cap-1) (by omega) (by omega) (fun _=>trivial);have hu':Sv w (.slice (some ⟨g,off+(k+1+1),none⟩) 1 (cap-(k+1+1))) [s2]:=by
  have:=hv0.part (k+2) 1 (cap-(k+2)) (by omega) (by omega) (fun _=>trivial);have e:(ls.drop (k+2)).take 1= [s2]:=by
   rw[<-g2,zk,zj (by omega),Zn (by omega)];rfl
  rwa [e]at this
 have HWH:=zi (zbf w _ ((ls.drop 1).take k) hu (fun l hl=>hsz l (QO (Zv hl))) (by simp;omega));have hs2:s2.size<=1000000000:=by rw[<-g2,zk,zj (by omega)];exact hsz _ (zZ _)
 have HW2:=zi (fun(W:World) (hW:Sv W (.slice (some ⟨g,off+(k+1+1),none⟩) 1 (cap-(k+1+1))) [s2])=>zbf W _ [s2] hW (by simpa using hs2) (by simp));have hall2:([s2].all fun l=>wOk l.data.toList)=wOk s2.data.toList:=by simp
 rw[hall2]at HW2;obtain⟨al,hal⟩:∃al,(((ls.drop 1).take k).all fun l=>wOk l.data.toList)=al:=⟨_,rfl⟩;rw[hal]at HWH hno;obtain⟨fi,hfi⟩:∃fi,wOk s2.data.toList=fi:=⟨_,rfl⟩;rw[hfi]at HW2 hno;have hi1:¬((i:Int)=0):=by omega
 have hi1':¬((i:Int)=1):=by omega
 have hi3:1+(n:Int)<(i:Int):=by omega
 have hi4:¬(i:Int)<=1+(n:Int):=by omega
 have hlt:((ls.drop 1).take k).length=k:=by simp;omega
 rw[hlen]at hcap⊢;clear hall2 hv hrow hsz hal hfi;have hw:=h.wr;by_cases ha:al=true
 ·subst ha;have HWH':Hid (Calls Tryz.prog 200 #[.slice (some ⟨g,off+1,none⟩) k (cap-1)] w fun e w'=>∃xo xc,e= .returned (.tuple #[.slice xo k xc,.bool true])/\Below w.heap.size w w'):=by
   refine HWH.out.mono ?_;rintro e w1 ⟨x,rfl,hx,_,hb1⟩;obtain⟨hx1,_⟩:=hx rfl;have hxl:=hx1.shape;rw[zo,hlt]at hxl;obtain⟨xo,xc,rfl⟩:=hxl;exact⟨xo,xc,rfl,hb1⟩
  have HW2':Hid (∀W:World,Sv W (.slice (some ⟨g,off+(k+1+1),none⟩) 1 (cap-(k+1+1))) [s2]->Calls Tryz.prog 200 #[.slice (some ⟨g,off+(k+1+1),none⟩) 1 (cap-(k+1+1))] W fun e w'=>∃ao l c,e= .returned (.tuple #[.slice ao l c,.bool fi])/\Below W.heap.size W w'):=by
   intro W hW;refine(HW2.out W hW).mono ?_;rintro e w1 ⟨x,rfl,hx,hx2,hb1⟩;by_cases hf:fi=true
   ·obtain⟨xo,xc,rfl⟩:=(hx hf).1.shape;exact⟨_,_,_,rfl,hb1⟩
   ·obtain rfl:=hx2 (by simpa using hf);exact⟨_,_,_,rfl,hb1⟩
  clear HWH HW2;by_cases hf:fi=true
  ·subst hf;by_cases hs:s0.toList= [114,111,119]
   ·by_cases hkn:k=n
    ·have hsg:¬(s1.toList= [60,61]\/s1.toList= [62,61]\/s1.toList= [61]):=fun e=>hno ⟨hkn,hs,rfl,e,rfl⟩
     obtain⟨n1,n2,n3⟩:¬s1.toList= [60,61]/\¬s1.toList= [62,61]/\¬s1.toList= [61]:=⟨fun e=>hsg (.inl e),fun e=>hsg (.inr (.inl e)),fun e=>hsg (.inr (.inr e))⟩;have b1:(s1.toList == [60,61])=false:=by simpa using n1
     have b2:(s1.toList == [62,61])=false:=by simpa using n2
     have b3:(s1.toList == [61])=false:=by simpa using n3
     obtain rfl:n=k:=hkn.symm;clear hno hsg;go_enter Tryz.func112,Tryz.ntmps112
     go_wp2_with fail
     refine HWH'.out.mono ?_;rintro e w1 ⟨xo,xc,rfl,hb1⟩;have hR:=h.below hb1;obtain⟨k0,k1,k2,k3,k4,e0,e1,e2,e3,e4⟩:=hR.box;have d0:=(hb1.cell (p:=⟨g,off,none⟩) hg).trans c0;have dn:=(hb1.cell (p:=⟨g,off+(n+1),none⟩) hg).trans cn;go_wp2_with fail
     refine(HW2'.out w1 (hu'.below hb1)).mono ?_;rintro e w2 ⟨yo,yl,yc,rfl,hb2⟩;have hR2:=hR.below hb2;have d02:=(hb2.cell (p:=⟨g,off,none⟩) (zv hg hb1.size)).trans d0;have dn2:=(hb2.cell (p:=⟨g,off+(n+1),none⟩) (zv hg hb1.size)).trans dn;clear k0 k1 k2 k3 k4 e0 e1 e2 e3 e4;obtain⟨k0,k1,k2,k3,k4,e0,e1,e2,e3,e4⟩:=hR2.box;go_wp2;go_ret;exact⟨rfl,hR2.wr⟩
    ·have hki:¬(k:Int)=(n:Int):=by omega
     clear hno;go_enter Tryz.func112,Tryz.ntmps112
     go_wp2_with fail
     refine HWH'.out.mono ?_;rintro e w1 ⟨xo,xc,rfl,hb1⟩;have hR:=h.below hb1;obtain⟨k0,k1,k2,k3,k4,e0,e1,e2,e3,e4⟩:=hR.box;have d0:=(hb1.cell (p:=⟨g,off,none⟩) hg).trans c0;have dn:=(hb1.cell (p:=⟨g,off+(k+1),none⟩) hg).trans cn;go_wp2_with fail
     refine(HW2'.out w1 (hu'.below hb1)).mono ?_;rintro e w2 ⟨yo,yl,yc,rfl,hb2⟩;have hR2:=hR.below hb2;have d02:=(hb2.cell (p:=⟨g,off,none⟩) (zv hg hb1.size)).trans d0;have dn2:=(hb2.cell (p:=⟨g,off+(k+1),none⟩) (zv hg hb1.size)).trans dn;clear k0 k1 k2 k3 k4 e0 e1 e2 e3 e4;obtain⟨k0,k1,k2,k3,k4,e0,e1,e2,e3,e4⟩:=hR2.box;go_wp2;go_ret;exact⟨rfl,hR2.wr⟩
   ·clear hno;go_enter Tryz.func112,Tryz.ntmps112
    go_wp2_with fail
    refine HWH'.out.mono ?_;rintro e w1 ⟨xo,xc,rfl,hb1⟩;have hR:=h.below hb1;obtain⟨k0,k1,k2,k3,k4,e0,e1,e2,e3,e4⟩:=hR.box;have d0:=(hb1.cell (p:=⟨g,off,none⟩) hg).trans c0;have dn:=(hb1.cell (p:=⟨g,off+(k+1),none⟩) hg).trans cn;go_wp2_with fail
    refine(HW2'.out w1 (hu'.below hb1)).mono ?_;rintro e w2 ⟨yo,yl,yc,rfl,hb2⟩;have hR2:=hR.below hb2;have d02:=(hb2.cell (p:=⟨g,off,none⟩) (zv hg hb1.size)).trans d0;have dn2:=(hb2.cell (p:=⟨g,off+(k+1),none⟩) (zv hg hb1.size)).trans dn;clear k0 k1 k2 k3 k4 e0 e1 e2 e3 e4;obtain⟨k0,k1,k2,k3,k4,e0,e1,e2,e3,e4⟩:=hR2.box;go_wp2;go_ret;exact⟨rfl,hR2.wr⟩
  ·have hff:fi=false:=by simpa using hf
   subst hff;clear hno;go_enter Tryz.func112,Tryz.ntmps112
   go_wp2_with fail
   refine HWH'.out.mono ?_;rintro e w1 ⟨xo,xc,rfl,hb1⟩;have hR:=h.below hb1;obtain⟨k0,k1,k2,k3,k4,e0,e1,e2,e3,e4⟩:=hR.box;have d0:=(hb1.cell (p:=⟨g,off,none⟩) hg).trans c0;have dn:=(hb1.cell (p:=⟨g,off+(k+1),none⟩) hg).trans cn;go_wp2_with fail
   refine(HW2'.out w1 (hu'.below hb1)).mono ?_;rintro e w2 ⟨yo,yl,yc,rfl,hb2⟩;have hR2:=hR.below hb2;have d02:=(hb2.cell (p:=⟨g,off,none⟩) (zv hg hb1.size)).trans d0;have dn2:=(hb2.cell (p:=⟨g,off+(k+1),none⟩) (zv hg hb1.size)).trans dn;clear k0 k1 k2 k3 k4 e0 e1 e2 e3 e4;obtain⟨k0,k1,k2,k3,k4,e0,e1,e2,e3,e4⟩:=hR2.box;go_wp2;go_ret;exact⟨rfl,hR2.wr⟩
 ·have haf:al=false:=by simpa using ha
  subst haf;go_enter Tryz.func112,Tryz.ntmps112
  go_wp2_with fail
  refine HWH.out.mono ?_;rintro e w1 ⟨x,rfl,_,hx2,hb1⟩;obtain rfl:=hx2 (by first|exact trivial|rfl);have hR:=h.below hb1;obtain⟨k0,k1,k2,k3,k4,e0,e1,e2,e3,e4⟩:=hR.box;go_wp2;go_ret;exact⟨rfl,hR.wr⟩
end Go.Proofs.YtnhfdcfnojnofaaGreatDoor.T
namespace Go.Proofs.YtnhfdcfnojnofaaGreatDoor
open Go.RowKit
theorem zg9 (n r:Int)(s:Nat):(r*n/(Nat.gcd (r*n).natAbs (s*1):Int),s*1/Nat.gcd (r*n).natAbs (s*1))=Z5 (n,1) (r,s):=by
 unfold Z5 qred;simp only[Qe,Qy,Int.mul_comm r n]
theorem qP.shape {w:H}{x:Value}{p:Int}{q:Nat}(h:qP w x p q):∃t:T.Tri,x=t.val/\0<q:=by
 obtain⟨c,a,l,d,b,g,e,rfl,-,-,-,f,-⟩:=h.parts;exact⟨⟨c,(a,l,d),(b,g,e)⟩,rfl,f⟩
theorem zY.shape {w:H}{x:Value}{z:Int}(h:zY w x z):∃t:WT,x=t.val:=by
 obtain⟨b,a,l,c,rfl,-,-⟩:=h.parts;exact⟨⟨b,(a,l,c)⟩,rfl⟩
theorem zdX (K:Nat)(a:K<=1073741800):zca K:=zm7 K om (zkS K a)
theorem js {w:H}{g b j:Nat}{u c d e:Value}(f:b≠g)(h:w.cell? ⟨b,j,O⟩=E u):(((w.setCell ⟨g,0,O⟩ c).setCell ⟨g,1,O⟩ d).setCell ⟨g,2,O⟩ e).cell? ⟨b,j,O⟩=E u:=by
 rw[zP (w:=w) (a:=⟨b,j,O⟩)];·exact h
 ·exact(zK _ _ _ _ so).trans ((zK _ _ _ _ so).trans (zK _ _ _ _ so))
theorem jG {W a:H}(h:Below W.drew.heap.size W.drew a):Ext W a:=⟨h.os,h.tape,h.output,h.size,h.block⟩
theorem ziz (K:Nat)(M:K+K+1<=1073741800)(w:H)(x y z:Value)(p n r:Int)(q s:Nat)(hx:qP w x p q)(hy:zY w y n)(hz:qP w z r s)
 (hp:p.natAbs<4294967296^K) (S:q<4294967296^K) (hn:n.natAbs<4294967296^K) (hr:r.natAbs<4294967296^K) (hs:s<4294967296^K) (hm:(r*n).natAbs<4294967296^K):
 Calls pg 375 #[x,y,z] w fun e w'=>∃t,e= .returned t/\qP w' t (jh (p,q) (Z5 (n,1) (r,s))).1 (jh (p,q) (Z5 (n,1) (r,s))).2/\Below w.heap.size w w':=by
 obtain⟨⟨d,⟨c,i,f⟩,⟨g,j,h⟩⟩,rfl,_⟩:=hx.shape;obtain⟨⟨l,⟨k,o,m⟩⟩,rfl⟩:=hy.shape;obtain⟨⟨B,⟨A,I,C⟩,⟨D,J,F⟩⟩,rfl,_⟩:=hz.shape;simp only[T.Tri.val,T.Tri.up,T.Tri.down,WT.val,WT.sv]at hx hy hz⊢;have a6:1<4294967296^K:=by
  have:0<K:=by
   rcases Qc K with L|L
   ·rw[L]at S;simp at S;omega
   ·exact L
  exact zdc om om
 have ab:Hid (∀W,Ext w W->Calls pg 75 #[ag #[G l,V k o m]] W fun e w'=>∃t:T.Tri,e= .returned (ag #[G t.b,V t.u.1 t.u.2.1 t.u.2.2,V t.d.1 t.d.2.1 t.d.2.2])/\qP w' (ag #[G t.b,V t.u.1 t.u.2.1 t.u.2.2,V t.d.1 t.d.2.1 t.d.2.2]) n 1/\Below W.heap.size W w'):=by
  intro W b;refine(zf4 W _ n (hy.below b)).mono ?_;rintro e w' ⟨t,rfl,u,P⟩;obtain⟨t,rfl,-⟩:=u.shape;exact⟨t,rfl,u,P⟩
 have ae:Hid (∀W t,Ext w W->qP W t n 1->Calls pg 122 #[ag #[G B,V A I C,V D J F],t] W fun e w'=>∃t:T.Tri,e= .returned (ag #[G t.b,V t.u.1 t.u.2.1 t.u.2.2,V t.d.1 t.d.2.1 t.d.2.2])/\qP w' (ag #[G t.b,V t.u.1 t.u.2.1 t.u.2.2,V t.d.1 t.d.2.1 t.d.2.2]) (Z5 (n,1) (r,s)).1 (Z5 (n,1) (r,s)).2/\Below W.heap.size W w'):=by
  intro W t b u;refine(zkO K om (zdX _ om) W _ t r n s 1 (hz.below b) u hr hn hs a6).mono ?_;rintro e w' ⟨t,rfl,u,P⟩;have X:=zg9 n r s;rw[<-X];obtain⟨t,rfl,-⟩:=u.shape;exact⟨t,rfl,u,P⟩
 have a9:(Z5 (n,1) (r,s)).1.natAbs<4294967296^K/\(Z5 (n,1) (r,s)).2<4294967296^K:=by
  rw[<-zg9 n r s];have hg:0<Nat.gcd (r*n).natAbs (s*1):=Qn _ om;refine⟨?_,?_⟩
  ·show(r*n/(Nat.gcd (r*n).natAbs (s*1):Int)).natAbs<_
   rw[jq (Q3.2 (ZY _ _)),Zc];exact zr (Qh _ _) hm
  ·show s*1/Nat.gcd (r*n).natAbs (s*1)<_
   exact zr (Qh _ _) om
 have ad:Hid (∀W t,Ext w W->qP W t (Z5 (n,1) (r,s)).1 (Z5 (n,1) (r,s)).2->Calls pg 120 #[ag #[G d,V c i f,V g j h],t] W fun e w'=>∃t:T.Tri,e= .returned (ag #[G t.b,V t.u.1 t.u.2.1 t.u.2.2,V t.d.1 t.d.2.1 t.d.2.2])/\qP w' (ag #[G t.b,V t.u.1 t.u.2.1 t.u.2.2,V t.d.1 t.d.2.1 t.d.2.2]) (jh (p,q) (Z5 (n,1) (r,s))).1 (jh (p,q) (Z5 (n,1) (r,s))).2/\Below W.heap.size W w'):=by
  intro W t b u;generalize Z5 (n,1) (r,s)=N at *;obtain⟨a8,a0⟩:=a9;have hB:4294967296^(K+K+1)=4294967296*(4294967296^K*4294967296^K):=by rw[ZK,ZI,Qg]
  have a1:(p*(N.2:Int)).natAbs<=4294967296^K*4294967296^K:=by rw[Zx,Zc];exact Z0 (Z2 hp) (Z2 a0)
  have a2:(N.1*(q:Int)).natAbs<=4294967296^K*4294967296^K:=by rw[Zx,Zc];exact Z0 (Z2 a8) (Z2 S)
  have a3:q*N.2<=4294967296^K*4294967296^K:=Z0 (Z2 S) (Z2 a0);have a4:0<4294967296^K*4294967296^K:=jr om om;generalize 4294967296^K*4294967296^K=BB at *;have a5:=zaT (p*(N.2:Int)) (N.1*(q:Int));refine(zl0 K (K+K+1) om om (zdX _ om) W _ t p N.1 q N.2 (hx.below b) u hp a8 S a0 (by rw[hB];omega) (by rw[hB];omega)).mono ?_;rintro e w' ⟨t,rfl,u,P⟩;obtain⟨t,rfl,-⟩:=u.shape;exact⟨t,rfl,u,P⟩
 generalize jh (p,q) (Z5 (n,1) (r,s))=ar at *;generalize Z5 (n,1) (r,s)=N at *;clear hp S hn hr hs hm a9 a6 hx hy hz;go_enter func375,ntmps375
 go_wp2_with fail
 have Y:Ext w ((((w.alloc (cl #[G d,V c i f,V g j h] 103)).alloc (cl #[G l,V k o m] 101)).alloc (cl #[G B,V A I C,V D J F] 103)).alloc (cl #[G false,V O 0 0,V O 0 0] 103)):=((((Ext.refl w).alloc _).alloc _).alloc _).alloc _;have Z:((((w.alloc (cl #[G d,V c i f,V g j h] 103)).alloc (cl #[G l,V k o m] 101)).alloc (cl #[G B,V A I C,V D J F] 103)).alloc (cl #[G false,V O 0 0,V O 0 0] 103)).heap[w.heap.size]? =E (cl #[G d,V c i f,V g j h] 103):=(((Ext.refl (w.alloc (cl #[G d,V c i f,V g j h] 103))).alloc _).alloc _ |>.alloc _).block _ sp |>.trans (zq w _)
 have X:((((w.alloc (cl #[G d,V c i f,V g j h] 103)).alloc (cl #[G l,V k o m] 101)).alloc (cl #[G B,V A I C,V D J F] 103)).alloc (cl #[G false,V O 0 0,V O 0 0] 103)).heap[w.heap.size+1]? =E (cl #[G l,V k o m] 101):=(((Ext.refl ((w.alloc (cl #[G d,V c i f,V g j h] 103)).alloc (cl #[G l,V k o m] 101))).alloc _).alloc _).block _ sp |>.trans (by have L:=zq (w.alloc (cl #[G d,V c i f,V g j h] 103)) (cl #[G l,V k o m] 101);simpa using L)
 have e2:((((w.alloc (cl #[G d,V c i f,V g j h] 103)).alloc (cl #[G l,V k o m] 101)).alloc (cl #[G B,V A I C,V D J F] 103)).alloc (cl #[G false,V O 0 0,V O 0 0] 103)).heap[w.heap.size+1+1]? =E (cl #[G B,V A I C,V D J F] 103):=((Ext.refl (((w.alloc (cl #[G d,V c i f,V g j h] 103)).alloc (cl #[G l,V k o m] 101)).alloc (cl #[G B,V A I C,V D J F] 103))).alloc _).block _ sp |>.trans (by have L:=zq ((w.alloc (cl #[G d,V c i f,V g j h] 103)).alloc (cl #[G l,V k o m] 101)) (cl #[G B,V A I C,V D J F] 103);simpa using L)
 have e3:((((w.alloc (cl #[G d,V c i f,V g j h] 103)).alloc (cl #[G l,V k o m] 101)).alloc (cl #[G B,V A I C,V D J F] 103)).alloc (cl #[G false,V O 0 0,V O 0 0] 103)).heap[w.heap.size+1+1+1]? =E (cl #[G false,V O 0 0,V O 0 0] 103):=by have L:=zq (((w.alloc (cl #[G d,V c i f,V g j h] 103)).alloc (cl #[G l,V k o m] 101)).alloc (cl #[G B,V A I C,V D J F] 103)) (cl #[G false,V O 0 0,V O 0 0] 103);simpa using L
 generalize (((w.alloc (cl #[G d,V c i f,V g j h] 103)).alloc (cl #[G l,V k o m] 101)).alloc (cl #[G B,V A I C,V D J F] 103)).alloc (cl #[G false,V O 0 0,V O 0 0] 103)=Q at *;generalize au:w.heap.size=a at *;have HS:=zi (fun W (b:Ext Q W)=>And.intro (b.cell (c_ 0 Z)) (And.intro (b.cell (c_ 1 Z)) (And.intro (b.cell (c_ 2 Z)) (And.intro (b.cell (c_ 0 X)) (And.intro (b.cell (c_ 1 X)) (And.intro (b.cell (c_ 0 e2)) (And.intro (b.cell (c_ 1 e2)) (b.cell (c_ 2 e2)))))))));have HB:=zi (fun W (b:Ext Q W)=>(b.block _ (zf.1 e3).1).trans e3);have y0:=Ext.refl Q;obtain⟨_,_,_,_,_,_,_,_⟩:=HS.out Q y0;have av:a<=a+1+1+1:=om;clear Z X e2 e3;go_region_held3 (fun W=>W.cell? ⟨a,0,O⟩=E (G d)/\W.cell? ⟨a,1,O⟩=E (V c i f)/\W.cell? ⟨a,2,O⟩=E (V g j h)/\W.cell? ⟨a+1,0,O⟩=E (G l)/\W.cell? ⟨a+1,1,O⟩=E (V k o m)/\W.cell? ⟨a+1+1,0,O⟩=E (G B)/\W.cell? ⟨a+1+1,1,O⟩=E (V A I C)/\W.cell? ⟨a+1+1,2,O⟩=E (V D J F)) (first|(exact HS.out _ ea)|(have M:=HS.out U xC;exact⟨js om M.1,js om M.2.1,js om M.2.2.1,js om M.2.2.2.1,js om M.2.2.2.2.1,js om M.2.2.2.2.2.1,js om M.2.2.2.2.2.2.1,js om M.2.2.2.2.2.2.2⟩)|go_keep) (first|(go_at_call 120;have _g:=xB;refine(ad.out _ _ (Y.trans xB) ap).mono ?_;rintro e U ⟨⟨c0,⟨c1,c2,c3⟩,c4,c5,c6⟩,rfl,aq,an⟩;have xC:Ext Q U:=xB.trans (Ext.of an);have R:=HB.out U xC;have g0:=c_ 0 R;have g1:=c_ 1 R;have g2:=c_ 2 R;have f0:U.frozen? ⟨a+1+1+1,0,O⟩=false:=T.ZX R;have f1:U.frozen? ⟨a+1+1+1,1,O⟩=false:=T.ZX R;have f2:U.frozen? ⟨a+1+1+1,2,O⟩=false:=T.ZX R)|(go_at_call 122;have _g:=xA;refine(ae.out _ _ (Y.trans xA) ao).mono ?_;rintro e wB ⟨_,rfl,ap,al⟩;have xB:Ext Q wB:=xA.trans (Ext.of al))|(go_at_call 75;refine(ab.out _ (by first|exact Y.drew|exact Y)).mono ?_;rintro e wA ⟨_,rfl,ao,a7⟩;have xA:Ext Q wA:=(by first|exact jG a7|exact Ext.of a7)))
 all_goals
  go_wp2;obtain⟨_,_,_,aa,af,ah,ai,aj,ak⟩:=aq;simp only[zby,List.toArray_inj,zaI,zcp,zcn]at aa;obtain⟨rfl,rfl,rfl⟩:=aa;exact zH (v:=ag #[G c0,V c1 c2 c3,V c4 c5 c6]) (by simp[results,results375,go_sem,g0,g1,g2]) rfl ⟨_,rfl,jP af ah ai aj ak g0 g1 g2,by
   have P:=Qu (Qu (Qu (Y.trans xC) (p:=⟨a+1+1+1,0,O⟩) (show w.heap.size<=a+1+1+1 by omega) (G c0)) (p:=⟨a+1+1+1,1,O⟩) (show w.heap.size<=a+1+1+1 by omega) (V c1 c2 c3)) (p:=⟨a+1+1+1,2,O⟩) (show w.heap.size<=a+1+1+1 by omega) (V c4 c5 c6);exact P⟩
end Go.Proofs.YtnhfdcfnojnofaaGreatDoor
