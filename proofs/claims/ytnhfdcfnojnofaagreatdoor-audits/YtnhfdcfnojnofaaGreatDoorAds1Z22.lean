import Derived.Test.YtnhfdcfnojnofaaGreatDoorAds1Z21
open Option renaming none->O,some->E
open Go.Value renaming slice->V,bool->G,string->gS,pointer->pn,int->it
open Go.Obj renaming cells->cl
open Go renaming World->H
open Go.Proofs.Tryz renaming prog->pg
open Go.Proofs.Tryz
set_option linter.unusedSimpArgs false
set_option linter.unusedVariables false
set_option maxHeartbeats 4000000
set_option maxRecDepth 100000
namespace Go.Proofs.YtnhfdcfnojnofaaGreatDoor
open Go.RowKit
theorem ziw (s:List UInt8)(hs:s.length<=2000)(d a n m:Nat)(g:Value)(zs:List Int)(w:H)(f:qX w d (V (E ⟨a,0,O⟩) n n) g)(i:n<=4)(h:m<n)(b:Whs w a zs)(l:zs.length=3*n):
 Calls pg 240 #[pn (E ⟨d,0,O⟩),gS ⟨s.toArray⟩,it .i64 (m:Nat)] w fun e w'=>
  e= .returned (G (zaU za4 2 (qg s)))/\Wr (fun k=>k=a) w w'/\(zaU za4 2 (qg s)=true->Whs w' a (zaQ (fun j=>3*m+1+j) 0 zs ((qg s).drop 1))):=by
 obtain⟨_,_,_,_,_⟩:=f;have d:=b.lt;obtain⟨f,g,h,l⟩:=zdz w (cl #[gS ⟨za4.toArray⟩] 9) (cl #[pn (E ⟨a,m*6+2,O⟩)] 435) (cl #[pn (E ⟨a,m*6+4,O⟩)] 435) (cl #[QQ w.heap.size,ZG (w.heap.size+1),ZG (w.heap.size+1+1)] 429);have d:Below w.heap.size w ((((w.alloc (cl #[gS ⟨za4.toArray⟩] 9)).alloc (cl #[pn (E ⟨a,m*6+2,O⟩)] 435)).alloc (cl #[pn (E ⟨a,m*6+4,O⟩)] 435)).alloc (cl #[QQ w.heap.size,ZG (w.heap.size+1),ZG (w.heap.size+1+1)] 429)).drew:=((J4 w _ _ _).alloc so _).trans (c:=World.drew _) ⟨rfl,rfl,rfl,zh _,fun _ _=>rfl⟩;have o:=zi (zgq s hs za4 w.heap.size [w.heap.size+1,w.heap.size+1+1] (fun j=>3*m+1+j) a zs (w.heap.size+1+1+1) 3
  ((((w.alloc (cl #[gS ⟨za4.toArray⟩] 9)).alloc (cl #[pn (E ⟨a,m*6+2,O⟩)] 435)).alloc (cl #[pn (E ⟨a,m*6+4,O⟩)] 435)).alloc (cl #[QQ w.heap.size,ZG (w.heap.size+1),ZG (w.heap.size+1+1)] 429)).drew
  om sp sp om
  (fun i fv a=>by
   refine(qh _ _ _ _ _ _ l).trans ?_;match i,a with
   |0,a=>simpa using a
   |1,a=>simpa using a
   |2,a=>simpa using a
   |i+3,a=>simp at a)
  (qh _ _ _ _ _ _ f) om
  (fun j q a=>by
   match j,a with
   |0,a=>
    simp at a;subst a;refine⟨om,?_,om⟩;rw[show 2*(3*m+1+0)=m*6+2 by omega];exact qh _ _ _ _ _ _ g
   |1,a=>
    simp at a;subst a;refine⟨om,?_,om⟩;rw[show 2*(3*m+1+1)=m*6+4 by omega];exact qh _ _ _ _ _ _ h
   |j+2,a=>simp at a)
  (b.below d))
 clear f g h l b;go_enter func240,ntmps240
 go_wp2_with fail
 go_region_with (first|(go_at_call 320;refine(zdR _ _).mono ?_;rintro e a ⟨rfl,rfl⟩)|(go_at_call 322;refine(jg _ _).mono ?_;rintro e a ⟨rfl,rfl⟩)|(go_at_call 319;refine o.out.mono ?_;rintro e a ⟨rfl,a,b⟩))
 all_goals go_wp2
 all_goals go_ret
 all_goals exact⟨rfl,(Wr.of_below d).trans a,b⟩
attribute [local go_sem] qm qW ZR
theorem zjX (s:List UInt8)(hs:s.length<=2000)(r bc:Nat)(p:qo)(U:Value)(w:H)(h:DQ w r p (V (E ⟨bc,0,O⟩) p.n p.n) U)(bI:0<p.n)(hn:p.n<=4)(bJ:p.rows.length<=6):
 Calls pg 241 #[pn (E ⟨r,0,O⟩),gS ⟨s.toArray⟩] w fun e w'=>
  e= .returned (G (zcY p.n (qg s)))/\Wr (Own r (V (E ⟨bc,0,O⟩) p.n p.n) U) w w'/\(zcY p.n (qg s)=true->∃aY,DQ w' r { p with rows:=p.rows ++ [rowOf p.n (qg s)] } (V (E ⟨bc,0,O⟩) p.n p.n) aY/\∀k,aY.ownBlock=E k->U.ownBlock=E k\/w.heap.size<=k):=by
 obtain⟨i0,hi,bA,bB,bC⟩:=qL Tryz.infoWhole;obtain⟨_,_,_,_,_⟩:=h.box;have hm:Tryz.prog.follows .mixedOrders=true:=kr;obtain⟨w1,_,aS,aQ⟩:=run_make_full (P:=pg) w 0 158 101 i0 _ 2 underlying158 hi bA bB .i64 .i64 p.n (by rw[bC];omega) mo (qp _);have aO:=(zR _ _).grown aQ (zh _) (fun k h=>by simp at h);have aD:w1.heap[w.heap.size]? =E (cl (madeCells #[G false,V O 0 0] (p.n*2)) 101 (0,0)):=zg4 aS;have bp:=jn aD;obtain⟨b,hgr⟩:∃b,w1.heap.size=b:=⟨_,rfl⟩;obtain⟨F,hW2⟩:∃F,w1.alloc (cl #[gS ⟨#[]⟩,G false,V O 0 0,V (E ⟨w.heap.size,0,O⟩) p.n p.n] 160)=F:=⟨_,rfl⟩;have bk:Below w.heap.size w F:=by rw[<-hW2];exact aO.alloc aO.size _
 have ai:zc0 F w.heap.size b p.n:=by
  rw[<-hW2];refine⟨(zI _ _ _ bp).trans aD,?_⟩;rw[<-hgr];exact qq w1 _
 have ax:F.heap.size=b+1:=by rw[<-hW2,<-hgr];exact qx _ _
 have ad:=zi (Pls.start w F bk zcT (fun o=>⟨w.heap.size,o*2,O⟩));have HD:=zi h;have bl:w.heap.size<b:=om;have hn:=hn;clear h aS aQ aD;generalize bs:p.n=n at *;refine JO func241 ntmps241 (h:=?_);rw[ax]at ad;gi_wp2;refine(zS.2 (zdR _ _)).mono ?_;rintro e w2 ⟨rfl,rfl⟩;have g0:(((F.alloc (cl #[gS ⟨#[114,111,119]⟩] 9)).alloc (cl #[.func (.func 364) #[] #[pn (E ⟨b+1,0,O⟩)]] 429)).alloc (cl #[V (E ⟨b+1+1,0,O⟩) 1 1] 433)).cell? ⟨b,3,O⟩=E (V (E ⟨w.heap.size,0,O⟩) n n):=
  ((J4 F _ _ _).cell (p:=⟨b,3,O⟩) so).trans (qh _ _ _ _ _ _ ai.2)
 gi_wp2;refine(zS.2 (zer _ _ _ _ rfl _)).mono ?_;rintro e w2 ⟨rfl,rfl⟩;gi_wp2;refine zaE (zec (E ⟨w.heap.size,0,O⟩) w.heap.size n n (b+1+1+1+1) om (fun _=>rfl)) rfl (ZJ func367 kr rfl) (fun bD Y=>?_)
  (fun k N A=>k<=n/\∃c I L,c.length=k/\Pls w.heap.size w A (b+1+1+1) (b+1) zcT c (fun o=>⟨w.heap.size,o*2,O⟩) [b+1+1+1+1,b,w.heap.size] I L/\A.cell? ⟨b+1+1+1+1,0,O⟩=E (V (E ⟨w.heap.size,0,O⟩) n n)/\zc0 A w.heap.size b n/\(∀T∈c,b<T)/\∀x,N x↔x=b+1+1+1\/(V I (k+1) L).ownBlock=E x)
  (fun m k A=>False) (fun x=>x=b+1+1+1\/(V (E ⟨b+1+1,0,O⟩) (0+1) 1).ownBlock=E x) ?hI ?hIx ?hC ?h0 ?round ?done ?stop
 case hI=>
  rintro k N A B' ⟨h1,c,I,L,h2,X,h4,h6,h7,h5⟩ hk;exact⟨h1,c,I,L,h2,X.keep hk so,hk.cell h4,h6.keep hk,h7,h5⟩
 case hIx=>
  rintro m k A B' h _;exact h.elim
 case hC=>
  rintro k N A ⟨h1,c,I,L,h2,X,h4,h6,h7,h5⟩;refine⟨h4,fun x hx=>?_⟩;subst h2;rcases(h5 x).1 hx with e|e
  ·rw[e];exact X.lt _ sp
  ·exact(X.own.lt x e).2
 case h0=>
  refine⟨qp _,[],E ⟨b+1+1,0,O⟩,1,rfl,?_,?_,?_,fun T hq=>by simp at hq,fun _=>Ql⟩
  ·have h1:=ad.out.avoid w.heap.size so (fun g e=>by simp[Value.ownBlock]at e;omega);have h2:=h1.avoid b so (fun g e=>by simp[Value.ownBlock]at e;omega);have X:=h2.alloc_avoid (cl #[V (E ⟨w.heap.size,0,O⟩) n n] 158);simp only[qx,ax]at X;exact X
  ·have:=(Qp (((F.alloc (cl #[gS ⟨#[114,111,119]⟩] 9)).alloc (cl #[.func (.func 364) #[] #[pn (E ⟨b+1,0,O⟩)]] 429)).alloc (cl #[V (E ⟨b+1+1,0,O⟩) 1 1] 433)) 158 (V (E ⟨w.heap.size,0,O⟩) n n)).cell;simp only[qx,ax]at this;exact this
  ·exact ai.keep (B:=0) ((((zw.alloc 0 F _).trans (zw.alloc 0 _ _)).trans (zw.alloc 0 _ _)).trans (zw.alloc 0 _ _))
 case round=>
  rintro l2 k bD N A Y ⟨_,c,I,L,av,l,aj,a7,aB,hM⟩;have bn:k<n:=by
   have:=(zn.1 Y).1;rwa [Q9]at this
  rw[zbL bn]at Y;injection Y with Y
  subst Y;subst av;unfold Qr;gi_wp2;refine⟨Wr.refl _ _,fun d al=>?_⟩;have t:=l.keep al so;have aP:=al.cell aj;have aN:=a7.keep al;have bL:=al.size;have c6:=t.box;have c7:=(t.alloc (cl #[pn (E ⟨w.heap.size,c.length*2,O⟩)] 435)).box;have c8:=((t.alloc (cl #[pn (E ⟨w.heap.size,c.length*2,O⟩)] 435)).alloc (cl #[.func (.func 366) #[] #[pn (E ⟨d.heap.size,0,O⟩)]] 429)).box;have ab:=((t.alloc (cl #[pn (E ⟨w.heap.size,c.length*2,O⟩)] 435)).alloc (cl #[.func (.func 366) #[] #[pn (E ⟨d.heap.size,0,O⟩)]] 429)).drew;have a9:((d.alloc (cl #[pn (E ⟨w.heap.size,c.length*2,O⟩)] 435)).alloc (cl #[.func (.func 366) #[] #[pn (E ⟨d.heap.size,0,O⟩)]] 429)).drew.cell? ⟨d.heap.size+1,0,O⟩=E (ZG d.heap.size):=by
   have:=(Qp (d.alloc (cl #[pn (E ⟨w.heap.size,c.length*2,O⟩)] 435)) 429 (ZG d.heap.size)).cell;rwa [qx]at this
  have ae:((d.alloc (cl #[pn (E ⟨w.heap.size,c.length*2,O⟩)] 435)).alloc (cl #[.func (.func 366) #[] #[pn (E ⟨d.heap.size,0,O⟩)]] 429)).drew.cell? ⟨d.heap.size,0,O⟩=E (pn (E ⟨w.heap.size,c.length*2,O⟩)):=
   ((Qp d 435 (pn (E ⟨w.heap.size,c.length*2,O⟩))).alloc _).cell
  have aa:d.heap.size≠b+1+1+1:=by have:=t.lt (b+1+1+1) sp;omega
  have ah:=t.bel.size;have af:∀g,(V I (c.length+1) L).ownBlock=E g->g≠d.heap.size:=fun g e=>by have:=(t.own.lt g e).2;omega
  have aw:c.length<=900:=om;have ba:∀T∈c ++ [d.heap.size],b<T:=by
   intro T hq;rcases Zs.1 hq with e|e
   ·exact aB T e
   ·rw[Qo.1 e];exact t.lt b sp
  have ay:Wr N d ((d.alloc (cl #[pn (E ⟨w.heap.size,c.length*2,O⟩)] 435)).alloc (cl #[.func (.func 366) #[] #[pn (E ⟨d.heap.size,0,O⟩)]] 429)).drew:=(Wr.of_below (J3 d _ _)).trans (Wr.drew _ _);have aA:((d.alloc (cl #[pn (E ⟨w.heap.size,c.length*2,O⟩)] 435)).alloc (cl #[.func (.func 366) #[] #[pn (E ⟨d.heap.size,0,O⟩)]] 429)).drew.cell? ⟨b+1+1+1+1,0,O⟩=E (V (E ⟨w.heap.size,0,O⟩) n n):=((zw.alloc 0 d _).trans (zw.alloc 0 _ _)).cell aP;have az:zc0 ((d.alloc (cl #[pn (E ⟨w.heap.size,c.length*2,O⟩)] 435)).alloc (cl #[.func (.func 366) #[] #[pn (E ⟨d.heap.size,0,O⟩)]] 429)).drew w.heap.size b n:=aN.keep (((zw.alloc 0 d _).trans (zw.alloc 0 _ _)).trans (zw.drew 0 _));have M:d.heap.size<=((d.alloc (cl #[pn (E ⟨w.heap.size,c.length*2,O⟩)] 435)).alloc (cl #[.func (.func 366) #[] #[pn (E ⟨d.heap.size,0,O⟩)]] 429)).drew.heap.size:=so;obtain⟨A6,hA6⟩:∃A6,((d.alloc (cl #[pn (E ⟨w.heap.size,c.length*2,O⟩)] 435)).alloc (cl #[.func (.func 366) #[] #[pn (E ⟨d.heap.size,0,O⟩)]] 429)).drew=A6:=⟨_,rfl⟩;have aK:Hid (∀(g f:Nat) (j:H),Pls w.heap.size w (j.setCell ⟨b+1+1+1,0,O⟩ (V (E ⟨g,0,O⟩) (c.length+1+1) f)) (b+1+1+1) (b+1) zcT (c ++ [d.heap.size]) (fun o=>⟨w.heap.size,o*2,O⟩) [b+1+1+1+1,b,w.heap.size] (E ⟨g,0,O⟩) f->
   Wr (fun x=>x=b+1+1+1\/(V I (c.length+1) L).ownBlock=E x) A6 (j.setCell ⟨b+1+1+1,0,O⟩ (V (E ⟨g,0,O⟩) (c.length+1+1) f))->((V I (c.length+1) L).ownBlock=E g\/A6.heap.size<=g)->
   Wr N d (j.setCell ⟨b+1+1+1,0,O⟩ (V (E ⟨g,0,O⟩) (c.length+1+1) f))/\∃M':Nat->Prop,(c.length+1<=n/\∃aI aM aX,aI.length=c.length+1/\Pls w.heap.size w (j.setCell ⟨b+1+1+1,0,O⟩ (V (E ⟨g,0,O⟩) (c.length+1+1) f)) (b+1+1+1) (b+1) zcT aI (fun o=>⟨w.heap.size,o*2,O⟩) [b+1+1+1+1,b,w.heap.size] aM aX/\
    (j.setCell ⟨b+1+1+1,0,O⟩ (V (E ⟨g,0,O⟩) (c.length+1+1) f)).cell? ⟨b+1+1+1+1,0,O⟩=E (V (E ⟨w.heap.size,0,O⟩) n n)/\zc0 (j.setCell ⟨b+1+1+1,0,O⟩ (V (E ⟨g,0,O⟩) (c.length+1+1) f)) w.heap.size b n/\(∀T∈aI,b<T)/\∀x,M' x↔x=b+1+1+1\/(V aM (c.length+1+1) aX).ownBlock=E x)/\∀x,M' x->N x\/A.heap.size<=x):=by
   intro g f j a1 S i;rw[hA6]at ay aA M az;refine⟨ay.trans (S.mono fun x hx=>(hM x).2 hx),fun x=>x=b+1+1+1\/(V (E ⟨g,0,O⟩) (c.length+1+1) f).ownBlock=E x,⟨om,_,_,_,sp,a1,?_,?_,ba,fun _=>Ql⟩,fun x hx=>?_⟩
   ·refine S.cell (p:=⟨b+1+1+1+1,0,O⟩) (fun e=>?_) aA;rcases e with e|e
    ·simp at e
    ·exact t.sep _ e (b+1+1+1+1) sp rfl
   ·refine az.wr S (fun e=>?_) (fun e=>?_)
    ·rcases e with e|e
     ·omega
     ·exact t.sep _ e w.heap.size sp rfl
    ·rcases e with e|e
     ·omega
     ·exact t.sep _ e b sp rfl
   ·rcases hx with e|e
    ·exact .inl ((hM x).2 (.inl e))
    ·have bz:x=g:=by simpa[Value.ownBlock]using e.symm
     subst bz;rcases i with e2|e2
     ·exact .inl ((hM _).2 (.inr e2))
     ·exact .inr om
  rw[<-hA6]at aK;clear hA6 ay aA M az aP aj hM l t HD ad a7 aN ai g0;gi_wp2;refine zcG hm ?_;try(change wpAnyIn _ _ _ _ _ _ _ _ _ (World.drew _))
  refine rj2 0 1 (h:=fun K a=>?_) (h1:=fun K a=>?_);go_simp;refine a _ _ ?_;clear a K;refine rj1 1 (h:=fun K a=>?_);go_simp;refine a _ _ ?_;clear a K;refine rj1 2 (h:=fun K a=>?_);go_simp;refine(Zr l2 (zS.2 (jg _ _))).mono ?_;rintro e W ⟨rfl,rfl⟩;simp only[];refine a _ _ ?_;clear a K;refine rj1 3 (h:=fun K a=>?_);go_simp;refine a _ _ ?_;clear a K;refine rj1 4 (h:=fun K a=>?_);refine JF _ rfl (.tmp 21) (.tmp 24) rfl ab aw rfl rfl a9 ae ah aa af ?_;intro g f j a1 S i Q R;refine a _ _ ?_;clear a K;refine rj1 5 (h:=fun K a=>?_);go_simp;refine a _ _ ?_;clear a K;refine Q0 kr ?_ _;rotate_left;go_simp;refine a _ _ ?_;clear a K;refine rj2 0 2 (h:=fun K a=>?_) (h1:=fun K a=>?_);go_simp;refine a _ _ ?_;clear a K;refine rj1 2 (h:=fun K a=>?_);go_simp;refine(Zr l2 (zS.2 (jg _ _))).mono ?_;rintro e W ⟨rfl,rfl⟩;simp only[];refine a _ _ ?_;clear a K;refine rj1 3 (h:=fun K a=>?_);go_simp;refine a _ _ ?_;clear a K;refine rj1 4 (h:=fun K a=>?_);refine JF _ rfl (.tmp 21) (.tmp 24) rfl ab aw rfl rfl a9 ae ah aa af ?_;intro g f j a1 S i Q R;refine a _ _ ?_;clear a K;refine rj1 5 (h:=fun K a=>?_);go_simp;refine a _ _ ?_;clear a K;refine Q0 kr ?_ _;rotate_left;go_simp;refine(Zr l2 (zS.2 (jg _ _))).mono ?_;rintro e W ⟨rfl,rfl⟩;simp only[];refine a _ _ ?_;clear a K;refine rj2 0 3 (h:=fun K a=>?_) (h1:=fun K a=>?_);go_simp;refine a _ _ ?_;clear a K;refine rj1 3 (h:=fun K a=>?_);go_simp;refine a _ _ ?_;clear a K;refine rj1 4 (h:=fun K a=>?_);refine JF _ rfl (.tmp 21) (.tmp 24) rfl ab aw rfl rfl a9 ae ah aa af ?_;intro g f j a1 S i Q R;refine a _ _ ?_;clear a K;refine rj1 5 (h:=fun K a=>?_);go_simp;refine a _ _ ?_;clear a K;refine Q0 kr ?_ _;rotate_left;go_simp;refine a _ _ ?_;clear a K;refine rj1 0 (h:=fun K a=>?_);go_simp;refine a _ _ ?_;clear a K;refine rj1 4 (h:=fun K a=>?_);refine JF _ rfl (.tmp 21) (.tmp 24) rfl ab aw rfl rfl a9 ae ah aa af ?_;intro g f j a1 S i Q R;refine a _ _ ?_;clear a K;refine rj1 5 (h:=fun K a=>?_);go_simp;refine a _ _ ?_;clear a K;refine Q0 kr ?_ _;rotate_left;all_goals
   gi_wp2;exact aK.out g f j a1 S i
 case done=>
  rintro Z N A hD ⟨h1,c,I,L,av,l,aj,a7,aB,hM⟩ hd;rw[Q9]at av;subst av;clear hM aj ad g0 ai;obtain⟨ip,ak,aq,ar,au⟩:=qL Tryz.infoPlace;have k6:=l.box;have k7:=(l.alloc (cl #[pn (E ⟨b,0,O⟩)] 440)).box;have k8:=((l.alloc (cl #[pn (E ⟨b,0,O⟩)] 440)).alloc (cl #[pn (E ⟨b,1,O⟩)] 435)).box;have k9:=(((l.alloc (cl #[pn (E ⟨b,0,O⟩)] 440)).alloc (cl #[pn (E ⟨b,1,O⟩)] 435)).alloc (cl #[jF A.heap.size,ZG (A.heap.size+1)] 429)).box;have a5:=((((l.alloc (cl #[pn (E ⟨b,0,O⟩)] 440)).alloc (cl #[pn (E ⟨b,1,O⟩)] 435)).alloc (cl #[jF A.heap.size,ZG (A.heap.size+1)] 429)).drew).own;have a0:zw w.heap.size A (((A.alloc (cl #[pn (E ⟨b,0,O⟩)] 440)).alloc (cl #[pn (E ⟨b,1,O⟩)] 435)).alloc (cl #[jF A.heap.size,ZG (A.heap.size+1)] 429)).drew:=(((zw.alloc _ _ _).trans (zw.alloc _ _ _)).trans (zw.alloc _ _ _)).trans (zw.drew _ _);have M:(((A.alloc (cl #[pn (E ⟨b,0,O⟩)] 440)).alloc (cl #[pn (E ⟨b,1,O⟩)] 435)).alloc (cl #[jF A.heap.size,ZG (A.heap.size+1)] 429)).drew.heap.size=A.heap.size+1+1+1:=sp;obtain⟨t0,t1,t2,_⟩:=zdz A (cl #[pn (E ⟨b,0,O⟩)] 440) (cl #[pn (E ⟨b,1,O⟩)] 435) (cl #[jF A.heap.size,ZG (A.heap.size+1)] 429) (cl #[] 429);rw[zI _ _ _ (by simp<;>omega)]at t0 t1 t2;have a2:(((A.alloc (cl #[pn (E ⟨b,0,O⟩)] 440)).alloc (cl #[pn (E ⟨b,1,O⟩)] 435)).alloc (cl #[jF A.heap.size,ZG (A.heap.size+1)] 429)).drew.cell? ⟨A.heap.size,0,O⟩=E (pn (E ⟨b,0,O⟩)):=qh _ _ _ _ _ _ t0;have a3:(((A.alloc (cl #[pn (E ⟨b,0,O⟩)] 440)).alloc (cl #[pn (E ⟨b,1,O⟩)] 435)).alloc (cl #[jF A.heap.size,ZG (A.heap.size+1)] 429)).drew.cell? ⟨A.heap.size+1,0,O⟩=E (pn (E ⟨b,1,O⟩)):=qh _ _ _ _ _ _ t1;have a4:∀(o:Nat) (u:Value),[jF A.heap.size,ZG (A.heap.size+1)][o]? =E u->(((A.alloc (cl #[pn (E ⟨b,0,O⟩)] 440)).alloc (cl #[pn (E ⟨b,1,O⟩)] 435)).alloc (cl #[jF A.heap.size,ZG (A.heap.size+1)] 429)).drew.cell? ((⟨A.heap.size+1+1,0,O⟩:Addr).add o)=E u:=
   Jw (cs:=#[jF A.heap.size,ZG (A.heap.size+1)]) t2
  have a8:∀u∈ [jF A.heap.size,ZG (A.heap.size+1)],u.oneCell'=true:=by
   intro u J;simp only[qw,Zi,QF]at J;rcases J with rfl|rfl<;>rfl
  have bE:=l.bel.size;have aZ:=l.lt b sp;have bG:b+1+1+1+1<Z:=by simp[ax]at hD;omega
  have aJ:(((A.alloc (cl #[pn (E ⟨b,0,O⟩)] 440)).alloc (cl #[pn (E ⟨b,1,O⟩)] 435)).alloc (cl #[jF A.heap.size,ZG (A.heap.size+1)] 429)).drew.heap[Z]? =E (.deferred (E [])):=((J4 A _ _ _).block Z (jn hd)).trans hd;obtain⟨ir,bm,bu,bv,bw⟩:=qL Tryz.infoRow;clear t0 t1 t2;simp only[jF,ZG]at k9;gi_wp2;refine zcZ ?_;refine zcG hm ?_;try(change wpAnyIn _ _ _ _ _ _ _ _ _ (World.drew _))
  refine wpAnyIn_take (i:=1) (v:=pn (E ⟨b,0,O⟩)) rfl rfl kr kr kr (fun _ _ _ h=>h) ⟨Or.inl ⟨by rfl,?_⟩,fun _=>rfl⟩ ?_
  ·intro w;go_simp
  refine wpAnyIn_take (i:=3) (v:=pn (E ⟨b,1,O⟩)) rfl rfl kr kr kr (fun _ _ _ h=>h) ⟨Or.inl ⟨by rfl,?_⟩,fun _=>rfl⟩ ?_
  ·intro w;go_simp
  refine rj2 0 2 (h:=fun K a=>?_) (h1:=fun K a=>?_);go_simp;refine a _ _ ?_;clear a K;refine rj1 2 (h:=fun K a=>?_);go_simp;refine(zS.2 (zeq _ _)).mono ?_;rintro e W ⟨rfl,rfl⟩;simp only[];refine a _ _ ?_;clear a K;refine rj1 4 (h:=fun K a=>?_);go_simp;refine(zS.2 (jg _ _)).mono ?_;rintro e W ⟨rfl,rfl⟩;simp only[];refine a _ _ ?_;clear a K;refine rj1 5 (h:=fun K a=>?_);go_simp;refine a _ _ ?_;clear a K;refine rj1 6 (h:=fun K a=>?_);refine J7 _ rfl (.tmp 26) (.tmp 31) 433 rfl w.heap.size 429 ip .nilFunc 1 8 underlying433 ak aq ar au rfl dc _ _ _ rfl a5 ⟨A.heap.size+1+1,0,O⟩ 2 2 [jF A.heap.size,ZG (A.heap.size+1)] rfl rfl a4 a8 om mo om so _ rfl ?_;intro g f j z y i an;obtain⟨Q,R,HX⟩:=zdW l a0 M a2 a3 z y i;refine a _ _ ?_;clear a K z y i;refine rj1 7 (h:=fun K a=>?_);go_simp;refine a _ _ ?_;clear a K;refine Q0 kr ?_ _;rotate_left;go_simp;refine(zS.2 (zeq _ _)).mono ?_;rintro e W ⟨rfl,rfl⟩;simp only[];refine a _ _ ?_;clear a K;refine rj2 0 4 (h:=fun K a=>?_) (h1:=fun K a=>?_);go_simp;refine a _ _ ?_;clear a K;refine rj1 4 (h:=fun K a=>?_);go_simp;refine(zS.2 (jg _ _)).mono ?_;rintro e W ⟨rfl,rfl⟩;simp only[];refine a _ _ ?_;clear a K;refine rj1 5 (h:=fun K a=>?_);go_simp;refine a _ _ ?_;clear a K;refine rj1 6 (h:=fun K a=>?_);refine J7 _ rfl (.tmp 26) (.tmp 31) 433 rfl w.heap.size 429 ip .nilFunc 1 8 underlying433 ak aq ar au rfl dc _ _ _ rfl a5 ⟨A.heap.size+1+1,0,O⟩ 2 2 [jF A.heap.size,ZG (A.heap.size+1)] rfl rfl a4 a8 om mo om so _ rfl ?_;intro g f j z y i an;obtain⟨Q,R,HX⟩:=zdW l a0 M a2 a3 z y i;refine a _ _ ?_;clear a K z y i;refine rj1 7 (h:=fun K a=>?_);go_simp;refine a _ _ ?_;clear a K;refine Q0 kr ?_ _;rotate_left;go_simp;refine(zS.2 (jg _ _)).mono ?_;rintro e W ⟨rfl,rfl⟩;simp only[];refine a _ _ ?_;clear a K;refine rj2 0 5 (h:=fun K a=>?_) (h1:=fun K a=>?_);go_simp;refine a _ _ ?_;clear a K;refine rj1 5 (h:=fun K a=>?_);go_simp;refine a _ _ ?_;clear a K;refine rj1 6 (h:=fun K a=>?_);refine J7 _ rfl (.tmp 26) (.tmp 31) 433 rfl w.heap.size 429 ip .nilFunc 1 8 underlying433 ak aq ar au rfl dc _ _ _ rfl a5 ⟨A.heap.size+1+1,0,O⟩ 2 2 [jF A.heap.size,ZG (A.heap.size+1)] rfl rfl a4 a8 om mo om so _ rfl ?_;intro g f j z y i an;obtain⟨Q,R,HX⟩:=zdW l a0 M a2 a3 z y i;refine a _ _ ?_;clear a K z y i;refine rj1 7 (h:=fun K a=>?_);go_simp;refine a _ _ ?_;clear a K;refine Q0 kr ?_ _;rotate_left;go_simp;refine a _ _ ?_;clear a K;refine rj1 0 (h:=fun K a=>?_);go_simp;refine a _ _ ?_;clear a K;refine rj1 6 (h:=fun K a=>?_);refine J7 _ rfl (.tmp 26) (.tmp 31) 433 rfl w.heap.size 429 ip .nilFunc 1 8 underlying433 ak aq ar au rfl dc _ _ _ rfl a5 ⟨A.heap.size+1+1,0,O⟩ 2 2 [jF A.heap.size,ZG (A.heap.size+1)] rfl rfl a4 a8 om mo om so _ rfl ?_;intro g f j z y i an;obtain⟨Q,R,HX⟩:=zdW l a0 M a2 a3 z y i;refine a _ _ ?_;clear a K z y i;refine rj1 7 (h:=fun K a=>?_);go_simp;refine a _ _ ?_;clear a K;refine Q0 kr ?_ _;rotate_left;all_goals
   have x3:=HX.out.2.2.2.1;have HR:=zi (znE s hs (D:=Z) HD.out om bl ⟨om,om⟩ ⟨om,om⟩ l aB a7 a0 aZ aJ om om HX.out);clear HX Q R an aJ a2 a3 a4 a5 a0 M k6 k7 k8 k9 l a7;simp only[];gi_wp2;refine(zS.2 HR.out).mono ?_;rintro e q ⟨rfl,aC,aE,_,aH⟩;clear HR x3;by_cases hr:zcY c.length (qg s)=true
   ·obtain⟨D,x,v,C,m,_,_,_,_,aT⟩:=aH hr;clear aH;rw[hr];have bb:=zi aT;clear aT;have a6:=HD.out.below aC;obtain⟨_,e1,e2,e3,_⟩:=a6.box;obtain⟨rs,aU,bx,aV⟩:=a6.rows;have be:=zi aV;have bd:=zi aU;have bK:rs.length<=6:=om;clear aU;have b6:=zi (fun g hg=>(a6.nodR g hg).1);have br:=fun g hg=>(a6.nodR g hg).2.1
    clear aV a6;have b9:=bx.alloc (cl #[gS D,G x,V v C m,V (E ⟨w.heap.size,0,O⟩) c.length c.length] 160);have b7:∀(o:Nat) (u:Value),(jX.cells ⟨D,x,(v,C,m),w.heap.size,c.length⟩)[o]? =E u->(q.alloc (cl #[gS D,G x,V v C m,V (E ⟨w.heap.size,0,O⟩) c.length c.length] 160)).drew.cell? ((⟨q.heap.size,0,O⟩:Addr).add o)=E u:=
     Jw (cs:=#[gS D,G x,V v C m,V (E ⟨w.heap.size,0,O⟩) c.length c.length]) (qq q _)
    have b8:∀u∈jX.cells ⟨D,x,(v,C,m),w.heap.size,c.length⟩,u.oneCell'=true:=by
     intro u J;simp only[jX.cells,qw,Zi,QF]at J;rcases J with rfl|rfl|rfl|rfl<;>rfl
    have b5:∀u∈jX.cells ⟨D,x,(v,C,m),w.heap.size,c.length⟩,JP u:=by
     intro u J;simp only[jX.cells,qw,Zi,QF]at J;intro n e;rcases J with rfl|rfl|rfl|rfl<;>cases e
    have bg:∀u∈(Value.agg #[gS ⟨#[]⟩,G false,V O 0 0,V O 0 0]).cells.toList,JP u:=by
     intro u J;have aW:u∈ [gS ⟨#[]⟩,G false,V O 0 0,V O 0 0]:=J;simp only[qw,Zi,QF]at aW;intro n e;rcases aW with rfl|rfl|rfl|rfl<;>cases e
    have bf:∀g,U.ownBlock=E g->qU (q.alloc (cl #[gS D,G x,V v C m,V (E ⟨w.heap.size,0,O⟩) c.length c.length] 160)).drew g:=fun g hg=>(b6.out g hg).keep (B:=0) ((zw.alloc _ _ _).trans (zw.drew _ _))
    have aL:E r≠U.ownBlock:=fun e=>br r e.symm rfl
    have bh:(q.alloc (cl #[gS D,G x,V v C m,V (E ⟨w.heap.size,0,O⟩) c.length c.length] 160)).drew.cell? ⟨r,1,O⟩=E U:=(zw.alloc 0 q _).cell e1;have bi:(q.alloc (cl #[gS D,G x,V v C m,V (E ⟨w.heap.size,0,O⟩) c.length c.length] 160)).drew.frozen? ⟨r,1,O⟩=false:=((zw.alloc 0 q _).frozen e1).trans e3;have aR:r<(q.alloc (cl #[gS D,G x,V v C m,V (E ⟨w.heap.size,0,O⟩) c.length c.length] 160)).drew.heap.size:=so;gi_wp2;refine zcZ ?_;refine wpIn_wide.2 ?_;go_region_law (refine zbz _ rfl (.tmp 41) (.tmp 43) 107 rfl 0 160 ir _ 4 72 underlying107 bm bu bv bw rfl dc U rs.length (zaq rs) rfl b9 ⟨q.heap.size,0,O⟩ 1 1 (jX.cells ⟨D,x,(v,C,m),w.heap.size,c.length⟩) rfl rfl b7 b8 om mo om (qp _) _ rfl bg b5 bf ?_;intro g6 bF A6 bt aF bj bH bq;have q1:=(aF.cell_far ⟨r,1,O⟩ aR aL).trans bh;have q3:=(aF.frozen_far ⟨r,1,O⟩ aR aL).trans bi)
    all_goals simp only[]
    all_goals gi_wp2
    all_goals obtain⟨z1,z2,z3,z4⟩:=znF HD.out aC _ aE om bd.out be.out bb.out bt aF bj bq
    all_goals refine qt z3 ?_
    all_goals exact⟨G true,by simp[results,results241,go_sem],by rw[hr],z1.keep (zw.putObj (.deferred O) om z3 rfl),fun _=>⟨_,by have z5:=z2.keep (B:=w.heap.size) (zw.putObj (.deferred O) om z3 rfl);rw[bs]at z5;exact z5,z4⟩⟩
   ·have aG:zcY c.length (qg s)=false:=by simpa using hr
    rw[aG];clear aH;gi_wp2;refine qt aE ?_;have bo:zw w.heap.size q (q.putObj Z (.deferred O)):=zw.putObj (.deferred O) om aE rfl;exact⟨G false,by simp[results,results241,go_sem],by rw[aG],(Wr.of_below aC).keep bo,fun h=>by rw[aG]at h;cases h⟩
 case stop=>
  rintro Z m k A hD hk h hd;exact h.elim
 ·obtain⟨_,hi,rfl⟩:=ZC.1 Y;rfl
end Go.Proofs.YtnhfdcfnojnofaaGreatDoor
namespace Go.Proofs.YtnhfdcfnojnofaaGreatDoor.T
open Go.RowKit
theorem zix (f w:H)(d n i:Nat)(v:Value)(a:List ByteArray)(m j g:List Int)(rows:List (List Int×List UInt8×Int))(s r q o:Value)(h:RQ f w d n m j g rows s r q o)(b:Sv w v a)(c:0<a.length)(F:a.length<=1000000)(B:∀l∈a,l.size<=1000000000)(x:0<n/\n<=4)(t:2<=i)(u:i<=1+n)
 (A:¬(a.length=3/\(a.getD 0 ⟨#[]⟩).toList= [114,97,110,103,101]/\(a.drop 1).all (fun l=>wOk l.data.toList)=true)):
 Calls pg 112 #[pn (E ⟨d,0,O⟩),it .i64 (i:Nat),v] w fun e w'=>e= .returned (G false)/\Wr (fun k=>k=d) f w':=by
 obtain⟨_,_,_,_,_,_,_,_,_,_⟩:=h.box;have C:=b;obtain⟨_,u,rfl⟩:=b.shape;obtain⟨M,P,rfl,N,z⟩:=b.row (by intro e;rw[e]at c;simp at c);have q:=z 0 c;rw[qy]at q;have D:a.length<=u:=by
  rcases b with ⟨e,_⟩|⟨_,_,_,e,r,_⟩
  ·simp at e
  ·simp only[zV]at e;omega
 obtain⟨j,m⟩:=C.tail1 (a.length-1) om;have x:(a.drop 1).take (a.length-1)=a.drop 1:=zy sp;rw[x]at j m;have t:(a.drop 1).length=a.length-1:=sp;have g:=zi (fun(W:H) (f:Value) (d:Sv W f (a.drop 1))=>zbf W f (a.drop 1) d (fun l f=>B l (QO f)) om);obtain⟨Q,hs0⟩:∃Q,a.getD 0 ⟨#[]⟩=Q:=⟨_,rfl⟩;rw[hs0]at q A;obtain⟨o,f⟩:∃o,((a.drop 1).all fun l=>wOk l.data.toList)=o:=⟨_,rfl⟩;rw[f]at g A;obtain⟨s,hm⟩:∃s,a.length=s+1:=⟨a.length-1,om⟩;have y:a.length-1=s:=om;rw[y]at j m t;have L:=zi t;have T1:=zi j;have a:=zi m;clear j m f x t z B b C y;rw[hm]at F D A⊢;clear hm c;have b:¬((i:Int)=0):=om;have b:¬((i:Int)=1):=om;have b:¬(1+(n:Int)<(i:Int)):=om;have b:(i:Int)<=1+(n:Int):=om;by_cases T:u=1
 ·obtain⟨b,d⟩:=a.out T;subst T;obtain rfl:s=0:=b;by_cases f:o=true
  ·subst f;have j:=g.out;simp only[zbP]at j;have t:=zi j;clear j g;by_cases W:Q.toList= [114,97,110,103,101]
   ·have a0:¬0=2:=by intro e;exact A ⟨om,W,(by first|exact trivial|rfl)⟩
    have a1:¬((0:Nat):Int)=2:=om;go_enter func112,ntmps112
    go_wp2_with fail
    refine(t.out w _ d).mono ?_;rintro e J ⟨K,rfl,⟨m,U⟩,_,b⟩;have c:=m.shape;rw[zo,L.out]at c;obtain⟨Z,Y,rfl⟩:=c;have a:=h.below b;obtain⟨B,C,D,F,I,u,x,r,y,z⟩:=a.box;have R:=(b.cell (p:=⟨M,P,O⟩) N).trans q;go_wp2;go_ret;exact⟨rfl,a.wr⟩
   ·go_enter func112,ntmps112
    go_wp2_with fail
    refine(t.out w _ d).mono ?_;rintro e J ⟨K,rfl,⟨m,U⟩,_,b⟩;have c:=m.shape;rw[zo,L.out]at c;obtain⟨Z,Y,rfl⟩:=c;have a:=h.below b;obtain⟨B,C,D,F,I,u,x,r,y,z⟩:=a.box;have R:=(b.cell (p:=⟨M,P,O⟩) N).trans q;go_wp2;go_ret;exact⟨rfl,a.wr⟩
  ·have S:o=false:=by simpa using f
   subst S;go_enter func112,ntmps112
   go_wp2_with fail
   refine(g.out w _ d).mono ?_;rintro e J ⟨K,rfl,_,X,b⟩;obtain rfl:=X (by first|exact trivial|rfl);have a:=h.below b;obtain⟨B,C,D,F,I,u,x,r,y,z⟩:=a.box;go_wp2;go_ret;exact⟨rfl,a.wr⟩
 ·have d:=T1.out T;by_cases f:o=true
  ·subst f;have j:=g.out;simp only[zbP]at j;have t:=zi j;clear j g;by_cases W:Q.toList= [114,97,110,103,101]
   ·have a0:¬s=2:=by intro e;exact A ⟨om,W,(by first|exact trivial|rfl)⟩
    have a1:¬((s:Nat):Int)=2:=om;go_enter func112,ntmps112
    go_wp2_with fail
    refine(t.out w _ d).mono ?_;rintro e J ⟨K,rfl,⟨m,U⟩,_,b⟩;have c:=m.shape;rw[zo,L.out]at c;obtain⟨Z,Y,rfl⟩:=c;have a:=h.below b;obtain⟨B,C,D,F,I,u,x,r,y,z⟩:=a.box;have R:=(b.cell (p:=⟨M,P,O⟩) N).trans q;go_wp2;go_ret;exact⟨rfl,a.wr⟩
   ·go_enter func112,ntmps112
    go_wp2_with fail
    refine(t.out w _ d).mono ?_;rintro e J ⟨K,rfl,⟨m,U⟩,_,b⟩;have c:=m.shape;rw[zo,L.out]at c;obtain⟨Z,Y,rfl⟩:=c;have a:=h.below b;obtain⟨B,C,D,F,I,u,x,r,y,z⟩:=a.box;have R:=(b.cell (p:=⟨M,P,O⟩) N).trans q;go_wp2;go_ret;exact⟨rfl,a.wr⟩
  ·have S:o=false:=by simpa using f
   subst S;go_enter func112,ntmps112
   go_wp2_with fail
   refine(g.out w _ d).mono ?_;rintro e J ⟨K,rfl,_,X,b⟩;obtain rfl:=X (by first|exact trivial|rfl);have a:=h.below b;obtain⟨B,C,D,F,I,u,x,r,y,z⟩:=a.box;go_wp2;go_ret;exact⟨rfl,a.wr⟩
end Go.Proofs.YtnhfdcfnojnofaaGreatDoor.T
