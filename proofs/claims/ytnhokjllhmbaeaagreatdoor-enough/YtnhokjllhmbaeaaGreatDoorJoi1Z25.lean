import Derived.Test.YtnhokjllhmbaeaaGreatDoorJoi1Z21
open Option renaming none->O,some->E
open Go.Value renaming slice->V,bool->G,string->gS,tuple->tp,int->it,agg->ag
open Go.Obj renaming cells->cl
open Go renaming World->H
open Go.Proofs.Tryz renaming prog->pg
open Go.Proofs.Tryz
open Go.Ending renaming returned->Xa
open Go.IntKind renaming i64->Xb
open Go.Addr renaming mk->Xd
set_option linter.unusedSimpArgs false
set_option linter.unusedVariables false
set_option maxHeartbeats 8000000
set_option maxRecDepth 100000
namespace Go.Proofs.YtnhokjllhmbaeaaGreatDoor
section
open Go.RowKit
section

variable {mx lo hi:List Int} {gs:List (List Int)} {ss rs:List Int}
theorem solveSmall_any (d:zai mx lo hi gs ss rs){c q:Nat}(g:c<9223372036854775808)(h:q<9223372036854775808){o:SOut}(ho:zbF (QA mx lo hi gs ss rs) c q=o)(W:H){B:Nat}(b:B<=W.heap.size)(f:Tab W):
 Calls pg 10 #[gS ⟨(ze4 (QA mx lo hi gs ss rs)).toArray⟩,it Xb (c:Int),it Xb (q:Int)] W fun e w'=>∃a l n,e=Xa (tp #[ag (OutV mx o a l n),it Xb 0,it Xb 0])/\Grw B 9 1 w' (V a l n) (o.pts.map zdh)/\Below W.heap.size W w':=by
 refine(zjN _ (c:Int) (q:Int) W b f om om om om).mono ?_;rintro e w' ⟨h,k⟩;unfold zaj at h;rw[zmX d]at h;simp only at h;rw[zO om]at h;obtain⟨_,a,l,n,_,_,_,rfl,h⟩:=h;rw[jT,jT,ho]at h;obtain⟨_,_,_,b,d,f,g,i,j⟩:=solq_form h;cases b;cases d;cases f;cases g;cases i;exact⟨a,l,n,rfl,j,k⟩
theorem small_out (j:zai mx lo hi gs ss rs){o:SOut}(ho:zbF (QA mx lo hi gs ss rs) 1099511627776 1099511627776=o):
 o.kind≠3/\o.cuts<=20000/\(∀c q,o.cuts<=c->10000<=q->zbF (QA mx lo hi gs ss rs) c q=o)/\
 (∀c q,c<=1099511627776->q<=1099511627776->∃g,zbF (QA mx lo hi gs ss rs) c q=g/\(g=o\/∃m,g= .inr (.inr m)/\m<=c))/\(∀c,c<o.cuts->zbF (QA mx lo hi gs ss rs) c 1099511627776= .inr (.inr c)):=by
 have r:=zjE j;have l:min 1099511627776 20000=20000:=dc;have t:∀q m,10000<=q->zbF (QA mx lo hi gs ss rs) 1099511627776 q≠ .inr (.inr m):=fun q m a=>zgm r a (fun s=>(by rw[l];exact zm9 j s)) m
 have d:∀q,10000<=q->(zbF (QA mx lo hi gs ss rs) 1099511627776 q).isLimit=false:=fun q a=>by
  cases h:zbF (QA mx lo hi gs ss rs) 1099511627776 q using Xu with
  |li m=>exact absurd h (t q m a)
  |gr k f=>rfl
  |no k u f=>rfl
 have hcut:=solve_cuts (QA mx lo hi gs ss rs) 1099511627776 1099511627776;rw[ho]at hcut;have e:=(solve_same (cuts':=1099511627776) (d 10000 dc) (show 10000<=1099511627776 by decide)).1 (zF (solve_cuts _ _ _) dc);rw[ho]at e;refine⟨fun i=>?_,om,fun c q b a=>?_,fun c q b a=>?_,fun c b=>?_⟩
 ·have:=d 1099511627776 dc;rw[ho]at this;cases o using Xu with
  |li m=>cases this
  |gr k f=>simp[SOut.kind]at i
  |no k u f=>simp[SOut.kind]at i
 ·have:=(solve_same (cuts':=c) (d 10000 dc) a).1 (by rw[<-e];exact b);rw[this,e]
 ·rcases solve_or (p:=QA mx lo hi gs ss rs) b a with h|⟨m,h,hm⟩
  ·exact⟨o,by rw[h,ho],.inl rfl⟩
  ·exact⟨_,h,.inr ⟨m,rfl,hm⟩⟩
 ·exact(solve_same (cuts':=c) (d 1099511627776 dc) (zh _)).2 (by rw[ho];exact b)
end

end

section
open Go.RowKit
structure Asks (W1:H)(g:Nat)(a1 a2 a3 a4 a5 a6:Option Addr)(l1 l2 l3 l4 l5 l6 c1 c2 c3 c4 c5 c6:Nat)(tx:ByteArray)(mx:List Int)(o:SOut)(S:Nat->Nat->SOut):Prop extends AskA W1 g a1 a2 a3 a4 a5 a6 l1 l2 l3 l4 l5 l6 c1 c2 c3 c4 c5 c6 tx mx o where
 solve:∀(c q:Nat) W,c<9223372036854775808->q<9223372036854775808->Ext W1 W->Calls pg 10 #[gS tx,it Xb (c:Int),it Xb (q:Int)] W fun e w'=>∃a l n,e=Xa (tp #[ag #[it Xb (S c q).kind,V a l n,gS ((S c q).val mx),it Xb ((S c q).cuts:Int),gS ((S c q).log mx)],it Xb 0,it Xb 0])/\Grw W.heap.size 9 1 w' (V a l n) ((S c q).pts.map zdh)/\Below W.heap.size W w'
 lens:∀c q,(S c q).pts.length<=1000
 kind:o.kind≠3
 cuts:o.cuts<=20000
 enough:∀c q,o.cuts<=c->10000<=q->S c q=o
 lets:∀c q,c<=1099511627776->q<=1099511627776->S c q=o\/∃m,S c q= .inr (.inr m)/\m<=c
 less:∀c,c<o.cuts->S c 1099511627776= .inr (.inr c)
theorem small_asks (A:ByteArray)(w:H)(hs:A.size<=9223372036854775807)(B:Tab w):
 Calls pg 6 #[gS A] w fun e w'=>∃a a2 b c d f p l2 q r s t h i j k l m N mx o S,e=Xa (ag #[V a p h,V a2 l2 i,V b q j,V c r k,V d s l,V f t m])/\Asks (w'.alloc (cl #[V a p h,V a2 l2 i,V b q j,V c r k,V d s l,V f t m] 25)) w'.heap.size a a2 b c d f p l2 q r s t h i j k l m N mx o S/\Below w.heap.size w w':=by
 refine(zmT A w hs).mono ?_;rintro e P ⟨_,_,_,_,_,_,mx,lo,hi,gs,ss,rs,rfl,C,v,x⟩;obtain⟨⟨a,p,h,rfl⟩,⟨a2,l2,i,rfl⟩,⟨b,q,j,rfl⟩,⟨c,r,k,rfl⟩,⟨d,s,l,rfl⟩,⟨f,t,m,rfl⟩⟩:=C.slices;obtain⟨M,hcut,I,J,K⟩:=small_out v rfl;refine⟨a,a2,b,c,d,f,p,l2,q,r,s,t,h,i,j,k,l,m,_,mx,_,fun g u=>zbF (QA mx lo hi gs ss rs) g u,rfl,⟨askA_of C v (Xf x) B,fun g u W y z L=>solveSmall_any v y z rfl W (zh _) (B.below (((Xf x).alloc _).trans L)),fun g u=>pts_len (zjE v) rfl,M,hcut,I,fun g u y z=>?_,K⟩,x⟩;obtain⟨_,D,F⟩:=J g u y z;exact D▸F
theorem wrap_n {z:Int}(a:0<=z)(h1:z<=1000000):IntKind.i64.wrap z=z:=by rw[IntKind.wrap_i64];omega
theorem collapse {P Q:Prop}(k:P)(h:P->Q):Q:=h k
theorem pick_nat (z:Int)(n:Nat)(a:-9223372036854775808<=z)(h1:z<=9223372036854775807)(b:0<n)(c:n<=1000):∃k:Nat,k<n/\∀W,Calls pg 11 #[it Xb z,it Xb (n:Int)] W fun e w'=>e=Xa (it Xb (k:Int))/\w'=W:=by
 have b:=pickZ_bd z (n:=(n:Int)) om;obtain⟨k,hk⟩:∃k:Nat,pickZ z n=(k:Int):=⟨(pickZ z n).toNat,om⟩;rw[hk]at b;exact⟨k,om,fun W=>hk▸pick_any z n a h1 om om W⟩
theorem keepEnough_any (ah:ByteArray)(R pv:Int)(w:H)(hs:ah.size<=9223372036854775807)(a8:-9223372036854775808<=R)(aa:R<=9223372036854775807)(ae:-9223372036854775808<=pv)(af:pv<=9223372036854775807)(aC:Tab w):
 Calls pg 4 #[gS ah,it Xb R,it Xb pv] w fun e w'=>e=Xa (G true)/\Below w.heap.size w w':=by
 have aH:=zf (small_asks ah w hs aC);obtain⟨k1,_,S⟩:=pick_nat R 1000 a8 aa dc dc;obtain⟨k2,_,h2⟩:=pick_nat pv 1000 ae af dc dc;obtain⟨k3,aB,h3⟩:=pick_nat R 20 a8 aa dc dc;obtain⟨k4,_,h4⟩:=pick_nat pv 12 ae af dc dc;have ak:=zf S;have al:=zf h2;have an:=zf h3;have aE:=zf h4;clear hs a8 aa ae af aC S h2 h3 h4;go_enter func4,ntmps4
 go_wp2_with fail
 refine aH.out.mono ?_;rintro e w1 ⟨a1,a2,a3,a4,a5,a6,l1,l2,l3,l4,l5,l6,c1,c2,c3,c4,c5,c6,tx,mx,o,aK,rfl,hA,aq⟩;have x1:Ext w (w1.alloc (cl #[V a1 l1 c1,V a2 l2 c2,V a3 l3 c3,V a4 l4 c4,V a5 l5 c5,V a6 l6 c6] 25)):=(Xf aq).alloc _;have b:=zf hA;obtain⟨q0,q1,q2,q3,q4,q5⟩:=za9 hA.box (Xe _);clear hA aq;go_wp2_with fail
 generalize World.alloc _ _=W1 at *;generalize w1.heap.size=g1 at *;clear w1;refine(b.out.text W1 (Xe _)).mono ?_;rintro e w3 ⟨rfl,ar⟩;have y3:Ext W1 w3:=Xf ar;clear ar q0 q1 q2 q3 q4 q5;go_wp2_with fail
 refine(b.out.found w3 y3).mono ?_;rintro e w4 ⟨F,J,I,rfl,hG,au⟩;obtain⟨s,A,h5⟩:=res_box mx (y3.trans (Xf au)) hG;have Q:=zf (zoe h5.list);obtain⟨i,j,l,m,p⟩:=five_cells s (Xe _);obtain⟨q0,q1,q2,q3,q4,q5⟩:=za9 b.out.box A;clear hG au y3 h5;go_wp2_with fail
 generalize World.alloc _ _=W5 at *;generalize w4.heap.size=f at *;clear w4;refine(b.out.is W5 _ A Q.out).mono ?_;rintro e w6 ⟨rfl,av⟩;have y6:Ext W5 w6:=Xf av;clear av q0 q1 q2 q3 q4 q5 i j l m p;obtain⟨i,j,l,m,p⟩:=five_cells s y6;have aP:=b.out.cuts;have aS:¬((o.cuts:Int)<0):=om;have a0:=zf (b.out.solve o.cuts 1099511627776 w6 om dc (A.trans y6));rw[b.out.enough o.cuts 1099511627776 (zh _) dc]at a0;go_wp2_with fail
 refine a0.out.mono ?_;rintro e w7 ⟨ba,bl,bc,rfl,hB,aw⟩;obtain⟨n8,y8,h8⟩:=res_box mx (y6.trans (Xf aw)) hB;have HB:=zf (zoe h8.list);clear hB aw y6 a0 h8 i j l m p;obtain⟨i,j,l,m,p⟩:=five_cells s y8;go_wp2;generalize World.alloc _ _=x at *;generalize w7.heap.size=gA at *;clear w7;have c:Hid (∀W,Ext x W->W.cell? (Xd f 3 O)=E (it Xb (o.cuts:Int))):=fun W v=>(five_cells s (y8.trans v)).2.2.2.1
 have ao:Hid (∀W,Ext x W->Calls pg 10 #[gS tx,it Xb (IntKind.i64.wrap ((o.cuts:Int)+(k1:Int))),it Xb (IntKind.i64.wrap (10000+(k2:Int)))] W fun e w'=>∃z C n,e=Xa (tp #[ag #[it Xb o.kind,V z C n,gS (o.val mx),it Xb (o.cuts:Int),gS (o.log mx)],it Xb 0,it Xb 0])/\Grw W.heap.size 9 1 w' (V z C n) (o.pts.map zdh)/\Below W.heap.size W w'):=fun W v=>by
  have h:=b.out.solve (o.cuts+k1) (10000+k2) W om om (A.trans (y8.trans v));rw[b.out.enough (o.cuts+k1) (10000+k2) om om,Int.natCast_add,Int.natCast_add]at h;rw[wrap_n om om,wrap_n om om];exact h
 clear i j l m p;apply collapse
 case h=>
  intro aM;refine ZO (S:=fun W=>W.cell? (Xd f 3 O)=E (it Xb (o.cuts:Int))) hm (c.out x.drew (Xe x).drew) (fun d=>?_);have y:Ext x x.drew:=(Xe x).drew;generalize x.drew=Wd at *;refine tkl [0,1,2,3,6] ?_;iterate 2 all_goals try
   first
    |(have _l:=g;refine rd1 4 fun K a=>?_)
    |refine rd2 4 14 (h:=fun K a=>?_) (h1:=fun K a=>?_)
   all_goals
    go_simp;first
     |go_at_call 11
     |(
      refine a.out _ _ (c.out _ (y.alloc (cl #[it Xb 0,V O 0 0,gS ⟨#[]⟩,it Xb 0,gS ⟨#[]⟩] 31))) (h:=fun d=>?_);clear a K;obtain⟨g,T⟩:=zcb y (cl #[it Xb 0,V O 0 0,gS ⟨#[]⟩,it Xb 0,gS ⟨#[]⟩] 31);have y:=y.alloc (cl #[it Xb 0,V O 0 0,gS ⟨#[]⟩,it Xb 0,gS ⟨#[]⟩] 31);generalize World.alloc _ _=V9 at *)
  all_goals
   refine(ak.out _).mono ?_;rintro e W ⟨rfl,rfl⟩;go_wp2_with fail
   refine a.out _ _ (c.out _ y) (h:=fun d=>?_);clear a K;refine tkv 5 ?_
  iterate 2 all_goals try
   first
    |(have _l:=g;refine rd1 7 fun K a=>?_)
    |refine rd2 7 14 (h:=fun K a=>?_) (h1:=fun K a=>?_)
   all_goals
    go_simp;first
     |go_at_call 11
     |(
      refine a.out _ _ (c.out _ (y.alloc (cl #[it Xb 0,V O 0 0,gS ⟨#[]⟩,it Xb 0,gS ⟨#[]⟩] 31))) (h:=fun d=>?_);clear a K;obtain⟨g,T⟩:=zcb y (cl #[it Xb 0,V O 0 0,gS ⟨#[]⟩,it Xb 0,gS ⟨#[]⟩] 31);have y:=y.alloc (cl #[it Xb 0,V O 0 0,gS ⟨#[]⟩,it Xb 0,gS ⟨#[]⟩] 31);generalize World.alloc _ _=V9 at *)
  all_goals
   refine(al.out _).mono ?_;rintro e W ⟨rfl,rfl⟩;go_wp2_with fail
   refine a.out _ _ (c.out _ y) (h:=fun d=>?_);clear a K;refine tkv 8 ?_
  iterate 2 all_goals try
   first
    |(have _l:=g;refine rd1 9 fun K a=>?_)
    |refine rd2 9 14 (h:=fun K a=>?_) (h1:=fun K a=>?_)
   all_goals
    go_simp;first
     |go_at_call 10
     |(
      refine a.out _ _ (c.out _ (y.alloc (cl #[it Xb 0,V O 0 0,gS ⟨#[]⟩,it Xb 0,gS ⟨#[]⟩] 31))) (h:=fun d=>?_);clear a K;obtain⟨g,T⟩:=zcb y (cl #[it Xb 0,V O 0 0,gS ⟨#[]⟩,it Xb 0,gS ⟨#[]⟩] 31);have y:=y.alloc (cl #[it Xb 0,V O 0 0,gS ⟨#[]⟩,it Xb 0,gS ⟨#[]⟩] 31);generalize World.alloc _ _=V9 at *)
  all_goals
   with_reducible refine(ao.out _ y).mono ?_
   rintro e W ⟨a9,l9,c9,rfl,ad,r⟩;try have g:=J8 g r
   have y:=y.trans (Xf r);clear r;go_wp2_with fail
   refine a.out _ _ (c.out _ y) (h:=fun d=>?_);clear a K;refine tkl [10,11,12,13] ?_;first
    |have _l:=g
    |(
     refine rd1 14 fun K a=>?_;go_simp;refine a.out _ _ (c.out _ (y.alloc (cl #[it Xb 0,V O 0 0,gS ⟨#[]⟩,it Xb 0,gS ⟨#[]⟩] 31))) (h:=fun d=>?_);clear a K;obtain⟨g,T⟩:=zcb y (cl #[it Xb 0,V O 0 0,gS ⟨#[]⟩,it Xb 0,gS ⟨#[]⟩] 31);have ad:=ad.ext ((Xe _).alloc (cl #[it Xb 0,V O 0 0,gS ⟨#[]⟩,it Xb 0,gS ⟨#[]⟩] 31));have y:=y.alloc (cl #[it Xb 0,V O 0 0,gS ⟨#[]⟩,it Xb 0,gS ⟨#[]⟩] 31);generalize World.alloc _ _=V9 at *)
   obtain⟨-,-,⟨_,_,_,_,_⟩,_,_,_,_,_⟩:=jp g (it Xb o.kind) (V a9 l9 c9) (gS (o.val mx)) (it Xb (o.cuts:Int)) (gS (o.log mx));have aR:=T;refine rd1 15 fun K a=>?_;go_simp;obtain⟨p2,pw,-⟩:=jp g (it Xb o.kind) (V a9 l9 c9) (gS (o.val mx)) (it Xb (o.cuts:Int)) (gS (o.log mx));have yZ:=qk y pw (fun aL r=>by rw[r];exact T);have aN:=zoe (ad.wr pw (fun aL r=>by rw[r];exact ziW g)).list;refine a.out _ _ (c.out _ yZ) (h:=fun d=>?_);clear a K;refine tkl [16,17] ?_;refine zV kr ?_ _;generalize World.setCell _ _ _=V5 at *;generalize Array.size (World.heap _)=gX at p2⊢;clear pw;revert p2 aN yZ
   revert gX
   revert V5
   generalize a9=b1;generalize l9=b2;generalize c9=b3;revert b1 b2 b3
   exact aM
 case k=>
  intro d1 d2 d3 V5 hH gX yX HX nX;have M:=y8.trans yX;clear hH ao c ak al;go_wp2_with fail
  refine(an.out _).mono ?_;rintro e W ⟨rfl,rfl⟩;go_wp2_with fail
  refine(aE.out _).mono ?_;rintro e W ⟨rfl,rfl⟩;go_wp2_with fail
  refine(b.out.solve k3 k4 _ om om (A.trans M)).mono ?_;rintro e w9 ⟨X,Z,Y,rfl,hC,ax⟩;have aF:=zf (b.out.lets k3 k4 om om);have ab:=b.out.lens k3 k4;generalize aK k3 k4=t at *;obtain⟨n9,u,h9⟩:=res_box mx (Xf ax) hC;have HC:=zf (zoe h9.list);have aD:Hid (t.pts= []->Z=0):=fun h=>by
   obtain⟨z,_,S⟩:=hC.shape;rw[h]at S;cases S;rfl
  obtain⟨s0,s1,s2,s3,s4⟩:=five_cells n8 (yX.trans u);obtain⟨i,j,l,m,p⟩:=five_cells s (M.trans u);have P:=zf (alike_same _ ba F bl J bc I o.pts o.pts (HB.out.ext (yX.trans u)) (Q.out.ext (M.trans u)) b.out.len b.out.len rfl o.kind (o.cuts:Int) (o.val mx) (o.log mx));clear hC ax h9;go_wp2_with fail
  generalize World.alloc _ _=WC at *;generalize w9.heap.size=q at *;clear w9;refine P.out.mono ?_;rintro e wD ⟨rfl,ay⟩;have U:Ext WC wD:=Xf ay;clear ay s0 s1 s2 s3 s4 i j l m p P;obtain⟨s0,s1,s2,s3,s4⟩:=five_cells nX (u.trans U);obtain⟨i,j,l,m,p⟩:=five_cells s ((M.trans u).trans U);have P:=zf (alike_same _ d1 F d2 J d3 I o.pts o.pts (HX.ext (u.trans U)) (Q.out.ext ((M.trans u).trans U)) b.out.len b.out.len rfl o.kind (o.cuts:Int) (o.val mx) (o.log mx));go_wp2_with fail
  refine P.out.mono ?_;rintro e L ⟨rfl,az⟩;have yE:Ext WC L:=U.trans (Xf az);have yR:Ext W5 L:=(M.trans u).trans yE;clear az s0 s1 s2 s3 s4 i j l m p P;have ai:=zf (HC.out.ext yE);have aj:=zf (Q.out.ext yR);have c:Hid (∀W,Ext L W->((W.cell? (Xd q 0 O)=E (it Xb t.kind)/\W.cell? (Xd q 1 O)=E (V X Z Y)/\W.cell? (Xd q 2 O)=E (gS (t.val mx))/\W.cell? (Xd q 3 O)=E (it Xb (t.cuts:Int))/\W.cell? (Xd q 4 O)=E (gS (t.log mx)))/\W.cell? (Xd f 0 O)=E (it Xb o.kind)/\W.cell? (Xd f 1 O)=E (V F J I)/\W.cell? (Xd f 2 O)=E (gS (o.val mx))/\W.cell? (Xd f 3 O)=E (it Xb (o.cuts:Int))/\W.cell? (Xd f 4 O)=E (gS (o.log mx)))):=fun W v=>⟨five_cells n9 (yE.trans v),five_cells s (yR.trans v)⟩
  clear HC Q HB HX;have B:Ext L L.drew:=(Xe L).drew;have aI:=zf (x1.trans (A.trans yR));go_wp2;refine ZO (S:=fun W=>(W.cell? (Xd q 0 O)=E (it Xb t.kind)/\W.cell? (Xd q 1 O)=E (V X Z Y)/\W.cell? (Xd q 2 O)=E (gS (t.val mx))/\W.cell? (Xd q 3 O)=E (it Xb (t.cuts:Int))/\W.cell? (Xd q 4 O)=E (gS (t.log mx)))/\W.cell? (Xd f 0 O)=E (it Xb o.kind)/\W.cell? (Xd f 1 O)=E (V F J I)/\W.cell? (Xd f 2 O)=E (gS (o.val mx))/\W.cell? (Xd f 3 O)=E (it Xb (o.cuts:Int))/\W.cell? (Xd f 4 O)=E (gS (o.log mx))) hm (c.out _ B) (fun d=>?_);refine tkl [0,1] ?_;rcases aF.out with h3|⟨D,rfl,_⟩
  obtain rfl:=h3.symm;refine rcl 2 (alike_same _ X F Z J Y I o.pts o.pts (ai.out.ext B) (aj.out.ext B) ab ab rfl o.kind (o.cuts:Int) (o.val mx) (o.log mx)) ?_;rintro e wG ⟨rfl,a7⟩;have N:=B.trans (Xf a7);refine bk (c.out _ N) fun d=>?_
  refine tkl [3,4,5,6,7,8,9,10,11,12,13,14,15,16,17,18,19,20,21,22,23,24,25,26,27,28,29,30,31,32,33,34,35,36,37,38,39] ?_;refine zV kr ?_ _;rotate_left;obtain rfl:=aD.out rfl;simp only[show SOut.kind (.inr (.inr D))=3 from rfl,show SOut.val mx (.inr (.inr D))=⟨#[]⟩from rfl,show SOut.log mx (.inr (.inr D))=⟨#[]⟩from rfl,show SOut.cuts (.inr (.inr D))=D from rfl]at d c⊢;have aB:=b.out.kind;refine rcl 2 (alike_not _ X F 0 J Y I [] o.pts (ai.out.ext B) (aj.out.ext B) ab b.out.len 3 o.kind (D:Int) (o.cuts:Int) (fun h=>aB h.symm) _ _ _ _) ?_;rintro e wG ⟨rfl,a7⟩;have N:=B.trans (Xf a7);refine bk (c.out _ N) fun d=>?_
  refine tkl [3,4,5,6,7,8,9,10,11,12,13,14,15,16,17,18,19,20,21,22,23,24,25,26,27,28,29,30,31,32,33,34] ?_;refine rcl 35 (an.out _) ?_;rintro e W ⟨rfl,rfl⟩;refine bk (c.out _ N) fun d=>?_
  refine tkl [36,37,38,39] ?_;refine zV kr ?_ _;rotate_left;all_goals
   have yH:=yR.trans N;obtain⟨i,j,l,m,p⟩:=five_cells s yH;have ap:=zf (aI.out.trans N);have aQ:=b.out.cuts;by_cases hz:o.cuts=0
   ·have aO:(o.cuts:Int)=0:=om;go_wp2;go_ret;exact⟨rfl,ap.out⟩
   ·have aO:¬(o.cuts:Int)=0:=om;have aG:Hid (∀W,Ext W1 W->Calls pg 10 #[gS tx,it Xb ((o.cuts:Int)-1),it Xb 1099511627776] W fun e w'=>∃z C n,e=Xa (tp #[ag #[it Xb 3,V z C n,gS ⟨#[]⟩,it Xb ((o.cuts:Int)-1),gS ⟨#[]⟩],it Xb 0,it Xb 0])/\Below W.heap.size W w'):=fun W v=>by
     have h:=b.out.solve (o.cuts-1) 1099511627776 W om dc v;rw[b.out.less (o.cuts-1) om,show((o.cuts-1:Nat):Int)=(o.cuts:Int)-1 by omega]at h;refine h.mono ?_;rintro e w' ⟨z,C,n,rfl,-,r⟩;exact⟨z,C,n,by rw[show((SOut.cuts (.inr (.inr (o.cuts-1))):Nat):Int)=(o.cuts:Int)-1 from(by show((o.cuts-1:Nat):Int)=_;omega)];rfl,r⟩
    go_wp2_with fail
    refine(aG.out _ (A.trans yH)).mono ?_;rintro e wI ⟨ga,gl,gn,rfl,aA⟩;have nI:=zC wI (cl #[it Xb 3,V ga gl gn,gS ⟨#[]⟩,it Xb ((o.cuts:Int)-1),gS ⟨#[]⟩] 31);have yI:Ext _ (wI.alloc (cl #[it Xb 3,V ga gl gn,gS ⟨#[]⟩,it Xb ((o.cuts:Int)-1),gS ⟨#[]⟩] 31)):=(Xf aA).alloc _;obtain⟨s0,s1,s2,s3,s4⟩:=five_cells nI (Xe _);clear i j l m p aA;obtain⟨i,j,l,m,p⟩:=five_cells s (yH.trans yI);have aJ:=zf (ap.out.trans yI);go_wp2;go_ret;exact⟨rfl,aJ.out⟩
