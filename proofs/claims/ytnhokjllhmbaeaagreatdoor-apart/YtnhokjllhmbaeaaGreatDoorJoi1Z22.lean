import Derived.Test.YtnhokjllhmbaeaaGreatDoorJoi1Z21
open Option renaming none->O,some->E
open Go.Value renaming slice->V,bool->G,string->gS,int->it
open Go.Obj renaming cells->cl
open Go renaming World->H
open Go.Proofs.Tryz renaming prog->pg
open Go.Proofs.Tryz
open Go.Ending renaming returned->Xa
open Go.IntKind renaming i64->Xb
open Go.Addr renaming mk->Xd
set_option linter.unusedSimpArgs false
set_option linter.unusedVariables false
set_option maxHeartbeats 8000000
set_option maxRecDepth 100000
namespace Go.Proofs.YtnhokjllhmbaeaaGreatDoor
open Go.RowKit
variable {B:Nat}{v:Value}{w:H}
theorem strs_owned{a:List ByteArray}(h:w.ownsRow B 9 1 v a.length (a.map gS)):zeX w v a:=by
 have b:=h;obtain⟨_,⟨rfl,d⟩|⟨g,a,_,rfl,_,c,_⟩⟩:=h;·exact⟨O,0,by rw[d],fun h=>om⟩
 ·refine⟨_,a,rfl,fun _=>⟨g,0,rfl,(zd.1 c).1,fun i z a=>?_⟩⟩;have:=b.cells (g:=g) rfl i (gS z) (by rw[zR,a];rfl);have a:(⟨g,0,O⟩:Addr).add i=⟨g,0+i,O⟩:=by unfold Addr.add;split<;>simp_all
  rw[<-a];exact this
theorem flat_strC1:∀l:List ByteArray,(l.map zdh).flatten=l.map gS
 |[]=>rfl
 |x::l=>by simp[zdh,flat_strC1 l]
theorem owns_same{w':H}{e:TypeId}{z:Nat}{n:Nat}{xs:List Value}(h:w.ownsRow B e z v n xs)(j:∀g,B<=g->g<w.heap.size->w'.heap[g]? =w.heap[g]?):w'.ownsRow B e z v n xs:=by
 obtain⟨a,i|⟨g,d,f,rfl,b,c,r⟩⟩:=h;·exact⟨a,.inl i⟩
 ·exact⟨a,.inr ⟨g,d,f,rfl,b,(j g b (zd.1 c).1).trans c,r⟩⟩
theorem hstop{q:Prop}(h:Hid q):q:=h
theorem append_strs{m:Array Oper}{rest:List Oper}{c:Oper}{a:Act}{Q:Exit->Act->H->Prop}{b:List ByteArray}(p:Grw B 9 1 w v (b.map zdh))(D:b.length<=1000)(f:c.guard=O)(s x:Operand)(ho:c.op= .call { callee:= .builtin .append,args:=#[s,x],argTypes:=#[27,27] })(hs:a.eval s=V O 0 0)(k:a.eval x=v)(h:∀d w',w'.ownsRow w.heap.size 9 1 d b.length (b.map gS)->Ext w w'->wpList pg m Q rest (a.put c.dst d) w'):wpList pg m Q (c::rest) a w:=by
 obtain⟨l,i,y,z,A⟩:=Zn zkN;have e:=p.own;rw[flat_strC1,zm]at e;have t:=e;obtain⟨_,⟨rfl,r⟩|⟨g,o,_,rfl,_,_,_⟩⟩:=e
 ·have:b= []:=Qk.1 r;subst this;exact wpList_append_own_none f s x 27 ho w.heap.size 9 l 1 underlying27 i _ 0 [] hs (zaf _ _ _ _) k (h _ _ (zaf _ _ _ _) (Xe _))
 ·refine zcU w f s x 27 ho w.heap.size 9 l (gS ⟨#[]⟩) 1 16 underlying27 i y z A rfl dc _ 0 [] hs (zaf _ _ _ _) ⟨g,0,O⟩ b.length o (b.map gS) k sp (t.cells rfl) (fun F u=>by obtain⟨_,-,rfl⟩:=qP.1 u;rfl) mo om (zh _) ?_;intro d w' j q _;rw[qt,Q7]at j;exact h d w' j ((Qh (U:=fun _=>False) q (fun g h=>by cases h)).below (zh _) (fun C h=>h.elim))
theorem keepApart_any(ae other:ByteArray)(w:H)(hs:ae.size<=9223372036854775807)(ab:other.size<=9223372036854775807)(ad:Tab w):
 Calls pg 5 #[gS ae,gS other] w fun e w'=>e=Xa (G true)/\Below w.heap.size w w':=by
 have aS:=zf (small_askA ae w hs ad);have aT:=zf (fun aj (hW:Ext w aj)=>small_askA other aj ab (ad.below hW));obtain⟨_,_,_,_,_⟩:=Zn zkN;clear hs ab ad;go_enter func5,ntmps5
 go_wp2_with fail
 refine aS.out.mono ?_;rintro e w1 ⟨a1,a2,a3,a4,a5,a6,l1,l2,l3,l4,l5,l6,c1,c2,c3,c4,c5,c6,_,Q,F,rfl,hA,ao⟩;have x1:Ext w (w1.alloc (cl #[V a1 l1 c1,V a2 l2 c2,V a3 l3 c3,V a4 l4 c4,V a5 l5 c5,V a6 l6 c6] 25)):=(Xf ao).alloc _;have c:=zf hA;clear hA ao;go_wp2_with fail
 generalize World.alloc _ _=W1 at *;generalize w1.heap.size=g1 at *;clear w1;refine(aT.out W1 x1).mono ?_;rintro e w2 ⟨b1,b2,b3,b4,b5,b6,m1,m2,m3,m4,m5,m6,d1,d2,d3,d4,d5,d6,_,R,z,rfl,hY,ap⟩;have q:Ext W1 (w2.alloc (cl #[V b1 m1 d1,V b2 m2 d2,V b3 m3 d3,V b4 m4 d4,V b5 m5 d5,V b6 m6 d6] 25)):=(Xf ap).alloc _;have t:=zf hY;obtain⟨f,j,k,l,m,o⟩:=za9 c.out.box q;clear hY ap;go_wp2_with fail
 generalize World.alloc _ _=u at *;generalize w2.heap.size=g2 at *;clear w2;refine(c.out.text u q).mono ?_;rintro e w3 ⟨rfl,aq⟩;have y3:Ext u w3:=Xf aq;clear aq f j k l m o;go_wp2_with fail
 refine(c.out.found w3 (q.trans y3)).mono ?_;rintro e w4 ⟨I,a,A,rfl,hG,ar⟩;have y4:Ext u w4:=y3.trans (Xf ar);obtain⟨nA,yA,a9⟩:=res_box Q y4 hG;have hB:=y3.size;obtain⟨f,j,k,l,m,o⟩:=za9 t.out.box yA;clear ar y3 y4;go_wp2_with fail
 generalize World.alloc _ _=x at *;have aX:=(zd.1 nA).1;have J:Hid (∀b,(V I a A).ownBlock=E b->u.heap.size<=b/\b≠w4.heap.size/\b<x.heap.size):=fun b L=>by
  have D:=hG.type b L;have:=D.1.lt;have:=D.2;have:=(a9.type b L).1.lt;exact⟨om,om,om⟩
 generalize w4.heap.size=gA at *;have HG:=zf (a9.low hB);clear hG a9 hB w4;refine(t.out.text x yA).mono ?_;rintro e w5 ⟨rfl,au⟩;have y5:Ext x w5:=Xf au;clear au f j k l m o;go_wp2_with fail
 refine(t.out.found w5 (yA.trans y5)).mono ?_;rintro e w6 ⟨ra,rl,rc,rfl,hR,av⟩;have y6:Ext x w6:=y5.trans (Xf av);obtain⟨nB,y7,ak⟩:=res_box R y6 hR;have aI:=y5.size;have HR:=zf (ak.low aI);have HN:Hid (∀b,b<x.heap.size->¬(V ra rl rc).ownBlock=E b):=fun b L h=>by
  have:=(hR.type b h).2;omega
 obtain⟨S,U,W,X,Y⟩:=five_cells nA y7;clear av hR y5 aI ak;go_wp2_with (at_builtin;refine hstop ?_)
 unfold Hid;have a0:=zf (HG.out.ext y7);generalize World.alloc _ _=WB at *;have aZ:=y6.size;generalize w6.heap.size=gB at *;have aY:=y7.size;clear y6 w6;refine append_strs a0.out c.out.len rfl _ _ rfl rfl rfl ?_;intro vq K aF y8;clear S U W X Y;have aJ:Ext x K:=y7.trans y8;have HQ:=zf aF;have a7:=zf (HR.out.ext y8);have ah:=zf (a0.out.ext y8);have af:=zf ((y8.block _ (zd.1 nB).1).trans nB);have aK:=zf ((aJ.block _ aX).trans nA);clear aF HR a0 HG;have aa:a=F.pts.length:=by
  obtain⟨_,_,h⟩:=ah.out.shape;rw[zm]at h;cases h;rfl
 have ba:a<=1000:=aa▸c.out.len;have aU:Hid (Wr (fun b=>(V I a A).ownBlock=E b) K K):=Xi _ _;have aN:Hid (∃y:List (List Value),y.length=a/\Grw u.heap.size 9 1 K (V I a A) y):=⟨_,by rw[zm,aa],ah.out⟩;clear aa;go_wp2;go_loopw [12] (fun iv wr=>∃i:Nat,i<=a/\iv=it Xb (i:Nat)/\Hid (Wr (fun b=>(V I a A).ownBlock=E b) K wr)/\Hid (∃y:List (List Value),y.length=a/\Grw u.heap.size 9 1 wr (V I a A) y)) (fun iv _=>((a:Int)-intOf iv).toNat)
 case atStart=>exact⟨0,om,rfl,aU,aN⟩
 case round=>
  obtain⟨i,_,rfl,s,HC⟩:=hrel;have nR:=s.out.some aK.out (fun h=>(J.out _ h).2.1 rfl);obtain⟨S,U,W,X,Y⟩:=five_cells nR (Xe _);by_cases b8:i<a
  ·obtain⟨y,aE,P⟩:=HC.out;obtain⟨N,M,hv⟩:∃N M,V I a A=V (E (Xd N 0 O)) a M:=by
    obtain⟨_,⟨D,h2⟩|⟨g,M,a8,D,_⟩⟩:=P.own;·omega
    ·exact⟨g,M,by rw[D,aE]⟩
   cases hv;obtain⟨_,_,a8,hh,_,_,_,_,ab⟩:=P.parts;have aW:i<a8.size:=om;have aV:=ze _ _ i _ _ _ hh;rw[qD aW]at aV;have hf:=ZK _ _ i _ _ hh;have aD:=zg (show i<y.length by omega);have aH:=P.put dc aD (show 0<1 by decide) (v:=gS ⟨#[109,105,110,101]⟩) (by intro _ h;cases h);have HP:=zf aH;clear aH P hh aD;generalize a8[i]=bb at *;go_wp2;have aG:=HP.out;rw[jM,qV]at aG;go_roundw
   case rel=>exact⟨i+1,om,by go_num,s.out.setCell (T:=fun b=>(V (E (Xd N 0 O)) a A).ownBlock=E b) (p:=(Xd N i O)) rfl _,⟨_,by rw[qX];exact aE,aG⟩⟩
   case measure=>simp[intOf];omega
  ·have b7:¬((i:Int)<(a:Int)):=om;have d:Ext u wr:=qk (yA.trans aJ) s.out (fun b L=>(J.out b L).1);obtain⟨f,j,k,l,m,o⟩:=za9 c.out.box (q.trans d);have aR:=zf nR;have aM:=zf (s.out.some af.out (fun h=>by have:=(J.out _ h).2.2;omega));have aQ:Hid (Grw x.heap.size 9 1 wr (V ra rl rc) (z.pts.map zdh)):=a7.out.same s.out.size fun g hg=>s.out.block g (a7.out.type g hg).1.lt fun h=>HN.out g (J.out g h).2.2 hg
   have aP:Hid (zeX wr vq F.pts):=strs_owned (B:=WB.heap.size) (owns_same HQ.out fun g D h2=>s.out.block g h2 fun h=>by have:=(J.out g h).2.2;omega);clear nR s HC a7 af HQ;go_wp2_with fail
   refine(c.out.text wr (q.trans d)).mono ?_;rintro e w7 ⟨rfl,aw⟩;have z7:Ext wr w7:=Xf aw;clear aw f j k l m o S U W X Y;go_wp2_with fail
   refine(c.out.found w7 ((q.trans d).trans z7)).mono ?_;rintro e w8 ⟨ua,ul,uc,rfl,hU,ax⟩;have z8:Ext wr w8:=z7.trans (Xf ax);obtain⟨nC,C,an⟩:=res_box Q z8 hU;obtain⟨f,j,k,l,m,o⟩:=za9 t.out.box (d.trans C);have HU:=zf an;clear ax hU z7 z8 an;go_wp2_with fail
   generalize World.alloc _ _=WC at *;generalize w8.heap.size=gC at *;clear w8;refine(t.out.text WC (d.trans C)).mono ?_;rintro e w9 ⟨rfl,ay⟩;have z9:Ext WC w9:=Xf ay;clear ay f j k l m o;go_wp2_with fail
   refine(t.out.found w9 ((d.trans C).trans z9)).mono ?_;rintro e wA ⟨ta,tl,tc,rfl,hT,az⟩;obtain⟨nD,r,al⟩:=res_box R (z9.trans (Xf az)) hT;have HT:=zf al;have yD:=d.trans (C.trans r);obtain⟨Z,u1,u2,u3,u4⟩:=five_cells nC r;clear az hT z9 al;have ai:=zf (zl2 _ (V ua ul uc) vq F.pts F.pts (zoe (HU.out.ext r).list) (aP.out.ext (C.trans r)) c.out.len c.out.len);rw[zbA rfl]at ai;go_wp2_with fail
   generalize World.alloc _ _=WD at *;generalize wA.heap.size=gD at *;clear wA;refine ai.out.mono ?_;rintro e wB ⟨rfl,aA⟩;have zB:Ext WD wB:=Xf aA;clear aA Z u1 u2 u3 u4;have zE:Ext wr wB:=C.trans (r.trans zB);obtain⟨b0,b1,b2,b3,b4⟩:=five_cells aM.out zE;obtain⟨d0,d1,d2,d3,d4⟩:=five_cells nD zB;have aL:=zf (alike_same wB ra ta rl tl rc tc z.pts z.pts (zoe (aQ.out.ext zE).list) (zoe (HT.out.ext zB).list) t.out.len t.out.len rfl z.kind (z.cuts:Int) (z.val R) (z.log R));go_wp2_with fail
   refine aL.out.mono ?_;rintro e wE ⟨rfl,aB⟩;have zF:Ext WD wE:=zB.trans (Xf aB);have zG:Ext wr wE:=C.trans (r.trans zF);clear aB b0 b1 b2 b3 b4 d0 d1 d2 d3 d4;obtain⟨f,j,k,l,m,o⟩:=za9 c.out.box ((q.trans d).trans zG);obtain⟨Z,u1,u2,u3,u4⟩:=five_cells nC (r.trans zF);have aO:=zf (c.out.is wE (V ua ul uc) ((q.trans d).trans zG) (zoe (HU.out.ext (r.trans zF)).list));go_wp2_with fail
   refine aO.out.mono ?_;rintro e wF ⟨rfl,aC⟩;have zH:Ext wE wF:=Xf aC;clear aC f j k l m o Z u1 u2 u3 u4;obtain⟨Z,u1,u2,u3,u4⟩:=five_cells nC ((r.trans zF).trans zH);obtain⟨S,U,W,X,Y⟩:=five_cells aR.out (zG.trans zH);have b9:((F.log Q).toList == (F.log Q).toList)=true:=sp;have HX:=zf ((x1.trans (q.trans d)).trans (zG.trans zH));go_wp2;go_ret;exact⟨rfl,HX.out⟩
