import Derived.Test.YtmimmcmbgnjjcaaGreatDoorApr1Z20
open Option renaming none->O,some->E
open Go.Value renaming slice->V,bool->G,string->gS,tuple->tp,int->it,agg->ag
open Go.Obj renaming cells->cl
open Go renaming World->H
open Go.Proofs.Tryz renaming prog->pg
open Go.Proofs.Tryz
open Go.Ending renaming returned->Xa
open Go.IntKind renaming i64->Xb
open Go.Addr renaming mk->Xd
set_option linter.unusedSimpArgs false
set_option linter.unusedVariables false
set_option maxHeartbeats 8000000
set_option maxRecDepth 100000
namespace Go.Proofs.YtmimmcmbgnjjcaaGreatDoor
section
def SOut.cuts:SOut->Nat
 |.greatest _ ls=>ls.length
 |.none _ _ ls=>ls.length
 |.limit k=>k
open Go.RowKit
def SOut.kind:SOut->Int
 |.greatest _ _=>1
 |.none _ _ _=>2
 |.limit _=>3
def SOut.pts:SOut->List ByteArray
 |.greatest k _=>(ptS k).map zT
 |_=> []
def SOut.val (aims:List Int):SOut->ByteArray
 |.greatest k _=>zT (T.dotZ aims (ptS k))
 |_=>⟨#[]⟩
def SOut.log (aims:List Int):SOut->ByteArray
 |.greatest k ls=>⟨(zab ls (endG aims k)).toArray⟩
 |.none k r ls=>⟨(zab ls (zcn k r)).toArray⟩
 |.limit _=>⟨#[]⟩
theorem solq_form {B:Nat}{aims:List Int}{o:SOut}{v0 v1 v2 v3 v4:Value}{w:H}(h:SolQ B aims o (Xa (ag #[v0,v1,v2,v3,v4])) w):∃(a:Option Addr) (l c:Nat),v0=it Xb o.kind/\v1=V a l c/\v2=gS (o.val aims)/\v3=it Xb (o.cuts:Int)/\v4=gS (o.log aims)/\Grw B 9 1 w (V a l c) (o.pts.map zdh):=by
 cases o with
 |greatest k b=>
  obtain⟨⟨a,l,c⟩,h1,h2⟩:=h;simp only[Ending.returned.injEq,zdU,Array.mk.injEq,za5,zel]at h1;obtain⟨rfl,rfl,rfl,rfl,rfl⟩:=h1;exact⟨a,l,c,rfl,rfl,rfl,rfl,rfl,h2⟩
 |none k r b=>
  have h1:Ending.returned (ag #[v0,v1,v2,v3,v4])=_:=h;simp only[Ending.returned.injEq,zdU,Array.mk.injEq,za5,zel]at h1;obtain⟨rfl,rfl,rfl,rfl,rfl⟩:=h1;exact⟨O,0,0,rfl,rfl,rfl,rfl,rfl,Xr _ _ _ _⟩
 |limit m=>
  have h1:Ending.returned (ag #[v0,v1,v2,v3,v4])=_:=h;simp only[Ending.returned.injEq,zdU,Array.mk.injEq,za5,zel]at h1;obtain⟨rfl,rfl,rfl,rfl,rfl⟩:=h1;exact⟨O,0,0,rfl,rfl,rfl,rfl,rfl,Xr _ _ _ _⟩
theorem five_cells {w w':H}{g:Nat}{a b c d e:Value}(h:w.heap[g]? =E (cl #[a,b,c,d,e] 31))(f:Ext w w'):w'.cell? (Xd g 0 O)=E a/\w'.cell? (Xd g 1 O)=E b/\w'.cell? (Xd g 2 O)=E c/\w'.cell? (Xd g 3 O)=E d/\w'.cell? (Xd g 4 O)=E e:=
 ⟨f.cell (c_ 0 h),f.cell (c_ 1 h),f.cell (c_ 2 h),f.cell (c_ 3 h),f.cell (c_ 4 h)⟩
section

variable (w:World) (a1 a2:Option Addr) (l1 l2 c1 c2:Nat) (p1 p2:List ByteArray) (h1:zeX w (.slice a1 l1 c1) p1) (h2:zeX w (.slice a2 l2 c2) p2) (hl1:p1.length<=1000) (hl2:p2.length<=1000)

include h1 h2 hl1 hl2
theorem alike_same (hp:p1=p2)(k n:Int)(s log:ByteArray):
 Calls pg 14 #[ag #[it Xb k,V a1 l1 c1,gS s,it Xb n,gS log],ag #[it Xb k,V a2 l2 c2,gS s,it Xb n,gS log]] w fun e w'=>e=Xa (G true)/\Below w.heap.size w w':=by
 obtain⟨b,c⟩:=Xj w (cl #[it Xb k,V a1 l1 c1,gS s,it Xb n,gS log] 31) (cl #[it Xb k,V a2 l2 c2,gS s,it Xb n,gS log] 31);have d:Ext w ((w.alloc (cl #[it Xb k,V a1 l1 c1,gS s,it Xb n,gS log] 31)).alloc (cl #[it Xb k,V a2 l2 c2,gS s,it Xb n,gS log] 31)):=((Xe w).alloc _).alloc _;have a:=zf (zl2 _ _ _ p1 p2 (h1.ext d) (h2.ext d) hl1 hl2);rw[zbA hp]at a;have f:(s.toList == s.toList)=true:=sp;have f:(log.toList == log.toList)=true:=sp;obtain⟨g,h,i,j,l⟩:=five_cells b (Xe _);obtain⟨m,o,p,q,r⟩:=five_cells c (Xe _);clear h1 h2 hp;go_enter func14,ntmps14
 go_wp2_with fail
 generalize (w.alloc (cl #[it Xb k,V a1 l1 c1,gS s,it Xb n,gS log] 31)).alloc (cl #[it Xb k,V a2 l2 c2,gS s,it Xb n,gS log] 31)=u at *;refine a.out.mono ?_;rintro e v ⟨rfl,t⟩;have f:Ext u v:=Xh t;clear g h i j l m o p q r;obtain⟨g,h,i,j,l⟩:=five_cells b f;obtain⟨m,o,p,q,r⟩:=five_cells c f;clear t b c a;go_wp2;go_ret;exact⟨rfl,d.trans f⟩
end

end

section
open Go.RowKit
theorem res_box {w1 b:H}{B:Nat}{o:SOut}(mx:List Int){a:Option Addr}{l c:Nat}(h:Ext w1 b)(d:Grw B 9 1 b (V a l c) (o.pts.map zdh)):(b.alloc (cl #[it Xb o.kind,V a l c,gS (o.val mx),it Xb (o.cuts:Int),gS (o.log mx)] 31)).heap[b.heap.size]? =E (cl #[it Xb o.kind,V a l c,gS (o.val mx),it Xb (o.cuts:Int),gS (o.log mx)] 31)/\Ext w1 (b.alloc (cl #[it Xb o.kind,V a l c,gS (o.val mx),it Xb (o.cuts:Int),gS (o.log mx)] 31))/\Grw B 9 1 (b.alloc (cl #[it Xb o.kind,V a l c,gS (o.val mx),it Xb (o.cuts:Int),gS (o.log mx)] 31)) (V a l c) (o.pts.map zdh):=
 ⟨zC _ _,h.alloc _,d.ext ((Xe _).alloc _)⟩
theorem pts_len {p:qF}(h:zc5 p){c q:Nat}{o:SOut}(ho:zbF p c q=o):o.pts.length<=1000:=by
 cases o with
 |greatest k a=>
  have h1:(ptS k).length=p.n:=((zik h c q).1 k a ho).1.1;have b:=h.n4;show((ptS k).map zT).length<=1000
  rw[zm];omega
 |none k r a=>simp[SOut.pts]
 |limit m=>simp[SOut.pts]
def OutV (aims:List Int)(o:SOut)(a:Option Addr)(l c:Nat):Array Value:=#[it Xb o.kind,V a l c,gS (o.val aims),it Xb (o.cuts:Int),gS (o.log aims)]
section

variable {mx lo hi:List Int} {gs:List (List Int)} {ss rs:List Int} (hp:zai mx lo hi gs ss rs)

include hp
theorem foundSmall_any {o:SOut}(ho:zbF (QA mx lo hi gs ss rs) 1099511627776 1099511627776=o)(W:H){B:Nat}(b:B<=W.heap.size)(c:Tab W):
 Calls pg 9 #[gS ⟨(ze4 (QA mx lo hi gs ss rs)).toArray⟩] W fun e w'=>∃a l n,e=Xa (tp #[ag (OutV mx o a l n),G true])/\Grw B 9 1 w' (V a l n) (o.pts.map zdh)/\Below W.heap.size W w':=by
 refine(zpN _ _ (zmX hp) W b c).mono ?_;rintro e w' ⟨⟨_,a,l,n,_,_,_,rfl,h⟩,g⟩;rw[ho]at h;obtain⟨_,_,_,b,h1,h2,c,d,f⟩:=solq_form h;cases b;cases h1;cases h2;cases c;cases d;exact⟨a,l,n,rfl,f,g⟩
theorem small_is {o:SOut}(ho:zbF (QA mx lo hi gs ss rs) 1099511627776 1099511627776=o):∀b,za8 mx lo hi gs ss rs (8^mx.length) b->IsV mx o.kind o.pts (o.val mx) b:=fun b a=>by
 obtain⟨c,d,e⟩:=zjF hp a (cuts:=1099511627776) (pivots:=1099511627776) dc dc;cases o with
 |greatest k a=>rw[c k a ho];exact⟨rfl,rfl,rfl⟩
 |none k r a=>rw[d k r a ho];exact⟨rfl,rfl,rfl⟩
 |limit m=>exact absurd ho (e m)
end

end

section
open Go.RowKit
variable {w:H}
structure AskA (W1:H)(g:Nat)(a1 a2 a3 a4 a5 a6:Option Addr)(l1 l2 l3 l4 l5 l6 c1 c2 c3 c4 c5 c6:Nat)(tx:ByteArray)(mx:List Int)(o:SOut):Prop where
 box:W1.heap[g]? =E (cl #[V a1 l1 c1,V a2 l2 c2,V a3 l3 c3,V a4 l4 c4,V a5 l5 c5,V a6 l6 c6] 25)
 text:∀W,Ext W1 W->Calls pg 10 #[ag #[V a1 l1 c1,V a2 l2 c2,V a3 l3 c3,V a4 l4 c4,V a5 l5 c5,V a6 l6 c6]] W fun e w'=>e=Xa (gS tx)/\Below W.heap.size W w'
 found:∀W,Ext W1 W->Calls pg 9 #[gS tx] W fun e w'=>∃a l n,e=Xa (tp #[ag #[it Xb o.kind,V a l n,gS (o.val mx),it Xb (o.cuts:Int),gS (o.log mx)],G true])/\Grw W.heap.size 9 1 w' (V a l n) (o.pts.map zdh)/\Below W.heap.size W w'
 is:∀W v,Ext W1 W->zeX W v o.pts->Calls pg 11 #[ag #[V a1 l1 c1,V a2 l2 c2,V a3 l3 c3,V a4 l4 c4,V a5 l5 c5,V a6 l6 c6],ag #[it Xb o.kind,v,gS (o.val mx)]] W fun e w'=>e=Xa (G true)/\Below W.heap.size W w'
 len:o.pts.length<=1000
theorem zc7.slices{g f e d i h:Value}{mx lo hi:List Int}{gs:List (List Int)}{ss rs:List Int}(b:zc7 w g f e d i h mx lo hi gs ss rs):(∃a l c,g=V a l c)/\(∃a l c,f=V a l c)/\(∃a l c,e=V a l c)/\(∃a l c,d=V a l c)/\(∃a l c,i=V a l c)/\(∃a l c,h=V a l c):=by
 obtain⟨a1,c1,h1,-⟩:=b.m;obtain⟨a2,c2,h2,-⟩:=b.l;obtain⟨_,_,d,-⟩:=b.h;obtain⟨_,_,e,-⟩:=b.g;obtain⟨_,_,f,-⟩:=b.s;obtain⟨_,_,g,-⟩:=b.r;exact⟨⟨_,_,_,h1⟩,⟨_,_,_,h2⟩,⟨_,_,_,d⟩,⟨_,_,_,e⟩,⟨_,_,_,f⟩,⟨_,_,_,g⟩⟩
theorem askA_of{w1:H}{a1 a2 a b c d:Option Addr}{l1 l2 i j k l c1 c2 e f g h:Nat}{mx lo hi:List Int}{gs:List (List Int)}{ss rs:List Int}(o:zc7 w1 (V a1 l1 c1) (V a2 l2 c2) (V a i e) (V b j f) (V c k g) (V d l h) mx lo hi gs ss rs)(hp:zai mx lo hi gs ss rs)(hb:Ext w w1)(p:Tab w):
 AskA (w1.alloc (cl #[V a1 l1 c1,V a2 l2 c2,V a i e,V b j f,V c k g,V d l h] 25)) w1.heap.size a1 a2 a b c d l1 l2 i j k l c1 c2 e f g h ⟨(ze4 (QA mx lo hi gs ss rs)).toArray⟩ mx (zbF (QA mx lo hi gs ss rs) 1099511627776 1099511627776):=by
 obtain⟨q,m⟩:=new1 w1 (cl #[V a1 l1 c1,V a2 l2 c2,V a i e,V b j f,V c k g,V d l h] 25);have b:∀W,Ext _ W->Tab W:=fun W a=>p.below ((hb.trans m).trans a)
 exact⟨q,fun W a=>zjL W _ _ _ _ _ _ mx lo hi gs ss rs (o.ext (m.trans a)) hp (b W a),fun W a=>foundSmall_any hp rfl W (zh _) (b W a),fun W v a c=>zoc W _ _ _ _ _ _ mx lo hi gs ss rs (o.ext (m.trans a)) hp (b W a) _ v _ _ c (pts_len (zjE hp) rfl) (small_is hp rfl),pts_len (zjE hp) rfl⟩
theorem small_askA(p:ByteArray)(w:H)(hs:p.size<=9223372036854775807)(r:Tab w):
 Calls pg 8 #[gS p] w fun e w'=>∃a1 a2 a b c d l1 l2 j k l m c1 c2 f g h i q mx o,e=Xa (ag #[V a1 l1 c1,V a2 l2 c2,V a j f,V b k g,V c l h,V d m i])/\AskA (w'.alloc (cl #[V a1 l1 c1,V a2 l2 c2,V a j f,V b k g,V c l h,V d m i] 25)) w'.heap.size a1 a2 a b c d l1 l2 j k l m c1 c2 f g h i q mx o/\Below w.heap.size w w':=by
 refine(zmT p w hs).mono ?_;rintro e p ⟨_,_,_,_,_,_,mx,lo,hi,gs,ss,rs,rfl,q,hp,p⟩;obtain⟨⟨a1,l1,c1,rfl⟩,⟨a2,l2,c2,rfl⟩,⟨a,j,f,rfl⟩,⟨b,k,g,rfl⟩,⟨c,l,h,rfl⟩,⟨d,m,i,rfl⟩⟩:=q.slices;exact⟨a1,a2,a,b,c,d,l1,l2,j,k,l,m,c1,c2,f,g,h,i,_,mx,_,rfl,askA_of q hp (Xh p) r,p⟩
theorem strs_owned{B:Nat}{v:Value}{ss:List ByteArray}(h:w.ownsRow B 9 1 v ss.length (ss.map gS)):zeX w v ss:=by
 have b:=h;obtain⟨_,⟨rfl,d⟩|⟨g,a,_,rfl,_,c,_⟩⟩:=h;·exact⟨O,0,by rw[d],fun h=>om⟩
 ·refine⟨_,a,rfl,fun _=>⟨g,0,rfl,(zd.1 c).1,fun i z a=>?_⟩⟩;have:=b.cells (g:=g) rfl i (gS z) (by rw[zR,a];rfl);have a:(⟨g,0,O⟩:Addr).add i=⟨g,0+i,O⟩:=by unfold Addr.add;split<;>simp_all
  rw[<-a];exact this
theorem flat_strC1:∀l:List ByteArray,(l.map zdh).flatten=l.map gS
 |[]=>rfl
 |x::l=>by simp[zdh,flat_strC1 l]
theorem owns_same{w':H}{B:Nat}{e:TypeId}{z:Nat}{v:Value}{n:Nat}{xs:List Value}(h:w.ownsRow B e z v n xs)(f:∀g,B<=g->g<w.heap.size->w'.heap[g]? =w.heap[g]?):w'.ownsRow B e z v n xs:=by
 obtain⟨h1,h2|⟨g,c,d,rfl,a,b,r⟩⟩:=h;·exact⟨h1,.inl h2⟩
 ·exact⟨h1,.inr ⟨g,c,d,rfl,a,(f g a (zd.1 b).1).trans b,r⟩⟩
theorem hstop{q:Prop}(h:Hid q):q:=h
theorem append_strs{l:Array Oper}{rest:List Oper}{b:Oper}{a:Act}{Q:Exit->Act->H->Prop}{B:Nat}{v:Value}{ss:List ByteArray}(o:Grw B 9 1 w v (ss.map zdh))(C:ss.length<=1000)(e:b.guard=O)(s x:Operand)(ho:b.op= .call { callee:= .builtin .append,args:=#[s,x],argTypes:=#[27,27] })(hs:a.eval s=V O 0 0)(j:a.eval x=v)(h:∀c w',w'.ownsRow w.heap.size 9 1 c ss.length (ss.map gS)->Ext w w'->wpList pg l Q rest (a.put b.dst c) w'):wpList pg l Q (b::rest) a w:=by
 obtain⟨k,f,u,y,z⟩:=Zn zkN;have d:=o.own;rw[flat_strC1,zm]at d;have r:=d;obtain⟨_,⟨rfl,q⟩|⟨g,m,_,rfl,_,_,_⟩⟩:=d
 ·have:ss= []:=Qk.1 q;subst this;exact wpList_append_own_none e s x 27 ho w.heap.size 9 k 1 underlying27 f _ 0 [] hs (zaf _ _ _ _) j (h _ _ (zaf _ _ _ _) (Xe _))
 ·refine zcU w e s x 27 ho w.heap.size 9 k (gS ⟨#[]⟩) 1 16 underlying27 f u y z rfl dc _ 0 [] hs (zaf _ _ _ _) ⟨g,0,O⟩ ss.length m (ss.map gS) j sp (r.cells rfl) (fun D t=>by obtain⟨_,-,rfl⟩:=qP.1 t;rfl) mo om (zh _) ?_;intro c w' i p _;rw[qt,Q7]at i;exact h c w' i ((Qh (U:=fun _=>False) p (fun g h=>by cases h)).below (zh _) (fun A h=>h.elim))
theorem keepApart_any(ae other:ByteArray)(w:H)(hs:ae.size<=9223372036854775807)(ab:other.size<=9223372036854775807)(ad:Tab w):
 Calls pg 7 #[gS ae,gS other] w fun e w'=>e=Xa (G true)/\Below w.heap.size w w':=by
 have aS:=zf (small_askA ae w hs ad);have aT:=zf (fun aj (hW:Ext w aj)=>small_askA other aj ab (ad.below hW));obtain⟨_,_,_,_,_⟩:=Zn zkN;clear hs ab ad;go_enter func7,ntmps7
 go_wp2_with fail
 refine aS.out.mono ?_;rintro e w1 ⟨a1,a2,a3,a4,a5,a6,l1,l2,l3,l4,l5,l6,c1,c2,c3,c4,c5,c6,_,mx,D,rfl,hA,ao⟩;have x1:Ext w (w1.alloc (cl #[V a1 l1 c1,V a2 l2 c2,V a3 l3 c3,V a4 l4 c4,V a5 l5 c5,V a6 l6 c6] 25)):=(Xh ao).alloc _;have c:=zf hA;clear hA ao;go_wp2_with fail
 generalize World.alloc _ _=W1 at *;generalize w1.heap.size=g1 at *;clear w1;refine(aT.out W1 x1).mono ?_;rintro e w2 ⟨b1,b2,b3,b4,b5,b6,m1,m2,m3,m4,m5,m6,d1,d2,d3,d4,d5,d6,_,P,z,rfl,hY,ap⟩;have q:Ext W1 (w2.alloc (cl #[V b1 m1 d1,V b2 m2 d2,V b3 m3 d3,V b4 m4 d4,V b5 m5 d5,V b6 m6 d6] 25)):=(Xh ap).alloc _;have t:=zf hY;obtain⟨f,j,k,l,m,o⟩:=za9 c.out.box q;clear hY ap;go_wp2_with fail
 generalize World.alloc _ _=u at *;generalize w2.heap.size=g2 at *;clear w2;refine(c.out.text u q).mono ?_;rintro e w3 ⟨rfl,aq⟩;have y3:Ext u w3:=Xh aq;clear aq f j k l m o;go_wp2_with fail
 refine(c.out.found w3 (q.trans y3)).mono ?_;rintro e w4 ⟨F,a,A,rfl,hG,ar⟩;have y4:Ext u w4:=y3.trans (Xh ar);obtain⟨nA,yA,a9⟩:=res_box mx y4 hG;have hB:=y3.size;obtain⟨f,j,k,l,m,o⟩:=za9 t.out.box yA;clear ar y3 y4;go_wp2_with fail
 generalize World.alloc _ _=x at *;have aX:=(zd.1 nA).1;have I:Hid (∀b,(V F a A).ownBlock=E b->u.heap.size<=b/\b≠w4.heap.size/\b<x.heap.size):=fun b K=>by
  have h1:=hG.type b K;have:=h1.1.lt;have:=h1.2;have:=(a9.type b K).1.lt;exact⟨om,om,om⟩
 generalize w4.heap.size=gA at *;have HG:=zf (a9.low hB);clear hG a9 hB w4;refine(t.out.text x yA).mono ?_;rintro e w5 ⟨rfl,au⟩;have y5:Ext x w5:=Xh au;clear au f j k l m o;go_wp2_with fail
 refine(t.out.found w5 (yA.trans y5)).mono ?_;rintro e w6 ⟨ra,rl,rc,rfl,hR,av⟩;have y6:Ext x w6:=y5.trans (Xh av);obtain⟨nB,y7,ak⟩:=res_box P y6 hR;have aI:=y5.size;have HR:=zf (ak.low aI);have HN:Hid (∀b,b<x.heap.size->¬(V ra rl rc).ownBlock=E b):=fun b K h=>by
  have:=(hR.type b h).2;omega
 obtain⟨Q,R,S,U,W⟩:=five_cells nA y7;clear av hR y5 aI ak;go_wp2_with (at_builtin;refine hstop ?_)
 unfold Hid;have a0:=zf (HG.out.ext y7);generalize World.alloc _ _=WB at *;have aZ:=y6.size;generalize w6.heap.size=gB at *;have aY:=y7.size;clear y6 w6;refine append_strs a0.out c.out.len rfl _ _ rfl rfl rfl ?_;intro vq J aF y8;clear Q R S U W;have aJ:Ext x J:=y7.trans y8;have HQ:=zf aF;have a7:=zf (HR.out.ext y8);have ah:=zf (a0.out.ext y8);have af:=zf ((y8.block _ (zd.1 nB).1).trans nB);have aK:=zf ((aJ.block _ aX).trans nA);clear aF HR a0 HG;have aa:a=D.pts.length:=by
  obtain⟨_,_,h⟩:=ah.out.shape;rw[zm]at h;cases h;rfl
 have ba:a<=1000:=aa▸c.out.len;have aU:Hid (Wr (fun b=>(V F a A).ownBlock=E b) J J):=Xi _ _;have aN:Hid (∃y:List (List Value),y.length=a/\Grw u.heap.size 9 1 J (V F a A) y):=⟨_,by rw[zm,aa],ah.out⟩;clear aa;go_wp2;go_loopw [12] (fun iv wr=>∃i:Nat,i<=a/\iv=it Xb (i:Nat)/\Hid (Wr (fun b=>(V F a A).ownBlock=E b) J wr)/\Hid (∃y:List (List Value),y.length=a/\Grw u.heap.size 9 1 wr (V F a A) y)) (fun iv _=>((a:Int)-intOf iv).toNat)
 case atStart=>exact⟨0,om,rfl,aU,aN⟩
 case round=>
  obtain⟨i,_,rfl,s,HC⟩:=hrel;have nR:=s.out.some aK.out (fun h=>(I.out _ h).2.1 rfl);obtain⟨Q,R,S,U,W⟩:=five_cells nR (Xe _);by_cases b8:i<a
  ·obtain⟨y,aE,N⟩:=HC.out;obtain⟨M,L,hv⟩:∃M L,V F a A=V (E (Xd M 0 O)) a L:=by
    obtain⟨_,⟨h1,h2⟩|⟨g,L,a8,h1,_⟩⟩:=N.own;·omega
    ·exact⟨g,L,by rw[h1,aE]⟩
   cases hv;obtain⟨hl2,_,a8,hh,_,_,_,_,ab⟩:=N.parts;have aW:i<a8.size:=om;have aV:=ze _ _ i _ _ _ hh;rw[qD aW]at aV;have hf:=ZK _ _ i _ _ hh;have aD:=zg (show i<y.length by omega);have aH:=N.put dc aD (show 0<1 by decide) (v:=gS ⟨#[109,105,110,101]⟩) (by intro _ h;cases h);have HP:=zf aH;clear aH N hh aD;generalize a8[i]=bb at *;go_wp2;have aG:=HP.out;rw[jM,qV]at aG;go_roundw
   case rel=>exact⟨i+1,om,by go_num,s.out.setCell (T:=fun b=>(V (E (Xd M 0 O)) a A).ownBlock=E b) (p:=(Xd M i O)) rfl _,⟨_,by rw[qX];exact aE,aG⟩⟩
   case measure=>simp[intOf];omega
  ·have b7:¬((i:Int)<(a:Int)):=om;have d:Ext u wr:=qk (yA.trans aJ) s.out (fun b K=>(I.out b K).1);obtain⟨f,j,k,l,m,o⟩:=za9 c.out.box (q.trans d);have aR:=zf nR;have aM:=zf (s.out.some af.out (fun h=>by have:=(I.out _ h).2.2;omega));have aQ:Hid (Grw x.heap.size 9 1 wr (V ra rl rc) (z.pts.map zdh)):=a7.out.same s.out.size fun g hg=>s.out.block g (a7.out.type g hg).1.lt fun h=>HN.out g (I.out g h).2.2 hg
   have aP:Hid (zeX wr vq D.pts):=strs_owned (B:=WB.heap.size) (owns_same HQ.out fun g h1 h2=>s.out.block g h2 fun h=>by have:=(I.out g h).2.2;omega);clear nR s HC a7 af HQ;go_wp2_with fail
   refine(c.out.text wr (q.trans d)).mono ?_;rintro e w7 ⟨rfl,aw⟩;have z7:Ext wr w7:=Xh aw;clear aw f j k l m o Q R S U W;go_wp2_with fail
   refine(c.out.found w7 ((q.trans d).trans z7)).mono ?_;rintro e w8 ⟨ua,ul,uc,rfl,hU,ax⟩;have z8:Ext wr w8:=z7.trans (Xh ax);obtain⟨nC,C,an⟩:=res_box mx z8 hU;obtain⟨f,j,k,l,m,o⟩:=za9 t.out.box (d.trans C);have HU:=zf an;clear ax hU z7 z8 an;go_wp2_with fail
   generalize World.alloc _ _=WC at *;generalize w8.heap.size=gC at *;clear w8;refine(t.out.text WC (d.trans C)).mono ?_;rintro e w9 ⟨rfl,ay⟩;have z9:Ext WC w9:=Xh ay;clear ay f j k l m o;go_wp2_with fail
   refine(t.out.found w9 ((d.trans C).trans z9)).mono ?_;rintro e wA ⟨ta,tl,tc,rfl,hT,az⟩;obtain⟨nD,r,al⟩:=res_box P (z9.trans (Xh az)) hT;have HT:=zf al;have yD:=d.trans (C.trans r);obtain⟨X,Y,Z,u3,u4⟩:=five_cells nC r;clear az hT z9 al;have ai:=zf (zl2 _ (V ua ul uc) vq D.pts D.pts (zoe (HU.out.ext r).list) (aP.out.ext (C.trans r)) c.out.len c.out.len);rw[zbA rfl]at ai;go_wp2_with fail
   generalize World.alloc _ _=WD at *;generalize wA.heap.size=gD at *;clear wA;refine ai.out.mono ?_;rintro e wB ⟨rfl,aA⟩;have zB:Ext WD wB:=Xh aA;clear aA X Y Z u3 u4;have zE:Ext wr wB:=C.trans (r.trans zB);obtain⟨b0,b1,b2,b3,b4⟩:=five_cells aM.out zE;obtain⟨d0,d1,d2,d3,d4⟩:=five_cells nD zB;have aL:=zf (alike_same wB ra ta rl tl rc tc z.pts z.pts (zoe (aQ.out.ext zE).list) (zoe (HT.out.ext zB).list) t.out.len t.out.len rfl z.kind (z.cuts:Int) (z.val P) (z.log P));go_wp2_with fail
   refine aL.out.mono ?_;rintro e wE ⟨rfl,aB⟩;have zF:Ext WD wE:=zB.trans (Xh aB);have zG:Ext wr wE:=C.trans (r.trans zF);clear aB b0 b1 b2 b3 b4 d0 d1 d2 d3 d4;obtain⟨f,j,k,l,m,o⟩:=za9 c.out.box ((q.trans d).trans zG);obtain⟨X,Y,Z,u3,u4⟩:=five_cells nC (r.trans zF);have aO:=zf (c.out.is wE (V ua ul uc) ((q.trans d).trans zG) (zoe (HU.out.ext (r.trans zF)).list));go_wp2_with fail
   refine aO.out.mono ?_;rintro e wF ⟨rfl,aC⟩;have zH:Ext wE wF:=Xh aC;clear aC f j k l m o X Y Z u3 u4;obtain⟨X,Y,Z,u3,u4⟩:=five_cells nC ((r.trans zF).trans zH);obtain⟨Q,R,S,U,W⟩:=five_cells aR.out (zG.trans zH);have b9:((D.log mx).toList == (D.log mx).toList)=true:=sp;have HX:=zf ((x1.trans (q.trans d)).trans (zG.trans zH));go_wp2;go_ret;exact⟨rfl,HX.out⟩
