import Derived.Test.YthnopjedhcapmaaGreatDoorMvr1Z17
import Derived.Test.YthnopjedhcapmaaGreatDoorMvr1Z14
import Derived.Test.YthnopjedhcapmaaGreatDoorMvr1Z15
import Derived.Test.YthnopjedhcapmaaGreatDoorMvr1Z18
open Option renaming none->O,some->E
open Go.Value renaming slice->V,bool->G,string->gS,pointer->pn,tuple->tp,int->it,agg->ag
open Go.Obj renaming cells->cl
open Go renaming World->H
open Go.Proofs.Tryz renaming prog->pg
open Go.Proofs.Tryz
open Go.Ending renaming returned->Xa
open Go.IntKind renaming i64->Xb
open Go.Addr renaming mk->Xd
set_option linter.unusedSimpArgs false
set_option linter.unusedVariables false
set_option maxHeartbeats 4000000
set_option maxRecDepth 100000
namespace Go.Proofs.YthnopjedhcapmaaGreatDoor
section
open Go.RowKit
attribute [local go_sem] zD zW qJ
def lnP (q0:List (Nat×Int))(f:Edg->Int)(es:List Edg)(j:Nat):List (Nat×Int):=q0++((es.take j).map fun e=>(e.num,f e)).filter fun p=>decide (p.2≠0)
def endG (aims:L_)(c:Cor):Zy:=⟨c.over,lnP [] (fun e=>(qT aims e.loss).getD 0 0) c.edges c.edges.length⟩
def zcn (c:Cor)(r:qO):Zy:=⟨c.over,lnP [(r.2,(c.over:Int))] (fun e=>-T.dotZ r.1.1 e.loss) c.edges c.edges.length⟩
theorem zrl {q0:List (Nat×Int)}{f:Edg->Int}{es:List Edg}{j:Nat}{e:Edg}(h:es[j]? =E e):lnP q0 f es (j+1)=if f e=0 then lnP q0 f es j else lnP q0 f es j ++ [(e.num,f e)]:=by
 unfold lnP;rw[ZB,h,Z6,je];by_cases b:f e=0
 ·rw[zQ b];simp[b]
 ·rw[zO b,Zl];congr 2
  simp only[zcI,Zk,zdJ,Qz,List.filter_nil];rw[zQ (by simpa using b)]
theorem znc (q0:List (Nat×Int))(f:Edg->Int)(es:List Edg)(j:Nat):(lnP q0 f es j).length<=q0.length+j:=by
 unfold lnP;rw[zM];have:=jB (fun p:Nat×Int=>decide (p.2≠0)) ((es.take j).map fun e=>(e.num,f e));rw[zm,zX]at this;omega
structure LnM (A:H)(b0 bl g5:Nat)(U0:Nat->Prop)(ov:S_)(qs:List (Nat×Int))(pv:Value)(ps:List PT):Prop where
 line:A.heap[g5]? =E (cl #[sl3 ov,pv] 109)
 grw:Grw b0 260 3 A pv (ps.map PT.cells)
 own:∀b,pv.ownBlock=E b->b≠g5/\(U0 b\/bl<=b)
 pts:zd6 A ps qs
section

variable {A A':World} {b0 bl g5:Nat} {U0:Nat->Prop} {ov:S_} {qs:List (Nat×Int)} {pv:Value} {ps:List PT}
theorem LnM.keep {C:Nat}(h:LnM A b0 bl g5 U0 ov qs pv ps)(b:zn C A A'):LnM A' b0 bl g5 U0 ov qs pv ps:=
 ⟨b.block _ _ h.line (.inr rfl),h.grw.keep b,h.own,h.pts.keep b⟩
theorem LnM.ext (h:LnM A b0 bl g5 U0 ov qs pv ps)(b:Ext A A'):LnM A' b0 bl g5 U0 ov qs pv ps:=h.keep (C:=0) (zn.of_below b)
theorem LnM.far (h:LnM A b0 bl g5 U0 ov qs pv ps):∀b,b=g5\/pv.ownBlock=E b->¬qQ A b 64/\qK A b:=fun b d=>by
 rcases d with e|e
 ·rw[e];have⟨_,_,g⟩:=h.grw.shape;exact⟨fun d=>absurd (d.one ⟨_,_,h.line⟩) dc,zE h.line (by rw[g];intro u g;simp[sl3]at g;rcases g with rfl|rfl<;>(intro n e;cases e))⟩
 ·exact⟨fun d=>absurd (d.one (h.grw.type b e).1) dc,h.grw.dig b e⟩
theorem LnM.lineM (h:LnM A b0 bl g5 U0 ov qs pv ps){over:Nat}(ho:NatV A (sl3 ov) over)(t:LT)(d:t.o=ov)(b:t.pv=pv):za7 A t ⟨over,qs⟩:=by
 refine⟨?_,ps,h.pts.1,?_,h.pts.2⟩;·unfold LT.ov;rw[d];exact ho
 ·rw[b];exact h.grw.list
end
def LnI (w1:H)(b0 g5:Nat)(U0:Nat->Prop)(ov:S_)(q0:List (Nat×Int))(f:Edg->Int)(es:List Edg)(j:Nat)(M:Nat->Prop)(A:H):Prop:=
 j<=es.length/\Wr (fun b=>b=g5\/U0 b) w1 A/\∃pv ps,LnM A b0 w1.heap.size g5 U0 ov (lnP q0 f es j) pv ps/\∀b,M b↔b=g5\/pv.ownBlock=E b
section

variable {w1 A:World} {b0 g5:Nat} {U0:Nat->Prop} {ov:S_} {q0:List (Nat×Int)} {f:Edg->Int} {es:List Edg} {j:Nat} {M:Nat->Prop}
theorem LnI.keep {B:H}(h:LnI w1 b0 g5 U0 ov q0 f es j M A)(b:zn w1.heap.size A B):LnI w1 b0 g5 U0 ov q0 f es j M B:=by
 have⟨d,e,pv,ps,g,i⟩:=h;exact⟨d,e.keep b,pv,ps,g.keep b,i⟩
theorem LnI.lt (h:LnI w1 b0 g5 U0 ov q0 f es j M A):∀b,M b->b<A.heap.size:=by
 have⟨_,_,pv,ps,d,e⟩:=h;intro b g;rcases(e b).1 g with e|e
 ·rw[e];exact(zd.1 d.line).1
 ·exact(d.grw.type b e).1.lt
theorem LnI.more {A2 A5 d:H}{pv h:Value}{ps:List PT}{e:Edg}{t:WT}{r:Int}(u:es[j]? =E e)(h2:Wr (fun b=>b=g5\/U0 b) w1 A)(l:LnM A b0 w1.heap.size g5 U0 ov (lnP q0 f es j) pv ps)(m:∀b,M b↔b=g5\/pv.ownBlock=E b)
 (o:zn w1.heap.size A A2) (q:Ext A2 A5) (i:r=(e.num:Int)) (C:zy A5 t.val (f e)) (v:Wr (fun b=>b=g5\/pv.ownBlock=E b) A5 d) (z:d.heap[g5]? =E (cl #[sl3 ov,h] 109)) (y:Grw b0 260 3 d h ((if f e=0 then ps else ps ++ [⟨r,t⟩]).map PT.cells))
 (p:∀b,h.ownBlock=E b->b≠g5/\(pv.ownBlock=E b\/A5.heap.size<=b)):Wr M A2 d/\∃g,LnI w1 b0 g5 U0 ov q0 f es (j+1) g d/\∀x,g x->M x\/A.heap.size<=x:=by
 have s:=(l.keep o).ext q;have g:=h2.size;have g:=o.size;have g:=q.size;have g:=(Xg q).trans v;refine⟨g.mono fun b d=>(m b).2 d,fun b=>b=g5\/h.ownBlock=E b,⟨by have:=(zo.1 u).1;omega,?_,h,(if f e=0 then ps else ps ++ [⟨r,t⟩]),⟨z,y,fun b d=>?_,?_⟩,fun b=>Qb⟩,fun x q=>?_⟩
 ·have h:=h2.keep o;exact⟨g.os.trans h.os,g.tape.trans h.tape,g.output.trans h.output,zF h.size g.size,fun b d i=>(g.block b (zK d h.size) (fun e=>by
   rcases e with e|e
   ·exact i (.inl e)
   ·rcases(l.own b e).2 with g|g
    ·exact i (.inr g)
    ·omega)).trans (h.block b d i)⟩
 ·refine⟨(p b d).1,?_⟩;rcases(p b d).2 with o|o
  ·exact(l.own b o).2
  ·exact .inr om
 ·rw[zrl u,i];exact(s.pts.take e.num t _ C).wr v (fun b d=>(s.far b d).2)
 ·rcases q with e|e
  ·exact .inl ((m x).2 (.inl e))
  ·rcases(p x e).2 with o|o
   ·exact .inl ((m x).2 (.inr o))
   ·exact .inr om
end
theorem zfZ {w:H}{B gs n given:Nat}{aims:L_}{a:S_}{c:CT}{rv cv:Value}{k:Cor}{ets:List ET}{rows:List qO}{rts:List NT}{ls:List Zy}{lts:List LT}(b:SrM w B gs n given aims a c rv cv k ets rows rts ls lts):
 C_ 49 #[p_ gs 0] w fun e w'=>e=Xa (ag #[i_ 3,V_,gS ⟨#[]⟩,i_ (ls.length:Int),gS ⟨#[]⟩])/\b_ w w':=by
 have⟨g,h,d⟩:=b.lgrw.shape;rw[zm,b.llen]at d;subst d;exact zph w gs a n given rv c g ls.length h b.box
end

section
open Go.RowKit
attribute [local go_sem] zD zW qJ
variable {B D:Nat}{k:Cor}{w:H}
theorem zki{K n:Nat}(hc:jN D K)(bj:K<=200000){gs given:Nat}{aims:L_}{a:S_}{c:CT}{rv cv:Value}{ets:List ET}{rows:List qO}{rts:List NT}{ls:List Zy}{lts:List LT}(Y:SrM w B gs n given aims a c rv cv k ets rows rts ls lts)(ab:Fit D n aims k)(br:ls.length<=20000)(bs:∀l∈ls,zaO K l)(t:NT)(r:qO)(hR:zaP w t r)(bw:r.1.1.length=n)(bv:Zu D r.1.1)(hB:zaO K (zcn k r))(bz:Tab w):
 C_ 97 #[p_ gs 0,t.val] w fun e w'=>e=Xa (ag #[i_ 2,V_,gS ⟨#[]⟩,i_ (ls.length:Int),gS ⟨(zab ls (zcn k r)).toArray⟩])/\b_ w w':=by
 have a3:=Y.cor;have aT:=a3.len;have bp:=(zd.1 Y.box).1;have bD:=zf Y;have HR:=zf hR;have bc:=zf (fun W=>zhE c W);have b5:=zf (fun W=>ziL c t W);have b6:=zf (fun b=>zhG hc ab c ets aT r.1.1 bw bv t.fv b);have b4:=zf (fun(w0 w1 A:H) (U:Nat->Prop) s hw1 h hU=>ziO (w0:=w0) (w1:=w1) (A:=A) (U:=U) a3 hR.1 s hw1 h hU);have b3:=zf (fun(W:H) (s:Ext w W) (t':LT) (hL:za7 W t' (zcn k r))=>zkP bj (Y.ext s) br bs t' (zcn k r) hL hB (bz.below s) 2 O 0 0 ⟨#[]⟩);have aV:=a3.over;have b8:=zf a3;have bJ:=ab.n4;have bG:=ab.elen;obtain⟨⟨fa,P,N⟩,⟨tb,ta,tl,tc⟩,q⟩:=t;have ba:Hid (q=r.2):=hR.2.2;obtain⟨⟨aa,al,ac⟩,⟨i,o,m⟩,⟨pa,pl,pc⟩,⟨a9,el,ec⟩⟩:=c;have aR:=Y.box;obtain⟨_,_,_⟩:=a;simp only[NT.val,NT.fv,WT.sv,CT.val,sl3,jh]at *;obtain⟨n0,aC⟩:=Xk w (cl #[V fa P N,G tb,V ta tl tc,i_ q] 106) (cl #[i_ 0,V_,gS ⟨#[]⟩,i_ 0,gS ⟨#[]⟩] 35);have x0:Ext w ((w.alloc (cl #[V fa P N,G tb,V ta tl tc,i_ q] 106)).alloc (cl #[i_ 0,V_,gS ⟨#[]⟩,i_ 0,gS ⟨#[]⟩] 35)):=((Xe w).alloc _).alloc _;have aJ:Hid (∀p,Ext w p->(p.cell? (Xd gs 4 O)=E (V aa al ac)/\p.cell? (Xd gs 5 O)=E (V i o m)/\p.cell? (Xd gs 6 O)=E (V pa pl pc)/\p.cell? (Xd gs 7 O)=E (V a9 el ec))):=fun p s=>
  have a8:=(s.block _ bp).trans aR;⟨c_ 4 a8,c_ 5 a8,c_ 6 a8,c_ 7 a8⟩
 obtain⟨c4,c5,c6,c7⟩:=aJ.out _ x0;clear Y hR a3 aR;refine Q0 func97 ntmps97 (h:=?_);gi_wp2;generalize World.alloc _ _=w0 at *;refine(zq.2 (bc.out w0)).mono ?_;rintro e p ⟨rfl,aQ⟩;have xV:=Xf aQ;have n5:=zC p (cl #[V i o m,V_] 109);have x1:Ext w0 (p.alloc (cl #[V i o m,V_] 109)):=xV.alloc _;have bK:=(zd.1 aC).1;have bN:=xV.size;clear c4 c5 c6 c7 aQ;gi_wp2;generalize bo:p.heap.size=g5 at *;generalize World.alloc _ _=w1 at *;clear bo xV;have ao:=x0.trans x1;have m0:=(x1.block _ (zd.1 n0).1).trans n0;have m1:=(x1.block _ (zd.1 aC).1).trans aC;have bi:=(zd.1 n5).1;have bn:LnM w1 w.heap.size w1.heap.size g5 (fun _=>False) (i,o,m) [] (V_) []:=⟨n5,Xt _ _ _ _,(fun b d=>by cases d),⟨rfl,fun bP bQ a8 hp=>by simp at hp⟩⟩;have aL:Hid (∀W,Ext w1 W->W.cell? (y_ w 3)=E (i_ q)/\W.cell? (Xd g5 0 O)=E (V i o m)):=fun W s=>⟨c_ 3 ((s.block _ (zd.1 m0).1).trans m0),c_ 0 ((s.block _ bi).trans n5)⟩
 have bb:=zf (zaR w1.drew _ _ ((aV.below ao).below (Xe w1).drew));refine zfe (S:=fun W=>W.cell? (y_ w 3)=E (i_ q)/\W.cell? (Xd g5 0 O)=E (V i o m))
  (fun a' p=>∃(pv:Value) (ps:List PT) (v1 v2:Value),LnM p w.heap.size w1.heap.size g5 (fun _=>False) (i,o,m) [(r.2,k.over)] pv ps/\Wr (fun b=>b=g5) w1 p/\
   a'={ tmps:=#[p_ gs 0,ag #[V fa P N,G tb,V ta tl tc,i_ q],undef,p_ w.heap.size 0,p_ (w.heap.size+1) 0,p_ g5 0,undef,undef,p_ gs 0,p_ gs 0,p_ gs 4,ag #[V aa al ac,V i o m,V pa pl pc,V a9 el ec],V i o m,ag #[V i o m,V_],p_ w.heap.size 3,i_ q,p_ g5 0,V i o m,v1,v2,undef,undef,undef,undef,undef,undef,undef,undef,undef,undef,undef,undef,undef,undef,undef,undef,undef,undef],defers:= [] }) hm (aL.out w1.drew (Xe w1).drew) (fun C=>?_) ?_
 ·refine tkv 0 ?_;refine tkl [1,2,3] ?_;refine rcl 4 bb.out ?_;rintro e L ⟨x4,rfl,y,a4⟩;obtain⟨⟨yb,ya,yl,yc⟩,rfl⟩:=y.shape;have u:=ZG a4;have ae:=bn.ext u;have F:=zf (zd4 L g5 (i,o,m) (V_) [] w.heap.size (by have:=u.size;have:=ao.size;omega) ae.line ae.grw (fun b d=>by cases d) sp q ⟨yb,ya,yl,yc⟩ _ y);have ar:=zf y;simp only[WT.val,WT.sv]at F⊢;clear y a4;refine bk (aL.out _ u) fun C=>?_
  refine rcl 5 F.out ?_;rintro e z ⟨⟨v6,rfl⟩,I,aZ,X,R,Z⟩;have bA:Wr (fun b=>b=g5) L z:=I.mono fun b d=>by
   rcases d with e|e
   ·exact e
   ·cases e
  have aA:=(ae.pts.take r.2 ⟨yb,ya,yl,yc⟩ _ ar.out).wr I (fun b d=>(ae.far b d).2);have az:¬((k.over:Int)=0):=by have:=ab.pos;omega
  rw[zO az,zO az]at aA;rw[zO az]at R;have a1:LnM z w.heap.size w1.heap.size g5 (fun _=>False) (i,o,m) [(r.2,k.over)] aZ ([] ++ [⟨q,⟨yb,ya,yl,yc⟩⟩]):=⟨X,R,fun b d=>⟨(Z b d).1,.inr (by
   have:=u.size;rcases(Z b d).2 with a0|a0
   ·cases a0
   ·omega)⟩,by rw[ba.out];exact aA⟩
  have b7:=zf a1;have aX:=(Xg u).trans bA;have q0:=c_ 3 (aX.some m0 (fun e=>om));have q5:=c_ 0 X;clear I X R Z aA a1 F;refine bk (Xc q0 q5) fun C=>?_
  exact zV kr ⟨rfl,(by first|rfl|trivial),_,_,_,_,b7.out,aX,rfl⟩ _
 ·rintro a' x ⟨ak,bB,v1,v2,a2,aj,rfl⟩;have aH:=qk ao aj (fun b d=>om);have r0:=aj.some m0 (fun e=>om);have r1:=aj.some m1 (fun e=>om);have bx:=aj.size;have aM:Hid (∀W,W.heap[w.heap.size]? =E (cl #[V fa P N,G tb,V ta tl tc,i_ q] 106)->Ext w W->(W.cell? (Xd gs 4 O)=E (V aa al ac)/\W.cell? (Xd gs 5 O)=E (V i o m)/\W.cell? (Xd gs 6 O)=E (V pa pl pc)/\W.cell? (Xd gs 7 O)=E (V a9 el ec))/\W.cell? (y_ w 0)=E (V fa P N)/\W.cell? (y_ w 1)=E (G tb)/\W.cell? (y_ w 2)=E (V ta tl tc)/\W.cell? (y_ w 3)=E (i_ q)):=
   fun W h s=>⟨aJ.out W s,c_ 0 h,c_ 1 h,c_ 2 h,c_ 3 h⟩
  gi_wp2;refine Jc (S:=fun W=>(W.cell? (Xd gs 4 O)=E (V aa al ac)/\W.cell? (Xd gs 5 O)=E (V i o m)/\W.cell? (Xd gs 6 O)=E (V pa pl pc)/\W.cell? (Xd gs 7 O)=E (V a9 el ec))/\W.cell? (y_ w 0)=E (V fa P N)/\W.cell? (y_ w 1)=E (G tb)/\W.cell? (y_ w 2)=E (V ta tl tc)/\W.cell? (y_ w 3)=E (i_ q)) hm (aM.out x.drew r0 aH.drew) (fun C=>?_);refine tkl [0,1,2,3,4] ?_;refine rcl 5 (b5.out x.drew) ?_;rintro e w3 ⟨rfl,aB⟩;have x3:Ext x w3:=by rw[aB];exact(((((Xe x).drew).alloc _).alloc _).alloc _).alloc _
  have bg:=zf aB;have bL:=x3.size;clear aB;refine bk (aM.out _ ((x3.block _ (zd.1 r0).1).trans r0) (aH.trans x3)) fun C=>?_
  refine zV kr ⟨rfl,?_⟩ _;clear C;have aI:=aH.trans x3;have ax:=a2.ext x3;have bI:=(zd.1 a2.line).1;have bO:=ao.size;have a5:∀b,ak.ownBlock=E b->w1.heap.size<=b/\b<x.heap.size:=fun b d=>⟨by
   rcases(a2.own b d).2 with a0|a0
   ·exact a0.elim
   ·exact a0,(a2.grw.type b d).1.lt⟩
  gi_wp2;refine ZT (b6.out x.heap.size) rfl (qW func231 kr rfl) (fun k bC W=>by rintro⟨t,_,_,rfl,_⟩;rfl)
   (LnI w3 w.heap.size g5 (fun b=>ak.ownBlock=E b) (i,o,m) [(r.2,k.over)] (fun e=>-T.dotZ r.1.1 e.loss) k.edges) (fun _ _ _=>False) (fun b=>b=g5\/ak.ownBlock=E b) ?hI ?hIx ?hC ?h0 ?round ?done ?stop
  case hI=>exact fun _ _ _ _ h hk=>h.keep hk
  case hIx=>exact fun _ _ _ _ h _=>h
  case hC=>
   rintro j M A h;refine⟨b4.out x.drew w3 A _ (qk aI h.2.1 (fun b d=>?_)) bg.out h.2.1 (fun b d=>?_),h.lt⟩
   ·rcases d with e|e
    ·omega
    ·have:=a5 b e;omega
   ·show b<x.heap.size
    rcases d with e|e
    ·omega
    ·exact(a5 b e).2
  case h0=>exact⟨qo _,Xj _ _,ak,bB,⟨ax.line,ax.grw,fun b d=>⟨(a2.own b d).1,.inl d⟩,by simpa[lnP]using ax.pts⟩,fun b=>Qb⟩
  case round=>
   rintro l2 j bC M A bH ⟨t0,u0,aW,rfl,ai⟩ ⟨h1,Q,pv,ps,v,h4⟩;have bq:j<k.edges.length:=om;have af:=zg bq;have aY:=zgN (g:=r.1.1) af;rw[aY]at ai;have a7:Ext w A:=qk aI Q (fun b d=>by
    rcases d with e|e
    ·omega
    ·have:=a5 b e;omega)
   have aO:=(b8.out.edge j t0 _ aW af).ext a7;generalize k.edges[j]=ej at *;obtain⟨⟨⟨au,aw,av⟩,⟨aE,aD,aG,aF⟩,J⟩,⟨la,ll,lc⟩⟩:=t0;obtain⟨ub,ua,ul,uc⟩:=u0;have b9:Hid (J=ej.num):=aO.1.2.2;have H3:=zf v;have H4:=zf h4;have b2:=zf af;have aU:=znc [(r.2,k.over)] (fun e=>-T.dotZ r.1.1 e.loss) k.edges j;have bt:ps.length<=1000:=by
    have:=v.pts.1;simp only[qi,QK]at aU;omega
   have bM:=Q.size;simp only[ET.val,NT.fv,WT.sv,ET.lv,WT.val]at ai⊢;clear aW af h4 v aY aU aO;unfold Zz;gi_wp2;refine⟨Xg (((Xe A).alloc _).alloc _),fun A2 ay=>?_⟩;have an:=((zn.alloc w3.heap.size A (cl #[V au aw av,G aE,V aD aG aF,i_ J,V la ll lc] 194)).trans (zn.alloc w3.heap.size _ (cl #[G ub,V ua ul uc] 64))).trans ay;have e0:=ay.block _ _ (Xk A (cl #[V au aw av,G aE,V aD aG aF,i_ J,V la ll lc] 194) (cl #[G ub,V ua ul uc] 64)).1 (.inr rfl);have e1:=ay.block _ _ (Xk A (cl #[V au aw av,G aE,V aD aG aF,i_ J,V la ll lc] 194) (cl #[G ub,V ua ul uc] 64)).2 (.inr rfl);have bx:=an.size;have aq:Hid (∀W,Wr (fun b=>b=g5\/pv.ownBlock=E b) A2 W->W.cell? (y_ A 3)=E (i_ J)/\W.cell? (x_ A 0)=E (G ub)/\W.cell? (x_ A 1)=E (V ua ul uc)):=fun W hW=>by
    have ah:=H3.out;have q0:=hW.some e0 (fun e=>by
     rcases e with e|e
     ·have:=(zd.1 ah.line).1;omega
     ·have:=(ah.grw.type _ e).1.lt;omega)
    have q1:=hW.some e1 (fun e=>by
     rcases e with e|e
     ·have:=(zd.1 ah.line).1;omega
     ·have:=(ah.grw.type _ e).1.lt;omega)
    exact⟨c_ 3 q0,c_ 0 q1,c_ 1 q1⟩
   have bf:=zf (zau A2.drew _ _ (ai.keep (an.trans (zn.drew _ _))));clear ai e0 e1;refine ZW ?_;refine jK (S:=fun W=>W.cell? (y_ A 3)=E (i_ J)/\W.cell? (x_ A 0)=E (G ub)/\W.cell? (x_ A 1)=E (V ua ul uc)) hm (by rfl) (fun⟨a,w,h⟩=>h) (aq.out A2.drew (Xg (Xe A2).drew)) (fun C=>?_);refine tkl [0,1,2,3] ?_;refine rcl 4 bf.out ?_;rintro e L ⟨x4,rfl,y,a4⟩;obtain⟨⟨yb,ya,yl,yc⟩,rfl⟩:=y.shape;have u:=ZG a4;have ad:=(H3.out.keep an).ext u;have F:=zf (zd4 L g5 (i,o,m) pv ps w.heap.size (by have:=u.size;omega) ad.line ad.grw (fun b d=>(ad.own b d).1) bt J ⟨yb,ya,yl,yc⟩ _ y);have ar:=zf y;simp only[WT.val,WT.sv]at F⊢;clear y a4 ad;refine bk (aq.out _ (Xg u)) fun C=>?_
   refine rcl 5 F.out ?_;rintro e z ⟨⟨v6,rfl⟩,I,aZ,X,R,Z⟩;have HF:=zf (LnI.more b2.out Q H3.out H4.out an u b9.out ar.out I X R Z);have be:=aq.out z ((Xg u).trans I);clear I X R Z F;refine bk be fun C=>?_
   exact zV kr HF.out _
  case done=>
   rintro D' M A hD ⟨h1,Q,pv,ps,v,h4⟩ hd;rw[aT]at v;have a7:Ext w A:=qk aI Q (fun b d=>by
    rcases d with e|e
    ·omega
    ·have:=a5 b e;omega)
   have b1:=Q.some ((x3.block _ (zd.1 r1).1).trans r1) (fun e=>by
    rcases e with e|e
    ·omega
    ·have:=a5 _ e;omega)
   obtain⟨qa,qc,bu⟩:=v.grw.shape;subst bu;have a1:=v.lineM (aV.below a7) ⟨(i,o,m),(qa,(ps.map PT.cells).length,qc)⟩ rfl rfl;have HE:=zf (b3.out A a7 _ a1);simp only[LT.val,LT.ov,LT.pv]at HE;have d0:=c_ 0 v.line;have d1:=c_ 1 v.line;simp only[sl3]at d0;have aN:=zf b1;have ap:=zf hd;generalize (ps.map PT.cells).length=bR at *;clear v h4 a1 b1 hd;gi_wp2;refine(zq.2 HE.out).mono ?_;rintro e z ⟨rfl,aP⟩;have x6:=Xf aP;have k2:=(x6.block _ (zd.1 aN.out).1).trans aN.out;have kD:=(x6.block _ (zd.1 ap.out).1).trans ap.out;have bF:=(zd.1 ap.out).1;obtain⟨p2,pw,⟨u0,_,_,_,_⟩,_,_,_,_,_⟩:=jp k2 (i_ 2) (V_) (gS ⟨#[]⟩) (i_ ls.length) (gS ⟨(zab ls (zcn k r)).toArray⟩);have bd:=zf p2;have aK:=zf (pw.some kD (fun e=>om));have bh:=zf (qk (a7.trans x6) pw (fun b d=>om));clear p2 pw d0 d1 aP;gi_wp2;generalize H.setCell _ _ _=bE at *;refine qh aK.out ?_;have aS:=zn.putObj (B:=w.heap.size) (.deferred O) om aK.out rfl;have a6:=aS.block _ _ bd.out (.inr rfl);have j0:=c_ 0 a6;have j1:=c_ 1 a6;have j2:=c_ 2 a6;have j3:=c_ 3 a6;have j4:=c_ 4 a6;exact⟨ag #[i_ 2,V_,gS ⟨#[]⟩,i_ ls.length,gS ⟨(zab ls (zcn k r)).toArray⟩],by simp[results,results97,go_sem,j0,j1,j2,j3,j4],rfl,aS.below bh.out (zh _) (zh _)⟩
  case stop=>exact fun _ _ _ _ _ _ h _=>h.elim
theorem Grw.low{B':Nat}{t:TypeId}{size:Nat}{v:Value}{b:List (List Value)}(h:Grw B t size w v b)(hb:B'<=B):Grw B' t size w v b:=by
 refine⟨?_,h.dig,h.siz⟩;obtain⟨d,l|⟨i,e,g,p,m,o⟩⟩:=h.own;·exact⟨d,Or.inl l⟩
 ·exact⟨d,Or.inr ⟨i,e,g,p,zF hb m,o⟩⟩
theorem Grw.wr{t:TypeId}{size:Nat}{w':H}{v:Value}{d:List (List Value)}{U:Nat->Prop}(h:Grw B t size w v d)(e:Wr U w w')(i:∀b,U b->¬qQ w b t):Grw B t size w' v d:=
 h.same e.size fun g d=>e.block g (h.type g d).1.lt fun e=>i g e (h.type g d).1
def zT (z:Int):ByteArray:=⟨(Lib.itoa z).toArray⟩
def ptS (k:Cor):L_:=k.point.map fun z=>z/(k.over:Int)
theorem zr9(h:Zu D k.point)(ho:k.over≠0):Zu D (ptS k):=by
 intro z d;obtain⟨y,b,rfl⟩:=qP.1 d;exact zgn om (h y b)
def PsI (w1:H)(b0 g:Nat)(vs:ByteArray)(zs:L_)(j:Nat)(M:Nat->Prop)(A:H):Prop:=
 ∃(v:Value) (us:List ByteArray),us=(zs.take j).map zT/\GrJ 9 1 33 (fun v=>#[i_ 1,v,gS vs]) zdh w1 b0 g g v us M A
theorem PsI.keep{w1 A B:H}{b0 g:Nat}{b:ByteArray}{zs:L_}{j:Nat}{M:Nat->Prop}(h:PsI w1 b0 g b zs j M A)(e:zn w1.heap.size A B):PsI w1 b0 g b zs j M B:=by
 have⟨v,i,b,d⟩:=h;exact⟨v,i,b,d.keep e⟩
theorem zhO{K n:Nat}(J:jN D K)(ci:K<=200000){gs given:Nat}{aims:L_}{a:S_}{c:CT}{rv cv:Value}{ets:List ET}{rows:List qO}{rts:List NT}{ls:List Zy}{lts:List LT}(hS:SrM w B gs n given aims a c rv cv k ets rows rts ls lts)(i:Fit D n aims k)(cu:ls.length<=20000)(cw:∀l∈ls,zaO K l)(hB:zaO K (endG aims k))(aE:Tab w):
 C_ 48 #[p_ gs 0] w fun e w'=>∃p:S_,e=Xa (ag #[i_ 1,sl3 p,gS (zT (T.dotZ aims (ptS k))),i_ (ls.length:Int),gS ⟨(zab ls (endG aims k)).toArray⟩])/\Grw w.heap.size 9 1 w' (sl3 p) (((ptS k).map zT).map zdh)/\b_ w w':=by
 obtain⟨i0,cq,cE,cF,cG⟩:=Zn zkN;have a0:=hS.cor;have bd:=a0.len;have cp:=(zd.1 hS.box).1;have cW:=J.k;have cN:=zf hS;have bP:=zf (fun W=>zhE c W);have bK:=zf (fun W=>zkF c ((0:Nat):Int) W);have bM:=zf (fun b=>zju J i c ets bd 0 (qo _) b);have bJ:=zf (fun(w0 w1 A:H) (U:Nat->Prop) o hw1 h hU=>zkG (r:=0) (w0:=w0) (w1:=w1) (A:=A) (U:=U) a0 o hw1 h hU);have aU:=zf (fun W (o:Ext w W)=>zoW K om W c k.over ((a0.over).below o) i.pos k.point ((a0.point).ext o) (by rw[i.plen];exact i.n4) i.pointD J.one (qu i.overD J.one));have aC:=zr9 i.pointD i.pos;have aD:(ptS k).length=n:=by unfold ptS;rw[zm,i.plen]
 have bR:Hid (k.point.map (fun cM=>cM/(k.over:Int))=ptS k):=rfl;rw[bR.out]at aU;have bY:=zf (fun W (o:Ext w W) ab C=>zjp K om W (sl3 a) ab aims (ptS k) ((hS.ord).ext o) C (by rw[i.aim,aD]) (by rw[i.aim];exact i.n4) i.aimD aC J.one J.one J.two);have bG:=zf (fun(W:H) (o:Ext w W) (t':LT) (hL:za7 W t' (endG aims k)) pa pl pc u=>zkP ci (hS.ext o) cu cw t' (endG aims k) hL hB (aE.below o) 1 pa pl pc u);have cx:=a0.over;have bN:=zf a0;have cX:=i.n4;have cV:=i.elen;obtain⟨⟨aa,al,ac⟩,⟨L,P,N⟩,⟨pa,pl,pc⟩,⟨cg,el,ec⟩⟩:=c;have b9:=hS.box;obtain⟨c9,cb,ca⟩:=a;simp only[CT.val,sl3,jh]at *;obtain⟨aK,x0⟩:=new1 w (cl #[i_ 0,V_,gS ⟨#[]⟩,i_ 0,gS ⟨#[]⟩] 35);have ad:Hid (∀t,Ext w t->(t.cell? (Xd gs 4 O)=E (V aa al ac)/\t.cell? (Xd gs 5 O)=E (V L P N)/\t.cell? (Xd gs 6 O)=E (V pa pl pc)/\t.cell? (Xd gs 7 O)=E (V cg el ec))/\t.cell? (Xd gs 0 O)=E (V c9 cb ca)):=fun t o=>
  have a3:=(o.block _ cp).trans b9;⟨⟨c_ 4 a3,c_ 5 a3,c_ 6 a3,c_ 7 a3⟩,c_ 0 a3⟩
 obtain⟨⟨c4,c5,c6,c7⟩,-⟩:=ad.out _ x0;clear hS a0 b9;refine Q0 func48 ntmps48 (h:=?_);gi_wp2;generalize H.alloc _ _=w0 at *;refine(zq.2 (bP.out w0)).mono ?_;rintro e t ⟨rfl,b8⟩;have xV:=Xf b8;have n5:=zC t (cl #[V L P N,V_] 109);have x1:Ext w0 (t.alloc (cl #[V L P N,V_] 109)):=xV.alloc _;have cY:=(zd.1 aK).1;have d7:=xV.size;obtain⟨⟨cc,cd,ce,cf⟩,-⟩:=ad.out _ (x0.trans x1);clear c4 c5 c6 c7 b8;gi_wp2;generalize co:t.heap.size=g5 at *;generalize H.alloc _ _=w1 at *;clear co xV;have bB:=x0.trans x1;have m1:=(x1.block _ (zd.1 aK).1).trans aK;have cP:=(zd.1 n5).1;have cj:LnM w1 w.heap.size w1.heap.size g5 (fun _=>False) (L,P,N) [] (V_) []:=⟨n5,Xt _ _ _ _,(fun b d=>by cases d),⟨rfl,fun da p a3 hp=>by simp at hp⟩⟩;have aS:=bK.out w1;simp only[Int.natCast_zero]at aS;refine(zq.2 aS).mono ?_;rintro e w3 ⟨rfl,aH⟩;have x3:Ext w1 w3:=by rw[aH];exact((((Xe w1).alloc _).alloc _).alloc _).alloc _
 have c1:=zf aH;have cZ:=x3.size;have aP:=bB.trans x3;have d9:=bB.size;clear aH cc cd ce cf;gi_wp2;refine ZT (bM.out w1.heap.size) rfl (qW func231 kr rfl) (fun k a4 W=>by rintro⟨ak,ab,_,rfl,_⟩;rfl)
  (LnI w3 w.heap.size g5 (fun _=>False) (L,P,N) [] (fun e=>(qT aims e.loss).getD 0 0) k.edges) (fun _ _ _=>False) (fun b=>b=g5) ?hI ?hIx ?hC ?h0 ?round ?done ?stop
 case hI=>exact fun _ _ _ _ h hk=>h.keep hk
 case hIx=>exact fun _ _ _ _ h _=>h
 case hC=>
  rintro j M A h;refine⟨bJ.out w1 w3 A _ (qk aP h.2.1 (fun b d=>?_)) c1.out h.2.1 (fun b d=>?_),h.lt⟩
  ·rcases d with e|e
   ·omega
   ·exact e.elim
  ·rcases d with e|e
   ·omega
   ·exact e.elim
 case h0=>
  have az:=cj.ext x3;exact⟨qo _,Xj _ _,V_,[],⟨az.line,az.grw,(fun b d=>by cases d),by simpa[lnP]using az.pts⟩,fun b=>by simp[Value.ownBlock]⟩
 case round=>
  rintro l2 j a4 M A cr ⟨t0,u0,bn,rfl,ai⟩ ⟨h1,h2,pv,ps,I,h4⟩;have ct:j<k.edges.length:=om;have ah:=zg ct;have bw:=ziN (aims:=aims) (r:=0) ah;rw[bw]at ai;have F:Ext w A:=qk aP h2 (fun b d=>by
   rcases d with e|e
   ·omega
   ·exact e.elim)
  have b3:=(bN.out.edge j t0 _ bn ah).ext F;generalize k.edges[j]=ej at *;obtain⟨⟨⟨au,aw,av⟩,⟨aM,aL,aO,aN⟩,a9⟩,⟨la,ll,lc⟩⟩:=t0;obtain⟨R,Q,Y,X⟩:=u0;have bO:Hid (a9=ej.num):=b3.1.2.2;have H3:=zf I;have H4:=zf h4;have bF:=zf ah;have be:=znc [] (fun e=>(qT aims e.loss).getD 0 0) k.edges j;have cy:ps.length<=1000:=by
   have:=I.pts.1;simp only[QK]at be;omega
  have cB:=h2.size;have aY:=zf ai;simp only[ET.val,NT.fv,WT.sv,ET.lv,WT.val]at ai⊢;clear bn ah h4 I bw be b3 ai;unfold Zz;gi_wp2;refine⟨Xg (((Xe A).alloc _).alloc _),fun A2 a1=>?_⟩;have y:=((zn.alloc w3.heap.size A (cl #[V au aw av,G aM,V aL aO aN,i_ a9,V la ll lc] 194)).trans (zn.alloc w3.heap.size _ (cl #[G R,V Q Y X] 64))).trans a1;have e0:=a1.block _ _ (Xk A (cl #[V au aw av,G aM,V aL aO aN,i_ a9,V la ll lc] 194) (cl #[G R,V Q Y X] 64)).1 (.inr rfl);have e1:=a1.block _ _ (Xk A (cl #[V au aw av,G aM,V aL aO aN,i_ a9,V la ll lc] 194) (cl #[G R,V Q Y X] 64)).2 (.inr rfl);have bi:=y.size;have d3:=c_ 3 e0;have b0:=c_ 0 e1;have b1:=c_ 1 e1;have af:=H3.out.keep y;have ao:=zf (zd4 A2 g5 (L,P,N) pv ps w.heap.size om af.line af.grw (fun b d=>(af.own b d).1) cy a9 ⟨R,Q,Y,X⟩ _ (aY.out.keep y));simp only[WT.val,WT.sv]at ao;clear e0 e1 af;refine ZW ?_;refine Qt (by rfl) (fun⟨a,w,h⟩=>h) ?_;go_wp2_with fail
  refine ao.out.mono ?_;rintro e A6 ⟨⟨_,rfl⟩,bs,_,b5,b4,bg⟩;have HF:=zf (LnI.more bF.out h2 H3.out H4.out y (Xe A2) bO.out (aY.out.keep y) bs b5 b4 bg);clear bs b5 b4 bg ao b0 b1 d3;go_wp2_with fail
  exact HF.out
 case done=>
  rintro D1 M A cR ⟨h1,h2,pv,ps,I,h4⟩ ba;rw[bd]at I;have F:Ext w A:=qk aP h2 (fun b d=>by
   rcases d with e|e
   ·omega
   ·exact e.elim)
  have bz:=h2.some ((x3.block _ (zd.1 m1).1).trans m1) (fun e=>by
   rcases e with e|e
   ·omega
   ·exact e.elim)
  obtain⟨qa,qc,cz⟩:=I.grw.shape;subst cz;have bL:=zf (I.lineM (cx.below F) ⟨(L,P,N),(qa,(ps.map PT.cells).length,qc)⟩ rfl rfl);have an:=zf I.line;simp only[sl3]at an;generalize (ps.map PT.cells).length=db at *;have aV:=zf bz;have aQ:=zf ba;obtain⟨⟨c4,c5,c6,c7⟩,-⟩:=ad.out _ F;have cB:=F.size;have d6:=h2.size;clear I h4 bz ba;gi_wp2;refine(zq.2 (aU.out A F)).mono ?_;rintro e A1 ⟨⟨za,zl,zc⟩,rfl,aJ,b6⟩;have y1:=Xf b6;obtain⟨-,c0⟩:=ad.out _ (F.trans y1);clear c4 c5 c6 c7 b6;simp only at aJ;have aq:=zf aJ;clear aJ;gi_wp2;refine(zq.2 (bY.out A1 (F.trans y1) _ aq.out)).mono ?_;rintro e A2 ⟨⟨_,_,_,_⟩,rfl,br,b7⟩;have y2:=Xf b7;have cD:=((zcC i.aimD aC).mono (zZ _ (by have:=i.aim;omega)):Lim (gB D) _).lt J.gain;have ap:=zf (zbT K om A2 _ _ br cD (aE.below ((F.trans y1).trans y2)));simp only[WT.val,WT.sv]at ap⊢;clear c0 br b7;gi_wp2;refine(zq.2 ap.out).mono ?_;rintro e m ⟨rfl,aA⟩;have y3:=(y1.trans y2).trans (Xf aA);have aZ:=zf (aq.out.ext (y2.trans (Xf aA)));obtain⟨u,hvs⟩:∃u,ByteArray.mk (Lib.itoa (T.dotZ aims (ptS k))).toArray=u:=⟨_,rfl⟩;have bZ:Hid (zT (T.dotZ aims (ptS k))=u):=hvs;rw[hvs];obtain⟨n7,n8⟩:=Xk m (cl #[i_ 1,V_,gS u] 33) (cl #[V za zl zc] 100);have y5:Ext m ((m.alloc (cl #[i_ 1,V_,gS u] 33)).alloc (cl #[V za zl zc] 100)):=((Xe m).alloc _).alloc _;have d2:=y3.size;clear hvs aA ap;gi_wp2;refine(zq.2 (zdQ za zl zc _)).mono ?_;rintro e w5 ⟨rfl,rfl⟩;rw[zL];gi_wp2;generalize (m.alloc (cl #[i_ 1,V_,gS u] 33)).alloc (cl #[V za zl zc] 100)=w5 at *;have d4:=(zd.1 n8).1;obtain⟨ts,bp,aF,bq⟩:=aZ.out;obtain⟨_,_,hE⟩:=aF.shape;rw[zm,qp]at hE;obtain⟨rfl,rfl,rfl⟩:=hE;rw[aD]at bp;have bT:=zf aF;have bW:=zf bq;have bV:=zf bp;clear aF bq aZ aq;have bA:=F.trans y3;refine ZT (JO ts za zc (m.heap.size+1) om) rfl (qW func179 kr rfl) (fun k a4 W=>by rintro⟨ak,_,rfl⟩;rfl)
   (PsI w5 w.heap.size m.heap.size u (ptS k)) (fun _ _ _=>False) (fun b=>b=m.heap.size) ?hI2 ?hIx2 ?hC2 ?h02 ?round2 ?done2 ?stop2
  case hI2=>exact fun k M A B h hk=>h.keep hk
  case hIx2=>exact fun _ _ _ _ h _=>h
  case hC2=>
   rintro j M2 q ⟨a4,s,_,g2⟩;have o:=qk y5 g2.1 (fun b d=>by rcases d with e|e<;>omega);exact⟨⟨c_ 0 (g2.1.some n8 (fun e=>by rcases e with e|e<;>omega)),(bT.out.ext o).recs⟩,g2.lt⟩
  case h02=>exact⟨V_,[],rfl,GrJ.start n7⟩
  case round2=>
   rintro l2 j a4 M2 q cr ⟨ak,bo,rfl⟩ ⟨a4,s,a2,g⟩;have bc:j<(ptS k).length:=om;have aI:=zg bc;have a8:=qk y5 g.1 (fun b d=>by rcases d with e|e<;>omega);have bt:=(bW.out j ak _ bo aI).below a8;have cH:=(aC _ (zJ bc)).lt J.one;generalize (ptS k)[j]=zj at *;have cC:s.length=j:=by rw[a2,zm,zX];omega
   have bj:s ++ [zT zj]=((ptS k).take (j+1)).map zT:=by rw[a2,ZB,aI];simp
   have aW:=zf bj;have d8:s.length<=2000:=om;obtain⟨v,x,rfl⟩:=g.2.2.1.shape;rw[zm]at g;have bI:=zf g;have d5:=g.1.size;have cQ:=(zd.1 g.2.1).1;obtain⟨R,Q,Y,X⟩:=ak;have c2:=zf bt;simp only[WT.val,WT.sv];clear bo bj a2 cC bt aI;unfold Zz;gi_wp2;refine⟨Xg ((Xe q).alloc _),fun z a1=>?_⟩;have y:=(zn.alloc w5.heap.size q (cl #[G R,V Q Y X] 64)).trans a1;have e0:=a1.block _ _ (zC q (cl #[G R,V Q Y X] 64)) (.inr rfl);have e1:=y.block _ _ g.2.1 (.inr rfl);have bi:=a1.size;simp only[zL]at bi;have G2:=g.keep y;have bu:=qk (bA.trans y5) (g.1.keep y) (fun b d=>by rcases d with e|e<;>omega);have aG:∀b,(V v s.length x).ownBlock=E b->b<q.heap.size/\b≠m.heap.size:=fun b d=>⟨(g.2.2.1.type b d).1.lt,(g.2.2.2.1 b d).1⟩
   have a5:=zf (fun W (hW:Wr (fun b=>(V v s.length x).ownBlock=E b) z W)=>
    have q0:=hW.some e0 (fun e=>by have:=aG _ e;omega);have q1:=hW.some e1 (fun e=>by have:=aG _ e;omega);Xc (c_ 1 q1) (Xc (c_ 0 q0) (c_ 1 q0)))
   have bH:=zf (fun W (hW:Wr (fun b=>(V v s.length x).ownBlock=E b) z W)=>(Xh (hW.some e1 (fun e=>by have:=aG _ e;omega)):W.frozen? (y_ m 1)=false));have aX:=zf (fun W (o:Ext z W)=>zbT K om W _ zj ((c2.out.keep y).below o) cH ((aE.below bu).below o));have aT:=zf (fun(A4 Z:H) (g8 ar:Nat) hx4 own grow ae dig=>bI.out.more (A4:=A4) (A5:=Z) (g5:=g8) (cap5:=ar) (j:=1) (u:=zT zj) y hx4 om own rfl grow ae dig rfl);simp only[WT.val,WT.sv]at aX;clear e0 e1 g;refine ZW ?_;refine zav 7 (S:=fun W=>W.cell? (y_ m 1)=E (V v s.length x)/\W.cell? (y_ q 0)=E (G R)/\W.cell? (y_ q 1)=E (V Q Y X)) hm (by rfl) (fun⟨a,w,h⟩=>h) (a5.out z (Xj _ _)) (h:=fun ay=>?_);refine tkv 0 ?_;refine tkv 1 ?_;refine tkv 2 ?_;refine rcl 3 (aX.out _ (Xe z).drew) ?_;rintro e A6 ⟨rfl,cm⟩;have x6:=ZG cm;obtain⟨pb,hpb⟩:∃pb,ByteArray.mk (Lib.itoa zj).toArray=pb:=⟨_,rfl⟩;have bh:zT zj=pb:=hpb;rw[hpb];rw[bh]at aT aW;clear hpb bh;have x7:Ext z (A6.alloc (cl #[gS pb] 9)):=x6.alloc _;have bf:=(G2.2.2.1.ext x7).own;rw[zm]at bf;have cn:=(G2.2.2.1.ext x7).dig;refine bk (a5.out _ (Xg x6)) fun ay=>?_
   refine rd1 4 fun K hK=>?_;go_simp;refine hK.out _ _ (a5.out _ (Xg x7)) (h:=fun ay=>?_);clear hK K;refine rd1 5 fun K hK=>?_;refine QM _ rfl (.tmp 44) (.tmp 47) 30 rfl w.heap.size 9 i0 (gS ⟨#[]⟩) 1 16 underlying30 cq cE cF cG rfl dc (V v s.length x) s.length (s.map zdh).flatten rfl bf (y_ A6 0) 1 1 [gS pb] rfl rfl (rec_new A6 [gS pb] 9) (by intro ab C;simp only[zI,zY,Zp]at C;subst C;rfl) om mo om (by have h1:=x7.size;have h9:=bu.size;omega) (A6.heap.size+1) sp (by intro ab C;simp[Value.cells]at C;subst C;intro n e;cases e) (by intro ab C;simp only[zI,zY,Zp]at C;subst C;intro n e;cases e) cn ?_;intro g8 ar Z bx ax ae cK b2;have x8:=(Xg x7).trans (Qh ax (fun cO hg=>hg));have HF:=zf (aT.out _ Z g8 ar (Xg x7) bx ax (ae.imp id (fun e=>so)) b2);have s8:=(a5.out _ x8).1;clear bx ax ae cK b2;refine hK.out _ _ (a5.out _ x8) (h:=fun ay=>?_);clear hK K;refine tkv 6 ?_;have f8:=bH.out _ x8;refine zV kr (zbP (h:=?_)) _;go_simp;obtain⟨cL,M',m2,m3⟩:=HF.out;exact⟨(Xg x7).trans cL,M',⟨_,_,aW.out,m2⟩,m3⟩
  case done2=>
   rintro D2 M2 q cS ⟨a4,s,a2,g⟩ bb;have a8:=qk y5 g.1 (fun b d=>by rcases d with e|e<;>omega);have bv:=bA.trans a8;have aj:=y3.trans a8;have ck:s=(ptS k).map zT:=by rw[a2,bV.out,<-aD,Zx]
   subst ck;have bU:=zf g.2.2.1;obtain⟨v,x,rfl⟩:=g.2.2.1.shape;generalize (((ptS k).map zT).map zdh).length=vn at *;have v0:=c_ 0 g.2.1;have v1:=c_ 1 g.2.1;have v2:=c_ 2 g.2.1;have lb:=(aj.block _ (zd.1 an.out).1).trans an.out;have d0:=c_ 0 lb;have d1:=c_ 1 lb;have ch:=(zd.1 aQ.out).1;have cA:=(zd.1 aV.out).1;have HE:=zf (bG.out q bv _ (bL.out.ext aj) v vn x u);simp only[LT.val,LT.ov,LT.pv]at HE;have bS:=zf ((aj.block _ cA).trans aV.out);have bD:=zf ((aj.block _ ch).trans aQ.out);have bC:=zf bb;have cT:=a8.size;clear g bb lb a2;gi_wp2;refine(zq.2 HE.out).mono ?_;rintro e Z ⟨rfl,a6⟩;have x8:=Xf a6;have k2:=J8 bS.out a6;have cI:=J8 bD.out a6;have cJ:=J8 bC.out a6;obtain⟨p2,pw,⟨u0,_,_,_,_⟩,_,_,_,_,_⟩:=jp k2 (i_ 1) (V v vn x) (gS u) (i_ ls.length) (gS ⟨(zab ls (endG aims k)).toArray⟩);have bQ:=zf p2;have bE:=zf (pw.some cI (fun e=>om));have aR:=zf (pw.some cJ (fun e=>om));have c3:=zf (qk (bv.trans x8) pw (fun b d=>om));have bX:=zf ((bU.out.ext x8).wr pw (fun b d=>by
    rw[d];exact fun ht=>absurd (ht.one ⟨_,_,k2⟩) dc))
   clear p2 pw d0 d1 v0 v1 v2 a6;gi_wp2;generalize H.setCell _ _ _=c8 at *;refine qh aR.out ?_;have cU:D1≠D2:=om;have kz:(c8.putObj D2 (.deferred O)).heap[D1]? =E (.deferred (E [])):=(Z4 om).trans bE.out;refine qh kz ?_;have aB:=(zn.putObj (B:=w.heap.size) (.deferred O) om aR.out rfl).trans (zn.putObj (.deferred O) om kz rfl);have a7:=aB.block _ _ bQ.out (.inr rfl);have j0:=c_ 0 a7;have j1:=c_ 1 a7;have j2:=c_ 2 a7;have j3:=c_ 3 a7;have j4:=c_ 4 a7;exact⟨ag #[i_ 1,V v vn x,gS u,i_ ls.length,gS ⟨(zab ls (endG aims k)).toArray⟩],by simp[results,results48,go_sem,j0,j1,j2,j3,j4],(v,vn,x),by rw[bZ.out],bX.out.keep aB,aB.below c3.out (zh _) (zh _)⟩
  case stop2=>exact fun _ _ _ _ _ _ h _=>h.elim
 case stop=>exact fun _ _ _ _ _ _ h _=>h.elim
section

variable {w:World} {B gs n given:Nat} {aims:L_} {a:S_} {c:CT} {rv cv:Value} {k:Cor} {ets:List ET} {rows:List qO} {rts:List NT} {ls:List Zy} {lts:List LT}
theorem SrM.moved (h:SrM w B gs n given aims a c rv cv k ets rows rts ls lts){c':CT}{e:Cor}{d:List ET}(g:JF w aims c' e d):
 SrM ((((w.setCell (Xd gs 4 O) (sl3 c'.a)).setCell (Xd gs 5 O) (sl3 c'.o)).setCell (Xd gs 6 O) (sl3 c'.p)).setCell (Xd gs 7 O) (sl3 c'.e)) B gs n given aims a c' rv cv e d rows rts ls lts/\Wr (fun b=>b=gs) w ((((w.setCell (Xd gs 4 O) (sl3 c'.a)).setCell (Xd gs 5 O) (sl3 c'.o)).setCell (Xd gs 6 O) (sl3 c'.p)).setCell (Xd gs 7 O) (sl3 c'.e)):=by
 have e:Wr (fun b=>b=gs) w ((((w.setCell (Xd gs 4 O) (sl3 c'.a)).setCell (Xd gs 5 O) (sl3 c'.o)).setCell (Xd gs 6 O) (sl3 c'.p)).setCell (Xd gs 7 O) (sl3 c'.e)):=(((zv (U:=fun k=>k=gs) rfl _).trans (zv (U:=fun k=>k=gs) rfl _)).trans (zv (U:=fun k=>k=gs) rfl _)).trans (zv (U:=fun k=>k=gs) rfl _);have l:=h.off;refine⟨⟨?_,h.old,h.ord.wr e (fun b d=>(l b d).1.1),g.wr e (fun b d=>(l b d).1),h.rlen,h.rgrw.same e.size (fun g i=>e.block g (h.rgrw.type g i).1.lt (h.rvgs g i).1),fun o t r m p=>(h.row o t r m p).wr e (fun b d=>(l b d).1.1),h.llen,h.lgrw.same e.size (fun g i=>e.block g (h.lgrw.type g i).1.lt (h.cvgs g i).1),fun o t i m g=>(h.line o t i m g).wr e (fun b d=>⟨(l b d).2,(l b d).1.1.2⟩)⟩,e⟩;have d:=h.box;exact Xl (Xl (Xl (Xl d)))
end

end

section
open Go.RowKit
attribute [local go_sem] zD zW qJ
section

variable {w w':World} {U:Nat->Prop} {B gs n given:Nat} {aims:L_} {a:S_} {c:CT} {rv cv:Value} {k:Cor} {ets:List ET} {rows:List qO} {rts:List NT} {ls:List Zy} {lts:List LT}
theorem SrM.apart (h:SrM w B gs n given aims a c rv cv k ets rows rts ls lts)(d:Wr U w w')(l:∀b,U b->Off w b)(q:∀b,U b->¬qQ w b 106/\¬qQ w b 109)(e:¬U gs):SrM w' B gs n given aims a c rv cv k ets rows rts ls lts:=
 ⟨d.some h.box e,h.old,h.ord.wr d (fun b e=>(l b e).1.1),h.cor.wr d (fun b e=>(l b e).1),h.rlen,h.rgrw.same d.size (fun g i=>d.block g (h.rgrw.type g i).1.lt (fun m=>(q g m).1 (h.rgrw.type g i).1)),fun p t s o r=>(h.row p t s o r).wr d (fun b e=>(l b e).1.1),h.llen,h.lgrw.same d.size (fun g i=>d.block g (h.lgrw.type g i).1.lt (fun m=>(q g m).2 (h.lgrw.type g i).1)),fun p t i o g=>(h.line p t i o g).wr d (fun b e=>⟨(l b e).2,(l b e).1.1.2⟩)⟩
end
theorem zsa {A:H}{g:Nat}{d l:Int}{e i:Nat}{m:A_}{y z:ByteArray}(h:A.heap[g]? =E (cl #[i_ d,V m e i,gS y,i_ l,gS z] 35)):∀b,b=g->Off A b/\¬qQ A b 106/\¬qQ A b 109:=fun b i=>by
 have d:qQ A b 35:=by rw[i];exact⟨_,_,h⟩
 exact⟨⟨⟨⟨fun e=>absurd (e.one d) dc,by rw[i];exact zE h (by intro u i;simp at i;rcases i with rfl|rfl|rfl|rfl|rfl<;>(intro n e;cases e))⟩,fun e=>absurd (e.one d) dc⟩,fun e=>absurd (e.one d) dc⟩,fun e=>absurd (e.one d) dc,fun e=>absurd (e.one d) dc⟩
def SetQ (P:Cor->Prop)(B gs n given:Nat)(aims:L_)(a:S_)(rv cv:Value)(rows:List qO)(rts:List NT)(ls:List Zy)(lts:List LT)(res:SetR)(e:Ending)(w':H):Prop:=
 match res with
 |.inl k'=>e=Xa (tp #[ag #[i_ 0,V_,gS ⟨#[]⟩,i_ 0,gS ⟨#[]⟩],G false])/\P k'/\∃c' ets',SrM w' B gs n given aims a c' rv cv k' ets' rows rts ls lts
 |.inr (.inl (k',r))=>e=Xa (tp #[ag #[i_ 2,V_,gS ⟨#[]⟩,i_ (ls.length:Int),gS ⟨(zab ls (zcn k' r)).toArray⟩],G true])
 |.inr (.inr _)=>e=Xa (tp #[ag #[i_ 3,V_,gS ⟨#[]⟩,i_ (ls.length:Int),gS ⟨#[]⟩],G true])
theorem zpw {W:H}{aims:L_}{a:S_}{d:Option Cor}{e:Ending}(h:ExR W aims a d e):∃q:CT,e=Xa (tp #[q.val,G d.isSome])/\∀b,d=E b->∃g,JF W aims q b g:=by
 cases d with
 |none=>
  obtain⟨q,rfl⟩:=h;exact⟨q,rfl,fun b d=>by cases d⟩
 |some g=>
  obtain⟨q,g,rfl,hm,_⟩:=h;exact⟨q,rfl,fun b d=>by cases d;exact⟨g,hm⟩⟩
theorem znd {B:H}{g:Nat}{a b c d:Value}(h:B.heap[g]? =E (cl #[a,b,c,d] 114))(l:ZM a:=by intro n e;cases e)(hb:ZM b:=by intro n e;cases e)(m:ZM c:=by intro n e;cases e)(o:ZM d:=by intro n e;cases e)(a' b' c' d':Value):
 ((((B.setCell (Xd g 0 O) a').setCell (Xd g 1 O) b').setCell (Xd g 2 O) c').setCell (Xd g 3 O) d').heap[g]? =E (cl #[a',b',c',d'] 114)/\Wr (fun k=>k=g) B ((((B.setCell (Xd g 0 O) a').setCell (Xd g 1 O) b').setCell (Xd g 2 O) c').setCell (Xd g 3 O) d')/\(∀k,k=g->(¬qQ B k 64/\qK B k)/\¬qQ B k 194)/\
 (B.cell? (Xd g 0 O)=E a/\B.cell? (Xd g 1 O)=E b/\B.cell? (Xd g 2 O)=E c/\B.cell? (Xd g 3 O)=E d)/\B.frozen? (Xd g 0 O)=false/\B.frozen? (Xd g 1 O)=false/\B.frozen? (Xd g 2 O)=false/\B.frozen? (Xd g 3 O)=false:=
 ⟨Xl (Xl (Xl (Xl h))),(((zv (U:=fun k=>k=g) rfl _).trans (zv (U:=fun k=>k=g) rfl _)).trans (zv (U:=fun k=>k=g) rfl _)).trans (zv (U:=fun k=>k=g) rfl _),(fun k g=>by
  have i:qQ B k 114:=by rw[g];exact⟨_,_,h⟩
  exact⟨⟨fun e=>absurd (e.one i) dc,by rw[g];exact zE h (by intro u g;simp at g;rcases g with rfl|rfl|rfl|rfl;exact l;exact hb;exact m;exact o)⟩,fun e=>absurd (e.one i) dc⟩),⟨c_ 0 h,c_ 1 h,c_ 2 h,c_ 3 h⟩,Xh h,Xh h,Xh h,Xh h⟩
theorem zhP (aims:L_)(rows:List qO)(f:Nat)(c:Cor):ZV aims rows f c=match Qv c rows with
 |none=> .inl c
 |some r=>match Qe aims c r.1 r.2 with
  |none=> .inr (.inl (c,r))
  |some c'=>if f=0 then .inr (.inr ())else ZV aims rows (f-1) c':=by
 cases f with
 |zero=>rw[ZV];rfl
 |succ f=>rw[ZV];rfl
theorem Wr.after {U d:Nat->Prop}{w A A':H}(h:Wr U w A)(h2:Wr d A A')(i:∀b,d b->U b\/w.heap.size<=b):Wr U w A':=
 ⟨h2.os.trans h.os,h2.tape.trans h.tape,h2.output.trans h.output,zF h.size h2.size,fun b d e=>(h2.block b (zK d h.size) (fun g=>by
  rcases i b g with q|q
  ·exact e q
  ·omega)).trans (h.block b d e)⟩
theorem zoa {D K n:Nat}(X:jN D K)(ab:K<=200000){w:H}{B gs given:Nat}{aims:L_}{a:S_}{c:CT}{rv cv:Value}{k:Cor}{ets:List ET}{rows:List qO}{rts:List NT}{ls:List Zy}{lts:List LT}(g:SrM w B gs n given aims a c rv cv k ets rows rts ls lts)
 (P:Cor->Prop) (h:∀k,P k->Fit D n aims k) (m:∀k r d,P k->Qv k rows=E r->Qe aims k r.1 r.2=E d->P d) (i:∀k r,P k->Qv k rows=E r->Qe aims k r.1 r.2=O->zaO K (zcn k r)) (u:P k)
 (y:rows.length<=1000) (x:∀r∈rows,r.1.1.length=n/\Jm D r.1) (ah:ls.length<=20000) (q:∀l∈ls,zaO K l) (z:∀W,Wr (fun b=>b=gs) w W->Tab W) (pivots:Nat) (o:pivots<9223372036854775808):
 C_ 46 #[pn (E (Xd gs 0 O)),i_ (pivots:Int)] w fun e w'=>SetQ P B gs n given aims a rv cv rows rts ls lts (ZV aims rows pivots k) e w'/\Wr (fun b=>b=gs) w w':=by
 have o:=(zd.1 g.box).1;obtain⟨s,t⟩:=new1 w (cl #[i_ 0,V_,gS ⟨#[]⟩,i_ 0,gS ⟨#[]⟩] 35);have p:=zf (g.ext t);have o:=zf h;have a0:=zf m;have Z:=zf i;have Y:=zf x;have a5:=zf z;have a3:=zf q;obtain⟨h,q,m⟩:=a;refine zcW func46 ntmps46 (h:=?_);gi_wp2;generalize World.alloc _ _=x at *;have g:=(zd.1 s).1;gi_loopw [6] (fun g wr=>∃(e:Nat) (i:CT) (d:Cor) (J:List ET),e<=pivots/\g=i_ (e:Int)/\P d/\SrM wr B gs n given aims (h,q,m) i rv cv d J rows rts ls lts/\Wr (fun b=>b=gs) x wr/\Hid (ZV aims rows pivots k=ZV aims rows (pivots-e) d)) (fun g _=>pivots-(intOf g).toNat)
 case atStart=>exact⟨0,c,k,ets,qo _,rfl,u,p.out,Xj _ _,rfl⟩
 case round=>
  obtain⟨e,i,d,J,_,rfl,p,g,a6,Q⟩:=hrel;have R:=o.out d p;have o:=zf (zjB X wr gs (h,q,m) n given rv cv i g.box aims d J g.cor R rows rts g.rowsM y Y.out);have N:=zf g;have m4:=a6.some s (fun e=>om);have a9:=(Xg t).trans a6;have g:=a6.size;cases hbk:Qv d rows with
  |none=>
   rw[hbk]at o;have L:Hid (ZV aims rows pivots k= .inl d):=by rw[Hid,Q.out,zhP,hbk];try rfl
   gi_wp2;refine(zq.2 o.out).mono ?_;rintro e F ⟨⟨⟨⟨fa,t,s⟩,⟨y,x,C,z⟩,u⟩,rfl⟩,q⟩;simp only[NT.val,NT.fv,WT.sv];have I:Ext wr (F.alloc (cl #[V fa t s,G y,V x C z,i_ u] 106)):=(Xf q).alloc _;have k4:=(I.block _ (zd.1 m4).1).trans m4;obtain⟨p2,pw,⟨t0,t1,t2,t3,t4⟩,f0,f1,f2,f3,f4⟩:=jp k4 (i_ 0) (V_) (gS ⟨#[]⟩) (i_ 0) (gS ⟨#[]⟩);have h:=zf p2;have a4:=zf (a9.after ((Xg (T:=fun b=>b=w.heap.size) I).trans pw) (fun b m=> .inr om));have g:=zsa k4;have a1:=zf ((N.out.ext I).apart pw (fun b m=>(g b m).1) (fun b m=>(g b m).2) (fun e=>om));gi_wp2;have j0:=c_ 0 h.out;have j1:=c_ 1 h.out;have j2:=c_ 2 h.out;have j3:=c_ 3 h.out;have j4:=c_ 4 h.out;exact zH (v:=tp #[ag #[i_ 0,V_,gS ⟨#[]⟩,i_ 0,gS ⟨#[]⟩],G false]) (by simp[results,results46,go_sem,j0,j1,j2,j3,j4]) rfl ⟨by rw[L.out];exact⟨rfl,p,i,J,a1.out⟩,a4.out⟩
  |some r=>
   have g:=zf hbk;have ae:=zf (Z.out d r p hbk);have af:=zf (fun g=>a0.out d r g p hbk);rw[hbk]at o;have a8:Hid (ZV aims rows pivots k=match Qe aims d r.1 r.2 with
    |none=> .inr (.inl (d,r))
    |some p=>if pivots-e=0 then .inr (.inr ())else ZV aims rows (pivots-e-1) p):=by rw[Hid,Q.out,zhP,hbk];try rfl
   gi_wp2;refine(zq.2 o.out).mono ?_;rintro o F ⟨⟨a1,Q,a0,o,rfl⟩,q⟩;have p:=zx o;have Z:=N.out.row a1 Q r a0 o;obtain⟨a1,a0⟩:=Y.out r p;have a2:=Xf q;have a7:Hid (∀W,Ext wr W->C_ 96 #[i.val,Q.val] W fun e w'=>∃q:CT,e=Xa (tp #[q.val,G (Qe aims d r.1 r.2).isSome])/\(∀g,Qe aims d r.1 r.2=E g->∃p,JF w' aims q g p)/\b_ W w'):=fun W o=>by
    refine(zhH X W i Q aims d J (N.out.cor.ext o) R r (Z.ext o) a1 a0).mono ?_;rintro e w' ⟨J,Y⟩;obtain⟨q,q1,q2⟩:=zpw J;exact⟨q,q1,q2,Y⟩
   have ad:=zf (fun W (o:Ext wr W) (J:zaO K (zcn d r))=>zki X ab (N.out.ext o) R ah a3.out Q r (Z.ext o) a1 a0.1 J (a5.out W (a9.trans (Xg o))));obtain⟨⟨fa,t,s⟩,⟨y,x,C,z⟩,u⟩:=Q;have Q:=N.out.box;obtain⟨⟨R,X,ac⟩,⟨oa,ol,oc⟩,⟨pa,pl,pc⟩,⟨Y,el,Z⟩⟩:=i;have a0:=(zd.1 Q).1;simp only[NT.val,NT.fv,WT.sv,CT.val,sl3,jh]at a7 ad Q⊢;have n7:=zC F (cl #[V fa t s,G y,V x C z,i_ u] 106);have I:Ext wr (F.alloc (cl #[V fa t s,G y,V x C z,i_ u] 106)):=a2.alloc _;have i:=a2.size;gi_wp2;generalize i:F.heap.size=F at *;generalize World.alloc _ _=i at *;have k4:=(I.block _ (zd.1 m4).1).trans m4;have J:Hid (∀W,Ext i W->(W.cell? (Xd gs 4 O)=E (V R X ac)/\W.cell? (Xd gs 5 O)=E (V oa ol oc)/\W.cell? (Xd gs 6 O)=E (V pa pl pc)/\W.cell? (Xd gs 7 O)=E (V Y el Z))/\W.cell? (Xd F 0 O)=E (V fa t s)/\W.cell? (Xd F 1 O)=E (G y)/\W.cell? (Xd F 2 O)=E (V x C z)/\W.cell? (Xd F 3 O)=E (i_ u)):=fun W o=>by
    have q:=((I.trans o).block _ a0).trans Q;have Q:=(o.block _ (zd.1 n7).1).trans n7;exact⟨⟨c_ 4 q,c_ 5 q,c_ 6 q,c_ 7 q⟩,c_ 0 Q,c_ 1 Q,c_ 2 Q,c_ 3 Q⟩
   refine zfe (S:=fun W=>(W.cell? (Xd gs 4 O)=E (V R X ac)/\W.cell? (Xd gs 5 O)=E (V oa ol oc)/\W.cell? (Xd gs 6 O)=E (V pa pl pc)/\W.cell? (Xd gs 7 O)=E (V Y el Z))/\W.cell? (Xd F 0 O)=E (V fa t s)/\W.cell? (Xd F 1 O)=E (G y)/\W.cell? (Xd F 2 O)=E (V x C z)/\W.cell? (Xd F 3 O)=E (i_ u))
    (fun a' o=>∃(g9:Nat) (q:CT),o.heap[g9]? =E (cl #[sl3 q.a,sl3 q.o,sl3 q.p,sl3 q.e] 114)/\Ext i o/\i.heap.size<=g9/\(∀g,Qe aims d r.1 r.2=E g->∃p,JF o aims q g p)/\
     a'={ tmps:=#[pn (E (Xd gs 0 O)),i_ (pivots:Int),undef,undef,pn (E (Xd w.heap.size 0 O)),u5,i_ (e:Int),pn (E (Xd F 0 O)),G true,pn (E (Xd g9 0 O)),G (Qe aims d r.1 r.2).isSome,u11,u12,tp #[ag #[V fa t s,G y,V x C z,i_ u],G true],pn (E (Xd gs 0 O)),tp #[ag #[V fa t s,G y,V x C z,i_ u],G true],ag #[V fa t s,G y,V x C z,i_ u],G true,G true,G false,u20,tp #[q.val,G (Qe aims d r.1 r.2).isSome],pn (E (Xd gs 0 O)),pn (E (Xd gs 0 O)),pn (E (Xd gs 4 O)),ag #[V R X ac,V oa ol oc,V pa pl pc,V Y el Z],ag #[V fa t s,G y,V x C z,i_ u],tp #[q.val,G (Qe aims d r.1 r.2).isSome],q.val,G (Qe aims d r.1 r.2).isSome,u30,u31,u32,u33,u34,u35,u36,u37,u38,u39,u40,u41,u42,u43,u44,u45],defers:= [] }) hm (J.out i.drew (Xe i).drew) (fun a3=>?_) ?_
   ·have a2:=(Xe i).drew;refine tkl [0,1,2,3,4] ?_;refine rd2 5 9 (h:=fun K q=>?_) (h1:=fun K q=>?_)
    ·go_simp;refine(a7.out _ (I.trans a2)).mono ?_;rintro e2 A3 ⟨⟨⟨x,y,z⟩,⟨R,X,Y⟩,⟨Z,a0,a1⟩,⟨C,F,Q⟩⟩,rfl,t,a5⟩;have y3:=a2.trans (Xf a5);simp only[CT.val,sl3];generalize ah:(Qe aims d r.1 r.2).isSome=bb at *;go_wp2_with fail
     refine q.out _ _ (J.out _ y3) (h:=fun a3=>?_);refine tkl [6,7,8] ?_;refine rd1 9 fun K q=>?_;go_simp;refine q.out _ _ (J.out _ (y3.alloc (cl #[V_,V_,V_,V_] 114))) (h:=fun a3=>?_);obtain⟨hL,s⟩:=zcb y3 (cl #[V_,V_,V_,V_] 114);have yF:=y3.alloc (cl #[V_,V_,V_,V_] 114);have t:∀g,Qe aims d r.1 r.2=E g->∃p,JF (A3.alloc (cl #[V_,V_,V_,V_] 114)) aims ⟨(x,y,z),(R,X,Y),(Z,a0,a1),(C,F,Q)⟩ g p:=fun g hk=>(t g hk).imp fun _ u=>u.ext ((Xe A3).alloc _)
     generalize u:A3.heap.size=u at *;generalize World.alloc _ _=u at *;obtain⟨p9,u,ab,⟨t0,t1,t2,t3⟩,f0,f1,f2,f3⟩:=znd hL (a':=V x y z) (b':=V R X Y) (c':=V Z a0 a1) (d':=V C F Q);refine rd1 10 fun K q=>?_;go_simp;refine q.out _ _ (J.out _ (qk yF u (fun b m=>by rw[m];exact s))) (h:=fun a3=>?_);refine tkv 11 ?_;refine zV kr ⟨rfl,(by first|rfl|trivial),_,⟨(x,y,z),(R,X,Y),(Z,a0,a1),(C,F,Q)⟩,p9,qk yF u (fun b m=>by rw[m];exact s),s,(fun g hk=>?_),rfl⟩ _;obtain⟨p,hq⟩:=t g hk;exact⟨p,hq.wr u ab⟩
    ·go_simp;refine q.out _ _ (J.out _ (a2.alloc (cl #[V_,V_,V_,V_] 114))) (h:=fun a3=>?_);have hL:(i.drew.alloc (cl #[V_,V_,V_,V_] 114)).heap[i.heap.size]? =E (cl #[V_,V_,V_,V_] 114):=zC i.drew _;have s:i.heap.size<=i.heap.size:=zh _;have a2:=a2.alloc (cl #[V_,V_,V_,V_] 114);refine rcl 5 (a7.out _ (I.trans a2)) ?_;rintro e2 A3 ⟨⟨⟨x,y,z⟩,⟨R,X,Y⟩,⟨Z,a0,a1⟩,⟨C,F,Q⟩⟩,rfl,t,a5⟩;have y3:=a2.trans (Xf a5);have hL:=J8 hL a5;have yF:=y3;simp only[CT.val,sl3];generalize ah:(Qe aims d r.1 r.2).isSome=bb at *;refine bk (J.out _ y3) fun a3=>?_
     refine tkl [6,7,8] ?_;obtain⟨p9,u,ab,⟨t0,t1,t2,t3⟩,f0,f1,f2,f3⟩:=znd hL (a':=V x y z) (b':=V R X Y) (c':=V Z a0 a1) (d':=V C F Q);refine rd1 10 fun K q=>?_;go_simp;refine q.out _ _ (J.out _ (qk yF u (fun b m=>by rw[m];exact s))) (h:=fun a3=>?_);refine tkv 11 ?_;refine zV kr ⟨rfl,(by first|rfl|trivial),_,⟨(x,y,z),(R,X,Y),(Z,a0,a1),(C,F,Q)⟩,p9,qk yF u (fun b m=>by rw[m];exact s),s,(fun g hk=>?_),rfl⟩ _;obtain⟨p,hq⟩:=t g hk;exact⟨p,hq.wr u ab⟩
   ·rintro a' o ⟨g9,⟨⟨x,y,z⟩,⟨R,X,Y⟩,⟨Z,a0,a1⟩,⟨C,F,Q⟩⟩,i,u,s,t,rfl⟩;simp only[CT.val,sl3]at i⊢;have s:=I.trans u;have F:=(u.block _ (zd.1 k4).1).trans k4;have q:=(zd.1 m4).1;have C:=a9.trans (Xg s);cases hxe:Qe aims d r.1 r.2 with
    |none=>
     have L:Hid (ZV aims rows pivots k= .inr (.inl (d,r))):=by rw[Hid,a8.out,hxe]
     have x:=zf (ad.out o s (ae.out hxe));have q:=(u.block _ (zd.1 n7).1).trans n7;have J:=c_ 0 q;have Q:=c_ 1 q;have R:=c_ 2 q;have X:=c_ 3 q;simp only[zeQ];gi_wp2;refine(zq.2 x.out).mono ?_;rintro e2 u ⟨rfl,q⟩;have z:=Xf q;have y:=J8 F q;obtain⟨p2,pw,⟨t0,t1,t2,t3,t4⟩,f0,f1,f2,f3,f4⟩:=jp y (i_ 2) (V_) (gS ⟨#[]⟩) (i_ (ls.length:Int)) (gS ⟨(zab ls (zcn d r)).toArray⟩);have h:=zf p2;have a4:=zf (C.after ((Xg (T:=fun b=>b=w.heap.size) z).trans pw) (fun b m=> .inr om));gi_wp2;have j0:=c_ 0 h.out;have j1:=c_ 1 h.out;have j2:=c_ 2 h.out;have j3:=c_ 3 h.out;have j4:=c_ 4 h.out;exact zH (v:=tp #[ag #[i_ 2,V_,gS ⟨#[]⟩,i_ (ls.length:Int),gS ⟨(zab ls (zcn d r)).toArray⟩],G true]) (by simp[results,results46,go_sem,j0,j1,j2,j3,j4]) rfl ⟨by rw[L.out];rfl,a4.out⟩
    |some g=>
     obtain⟨p,I⟩:=t g hxe;have t:=af.out g hxe;have d:=zf I;by_cases I:e=pivots
     ·have L:Hid (ZV aims rows pivots k= .inr (.inr ())):=by
       rw[Hid,a8.out,hxe];exact zQ om
      have x:=zf (zfZ (N.out.ext s));simp only[zba];gi_wp2;refine(zq.2 x.out).mono ?_;rintro e2 u ⟨rfl,q⟩;have z:=Xf q;have y:=J8 F q;obtain⟨p2,pw,⟨t0,t1,t2,t3,t4⟩,f0,f1,f2,f3,f4⟩:=jp y (i_ 3) (V_) (gS ⟨#[]⟩) (i_ (ls.length:Int)) (gS ⟨#[]⟩);have h:=zf p2;have a4:=zf (C.after ((Xg (T:=fun b=>b=w.heap.size) z).trans pw) (fun b m=> .inr om));gi_wp2;have j0:=c_ 0 h.out;have j1:=c_ 1 h.out;have j2:=c_ 2 h.out;have j3:=c_ 3 h.out;have j4:=c_ 4 h.out;exact zH (v:=tp #[ag #[i_ 3,V_,gS ⟨#[]⟩,i_ (ls.length:Int),gS ⟨#[]⟩],G true]) (by simp[results,results46,go_sem,j0,j1,j2,j3,j4]) rfl ⟨by rw[L.out];rfl,a4.out⟩
     ·have L:Hid (ZV aims rows pivots k=ZV aims rows (pivots-(e+1)) g):=by
       rw[Hid,a8.out,hxe];have:pivots-e-1=pivots-(e+1):=om;show(if pivots-e=0 then(.inr (.inr ()):SetR)else ZV aims rows (pivots-e-1) g)=_
       rw[zO om,this]
      have m:=N.out.ext s;obtain⟨h,q⟩:=m.moved d.out;simp only[sl3]at h q;have d:=m.box;simp only[jh,sl3]at d;have m:=zf h;have h:=zf (a6.trans ((Xg s).trans q));have J:=c_ 0 i;have Q:=c_ 1 i;have R:=c_ 2 i;have X:=c_ 3 i;have t4:=c_ 4 d;have i:=c_ 5 d;have i:=c_ 6 d;have i:=c_ 7 d;have f4:=Xh (j:=4) d;have i:=Xh (j:=5) d;have i:=Xh (j:=6) d;have i:=Xh (j:=7) d;simp only[zba];gi_wp2;go_roundw
      case rel=>exact⟨e+1,_,g,p,om,by go_num,t,m.out,h.out,L.out⟩
      case measure=>simp[intOf];omega
end

section
open Go.RowKit
attribute [local go_sem] zD zW qJ
variable {A A' W0 w:H}{B S b d g i j n num:Nat}{M:Nat->Prop}{aims:L_}{c k:Cor}{e:A_}{o:Option Nat}{rs:List RwV}{x:L_×U_×Int}
def spP (aims:L_)(k:Cor)(r:Nat):Bool:=decide ((qT aims k.point).getD r 0%(k.over:Int)≠0)
def spN (aims:L_)(k:Cor)(i:Nat):Nat:=((List.range i).filter (spP aims k)).length
theorem zpx(n:Nat)(aims:L_)(k:Cor):qU n aims k=(List.range (n+1)).filter (spP aims k):=rfl
theorem spN_no(h:spP aims k i=false):spN aims k (i+1)=spN aims k i:=by
 unfold spN;rw[J6,je];simp[h]
theorem zsb(h:spP aims k i=true):spN aims k (i+1)=spN aims k i+1:=by
 unfold spN;rw[J6,je];simp[h]
theorem zpy(hi:i<n+1)(h:spP aims k i=true):(qU n aims k)[spN aims k i]? =E i:=by
 have e:List.range (n+1)=List.range i++(i::List.range' (i+1) (n-i)):=by
  rw[zd0,zd0,<-List.range'_succ,show n-i+1=n+1-i by omega];have:=List.range'_append_1 (s:=0) (m:=i) (n:=n+1-i);rw[qt,show i+(n+1-i)=n+1 by omega]at this;exact this.symm
 unfold spN;rw[zpx,e,je,Qz,zQ h,zG (zh _)];simp
theorem zpz(c:CT)(w:H):C_ 98 #[c.val] w fun e w'=>e=Xa (.func (.func 167) #[] #[p_ w.heap.size 0])/\w'=w.alloc (cl #[sl3 c.a,sl3 c.o,sl3 c.p,sl3 c.e] 114):=by
 obtain⟨⟨_,_,ac⟩,⟨_,_,_⟩,⟨_,_,_⟩,⟨_,_,_⟩⟩:=c;simp only[CT.val,sl3];go_enter func98,ntmps98
 have b:=jR;go_wp2;go_ret;exact⟨rfl,rfl⟩
def SplC (bc:Nat)(c:CT)(ts ss:List WT)(aims:L_)(k:Cor)(W:H):Prop:=
 (W.cell? (Xd bc 0 O)=E (sl3 c.a)/\W.cell? (Xd bc 1 O)=E (sl3 c.o)/\W.cell? (Xd bc 2 O)=E (sl3 c.p))/\NatV W (sl3 c.o) k.over/\ZS W 64 (sl3 c.a) 2 (ts.map WT.cells)/\ZS W 64 (sl3 c.p) 2 (ss.map WT.cells)/\(∀(i:Nat) (t:WT) (z:Int),ts[i]? =E t->aims[i]? =E z->zy W t.val z)/\∀(i:Nat) (t:WT) (z:Int),ss[i]? =E t->k.point[i]? =E z->zy W t.val z
def SplY (n:Nat)(aims:L_)(k:Cor)(i:Nat)(v:W_)(_W:H):Prop:=v=#[i_ (((qU n aims k).getD i 0:Nat):Int)]
def SpI (b l:Nat)(av pv:Value)(aims:L_)(k:Cor)(J:Nat->(Nat->Prop)->H->Prop)(i:Nat)(M:Nat->Prop)(A:H):Prop:=
 ∃N:Nat->Prop,(∀x,M x↔N x\/x=b+1)/\(∀x,N x->x<b\/b+1+1+1+1<=x)/\J (spN aims k i) N A/\A.heap[b]? =E (cl #[.func (.yield l) #[] #[]] 129)/\A.heap[b+1]? =E (cl #[i_ (i:Nat)] 3)/\A.heap[b+1+1]? =E (cl #[av] 111)/\A.heap[b+1+1+1]? =E (cl #[pv] 100)
def SpX (n:Nat)(aims:L_)(k:Cor)(Jx:Nat->H->Prop)(c:Code)(_i:Nat)(A:H):Prop:=c= .ret/\∃j,j<(qU n aims k).length/\Jx j A
theorem zob{D K:Nat}(b:jN D K)(d:Fit D n aims k)(e:Nat)(c:CT)(ts ss:List WT)(u:ts.length=aims.length)(m:ss.length=k.point.length):
 SeqQ pg 167 #[p_ e 0] (qU n aims k).length (SplY n aims k) (SplC e c ts ss aims k):=by
 intro z L S t W Q ab a2 g hC v h0;obtain⟨⟨ad,af,ae⟩,C,x,h,-,-⟩:=(hC 0 t W h0).1;obtain⟨⟨p,_,ac⟩,⟨_,_,_⟩,⟨r,_,s⟩,⟨_,_,_⟩⟩:=c;simp only[sl3]at *;obtain⟨g,i,q⟩:=x.shape;rw[zm,qp]at q;obtain⟨rfl,rfl,rfl⟩:=q;obtain⟨g,i,q⟩:=h.shape;rw[zm,qp]at q;obtain⟨rfl,rfl,rfl⟩:=q;have y:ss.length=ts.length:=by rw[m,u,d.plen,d.aim]
 rw[y]at ae h hC;have F:=zf (fun g i=>zhC K (by have:=b.k;omega) g i p r ac s ts ss aims k.point u m (by rw[d.aim,d.plen]) (by rw[d.plen];exact d.n4) d.aimD d.pointD b.one b.one b.two);have l:=zf hC;have HY:=zf v;have g:e<W.heap.size:=zw ad;have ah:k.point.length+1=n+1:=by rw[d.plen]
 have I:Hid (∀i,Lim (gB D) ((qT aims k.point).getD i 0)):=fun i=>by
  cases i with
  |zero=>
   have:(qT aims k.point).getD 0 0=T.dotZ aims k.point:=rfl;rw[this];exact(zcC d.aimD d.pointD).mono (zZ _ (by rw[d.aim];have:=d.n4;omega))
  |succ i=>
   rw[zhB (by rw[d.aim,d.plen]) i];have g:=(d.pointD.at i).mono b.le_gain;split
   ·unfold Lim at *;omega
   ·exact g
 have a5:=zf (Xc d.pos (qu d.overD b.one));have o:=zf b;clear v hC x h C u m y;refine Q0 func167 ntmps167 (h:=?_);gi_wp2;refine(zq.2 (ziK p r ts.length ac ts.length s _)).mono ?_;rintro e w1 ⟨rfl,h⟩;obtain⟨n0,a4,n2,a7,C⟩:=zem W (cl #[.func (.yield z) #[] #[]] 129) (cl #[i_ 0] 3) (cl #[V p ts.length ac] 111) (cl #[V r ts.length s] 100);have b:w1=(((W.alloc (cl #[.func (.yield z) #[] #[]] 129)).alloc (cl #[i_ 0] 3)).alloc (cl #[V p ts.length ac] 111)).alloc (cl #[V r ts.length s] 100):=h;rw[<-b]at n0 a4 n2 a7 C;have a3:w1.heap.size=W.heap.size+1+1+1+1:=by rw[b];simp
 clear h b;simp only[zL];gi_wp2;refine ZT (F.out (W.heap.size+1+1) (W.heap.size+1+1+1)) rfl (qW func226 kr rfl) (fun k J W=>by rintro⟨X,rfl,_⟩;rfl)
  (SpI W.heap.size z (V p ts.length ac) (V r ts.length s) aims k L) (SpX n aims k S) (fun x=>t x\/x=W.heap.size+1) ?hI ?hIx ?hC ?h0 ?round ?done ?stop
 case hI=>
  rintro i M A B ⟨N,g,u,m,P,v,F,y⟩ b;exact⟨N,g,u,Q _ _ _ _ m (b.mono om),b.block _ _ P (.inr rfl),b.block _ _ v (.inr rfl),b.block _ _ F (.inr rfl),b.block _ _ y (.inr rfl)⟩
 case hIx=>
  rintro c i A B ⟨g,j,u,m⟩ b;exact⟨g,j,u,ab _ _ _ m (b.mono om)⟩
 case hC=>
  rintro i M A ⟨N,g,u,m,P,v,F,y⟩;obtain⟨⟨k1,k2,k3,k4,b,h⟩,k7⟩:=l.out _ _ _ m;refine⟨⟨c_ 0 F,c_ 0 y,k3,k4,b,h⟩,fun x b=>?_⟩;rcases(g x).1 b with h|rfl
  ·exact(k7 x h).1
  ·exact(zd.1 v).1
 case h0=>
  refine⟨t,fun x=>Qb,fun x b=> .inl ((l.out _ _ _ h0).2 x b).1,Q _ _ _ _ h0 (zn.of_below C),n0,a4,n2,a7⟩
 case round=>
  rintro l2 i J M A t ⟨X,rfl,ht⟩ ⟨N,g,u,m,P,v,F,y⟩;obtain⟨⟨⟨k1,k2,k3⟩,k4,-,-,-,-⟩,k7⟩:=l.out _ _ _ m;have J:=I.out i;obtain⟨t,hz⟩:∃t,(qT aims k.point).getD i 0=t:=⟨_,rfl⟩;rw[hz]at ht J;have l:spP aims k i=decide (t%(k.over:Int)≠0):=by unfold spP;rw[hz]
  have a9:=zf l;have R:=zf g;have I:=zf u;have H3:=zf m;obtain⟨Z,Y,tl,tc⟩:=X;simp only[WT.val,WT.sv]at ht⊢;have C:i<=4:=by have:=d.n4;omega
  clear hz l g u m;unfold Zz;gi_wp2;refine⟨Xg ((Xe A).alloc _),fun l C=>?_⟩;rw[<-a3]at C;have d:=(zn.alloc w1.heap.size A (cl #[G Z,V Y tl tc] 64)).trans C;have e0:=C.block _ _ (zC A (cl #[G Z,V Y tl tc] 64)) (.inr rfl);have a0:=c_ 0 e0;have a1:=c_ 1 e0;have g4:=d.block _ _ P (.inr rfl);have g5:=d.block _ _ v (.inr rfl);have g6:=d.block _ _ F (.inr rfl);have g7:=d.block _ _ y (.inr rfl);have b1:=d.cell k2;have C:=d.size;have C:=(zd.1 v).1;have C:=(zd.1 y).1;have a6:=zf (zho K (by have:=o.out.k;omega) (zbV K (by have:=o.out.k;omega)) l _ _ t k.over (ht.keep d) (k4.keep d) a5.out.1 (J.lt o.out.gain) a5.out.2);have a8:=zf (Q _ _ _ _ H3.out (d.mono (show W.heap.size<=w1.heap.size by omega)));have a3:Hid (∀(d:H) (C:Nat->Prop) (j:Nat),L j C d->(∀x,C x->N x\/l.heap.size<=x)->spN aims k (i+1)=j->Wr (fun x=>N x) l d->ZL M (SpI W.heap.size z (V p ts.length ac) (V r ts.length s) aims k L) (SpX n aims k S) i A l .normal { tmps:=#[],defers:= [] } (d.setCell (x_ W 0) (i_ ((i+1:Nat):Int)))):=by
   intro d C j X hN Y o;have q4:=o.some g4 (fun e=>by rcases I.out _ e with h|h<;>omega);have Z:=o.some g5 (fun e=>by rcases I.out _ e with h|h<;>omega);have q6:=o.some g6 (fun e=>by rcases I.out _ e with h|h<;>omega);have q7:=o.some g7 (fun e=>by rcases I.out _ e with h|h<;>omega);have J:Wr (fun x=>x=W.heap.size+1) d (d.setCell (x_ W 0) (i_ ((i+1:Nat):Int))):=zv (U:=fun x=>x=W.heap.size+1) rfl _;refine⟨(o.mono fun x b=>(R.out x).2 (.inl b)).trans (J.mono fun x b=>(R.out x).2 (.inr b)),fun x=>C x\/x=W.heap.size+1,⟨C,fun x=>Qb,fun x b=>?_,?_,J.some q4 (fun e=>om),Xl Z,J.some q6 (fun e=>om),J.some q7 (fun e=>om)⟩,fun x b=>?_⟩
   ·rcases hN x b with h|h
    ·exact I.out x h
    ·exact .inr om
   ·rw[Y];exact a2 _ _ _ _ X (J.mono fun x b=>by subst b;exact⟨om,.inl ⟨_,_,Z⟩⟩)
   ·rcases b with h|rfl
    ·rcases hN x h with h|h
     ·exact .inl ((R.out x).2 (.inl h))
     ·exact .inr om
    ·exact .inl ((R.out _).2 (.inr rfl))
  have a2:=zf (fun(d:H) (o:Wr (fun x=>N x) l d)=>
   have Z:=o.some g5 (fun e=>by rcases I.out _ e with h|h<;>omega);Xc (c_ 0 Z) ((Xh Z:d.frozen? (x_ W 0)=false)))
  have y0:=c_ 0 g4;have y1:=c_ 0 g5;clear P v F y g4 g5 g6 g7 k1 k2 k3 k4 k7 ht e0 ad af ae n0 a4 n2 a7;gi_wp2;refine(Zq l2 (zq.2 a6.out)).mono ?_;rintro e J ⟨a7,rfl,Y,I⟩;have x3:=Xf I;by_cases Z:t%(k.over:Int)=0
  ·rw[Z]at Y;have a4:=zf (JR J a7 Y);have HN:Hid (∀d,Ext l d->ZL M (SpI W.heap.size z (V p ts.length ac) (V r ts.length s) aims k L) (SpX n aims k S) i A l .normal { tmps:=#[],defers:= [] } (d.setCell (x_ W 0) (i_ ((i+1:Nat):Int)))):=fun d I=>
    a3.out d N _ (Q _ _ _ _ a8.out (zn.of_below I)) (fun x b=> .inl b) (spN_no (by rw[a9.out];simpa using Z)) (Xg I)
   have HE:=zf (HN.out J x3);obtain⟨c0,f0⟩:=a2.out J (Xg x3);clear a0 a1 b1 y0 y1 Z a3 HY a6 a2 HN;gi_wp2;refine(Zq l2 (zq.2 a4.out)).mono ?_;rintro e A4 ⟨rfl,rfl⟩;gi_wp2;exact HE.out
  ·have ad:(t%(k.over:Int)).toNat≠0:=by
    have:=J3 t (show(k.over:Int)≠0 by have:=a5.out.1;omega);omega
   have a4:=zf (jW J a7 _ Y ad);have a5:spP aims k i=true:=by rw[a9.out];simpa using Z
   have Y:=zpy (n:=n) om a5;have a9:(qU n aims k).getD (spN aims k i) 0=i:=by rw[zk,Y];rfl
   have a7:Hid (∀d,Ext l d->YieldAt Fence.wide 0 pg z #[i_ (i:Nat)] d fun e t=>(e=Xa (G true)/\Wr (fun x=>N x) l t/\Hid (ZL M (SpI W.heap.size z (V p ts.length ac) (V r ts.length s) aims k L) (SpX n aims k S) i A l .normal { tmps:=#[],defers:= [] } (t.setCell (x_ W 0) (i_ ((i+1:Nat):Int)))))\/(e=Xa (G false)/\Hid (ZL M (SpI W.heap.size z (V p ts.length ac) (V r ts.length s) aims k L) (SpX n aims k S) i A l .ret { tmps:=#[],defers:= [] } t))):=by
    intro d I;have l:=I.size;refine zcD (HY.out (spN aims k i) _ N d (jQ Y) (by unfold SplY;rw[a9]) (Q _ _ _ _ a8.out (zn.of_below I))) ?_;rintro e t (⟨rfl,o,C,X,hN⟩|⟨rfl,o,b⟩)
    ·have d:=(Xg (T:=fun x=>N x) I).trans o;exact .inl ⟨rfl,d,a3.out t C _ X (fun x b=>(hN x b).imp id (fun h=>om)) (zsb a5) d⟩
    ·have d:=(Xg (T:=fun x=>N x) I).trans o;exact .inr ⟨rfl,d.mono fun x b=>(R.out x).2 (.inl b),rfl,_,jQ Y,b⟩
   have HE:=zf (a7.out J x3);have b:=x3.cell y0;have h:=x3.cell y1;clear a0 a1 b1 Z a3 HY a6 Y a9 a5 ad a7 y0 y1;gi_wp2;refine(Zq l2 (zq.2 a4.out)).mono ?_;rintro e A4 ⟨rfl,rfl⟩;gi_wp2;refine JS HE.out ?_ ?_
   ·rintro t ⟨d,q⟩;obtain⟨c0,f0⟩:=a2.out t d;clear b h a2;gi_wp2;exact q.out
   ·intro t q;gi_wp2;exact q.out
 case done=>
  rintro D M A d ⟨N,g,u,m,P,v,F,y⟩ b;rw[ah]at m;gi_wp2;refine qh b ?_;exact⟨_,qI rfl _ _ _,⟨_,rfl⟩,.inl ⟨N,Q _ _ _ _ m (zn.putObj _ om b rfl)⟩⟩
 case stop=>
  rintro D c i A d d ⟨rfl,j,X,g⟩ b;gi_wp2;refine qh b ?_;exact⟨_,qI rfl _ _ _,⟨_,rfl⟩,.inr ⟨j,X,ab _ _ _ g (zn.putObj _ om b rfl)⟩⟩
def dpS (n:Nat)(aims:L_)(c:Cor)(num:Nat):Option Nat->Nat->Nat
 |none,r=>r
 |some b,r=>if zeN aims (Z1 n aims c num b) (Z1 n aims c num r)=true then r else b
theorem zhQ:∀(l:N_) (b:Option Nat) (r:Nat),jF n aims c num (l ++ [r]) b=E (dpS n aims c num (jF n aims c num l b) r)
 |[],O,r=>rfl
 |[],E b,r=>rfl
 |x::l,O,r=>zhQ l (E x) r
 |x::l,E b,r=>zhQ l (E (if zeN aims (Z1 n aims c num b) (Z1 n aims c num x)=true then x else b)) r
def dpF (n:Nat)(aims:L_)(c:Cor)(num j:Nat):Option Nat:=jF n aims c num ((qU n aims c).take j) O
theorem zrm{r:Nat}(h:(qU n aims c)[j]? =E r):dpF n aims c num (j+1)=E (dpS n aims c num (dpF n aims c num j) r):=by
 unfold dpF;rw[ZB,h];exact zhQ _ _ _
def DpM (A:H)(n:Nat)(aims:L_)(k:Cor)(num b4 b5:Nat):Option Nat->Prop
 |none=>(∃t:JG,A.heap[b4]? =E (cl t.cells 116))/\A.heap[b5]? =E (cl #[G false] 4)
 |some r=>(∃(t:JG) (ets:List ET),A.heap[b4]? =E (cl t.cells 116)/\zcH A aims t (Zd n aims k r,num) (QX n aims k r) (Z1 n aims k num r) ets)/\A.heap[b5]? =E (cl #[G true] 4)
theorem DpM.keep{C:Nat}{e:Nat}(h:DpM A n aims k num d e o)(b:zn C A A'):DpM A' n aims k num d e o:=by
 cases o with
 |none=>
  obtain⟨⟨t,d⟩,e⟩:=h;exact⟨⟨t,b.block _ _ d (.inr rfl)⟩,b.block _ _ e (.inr rfl)⟩
 |some r=>
  obtain⟨⟨t,ets,d,g⟩,e⟩:=h;exact⟨⟨t,ets,b.block _ _ d (.inr rfl),g.keep b⟩,b.block _ _ e (.inr rfl)⟩
theorem DpM.wr{U:Nat->Prop}{e:Nat}(h:DpM A n aims k num e i o)(g:Wr U A A')(d:∀b,U b->Off A b/\b≠e/\b≠i):DpM A' n aims k num e i o:=by
 cases o with
 |none=>
  obtain⟨⟨t,i⟩,l⟩:=h;exact⟨⟨t,g.some i (fun e=>(d _ e).2.1 rfl)⟩,g.some l (fun e=>(d _ e).2.2 rfl)⟩
 |some r=>
  obtain⟨⟨t,ets,i,m⟩,l⟩:=h;exact⟨⟨t,ets,g.some i (fun e=>(d _ e).2.1 rfl),m.wr g (fun b i=>(d b i).1)⟩,g.some l (fun e=>(d _ e).2.2 rfl)⟩
theorem zrn{W:H}(h:zaa B W b):Off W b:=by
 obtain⟨-,⟨x,d,h⟩|⟨x,d,h⟩⟩:=h
 ·have d:qQ W b 3:=⟨_,_,h⟩;exact⟨⟨⟨fun e=>absurd (e.one d) dc,zE h n1⟩,fun e=>absurd (e.one d) dc⟩,fun e=>absurd (e.one d) dc⟩
 ·have d:qQ W b 4:=⟨_,_,h⟩;exact⟨⟨⟨fun e=>absurd (e.one d) dc,zE h n1⟩,fun e=>absurd (e.one d) dc⟩,fun e=>absurd (e.one d) dc⟩
theorem zsc(t:JG):∀v∈t.cells.toList,ZM v:=by
 obtain⟨⟨⟨fa,_,_⟩,⟨_,_,_,_⟩,_⟩,⟨⟨_,_,_⟩,⟨_,_,_⟩⟩,⟨⟨_,_,_⟩,⟨_,_,_⟩,⟨_,_,_⟩,⟨_,_,_⟩⟩⟩:=t;intro v b;simp[JG.cells,NT.fv,WT.sv,LT.ov,LT.pv,sl3]at b;rcases b with rfl|rfl|rfl|rfl|rfl|rfl|rfl|rfl|rfl|rfl<;>(intro m e;cases e)
theorem zh7{t:JG}(q:w.heap[g]? =E (cl t.cells 116)):Off w g:=by
 have b:qQ w g 116:=⟨_,_,q⟩;exact⟨⟨⟨fun e=>absurd (e.one b) dc,zE q (zsc t)⟩,fun e=>absurd (e.one b) dc⟩,fun e=>absurd (e.one b) dc⟩
theorem ziT{x:Bool}(q:w.heap[g]? =E (cl #[G x] 4)):Off w g:=by
 have b:qQ w g 4:=⟨_,_,q⟩;exact⟨⟨⟨fun e=>absurd (e.one b) dc,zE q n1⟩,fun e=>absurd (e.one b) dc⟩,fun e=>absurd (e.one b) dc⟩
theorem DpM.boxes(h:DpM A n aims k num b d o):(∃t:JG,A.heap[b]? =E (cl t.cells 116))/\A.heap[d]? =E (cl #[G o.isSome] 4):=by
 cases o with
 |none=>exact h
 |some r=>
  obtain⟨⟨t,ets,b,_⟩,d⟩:=h;exact⟨⟨t,b⟩,d⟩
theorem DpM.best(h:DpM A n aims k num b d o):(∃t:JG,A.heap[b]? =E (cl t.cells 116)/\∀q,o=E q->∃ets,zcH A aims t (Zd n aims k q,num) (QX n aims k q) (Z1 n aims k num q) ets)/\A.heap[d]? =E (cl #[G o.isSome] 4):=by
 cases o with
 |none=>
  obtain⟨⟨t,b⟩,d⟩:=h;exact⟨⟨t,b,fun q e=>by cases e⟩,d⟩
 |some r=>
  obtain⟨⟨t,ets,b,g⟩,d⟩:=h;exact⟨⟨t,b,fun q e=>by cases e;exact⟨ets,g⟩⟩,d⟩
def DpI (w1:H)(n:Nat)(aims:L_)(k:Cor)(num b4 b5 j:Nat)(M:Nat->Prop)(A:H):Prop:=
 Wr (fun b=>b=b4\/b=b5) w1 A/\DpM A n aims k num b4 b5 (dpF n aims k num j)/\∀b,M b↔b=b4\/b=b5
structure CutsOK (D n:Nat)(aims:L_)(k:Cor)(num:Nat):Prop where
 le:∀r∈qU n aims k,r<=n
 shared:∀r∈qU n aims k,Zm n aims k r≠0
 len:∀r∈qU n aims k,(Zd n aims k r).1.length=n
 lim:∀r∈qU n aims k,Jm D (Zd n aims k r)
 exch:∀r∈qU n aims k,Qe aims k (Zd n aims k r) num=E (Z1 n aims k num r)
 fit:∀r∈qU n aims k,Fit D n aims (Z1 n aims k num r)
theorem zhR(w:H):w.drew.heap=w.heap:=rfl
theorem zro{d:Cor}:decide (0<Qx (qT aims (List.zipWith (fun a b=>a*(d.over:Int)-b*(c.over:Int)) c.point d.point)))=zeN aims c d:=rfl
theorem zmR{D K:Nat}(hc:jN D K)(w:H)(gs given nc:Nat)(a:S_)(rv:Value)(ca:A_)(cc:Nat)(c:CT)(hS:w.heap[gs]? =E (cl (jh a n given rv c (V ca nc cc)) 123))(bX:given<=1000)(bZ:nc<=100000)(aims:L_)(k:Cor)(ets:List ET)(hM:JF w aims c k ets)(b3:Fit D n aims k)(a5:CutsOK D n aims k (given+nc+1)):
 C_ 47 #[p_ gs 0] w fun e w'=>∃t:JG,e=Xa (tp #[t.val,G (jF n aims k (given+nc+1) (qU n aims k) O).isSome])/\(∀r,jF n aims k (given+nc+1) (qU n aims k) O=E r->∃a7,zcH w' aims t (Zd n aims k r,given+nc+1) (QX n aims k r) (Z1 n aims k (given+nc+1) r) a7)/\b_ w w':=by
 obtain⟨num,hnum⟩:∃num,given+nc+1=num:=⟨_,rfl⟩;have be:=(zd.1 hS).1;have c9:=zf a5;have cb:=zf hM;have bK:=zf (fun a0 (hx:Ext w a0) r (hr:r∈qU n aims k)=>zpu hc a0 gs given nc a rv ca cc c ((hx.block _ be).trans hS) bX bZ aims k ets (hM.ext hx) b3 r (a5.le r hr) (a5.shared r hr) (a5.len r hr) (a5.lim r hr) _ (a5.exch r hr));have aS:=zf (fun a0=>zpz c a0);obtain⟨ts,c5,bh,bi⟩:=hM.aim;obtain⟨ss,c4,bf,bg⟩:=hM.point;have bO:=zf (fun bc=>zob hc b3 bc c ts ss c5 c4);have aR:=zf (fun(a0:H) (hx:Ext w a0) (bc:Nat) (h:a0.cell? (Xd bc 0 O)=E (sl3 c.a)/\a0.cell? (Xd bc 1 O)=E (sl3 c.o)/\a0.cell? (Xd bc 2 O)=E (sl3 c.p))=>(⟨h,hM.over.below hx,bh.ext hx,bf.ext hx,fun ar t aI ht hz=>(bi ar t aI ht hz).below hx,fun ar t aI ht hz=>(bg ar t aI ht hz).below hx⟩:SplC bc c ts ss aims k a0));have bU:D*D+D*D<4294967296^K:=by have:=hc.two;omega
 have bT:4*(D*(D*D+D*D))<4294967296^K:=by
  have h1:=hc.up;have h2:=hc.five;rw[Zs];omega
 have aL:=zf (fun(a0:H) (t bA:JG) (r a6:Nat) (e1 e2:List ET) (hr:r∈qU n aims k) (hq:a6∈qU n aims k) (h1:JF a0 aims t.c (Z1 n aims k (given+nc+1) r) e1) (h2:JF a0 aims bA.c (Z1 n aims k (given+nc+1) a6) e2)=>
  have f1:=a5.fit r hr;have f2:=a5.fit a6 hq;zoX K (by have:=hc.k;omega) a0 t.c bA.c _ _ h1.over h2.over _ _ aims h1.point h2.point h1.aim (by rw[f1.plen,f2.plen]) (by rw[f1.plen];exact f1.n4) (by rw[f1.aim,f1.plen]) f1.pointD f2.pointD f1.overD f2.overD hc.one bU f1.aimD hc.one bT)
 simp only[zro]at aL;rw[hnum]at *;obtain⟨⟨aa,al,ac⟩,⟨oa,ol,oc⟩,⟨pa,pl,pc⟩,⟨bR,el,ec⟩⟩:=c;obtain⟨_,_,_⟩:=a;simp only[CT.val,sl3,jh]at hS aS aR;obtain⟨n0,av,n2,aw,hX⟩:=zem w (cl #[p_ gs 0] 97) (cl #[V_,G false,V_,i_ 0,V_,V_,V_,V_,V_,V_] 116) (cl #[V_,G false,V_,i_ 0,V_,V_,V_,V_,V_,V_] 116) (cl #[G false] 4);have ns:=(hX.block _ be).trans hS;clear hM a5 bh bi bf bg hS;refine Q0 func47 ntmps47 (h:=?_);have s4:=c_ 4 ns;have s5:=c_ 5 ns;have s6:=c_ 6 ns;have s7:=c_ 7 ns;gi_wp2;generalize World.alloc _ _=w0 at *;refine(zq.2 (aS.out w0)).mono ?_;rintro e w1 ⟨rfl,ap⟩;have x1:Ext w0 w1:=by rw[ap];exact(Xe w0).alloc _
 have kc:=zC w0 (cl #[V aa al ac,V oa ol oc,V pa pl pc,V bR el ec] 114);rw[<-ap]at kc;have ah:=hX.trans x1;have c1:=(zd.1 aw).1;have m0:=(x1.block _ (zd.1 n0).1).trans n0;have m1:=(x1.block _ (zd.1 av).1).trans av;have m2:=(x1.block _ (zd.1 n2).1).trans n2;have m3:=(x1.block _ c1).trans aw;have cf:=x1.size;clear ap n0 av n2 aw ns s4 s5 s6 s7;gi_wp2;refine ze6 (bO.out w0.heap.size) rfl (qW func167 kr rfl) (fun k c7 a0=>by rintro rfl;rfl)
  (DpI w1 n aims k num (w.heap.size+1+1) (w.heap.size+1+1+1)) (fun _ _ _=>False) (fun i=>i=w.heap.size+1+1\/i=w.heap.size+1+1+1) ?hI ?hIx ?hI2 ?hIx2 ?hC ?h0 ?round ?done ?stop
 case hI=>exact fun j M A B h hk=>⟨h.1.keep hk,h.2.1.keep hk,h.2.2⟩
 case hIx=>exact fun _ _ _ _ h _=>h
 case hI2=>
  rintro j M A B ⟨h1,h2,h3⟩ hw;refine⟨?_,h2.wr hw (fun i s=>⟨zrn s,by have:=s.1;omega,by have:=s.1;omega⟩),h3⟩;exact⟨hw.os.trans h1.os,hw.tape.trans h1.tape,hw.output.trans h1.output,zF h1.size hw.size,fun i s hn=>(hw.block i (zK s h1.size) (fun e=>by have:=e.1;omega)).trans (h1.block i s hn)⟩
 case hIx2=>exact fun _ _ _ _ h _=>h
 case hC=>
  rintro j M A ⟨h1,h2,h3⟩;obtain⟨⟨t,ht⟩,s⟩:=h2.boxes;have kA:=h1.some kc (fun e=>by rcases e with e|e<;>omega);refine⟨aR.out A (qk ah h1 (fun i s=>by rcases s with e|e<;>omega)) _ ⟨c_ 0 kA,c_ 1 kA,c_ 2 kA⟩,fun i bV=>?_⟩;rcases(h3 i).1 bV with e|e
  ·rw[e];exact⟨(zd.1 ht).1,.of (zh7 ht).1.1.1 (zh7 ht).1.1.2⟩
  ·rw[e];exact⟨(zd.1 s).1,.of (ziT s).1.1.1 (ziT s).1.1.2⟩
 case h0=>exact⟨Xj _ _,⟨⟨⟨⟨(O,0,0),⟨false,(O,0,0)⟩,0⟩,⟨(O,0,0),(O,0,0)⟩,⟨(O,0,0),(O,0,0),(O,0,0),(O,0,0)⟩⟩,m2⟩,m3⟩,fun i=>Qb⟩
 case round=>
  rintro l2 j c7 M A bY rfl ⟨h1,h2,h3⟩;obtain⟨r,hsj⟩:∃r,(qU n aims k)[j]? =E r:=⟨_,zg bY⟩;have hr:=zx hsj;have bd:(qU n aims k).getD j 0=r:=by rw[zk,hsj];rfl
  have ai:=zf (zrm (num:=num) hsj);rw[bd];have bo:=qk ah h1 (fun i s=>by rcases s with e|e<;>omega);clear bd hsj;unfold Zz;gi_wp2;refine⟨Xj _ _,fun A2 ae=>?_⟩;have g0:=ae.block _ _ (h1.some m0 (fun e=>by rcases e with e|e<;>omega)) (.inr rfl);have H2:=zf (h2.keep ae);have aq:=h1.keep ae;have c6:=qk ah aq (fun i s=>by rcases s with e|e<;>omega);have c3:=h1.size;have cg:=ae.size;have bP:=zf aq;have aj:=zf h3;have c0:=c_ 0 g0;clear h1 h2 h3 aq ae g0;refine ZW ?_;refine zcP (fun K2 ad=>?_);have a9:=zf ad;clear ad;refine Qt (by rfl) (fun⟨a,w,h⟩=>h) ?_;go_wp2_with fail
  refine(bK.out A2 c6 r hr).mono ?_;rintro e A3 ⟨t,aZ,rfl,ab,b8⟩;obtain⟨⟨⟨fa,q,p⟩,⟨Q,P,W,R⟩,u⟩,⟨⟨X,Z,Y⟩,⟨J,N,L⟩⟩,⟨⟨b,g,d⟩,⟨v,y,x⟩,⟨z,I,F⟩,⟨l,o,m⟩⟩⟩:=t;have x3:=Xf b8;simp only[JG.val,JG.cells,NT.fv,WT.sv,LT.ov,LT.pv,sl3];have n7:=zC A3 (cl #[V fa q p,G Q,V P W R,i_ u,V X Z Y,V J N L,V b g d,V v y x,V z I F,V l o m] 116);have x4:Ext A2 (A3.alloc (cl #[V fa q p,G Q,V P W R,i_ u,V X Z Y,V J N L,V b g d,V v y x,V z I F,V l o m] 116)):=x3.alloc _;have bb:=ab.ext ((Xe A3).alloc (cl #[V fa q p,G Q,V P W R,i_ u,V X Z Y,V J N L,V b g d,V v y x,V z I F,V l o m] 116));have ce:=x3.size;clear c0 b8;go_wp2_with fail
  refine a9.out _ _ ?_;clear a9;generalize World.alloc _ _=A4 at *;generalize A3.heap.size=g7 at *;have aJ:=zf (H2.out.keep (C:=0) (zn.of_below x4));have b6:=bP.out.trans (Xg x4);obtain⟨⟨⟨⟨⟨b1,b4,b2⟩,⟨bC,bB,bE,bD⟩,bp⟩,⟨⟨bF,bH,bG⟩,⟨bw,bz,bx⟩⟩,⟨⟨aT,aV,aU⟩,⟨bq,bs,br⟩,⟨bt,bv,bu⟩,⟨aW,aY,aX⟩⟩⟩,a3,a8⟩,a4⟩:=aJ.out.best;have bN:=zf a8;clear a8;simp only[JG.cells,NT.fv,WT.sv,LT.ov,LT.pv,sl3]at a3;have aM:=zf bb;have HY:=zf (fun(a2:H) (hx:Ext A4 a2)=>Xc ((hx.block _ (zd.1 a3).1).trans a3) (Xc ((hx.block _ (zd.1 a4).1).trans a4) ((hx.block _ (zd.1 n7).1).trans n7)));have aP:Hid (∀a2,Ext A4 a2->dpF n aims k num (j+1)=E r->ZL M (DpI w1 n aims k num (w.heap.size+1+1) (w.heap.size+1+1+1)) (fun _ _ _=>False) j A A2 .normal { tmps:=#[],defers:= [] } (((((((((((a2.setCell (w_ w 0) (V fa q p)).setCell (w_ w 1) (G Q)).setCell (w_ w 2) (V P W R)).setCell (w_ w 3) (i_ u)).setCell (w_ w 4) (V X Z Y)).setCell (w_ w 5) (V J N L)).setCell (w_ w 6) (V b g d)).setCell (w_ w 7) (V v y x)).setCell (w_ w 8) (V z I F)).setCell (w_ w 9) (V l o m)).setCell (v_ w 0) (G true))):=fun a2 hx bW=>by
   obtain⟨y4,y5,y7⟩:=HY.out a2 hx;obtain⟨p4,w4,-,-⟩:=zgr y4 (V fa q p) (G Q) (V P W R) (i_ u) (V X Z Y) (V J N L) (V b g d) (V v y x) (V z I F) (V l o m);have a1:=w4.some y5 (fun e=>om);have bj:Wr (fun i=>i=w.heap.size+1+1+1) ((((((((((a2.setCell (w_ w 0) (V fa q p)).setCell (w_ w 1) (G Q)).setCell (w_ w 2) (V P W R)).setCell (w_ w 3) (i_ u)).setCell (w_ w 4) (V X Z Y)).setCell (w_ w 5) (V J N L)).setCell (w_ w 6) (V b g d)).setCell (w_ w 7) (V v y x)).setCell (w_ w 8) (V z I F)).setCell (w_ w 9) (V l o m)) (((((((((((a2.setCell (w_ w 0) (V fa q p)).setCell (w_ w 1) (G Q)).setCell (w_ w 2) (V P W R)).setCell (w_ w 3) (i_ u)).setCell (w_ w 4) (V X Z Y)).setCell (w_ w 5) (V J N L)).setCell (w_ w 6) (V b g d)).setCell (w_ w 7) (V v y x)).setCell (w_ w 8) (V z I F)).setCell (w_ w 9) (V l o m)).setCell (v_ w 0) (G true)):=zv (U:=fun i=>i=w.heap.size+1+1+1) rfl _;have bn:Wr (fun i=>i=w.heap.size+1+1\/i=w.heap.size+1+1+1) a2 (((((((((((a2.setCell (w_ w 0) (V fa q p)).setCell (w_ w 1) (G Q)).setCell (w_ w 2) (V P W R)).setCell (w_ w 3) (i_ u)).setCell (w_ w 4) (V X Z Y)).setCell (w_ w 5) (V J N L)).setCell (w_ w 6) (V b g d)).setCell (w_ w 7) (V v y x)).setCell (w_ w 8) (V z I F)).setCell (w_ w 9) (V l o m)).setCell (v_ w 0) (G true)):=(w4.mono fun i s=> .inl s).trans (bj.mono fun i s=> .inr s);refine⟨((Xg (x4.trans hx)).trans bn).mono (fun i s=>(aj.out i).2 s),M,⟨(b6.trans (Xg hx)).trans bn,?_,aj.out⟩,fun c8 hx=> .inl hx⟩;rw[bW];refine⟨⟨⟨⟨(fa,q,p),⟨Q,P,W,R⟩,u⟩,⟨(X,Z,Y),(J,N,L)⟩,⟨(b,g,d),(v,y,x),(z,I,F),(l,o,m)⟩⟩,aZ,set_other p4 om,?_⟩,zfz a1⟩;exact((aM.out.ext hx).wr w4 (fun i s=>by rw[s];exact zh7 (t:=⟨⟨(b1,b4,b2),⟨bC,bB,bE,bD⟩,bp⟩,⟨(bF,bH,bG),(bw,bz,bx)⟩,⟨(aT,aV,aU),(bq,bs,br),(bt,bv,bu),(aW,aY,aX)⟩⟩) y4)).wr bj (fun i s=>by rw[s];exact ziT a1)
  clear ab bb a3 n7 a4;refine zcP (fun K2 ad=>?_);have a9:=zf ad;clear ad;cases hdp:dpF n aims k num j with
  |none=>
   have af:=zf hdp;rw[hdp]at HY;simp only[zeQ]at HY;obtain⟨y4,y5,y7⟩:=HY.out A4 (Xe _);obtain⟨-,w4,⟨u0,u1,u2,u3,u4,u5,u6,u7,u8,u9⟩,f0,f1,f2,f3,f4,f5,f6,f7,f8,f9⟩:=zgr y4 (V fa q p) (G Q) (V P W R) (i_ u) (V X Z Y) (V J N L) (V b g d) (V v y x) (V z I F) (V l o m);have a1:=w4.some y5 (fun e=>om);have v5:=c_ 0 y5;have an:=Xh (j:=0) a1;have aH:=c_ 0 a1;obtain⟨ax,ay,az,aA,aB,aC,aD,aE,aF,aG⟩:=ten_cells y7;clear y4 y5 y7 w4 a1;clear hdp;refine Qt (by rfl) (fun⟨a,w,h⟩=>h) ?_;go_wp2_with fail
   refine a9.out _ _ ?_;refine zcQ rfl ?_;refine Qt (by rfl) (fun⟨a,w,h⟩=>h) ?_;go_wp2_with fail
   exact aP.out A4 (Xe _) (by rw[ai.out,af.out];rfl)
  |some a6=>
   obtain⟨bS,ba⟩:=bN.out a6 hdp;have af:=zf hdp;rw[hdp]at HY;simp only[zba]at HY;have hq:a6∈qU n aims k:=by
    have h:=hdp;unfold dpF at h;rcases zdr _ _ _ h with h|h
    ·exact ZY h
    ·cases h
   have aK:=zf (aL.out A4 ⟨⟨(b1,b4,b2),⟨bC,bB,bE,bD⟩,bp⟩,⟨(bF,bH,bG),(bw,bz,bx)⟩,⟨(aT,aV,aU),(bq,bs,br),(bt,bv,bu),(aW,aY,aX)⟩⟩ ⟨⟨(fa,q,p),⟨Q,P,W,R⟩,u⟩,⟨(X,Z,Y),(J,N,L)⟩,⟨(b,g,d),(v,y,x),(z,I,F),(l,o,m)⟩⟩ a6 r bS aZ hq hr ba.cor aM.out.cor);simp only[CT.val,sl3]at aK;obtain⟨y4,y5,y7⟩:=HY.out A4 (Xe _);obtain⟨-,w4,⟨u0,u1,u2,u3,u4,u5,u6,u7,u8,u9⟩,f0,f1,f2,f3,f4,f5,f6,f7,f8,f9⟩:=zgr y4 (V fa q p) (G Q) (V P W R) (i_ u) (V X Z Y) (V J N L) (V b g d) (V v y x) (V z I F) (V l o m);have a1:=w4.some y5 (fun e=>om);have v5:=c_ 0 y5;have an:=Xh (j:=0) a1;have aH:=c_ 0 a1;obtain⟨ax,ay,az,aA,aB,aC,aD,aE,aF,aG⟩:=ten_cells y7;clear y4 y5 y7 w4 a1;clear hdp ba;refine Qt (by rfl) (fun⟨a,w,h⟩=>h) ?_;go_wp2_with fail
   refine aK.out.mono ?_;rintro e A5 ⟨rfl,b9⟩;have x5:=Xf b9;clear u0 f0 ax u1 f1 ay u2 f2 az u3 f3 aA u4 f4 aB u5 f5 aC u6 f6 aD u7 f7 aE u8 f8 aF u9 f9 aG an v5 aH b9;obtain⟨y4,y5,y7⟩:=HY.out A5 x5;obtain⟨-,w4,⟨u0,u1,u2,u3,u4,u5,u6,u7,u8,u9⟩,f0,f1,f2,f3,f4,f5,f6,f7,f8,f9⟩:=zgr y4 (V fa q p) (G Q) (V P W R) (i_ u) (V X Z Y) (V J N L) (V b g d) (V v y x) (V z I F) (V l o m);have a1:=w4.some y5 (fun e=>om);have v5:=c_ 0 y5;have an:=Xh (j:=0) a1;have aH:=c_ 0 a1;obtain⟨ax,ay,az,aA,aB,aC,aD,aE,aF,aG⟩:=ten_cells y7;clear y4 y5 y7 w4 a1;cases hah:zeN aims (Z1 n aims k num a6) (Z1 n aims k num r)with
   |true=>
    have ak:Hid (dpF n aims k num (j+1)=E r):=by rw[Hid,ai.out,af.out];simp[dpS,hah]
    go_wp2_with fail
    refine a9.out _ _ ?_;refine zcQ rfl ?_;refine Qt (by rfl) (fun⟨a,w,h⟩=>h) ?_;go_wp2_with fail
    exact aP.out A5 x5 ak.out
   |false=>
    have ak:Hid (dpF n aims k num (j+1)=dpF n aims k num j):=by rw[Hid,ai.out,af.out];simp[dpS,hah]
    go_wp2_with fail
    refine a9.out _ _ ?_;refine zd7 rfl (wpIn_skip ?_);refine⟨Xg (x4.trans x5),M,⟨b6.trans (Xg x5),?_,aj.out⟩,fun c8 hx=> .inl hx⟩;rw[ak.out];exact aJ.out.keep (C:=0) (zn.of_below x5)
 case done=>
  rintro D' M A hD-⟨h1,h2,h3⟩ hd;subst hD;obtain⟨⟨⟨⟨⟨fa,q,p⟩,⟨Q,P,W,R⟩,u⟩,⟨⟨X,Z,Y⟩,⟨J,N,L⟩⟩,⟨⟨b,g,d⟩,⟨v,y,x⟩,⟨z,I,F⟩,⟨l,o,m⟩⟩⟩,a3,a8⟩,a4⟩:=h2.best;have b7:dpF n aims k num (qU n aims k).length=jF n aims k num (qU n aims k) O:=by unfold dpF;rw[Zx]
  rw[b7]at a8 a4;obtain⟨dd,hdd⟩:∃dd,jF n aims k num (qU n aims k) O=dd:=⟨_,rfl⟩;rw[hdd]at a8 a4;have aN:=zf hdd;clear hdd;simp only[JG.cells,NT.fv,WT.sv,LT.ov,LT.pv,sl3]at a3;have c3:=h1.size;have bo:=qk ah h1 (fun i s=>by rcases s with e|e<;>omega);have au:=h1.some m1 (fun e=>by rcases e with e|e<;>omega);obtain⟨p2,w2,⟨u0,u1,u2,u3,u4,u5,u6,u7,u8,u9⟩,f0,f1,f2,f3,f4,f5,f6,f7,f8,f9⟩:=zgr au (V fa q p) (G Q) (V P W R) (i_ u) (V X Z Y) (V J N L) (V b g d) (V v y x) (V z I F) (V l o m);have aQ:=zf (fun(a0:H) (h:a0.heap[w.heap.size+1+1]? =E (cl #[V fa q p,G Q,V P W R,i_ u,V X Z Y,V J N L,V b g d,V v y x,V z I F,V l o m] 116)/\a0.heap[w.heap.size+1+1+1]? =E (cl #[G dd.isSome] 4))=>(Xc (c_ 0 h.1) (Xc (c_ 1 h.1) (Xc (c_ 2 h.1) (Xc (c_ 3 h.1) (Xc (c_ 4 h.1) (Xc (c_ 5 h.1) (Xc (c_ 6 h.1) (Xc (c_ 7 h.1) (Xc (c_ 8 h.1) (Xc (c_ 9 h.1) (c_ 0 h.2))))))))))));have bI:Hid (((((((((((A.setCell (x_ w 0) (V fa q p)).setCell (x_ w 1) (G Q)).setCell (x_ w 2) (V P W R)).setCell (x_ w 3) (i_ u)).setCell (x_ w 4) (V X Z Y)).setCell (x_ w 5) (V J N L)).setCell (x_ w 6) (V b g d)).setCell (x_ w 7) (V v y x)).setCell (x_ w 8) (V z I F)).setCell (x_ w 9) (V l o m)).drew.heap[w.heap.size+1+1]? =E (cl #[V fa q p,G Q,V P W R,i_ u,V X Z Y,V J N L,V b g d,V v y x,V z I F,V l o m] 116)/\((((((((((A.setCell (x_ w 0) (V fa q p)).setCell (x_ w 1) (G Q)).setCell (x_ w 2) (V P W R)).setCell (x_ w 3) (i_ u)).setCell (x_ w 4) (V X Z Y)).setCell (x_ w 5) (V J N L)).setCell (x_ w 6) (V b g d)).setCell (x_ w 7) (V v y x)).setCell (x_ w 8) (V z I F)).setCell (x_ w 9) (V l o m)).drew.heap[w.heap.size+1+1+1]? =E (cl #[G dd.isSome] 4)):=by
   rw[Hid,zhR];exact Xc (w2.some a3 (fun e=>om)) (w2.some a4 (fun e=>om))
  have bL:Hid (∀r,dd=E r->∃a7,zcH ((((((((((A.setCell (x_ w 0) (V fa q p)).setCell (x_ w 1) (G Q)).setCell (x_ w 2) (V P W R)).setCell (x_ w 3) (i_ u)).setCell (x_ w 4) (V X Z Y)).setCell (x_ w 5) (V J N L)).setCell (x_ w 6) (V b g d)).setCell (x_ w 7) (V v y x)).setCell (x_ w 8) (V z I F)).setCell (x_ w 9) (V l o m)).drew aims ⟨⟨(fa,q,p),⟨Q,P,W,R⟩,u⟩,⟨(X,Z,Y),(J,N,L)⟩,⟨(b,g,d),(v,y,x),(z,I,F),(l,o,m)⟩⟩ (Zd n aims k r,num) (QX n aims k r) (Z1 n aims k num r) a7):=fun r hr=>by
   obtain⟨a7,ab⟩:=a8 r hr;exact⟨a7,(ab.wr w2 (fun i s=>by rw[s];exact zh7 (t:=⟨⟨(O,0,0),⟨false,(O,0,0)⟩,0⟩,⟨(O,0,0),(O,0,0)⟩,⟨(O,0,0),(O,0,0),(O,0,0),(O,0,0)⟩⟩) au)).keep (zn.drew 0 _)⟩
  have bM:Hid (((((((((((A.setCell (x_ w 0) (V fa q p)).setCell (x_ w 1) (G Q)).setCell (x_ w 2) (V P W R)).setCell (x_ w 3) (i_ u)).setCell (x_ w 4) (V X Z Y)).setCell (x_ w 5) (V J N L)).setCell (x_ w 6) (V b g d)).setCell (x_ w 7) (V v y x)).setCell (x_ w 8) (V z I F)).setCell (x_ w 9) (V l o m)).drew.heap[w.heap.size+1]? =E (cl #[V fa q p,G Q,V P W R,i_ u,V X Z Y,V J N L,V b g d,V v y x,V z I F,V l o m] 116)):=by
   rw[Hid,zhR];exact p2
  have bQ:Hid (Ext w ((((((((((A.setCell (x_ w 0) (V fa q p)).setCell (x_ w 1) (G Q)).setCell (x_ w 2) (V P W R)).setCell (x_ w 3) (i_ u)).setCell (x_ w 4) (V X Z Y)).setCell (x_ w 5) (V J N L)).setCell (x_ w 6) (V b g d)).setCell (x_ w 7) (V v y x)).setCell (x_ w 8) (V z I F)).setCell (x_ w 9) (V l o m)).drew):=(qk bo w2 (fun i s=>om)).drew;have aO:Hid (((((((((((A.setCell (x_ w 0) (V fa q p)).setCell (x_ w 1) (G Q)).setCell (x_ w 2) (V P W R)).setCell (x_ w 3) (i_ u)).setCell (x_ w 4) (V X Z Y)).setCell (x_ w 5) (V J N L)).setCell (x_ w 6) (V b g d)).setCell (x_ w 7) (V v y x)).setCell (x_ w 8) (V z I F)).setCell (x_ w 9) (V l o m)).drew.heap[w1.heap.size]? =E (.deferred (E []))):=by
   rw[Hid,zhR];exact w2.some hd (fun e=>om)
  have bJ:=zf (Xc a3 a4);clear h1 h2 h3 a3 a4 a8 p2 w2 au b7;gi_wp2;refine Jc (S:=fun a0=>a0.cell? (w_ w 0)=E (V fa q p)/\a0.cell? (w_ w 1)=E (G Q)/\a0.cell? (w_ w 2)=E (V P W R)/\a0.cell? (w_ w 3)=E (i_ u)/\a0.cell? (w_ w 4)=E (V X Z Y)/\a0.cell? (w_ w 5)=E (V J N L)/\a0.cell? (w_ w 6)=E (V b g d)/\a0.cell? (w_ w 7)=E (V v y x)/\a0.cell? (w_ w 8)=E (V z I F)/\a0.cell? (w_ w 9)=E (V l o m)/\a0.cell? (v_ w 0)=E (G dd.isSome)) hm (aQ.out A bJ.out) (fun b5=>?_);refine tkv 0 ?_;refine tkv 1 ?_;refine rd1 2 fun K hK=>?_;go_simp;refine hK.out _ ((((((((((A.setCell (x_ w 0) (V fa q p)).setCell (x_ w 1) (G Q)).setCell (x_ w 2) (V P W R)).setCell (x_ w 3) (i_ u)).setCell (x_ w 4) (V X Z Y)).setCell (x_ w 5) (V J N L)).setCell (x_ w 6) (V b g d)).setCell (x_ w 7) (V v y x)).setCell (x_ w 8) (V z I F)).setCell (x_ w 9) (V l o m)).drew (aQ.out ((((((((((A.setCell (x_ w 0) (V fa q p)).setCell (x_ w 1) (G Q)).setCell (x_ w 2) (V P W R)).setCell (x_ w 3) (i_ u)).setCell (x_ w 4) (V X Z Y)).setCell (x_ w 5) (V J N L)).setCell (x_ w 6) (V b g d)).setCell (x_ w 7) (V v y x)).setCell (x_ w 8) (V z I F)).setCell (x_ w 9) (V l o m)).drew bI.out) (h:=fun b5=>?_);clear hK K;generalize ((((((((((A.setCell (x_ w 0) (V fa q p)).setCell (x_ w 1) (G Q)).setCell (x_ w 2) (V P W R)).setCell (x_ w 3) (i_ u)).setCell (x_ w 4) (V X Z Y)).setCell (x_ w 5) (V J N L)).setCell (x_ w 6) (V b g d)).setCell (x_ w 7) (V v y x)).setCell (x_ w 8) (V z I F)).setCell (x_ w 9) (V l o m)).drew=cd at *;refine tkv 3 ?_;refine zV kr ⟨rfl,?_⟩ _;clear b5 u0 f0 u1 f1 u2 f2 u3 f3 u4 f4 u5 f5 u6 f6 u7 f7 u8 f8 u9 f9;gi_wp2;refine qh aO.out ?_;have ao:=zn.putObj (B:=w.heap.size) (.deferred O) om aO.out rfl;have c2:=ao.block _ _ bM.out (.inr rfl);obtain⟨j0,j1,j2,j3,j4,j5,j6,j7,j8,j9⟩:=ten_cells c2;refine⟨tp #[ag #[V fa q p,G Q,V P W R,i_ u,V X Z Y,V J N L,V b g d,V v y x,V z I F,V l o m],G dd.isSome],by simp[results,results47,go_sem,j0,j1,j2,j3,j4,j5,j6,j7,j8,j9],⟨⟨(fa,q,p),⟨Q,P,W,R⟩,u⟩,⟨(X,Z,Y),(J,N,L)⟩,⟨(b,g,d),(v,y,x),(z,I,F),(l,o,m)⟩⟩,by rw[aN.out];rfl,fun r hr=>?_,ao.below bQ.out (zh _) (zh _)⟩;rw[aN.out]at hr;obtain⟨a7,ab⟩:=bL.out r hr;exact⟨a7,ab.keep ao⟩
 case stop=>exact fun _ _ _ _ _ _ h _=>h.elim
structure Fr (S g:Nat)(W0:H)(M:Nat->Prop)(A:H):Prop where
 size:W0.heap.size<=A.heap.size
 same:∀b,S<=b->b<W0.heap.size->b≠g->A.heap[b]? =W0.heap[b]?
 far:∀x,M x->x<S\/W0.heap.size<=x
theorem Fr.keep(h:Fr S g W0 M A)(e:zn B A A')(b:W0.heap.size<=B):Fr S g W0 M A':=by
 refine⟨zF h.size e.size,fun b l d m=>?_,h.far⟩;have i:=zK d h.size;rw[<-h.same b l d m,qD i];exact e.block b _ (qD i) (.inl om)
theorem Fr.wr{b:Nat->Prop}(h:Fr S g W0 M A)(i:Wr M A A')(m:∀x,b x->M x\/A.heap.size<=x):Fr S g W0 b A':=by
 refine⟨zF h.size i.size,fun d b e l=>?_,fun x p=>?_⟩
 ·have o:=zK e h.size;rw[<-h.same d b e l];exact i.block d o (fun e=>by rcases h.far d e with h|h<;>omega)
 ·rcases m x p with b|b
  ·exact h.far x b
  ·exact .inr (zF h.size b)
theorem Fr.priv(h:Fr S g W0 M A)(e:Wr (zaa B A) A A')(b:W0.heap.size<=B):Fr S g W0 M A':=by
 refine⟨zF h.size e.size,fun b i d l=>?_,h.far⟩;rw[<-h.same b i d l];exact e.block b (zK d h.size) (fun e=>by have:=e.1;omega)
theorem Fr.refl(S g:Nat)(W0:H)(h:∀x,M x->x<S):Fr S g W0 M W0:=⟨zh _,fun _ _ _ _=>rfl,fun x b=> .inl (h x b)⟩
theorem Fr.get(h:Fr S g W0 M A){o:Obj}(hb:W0.heap[b]? =E o)(h1:S<=b)(h2:b≠g):A.heap[b]? =E o:=(h.same b h1 (zd.1 hb).1 h2).trans hb
def zco (p:qF)(k:Nat):Nat:=((p.rows.take k).flatMap T.condRows).length
theorem zpA{p:qF}{k:Nat}(h:p.rows[k]? =E x):zco p (k+1)=zco p k+(T.condRows x).length:=by
 have b:=(zo.1 h).1;unfold zco;rw[(List.take_append_getElem b).symm,ZX,zM];have:p.rows[k]=x:=(zo.1 h).2;simp[this]
theorem zmd{p:qF}{k:Nat}{y:L_×Int}(h:p.rows[k]? =E x)(b:(T.condRows x)[j]? =E y):(T.rowsS p)[zco p k+j]? =E y:=by
 have d:=(zo.1 h).1;have e:p.rows[k]=x:=(zo.1 h).2;have d:p.rows=p.rows.take k++(x::p.rows.drop (k+1)):=by
  rw[<-e,List.getElem_cons_drop,zbp]
 have e:T.rowsS p=(p.rows.take k).flatMap T.condRows++(T.condRows x++((p.rows.drop (k+1)).flatMap T.condRows++(List.range p.n).flatMap fun i=>T.rangeRows p.n i (p.rg.getD i (0,0)))):=by
  unfold T.rowsS;conv=>lhs;rw[d]
  simp[ZX]
 rw[e,zG (by unfold zco;omega),show zco p k+j-((p.rows.take k).flatMap T.condRows).length=j by unfold zco;omega,zS (zo.1 b).1];exact b
theorem zme{p:qF}{k:Nat}(h:p.rows[k]? =E x)(b:j<(T.condRows x).length):zco p k+j<(T.rowsS p).length:=(zo.1 (zmd h (zg b))).1
def LdI (p:qF)(W W0:H)(J:Nat->(Nat->Prop)->H->Prop)(k:Nat)(M:Nat->Prop)(A:H):Prop:=J (zco p k) M A/\Fr W.heap.size W0.heap.size W0 M A
def LdX (p:qF)(Jx:Nat->H->Prop)(c:Code)(_k:Nat)(A:H):Prop:=c= .ret/\∃j,j<(T.rowsS p).length/\Jx j A
def LdJ (J:Nat->(Nat->Prop)->H->Prop)(W W0 A A2 W3:H)(g:Nat)(M0:Nat->Prop)(o:Nat)(k:Nat)(M:Nat->Prop)(X:H):Prop:=J (o+k) M X/\Fr W.heap.size g W0 M X/\Fr A.heap.size W3.heap.size W3 M X/\Wr M0 A2 X/\∀x,M x->M0 x\/A.heap.size<=x
def LdJx (Jx:Nat->H->Prop)(W W0 A A2 W3:H)(g:Nat)(M0:Nat->Prop)(o:Nat)(k:Nat)(X:H):Prop:=Jx (o+k) X/\Wr M0 A2 X/\Fr W.heap.size g W0 (fun _=>False) X/\Fr A.heap.size W3.heap.size W3 (fun _=>False) X
theorem zh8{M0:Nat->Prop}{X Y:H}(h:Wr M0 A X)(b:Wr M X Y)(g:∀x,x<A.heap.size->M x->M0 x):Wr M0 A Y:=
 ⟨b.os.trans h.os,b.tape.trans h.tape,b.output.trans h.output,zF h.size b.size,fun k d e=>(b.block k (zK d h.size) (fun b=>e (g k d b))).trans (h.block k d e)⟩
theorem zkS(p:qF){l:Nat}{J:Nat->(Nat->Prop)->H->Prop}{Jx:Nat->H->Prop}{C0:H->Prop}{W A A2 W3:H}{g0:Nat}{M0:Nat->Prop}{o:Nat}(z:∀k M A B,J k M A->zn W.heap.size A B->J k M B)(L:∀k A B,Jx k A->zn W.heap.size A B->Jx k B)(K:∀k M A B,J k M A->Wr (zaa W.heap.size A) A B->J k M B)(Q:∀k A B,Jx k A->Wr (zaa W.heap.size A) A B->Jx k B)(N:∀k M A,J k M A->C0 A/\∀x,M x->x<A.heap.size/\zcN A x)(R:∀k v M q,k<(T.rowsS p).length->zfY (T.rowsS p) k v q->J k M q->YieldAt Fence.wide 0 pg l v q fun e u=>
  (e=Xa (G true)/\Wr M q u/\∃F,J (k+1) F u/\∀x,F x->M x\/q.heap.size<=x)\/(e=Xa (G false)/\Wr M q u/\Jx k u))(Z:W.heap.size<=W0.heap.size)(D:W0.heap.size<=A.heap.size)(I:A.heap.size<=A2.heap.size)(y:A2.heap.size<=W3.heap.size){g:Nat}{b:W_}{Y:Nat->W_->H->Prop}{C:H->Prop}(m:SeqQ pg g b n Y C)(d:∀args w,(callFunc g args).run pg w= .ok (.enter g args) w)(s:∀k v W,Y k v W->∃r:RW,v=#[r.val])(i:∀k v A B,Y k v A->zn 0 A B->Y k v B)(P:∀k M X,LdJ J W W0 A A2 W3 g0 M0 o k M X->C X)(S:∀k v X,k<n->Y k v X->zfY (T.rowsS p) (o+k) v X/\o+k<(T.rowsS p).length)(h:LdJ J W W0 A A2 W3 g0 M0 o 0 M0 W3):
 C_ 154 #[.func (.func g) #[] b,.func (.yield l) #[] #[]] W3 fun e u=>∃t,e=Xa (G t)/\(t=true->∃M,LdJ J W W0 A A2 W3 g0 M0 o n M u)/\(t=false->∃k,k<n/\LdJx Jx W W0 A A2 W3 g0 M0 o k u):=by
 refine zn8 g b n Y C m d s i l (LdJ J W W0 A A2 W3 g0 M0 o) (LdJx Jx W W0 A A2 W3 g0 M0 o) M0 W3 ?_ ?_ ?_ ?_ ?_ ?_ h
 ·rintro k M X I ⟨s,i,d,m,D⟩ h;exact⟨z _ _ _ _ s (h.mono om),i.keep h om,d.keep h (zh _),m.keep (h.mono y),D⟩
 ·rintro k X I ⟨s,i,d,m⟩ h;exact⟨L _ _ _ s (h.mono om),i.keep (h.mono y),d.keep h om,m.keep h (zh _)⟩
 ·rintro k M X I ⟨s,i,d,m,D⟩ b;exact⟨K _ _ _ _ s (b.mono (fun L z=>⟨by have:=z.1;omega,z.2⟩)),i.priv b om,d.priv b (zh _),zh8 m b (fun x y K=>by have:=K.1;omega),D⟩
 ·rintro k X I ⟨s,i,d,m⟩ b;exact⟨Q _ _ _ s (b.mono (fun L z=>⟨by have:=z.1;omega,z.2⟩)),zh8 i b (fun x y K=>by have:=K.1;omega),d.priv b om,m.priv b (zh _)⟩
 ·intro k M X z;exact⟨P k M X z,(N _ _ _ z.1).2⟩
 ·rintro k v M q h I ⟨s,i,d,m,D⟩;obtain⟨Y,Z⟩:=S k v q h I;have I:∀x,x<A2.heap.size->M x->M0 x:=fun x y hm=>by
   rcases d.far x hm with z|z
   ·rcases D x hm with h|h
    ·exact h
    ·omega
   ·omega
  obtain⟨L,Q,h,K,N,P⟩:=R (o+k) v M q Z Y s;refine⟨L,Q,h,K,N,P.mono ?_⟩;rintro e u (⟨rfl,b,F,q,h⟩|⟨rfl,b,q⟩)
  ·refine .inl ⟨rfl,b,F,⟨q,i.wr b h,d.wr b h,zh8 m b I,fun x y=>?_⟩,h⟩;rcases h x y with z|z
   ·exact D x z
   ·exact .inr (by have:=d.size;omega)
  ·exact .inr ⟨rfl,b,q,zh8 m b I,i.wr b (fun x y=>y.elim),d.wr b (fun x y=>y.elim)⟩
structure LdC (p:qF)(cs:List zac)(rs:List RwV)(bc gR:Nat)(ao ap:A_)(cap kp bP:Nat)(W:H):Prop where
 c0:W.cell? (Xd bP 0 O)=E (V ao p.n cap)
 c1:W.cell? (Xd bP 1 O)=E (V ap p.rows.length kp)
 pm:PM p cs rs bc gR ao ap W
def rowY (rs:List RwV)(i j:Nat):Value:=((rs.getD i ⟨⟨#[]⟩,⟨false,(O,0,0)⟩,0,[]⟩).cells).getD j (G false)
def colY (cs:List zac)(i j:Nat):Value:=((cs.getD i ⟨⟨false,(O,0,0)⟩,⟨false,(O,0,0)⟩,⟨false,(O,0,0)⟩⟩).cells).getD j (G false)
theorem zsd{r:RwV}(h:rs[i]? =E r):rowY rs i 0=gS r.s/\rowY rs i 1=G r.b.b/\rowY rs i 2=r.b.sv/\rowY rs i 3=r.fv:=by
 have e:rs.getD i ⟨⟨#[]⟩,⟨false,(O,0,0)⟩,0,[]⟩=r:=by rw[zk,h];rfl
 unfold rowY;rw[e];exact⟨rfl,rfl,rfl,rfl⟩
theorem zne{cs:List zac}{c:zac}(h:cs[i]? =E c):colY cs i 0=G c.m.b/\colY cs i 1=c.m.sv/\colY cs i 2=G c.l.b/\colY cs i 3=c.l.sv/\colY cs i 4=G c.h.b/\colY cs i 5=c.h.sv:=by
 have e:cs.getD i ⟨⟨false,(O,0,0)⟩,⟨false,(O,0,0)⟩,⟨false,(O,0,0)⟩⟩=c:=by rw[zk,h];rfl
 unfold colY;rw[e];exact⟨rfl,rfl,rfl,rfl,rfl,rfl⟩
theorem PM.rowCells{p:qF}{cs:List zac}{d:A_}(h:PM p cs rs g b d e w):∀i j,i<p.rows.length->j<4->w.cell? ⟨b,i*4+j,O⟩=E (rowY rs i j):=by
 intro i j b d;have e:rs[i]? =E (rs.getD i ⟨⟨#[]⟩,⟨false,(O,0,0)⟩,0,[]⟩):=zgS _ (by rw[h.rl];exact b);refine h.row i _ e j _ ?_;exact zgS _ (by simpa[RwV.cells]using d)
theorem PM.colCells{p:qF}{cs:List zac}{d:A_}(h:PM p cs rs b g d e w):∀i j,i<p.n->j<6->w.cell? ⟨b,i*6+j,O⟩=E (colY cs i j):=by
 intro i j b d;have e:cs[i]? =E (cs.getD i ⟨⟨false,(O,0,0)⟩,⟨false,(O,0,0)⟩,⟨false,(O,0,0)⟩⟩):=zgS _ (by rw[h.cl];exact b);refine h.col i _ e j _ ?_;exact zgS _ (by simpa[zac.cells]using d)
theorem zfY.keep{rows:R_}:∀(k:Nat) (v:W_) (A B:H),zfY rows k v A->zn 0 A B->zfY rows k v B:=by
 rintro k v A B ⟨r,b,y,d,e⟩ g;exact⟨r,b,y,d,e.keep g⟩
theorem ziU{b d:Type}(f:b->List d)(h:∀x,(f x).length=2):∀l:List b,(l.flatMap f).length=2*l.length
 |[]=>rfl
 |a::l=>by rw[Qo,zM,h,ziU f h l,qi];omega
theorem zmS{b g:Type}{f:b->List g}(h:∀x,(f x).length=2){l:List b}{k:Nat}{a:b}(d:l[j]? =E a){y:g}(e:(f a)[k]? =E y):(l.flatMap f)[2*j+k]? =E y:=by
 have b:=(zo.1 d).1;have g:l[j]=a:=(zo.1 d).2;have b:l=l.take j++(a::l.drop (j+1)):=by rw[<-g,List.getElem_cons_drop,zbp]
 have d:((l.take j).flatMap f).length=2*j:=by rw[ziU f h,zX];omega
 conv=>lhs;rw[b]
 rw[ZX,Qo,zG om,d,show 2*j+k-2*j=k by omega,zS (zo.1 e).1];exact e
theorem ziV(p:qF):zco p p.rows.length=(p.rows.flatMap T.condRows).length:=by unfold zco;rw[Zx]
theorem zrp{p:qF}{k:Nat}(b:j<p.n){y:L_×Int}(d:(T.rangeRows p.n j (p.rg.getD j (0,0)))[k]? =E y):(T.rowsS p)[zco p p.rows.length+2*j+k]? =E y:=by
 unfold T.rowsS;rw[ziV,zG om,show(p.rows.flatMap T.condRows).length+2*j+k-(p.rows.flatMap T.condRows).length=2*j+k by omega];exact zmS (f:=fun i=>T.rangeRows p.n i (p.rg.getD i (0,0))) (fun i=>rfl) (zaL b) d
theorem zf0(p:qF):(T.rowsS p).length=zco p p.rows.length+2*p.n:=by
 unfold T.rowsS;rw[ziV,zM,ziU (fun i=>T.rangeRows p.n i (p.rg.getD i (0,0))) (fun i=>rfl),zah]
def unitSeq {w:H}{ao ap:A_}{n cap m kp j bp bj:Nat}(hn:n<=100000)(h0:w.cell? (Xd bp 0 O)=E (V ao n cap))(h1:w.cell? (Xd bp 1 O)=E (V ap m kp))(h2:w.cell? (Xd bj 0 O)=E (i_ (j:Nat))):zdT w 222 #[p_ bp 0,p_ bj 0] (T.unitRow n j) where
 Y:=UnitY j
 C:=fun W=>W.cell? (Xd bp 0 O)=E (V ao n cap)/\W.cell? (Xd bp 1 O)=E (V ap m kp)/\W.cell? (Xd bj 0 O)=E (i_ (j:Nat))
 seq:=by
  rw[show(T.unitRow n j).length=n by simp[T.unitRow]];exact zpv ao ap n cap m kp j bp bj hn
 ent:=qW Tryz.func222 (by kernel_rfl) rfl
 val:=by
  rintro k v W x hx ⟨t,rfl,ht⟩;unfold T.unitRow at hx;rw[zR]at hx;have hk:k<n:=by
   refine Ze fun hk=>?_
   rw[qL (by simpa using hk)]at hx;cases hx
  rw[zaL hk]at hx;simp only[qY,qN]at hx;rw[hx]at ht;exact⟨t,rfl,ht⟩
 one:=by
  rintro k v W ⟨t,rfl,ht⟩;rfl
 now:=⟨h0,h1,h2⟩
 old:=Jp (JV (zw h0)) (Jp (JV (zw h1)) (JV (zw h2)))
def LeI (p:qF)(W w1 w2:H)(J:Nat->(Nat->Prop)->H->Prop)(gA D:Nat)(ao:A_)(cap:Nat)(k:Nat)(M:Nat->Prop)(X:H):Prop:=
 ∃N,J (zco p p.rows.length+2*k) N X/\Fr W.heap.size w1.heap.size w1 N X/\X.heap[gA]? =E (cl #[i_ (k:Nat)] 3)/\X.heap[gA+1+1]? =E (cl #[V ao p.n cap] 70)/\X.heap[D]? =E (.deferred (E []))/\¬N gA/\¬N (gA+1+1)/\¬N D/\w2.heap.size<=X.heap.size/\∀x,M x↔N x\/x=gA
def LeX (p:qF)(Jx:Nat->H->Prop)(D:Nat)(c:Code)(_k:Nat)(X:H):Prop:=c= .ret/\(∃j,j<(T.rowsS p).length/\Jx j X)/\X.heap[D]? =E (.deferred (E []))
theorem zrq{L:Nat}(p:qF)(cs:List zac)(rs:List RwV)(bc gR:Nat)(u K:A_)(cap N bP:Nat)(hp:zbU L p)(hL:2+p.n<=L):
 SeqQ pg 152 #[p_ bP 0] (T.rowsS p).length (zfY (T.rowsS p)) (LdC p cs rs bc gR u K cap N bP):=by
 intro P a6 Jx M0 W hJ ai aC aK hC q h0;obtain⟨_,_⟩:=hp.n om;have bE:=hp.l;have aj:=(hC 0 M0 W h0).1.c0;have aD:=(hC 0 M0 W h0).1.c1;have bd:=(hC 0 M0 W h0).2;have bv:bP<W.heap.size:=zw aj;have b4:=zf (hC 0 M0 W h0).1.pm.hap;have b3:=zf (hC 0 M0 W h0).1.pm.hao;have b8:=zf (hC 0 M0 W h0).1.pm.rl;have b6:=zf (hC 0 M0 W h0).1.pm.cl;have D:=zf hC;have HY:=zf q;have b5:=zf hp.c;clear q hC;refine Q0 func152 ntmps152 (h:=?_);gi_wp2;refine(zq.2 (zrK K p.rows.length N (V u p.n cap) _)).mono ?_;rintro a1 w1 ⟨rfl,aE⟩;have Q:Ext W w1:=by rw[aE];exact(((Xe W).alloc _).alloc _).alloc _
 have b0:w1.heap[W.heap.size]? =E (cl #[.func (.yield P) #[] #[]] 228):=by
  rw[aE];exact(qH _ _ _ so).trans (Xk W _ _).1
 have b2:w1.heap[W.heap.size+1+1]? =E (cl #[V K p.rows.length N] 71):=by
  rw[aE];have:=zC ((W.alloc (cl #[.func (.yield P) #[] #[]] 228)).alloc (cl #[V u p.n cap,V K p.rows.length N] 73)) (cl #[V K p.rows.length N] 71);simpa using this
 clear aE aj aD;have bw:=(zd.1 b2).1;gi_wp2;refine ze6 (zlC (rowY rs) K gR p.rows.length N (W.heap.size+1+1) om b4.out).seq.own rfl (qW func252 kr rfl) (fun k aG e I=>by
  have l:k<p.rows.length:=by have:=(zo.1 I).1;rwa [zeI]at this
  rw[zhi l]at I;cases I;rfl)
  (LdI p W w1 a6) (LdX p Jx) M0 ?hI ?hIx ?hI2 ?hIx2 ?hC ?h0 ?round ?done ?stop
 case hI=>
  rintro k M A B ⟨g,o⟩ l;exact⟨hJ _ _ _ _ g (l.mono Q.size),o.keep l (zh _)⟩
 case hIx=>
  rintro c k A B ⟨g,j,o,h3⟩ l;exact⟨g,j,o,ai _ _ _ h3 (l.mono Q.size)⟩
 case hI2=>
  rintro k M A B ⟨g,o⟩ hw;exact⟨aC _ _ _ _ g (hw.mono (fun Z m=>⟨zF Q.size m.1,m.2⟩)),o.priv hw (zh _)⟩
 case hIx2=>
  rintro c k A B ⟨g,j,o,h3⟩ hw;exact⟨g,j,o,aK _ _ _ h3 (hw.mono (fun Z m=>⟨zF Q.size m.1,m.2⟩))⟩
 case hC=>
  rintro k M A ⟨g,o⟩;exact⟨⟨c_ 0 (o.get b2 om om),(D.out _ _ _ g).1.pm.rowCells⟩,(D.out _ _ _ g).2⟩
 case h0=>
  refine⟨hJ _ _ _ _ h0 (zn.of_below Q),Fr.refl _ _ _ (fun x d=>(bd x d).1)⟩
 case round=>
  rintro l2 k aG M A a7 I ⟨g,o⟩;rw[zeI]at a7;rw[zhi a7]at I;have d:=zg a7;obtain⟨a8,hr⟩:∃a8,rs[k]? =E a8:=⟨_,zg (by rw[b8.out];exact a7)⟩;obtain⟨y0,y1,y2,y3⟩:=zsd hr;rw[y0,y1,y2,y3]at I;cases I;have aW:=b5.out _ (zJ a7);generalize p.rows[k]=x at *;have b9:=(D.out _ _ _ g).2;have br:=o.size;have aI:=zf (fun k' F X (hj:a6 k' F X)=>(D.out k' F X hj).1.pm.roww k a8 x hr d);obtain⟨a4,⟨rb,⟨ra,rl,rc⟩⟩,rf,i⟩:=a8;simp only[WT.sv,RwV.fv];unfold Zz;gi_wp2;refine⟨Xg ((Xe A).alloc _),fun r ak=>?_⟩;have xA:=(zn.alloc w1.heap.size A (cl #[gS a4,G rb,V ra rl rc,V (E (Xd rf 0 O)) i.length i.length] 234)).trans ak;have v:=ak.block _ _ (zC A (cl #[gS a4,G rb,V ra rl rc,V (E (Xd rf 0 O)) i.length i.length] 234)) (.inr rfl);have d0:=c_ 0 v;have d1:=c_ 1 v;have d2:=c_ 2 v;have d3:=c_ 3 v;have g0:=c_ 0 (xA.block _ _ (o.get b0 (zh _) om) (.inr rfl));have aA:=hJ _ _ _ _ g ((xA.mono Q.size).trans (zn.drew _ _));have aQ:=(zd.1 v).1;have aH:Hid (∀W3,Ext r.drew W3->W3.heap[r.heap.size]? =E (cl #[gS a4,G rb,V ra rl rc,V (E (Xd rf 0 O)) i.length i.length] 234)->
   C_ 154 #[.func (.func 217) #[] #[p_ r.heap.size 0],.func (.yield P) #[] #[]] W3 fun a1 e=>∃z,a1=Xa (G z)/\(e.heap[A.heap.size]? =E (cl #[gS a4,G rb,V ra rl rc,V (E (Xd rf 0 O)) i.length i.length] 234)/\e.heap[W.heap.size]? =E (cl #[.func (.yield P) #[] #[]] 228))/\(z=true->Hid (ZL M (LdI p W w1 a6) (LdX p Jx) k A r .normal { tmps:=#[],defers:= [] } e))/\(z=false->Hid (ZL M (LdI p W w1 a6) (LdX p Jx) k A r .ret { tmps:=#[],defers:= [] } e))):=by
   intro W3 aw ae;have aZ:r.heap.size<=W3.heap.size:=aw.size;refine(zkS p (C0:=LdC p cs rs bc gR u K cap N bP) (J:=a6) (Jx:=Jx) (W:=W) (W0:=w1) (A:=A) (A2:=r) (W3:=W3) (g0:=w1.heap.size) (M0:=M) (o:=zco p k) hJ ai aC aK D.out HY.out Q.size br om aZ
    (zmQ r.heap.size ⟨a4,⟨rb,(ra,rl,rc)⟩,rf,i⟩ x aW.2 (by rw[aW.1];omega)) (qW func217 kr rfl) (fun _ _ _ ⟨a8,h,_⟩=>⟨a8,h⟩) zfY.keep ?_ ?_ ?_).mono ?_
   ·rintro k' F X ⟨J,y,s,t,j5⟩;have C:=s.get ae om (by have:=(zd.1 ae).1;omega);exact⟨c_ 0 C,c_ 1 C,c_ 2 C,c_ 3 C,aI.out _ _ _ J⟩
   ·rintro k' v' X aX ⟨r',q1,bs,q2,q3⟩;exact⟨⟨r',q1,bs,zmd d q2,q3⟩,zme d aX⟩
   ·exact⟨hJ _ _ _ _ aA (zn.of_below aw),(o.keep xA (zh _)).keep (B:=w1.heap.size) (zn.trans (zn.drew _ _) (zn.of_below aw)) (zh _),Fr.refl _ _ _ (fun x d=>(b9 x d).1),(Xp _ _).trans (Xg aw),fun x d=> .inl d⟩
   ·rintro a1 e ⟨z,rfl,t1,t2⟩;have e3:=(aw.block _ (show A.heap.size<r.drew.heap.size from aQ)).trans v;have bz:=(zd.1 e3).1;refine⟨z,rfl,?_,fun ht=>?_,fun ht=>?_⟩
    ·cases z with
     |true=>
      obtain⟨F,J,y,s,t,j5⟩:=t1 rfl;exact⟨s.get e3 (zh _) om,y.get b0 (zh _) om⟩
     |false=>
      obtain⟨j,hj,J,y,s,t⟩:=t2 rfl;exact⟨t.get e3 (zh _) om,s.get b0 (zh _) om⟩
    ·obtain⟨F,J,y,s,t,j5⟩:=t1 ht;exact⟨t,F,⟨by rw[zpA d];exact J,y⟩,j5⟩
    ·obtain⟨j,hj,J,y,s,t⟩:=t2 ht;exact⟨y,rfl,_,zme d hj,J⟩
  have an:=zf (fun(X:H) (C:Ext r.drew X)=>show(fun X=>X.cell? (y_ A 0)=E (gS a4)/\X.cell? (y_ A 1)=E (G rb)/\X.cell? (y_ A 2)=E (V ra rl rc)/\X.cell? (y_ A 3)=E (V (E (Xd rf 0 O)) i.length i.length)/\X.cell? (y_ W 0)=E (.func (.yield P) #[] #[])) X from⟨C.cell (show r.drew.cell? (y_ A 0)=_ from d0),C.cell (show r.drew.cell? (y_ A 1)=_ from d1),C.cell (show r.drew.cell? (y_ A 2)=_ from d2),C.cell (show r.drew.cell? (y_ A 3)=_ from d3),C.cell (show r.drew.cell? (y_ W 0)=_ from g0)⟩);have aq:=zf (fun(X:H) (C:X.heap[A.heap.size]? =E (Obj.cells #[gS a4,G rb,V ra rl rc,V (E (Xd rf 0 O)) i.length i.length] 234)/\X.heap[W.heap.size]? =E (Obj.cells #[.func (.yield P) #[] #[]] 228))=>show(fun X=>X.cell? (y_ A 0)=E (gS a4)/\X.cell? (y_ A 1)=E (G rb)/\X.cell? (y_ A 2)=E (V ra rl rc)/\X.cell? (y_ A 3)=E (V (E (Xd rf 0 O)) i.length i.length)/\X.cell? (y_ W 0)=E (.func (.yield P) #[] #[])) X from⟨c_ 0 C.1,c_ 1 C.1,c_ 2 C.1,c_ 3 C.1,c_ 0 C.2⟩);clear v g o;refine ZW ?_;refine zcE ?_;refine(show(Code.region _ _ _).wpIn _ _ _ _ _ _ from jK (S:=fun X=>X.cell? (y_ A 0)=E (gS a4)/\X.cell? (y_ A 1)=E (G rb)/\X.cell? (y_ A 2)=E (V ra rl rc)/\X.cell? (y_ A 3)=E (V (E (Xd rf 0 O)) i.length i.length)/\X.cell? (y_ W 0)=E (.func (.yield P) #[] #[])) hm (by rfl) (fun⟨a,w,h⟩=>h) ⟨d0,d1,d2,d3,g0⟩ (fun aa=>?_));refine tkl [0,2] ?_;refine rcl 1 (zn7 a4 rb ra (E (Xd rf 0 O)) rl rc i.length i.length _) ?_;rintro a1 w3 ⟨rfl,af⟩;have al:Ext r.drew w3:=by rw[af];exact(Xe _).alloc _
  have ae:w3.heap[r.heap.size]? =E (cl #[gS a4,G rb,V ra rl rc,V (E (Xd rf 0 O)) i.length i.length] 234):=by rw[af];exact zC r.drew _
  clear af;refine bk (by exact an.out _ al) fun aa=>?_
  refine rcl 3 (aH.out w3 al ae) ?_;rintro a1 W5 ⟨z,rfl,t0,t1,t2⟩;refine bk (by exact aq.out _ t0) fun aa=>?_
  refine rd1 4 fun au hK=>?_;go_simp;refine hK.out _ _ (by exact aq.out _ t0) (h:=fun aa=>?_);clear hK au;refine zV kr ?_ _;cases z with
  |true=>
   refine zd7 rfl ?_;exact wpIn_skip (t1 rfl).out
  |false=>
   refine zcQ rfl ?_;exact wpIn_ret (t2 rfl).out
 case stop=>
  rintro R c k A hD l ⟨rfl,j,hj,g⟩ hd;gi_wp2;refine qh hd ?_;exact⟨_,qI rfl _ _ _,⟨_,rfl⟩,.inr ⟨j,hj,ai _ _ _ g (zn.putObj _ (zF Q.size hD) hd rfl)⟩⟩
 case done=>
  rintro R M A aU be ⟨g,o⟩ hd;have aS:=zf aU;clear aU;rw[zeI]at g;have aj:=(D.out _ _ _ g).1.c0;have aD:=(D.out _ _ _ g).1.c1;have bt:bP<A.heap.size:=zw aj;have bb:=(zd.1 hd).1;have aV:=(D.out _ _ _ g).2;have q0:=zee (o:=cl #[i_ 0] 3) aj;have q1:=zee (o:=cl #[i_ 0] 3) aD;have yA:=o.get b0 (zh _) om;gi_wp2;refine(zq.2 (zgE u p.n cap (V K p.rows.length N) _)).mono ?_;rintro a1 w2 ⟨rfl,aF⟩;have x2:Ext A w2:=by rw[aF];exact(((Xe A).alloc _).alloc _).alloc _
  have bA:w2.heap[A.heap.size]? =E (cl #[i_ 0] 3):=by
   rw[aF];exact(qH _ _ _ so).trans (Xk A _ _).1
  have bC:w2.heap[A.heap.size+1+1]? =E (cl #[V u p.n cap] 70):=by
   rw[aF];have:=zC ((A.alloc (cl #[i_ 0] 3)).alloc (cl #[V u p.n cap,V K p.rows.length N] 73)) (cl #[V u p.n cap] 70);simpa using this
  clear aF aj aD q0 q1;have bx:=(zd.1 bC).1;have bF:=o.size;have ar:=zf x2.size;gi_wp2;refine ZT (zdK (colY cs) u bc p.n cap (A.heap.size+1+1) om b3.out).seq rfl (qW func215 kr rfl) (fun k aG e I=>by
   have l:k<p.n:=by have:=(zo.1 I).1;rwa [jJ]at this
   rw[zbx l]at I;cases I;rfl)
   (LeI p W w1 w2 a6 A.heap.size R u cap) (LeX p Jx R) (fun x=>M x\/x=A.heap.size) ?hI ?hIx ?hC ?h0 ?round ?done ?stop
  case hI=>
   rintro k F X Y ⟨ah,a3,n2,ab,ad,n5,n6,n7,n8,n9,a5⟩ l;exact⟨ah,hJ _ _ _ _ a3 (l.mono om),n2.keep l om,l.block _ _ ab (.inr rfl),l.block _ _ ad (.inr rfl),l.block _ _ n5 (.inl om),n6,n7,n8,zF n9 l.size,a5⟩
  case hIx=>
   rintro c k X Y ⟨e1,⟨j,e2,e3⟩,e4⟩ l;exact⟨e1,⟨j,e2,ai _ _ _ e3 (l.mono om)⟩,l.block _ _ e4 (.inl om)⟩
  case hC=>
   rintro k F X ⟨ah,a3,n2,ab,ad,n5,n6,n7,n8,n9,a5⟩;refine⟨⟨c_ 0 ad,(D.out _ _ _ a3).1.pm.colCells⟩,fun x d=>?_⟩;rcases(a5 x).1 d with d|rfl
   ·exact((D.out _ _ _ a3).2 x d).1
   ·exact(zd.1 ab).1
  case h0=>
   refine⟨M,hJ _ _ _ _ g (zn.of_below x2),o.keep (B:=w1.heap.size) (zn.of_below x2) (zh _),bA,bC,(x2.block _ bb).trans hd,fun h=>?_,fun h=>?_,fun h=>?_,zh _,fun x=>Qb⟩;·have:=(aV _ h).1;omega
   ·have:=(aV _ h).1;omega
   ·have:=be _ h;omega
  case round=>
   rintro l2 k aG F X a7 I ⟨ah,a3,n2,ab,ad,n5,n6,n7,n8,n9,a5⟩;rw[jJ]at a7;rw[zbx a7]at I;obtain⟨c,hcc⟩:∃c,cs[k]? =E c:=⟨_,zg (by rw[b6.out];exact a7)⟩;obtain⟨y0,y1,y2,y3,y4,y5⟩:=zne hcc;rw[y0,y1,y2,y3,y4,y5]at I;cases I;have bf:=(D.out _ _ _ a3).2;have aI:=zf (fun k' F Y (hj:a6 k' F Y)=>(D.out k' F Y hj).1.pm.colw k c hcc);obtain⟨⟨mb,⟨ma,ml,mc⟩⟩,⟨lb,⟨la,ll,lc⟩⟩,⟨m,⟨ha,hl,hc⟩⟩⟩:=c;simp only[WT.sv];unfold Zz;gi_wp2;refine⟨Xg ((Xe X).alloc _),fun b ak=>?_⟩;have xX:=(zn.alloc w2.heap.size X (cl #[G mb,V ma ml mc,G lb,V la ll lc,G m,V ha hl hc] 165)).trans ak;have v:=ak.block _ _ (zC X (cl #[G mb,V ma ml mc,G lb,V la ll lc,G m,V ha hl hc] 165)) (.inr rfl);have d0:=c_ 0 v;have d1:=c_ 1 v;have d2:=c_ 2 v;have d3:=c_ 3 v;have d4:=c_ 4 v;have d5:=c_ 5 v;have bG:=ar.out;have yX:=xX.block _ _ (n2.get b0 (zh _) om) (.inr rfl);have g0:=c_ 0 yX;have a2:=xX.block _ _ ab (.inr rfl);have a0:=c_ 0 a2;have c2:=xX.block _ _ ad (.inr rfl);have aT:=xX.block _ _ n5 (.inl om);have aA:=hJ _ _ _ _ a3 ((xX.mono om).trans (zn.drew _ _));have p0:=(D.out _ _ _ aA).1.c0;have p1:=(D.out _ _ _ aA).1.c1;have aQ:=(zd.1 v).1;have bi:=(zd.1 ab).1;have aH:Hid (∀(W4:H) (s3:Nat),Ext b.drew W4->b.heap.size<=s3->W4.heap[s3]? =E (cl #[G mb,V ma ml mc,G lb,V la ll lc,G m,V ha hl hc] 165)->W4.heap[s3+1]? =E (cl #[.func (.func 222) #[] #[p_ b.heap.size 0,p_ (b.heap.size+1) 0]] 171)->W4.heap[b.heap.size]? =E (cl #[V u p.n cap,V K p.rows.length N] 73)->W4.heap[b.heap.size+1]? =E (cl #[i_ (k:Nat)] 3)->
    C_ 154 #[.func (.func 221) #[] #[p_ (s3+1) 0,p_ s3 0],.func (.yield P) #[] #[]] W4 fun a1 e=>∃z,a1=Xa (G z)/\(e.heap[X.heap.size]? =E (cl #[G mb,V ma ml mc,G lb,V la ll lc,G m,V ha hl hc] 165)/\e.heap[W.heap.size]? =E (cl #[.func (.yield P) #[] #[]] 228)/\e.heap[A.heap.size]? =E (cl #[i_ (k:Nat)] 3))/\(z=true->Hid (ZL F (LeI p W w1 w2 a6 A.heap.size R u cap) (LeX p Jx R) k X b .normal { tmps:=#[],defers:= [] } (e.setCell (y_ A 0) (i_ ((k:Int)+1)))))/\(z=false->Hid (ZL F (LeI p W w1 w2 a6 A.heap.size R u cap) (LeX p Jx R) k X b .ret { tmps:=#[],defers:= [] } e))):=by
    intro W4 s3 ax aZ k1 k2 k3 k4;have bq:b.heap.size<=W4.heap.size:=ax.size;refine(zkS p (C0:=LdC p cs rs bc gR u K cap N bP) (J:=a6) (Jx:=Jx) (W:=W) (W0:=w1) (A:=X) (A2:=b) (W3:=W4) (g0:=w1.heap.size) (M0:=ah) (o:=zco p p.rows.length+2*k) hJ ai aC aK D.out HY.out Q.size om om bq
     (zn6 222 #[p_ b.heap.size 0,p_ (b.heap.size+1) 0] (s3+1) s3 ⟨lb,(la,ll,lc)⟩ ⟨m,(ha,hl,hc)⟩ (T.unitRow p.n k) (p.rg.getD k (0,0)).1 (p.rg.getD k (0,0)).2 (by simp[T.unitRow];omega)).own (qW func221 kr rfl) (fun _ _ _ ⟨a8,h,_⟩=>⟨a8,h⟩) (fun k aG A B ⟨a8,g,o⟩ l=>⟨a8,g,o.keep l⟩) ?_ ?_ ?_).mono ?_
    ·rintro k' av Y ⟨J,y,s,t,j5⟩;have l1:=(zd.1 k1).1;have l2:=(zd.1 k2).1;have l4:=(zd.1 k4).1;have z1:=s.get k1 om om;have z2:=s.get k2 om om;have z3:=s.get k3 om om;have z4:=s.get k4 om om;have hw:=aI.out _ _ _ J;exact⟨c_ 0 z2,c_ 2 z1,c_ 3 z1,c_ 4 z1,c_ 5 z1,hw.2.1,hw.2.2,⟨unitSeq om (c_ 0 z3) (c_ 1 z3) (c_ 0 z4)⟩⟩
    ·rintro k' v' Y aX ⟨r',q1,q3⟩;have aP:=zf0 p;refine⟨⟨r',q1,_,?_,q3⟩,om⟩;refine zrp a7 ?_;have bj:k'=0\/k'=1:=om;rcases bj with rfl|rfl<;>rfl
    ·exact⟨hJ _ _ _ _ aA (zn.of_below ax),(n2.keep xX om).keep (B:=w1.heap.size) (zn.trans (zn.drew _ _) (zn.of_below ax)) (zh _),Fr.refl _ _ _ (fun x d=>(bf x d).1),(Xp _ _).trans (Xg ax),fun x d=> .inl d⟩
    ·rintro a1 e ⟨z,rfl,t1,t2⟩;have e4:=(ax.block _ (show X.heap.size<b.drew.heap.size from aQ)).trans v;have bB:=(zd.1 e4).1;refine⟨z,rfl,?_,fun ht=>?_,fun ht=>?_⟩
     ·cases z with
      |true=>
       obtain⟨av,J,y,s,t,j5⟩:=t1 rfl;exact⟨s.get e4 (zh _) om,y.get b0 (zh _) om,t.some a2 n6⟩
      |false=>
       obtain⟨j,hj,J,y,s,t⟩:=t2 rfl;exact⟨t.get e4 (zh _) om,s.get b0 (zh _) om,y.some a2 n6⟩
     ·obtain⟨av,J,y,s,t,j5⟩:=t1 ht;have a9:=t.some a2 n6;have bn:Wr (zaa W.heap.size e) e (e.setCell (y_ A 0) (i_ ((k:Int)+1))):=zv (U:=zaa W.heap.size e) ⟨by have:=Q.size;omega,.inl ⟨_,_,a9⟩⟩ _;have bo:Wr (zaa w1.heap.size e) e (e.setCell (y_ A 0) (i_ ((k:Int)+1))):=zv (U:=zaa w1.heap.size e) ⟨om,.inl ⟨_,_,a9⟩⟩ _;have aY:∀Z aR,e.heap[Z]? =E aR->Z≠A.heap.size->(e.setCell (y_ A 0) (i_ ((k:Int)+1))).heap[Z]? =E aR:=fun Z aR m bD=>(qC _ _ _ _ so).trans m
      have aL:∀Z,Z<X.heap.size->¬ah Z->¬av Z:=fun Z m hn h=>by
       rcases j5 Z h with h|h
       ·exact hn h
       ·omega
      refine⟨(t.mono (fun x d=>(a5 x).2 (.inl d))).trans (zv ((a5 _).2 (.inr rfl)) _),fun x=>av x\/x=A.heap.size,⟨av,?_,y.priv bo (zh _),?_,aY _ _ (t.some c2 n7) om,aY _ _ (t.some aT n8) om,aL _ bi n6,aL _ (zd.1 ad).1 n7,aL _ (zd.1 n5).1 n8,?_,fun x=>Qb⟩,fun x d=>?_⟩
      ·have:=aC _ _ _ _ J bn;rw[show zco p p.rows.length+2*k+2=zco p p.rows.length+2*(k+1)by omega]at this;exact this
      ·rw[Xl a9];simp
      ·have:=t.size;have:=ak.size;simp at *;omega
      ·rcases d with d|d
       ·rcases j5 x d with h|h
        ·exact .inl ((a5 x).2 (.inl h))
        ·exact .inr h
       ·exact .inl ((a5 x).2 (.inr d))
     ·obtain⟨j,hj,J,y,s,t⟩:=t2 ht;have aP:=zf0 p;exact⟨y.mono (fun x d=>(a5 x).2 (.inl d)),rfl,⟨_,om,J⟩,y.some aT n8⟩
   have an:=zf (fun(Y:H) (q:Ext b.drew Y)=>show(fun Y=>Y.cell? (y_ X 0)=E (G mb)/\Y.cell? (y_ X 1)=E (V ma ml mc)/\Y.cell? (y_ X 2)=E (G lb)/\Y.cell? (y_ X 3)=E (V la ll lc)/\Y.cell? (y_ X 4)=E (G m)/\Y.cell? (y_ X 5)=E (V ha hl hc)/\Y.cell? (y_ W 0)=E (.func (.yield P) #[] #[])/\Y.cell? (y_ A 0)=E (i_ (k:Nat))) Y from⟨q.cell (show b.drew.cell? (y_ X 0)=_ from d0),q.cell (show b.drew.cell? (y_ X 1)=_ from d1),q.cell (show b.drew.cell? (y_ X 2)=_ from d2),q.cell (show b.drew.cell? (y_ X 3)=_ from d3),q.cell (show b.drew.cell? (y_ X 4)=_ from d4),q.cell (show b.drew.cell? (y_ X 5)=_ from d5),q.cell (show b.drew.cell? (y_ W 0)=_ from g0),q.cell (show b.drew.cell? (y_ A 0)=_ from a0)⟩);have aq:=zf (fun(Y:H) (q:Y.heap[X.heap.size]? =E (Obj.cells #[G mb,V ma ml mc,G lb,V la ll lc,G m,V ha hl hc] 165)/\Y.heap[W.heap.size]? =E (Obj.cells #[.func (.yield P) #[] #[]] 228)/\Y.heap[A.heap.size]? =E (Obj.cells #[i_ (k:Nat)] 3))=>show(fun Y=>Y.cell? (y_ X 0)=E (G mb)/\Y.cell? (y_ X 1)=E (V ma ml mc)/\Y.cell? (y_ X 2)=E (G lb)/\Y.cell? (y_ X 3)=E (V la ll lc)/\Y.cell? (y_ X 4)=E (G m)/\Y.cell? (y_ X 5)=E (V ha hl hc)/\Y.cell? (y_ W 0)=E (.func (.yield P) #[] #[])/\Y.cell? (y_ A 0)=E (i_ (k:Nat))) Y from⟨c_ 0 q.1,c_ 1 q.1,c_ 2 q.1,c_ 3 q.1,c_ 4 q.1,c_ 5 q.1,c_ 0 q.2.1,c_ 0 q.2.2⟩);have bu:(k:Int)<100:=om;clear v a3 n2 ab ad n5;refine ZW ?_;refine zcE ?_;refine zcE ?_;refine(show(Code.region _ _ _).wpIn _ _ _ _ _ _ from jK (S:=fun Y=>Y.cell? (y_ X 0)=E (G mb)/\Y.cell? (y_ X 1)=E (V ma ml mc)/\Y.cell? (y_ X 2)=E (G lb)/\Y.cell? (y_ X 3)=E (V la ll lc)/\Y.cell? (y_ X 4)=E (G m)/\Y.cell? (y_ X 5)=E (V ha hl hc)/\Y.cell? (y_ W 0)=E (.func (.yield P) #[] #[])/\Y.cell? (y_ A 0)=E (i_ (k:Nat))) hm (by rfl) (fun⟨a,w,h⟩=>h) ⟨d0,d1,d2,d3,d4,d5,g0,a0⟩ (fun aa=>?_));refine tkl [0,2,5] ?_;refine rd1 1 fun au hK=>?_;go_simp;refine hK.out _ _ (by exact an.out _ (Xe _)) (h:=fun aa=>?_);clear hK au;refine rcl 3 (zri u K p.n cap p.rows.length N (k:Nat) _) ?_;rintro a1 w3 ⟨rfl,af⟩;have al:Ext b.drew w3:=by rw[af];exact((Xe _).alloc _).alloc _
   have ae:w3.heap[b.heap.size]? =E (cl #[V u p.n cap,V K p.rows.length N] 73):=by rw[af];exact(Xk b.drew _ _).1
   have aM:w3.heap[b.heap.size+1]? =E (cl #[i_ (k:Nat)] 3):=by rw[af];exact(Xk b.drew _ _).2
   clear af;refine bk (by exact an.out _ al) fun aa=>?_
   refine rcl 4 (zlk mb lb m ma la ha ml mc ll lc hl hc _ _ _) ?_;rintro a1 w4 ⟨rfl,aB⟩;have b1:Ext b.drew w4:=by rw[aB];exact(al.alloc _).alloc _
   have aN:=(Xk w3 (cl #[G mb,V ma ml mc,G lb,V la ll lc,G m,V ha hl hc] 165) (cl #[.func (.func 222) #[] #[p_ b.heap.size 0,p_ (b.heap.size+1) 0]] 171));rw[<-aB]at aN;have bg:w4.heap[b.heap.size]? =E (cl #[V u p.n cap,V K p.rows.length N] 73):=by rw[aB];exact(qH _ _ _ (by have:=(zd.1 ae).1;simp;omega)).trans ((qH _ _ _ (zd.1 ae).1).trans ae)
   have bh:w4.heap[b.heap.size+1]? =E (cl #[i_ (k:Nat)] 3):=by rw[aB];exact(qH _ _ _ (by have:=(zd.1 aM).1;simp;omega)).trans ((qH _ _ _ (zd.1 aM).1).trans aM)
   have bp:=al.size;clear aB;refine bk (by exact an.out _ b1) fun aa=>?_
   refine rcl 6 (aH.out w4 w3.heap.size b1 bp aN.1 aN.2 bg bh) ?_;rintro a1 W5 ⟨z,rfl,t0,t1,t2⟩;refine bk (by exact aq.out _ t0) fun aa=>?_
   refine rd1 7 fun au hK=>?_;go_simp;refine hK.out _ _ (by exact aq.out _ t0) (h:=fun aa=>?_);clear hK au;refine zV kr ?_ _;cases z with
   |true=>
    refine zd7 rfl ?_;refine wpIn_skip ?_;have r9:=t0.2.2;have s0:=c_ 0 r9;have f0:=Xh (j:=0) r9;have T1:=t1 rfl;refine Qt (by rfl) (fun⟨a,w,h⟩=>h) ?_;clear t1 t2;go_wp2;exact T1.out
   |false=>
    refine zcQ rfl ?_;exact wpIn_ret (t2 rfl).out
  case done=>
   rintro D2 F X ba ⟨ah,a3,n2,ab,ad,n5,n6,n7,n8,n9,a5⟩ ay;rw[jJ]at a3;have aP:=zf0 p;have aJ:R≠D2:=by have:=ar.out;omega
   have az:=(Z4 (w:=X) (o:= .deferred O) aJ).trans n5;have aO:zn W.heap.size X ((X.putObj D2 (.deferred O)).putObj R (.deferred O)):=(zn.putObj _ (by have:=Q.size;have:=ar.out;omega) ay rfl).trans (zn.putObj _ (by have:=Q.size;have:=aS.out;omega) az rfl);have b7:=zf (hJ _ _ _ _ a3 aO);clear a3 n2 ab ad n6 n7 n8 a5;gi_wp2;refine qh ay (qh az ?_);rw[aP];exact⟨_,qI rfl _ _ _,⟨_,rfl⟩,.inl ⟨ah,b7.out⟩⟩
  case stop=>
   rintro D2 c k X ba l ⟨rfl,⟨j,hj,e1⟩,e5⟩ ay;have aJ:R≠D2:=by have:=ar.out;omega
   have az:=(Z4 (w:=X) (o:= .deferred O) aJ).trans e5;have aO:zn W.heap.size X ((X.putObj D2 (.deferred O)).putObj R (.deferred O)):=(zn.putObj _ (by have:=Q.size;have:=ar.out;omega) ay rfl).trans (zn.putObj _ (by have:=Q.size;have:=aS.out;omega) az rfl);gi_wp2;refine qh ay (qh az ?_);exact⟨_,qI rfl _ _ _,⟨_,rfl⟩,.inr ⟨j,hj,ai _ _ _ e1 aO⟩⟩
def AimY (p:qF)(k:Nat)(v:W_)(W:H):Prop:=∃t:WT,v=#[t.val]/\zy W t.val (p.mx.getD k 0)
def AimI (W W0:H)(J:Nat->(Nat->Prop)->H->Prop)(k:Nat)(M:Nat->Prop)(A:H):Prop:=J k M A/\Fr W.heap.size W0.heap.size W0 M A
def AimX (Jx:Nat->H->Prop)(c:Code)(k:Nat)(A:H):Prop:=c= .ret/\Jx k A
theorem zpB(p:qF)(cs:List zac)(rs:List RwV)(bc gR:Nat)(i L:A_)(cap X N:Nat)(hn:p.n<=1000):
 Ja pg 151 #[p_ N 0] p.n (AimY p) (LdC p cs rs bc gR i L cap X N):=by
 intro a4 J I h W t a1 hC hY h0;have a2:=(hC 0 h W h0).1.c0;have ad:=(hC 0 h W h0).1.c1;have ab:=(hC 0 h W h0).2;have ai:N<W.heap.size:=zw a2;have a6:=zf (hC 0 h W h0).1.pm.hao;have a7:=zf (hC 0 h W h0).1.pm.cl;have D:=zf hC;have HY:=zf hY;clear hY hC;refine Q0 func151 ntmps151 (h:=?_);gi_wp2;refine(zq.2 (zgE i p.n cap (V L p.rows.length X) _)).mono ?_;rintro af w1 ⟨rfl,v⟩;have m:Ext W w1:=by rw[v];exact(((Xe W).alloc _).alloc _).alloc _
 have b0:w1.heap[W.heap.size]? =E (cl #[.func (.yield a4) #[] #[]] 227):=by
  rw[v];exact(qH _ _ _ so).trans (Xk W _ _).1
 have b2:w1.heap[W.heap.size+1+1]? =E (cl #[V i p.n cap] 70):=by
  rw[v];have:=zC ((W.alloc (cl #[.func (.yield a4) #[] #[]] 227)).alloc (cl #[V i p.n cap,V L p.rows.length X] 73)) (cl #[V i p.n cap] 70);simpa using this
 clear v a2 ad;have aj:=(zd.1 b2).1;gi_wp2;refine ZT (zdK (colY cs) i bc p.n cap (W.heap.size+1+1) om a6.out).seq rfl (qW func215 kr rfl) (fun k ae W' g=>by
  have e:k<p.n:=by have:=(zo.1 g).1;rwa [jJ]at this
  rw[zbx e]at g;cases g;rfl)
  (AimI W w1 J) (AimX I) h ?hI ?hIx ?hC ?h0 ?round ?done ?stop
 case hI=>
  rintro k M A B ⟨b,d⟩ e;exact⟨t _ _ _ _ b (e.mono m.size),d.keep e (zh _)⟩
 case hIx=>
  rintro c k A B ⟨b,d⟩ e;exact⟨b,a1 _ _ _ d (e.mono m.size)⟩
 case hC=>
  rintro k M A ⟨b,d⟩;exact⟨⟨c_ 0 (d.get b2 om om),(D.out _ _ _ b).1.pm.colCells⟩,(D.out _ _ _ b).2⟩
 case h0=>exact⟨t _ _ _ _ h0 (zn.of_below m),Fr.refl _ _ _ (fun Y S=>ab Y S)⟩
 case round=>
  rintro l2 k ae M A u g ⟨b,d⟩;rw[jJ]at u;rw[zbx u]at g;obtain⟨c,hcc⟩:∃c,cs[k]? =E c:=⟨_,zg (by rw[a7.out];exact u)⟩;obtain⟨y0,y1,y2,y3,y4,y5⟩:=zne hcc;rw[y0,y1,y2,y3,y4,y5]at g;cases g;have a8:=zf (fun k' M' a0 (hj:J k' M' a0)=>((D.out k' M' a0 hj).1.pm.colw k c hcc).1);obtain⟨⟨y,⟨x,C,z⟩⟩,⟨lb,⟨la,ll,lc⟩⟩,⟨hb,⟨ha,hl,hc⟩⟩⟩:=c;simp only[WT.sv];unfold Zz;gi_wp2;refine⟨Xg ((Xe A).alloc _),fun r a3=>?_⟩;have Z:=(zn.alloc w1.heap.size A (cl #[G y,V x C z,G lb,V la ll lc,G hb,V ha hl hc] 165)).trans a3;have s:=a3.block _ _ (zC A (cl #[G y,V x C z,G lb,V la ll lc,G hb,V ha hl hc] 165)) (.inr rfl);have d0:=c_ 0 s;have d1:=c_ 1 s;have g0:=c_ 0 (Z.block _ _ (d.get b0 (zh _) om) (.inr rfl));have R:=t _ _ _ _ b (Z.mono m.size);have aa:=d.keep Z (zh _);have ak:=(zd.1 s).1;have a9:=zf (HY.out k #[ag #[G y,V x C z]] M r u ⟨⟨y,(x,C,z)⟩,rfl,a8.out _ _ _ R⟩ R);clear s b d R;gi_wp2;refine JS a9.out ?_ ?_
  ·rintro K ⟨l,M5,q,Q⟩;have F:Hid (ZL M (AimI W w1 J) (AimX I) k A r .normal { tmps:=#[],defers:= [] } K):=⟨l,M5,⟨q,aa.wr l Q⟩,fun Y S=>(Q Y S).imp id (fun ah=>om)⟩;clear l q Q;gi_wp2;exact F.out
  ·rintro K ⟨l,q⟩;have F:Hid (ZL M (AimI W w1 J) (AimX I) k A r .ret { tmps:=#[],defers:= [] } K):=⟨l,rfl,q⟩;clear l q;gi_wp2;exact F.out
 case done=>
  rintro a5 M A P ⟨b,d⟩ o;rw[jJ]at b;gi_wp2;refine qh o ?_;exact⟨_,qI rfl _ _ _,⟨_,rfl⟩,.inl ⟨M,t _ _ _ _ b (zn.putObj _ (zF m.size P) o rfl)⟩⟩
 case stop=>
  rintro a5 c k A P e ⟨rfl,b⟩ o;rw[jJ]at e;gi_wp2;refine qh o ?_;exact⟨_,qI rfl _ _ _,⟨_,rfl⟩,.inr ⟨k,e,a1 _ _ _ b (zn.putObj _ (zF m.size P) o rfl)⟩⟩
theorem zpC{p:qF}{cs:List zac}{d:A_}{cap l:Nat}(h:LdC p cs rs g i d e cap l b w):Jt w.heap.size (LdC p cs rs g i d e cap l b):=by
 intro A B d e;exact⟨JU e (p:=(Xd b 0 O)) (zw h.c0) d.c0,JU e (p:=(Xd b 1 O)) (zw h.c1) d.c1,zrj h.pm A B d.pm e⟩
def aimsSeq {w:H}{p:qF}{cs:List zac}{rs:List RwV}{bc gR:Nat}{ao ap:A_}{cap kp bP:Nat}(h:LdC p cs rs bc gR ao ap cap kp bP w)(hn:p.n<=1000)(hm:p.mx.length=p.n):zdT w 151 #[p_ bP 0] p.mx where
 Y:=AimY p
 C:=LdC p cs rs bc gR ao ap cap kp bP
 seq:=by
  rw[hm];exact zpB p cs rs bc gR ao ap cap kp bP hn
 ent:=qW Tryz.func151 (by kernel_rfl) rfl
 val:=by
  rintro k v W x hx ⟨t,rfl,ht⟩;rw[zk,hx]at ht;exact⟨t,rfl,ht⟩
 one:=by
  rintro k v W ⟨t,rfl,ht⟩;rfl
 now:=h
 old:=zpC h
end

section
open Go.RowKit
theorem zbH {B:Nat}{w:H}{v:Value}{zs:L_}(h:w.ownsRow B 3 1 v (ivs zs).length (ivs zs)):Jf w v zs:=by
 have b:=zep zs;rw[b]at h;obtain⟨d,e|⟨l,i,b,o,_,g,_,_,_,m⟩⟩:=h;·refine⟨O,0,by rw[e.1,e.2],fun d=>om⟩
 ·refine⟨_,i,o,fun d=>⟨l,0,rfl,(zd.1 g).1,fun i z d=>?_⟩⟩;have e:=(zo.1 d).1;have e:b.toList[i]? =E (i_ z):=by
   have:(b.toList.take (zs.length*1))[i]? =E (i_ z):=by rw[m,ivs,zR,d];rfl
   rwa [zaG om]at this
  have d:b[i]? =E (i_ z):=by rw[<-jz];exact e
  rw[qt];exact(ze _ _ i _ _ _ g).trans d
theorem zmf {B:Nat}{w:H}{g e d b m l:Value}{mx lo hi:L_}{gv:List Value}{gs:List (L_)}{ss rs:L_}(h:Pen B w (zen g e d b m l mx lo hi gv ss rs++zd2 gv gs))(i:gv.length=gs.length):zc7 w g e d b m l mx lo hi gs ss rs:=by
 refine⟨zbH (h.own 0 _ _ _ rfl),zbH (h.own 1 _ _ _ rfl),zbH (h.own 2 _ _ _ rfl),?_,zbH (h.own 4 _ _ _ rfl),zbH (h.own 5 _ _ _ rfl)⟩;have q:=h.own 3 _ _ _ rfl;rw[i]at q;obtain⟨i,p|⟨t,s,o,v,_,r,_,_,_,u⟩⟩:=q;·refine⟨O,0,by rw[p.1,p.2],fun i=>om⟩
 ·refine⟨_,s,v,fun i=>⟨t,0,rfl,(zd.1 r).1,fun i s q=>?_⟩⟩;have p:=(zo.1 q).1;have t:i<gv.length:=om;have p:=zg t;have v:(zen g e d b m l mx lo hi gv ss rs++zd2 gv gs)[6+i]? =E (gv[i],3,ivs s):=by
   rw[zG (by simp[zen])];have t:6+i-(zen g e d b m l mx lo hi gv ss rs).length=i:=by simp[zen]
   rw[t,zd2,zR,(Zf (z:=(gv[i],s))).2 ⟨p,q⟩];rfl
  have d:=h.own _ _ _ _ v;obtain⟨a,l,c,b⟩:=zbM d;have e:o.toList[i]? =E gv[i]:=by
   have:(o.toList.take (gs.length*1))[i]? =E gv[i]:=by rw[u];exact p
   rwa [zaG om]at this
  have g:o[i]? =E gv[i]:=by rw[<-jz];exact e
  rw[qt];refine⟨a,l,c,?_,?_⟩
  ·rw[<-b];exact(ze _ _ i _ _ _ r).trans g
  ·rw[<-b];exact zbH d
theorem zmT (s:ByteArray)(w:H)(hs:s.size<=9223372036854775807):
 C_ 4 #[gS s] w fun e w'=>∃(l i h g o m:Value) (mx lo hi:L_) (gs:List (L_)) (ss rs:L_),e=Xa (ag #[l,i,h,g,o,m])/\zc7 w' l i h g o m mx lo hi gs ss rs/\zai mx lo hi gs ss rs/\b_ w w':=by
 refine(zo1 s w hs).mono ?_;rintro e w' ⟨B,n,l,i,h,g,o,m,mx,lo,hi,gv,gs,ss,rs,rfl,_,b,d,p,q,r,t⟩;exact⟨l,i,h,g,o,m,mx,lo,hi,gs,ss,rs,rfl,zmf r q,⟨by rw[b.m];omega,by rw[b.m];omega,by rw[b.l,b.m],by rw[b.h,b.m],p,d.s,d.r,b.bm,b.bl,b.bh,b.w,fun g h=>⟨by rw[b.m];exact(d.bg g h).1,(d.bg g h).2⟩,d.bs,d.br⟩,t⟩
