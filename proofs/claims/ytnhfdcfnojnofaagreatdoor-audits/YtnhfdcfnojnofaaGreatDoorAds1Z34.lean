import Derived.Test.YtnhfdcfnojnofaaGreatDoorAds1Z31
import Derived.Test.YtnhfdcfnojnofaaGreatDoorTie
import Derived.Test.YtnhfdcfnojnofaaGreatDoorCards
open Option renaming none->O,some->E
open Go.Value renaming slice->V,bool->G,string->gS,pointer->pn,int->it,agg->ag
open Go.Obj renaming cells->cl
open Go renaming World->H
open Go.Proofs.Tryz renaming prog->pg
open Go.Proofs.Tryz
set_option linter.unusedSimpArgs false
set_option linter.unusedVariables false
set_option maxHeartbeats 4000000
set_option maxRecDepth 100000
namespace Go.Proofs.YtnhfdcfnojnofaaGreatDoor
open Go.RowKit
theorem zdh {P:Program}{n l:Nat}{f:Array Oper}{Q:Exit->Act->H->Prop}(b:¬LetsOut Q):∀(os:List Oper) (a:Act) (w:H),(∀o∈os,∀c,o.op≠ .defer c)->wpList P f Q os a w->wpListIn (Fence.wide.inRound l) n P f Q os a w
 |[],a,w,_,h=>h
 |o::rest,a,w,d,h=>by
  unfold wpList at h;unfold wpListIn;split
  ·rename_i e
   rw[z8 e]at h;rcases h with h|h
   ·refine⟨fun _ _=>trivial,?_⟩;rw[Oper.semAt_eq _ _ _ (d o ZS)];exact zfE (fun a w h=>zdh b rest a w (fun o ho=>d o (Zu _ ho)) h) h
   ·exact absurd h.2 b
  ·rename_i e
   rw[zW e]at h;exact⟨fun _ _=>trivial,zdh b rest _ _ (fun o ho=>d o (Zu _ ho)) h⟩
theorem JJ {P:Program}{n l id:Nat}{b:Array Oper}{Q:Exit->Act->H->Prop}{a:Act}{w:H}(d:b.toList.all (fun o=>match o.op with|.defer _=>false|_=>true)=true)(c:¬LetsOut Q)
 (h:wpList P b Q b.toList a w):(Code.region id b false).wpIn (Fence.wide.inRound l) n P Q a w:=by
 refine wpIn_region_list (zdh c _ _ _ (fun o c b b=>?_) h);have:=qR.1 d o c;rw[b]at this;cases this
def QI (w:H)(k:Nat)(t:TypeId):Prop:=∃cs fr,w.heap[k]? =E (cl cs t fr)
theorem QI.lt {w:H}{k:Nat}{t:TypeId}(h:QI w k t):k<w.heap.size:=by
 obtain⟨_,_,h⟩:=h;exact(zf.1 h).1
theorem QI.keep {B:Nat}{w w':H}{k:Nat}{t:TypeId}(h:QI w k t)(c:zw B w w'):QI w' k t:=by
 obtain⟨a,b,h⟩:=h;exact⟨a,b,c.block k _ h (.inr rfl)⟩
theorem QI.same {w w':H}{k:Nat}{t:TypeId}(h:QI w k t)(c:w'.heap[k]? =w.heap[k]?):QI w' k t:=by
 obtain⟨a,b,h⟩:=h;exact⟨a,b,c.trans h⟩
theorem QI.one {w:H}{k:Nat}{t b:TypeId}(h:QI w k t)(a:QI w k b):t=b:=by
 obtain⟨_,_,h⟩:=h;obtain⟨_,_,a⟩:=a;rw[h]at a;simp only[z7,zcS]at a;exact a.2.1
def Qk (w:H)(t:TypeId)(v:Value)(size:Nat)(css:List (List Value)):Prop:=
 (v=V O 0 0/\css= [])\/∃g off cap,v=V (E ⟨g,off,O⟩) css.length cap/\css.length<=cap/\QI w g t/\∀(i:Nat) (cs:List Value),css[i]? =E cs->∀(j:Nat) (u:Value),cs[j]? =E u->w.cell? ⟨g,off+i*size+j,O⟩=E u
theorem Qk.recs {w:H}{t:TypeId}{v:Value}{size:Nat}{a:List (List Value)}(h:Qk w t v size a):T.Recs w v size a:=by
 rcases h with h|⟨g,f,a,b,c,d,e⟩
 ·exact Or.inl h
 ·exact Or.inr ⟨g,f,a,b,c,d.lt,e⟩
theorem Qk.shape {w:H}{t:TypeId}{v:Value}{size:Nat}{a:List (List Value)}(h:Qk w t v size a):∃b cap,v=V b a.length cap:=h.recs.shape
theorem Qk.keep {B:Nat}{w w':H}{t:TypeId}{v:Value}{size:Nat}{a:List (List Value)}(h:Qk w t v size a)(b:zw B w w'):Qk w' t v size a:=by
 rcases h with h|⟨g,i,a,c,d,e,f⟩
 ·exact Or.inl h
 ·exact Or.inr ⟨g,i,a,c,d,e.keep b,fun i a c j u d=>b.cell (f i a c j u d)⟩
theorem Qk.ext {w w':H}{t:TypeId}{v:Value}{size:Nat}{a:List (List Value)}(h:Qk w t v size a)(b:Ext w w'):Qk w' t v size a:=h.keep (B:=0) (zw.of_below b)
theorem Qk.wr {U:Nat->Prop}{w w':H}{t:TypeId}{v:Value}{size:Nat}{a:List (List Value)}(h:Qk w t v size a)(c:Wr U w w')(m:∀k,U k->¬QI w k t):Qk w' t v size a:=by
 rcases h with h|⟨g,d,e,i,j,a,l⟩
 ·exact Or.inl h
 ·have b:¬U g:=fun f=>m g f a
  exact Or.inr ⟨g,d,e,i,j,a.same (c.block g a.lt b),fun i a e j u f=>c.cell (p:=⟨g,d+i*size+j,O⟩) b (l i a e j u f)⟩
theorem Qk.nil (w:H)(t:TypeId)(size:Nat):Qk w t (V O 0 0) size []:=Or.inl ⟨rfl,rfl⟩
theorem qP.keep {B:Nat}{w w':H}{x:Value}{p:Int}{q:Nat}(h:qP w x p q)(a:zw B w w'):qP w' x p q:=by
 obtain⟨b,v,u,c,d,e,f,g⟩:=h;exact⟨b,v,u,c,d.keep a,e,f.keep a,g⟩
theorem qP.wr {U:Nat->Prop}{w w':H}{x:Value}{p:Int}{q:Nat}(h:qP w x p q)(b:Wr U w w')(a:∀k,U k->qU w k):qP w' x p q:=by
 obtain⟨c,v,u,d,e,f,g,i⟩:=h;exact⟨c,v,u,d,e.wr b a,f,g.wr b a,i⟩
def Jm (w:H)(v:Value)(zs:List Int):Prop:=
 ∃ts:List WT,ts.length=zs.length/\Qk w 101 v 2 (ts.map WT.cells)/\∀(i:Nat) (t:WT) (z:Int),ts[i]? =E t->zs[i]? =E z->zY w t.val z
def zdZ (w:H)(v:Value)(qs:List (Int×Nat)):Prop:=
 ∃ts:List T.Tri,ts.length=qs.length/\Qk w 103 v 3 (ts.map T.Tri.cells)/\∀(i:Nat) (t:T.Tri) (q:Int×Nat),ts[i]? =E t->qs[i]? =E q->qP w t.val q.1 q.2
theorem Jm.keep {B:Nat}{w w':H}{v:Value}{zs:List Int}(h:Jm w v zs)(a:zw B w w'):Jm w' v zs:=by
 obtain⟨e,b,c,d⟩:=h;exact⟨e,b,c.keep a,fun i t z b c=>(d i t z b c).keep a⟩
theorem Jm.ext {w w':H}{v:Value}{zs:List Int}(h:Jm w v zs)(a:Ext w w'):Jm w' v zs:=h.keep (B:=0) (zw.of_below a)
theorem Jm.wr {U:Nat->Prop}{w w':H}{v:Value}{zs:List Int}(h:Jm w v zs)(c:Wr U w w')(b:∀k,U k->¬QI w k 101/\qU w k):Jm w' v zs:=by
 obtain⟨f,a,d,e⟩:=h;exact⟨f,a,d.wr c (fun k a=>(b k a).1),fun i t z d f=>(e i t z d f).wr c (fun k a=>(b k a).2)⟩
theorem zdZ.keep {B:Nat}{w w':H}{v:Value}{b:List (Int×Nat)}(h:zdZ w v b)(a:zw B w w'):zdZ w' v b:=by
 obtain⟨e,b,c,d⟩:=h;exact⟨e,b,c.keep a,fun i t z b c=>(d i t z b c).keep a⟩
theorem zdZ.wr {U:Nat->Prop}{w w':H}{v:Value}{a:List (Int×Nat)}(h:zdZ w v a)(c:Wr U w w')(b:∀k,U k->¬QI w k 103/\qU w k):zdZ w' v a:=by
 obtain⟨f,a,d,e⟩:=h;exact⟨f,a,d.wr c (fun k a=>(b k a).1),fun i t z d f=>(e i t z d f).wr c (fun k a=>(b k a).2)⟩
structure Grw (B:Nat)(t:TypeId)(size:Nat)(w:H)(v:Value)(css:List (List Value)):Prop where
 own:w.ownsRow B t size v css.length css.flatten
 dig:∀g,v.ownBlock=E g->qU w g
 siz:∀cs∈css,cs.length=size
theorem Grw.nil (B:Nat)(t:TypeId)(size:Nat)(w:H):Grw B t size w (V O 0 0) []:=⟨Ze _ _ _ _,(fun g h=>by cases h),(fun a h=>by cases h)⟩
theorem Grw.type {B:Nat}{t:TypeId}{size:Nat}{w:H}{v:Value}{a:List (List Value)}(h:Grw B t size w v a):∀g,v.ownBlock=E g->QI w g t/\B<=g:=by
 intro g a;obtain⟨_,b|⟨_,_,_,e,c,d,_⟩⟩:=h.own;·rw[b.1]at a;cases a
 ·rw[e]at a;simp[Value.ownBlock]at a;subst a;exact⟨⟨_,_,d⟩,c⟩
theorem Grw.shape {B:Nat}{t:TypeId}{size:Nat}{w:H}{v:Value}{b:List (List Value)}(h:Grw B t size w v b):∃a c,v=V a b.length c:=by
 obtain⟨_,b|⟨_,_,_,d,_⟩⟩:=h.own;·exact⟨O,0,by rw[b.1,b.2]⟩
 ·exact⟨_,_,d⟩
theorem Grw.list {B:Nat}{t:TypeId}{size:Nat}{w:H}{v:Value}{a:List (List Value)}(h:Grw B t size w v a):Qk w t v size a:=by
 have a:=T.zfK h.own h.siz;rcases a with a|⟨g,f,c,b,d,_,e⟩
 ·exact Or.inl a
 ·exact Or.inr ⟨g,f,c,b,d,(h.type g (by rw[b];rfl)).1,e⟩
theorem Grw.keep {C:Nat}{B:Nat}{t:TypeId}{size:Nat}{w w':H}{v:Value}{a:List (List Value)}(h:Grw B t size w v a)(b:zw C w w'):Grw B t size w' v a:=by
 refine⟨?_,fun g a=>(h.dig g a).keep b,h.siz⟩;obtain⟨a,e|⟨g,c,d,n,k,l,m,f,i,j⟩⟩:=h.own;·exact⟨a,Or.inl e⟩
 ·exact⟨a,Or.inr ⟨g,c,d,n,k,b.block g _ l (.inr rfl),m,f,i,j⟩⟩
theorem Grw.ext {B:Nat}{t:TypeId}{size:Nat}{w w':H}{v:Value}{a:List (List Value)}(h:Grw B t size w v a)(b:Ext w w'):Grw B t size w' v a:=h.keep (C:=0) (zw.of_below b)
theorem Grw.same {B:Nat}{t:TypeId}{size:Nat}{w w':H}{v:Value}{a:List (List Value)}(h:Grw B t size w v a)(hs:w.heap.size<=w'.heap.size)(b:∀g,v.ownBlock=E g->w'.heap[g]? =w.heap[g]?):Grw B t size w' v a:=
 ⟨T.zaJ h.own hs b,fun g a=>(h.dig g a).same (b g a),h.siz⟩
theorem Grw.more {B:Nat}{t:TypeId}{size:Nat}{w w':H}{v:Value}{a:List (List Value)}{cs:List Value}{g cap:Nat}(h:Grw B t size w v a)(b:cs.length=size)(ho:w'.ownsRow B t size (V (E ⟨g,0,O⟩) (a.length+1) cap) (a.length+1) (a.flatten++cs))(c:qU w' g):Grw B t size w' (V (E ⟨g,0,O⟩) (a.length+1) cap) (a ++ [cs]):=by
 refine⟨?_,fun k d=>?_,fun x a=>?_⟩
 ·rw[zX,qF,<-T.zh6];exact ho
 ·have e:g=k:=by simpa[Value.ownBlock]using d
  rw[<-e];exact c
 ·rcases Zs.1 a with a|a
  ·exact h.siz x a
  ·rw[Qo.1 a];exact b
def jA (N:Nat)(C:H->Prop):Prop:=∀A B:H,C A->(∀(k:Nat) (o:Obj),k<N->A.heap[k]? =E o->o.isCells=true->B.heap[k]? =E o)->C B
theorem jA.keep {N B:Nat}{C:H->Prop}(h:jA N C){X Y:H}(a:C X)(b:zw B X Y):C Y:=h X Y a (fun k o _ c a=>b.block k o c (.inr a))
theorem jA.wr {N:Nat}{C:H->Prop}(h:jA N C){U:Nat->Prop}{X Y:H}(a:C X)(c:Wr U X Y)(b:∀k,U k->N<=k):C Y:=h X Y a (fun k o a a _=>c.some a (fun e=>by have:=b k e;omega))
theorem jA.below {N:Nat}{C:H->Prop}(h:jA N C){X Y:H}(b:C X)(a:Ext X Y):C Y:=h.keep (B:=0) b (zw.of_below a)
theorem jA.mono {N a:Nat}{C:H->Prop}(h:jA N C)(c:N<=a):jA a C:=fun A B a b=>h A B a (fun k o a=>b k o (zv a c))
theorem rec_new (w:H)(cs:List Value)(t:TypeId):∀(j:Nat) (u:Value),cs[j]? =E u->(w.alloc (cl cs.toArray t)).cell? ((⟨w.heap.size,0,O⟩:Addr).add j)=E u:=by
 intro j u h;exact Jw (zq w (cl cs.toArray t)) j u (by simpa using h)
theorem zbt {U:Nat->Prop}{w w':H}{row:Option Nat}(a:w.grownBy w' row)(d:∀g,row=E g->U g):Wr U w w':=
 ⟨a.os,a.tape,a.output,a.size,fun k b c=>a.block k b (fun e=>c (d k e.symm))⟩
theorem qS {U:Nat->Prop}{w:H}{g i:Nat}(a:U g)(v:Value):Wr U w (w.setCell ⟨g,i,O⟩ v):=(Wr.refl U w).setCell (p:=⟨g,i,O⟩) a v
theorem zgK {B:Nat}{t tb:TypeId}{size gb:Nat}{A A4:H}{v:Value}{css:List (List Value)}{cs:List Value}{g cap:Nat}{fr:Nat×Nat}{o:Obj}(hG:Grw B t size A v css)(hc:cs.length=size)(ho:A4.ownsRow B t size (V (E ⟨g,0,O⟩) (css.length+1) cap) (css.length+1) (css.flatten++cs))(hd:qU A4 g)(hg:(A.alloc o).grownBy A4 v.ownBlock)(hb:A.heap[gb]? =E (cl #[v] tb fr))(hB:gb<B)(hat:v.ownBlock=E g\/g=(A.alloc o).heap.size):
 Wr (fun b=>b=gb\/v.ownBlock=E b) A (A4.setCell ⟨gb,0,O⟩ (V (E ⟨g,0,O⟩) (css.length+1) cap))/\
 (A4.setCell ⟨gb,0,O⟩ (V (E ⟨g,0,O⟩) (css.length+1) cap)).heap[gb]? =E (cl #[V (E ⟨g,0,O⟩) (css.length+1) cap] tb fr)/\
 Grw B t size (A4.setCell ⟨gb,0,O⟩ (V (E ⟨g,0,O⟩) (css.length+1) cap)) (V (E ⟨g,0,O⟩) (css.length+1) cap) (css ++ [cs])/\
 (∀k,k=gb\/(V (E ⟨g,0,O⟩) (css.length+1) cap).ownBlock=E k->(k=gb\/v.ownBlock=E k)\/A.heap.size<=k):=by
 have hlt:=(zf.1 hb).1;have e4:=(hg.block gb so (fun e=>by have:=(hG.type gb e.symm).2;omega)).trans ((zI _ _ _ hlt).trans hb);have hgB:=(ho.lt g rfl).1;refine⟨?_,?_,?_,?_⟩;·exact((Wr.of_below ((Ext.refl A).alloc o)).trans (zbt hg (fun k hk=>Or.inr hk))).trans (qS (Or.inl rfl) _)
 ·rw[T.zev e4];rfl
 ·refine(hG.ext ((Ext.refl A).alloc o)).more hc ho hd |>.same sp (fun k hk=>?_)
  have e:g=k:=by simpa[Value.ownBlock]using hk
  exact zK _ _ _ _ so
 ·rintro k (rfl|hk);·exact .inl (.inl rfl)
  ·have e:g=k:=by simpa[Value.ownBlock]using hk
   subst e;rcases hat with h|h
   ·exact .inl (.inr h)
   ·exact .inr (by rw[h];simp)
attribute [local go_sem] qm qW ZR
structure ST where
 s:ByteArray
def ST.val (t:ST):Value:=gS t.s
def ST.cells (t:ST):List Value:= [gS t.s]
structure RW where
 f:Option Addr×Nat×Nat
 t:WT
def RW.fv (r:RW):Value:=V r.f.1 r.f.2.1 r.f.2.2
def RW.val (r:RW):Value:=ag #[r.fv,G r.t.b,r.t.sv]
def RW.cells (r:RW):List Value:= [r.fv,G r.t.b,r.t.sv]
def QC (w:H)(r:RW)(x:List Int×Int):Prop:=Jm w r.fv x.1/\zY w r.t.val x.2
theorem QC.keep {B:Nat}{w w':H}{r:RW}{x:List Int×Int}(h:QC w r x)(a:zw B w w'):QC w' r x:=⟨h.1.keep a,h.2.keep a⟩
theorem QC.ext {w w':H}{r:RW}{x:List Int×Int}(h:QC w r x)(a:Ext w w'):QC w' r x:=h.keep (B:=0) (zw.of_below a)
theorem QC.wr {U:Nat->Prop}{w w':H}{r:RW}{x:List Int×Int}(h:QC w r x)(b:Wr U w w')(a:∀k,U k->¬QI w k 101/\qU w k):QC w' r x:=⟨h.1.wr b a,h.2.wr b (fun k b=>(a k b).2)⟩
theorem ze9:(Tryz.prog.info? 101).map (fun i=>(i.zero,i.size,i.bytes))=E (E (ag #[G false,V O 0 0]),2,32):=kr
def zhf (w:H)(C:H->Prop)(xs:List Int)(k:Nat)(M:Nat->Prop)(A:H):Prop:=
 C A/\Below w.heap.size w A/\w.heap.size<A.heap.size/\k<=xs.length/\∃(v:Value) (ts:List WT) (fr:Nat×Nat),ts.length=k/\A.heap[w.heap.size]? =E (cl #[v] 158 fr)/\A.frozen? ⟨w.heap.size,0,O⟩=false/\Grw (w.heap.size+1) 101 2 A v (ts.map WT.cells)/\(∀(i:Nat) (t:WT) x,ts[i]? =E t->xs[i]? =E x->zY A t.val x)/\∀b,M b↔b=w.heap.size\/v.ownBlock=E b
theorem zhg (g:Nat)(lb:Array Value)(j:List Int)(a0:Nat->Array Value->H->Prop)(C:H->Prop)(ai:J0 pg g lb j.length a0 C)(eg:∀args w,(callFunc g args).run pg w= .ok (.enter g args) w)
 (hY:∀k v W x,j[k]? =E x->a0 k v W->∃t:WT,v=#[t.val]/\zY W t.val x) (ax:∀k v W,a0 k v W->v.size=1) (hn:j.length<=100000) (w:H) (hC:C w) (hL:jA w.heap.size C):
 Calls pg 343 #[V O 0 0,.func (.func g) #[] lb] w fun e w'=>∃(v:Value) (ts:List WT),e= .returned v/\ts.length=j.length/\Qk w' 101 v 2 (ts.map WT.cells)/\(∀(i:Nat) (t:WT) x,ts[i]? =E t->j[i]? =E x->zY w' t.val x)/\(∀g,v.ownBlock=E g->w.heap.size<=g)/\Below w.heap.size w w':=by
 obtain⟨i0,az,aE,aF,aG⟩:=qL ze9;have HC:=zi hC;have au:=zi ai;have HY:=zi hY;have X:=zi hL;clear hC ai hY hL;have aa:Ext w (w.alloc (cl #[V O 0 0] 158)):=(Ext.refl w).alloc _;have a9:=zq w (cl #[V O 0 0] 158);have aC:∀a5:Prop,Hid a5->a5:=fun a5 h=>h
 refine JO func343 ntmps343 (h:=?_);gi_wp2;generalize al:w.alloc (cl #[V O 0 0] 158)=w0 at *;have aj:w0.heap.size=w.heap.size+1:=by rw[<-al];simp
 have Y:=zi aj;clear al aj;refine jB au.out rfl eg ax
  (zhf w C j)
  (fun _ _ _=>False) (fun b=>b=w.heap.size) ?hI ?hIx ?hC ?h0 ?round ?done ?stop
 case hI=>
  rintro k P A aq ⟨D,F,I,Z,v,ts,u,l,f,Q,c,y,p⟩ z;have aB:zw w.heap.size A aq:=z.mono (by have:=Y.out;omega);refine⟨X.out.keep D z,aB.below F (zh _) (zh _),zv I z.size,Z,v,ts,u,l,z.block _ _ f (.inr rfl),?_,c.keep z,fun i t x m J=>?_,p⟩;·exact(zt (w:=A) (a:=⟨w.heap.size,0,O⟩) ((z.block _ _ f (.inr rfl)).trans f.symm)).trans Q
  ·exact(y i t x m J).keep z
 case hIx=>exact fun _ _ _ _ h _=>h
 case hC=>
  rintro k P A ⟨D,F,I,Z,v,ts,u,l,f,Q,c,y,p⟩;refine⟨D,fun b a=>?_⟩;rcases(p b).1 a with rfl|a
  ·exact I
  ·exact(c.type b a).1.lt
 case h0=>exact⟨X.out.below HC.out aa,aa,by have:=Y.out;omega,qp _,V O 0 0,[],(0,0),rfl,a9,T.ZX a9,Grw.nil _ _ _ _,(fun i t x h=>by simp at h),fun b=>by simp[Value.ownBlock]⟩
 case round=>
  rintro aL k av P A af ay ⟨D,F,I,Z,v,ts,u,l,f,Q,c,y,p⟩;obtain⟨x,J⟩:∃x,j[k]? =E x:=⟨_,zj af⟩;obtain⟨⟨L,K,N,M⟩,rfl,ak⟩:=HY.out k av A x J ay;have aw:=zi ak;clear ak;obtain⟨n,o,rfl⟩:=c.shape;rw[zo]at f c p;have U:=zi l;have aK:ts.length<=100000:=om;clear l;simp only[WT.val,WT.sv];unfold Qr;gi_wp2;refine⟨Wr.of_below ((Ext.refl A).alloc _),fun d ae=>?_⟩;have s:=(zw.alloc _ _ _).trans ae;have B:=s.block _ _ f (.inr rfl);have c0:=c_ 0 B;have f2:=(zt (w:=A) (a:=⟨w.heap.size,0,O⟩) (B.trans f.symm)).trans Q;have e0:=ae.block _ _ (zq A (cl #[G L,V K N M] 101)) (.inr rfl);have d0:=c_ 0 e0;have d1:=c_ 1 e0;have S:=c.keep s;have G3:=S.ext ((Ext.refl d).alloc (cl #[G L,V K N M] 101));have aD:=zv I s.size;have a4:=G3.own;rw[zo]at a4;have ab:=G3.dig;clear e0;refine zaK ?_;refine JJ (by rfl) (fun⟨_,w,h⟩=>h) ?_;go_wp2_with (at_builtin;refine aC _ ?_)
  unfold Hid;refine J6 _ rfl _ _ 158 rfl (w.heap.size+1) 101 i0 (ag #[G false,V O 0 0]) 2 32 underlying158 az aE aF aG rfl dc (V n ts.length o) ts.length (ts.map WT.cells).flatten rfl a4 ⟨d.heap.size,0,O⟩ 1 1 [G L,V K N M] rfl rfl (rec_new d [G L,V K N M] 101) (by intro ap q;simp only[qw,Zi,QF]at q;rcases q with rfl|rfl<;>rfl) om mo om so (d.heap.size+1) sp (by intro ap q;simp[Value.cells]at q;rcases q with rfl|rfl<;>(intro aI e;cases e)) (by intro ap q;simp only[qw,Zi,QF]at q;rcases q with rfl|rfl<;>(intro aI e;cases e)) ab ?_;intro g4 a1 R an a2 a7 aH a8;have b4:=(a2.block _ so (fun e=>by have:=(c.type _ e.symm).2;omega)).trans ((zI _ _ _ aD).trans B);have c4:=c_ 0 b4;have f4:=(zt (w:=d) (a:=⟨w.heap.size,0,O⟩) (b4.trans B.symm)).trans f2;have a6:=S;have ao:R.ownsRow (w.heap.size+1) 101 2 (V (E ⟨g4,0,O⟩) ((ts.map WT.cells).length+1) a1) ((ts.map WT.cells).length+1) ((ts.map WT.cells).flatten ++ [G L,V K N M]):=by rw[zo];exact an
  obtain⟨r,q2,q3,q4⟩:=zgK (gb:=w.heap.size) a6 rfl ao a8 a2 B om (by simpa using a7);rw[zo]at r q2 q3 q4;have HF:Hid (Qs P (zhf w C j) (fun _ _ _=>False) k A d .normal { tmps:=#[],defers:= [] } (R.setCell ⟨w.heap.size,0,O⟩ (V (E ⟨g4,0,O⟩) (ts.length+1) a1))):=by
   have ah:∀b,b=w.heap.size\/(V n ts.length o).ownBlock=E b->qU d b:=by
    rintro b (rfl|a);·exact qj B n1
    ·exact S.dig b a
   have hM:=p;refine⟨r.mono (fun b a=>(hM b).2 a),fun b=>b=w.heap.size\/(V (E ⟨g4,0,O⟩) (ts.length+1) a1).ownBlock=E b,⟨X.out.wr (X.out.keep D s) r (fun b a=>?_),?_,?_,af,_,ts ++ [⟨L,K,N,M⟩],u,by rw[zX,qF,U.out],q2,?_,by rw[ZN];exact q3,fun i t aJ m hy=>?_,fun b=>Ql⟩,fun b a=>?_⟩
   ·rcases a with rfl|a
    ·exact zh _
    ·have:=(c.type b a).2;omega
   ·exact((s.mono (by have:=Y.out;omega)).below F (zh _) (zh _)).trans (r.below om (fun b a=>by
     rcases a with rfl|a
     ·exact zh _
     ·have:=(c.type b a).2;omega))
   ·have:=r.size;omega
   ·simpa using f4
   ·by_cases aA:i<ts.length
    ·rw[zM aA]at m;exact((y i t aJ m hy).keep s).wr r ah
    ·have ad:i=ts.length:=by
      have:=(zn.1 m).1;simp at this;omega
     rw[ad,U.out,J]at hy;rw[ad,zJ (zh _),Zy]at m;have e1:=qV hy;have e2:=qV m;subst e1 e2;exact(aw.out.keep s).wr r ah
   ·rcases q4 b a with h|h
    ·exact .inl ((hM b).2 h)
    ·exact .inr (zL s.size h)
  clear an a2 a7 aH a8 ao r q2 q3 q4 a6 S G3 c y p a4 ab b4;go_wp2_with fail
  exact HF.out
 case done=>
  rintro ar P A hD ⟨D,F,I,Z,v,ts,u,l,f,Q,c,y,p⟩ hd;obtain⟨n,o,rfl⟩:=c.shape;have e:(ts.map WT.cells).length=j.length:=by rw[zo];exact l
  rw[e]at f c;have U:=zi l;clear e l;have c0:=c_ 0 f;gi_wp2;refine qt hd ?_;have a3:zw w0.heap.size A (A.putObj ar (.deferred O)):=zw.putObj _ hD hd rfl;exact⟨V n j.length o,results_tmp (t:=4) rfl _ _ _,V n j.length o,ts,rfl,U.out,(c.list).keep a3,fun i t x m J=>(y i t x m J).keep a3,fun g hg=>zL (zbq _) (c.type g hg).2,(a3.mono (by have:=Y.out;omega)).below F (zh _) (zh _)⟩
 case stop=>exact fun _ _ _ _ _ _ h _=>h.elim
theorem ziC (g:Nat)(b:Array Value)(a:List Int)(Y:Nat->Array Value->H->Prop)(C:H->Prop)(l:J0 pg g b a.length Y C)(c:∀args w,(callFunc g args).run pg w= .ok (.enter g args) w)
 (h:∀k v W x,a[k]? =E x->Y k v W->∃t:WT,v=#[t.val]/\zY W t.val x) (j:∀k v W,Y k v W->v.size=1) (n:a.length<=100000) (w:H) (d:C w) (f:jA w.heap.size C):
 Calls pg 266 #[.func (.func g) #[] b] w fun e w'=>∃(v:Value) (ts:List WT),e= .returned v/\ts.length=a.length/\Qk w' 101 v 2 (ts.map WT.cells)/\(∀(i:Nat) (t:WT) x,ts[i]? =E t->a[i]? =E x->zY w' t.val x)/\(∀g,v.ownBlock=E g->w.heap.size<=g)/\Below w.heap.size w w':=by
 have m:=zi (zhg g b a Y C l c h j n w d f);clear l c h j d f;go_enter func266,ntmps266
 go_wp2_with fail
 refine m.out.mono ?_;rintro e a ⟨v,ts,rfl,b,a,c,d,j⟩;have f:=zi b;have h:=zi c;obtain⟨l,m,rfl⟩:=a.shape;rw[zo]at a d;clear b c;go_wp2;go_ret;exact⟨V l ts.length m,ts,rfl,f.out,a,h.out,d,j⟩
theorem zmo:(Tryz.prog.info? 9).map (fun i=>(i.zero,i.size,i.bytes))=E (E (gS ⟨#[]⟩),1,16):=kr
def zie (w:H)(C:H->Prop)(xs:List ByteArray)(k:Nat)(M:Nat->Prop)(A:H):Prop:=
 C A/\Below w.heap.size w A/\w.heap.size<A.heap.size/\k<=xs.length/\∃(v:Value) (ts:List ST) (fr:Nat×Nat),ts.length=k/\A.heap[w.heap.size]? =E (cl #[v] 44 fr)/\A.frozen? ⟨w.heap.size,0,O⟩=false/\Grw (w.heap.size+1) 9 1 A v (ts.map ST.cells)/\(∀(i:Nat) (t:ST) x,ts[i]? =E t->xs[i]? =E x->t.s=x)/\∀b,M b↔b=w.heap.size\/v.ownBlock=E b
theorem zhJ (g:Nat)(lb:Array Value)(j:List ByteArray)(Y:Nat->Array Value->H->Prop)(C:H->Prop)(ae:J0 pg g lb j.length Y C)(eg:∀args w,(callFunc g args).run pg w= .ok (.enter g args) w)
 (hY:∀k v W x,j[k]? =E x->Y k v W->∃t:ST,v=#[t.val]/\t.s=x) (ar:∀k v W,Y k v W->v.size=1) (hn:j.length<=100000) (w:H) (hC:C w) (hL:jA w.heap.size C):
 Calls pg 369 #[V O 0 0,.func (.func g) #[] lb] w fun e w'=>∃(v:Value) (ts:List ST),e= .returned v/\ts.length=j.length/\Qk w' 9 v 1 (ts.map ST.cells)/\(∀(i:Nat) (t:ST) x,ts[i]? =E t->j[i]? =E x->t.s=x)/\(∀g,v.ownBlock=E g->w.heap.size<=g)/\Below w.heap.size w w':=by
 obtain⟨i0,aw,aC,aD,aE⟩:=qL zmo;have HC:=zi hC;have ap:=zi ae;have HY:=zi hY;have R:=zi hL;clear hC ae hY hL;have a8:Ext w (w.alloc (cl #[V O 0 0] 44)):=(Ext.refl w).alloc _;have a7:=zq w (cl #[V O 0 0] 44);have aA:∀a3:Prop,Hid a3->a3:=fun a3 h=>h
 refine JO func369 ntmps369 (h:=?_);gi_wp2;generalize ai:w.alloc (cl #[V O 0 0] 44)=w0 at *;have af:w0.heap.size=w.heap.size+1:=by rw[<-ai];simp
 have S:=zi af;clear ai af;refine jB ap.out rfl eg ar
  (zie w C j)
  (fun _ _ _=>False) (fun b=>b=w.heap.size) ?hI ?hIx ?hC ?h0 ?round ?done ?stop
 case hI=>
  rintro k M A an ⟨y,z,B,U,v,ts,r,l,f,K,c,s,p⟩ D;have ay:zw w.heap.size A an:=D.mono (by have:=S.out;omega);refine⟨R.out.keep y D,ay.below z (zh _) (zh _),zv B D.size,U,v,ts,r,l,D.block _ _ f (.inr rfl),?_,c.keep D,fun i t x m F=>?_,p⟩;·exact(zt (w:=A) (a:=⟨w.heap.size,0,O⟩) ((D.block _ _ f (.inr rfl)).trans f.symm)).trans K
  ·exact s i t x m F
 case hIx=>exact fun _ _ _ _ h _=>h
 case hC=>
  rintro k M A ⟨y,z,B,U,v,ts,r,l,f,K,c,s,p⟩;refine⟨y,fun b a=>?_⟩;rcases(p b).1 a with rfl|a
  ·exact B
  ·exact(c.type b a).1.lt
 case h0=>exact⟨R.out.below HC.out a8,a8,by have:=S.out;omega,qp _,V O 0 0,[],(0,0),rfl,a7,T.ZX a7,Grw.nil _ _ _ _,(fun i t x h=>by simp at h),fun b=>by simp[Value.ownBlock]⟩
 case round=>
  rintro aK k av M A ad au ⟨y,z,B,U,v,ts,r,l,f,K,c,s,p⟩;obtain⟨x,F⟩:∃x,j[k]? =E x:=⟨_,zj ad⟩;obtain⟨⟨L⟩,rfl,ah⟩:=HY.out k av A x F au;have aq:=zi ah;clear ah;obtain⟨n,o,rfl⟩:=c.shape;rw[zo]at f c p;have Q:=zi l;have aJ:ts.length<=100000:=om;clear l;simp only[ST.val];unfold Qr;gi_wp2;refine⟨Wr.refl _ _,fun d az=>?_⟩;have J:=az;have u:=J.block _ _ f (.inr rfl);have c0:=c_ 0 u;have f2:=(zt (w:=A) (a:=⟨w.heap.size,0,O⟩) (u.trans f.symm)).trans K;have P:=c.keep J;have X:=P.ext ((Ext.refl d).alloc (cl #[gS L] 9));have aB:=zv B J.size;have a2:=X.own;rw[zo]at a2;have a9:=X.dig;refine zaK ?_;refine JJ (by rfl) (fun⟨_,w,h⟩=>h) ?_;go_wp2_with (at_builtin;refine aA _ ?_)
  unfold Hid;refine J6 _ rfl _ _ 44 rfl (w.heap.size+1) 9 i0 (gS ⟨#[]⟩) 1 16 underlying44 aw aC aD aE rfl dc (V n ts.length o) ts.length (ts.map ST.cells).flatten rfl a2 ⟨d.heap.size,0,O⟩ 1 1 [gS L] rfl rfl (rec_new d [gS L] 9) (by intro al q;simp only[qw,Zi,QF]at q;rcases q with rfl<;>rfl) om mo om so (d.heap.size+1) sp (by intro al q;simp[Value.cells]at q;subst q;intro aG e;cases e) (by intro al q;simp only[qw,Zi,QF]at q;rcases q with rfl<;>(intro aG e;cases e)) a9 ?_;intro g4 a0 N aj a1 a5 aF a6;have Z:=(a1.block _ so (fun e=>by have:=(c.type _ e.symm).2;omega)).trans ((zI _ _ _ aB).trans u);have c4:=c_ 0 Z;have f4:=(zt (w:=d) (a:=⟨w.heap.size,0,O⟩) (Z.trans u.symm)).trans f2;have a4:=P;have ak:N.ownsRow (w.heap.size+1) 9 1 (V (E ⟨g4,0,O⟩) ((ts.map ST.cells).length+1) a0) ((ts.map ST.cells).length+1) ((ts.map ST.cells).flatten ++ [gS L]):=by rw[zo];exact aj
  obtain⟨I,q2,q3,q4⟩:=zgK (gb:=w.heap.size) a4 rfl ak a6 a1 u om (by simpa using a5);rw[zo]at I q2 q3 q4;have HF:Hid (Qs M (zie w C j) (fun _ _ _=>False) k A d .normal { tmps:=#[],defers:= [] } (N.setCell ⟨w.heap.size,0,O⟩ (V (E ⟨g4,0,O⟩) (ts.length+1) a0))):=by
   have aI:∀b,b=w.heap.size\/(V n ts.length o).ownBlock=E b->qU d b:=by
    rintro b (rfl|a);·exact qj u n1
    ·exact P.dig b a
   have hM:=p;refine⟨I.mono (fun b a=>(hM b).2 a),fun b=>b=w.heap.size\/(V (E ⟨g4,0,O⟩) (ts.length+1) a0).ownBlock=E b,⟨R.out.wr (R.out.keep y J) I (fun b a=>?_),?_,?_,ad,_,ts ++ [⟨L⟩],r,by rw[zX,qF,Q.out],q2,?_,by rw[ZN];exact q3,fun i t aH m hy=>?_,fun b=>Ql⟩,fun b a=>?_⟩
   ·rcases a with rfl|a
    ·exact zh _
    ·have:=(c.type b a).2;omega
   ·exact((J.mono (by have:=S.out;omega)).below z (zh _) (zh _)).trans (I.below om (fun b a=>by
     rcases a with rfl|a
     ·exact zh _
     ·have:=(c.type b a).2;omega))
   ·have:=I.size;omega
   ·simpa using f4
   ·by_cases ax:i<ts.length
    ·rw[zM ax]at m;exact s i t aH m hy
    ·have aa:i=ts.length:=by
      have:=(zn.1 m).1;simp at this;omega
     rw[aa,Q.out,F]at hy;rw[aa,zJ (zh _),Zy]at m;have e1:=qV hy;have e2:=qV m;subst e1 e2;exact aq.out
   ·rcases q4 b a with h|h
    ·exact .inl ((hM b).2 h)
    ·exact .inr (zL J.size h)
  clear aj a1 a5 aF a6 ak I q2 q3 q4 a4 P X c s p a2 a9 Z;go_wp2_with fail
  exact HF.out
 case done=>
  rintro ao M A hD ⟨y,z,B,U,v,ts,r,l,f,K,c,s,p⟩ hd;obtain⟨n,o,rfl⟩:=c.shape;have e:(ts.map ST.cells).length=j.length:=by rw[zo];exact l
  rw[e]at f c;have Q:=zi l;clear e l;have c0:=c_ 0 f;gi_wp2;refine qt hd ?_;have ab:zw w0.heap.size A (A.putObj ao (.deferred O)):=zw.putObj _ hD hd rfl;exact⟨V n j.length o,results_tmp (t:=4) rfl _ _ _,V n j.length o,ts,rfl,Q.out,(c.list).keep ab,fun i t x m F=>s i t x m F,fun g hg=>zL (zbq _) (c.type g hg).2,(ab.mono (by have:=S.out;omega)).below z (zh _) (zh _)⟩
 case stop=>exact fun _ _ _ _ _ _ h _=>h.elim
theorem zjs (g:Nat)(b:Array Value)(a:List ByteArray)(Y:Nat->Array Value->H->Prop)(C:H->Prop)(l:J0 pg g b a.length Y C)(c:∀args w,(callFunc g args).run pg w= .ok (.enter g args) w)
 (h:∀k v W x,a[k]? =E x->Y k v W->∃t:ST,v=#[t.val]/\t.s=x) (j:∀k v W,Y k v W->v.size=1) (n:a.length<=100000) (w:H) (d:C w) (f:jA w.heap.size C):
 Calls pg 330 #[.func (.func g) #[] b] w fun e w'=>∃(v:Value) (ts:List ST),e= .returned v/\ts.length=a.length/\Qk w' 9 v 1 (ts.map ST.cells)/\(∀(i:Nat) (t:ST) x,ts[i]? =E t->a[i]? =E x->t.s=x)/\(∀g,v.ownBlock=E g->w.heap.size<=g)/\Below w.heap.size w w':=by
 have m:=zi (zhJ g b a Y C l c h j n w d f);clear l c h j d f;go_enter func330,ntmps330
 go_wp2_with fail
 refine m.out.mono ?_;rintro e a ⟨v,ts,rfl,b,a,c,d,j⟩;have f:=zi b;have h:=zi c;obtain⟨l,m,rfl⟩:=a.shape;rw[zo]at a d;clear b c;go_wp2;go_ret;exact⟨V l ts.length m,ts,rfl,f.out,a,h.out,d,j⟩
theorem Grw.mono {B B':Nat}{t:TypeId}{size:Nat}{w:H}{v:Value}{a:List (List Value)}(h:Grw B t size w v a)(e:B'<=B):Grw B' t size w v a:=by
 refine⟨?_,h.dig,h.siz⟩;obtain⟨a,d|⟨g,b,c,j,f,i⟩⟩:=h.own;·exact⟨a,Or.inl d⟩
 ·exact⟨a,Or.inr ⟨g,b,c,j,zL e f,i⟩⟩
theorem zjt:(Tryz.prog.info? 174).map (fun i=>(i.zero,i.size,i.bytes))=E (E (ag #[V O 0 0,G false,V O 0 0]),3,56):=kr
def zju (w:H)(C:H->Prop)(xs:List (List Int×Int))(k:Nat)(M:Nat->Prop)(A:H):Prop:=
 C A/\Below w.heap.size w A/\w.heap.size<A.heap.size/\k<=xs.length/\∃(v:Value) (ts:List RW) (fr:Nat×Nat),ts.length=k/\A.heap[w.heap.size]? =E (cl #[v] 261 fr)/\A.frozen? ⟨w.heap.size,0,O⟩=false/\Grw (w.heap.size+1) 174 3 A v (ts.map RW.cells)/\(∀(i:Nat) (t:RW) x,ts[i]? =E t->xs[i]? =E x->QC A t x)/\∀b,M b↔b=w.heap.size\/v.ownBlock=E b
end Go.Proofs.YtnhfdcfnojnofaaGreatDoor
namespace Go.Proofs.YtnhfdcfnojnofaaGreatDoor
open Go.RowKit
structure WSeq (w:H)(g:Nat)(lb:Array Value)(zs:List Int) where
 Y:Nat->Array Value->H->Prop
 C:H->Prop
 seq:J0 pg g lb zs.length Y C
 ent:∀args w,(callFunc g args).run pg w= .ok (.enter g args) w
 val:∀k v W x,zs[k]? =E x->Y k v W->∃t:WT,v=#[t.val]/\zY W t.val x
 one:∀k v W,Y k v W->v.size=1
 now:C w
 old:jA w.heap.size C
def WSeq.ext {w w':H}{g:Nat}{lb:Array Value}{zs:List Int}(h:WSeq w g lb zs)(hx:Ext w w'):WSeq w' g lb zs:=⟨h.Y,h.C,h.seq,h.ent,h.val,h.one,h.old.below h.now hx,h.old.mono hx.size⟩
theorem zd5 {w:H}{g h:Nat}(d:g=h)(a b c:Value):Wr (fun k=>k=h) w (((w.setCell ⟨g,0,O⟩ a).setCell ⟨g,1,O⟩ b).setCell ⟨g,2,O⟩ c):=
 ((qS (U:=fun k=>k=h) d a).trans (qS (U:=fun k=>k=h) d b)).trans (qS (U:=fun k=>k=h) d c)
theorem zmp (w:H)(g:Nat)(b:Array Value)(zs:List Int)(h:WSeq w g b zs)(d:zs.length<=100000):
 Calls pg 265 #[.func (.func g) #[] b] w fun e w'=>∃f:Option Addr×Nat×Nat,e= .returned (ag #[V f.1 f.2.1 f.2.2])/\Jm w' (V f.1 f.2.1 f.2.2) zs/\(∀g,(V f.1 f.2.1 f.2.2).ownBlock=E g->w.heap.size<=g)/\Below w.heap.size w w':=by
 have m:Ext w (w.alloc (cl #[V O 0 0] 172)):=(Ext.refl w).alloc _;have j:=zq w (cl #[V O 0 0] 172);have a:=h.ext m;have c:=zi (ziC g b zs a.Y a.C a.seq a.ent a.val a.one d _ a.now a.old);clear a h;go_enter func265,ntmps265
 go_wp2_with fail
 generalize w.alloc (cl #[V O 0 0] 172)=k at *;refine c.out.mono ?_;rintro e c ⟨_,b,rfl,n,a,o,l,p⟩;obtain⟨d,i,rfl⟩:=a.shape;rw[zo]at a l;have q:=Ext.of p;have k:=(q.block _ (zf.1 j).1).trans j;have s:=c_ 0 k;have j:c.frozen? ⟨w.heap.size,0,O⟩=false:=T.ZX k;have t:Wr (fun j=>j=w.heap.size) c (c.setCell ⟨w.heap.size,0,O⟩ (V d b.length i)):=qS (U:=fun j=>j=w.heap.size) rfl _;have r:Hid (Jm (c.setCell ⟨w.heap.size,0,O⟩ (V d b.length i)) (V d b.length i) zs):=by
  refine Jm.wr ⟨b,n,a,o⟩ t (fun j j=>?_);subst j;exact⟨fun j=>absurd (j.one ⟨_,_,k⟩) dc,qj k n1⟩
 have k:Below w.heap.size w (c.setCell ⟨w.heap.size,0,O⟩ (V d b.length i)):=Qu (m.trans q) (zh _) _;have c:=zi l;have j:=zi m.size;clear n a o l p;go_wp2;exact zH (v:=ag #[V d b.length i]) (by simp[results,results265,go_sem,s]) rfl ⟨(d,b.length,i),rfl,r.out,fun g a=>zL j.out (c.out g a),k⟩
theorem zew (w:H)(g:Nat)(x:Array Value)(zs:List Int)(h:WSeq w g x zs)(Z:zs.length<=100000)(m:WT)(y:Int)(I:zY w m.val y):
 Calls pg 250 #[.func (.func g) #[] x,m.val] w fun e w'=>∃r:RW,e= .returned r.val/\QC w' r (zs,y)/\(∀g,r.fv.ownBlock=E g->w.heap.size<=g)/\Below w.heap.size w w':=by
 obtain⟨b,a,d,c⟩:=m;simp only[WT.val,WT.sv]at I⊢;have k:Ext w ((w.alloc (cl #[G b,V a d c] 101)).alloc (cl #[V O 0 0,G false,V O 0 0] 174)):=((Ext.refl w).alloc _).alloc _;obtain⟨t,u⟩:=T.zbs w (cl #[G b,V a d c] 101) (cl #[V O 0 0,G false,V O 0 0] 174);have P:=zi (fun W (j:Ext w W)=>zmp W g x zs (h.ext j) Z);clear h;go_enter func250,ntmps250
 go_wp2_with fail
 generalize (w.alloc (cl #[G b,V a d c] 101)).alloc (cl #[V O 0 0,G false,V O 0 0] 174)=l at *;have s:=zi (fun W (j:Ext l W)=>And.intro (j.cell (c_ 0 t)) (j.cell (c_ 1 t)));have K:=zi (fun W (j:Ext l W)=>(j.block _ (zf.1 u).1).trans u);have y0:=Ext.refl l;obtain⟨_,_⟩:=s.out l y0;clear t u;go_region_held3 (fun W=>W.cell? ⟨w.heap.size,0,O⟩=E (G b)/\W.cell? ⟨w.heap.size,1,O⟩=E (V a d c)) (first|(exact s.out _ ea)|(have A:=s.out f q;exact⟨js om A.1,js om A.2⟩)|go_keep) (first|(go_at_call 265;refine(P.out _ (by first|exact k.drew|exact k)).mono ?_;rintro e f ⟨⟨n,p,o⟩,rfl,F,D,C⟩;have q:Ext l f:=(by first|exact jG C|exact Ext.of C);have i:=K.out f q;have R:=c_ 0 i;have S:=c_ 1 i;have U:=c_ 2 i;have f0:f.frozen? ⟨w.heap.size+1,0,O⟩=false:=T.ZX i;have f1:f.frozen? ⟨w.heap.size+1,1,O⟩=false:=T.ZX i;have f2:f.frozen? ⟨w.heap.size+1,2,O⟩=false:=T.ZX i))
 all_goals
  have J:Wr (fun z=>z=w.heap.size+1) f (((f.setCell ⟨w.heap.size+1,0,O⟩ (V n p o)).setCell ⟨w.heap.size+1,1,O⟩ (G b)).setCell ⟨w.heap.size+1,2,O⟩ (V a d c)):=zd5 rfl _ _ _;have N:Hid (QC (((f.setCell ⟨w.heap.size+1,0,O⟩ (V n p o)).setCell ⟨w.heap.size+1,1,O⟩ (G b)).setCell ⟨w.heap.size+1,2,O⟩ (V a d c)) ⟨(n,p,o),b,a,d,c⟩ (zs,y)):=by
   refine QC.wr ⟨F,I.below (k.trans q)⟩ J (fun z X=>?_);subst X;exact⟨fun ht=>absurd (ht.one ⟨_,_,i⟩) dc,qj i n3⟩
  have L:=zi (J.below (B:=w.heap.size) (by have:=(k.trans q).size;omega) (fun a1 hk=>om));have M:=zi D;have a0:=k.size;have Q:=zi ((k.trans q));clear F D;go_wp2;exact zH (v:=ag #[V n p o,G b,V a d c]) (by simp[results,results250,go_sem,R,S,U]) rfl ⟨⟨(n,p,o),b,a,d,c⟩,rfl,N.out,fun g Y=>zL a0 (show l.heap.size<=g from M.out g Y),ZA Q.out L.out⟩
end Go.Proofs.YtnhfdcfnojnofaaGreatDoor
namespace Go.Proofs.YtnhfdcfnojnofaaGreatDoor.T
open Go.RowKit
def ju (gs xs:List Int):Int:=(List.zipWith (· * ·) gs xs).sum
theorem zk7 (a b:Int):Z5 (a,1) (b,1)=(a*b,1):=by
 unfold Z5 qred;simp
theorem zk8 (a b:Int):jh (a,1) (b,1)=(a+b,1):=by
 unfold jh qred;simp
theorem zmq {a b:List Int}{j:Nat}(d:j<a.length)(e:j<b.length):ju (a.take (j+1)) (b.take (j+1))=ju (a.take j) (b.take j)+a[j]*b[j]:=by
 unfold ju;have c:(a.take j).length=(b.take j).length:=by rw[zU,zU];omega
 rw[Zh d,Zh e,List.zipWith_append c,zc2];simp
structure ValS (w0 w:H)(gr gs:Nat)(S:Tri):Prop where
 lt:w0.heap.size<=gr/\w0.heap.size<=gs/\gr<w.heap.size/\gs<w.heap.size/\gr≠gs
 kr:¬QE w gr
 ks:¬QE w gs
 rs:jV w gr 0 zT
 ss:jV w gs 0 S
 low:Below w0.heap.size w0 w
theorem ValS.ext {d w w':H}{b c:Nat}{S:Tri}(h:ValS d w b c S)(a:Ext w w'):ValS d w' b c S:=by
 obtain⟨d,g,f,i,j⟩:=h.lt;have e:=a.size;have e:=a.block b f;have f:=a.block c i;exact⟨⟨d,g,om,om,j⟩,fun⟨c,b,d⟩=>h.kr ⟨c,b,e.symm.trans d⟩,fun⟨c,b,d⟩=>h.ks ⟨c,b,f.symm.trans d⟩,h.rs.same e,h.ss.same f,h.low.trans (a.mono h.low.size)⟩
theorem ValS.put {c w:H}{b a:Nat}{S:Tri}(h:ValS c w b a S)(x:Tri):ValS c (QA w a 0 x) b a x:=by
 obtain⟨b,c,d,e,a⟩:=h.lt;exact⟨⟨b,c,by rw[JI];exact d,by rw[JI];exact e,a⟩,zae h.kr,zae h.ks,h.rs.same (JT a),zbr x h.ss,h.low.trans (zfP.below h.low.size (by intro k a;omega))⟩
theorem ValS.start {w b a:H}{S:Tri}(f:Ext w b)(d:b.heap[w.heap.size]? =E (cl #[G false,V O 0 0,V O 0 0] 118))(c:Ext b a):ValS w (a.alloc (cl #[G S.b,S.up,S.down] 118)) w.heap.size a.heap.size S:=by
 have g:=(zf.1 d).1;have b:=c.size;have e:(a.alloc (cl #[G S.b,S.up,S.down] 118)).heap[w.heap.size]? =E (cl #[G false,V O 0 0,V O 0 0] 118):=(zI _ _ _ om).trans ((c.block _ g).trans d);have b:=zq a (cl #[G S.b,S.up,S.down] 118);exact⟨⟨zh _,om,so,sp,om⟩,zar e dc,zar b dc,zbU (t:=zT) e,zbU b,f.trans (c.alloc _)⟩
theorem zif (w:H)(f k:Value)(c d:List Int)(g:Qj w f (c.map fun z=>(z,1)))(i:Qj w k (d.map fun z=>(z,1)))(h:c.length=d.length)(q:c.length<=1000)(K:Nat)(hK:K+K<100000000)(Y:1<10000^K)
 (l:∀z∈c,z.natAbs<10000^K) (p:∀z∈d,z.natAbs<10000^K) (m:∀a∈c,∀b∈d,(a*b).natAbs<10000^K) (n:∀j,(ju (c.take j) (d.take j)).natAbs<10000^K):
 Calls pg 193 #[f,k] w fun e w'=>∃t,e= .returned t/\qe w' t (ju c d) 1/\Below w.heap.size w w':=by
 obtain⟨q,r,rfl⟩:∃q r,f=V q c.length r:=by obtain⟨a,f,e⟩:=g.shape;rw[zo]at e;exact⟨a,f,e⟩
 obtain⟨q,r,rfl⟩:∃q r,k=V q d.length r:=by obtain⟨a,f,e⟩:=i.shape;rw[zo]at e;exact⟨a,f,e⟩
 have P:=zi g;have Z:=zi i;have y:=zi l;have X:=zi p;have T:=zi m;have U:=zi n;have HL:=zi h;rw[<-h];clear g i l p m n h;have f:=zi (fun W=>zaD W);go_enter func193,ntmps193
 go_wp2_with fail
 have u:Ext w (w.alloc (cl #[G false,V O 0 0,V O 0 0] 118)):=(Ext.refl w).alloc _;have q:=zq w (cl #[G false,V O 0 0,V O 0 0] 118);generalize w.alloc (cl #[G false,V O 0 0,V O 0 0] 118)=g at *;refine(f.out _).mono ?_;rintro e p ⟨t0,rfl,A,r⟩;obtain⟨f,k,m,l,g,i,h,rfl,aq⟩:=A.parts;have s:=ValS.start (S:=⟨f,(k,m,l),(g,i,h)⟩) u q (Ext.of r);have n:=A.alloc (cl #[G f,V k m l,V g i h] 118);clear r A q u;go_wp2_with fail
 obtain⟨q,hw2⟩:∃q,p.alloc (cl #[G f,V k m l,V g i h] 118)=q:=⟨_,rfl⟩;have u:ValS w q w.heap.size p.heap.size ⟨f,(k,m,l),(g,i,h)⟩:=by rw[<-hw2];exact s
 rw[hw2]at n⊢;clear s hw2;generalize p.heap.size=q at *;generalize ap:w.heap.size=R at *;go_loopw [6] (fun p wr=>∃(j:Nat) (S:Tri),p=it .i64 (j:Nat)/\j<=c.length/\ValS w wr R q S/\qe wr S.val (ju (c.take j) (d.take j)) 1) (fun p _=>c.length-(intOf p).toNat)
 case atStart=>exact⟨0,_,rfl,om,u,n⟩
 case round=>
  clear u n;obtain⟨j,S,rfl,_,u,a6⟩:=hrel;obtain⟨B,⟨I,J,L⟩,C,D,F⟩:=S;have x:=Ext.of u.low;by_cases n:j<c.length
  ·have p:j<d.length:=by have:=HL.out;omega
   have s:(j:Int)<(c.length:Int):=om;obtain⟨-,M,N,rfl,_,an⟩:=P.out.at3 (by rw[zo];omega);obtain⟨-,P,Q,rfl,_,ao⟩:=Z.out.at3 (by rw[zo];omega);obtain⟨s,Z,k0,k1,k2⟩:=an j (c[j],1) (by rw[zQ,zj n];rfl);obtain⟨S,a7,l0,l1,l2⟩:=ao j (d[j],1) (by rw[zQ,zj p];rfl);have ai:=y.out _ (zZ n);have aj:=X.out _ (zZ p);have ak:=T.out _ (zZ n) _ (zZ p);have al:=U.out j;have HD:=zi (zmq n p);obtain⟨gb,⟨a3,a4,a5⟩,a0,a1,a2⟩:=s;obtain⟨xb,⟨ab,ad,ae⟩,a8,a9,aa⟩:=S;generalize c[j]=n at *;generalize d[j]=p at *;simp only at Z a7;have y:Hid (∀W,Ext wr W->W.cell? ⟨M,N+j*3,O⟩=E (G gb)/\W.cell? ⟨M,N+j*3+1,O⟩=E (V a3 a4 a5)/\W.cell? ⟨M,N+j*3+2,O⟩=E (V a0 a1 a2)/\W.cell? ⟨P,Q+j*3,O⟩=E (G xb)/\W.cell? ⟨P,Q+j*3+1,O⟩=E (V ab ad ae)/\W.cell? ⟨P,Q+j*3+2,O⟩=E (V a8 a9 aa)):=
    fun W s=>⟨s.cell (x.cell k0),s.cell (x.cell k1),s.cell (x.cell k2),s.cell (x.cell l0),s.cell (x.cell l1),s.cell (x.cell l2)⟩
   have ah:Hid (∀W,Ext wr W->Calls pg 105 #[ag #[G gb,V a3 a4 a5,V a0 a1 a2],ag #[G xb,V ab ad ae,V a8 a9 aa]] W fun e w'=>∃t,e= .returned t/\qe w' t (n*p) 1/\Below W.heap.size W w'):=by
    intro W s;have S:=zhy K om W _ _ n p 1 1 (Z.below (x.trans s)) (a7.below (x.trans s)) ai aj Y Y;have U:(n*p)/(Nat.gcd (n*p).natAbs (1*1):Int)=(Z5 (n,1) (p,1)).1:=rfl;have X:(1*1)/Nat.gcd (n*p).natAbs (1*1)=(Z5 (n,1) (p,1)).2:=rfl;rw[U,X,zk7]at S;exact S
   have T:=Ext.refl wr;have af:=zi (And.intro ak al);clear k0 k1 k2 l0 l1 l2 an ao Z a7 ai aj ak al;go_wp2_with fail
   go_cut [7] (fun x wc=>∃s Z,x=pn (E ⟨s,0,O⟩)/\jV wc s 0 Z/\qe wc Z.val (n*p) 1/\wr.heap.size<=s/\Ext wr wc)
   case first=>
    go_region_held3 (fun W=>W.cell? ⟨M,N+j*3,O⟩=E (G gb)/\W.cell? ⟨M,N+j*3+1,O⟩=E (V a3 a4 a5)/\W.cell? ⟨M,N+j*3+2,O⟩=E (V a0 a1 a2)/\W.cell? ⟨P,Q+j*3,O⟩=E (G xb)/\W.cell? ⟨P,Q+j*3+1,O⟩=E (V ab ad ae)/\W.cell? ⟨P,Q+j*3+2,O⟩=E (V a8 a9 aa)) (first|(exact y.out _ ea)|(with_reducible exact y.out _ (Ext.alloc M _))|(with_reducible exact y.out _ (T.alloc _).drew)|(exact y.out _ ((((Qu M (zh _) _).setCell (zh _) _).setCell (zh _) _)))|go_keep) (first|(go_at_call 105;refine(ah.out _ (by with_reducible first|exact T.drew|exact(T.alloc _).drew)).mono ?_;rintro e x ⟨t0,rfl,A,r⟩;obtain⟨f,k,m,l,g,i,h,rfl,aq⟩:=A.parts;have P:=Ext.of r;have M:Ext wr x:=(by with_reducible first|exact T.drew.trans P|exact(T.alloc _).drew.trans P);have Q:=(fun(N:Addr) hp=>r.cell (p:=N) hp);have T:=(fun(N:Addr) hp=>zt (a:=N) (r.block N.block hp));(try(have N:wr.heap.size<x.heap.size:=(by have:=r.size;simp at this;omega)))))
    ·have N:Hid (jV (x.alloc (cl #[G f,V k m l,V g i h] 118)) x.heap.size 0 ⟨f,(k,m,l),(g,i,h)⟩):=zbU (t:=⟨f,(k,m,l),(g,i,h)⟩) (zq x _);have W:=zi (A.alloc (cl #[G f,V k m l,V g i h] 118));have x:=zi (M.alloc (cl #[G f,V k m l,V g i h] 118));have a0:=zi M.size;clear Q T r P y;go_wp2_with fail
     go_meet
     exact⟨_,⟨f,(k,m,l),(g,i,h)⟩,rfl,N.out,W.out,a0.out,x.out⟩
    ·have N:=zi (zgJ (t:=⟨f,(k,m,l),(g,i,h)⟩) (Qq r) A);have x:=zi (JA (o:=0) (t:=⟨f,(k,m,l),(g,i,h)⟩) M (zh _));clear Q T r P y;go_wp2_with fail
     go_meet
     exact⟨_,⟨f,(k,m,l),(g,i,h)⟩,rfl,N.out.1,N.out.2,zh _,x.out⟩
   case rest=>
    obtain⟨s,Z,rfl,f,M,_,N⟩:=hcut;have g:=u.ext N;obtain⟨h,⟨m,r,x⟩,i,k,l⟩:=Z;have A:Hid (Calls pg 103 #[ag #[G B,V I J L,V C D F],ag #[G h,V m r x,V i k l]] wc fun e w'=>∃t,e= .returned t/\qe w' t (ju (c.take (j+1)) (d.take (j+1))) 1/\Below wc.heap.size wc w'):=by
     have S:=zeQ K hK wc (ag #[G B,V I J L,V C D F]) (ag #[G h,V m r x,V i k l]) (ju (c.take j) (d.take j)) (n*p) 1 1 (a6.below N) M af.out.2 af.out.1 Y Y;have U:(ju (c.take j) (d.take j)*((1:Nat):Int)+n*p*((1:Nat):Int))/(Nat.gcd (ju (c.take j) (d.take j)*((1:Nat):Int)+n*p*((1:Nat):Int)).natAbs (1*1):Int)=(jh (ju (c.take j) (d.take j),1) (n*p,1)).1:=rfl;have X:(1*1)/Nat.gcd (ju (c.take j) (d.take j)*((1:Nat):Int)+n*p*((1:Nat):Int)).natAbs (1*1)=(jh (ju (c.take j) (d.take j),1) (n*p,1)).2:=rfl;rw[U,X,zk8]at S;rw[Hid,HD.out];exact S
    have N:wc.cell? ⟨q,0,O⟩=E (G B):=g.ss.1;have P:wc.cell? ⟨q,1,O⟩=E (V I J L):=g.ss.2.1;have Q:wc.cell? ⟨q,2,O⟩=E (V C D F):=g.ss.2.2.1;have d:wc.cell? ⟨s,0,O⟩=E (G h):=f.1;have d:wc.cell? ⟨s,1,O⟩=E (V m r x):=f.2.1;have d:wc.cell? ⟨s,2,O⟩=E (V i k l):=f.2.2.1;clear ah y M f HD;go_wp2_with fail
    refine A.out.mono ?_;rintro e f ⟨_,rfl,i,s⟩;obtain⟨h,k,m,l,n,r,p,rfl,_⟩:=i.parts;have d:=g.ext (Ext.of s);have g:f.cell? ⟨q,0,O⟩=E (G B):=d.ss.1;have U:f.cell? ⟨q,1,O⟩=E (V I J L):=d.ss.2.1;have X:f.cell? ⟨q,2,O⟩=E (V C D F):=d.ss.2.2.1;have g:=d.ss.2.2.2.1;have g:f.frozen? ⟨q,1,O⟩=false:=d.ss.2.2.2.2.1;have g:f.frozen? ⟨q,2,O⟩=false:=d.ss.2.2.2.2.2;have f:=d.put ⟨h,(k,m,l),(n,r,p)⟩;have g:=i.kept (jS (o:=0) (t:=⟨h,(k,m,l),(n,r,p)⟩) d.ks);clear s A i;go_wp2_with fail
    go_roundw
    case rel=>exact⟨j+1,⟨h,(k,m,l),(n,r,p)⟩,by go_num,om,f,g⟩
    case measure=>simp[intOf];omega
  ·obtain rfl:j=c.length:=om;rw[Zw,HL.out,Zw]at a6;have N:wr.cell? ⟨q,0,O⟩=E (G B):=u.ss.1;have P:wr.cell? ⟨q,1,O⟩=E (V I J L):=u.ss.2.1;have Q:wr.cell? ⟨q,2,O⟩=E (V C D F):=u.ss.2.2.1;obtain⟨k,d,f,_,g,h⟩:=u.rs;have l:wr.cell? ⟨R,1,O⟩=E (V O 0 0):=d;have m:wr.cell? ⟨R,2,O⟩=E (V O 0 0):=f;have c:wr.frozen? ⟨R,1,O⟩=false:=g;have c:wr.frozen? ⟨R,2,O⟩=false:=h;have c:=u.low;have i:=zi (a6.kept (jS (o:=0) (t:=⟨B,(I,J,L),(C,D,F)⟩) u.kr));clear d f g h;go_wp2_with fail
   exact zH (v:=ag #[G B,V I J L,V C D F]) (by simp[results,results193,go_sem,k,l,m]) rfl ⟨_,rfl,i.out,by rw[ap];rw[ap]at c;exact((c.setCell (zh _) _).setCell (zh _) _).setCell (zh _) _⟩
structure zaL (B:Nat)(w0 w:H)(gr go:Nat)(v:Value)(ts:List Tri)(R:Tri):Prop where
 lt:w0.heap.size<=gr/\w0.heap.size<=go/\gr<B/\go<B/\gr≠go
 le:B<=w.heap.size
 kr:¬QE w gr
 ko:¬QE w go
 rs:w.cell? ⟨gr,0,O⟩=E (V O 0 0)/\w.cell? ⟨gr,1,O⟩=E (G false)/\w.cell? ⟨gr,2,O⟩=E (V O 0 0)/\w.cell? ⟨gr,3,O⟩=E (V O 0 0)/\(∀j,w.frozen? ⟨gr,j,O⟩=false)
 bg:w.cell? ⟨go,0,O⟩=E v/\w.frozen? ⟨go,0,O⟩=false
 br:jV w go 1 R
 own:w.ownsRow B 118 3 v ts.length (Zj ts)
 low:Below w0.heap.size w0 w
theorem zaL.ext {B:Nat}{e w w':H}{d c:Nat}{v:Value}{ts:List Tri}{R:Tri}(h:zaL B e w d c v ts R)(b:Ext w w'):zaL B e w' d c v ts R:=by
 obtain⟨_,_,_,_,_⟩:=h.lt;have e:=h.le;have e:=b.size;have j:=b.block d om;have f:=b.block c om;obtain⟨k,l,m,n,o⟩:=h.rs;exact⟨h.lt,om,fun⟨e,g,i⟩=>h.kr ⟨e,g,j.symm.trans i⟩,fun⟨e,g,i⟩=>h.ko ⟨e,g,f.symm.trans i⟩,
  ⟨b.cell k,b.cell l,b.cell m,b.cell n,fun e=>(zt (w:=w) (a:=⟨d,e,O⟩) j).trans (o e)⟩,⟨b.cell h.bg.1,(zt (w:=w) (a:=⟨c,0,O⟩) f).trans h.bg.2⟩,h.br.same f,zb1 h.own b,h.low.trans (b.mono h.low.size)⟩
theorem zaL.far {B:Nat}{e w w':H}{c b:Nat}{v:Value}{ts:List Tri}{R:Tri}(h:zaL B e w c b v ts R)(d:w.grownBy w' v.ownBlock):w'.cell? ⟨b,0,O⟩=E v/\w'.frozen? ⟨b,0,O⟩=false:=by
 obtain⟨_,_,_,_,_⟩:=h.lt;have c:=h.le;have e:=d.block b om (fun e=>by have:=(h.own.lt b e.symm).1;omega);exact⟨(zP (w:=w) (a:=⟨b,0,O⟩) e).trans h.bg.1,(zt (w:=w) (a:=⟨b,0,O⟩) e).trans h.bg.2⟩
theorem zaL.grow {B:Nat}{b w w':H}{c d g cap:Nat}{v:Value}{ts:List Tri}{R x:Tri}(h:zaL B b w c d v ts R)(e:w.grownBy w' v.ownBlock)(ho:w'.ownsRow B 118 3 (V (E ⟨g,0,O⟩) (ts.length+1) cap) (ts.length+1) (Zj ts++x.cells)):
 zaL B b (w'.setCell ⟨d,0,O⟩ (V (E ⟨g,0,O⟩) (ts.length+1) cap)) c d (V (E ⟨g,0,O⟩) (ts.length+1) cap) (ts ++ [x]) R:=by
 obtain⟨_,_,_,_,j⟩:=h.lt;have b:=h.le;have b:=e.size;have blk:∀b,b<B->w'.heap[b]? =w.heap[b]?:=fun b i=>e.block b om (fun f=>by have:=(h.own.lt b f.symm).1;omega)
 have l:∀b,b≠d->(w'.setCell ⟨d,0,O⟩ (V (E ⟨g,0,O⟩) (ts.length+1) cap)).heap[b]? =w'.heap[b]?:=fun b i=>zK _ _ _ _ so
 have b:(w'.setCell ⟨d,0,O⟩ (V (E ⟨g,0,O⟩) (ts.length+1) cap)).heap.size=w'.heap.size:=sp;have b:=(l c j).trans (blk c om);have k:=blk d om;obtain⟨o,p,q,r,s⟩:=h.rs;have n:¬QE w' d:=fun⟨d,i,j⟩=>h.ko ⟨d,i,k.symm.trans j⟩
 have m:=h.br.same k;obtain⟨t,u,y,z,A,C⟩:=m;obtain⟨k,m⟩:=h.far e;refine⟨h.lt,om,fun⟨d,i,j⟩=>h.kr ⟨d,i,b.symm.trans j⟩,QY n,
  ⟨(zP (w:=w) (a:=⟨c,0,O⟩) b).trans o,(zP (w:=w) (a:=⟨c,1,O⟩) b).trans p,(zP (w:=w) (a:=⟨c,2,O⟩) b).trans q,(zP (w:=w) (a:=⟨c,3,O⟩) b).trans r,fun j=>(zt (w:=w) (a:=⟨c,j,O⟩) b).trans (s j)⟩,
  ⟨zu _ _ _ k,by simpa using m⟩,⟨qT t om,qT u om,qT y om,by simpa using z,by simpa using A,by simpa using C⟩,?_,?_⟩
 ·rw[zX,qF];have f:Zj ts++x.cells=Zj (ts ++ [x]):=by simp[Zj]
  rw[<-f];exact zaJ ho om (fun k b=>l k (by have:=(ho.lt k b).1;omega))
 ·refine h.low.trans ⟨e.os,e.tape,e.output,om,fun k b=>?_⟩;exact(l k om).trans (blk k om)
theorem zaL.start {w a c:H}{R:Tri}{gb:Nat}(f:Ext w a)(e:a.heap[gb]? =E zO)(g:w.heap.size<=gb)(d:Ext a c):zaL (c.heap.size+1) w (c.alloc (cl #[V O 0 0,G R.b,R.up,R.down] 308)) gb c.heap.size (V O 0 0) [] R:=by
 have h:=(zf.1 e).1;have a:=d.size;have a:=f.size;have b:(c.alloc (cl #[V O 0 0,G R.b,R.up,R.down] 308)).heap[gb]? =E zO:=(zI _ _ _ om).trans ((d.block _ h).trans e);have a:=zq c (cl #[V O 0 0,G R.b,R.up,R.down] 308);exact⟨⟨g,om,om,om,om⟩,sp,zar b dc,zar a dc,⟨c_ 0 b,c_ 1 b,c_ 2 b,c_ 3 b,fun j=>ZX b⟩,
  ⟨c_ 0 a,ZX a⟩,⟨c_ 1 a,c_ 2 a,c_ 3 a,ZX a,ZX a,ZX a⟩,Ze _ _ _ _,f.trans (d.alloc _)⟩
end Go.Proofs.YtnhfdcfnojnofaaGreatDoor.T
namespace Go.Proofs.YtnhfdcfnojnofaaGreatDoor
open Go.ChangeShapes Go.WideShapes Go.ChangeAt Go.RowKit
theorem zeT {k:Type}{enc:TypeId×Value->k}{a:Assume}{C:Checked}{os:Os}{f:FuncId}{b:Func}{s:ChangeSpec}{h:List PathCond}{apart m n l:Bool}{X:H->Array Value->Prop}
 (p:∀(w w':H) (args:Array Value),w.heap=w'.heap->X w args->X w' args)
 (own:ownKnob C.prog.godebug=O) (u:os.Started) (r:C.prog.inits.idxOf? f=O) (q:C.prog.funcs[f]? =E b)
 (x:∃(w:H) (c:Tape) (i:Input),w.os=os/\(w.forCall c i).Shaped C.prog/\i.vars= []/\Input.okWide C.prog (w.forCall c i) .any w.heap.size f i/\
  ((s.pre enc C.prog b h apart (w.forCall c i).memory i.args/\X (w.forCall c i).memory i.args)/\sizedMet enc C.prog b (OpenSpec.ofChange s) apart (w.forCall c i).memory i.args)/\a.holds C.prog (lone (Frame.enter C.prog f i.args .normal) [] (w.forCall c i)))
 (o:∀(W:H) (base:Nat) (args:Array Value) (ds d:List (DataW k)) (g:List MemPlace),
  (∀(j:Nat) t v,b.params[j]? =E t->args[j]? =E v->Value.okWide C.prog W .any base t v)->
  DataW.Whole enc C.prog b.params.toList s.vars apart W args.toList ds d g->
  h.all (PathCond.test C.prog ⟨b.params.toList,ds,s.plain.varTypes C.prog,d⟩)=true->
  (DataW.weightsEach C.prog (b.params.toList++s.plain.varTypes C.prog) (ds++d)).all (·<=reachBytes)=true->X W args->
  W.ShapedOpen C.prog->
  a.holds C.prog (lone (Frame.enter C.prog f args .normal) [] W)->
  Calls C.prog f args W fun e W'=>∃v,e= .returned v/\s.post enc C.prog b apart m n l W args v W'):
 ReturnsInHanded a C os f .any (fun w args=>(s.pre enc C.prog b h apart w args/\X w args)/\sizedMet enc C.prog b (OpenSpec.ofChange s) apart w args) (s.post enc C.prog b apart m n l):=by
 refine returnsInHanded_of_calls own u r x ?_;intro w c i _ r _ m n l;obtain⟨_,_,_,h,k,_,_,_,_,u⟩:=m;have e:=qV (k.symm.trans q);subst e;obtain⟨⟨⟨ds,d,g,b,h⟩,m⟩,q⟩:=n;have k:=DataW.Whole.of_heap (w':=w.forCall c i) (by rfl) b;refine(o (w.forCall c i) w.heap.size i.args ds d g u k h (q.weights b) (p _ _ _ (by rfl) m) r l).mono fun e W' ⟨v,b,c⟩=>?_
 subst b;exact ChangeSpec.post_blind c
theorem zk9 {d:Type}{enc:TypeId×Value->d}{P:Program}{f:Func}{s:ChangeSpec}{apart h i:Bool}{W W':H}{args:Array Value}{v:Value}{ds e:List (DataW d)}{c pa pv:List MemPlace}
 (g:DataW.Whole enc P f.params.toList s.vars apart W args.toList ds e c)
 (n:∀(b:Nat) (a:Nat->Bool) (l:Bool),DataW.TrodAll enc P W' b a l f.resultTypes.toList (v.resultList f.resultTypes.size) (s.fn d (ds++e)).results [])
 (j:∀a:Nat->Bool,(∀p∈c,a p.block=true)->DataW.TrodAll enc P W' 0 a true f.params.toList args.toList (s.fn d (ds++e)).args pa)
 (o:∀a:Nat->Bool,(∀p∈c,a p.block=true)->DataW.TrodVars enc P W' a s.vars (s.fn d (ds++e)).vars pv)
 (m:c=pa++pv) (k:Below W.heap.size W W'):
 s.post enc P f apart h i false W args v W':=by
 have d:∀p∈c,(fun b=>decide (b<W.heap.size)) p.block=true:=fun p a=>by simpa using g.lt p a
 refine⟨ds,e,c,[],pa,pv,g,n _ _ _,j _ d,o _ d,World.keptBut_mono (fun p a=>⟨a,?_⟩) (k.frame _),fun h=>by cases h⟩;rw[m,Zs]at a;exact Or.inr a
theorem own:ownKnob Tryz.prog.godebug=O:=kr
end Go.Proofs.YtnhfdcfnojnofaaGreatDoor
