import Derived.Test.YtmimmcmbgnjjcaaGreatDoorFon1Z8
import Derived.Test.YtmimmcmbgnjjcaaGreatDoorTie
import Derived.Test.YtmimmcmbgnjjcaaGreatDoorCards
open Option renaming none->O,some->E
open Go.Value renaming slice->V,bool->G,string->gS,pointer->pn,int->it,agg->ag
open Go.Obj renaming cells->cl
open Go renaming World->H
open Go.Proofs.Tryz renaming prog->pg
open Go.Proofs.Tryz
open Go.Ending renaming returned->Xa
open Go.IntKind renaming i64->Xb
open Go.Addr renaming mk->Xd
set_option linter.unusedSimpArgs false
set_option linter.unusedVariables false
set_option maxHeartbeats 4000000
set_option maxRecDepth 100000
namespace Go.Proofs.YtmimmcmbgnjjcaaGreatDoor
section
open Go.RowKit
variable {B N g k q size:Nat}{C:H->Prop}{U:Nat->Prop}{X Y w w':H}{a:List (List Value)}{p:Int}{t:TypeId}{v x:Value}{zs:List Int}
def Jf (w:H)(v:Value)(zs:List Int):Prop:=
 ∃ao cap,v=V ao zs.length cap/\(0<zs.length->∃g off,ao=E (Xd g off O)/\g<w.heap.size/\∀(i:Nat) (z:Int),zs[i]? =E z->w.cell? ⟨g,off+i,O⟩=E (it Xb z))
theorem Jf.ext(h:Jf w v zs)(hb:Ext w w'):Jf w' v zs:=by
 obtain⟨a,b,rfl,c⟩:=h;refine⟨a,b,rfl,fun a=>?_⟩;obtain⟨g,off,rfl,d,b⟩:=c a;exact⟨g,off,rfl,zK d hb.size,fun i z a=>hb.cell (b i z a)⟩
theorem zdR(z:Int)(h:z.natAbs<10^10):(ByteArray.mk (Lib.itoa z).toArray).size<=11:=by
 rw[zfg];have a:=zbS 10 _ h om;unfold Lib.itoa;split
 ·simp;omega
 ·rw[show z.toNat=z.natAbs by omega];omega
theorem zm3(w:H)(v:Value)(zs:List Int)(x:Jf w v zs)(y:∀z∈zs,z.natAbs<10^10)(K:zs.length<=1000)(u:Tab w):
 Calls pg 17 #[v] w fun e w'=>e=Xa (gS ⟨(QF zs).toArray⟩)/\Below w.heap.size w w':=by
 obtain⟨_,_,rfl,s⟩:=x;have m:=zf y;have k:=zf s;go_enter func17,ntmps17
 go_wp2;go_loopw [3,4] (fun sv d wr=>∃(i:Nat) (a:ByteArray),i<=zs.length/\sv=gS a/\d=it Xb (i:Nat)/\a.size<=i*12/\Hid (a=⟨(QF (zs.take i)).toArray⟩)/\Ext w wr) (fun _ d _=>((zs.length:Int)-intOf d).toNat)
 case atStart=>exact⟨0,⟨#[]⟩,om,rfl,rfl,qo _,rfl,Xe _⟩
 case round=>
  obtain⟨i,a,_,rfl,rfl,_,f,b⟩:=hrel;by_cases c:i<zs.length
  ·obtain⟨_,off,rfl,_,r⟩:=k.out om;have A:=zg c;have q:=m.out _ (zJ c);have C:=b.cell (r i _ A);have L:=zdR _ q;have l:Hid (a++⟨#[32]⟩++⟨(Lib.itoa zs[i]).toArray⟩=⟨(QF (zs.take (i+1))).toArray⟩):=by
    have e:(⟨#[32]⟩:ByteArray)=⟨([32]:List UInt8).toArray⟩:=rfl;rw[Hid,f.out,e,ZP,ZP,ZQ c];simp only[QF,ZX,Qo,JP,ZR,Zl,ZZ,Q7]
   generalize zs[i]=z at *;have M:(10:Nat)^10=10000000000:=dc;have j:=zf (fun W (o:Ext wr W)=>zef z om om W ((u.below b).below o));generalize ByteArray.mk (Lib.itoa z).toArray=g at *;have F:¬9223372036854775807<a.size+1:=om;have I:¬9223372036854775806<a.size:=om;have J:¬9223372036854775807<a.size+1+g.size:=om;have t:(a++⟨#[32]⟩++g).size<=(i+1)*12:=by
    have D:(ByteArray.mk #[32]).size=1:=rfl;simp only[zbC];omega
   have B:=Xe wr;go_wp2_with fail
   refine(j.out _ B).mono ?_;rintro e N ⟨rfl,p⟩;go_wp2;go_roundw
   case rel=>exact⟨i+1,_,om,rfl,by go_num,t,l,b.trans p⟩
   case measure=>simp[intOf];omega
  ·obtain rfl:i=zs.length:=om;have h:Hid (a=⟨(QF zs).toArray⟩):=by
    rw[Hid,f.out,Zx]
   go_wp2;go_ret;exact⟨by rw[<-h.out];rfl,b⟩
theorem zlm{l:List UInt8}(h:dOk l=true):(T.wZ l).natAbs<10^40:=by
 have a:(T.wZ l).natAbs=ZE (Lib.trimPrefix l [45]):=by
  unfold T.wZ sg;split<;>simp
 rw[a];exact T.okD_ten h
theorem zoD{a:List (List UInt8)}(h:a.all dOk=true):∀z∈a.map T.wZ,z.natAbs<10^40:=by
 intro z b;obtain⟨l,a,rfl⟩:=qP.1 b;exact zlm (Zi.1 h l a)
structure zbU (i:Nat)(p:qF):Prop where
 z:i=0->p=qF.none
 n:0<i->0<p.n/\p.n<=4
 r:i<=2+p.n->p.rows= []
 l:p.rows.length<=6
 g:p.rg.length=min (i-2) p.n
 m:2<=i->p.mx.length=p.n
 c:∀x∈p.rows,x.1.length=p.n/\jO x.2.1=true
 bm:∀z∈p.mx,z.natAbs<10^40
 bg:∀r∈p.rg,r.1.natAbs<10^40/\r.2.natAbs<10^40
 br:∀x∈p.rows,(∀z∈x.1,z.natAbs<10^40)/\x.2.2.natAbs<10^40
theorem zbU.start:zbU 0 qF.none:=by
 refine⟨fun _=>rfl,fun h=>om,fun _=>rfl,by simp[qF.none],by simp[qF.none],fun h=>om,fun x a=>by simp[qF.none]at a,fun x a=>by simp[qF.none]at a,fun x a=>by simp[qF.none]at a,fun x a=>by simp[qF.none]at a⟩
theorem zlN(a:List (List UInt8)):T.varsN a<=4:=by
 unfold T.varsN;split
 ·exact T.varB_le _
 ·omega
theorem zbU.step{i:Nat}{p q:qF}{g:List (List UInt8)}(h:zbU i p)(a:jD i p g=E q):zbU (i+1) q:=by
 unfold jD at a;by_cases k:i=0
 ·rw[zQ k]at a;subst k;by_cases r:T.varsN g=0
  ·rw[zQ r]at a;cases a
  ·rw[zO r]at a;injection a with a
   subst a;exact⟨fun h=>om,fun _=>⟨Z3 r,zlN g⟩,fun _=>rfl,sp,sp,fun h=>om,fun x b=>by simp at b,fun x b=>by simp at b,fun x b=>by simp at b,fun x b=>by simp at b⟩
 ·rw[zO k]at a;have o:=h.n om;by_cases l:i=1
  ·rw[zQ l]at a;subst l;split at a
   ·rename_i c
    injection a with a
    subst a;have m:=h.g;refine⟨fun h=>om,fun _=>o,fun _=>h.r om,h.l,by simpa using m,fun _=>?_,h.c,zoD c.2.2,h.bg,h.br⟩;simp only[zm,Za];omega
   ·cases a
  ·rw[zO l]at a;by_cases s:i<=1+p.n
   ·rw[zQ s]at a;split at a
    ·rename_i c
     injection a with a
     subst a;have m:=h.g;refine⟨fun h=>om,fun _=>o,fun _=>h.r om,h.l,?_,fun _=>h.m om,h.c,h.bm,fun v u=>?_,h.br⟩
     ·simp only[zM,ZH];omega
     ·rcases zU.1 u with e|e
      ·exact h.bg v e
      ·obtain rfl:=qg.1 e;obtain⟨j,d,f,rfl⟩:∃j d f,g= [j,d,f]:=by
        match g,c.1 with
        |[j,d,f],_=>exact⟨j,d,f,rfl⟩
       have t:dOk d=true/\dOk f=true:=by simpa using c.2.2
       exact⟨zlm t.1,zlm t.2⟩
    ·cases a
   ·rw[zO s]at a;split at a
    ·rename_i c
     injection a with a
     subst a;have m:=h.g;refine⟨fun h=>om,fun _=>o,fun h=>?_,?_,?_,fun _=>h.m om,fun x b=>?_,h.bm,h.bg,fun x b=>?_⟩;·simp only at h;omega
     ·simp only[zM,ZH];omega
     ·simp only;omega
     ·rcases zU.1 b with e|e
      ·exact h.c x e
      ·obtain rfl:=qg.1 e;refine⟨?_,c.2.2.2.2.1⟩;simp only[zm,zX,Za];omega
     ·rcases zU.1 b with e|e
      ·exact h.br x e
      ·obtain rfl:=qg.1 e;exact⟨zoD c.2.2.2.1,zlm c.2.2.2.2.2⟩
    ·cases a
def JY (s:List UInt8):Except (Nat×Nat) qF:=
 if 2000<s.length then .error (4,0)
 else match ju 0 qF.none (QW s)with
  |.error k=> .error (5,k)
  |.ok p=>if (QW s).length<2+p.n then .error (5,(QW s).length+1)else match zao 0 p.rg with
   |some i=> .error (6,i+3)
   |.none=> .ok p
theorem Qa.shape(h:Qa w x p q):∃t:T.Tri,x=t.val/\0<q:=by
 obtain⟨c,a,l,d,b,g,e,rfl,-,-,-,f,-⟩:=h.parts;exact⟨⟨c,(a,l,d),(b,g,e)⟩,rfl,f⟩
theorem zy.shape{z:Int}(h:zy w x z):∃t:WT,x=t.val:=by
 obtain⟨b,a,l,c,rfl,-,-⟩:=h.parts;exact⟨⟨b,(a,l,c)⟩,rfl⟩
theorem zbV(K:Nat)(a:K<=1073741800):zfj K:=zqe K om (znB K a)
theorem zcL{b j:Nat}{u v0 v1 v2:Value}(c:b≠g)(h:w.cell? (Xd b j O)=E u):(((w.setCell (Xd g 0 O) v0).setCell (Xd g 1 O) v1).setCell (Xd g 2 O) v2).cell? (Xd b j O)=E u:=by
 rw[Zj (w:=w) (a:=⟨b,j,O⟩)];·exact h
 ·exact(qC _ _ _ _ so).trans ((qC _ _ _ _ so).trans (qC _ _ _ _ so))
theorem ZG{W w1:H}(h:Below W.drew.heap.size W.drew w1):Ext W w1:=⟨h.os,h.tape,h.output,h.size,h.block⟩
theorem zej{P:Program}{n l:Nat}{f:Array Oper}{Q:Exit->Act->H->Prop}(b:¬LetsOut Q):∀(os:List Oper) (a:Act) (w:H),(∀o∈os,∀c,o.op≠ .defer c)->wpList P f Q os a w->wpListIn (Fence.wide.inRound l) n P f Q os a w
 |[],a,w,_,h=>h
 |o::rest,a,w,d,h=>by
  unfold wpList at h;unfold wpListIn;split
  ·rename_i e
   rw[zQ e]at h;rcases h with h|h
   ·refine⟨fun _ _=>trivial,?_⟩;rw[Oper.semAt_eq _ _ _ (d o qA)];exact zhj (fun a w h=>zej b rest a w (fun o ho=>d o (qq _ ho)) h) h
   ·exact absurd h.2 b
  ·rename_i e
   rw[zO e]at h;exact⟨fun _ _=>trivial,zej b rest _ _ (fun o ho=>d o (qq _ ho)) h⟩
theorem Qt{P:Program}{n l id:Nat}{b:Array Oper}{Q:Exit->Act->H->Prop}{a:Act}(d:b.toList.all (fun o=>match o.op with|.defer _=>false|_=>true)=true)(c:¬LetsOut Q)(h:wpList P b Q b.toList a w):(Code.region id b false).wpIn (Fence.wide.inRound l) n P Q a w:=by
 refine wpIn_region_list (zej c _ _ _ (fun o c b b=>?_) h);have:=Zi.1 d o c;rw[b]at this;cases this
def qQ (w:H)(k:Nat)(t:TypeId):Prop:=∃cs fr,w.heap[k]? =E (cl cs t fr)
theorem qQ.lt(h:qQ w k t):k<w.heap.size:=by
 obtain⟨_,_,h⟩:=h;exact(zd.1 h).1
theorem qQ.keep(h:qQ w k t)(c:zn B w w'):qQ w' k t:=by
 obtain⟨a,b,h⟩:=h;exact⟨a,b,c.block k _ h (.inr rfl)⟩
theorem qQ.same(h:qQ w k t)(c:w'.heap[k]? =w.heap[k]?):qQ w' k t:=by
 obtain⟨a,b,h⟩:=h;exact⟨a,b,c.trans h⟩
theorem qQ.one{b:TypeId}(h:qQ w k t)(a:qQ w k b):t=b:=by
 obtain⟨_,_,h⟩:=h;obtain⟨_,_,a⟩:=a;rw[h]at a;simp only[qN,Obj.cells.injEq]at a;exact a.2.1
def ZS (w:H)(t:TypeId)(v:Value)(size:Nat)(css:List (List Value)):Prop:=
 (v=V O 0 0/\css= [])\/∃g off cap,v=V (E (Xd g off O)) css.length cap/\css.length<=cap/\qQ w g t/\∀(i:Nat) (cs:List Value),css[i]? =E cs->∀(j:Nat) (u:Value),cs[j]? =E u->w.cell? ⟨g,off+i*size+j,O⟩=E u
theorem ZS.recs(h:ZS w t v size a):T.Recs w v size a:=by
 rcases h with h|⟨g,off,a,b,c,d,e⟩
 ·exact Or.inl h
 ·exact Or.inr ⟨g,off,a,b,c,d.lt,e⟩
theorem ZS.shape(h:ZS w t v size a):∃b cap,v=V b a.length cap:=h.recs.shape
theorem ZS.keep(h:ZS w t v size a)(b:zn B w w'):ZS w' t v size a:=by
 rcases h with h|⟨g,off,a,c,d,e,f⟩
 ·exact Or.inl h
 ·exact Or.inr ⟨g,off,a,c,d,e.keep b,fun i a c j u d=>b.cell (f i a c j u d)⟩
theorem ZS.ext(h:ZS w t v size a)(b:Ext w w'):ZS w' t v size a:=h.keep (B:=0) (zn.of_below b)
theorem ZS.wr(h:ZS w t v size a)(c:Wr U w w')(j:∀k,U k->¬qQ w k t):ZS w' t v size a:=by
 rcases h with h|⟨g,off,d,f,i,a,l⟩
 ·exact Or.inl h
 ·have b:¬U g:=fun e=>j g e a
  exact Or.inr ⟨g,off,d,f,i,a.same (c.block g a.lt b),fun i a d j u e=>c.cell (p:=⟨g,off+i*size+j,O⟩) b (l i a d j u e)⟩
theorem Qa.keep(h:Qa w x p q)(a:zn B w w'):Qa w' x p q:=by
 obtain⟨b,v,u,c,d,e,f,g⟩:=h;exact⟨b,v,u,c,d.keep a,e,f.keep a,g⟩
theorem Qa.wr(h:Qa w x p q)(b:Wr U w w')(a:∀k,U k->qK w k):Qa w' x p q:=by
 obtain⟨c,v,u,d,e,f,g,i⟩:=h;exact⟨c,v,u,d,e.wr b a,f,g.wr b a,i⟩
def Zo (w:H)(v:Value)(zs:List Int):Prop:=
 ∃ts:List WT,ts.length=zs.length/\ZS w 85 v 2 (ts.map WT.cells)/\∀(i:Nat) (t:WT) (z:Int),ts[i]? =E t->zs[i]? =E z->zy w t.val z
def FList (w:H)(v:Value)(qs:List (Int×Nat)):Prop:=
 ∃ts:List T.Tri,ts.length=qs.length/\ZS w 87 v 3 (ts.map T.Tri.cells)/\∀(i:Nat) (t:T.Tri) (q:Int×Nat),ts[i]? =E t->qs[i]? =E q->Qa w t.val q.1 q.2
theorem Zo.keep(h:Zo w v zs)(a:zn B w w'):Zo w' v zs:=by
 obtain⟨e,b,c,d⟩:=h;exact⟨e,b,c.keep a,fun i t z b c=>(d i t z b c).keep a⟩
theorem Zo.ext(h:Zo w v zs)(a:Ext w w'):Zo w' v zs:=h.keep (B:=0) (zn.of_below a)
theorem Zo.wr(h:Zo w v zs)(c:Wr U w w')(b:∀k,U k->¬qQ w k 85/\qK w k):Zo w' v zs:=by
 obtain⟨f,a,d,e⟩:=h;exact⟨f,a,d.wr c (fun k a=>(b k a).1),fun i t z d f=>(e i t z d f).wr c (fun k a=>(b k a).2)⟩
theorem FList.keep{b:List (Int×Nat)}(h:FList w v b)(a:zn B w w'):FList w' v b:=by
 obtain⟨e,b,c,d⟩:=h;exact⟨e,b,c.keep a,fun i t z b c=>(d i t z b c).keep a⟩
theorem FList.wr{a:List (Int×Nat)}(h:FList w v a)(c:Wr U w w')(b:∀k,U k->¬qQ w k 87/\qK w k):FList w' v a:=by
 obtain⟨f,a,d,e⟩:=h;exact⟨f,a,d.wr c (fun k a=>(b k a).1),fun i t z d f=>(e i t z d f).wr c (fun k a=>(b k a).2)⟩
structure Grw (B:Nat)(t:TypeId)(size:Nat)(w:H)(v:Value)(css:List (List Value)):Prop where
 own:w.ownsRow B t size v css.length css.flatten
 dig:∀g,v.ownBlock=E g->qK w g
 siz:∀cs∈css,cs.length=size
theorem Grw.nil(B:Nat)(t:TypeId)(size:Nat)(w:H):Grw B t size w (V O 0 0) []:=⟨zaf _ _ _ _,(fun g h=>by cases h),(fun a h=>by cases h)⟩
abbrev Xt:=@Grw.nil
theorem Grw.type(h:Grw B t size w v a):∀g,v.ownBlock=E g->qQ w g t/\B<=g:=by
 intro g a;obtain⟨_,b|⟨_,_,_,e,c,d,_⟩⟩:=h.own;·rw[b.1]at a;cases a
 ·rw[e]at a;simp[Value.ownBlock]at a;subst a;exact⟨⟨_,_,d⟩,c⟩
theorem Grw.shape{b:List (List Value)}(h:Grw B t size w v b):∃a c,v=V a b.length c:=by
 obtain⟨_,b|⟨_,_,_,d,_⟩⟩:=h.own;·exact⟨O,0,by rw[b.1,b.2]⟩
 ·exact⟨_,_,d⟩
theorem Grw.list(h:Grw B t size w v a):ZS w t v size a:=by
 have a:=T.recs_of_owns h.own h.siz;rcases a with a|⟨g,off,c,b,d,_,e⟩
 ·exact Or.inl a
 ·exact Or.inr ⟨g,off,c,b,d,(h.type g (by rw[b];rfl)).1,e⟩
theorem Grw.keep{C:Nat}(h:Grw B t size w v a)(b:zn C w w'):Grw B t size w' v a:=by
 refine⟨?_,fun g a=>(h.dig g a).keep b,h.siz⟩;obtain⟨a,e|⟨g,c,d,o,k,l,m,f,i,j⟩⟩:=h.own;·exact⟨a,Or.inl e⟩
 ·exact⟨a,Or.inr ⟨g,c,d,o,k,b.block g _ l (.inr rfl),m,f,i,j⟩⟩
theorem Grw.ext(h:Grw B t size w v a)(b:Ext w w'):Grw B t size w' v a:=h.keep (C:=0) (zn.of_below b)
theorem Grw.same(h:Grw B t size w v a)(hs:w.heap.size<=w'.heap.size)(b:∀g,v.ownBlock=E g->w'.heap[g]? =w.heap[g]?):Grw B t size w' v a:=
 ⟨T.owns_same h.own hs b,fun g a=>(h.dig g a).same (b g a),h.siz⟩
theorem Grw.more{cs:List Value}{cap:Nat}(h:Grw B t size w v a)(b:cs.length=size)(ho:w'.ownsRow B t size (V (E (Xd g 0 O)) (a.length+1) cap) (a.length+1) (a.flatten++cs))(c:qK w' g):Grw B t size w' (V (E (Xd g 0 O)) (a.length+1) cap) (a ++ [cs]):=by
 refine⟨?_,fun k d=>?_,fun x a=>?_⟩
 ·rw[zM,ZH,<-T.flat_snoc];exact ho
 ·have e:g=k:=by simpa[Value.ownBlock]using d
  rw[<-e];exact c
 ·rcases zU.1 a with a|a
  ·exact h.siz x a
  ·rw[qg.1 a];exact b
def Jt (N:Nat)(C:H->Prop):Prop:=∀A B:H,C A->(∀(k:Nat) (o:Obj),k<N->A.heap[k]? =E o->o.isCells=true->B.heap[k]? =E o)->C B
theorem Jt.keep(h:Jt N C)(a:C X)(b:zn B X Y):C Y:=h X Y a (fun k o _ c a=>b.block k o c (.inr a))
theorem Jt.wr(h:Jt N C)(a:C X)(c:Wr U X Y)(b:∀k,U k->N<=k):C Y:=h X Y a (fun k o a a _=>c.some a (fun e=>by have:=b k e;omega))
theorem Jt.below(h:Jt N C)(a:C X)(hb:Ext X Y):C Y:=h.keep (B:=0) a (zn.of_below hb)
theorem Jt.mono{a:Nat}(h:Jt N C)(c:N<=a):Jt a C:=fun A B a b=>h A B a (fun k o a=>b k o (zK a c))
theorem rec_new(w:H)(cs:List Value)(t:TypeId):∀(j:Nat) (u:Value),cs[j]? =E u->(w.alloc (cl cs.toArray t)).cell? ((⟨w.heap.size,0,O⟩:Addr).add j)=E u:=by
 intro j u h;exact World.news_of_block (zC w (cl cs.toArray t)) j u (by simpa using h)
theorem Qh{row:Option Nat}(hg:w.grownBy w' row)(c:∀g,row=E g->U g):Wr U w w':=
 ⟨hg.os,hg.tape,hg.output,hg.size,fun k a b=>hg.block k a (fun e=>b (c k e.symm))⟩
theorem zv{i:Nat}(hg:U g)(v:Value):Wr U w (w.setCell (Xd g i O) v):=(Xi U w).setCell (p:=(Xd g i O)) hg v
theorem zqD{tb:TypeId}{gb:Nat}{A A4:H}{css:List (List Value)}{cs:List Value}{cap:Nat}{fr:Nat×Nat}{o:Obj}(hG:Grw B t size A v css)(hc:cs.length=size)(ho:A4.ownsRow B t size (V (E (Xd g 0 O)) (css.length+1) cap) (css.length+1) (css.flatten++cs))(hd:qK A4 g)(hg:(A.alloc o).grownBy A4 v.ownBlock)(hb:A.heap[gb]? =E (cl #[v] tb fr))(hB:gb<B)(hat:v.ownBlock=E g\/g=(A.alloc o).heap.size):
 Wr (fun b=>b=gb\/v.ownBlock=E b) A (A4.setCell (Xd gb 0 O) (V (E (Xd g 0 O)) (css.length+1) cap))/\
 (A4.setCell (Xd gb 0 O) (V (E (Xd g 0 O)) (css.length+1) cap)).heap[gb]? =E (cl #[V (E (Xd g 0 O)) (css.length+1) cap] tb fr)/\
 Grw B t size (A4.setCell (Xd gb 0 O) (V (E (Xd g 0 O)) (css.length+1) cap)) (V (E (Xd g 0 O)) (css.length+1) cap) (css ++ [cs])/\
 (∀k,k=gb\/(V (E (Xd g 0 O)) (css.length+1) cap).ownBlock=E k->(k=gb\/v.ownBlock=E k)\/A.heap.size<=k):=by
 have hlt:=(zd.1 hb).1;have e4:=(hg.block gb so (fun e=>by have:=(hG.type gb e.symm).2;omega)).trans ((qH _ _ _ hlt).trans hb);have hgB:=(ho.lt g rfl).1;refine⟨?_,?_,?_,?_⟩;·exact((Xf ((Xe A).alloc o)).trans (Qh hg (fun k hk=>Or.inr hk))).trans (zv (Or.inl rfl) _)
 ·rw[Xk e4];rfl
 ·refine(hG.ext ((Xe A).alloc o)).more hc ho hd |>.same sp (fun k hk=>?_)
  have e:g=k:=by simpa[Value.ownBlock]using hk
  exact qC _ _ _ _ so
 ·rintro k (rfl|hk);·exact .inl (.inl rfl)
  ·have e:g=k:=by simpa[Value.ownBlock]using hk
   subst e;rcases hat with h|h
   ·exact .inl (.inr h)
   ·exact .inr (by rw[h];simp)
attribute [local go_sem] zD zW qJ
structure NT where
 f:Option Addr×Nat×Nat
 t:WT
 num:Int
def NT.fv (t:NT):Value:=V t.f.1 t.f.2.1 t.f.2.2
def NT.val (t:NT):Value:=ag #[t.fv,G t.t.b,t.t.sv,it Xb t.num]
def NT.cells (t:NT):List Value:= [t.fv,G t.t.b,t.t.sv,it Xb t.num]
structure ET where
 n:NT
 l:Option Addr×Nat×Nat
def ET.lv (t:ET):Value:=V t.l.1 t.l.2.1 t.l.2.2
def ET.val (t:ET):Value:=ag #[t.n.fv,G t.n.t.b,t.n.t.sv,it Xb t.n.num,t.lv]
def ET.cells (t:ET):List Value:= [t.n.fv,G t.n.t.b,t.n.t.sv,it Xb t.n.num,t.lv]
structure LT where
 o:Option Addr×Nat×Nat
 p:Option Addr×Nat×Nat
def LT.ov (t:LT):Value:=V t.o.1 t.o.2.1 t.o.2.2
def LT.pv (t:LT):Value:=V t.p.1 t.p.2.1 t.p.2.2
def LT.val (t:LT):Value:=ag #[t.ov,t.pv]
def LT.cells (t:LT):List Value:= [t.ov,t.pv]
structure PT where
 num:Int
 t:WT
def PT.val (t:PT):Value:=ag #[it Xb t.num,G t.t.b,t.t.sv]
def PT.cells (t:PT):List Value:= [it Xb t.num,G t.t.b,t.t.sv]
theorem zgj(ts:List NT)(g:Option Addr)(cap j:Nat)(Q:ts.length<=1000000):
 Ja pg 158 #[pn (E (Xd j 0 O))] ts.length (fun k v _=>∃t,ts[k]? =E t/\v=#[t.val]) (fun W=>W.cell? (Xd j 0 O)=E (V g ts.length cap)/\T.Recs W (V g ts.length cap) 4 (ts.map NT.cells)):=by
 intro R J L f W B N p C o;have P:=(p 0 f W o).1.1;have r:=zf p;have s:=zf C;refine zcW func158 ntmps158 (h:=?_);gi_wp2;gi_loopw [7] (fun i wr=>∃(k:Nat) (M:Nat->Prop),i=it Xb (k:Int)/\k<=ts.length/\J k M wr/\W.heap.size<=wr.heap.size) (fun i _=>ts.length-(intOf i).toNat)
 case atStart=>exact⟨0,f,rfl,qo _,o,zh _⟩
 case round=>
  obtain⟨k,M,rfl,_,c,_⟩:=hrel;by_cases a:k<ts.length
  ·have q:=zg a;obtain⟨_,off,rfl,_,D⟩:=(r.out k M wr c).1.2.at (by intro m;rw[QB]at m;rw[m]at a;simp at a);have b:=D k _ (by rw[zR,q];rfl);have e:=zf (fun x I=>s.out k #[(NT.val ts[k])] M x a ⟨_,q,rfl⟩ I);generalize ts[k]=t at *;obtain⟨⟨fa,_,_⟩,⟨_,⟨_,_,_⟩⟩,_⟩:=t;have l:=b 0 _ rfl;have y:=b 1 _ rfl;have z:=b 2 _ rfl;have A:=b 3 _ rfl;rw[qV]at l;simp only[NT.cells,NT.fv,WT.sv]at l y z A;simp only[NT.val,NT.fv,WT.sv]at e;gi_wp2;refine jr (e.out _ (B _ _ _ _ c (zn.alloc _ _ _))) ?_ ?_
   ·rintro w ⟨K,u,d,_⟩;gi_wp2;go_roundw
    case rel=>exact⟨k+1,u,sp,a,d,by have:=K.size;simp at this;omega⟩
    case measure=>simp[intOf];omega
   ·intro w d;gi_wp2;refine zH (qI rfl _ _ _) rfl ?_;exact⟨⟨_,rfl⟩,.inr ⟨k,a,d.2⟩⟩
  ·gi_wp2;go_end0
   have F:k=ts.length:=om;subst F;exact⟨⟨_,rfl⟩,.inl ⟨M,c⟩⟩
theorem zgZ(a:Option Addr)(l c:Nat)(w:H):
 Calls pg 83 #[V a l c] w fun e w'=>e=Xa (.func (.func 158) #[] #[pn (E (Xd w.heap.size 0 O))])/\w'=w.alloc (cl #[V a l c] 116):=by
 go_enter func83,ntmps83
 have a:=jR;go_wp2;go_ret;exact⟨rfl,rfl⟩
theorem zcs(ts:List ET)(g:Option Addr)(cap j:Nat)(R:ts.length<=1000000):
 Ja pg 295 #[pn (E (Xd j 0 O))] ts.length (fun k v _=>∃t,ts[k]? =E t/\v=#[t.val]) (fun W=>W.cell? (Xd j 0 O)=E (V g ts.length cap)/\T.Recs W (V g ts.length cap) 5 (ts.map ET.cells)):=by
 intro S J N f W C P p D o;have Q:=(p 0 f W o).1.1;have r:=zf p;have s:=zf D;refine zcW func295 ntmps295 (h:=?_);gi_wp2;gi_loopw [7] (fun i wr=>∃(k:Nat) (M:Nat->Prop),i=it Xb (k:Int)/\k<=ts.length/\J k M wr/\W.heap.size<=wr.heap.size) (fun i _=>ts.length-(intOf i).toNat)
 case atStart=>exact⟨0,f,rfl,qo _,o,zh _⟩
 case round=>
  obtain⟨k,M,rfl,_,c,_⟩:=hrel;by_cases a:k<ts.length
  ·have q:=zg a;obtain⟨_,off,rfl,_,F⟩:=(r.out k M wr c).1.2.at (by intro m;rw[QB]at m;rw[m]at a;simp at a);have b:=F k _ (by rw[zR,q];rfl);have e:=zf (fun x K=>s.out k #[(ET.val ts[k])] M x a ⟨_,q,rfl⟩ K);generalize ts[k]=t at *;obtain⟨⟨⟨fa,_,_⟩,⟨_,⟨_,_,_⟩⟩,_⟩,⟨_,_,_⟩⟩:=t;have l:=b 0 _ rfl;have y:=b 1 _ rfl;have z:=b 2 _ rfl;have A:=b 3 _ rfl;have B:=b 4 _ rfl;rw[qV]at l;simp only[ET.cells,NT.fv,WT.sv,ET.lv]at l y z A B;simp only[ET.val,NT.fv,WT.sv,ET.lv]at e;gi_wp2;refine jr (e.out _ (C _ _ _ _ c (zn.alloc _ _ _))) ?_ ?_
   ·rintro w ⟨L,u,d,_⟩;gi_wp2;go_roundw
    case rel=>exact⟨k+1,u,sp,a,d,by have:=L.size;simp at this;omega⟩
    case measure=>simp[intOf];omega
   ·intro w d;gi_wp2;refine zH (qI rfl _ _ _) rfl ?_;exact⟨⟨_,rfl⟩,.inr ⟨k,a,d.2⟩⟩
  ·gi_wp2;go_end0
   have I:k=ts.length:=om;subst I;exact⟨⟨_,rfl⟩,.inl ⟨M,c⟩⟩
theorem zj6(a:Option Addr)(l c:Nat)(w:H):
 Calls pg 243 #[V a l c] w fun e w'=>e=Xa (.func (.func 295) #[] #[pn (E (Xd w.heap.size 0 O))])/\w'=w.alloc (cl #[V a l c] 108):=by
 go_enter func243,ntmps243
 have a:=jR;go_wp2;go_ret;exact⟨rfl,rfl⟩
theorem zjf(ts:List LT)(a:Option Addr)(cap b:Nat)(c:ts.length<=1000000):
 Ja pg 251 #[pn (E (Xd b 0 O))] ts.length (fun k v _=>∃t,ts[k]? =E t/\v=#[t.val]) (fun W=>W.cell? (Xd b 0 O)=E (V a ts.length cap)/\T.Recs W (V a ts.length cap) 2 (ts.map LT.cells)):=by
 intro l J a a W j b c d b;have e:=(c 0 a W b).1.1;have e:=zf c;have f:=zf d;refine zcW func251 ntmps251 (h:=?_);gi_wp2;gi_loopw [7] (fun i wr=>∃(k:Nat) (M:Nat->Prop),i=it Xb (k:Int)/\k<=ts.length/\J k M wr/\W.heap.size<=wr.heap.size) (fun i _=>ts.length-(intOf i).toNat)
 case atStart=>exact⟨0,a,rfl,qo _,b,zh _⟩
 case round=>
  obtain⟨k,M,rfl,_,b,_⟩:=hrel;by_cases a:k<ts.length
  ·have d:=zg a;obtain⟨_,off,rfl,_,c⟩:=(e.out k M wr b).1.2.at (by intro e;rw[QB]at e;rw[e]at a;simp at a);have e:=c k _ (by rw[zR,d];rfl);have c:=zf (fun g i=>f.out k #[(LT.val ts[k])] M g a ⟨_,d,rfl⟩ i);generalize ts[k]=t at *;obtain⟨⟨fa,_,_⟩,⟨_,_,_⟩⟩:=t;have d:=e 0 _ rfl;have f:=e 1 _ rfl;rw[qV]at d;simp only[LT.cells,LT.ov,LT.pv]at d f;simp only[LT.val,LT.ov,LT.pv]at c;gi_wp2;refine jr (c.out _ (j _ _ _ _ b (zn.alloc _ _ _))) ?_ ?_
   ·rintro e ⟨f,d,c,_⟩;gi_wp2;go_roundw
    case rel=>exact⟨k+1,d,sp,a,c,by have:=f.size;simp at this;omega⟩
    case measure=>simp[intOf];omega
   ·intro e c;gi_wp2;refine zH (qI rfl _ _ _) rfl ?_;exact⟨⟨_,rfl⟩,.inr ⟨k,a,c.2⟩⟩
  ·gi_wp2;go_end0
   have a:k=ts.length:=om;subst a;exact⟨⟨_,rfl⟩,.inl ⟨M,b⟩⟩
theorem zj7(a:Option Addr)(l c:Nat)(w:H):
 Calls pg 178 #[V a l c] w fun e w'=>e=Xa (.func (.func 251) #[] #[pn (E (Xd w.heap.size 0 O))])/\w'=w.alloc (cl #[V a l c] 117):=by
 go_enter func178,ntmps178
 have a:=jR;go_wp2;go_ret;exact⟨rfl,rfl⟩
theorem zk6(ts:List PT)(g:Option Addr)(cap j:Nat)(P:ts.length<=1000000):
 Ja pg 298 #[pn (E (Xd j 0 O))] ts.length (fun k v _=>∃t,ts[k]? =E t/\v=#[t.val]) (fun W=>W.cell? (Xd j 0 O)=E (V g ts.length cap)/\T.Recs W (V g ts.length cap) 3 (ts.map PT.cells)):=by
 intro Q J K f W A L p B o;have N:=(p 0 f W o).1.1;have r:=zf p;have s:=zf B;refine zcW func298 ntmps298 (h:=?_);gi_wp2;gi_loopw [7] (fun i wr=>∃(k:Nat) (M:Nat->Prop),i=it Xb (k:Int)/\k<=ts.length/\J k M wr/\W.heap.size<=wr.heap.size) (fun i _=>ts.length-(intOf i).toNat)
 case atStart=>exact⟨0,f,rfl,qo _,o,zh _⟩
 case round=>
  obtain⟨k,M,rfl,_,c,_⟩:=hrel;by_cases a:k<ts.length
  ·have q:=zg a;obtain⟨_,off,rfl,_,C⟩:=(r.out k M wr c).1.2.at (by intro m;rw[QB]at m;rw[m]at a;simp at a);have b:=C k _ (by rw[zR,q];rfl);have e:=zf (fun x F=>s.out k #[(PT.val ts[k])] M x a ⟨_,q,rfl⟩ F);generalize ts[k]=t at *;obtain⟨_,⟨_,⟨_,_,_⟩⟩⟩:=t;have l:=b 0 _ rfl;have y:=b 1 _ rfl;have z:=b 2 _ rfl;rw[qV]at l;simp only[PT.cells,WT.sv]at l y z;simp only[PT.val,WT.sv]at e;gi_wp2;refine jr (e.out _ (A _ _ _ _ c (zn.alloc _ _ _))) ?_ ?_
   ·rintro w ⟨I,u,d,_⟩;gi_wp2;go_roundw
    case rel=>exact⟨k+1,u,sp,a,d,by have:=I.size;simp at this;omega⟩
    case measure=>simp[intOf];omega
   ·intro w d;gi_wp2;refine zH (qI rfl _ _ _) rfl ?_;exact⟨⟨_,rfl⟩,.inr ⟨k,a,d.2⟩⟩
  ·gi_wp2;go_end0
   have D:k=ts.length:=om;subst D;exact⟨⟨_,rfl⟩,.inl ⟨M,c⟩⟩
theorem zlO(a:Option Addr)(l c:Nat)(w:H):
 Calls pg 254 #[V a l c] w fun e w'=>e=Xa (.func (.func 298) #[] #[pn (E (Xd w.heap.size 0 O))])/\w'=w.alloc (cl #[V a l c] 103):=by
 go_enter func254,ntmps254
 have a:=jR;go_wp2;go_ret;exact⟨rfl,rfl⟩
structure ST where
 s:ByteArray
def ST.val (t:ST):Value:=gS t.s
def ST.cells (t:ST):List Value:= [gS t.s]
structure RW where
 f:Option Addr×Nat×Nat
 t:WT
def RW.fv (r:RW):Value:=V r.f.1 r.f.2.1 r.f.2.2
def RW.val (r:RW):Value:=ag #[r.fv,G r.t.b,r.t.sv]
def RW.cells (r:RW):List Value:= [r.fv,G r.t.b,r.t.sv]
def QG (w:H)(r:RW)(x:List Int×Int):Prop:=Zo w r.fv x.1/\zy w r.t.val x.2
theorem QG.keep{r:RW}{x:List Int×Int}(h:QG w r x)(a:zn B w w'):QG w' r x:=⟨h.1.keep a,h.2.keep a⟩
theorem QG.ext{r:RW}{x:List Int×Int}(h:QG w r x)(a:Ext w w'):QG w' r x:=h.keep (B:=0) (zn.of_below a)
theorem QG.wr{r:RW}{x:List Int×Int}(h:QG w r x)(b:Wr U w w')(a:∀k,U k->¬qQ w k 85/\qK w k):QG w' r x:=⟨h.1.wr b a,h.2.wr b (fun k b=>(a k b).2)⟩
theorem zbW:(Tryz.prog.info? 85).map (fun i=>(i.zero,i.size,i.bytes))=E (E (ag #[G false,V O 0 0]),2,32):=kr
def zjg (w:H)(C:H->Prop)(xs:List Int)(k:Nat)(M:Nat->Prop)(A:H):Prop:=
 C A/\Below w.heap.size w A/\w.heap.size<A.heap.size/\k<=xs.length/\∃(v:Value) (ts:List WT) (fr:Nat×Nat),ts.length=k/\A.heap[w.heap.size]? =E (cl #[v] 96 fr)/\A.frozen? (Xd w.heap.size 0 O)=false/\Grw (w.heap.size+1) 85 2 A v (ts.map WT.cells)/\(∀(i:Nat) (t:WT) x,ts[i]? =E t->xs[i]? =E x->zy A t.val x)/\∀b,M b↔b=w.heap.size\/v.ownBlock=E b
theorem zjh(g:Nat)(lb:Array Value)(xs:List Int)(a0:Nat->Array Value->H->Prop)(C:H->Prop)(ai:Ja pg g lb xs.length a0 C)(eg:∀args w,(callFunc g args).run pg w= .ok (.enter g args) w)(hY:∀k v W x,xs[k]? =E x->a0 k v W->∃t:WT,v=#[t.val]/\zy W t.val x)(ax:∀k v W,a0 k v W->v.size=1)(hn:xs.length<=100000)(w:H)(hC:C w)(hL:Jt w.heap.size C):
 Calls pg 242 #[V O 0 0,.func (.func g) #[] lb] w fun e w'=>∃(v:Value) (ts:List WT),e=Xa v/\ts.length=xs.length/\ZS w' 85 v 2 (ts.map WT.cells)/\(∀(i:Nat) (t:WT) x,ts[i]? =E t->xs[i]? =E x->zy w' t.val x)/\(∀g,v.ownBlock=E g->w.heap.size<=g)/\Below w.heap.size w w':=by
 obtain⟨i0,az,aE,aF,aG⟩:=Zn zbW;have HC:=zf hC;have au:=zf ai;have HY:=zf hY;have X:=zf hL;clear hC ai hY hL;obtain⟨a9,aa⟩:=new1 w (cl #[V O 0 0] 96);have aC:∀a5:Prop,Hid a5->a5:=fun a5 h=>h
 refine Q0 func242 ntmps242 (h:=?_);gi_wp2;generalize al:World.alloc _ _=w0 at *;have aj:w0.heap.size=w.heap.size+1:=by rw[<-al];simp
 have Y:=zf aj;clear al aj;refine ZT au.out rfl eg ax
  (zjg w C xs)
  (fun _ _ _=>False) (fun b=>b=w.heap.size) ?hI ?hIx ?hC ?h0 ?round ?done ?stop
 case hI=>
  rintro k P A aq ⟨D,F,I,Z,v,ts,u,j,f,Q,c,y,p⟩ z;have aB:zn w.heap.size A aq:=z.mono (by have:=Y.out;omega);refine⟨X.out.keep D z,aB.below F (zh _) (zh _),zK I z.size,Z,v,ts,u,j,z.block _ _ f (.inr rfl),?_,c.keep z,fun i t x l J=>?_,p⟩;·exact(qw (w:=A) (a:=⟨w.heap.size,0,O⟩) ((z.block _ _ f (.inr rfl)).trans f.symm)).trans Q
  ·exact(y i t x l J).keep z
 case hIx=>exact fun _ _ _ _ h _=>h
 case hC=>
  rintro k P A ⟨D,F,I,Z,v,ts,u,j,f,Q,c,y,p⟩;refine⟨D,fun b a=>?_⟩;rcases(p b).1 a with rfl|a
  ·exact I
  ·exact(c.type b a).1.lt
 case h0=>exact⟨X.out.below HC.out aa,aa,by have:=Y.out;omega,qo _,V O 0 0,[],(0,0),rfl,a9,Xg a9,Xt _ _ _ _,(fun i t x h=>by simp at h),fun b=>by simp[Value.ownBlock]⟩
 case round=>
  rintro aJ k av P A af ay ⟨D,F,I,Z,v,ts,u,j,f,Q,c,y,p⟩;obtain⟨x,J⟩:∃x,xs[k]? =E x:=⟨_,zg af⟩;obtain⟨⟨L,K,N,M⟩,rfl,ak⟩:=HY.out k av A x J ay;have aw:=zf ak;clear ak;obtain⟨m,o,rfl⟩:=c.shape;rw[zm]at f c p;have U:=zf j;have aI:ts.length<=100000:=om;clear j;simp only[WT.val,WT.sv];unfold Zz;gi_wp2;refine⟨Xf ((Xe A).alloc _),fun d ae=>?_⟩;have s:=(zn.alloc _ _ _).trans ae;have B:=s.block _ _ f (.inr rfl);have c0:=c_ 0 B;have f2:=(qw (w:=A) (a:=⟨w.heap.size,0,O⟩) (B.trans f.symm)).trans Q;have e0:=ae.block _ _ (zC A (cl #[G L,V K N M] 85)) (.inr rfl);have d0:=c_ 0 e0;have d1:=c_ 1 e0;have S:=c.keep s;have G3:=S.ext ((Xe d).alloc (cl #[G L,V K N M] 85));have aD:=zK I s.size;have a4:=G3.own;rw[zm]at a4;have ab:=G3.dig;clear e0;refine ZW ?_;refine Qt (by rfl) (fun⟨_,w,h⟩=>h) ?_;go_wp2_with (at_builtin;refine aC _ ?_)
  unfold Hid;refine JI _ rfl _ _ 96 rfl (w.heap.size+1) 85 i0 (ag #[G false,V O 0 0]) 2 32 underlying96 az aE aF aG rfl dc (V m ts.length o) ts.length (ts.map WT.cells).flatten rfl a4 ⟨d.heap.size,0,O⟩ 1 1 [G L,V K N M] rfl rfl (rec_new d [G L,V K N M] 85) (by intro ap q;simp only[zI,zY,Zp]at q;rcases q with rfl|rfl<;>rfl) om mo om so (d.heap.size+1) sp (by intro ap q;simp[Value.cells]at q;rcases q with rfl|rfl<;>(intro n e;cases e)) (by intro ap q;simp only[zI,zY,Zp]at q;rcases q with rfl|rfl<;>(intro n e;cases e)) ab ?_;intro g4 a1 R an a2 a7 lt4 a8;have b4:=(a2.block _ so (fun e=>by have:=(c.type _ e.symm).2;omega)).trans ((qH _ _ _ aD).trans B);have c4:=c_ 0 b4;have f4:=(qw (w:=d) (a:=⟨w.heap.size,0,O⟩) (b4.trans B.symm)).trans f2;have a6:=S;have ao:R.ownsRow (w.heap.size+1) 85 2 (V (E (Xd g4 0 O)) ((ts.map WT.cells).length+1) a1) ((ts.map WT.cells).length+1) ((ts.map WT.cells).flatten ++ [G L,V K N M]):=by rw[zm];exact an
  obtain⟨r,q2,q3,q4⟩:=zqD (gb:=w.heap.size) a6 rfl ao a8 a2 B om (by simpa using a7);rw[zm]at r q2 q3 q4;have HF:Hid (ZL P (zjg w C xs) (fun _ _ _=>False) k A d .normal { tmps:=#[],defers:= [] } (R.setCell (Xd w.heap.size 0 O) (V (E (Xd g4 0 O)) (ts.length+1) a1))):=by
   have ah:∀b,b=w.heap.size\/(V m ts.length o).ownBlock=E b->qK d b:=by
    rintro b (rfl|a);·exact zE B n1
    ·exact S.dig b a
   have hM:=p;refine⟨r.mono (fun b a=>(hM b).2 a),fun b=>b=w.heap.size\/(V (E (Xd g4 0 O)) (ts.length+1) a1).ownBlock=E b,⟨X.out.wr (X.out.keep D s) r (fun b a=>?_),?_,?_,af,_,ts ++ [⟨L,K,N,M⟩],u,by rw[zM,ZH,U.out],q2,?_,by rw[Z6];exact q3,fun i t aH l hy=>?_,fun b=>Qb⟩,fun b a=>?_⟩
   ·rcases a with rfl|a
    ·exact zh _
    ·have:=(c.type b a).2;omega
   ·exact((s.mono (by have:=Y.out;omega)).below F (zh _) (zh _)).trans (r.below om (fun b a=>by
     rcases a with rfl|a
     ·exact zh _
     ·have:=(c.type b a).2;omega))
   ·have:=r.size;omega
   ·simpa using f4
   ·by_cases aA:i<ts.length
    ·rw[zS aA]at l;exact((y i t aH l hy).keep s).wr r ah
    ·have ad:i=ts.length:=by
      have:=(zo.1 l).1;simp at this;omega
     rw[ad,U.out,J]at hy;rw[ad,zG (zh _),Qn]at l;have e1:=Q8 hy;have e2:=Q8 l;subst e1 e2;exact(aw.out.keep s).wr r ah
   ·rcases q4 b a with h|h
    ·exact .inl ((hM b).2 h)
    ·exact .inr (zF s.size h)
  clear an a2 a7 lt4 a8 ao r q2 q3 q4 a6 S G3 c y p a4 ab b4;go_wp2_with fail
  exact HF.out
 case done=>
  rintro ar P A hD ⟨D,F,I,Z,v,ts,u,j,f,Q,c,y,p⟩ hd;obtain⟨m,o,rfl⟩:=c.shape;have e:(ts.map WT.cells).length=xs.length:=by rw[zm];exact j
  rw[e]at f c;have U:=zf j;clear e j;have c0:=c_ 0 f;gi_wp2;refine qh hd ?_;have a3:zn w0.heap.size A (A.putObj ar (.deferred O)):=zn.putObj _ hD hd rfl;exact⟨V m xs.length o,results_tmp (t:=4) rfl _ _ _,V m xs.length o,ts,rfl,U.out,(c.list).keep a3,fun i t x l J=>(y i t x l J).keep a3,fun g hg=>zF (Nat.le_succ _) (c.type g hg).2,(a3.mono (by have:=Y.out;omega)).below F (zh _) (zh _)⟩
 case stop=>exact fun _ _ _ _ _ _ h _=>h.elim
theorem zg0(g:Nat)(a:Array Value)(xs:List Int)(Y:Nat->Array Value->H->Prop)(C:H->Prop)(j:Ja pg g a xs.length Y C)(b:∀args w,(callFunc g args).run pg w= .ok (.enter g args) w)(f:∀k v W x,xs[k]? =E x->Y k v W->∃t:WT,v=#[t.val]/\zy W t.val x)(h:∀k v W,Y k v W->v.size=1)(m:xs.length<=100000)(w:H)(c:C w)(d:Jt w.heap.size C):
 Calls pg 153 #[.func (.func g) #[] a] w fun e w'=>∃(v:Value) (ts:List WT),e=Xa v/\ts.length=xs.length/\ZS w' 85 v 2 (ts.map WT.cells)/\(∀(i:Nat) (t:WT) x,ts[i]? =E t->xs[i]? =E x->zy w' t.val x)/\(∀g,v.ownBlock=E g->w.heap.size<=g)/\Below w.heap.size w w':=by
 have l:=zf (zjh g a xs Y C j b f h m w c d);clear j b f h c d;go_enter func153,ntmps153
 go_wp2_with fail
 refine l.out.mono ?_;rintro e a ⟨v,ts,rfl,b,a,c,d,j⟩;have f:=zf b;have h:=zf c;obtain⟨l,m,rfl⟩:=a.shape;rw[zm]at a d;clear b c;go_wp2;go_ret;exact⟨V l ts.length m,ts,rfl,f.out,a,h.out,d,j⟩
theorem Grw.mono{B':Nat}(h:Grw B t size w v a)(hb:B'<=B):Grw B' t size w v a:=by
 refine⟨?_,h.dig,h.siz⟩;obtain⟨a,d|⟨g,b,c,i,e,f⟩⟩:=h.own;·exact⟨a,Or.inl d⟩
 ·exact⟨a,Or.inr ⟨g,b,c,i,zF hb e,f⟩⟩
end

section
open Go.RowKit
structure zdT (w:H)(g:Nat)(lb:Array Value)(zs:List Int) where
 Y:Nat->Array Value->H->Prop
 C:H->Prop
 seq:Ja pg g lb zs.length Y C
 ent:∀args w,(callFunc g args).run pg w= .ok (.enter g args) w
 val:∀k v W x,zs[k]? =E x->Y k v W->∃t:WT,v=#[t.val]/\zy W t.val x
 one:∀k v W,Y k v W->v.size=1
 now:C w
 old:Jt w.heap.size C
def zdT.ext {w w':H}{g:Nat}{lb:Array Value}{zs:List Int}(h:zdT w g lb zs)(hx:Ext w w'):zdT w' g lb zs:=⟨h.Y,h.C,h.seq,h.ent,h.val,h.one,h.old.below h.now hx,h.old.mono hx.size⟩
theorem zce {w:H}{g h:Nat}(hg:g=h)(a b c:Value):Wr (fun k=>k=h) w (((w.setCell (Xd g 0 O) a).setCell (Xd g 1 O) b).setCell (Xd g 2 O) c):=
 ((zv (U:=fun k=>k=h) hg a).trans (zv (U:=fun k=>k=h) hg b)).trans (zv (U:=fun k=>k=h) hg c)
theorem zky (w:H)(g:Nat)(b:Array Value)(zs:List Int)(h:zdT w g b zs)(d:zs.length<=100000):
 Calls pg 147 #[.func (.func g) #[] b] w fun e w'=>∃f:Option Addr×Nat×Nat,e=Xa (ag #[V f.1 f.2.1 f.2.2])/\Zo w' (V f.1 f.2.1 f.2.2) zs/\(∀g,(V f.1 f.2.1 f.2.2).ownBlock=E g->w.heap.size<=g)/\Below w.heap.size w w':=by
 obtain⟨j,m⟩:=new1 w (cl #[V O 0 0] 98);have a:=h.ext m;have c:=zf (zg0 g b zs a.Y a.C a.seq a.ent a.val a.one d _ a.now a.old);clear a h;go_enter func147,ntmps147
 go_wp2_with fail
 generalize World.alloc _ _=k at *;refine c.out.mono ?_;rintro e c ⟨_,b,rfl,o,a,p,l,q⟩;obtain⟨d,i,rfl⟩:=a.shape;rw[zm]at a l;have r:=Xh q;have k:=(r.block _ (zd.1 j).1).trans j;have t:=c_ 0 k;have j:=Xg (j:=0) k;have u:Wr (fun j=>j=w.heap.size) c (c.setCell (Xd w.heap.size 0 O) (V d b.length i)):=zv (U:=fun j=>j=w.heap.size) rfl _;have s:Hid (Zo (c.setCell (Xd w.heap.size 0 O) (V d b.length i)) (V d b.length i) zs):=by
  refine Zo.wr ⟨b,o,a,p⟩ u (fun j j=>?_);subst j;exact⟨fun j=>absurd (j.one ⟨_,_,k⟩) dc,zE k n1⟩
 have k:Below w.heap.size w (c.setCell (Xd w.heap.size 0 O) (V d b.length i)):=Below.setCell (m.trans r) (zh _) _;have c:=zf l;have j:=zf m.size;clear o a p l q;go_wp2;exact zH (v:=ag #[V d b.length i]) (by simp[results,results147,go_sem,t]) rfl ⟨(d,b.length,i),rfl,s.out,fun g a=>zF j.out (c.out g a),k⟩
theorem zfO (w:H)(g:Nat)(x:Array Value)(zs:List Int)(h:zdT w g x zs)(Y:zs.length<=100000)(m:WT)(y:Int)(hm:zy w m.val y):
 Calls pg 198 #[.func (.func g) #[] x,m.val] w fun e w'=>∃r:RW,e=Xa r.val/\QG w' r (zs,y)/\(∀g,r.fv.ownBlock=E g->w.heap.size<=g)/\Below w.heap.size w w':=by
 obtain⟨d,c,i,f⟩:=m;simp only[WT.val,WT.sv]at hm⊢;have k:Ext w ((w.alloc (cl #[G d,V c i f] 85)).alloc (cl #[V O 0 0,G false,V O 0 0] 100)):=((Xe w).alloc _).alloc _;obtain⟨t,u⟩:=Xj w (cl #[G d,V c i f] 85) (cl #[V O 0 0,G false,V O 0 0] 100);have N:=zf (fun W (j:Ext w W)=>zky W g x zs (h.ext j) Y);clear h;go_enter func198,ntmps198
 go_wp2_with fail
 generalize World.alloc _ _=l at *;have s:=zf (fun W (j:Ext l W)=>Xc (j.cell (c_ 0 t)) (j.cell (c_ 1 t)));have J:=zf (fun W (j:Ext l W)=>(j.block _ (zd.1 u).1).trans u);have y0:=Xe l;obtain⟨_,_⟩:=s.out l y0;clear t u;go_region_held3 (fun W=>W.cell? (Xd w.heap.size 0 O)=E (G d)/\W.cell? (Xd w.heap.size 1 O)=E (V c i f)) (first|(exact s.out _ ea)|(have A:=s.out a q;exact⟨zcL om A.1,zcL om A.2⟩)|go_keep) (first|(go_at_call 147;refine(N.out _ (by first|exact k.drew|exact k)).mono ?_;rintro e a ⟨⟨fa,p,o⟩,rfl,F,D,C⟩;have q:Ext l a:=(by first|exact ZG C|exact Xh C);have b:=J.out a q;have Q:=c_ 0 b;have R:=c_ 1 b;have S:=c_ 2 b;have f0:=Xg (j:=0) b;have f1:=Xg (j:=1) b;have f2:a.frozen? ⟨w.heap.size+1,2,O⟩=false:=Xg b))
 all_goals
  have I:Wr (fun z=>z=w.heap.size+1) a (((a.setCell ⟨w.heap.size+1,0,O⟩ (V fa p o)).setCell ⟨w.heap.size+1,1,O⟩ (G d)).setCell ⟨w.heap.size+1,2,O⟩ (V c i f)):=zce rfl _ _ _;have M:Hid (QG (((a.setCell ⟨w.heap.size+1,0,O⟩ (V fa p o)).setCell ⟨w.heap.size+1,1,O⟩ (G d)).setCell ⟨w.heap.size+1,2,O⟩ (V c i f)) ⟨(fa,p,o),d,c,i,f⟩ (zs,y)):=by
   refine QG.wr ⟨F,hm.below (k.trans q)⟩ I (fun z U=>?_);subst U;exact⟨fun Z=>absurd (Z.one ⟨_,_,b⟩) dc,zE b n3⟩
  have K:=zf (I.below (B:=w.heap.size) (by have:=(k.trans q).size;omega) (fun a1 hk=>om));have L:=zf D;have a0:=k.size;have P:=zf ((k.trans q));clear F D;go_wp2;exact zH (v:=ag #[V fa p o,G d,V c i f]) (by simp[results,results198,go_sem,Q,R,S]) rfl ⟨⟨(fa,p,o),d,c,i,f⟩,rfl,M.out,fun g X=>zF a0 (show l.heap.size<=g from L.out g X),Qg P.out K.out⟩
attribute [local go_sem] zD zW qJ
theorem zde (fa:Option Addr)(fl fc:Nat)(w:H):
 Calls pg 154 #[ag #[V fa fl fc]] w fun e w'=>e=Xa (.func (.func 177) #[] #[pn (E ⟨w.heap.size+1,0,O⟩)])/\w'=(w.alloc (cl #[V fa fl fc] 98)).alloc (cl #[V fa fl fc] 96):=by
 go_enter func154,ntmps154
 go_wp2_with fail
 refine(zdQ fa fl fc _).mono ?_;rintro e a ⟨rfl,rfl⟩;go_wp2;go_ret;exact⟨sp,rfl⟩
theorem zrO (fa:Option Addr)(fl fc:Nat)(f:Nat)(w:H):
 Calls pg 248 #[ag #[V fa fl fc],.func (.func f) #[] #[]] w fun e w'=>e=Xa (.func (.func 296) #[] #[pn (E (Xd w.heap.size 0 O)),pn (E ⟨w.heap.size+1,0,O⟩)])/\w'=(w.alloc (cl #[V fa fl fc] 98)).alloc (cl #[.func (.func f) #[] #[]] 169):=by
 go_enter func248,ntmps248
 have a:=jR;go_wp2;go_ret;exact⟨rfl,rfl⟩
theorem zqE (fa:Option Addr)(fl fc:Nat)(zs:List Int)(ts:List WT)(e:ts.length=zs.length)(a b:Nat)(c:zs.length<=1000000):
 Ja pg 296 #[pn (E (Xd a 0 O)),pn (E (Xd b 0 O))] zs.length (fun k v W=>∃(t:WT) (z:Int),zs[k]? =E z/\v=#[t.val]/\zy W t.val (-z))
  (fun W=>W.cell? (Xd a 0 O)=E (V fa ts.length fc)/\W.cell? (Xd b 0 O)=E (.func (.func 143) #[] #[])/\T.Recs W (V fa ts.length fc) 2 (ts.map WT.cells)/\∀(i:Nat) (t:WT) (z:Int),ts[i]? =E t->zs[i]? =E z->zy W t.val z):=by
 intro l K N b W y R hC d h0;obtain⟨f,_,-,-⟩:=(hC 0 b W h0).1;have c:=zf hC;have Y:=zf d;have C:=zf e;have hm:Tryz.prog.follows .mixedOrders=true:=kr;clear d hC e;refine Q0 func296 ntmps296 (h:=?_);have d:a<W.heap.size:=zw f;gi_wp2;refine(zq.2 (zde fa ts.length fc _)).mono ?_;rintro e a ⟨rfl,rfl⟩;gi_wp2;refine ZT (JO ts fa fc (W.heap.size+1+1) (by have:=C.out;omega)) rfl (qW func177 kr rfl) (fun k v W=>by rintro⟨t,_,rfl⟩;rfl)
  (fun k M A=>K k M A/\A.cell? (Xd W.heap.size 0 O)=E (.func (.yield l) #[] #[])/\A.cell? ⟨W.heap.size+1+1,0,O⟩=E (V fa ts.length fc)/\¬M W.heap.size/\¬M (W.heap.size+1+1)) (fun F k A=>F= .ret/\N k A) b ?hI ?hIx ?hC ?h0 ?round ?done ?stop
 case hI=>
  rintro k M A B ⟨a,f,j,q,r⟩ s;exact⟨y _ _ _ _ a (s.mono so),s.cell f,s.cell j,q,r⟩
 case hIx=>
  rintro F k A B ⟨a,f⟩ s;exact⟨a,R _ _ _ f (s.mono so)⟩
 case hC=>
  rintro k M A ⟨a,f,j,q,r⟩;exact⟨⟨j,(c.out k M A a).1.2.2.1⟩,(c.out k M A a).2⟩
 case h0=>
  refine⟨y _ _ _ _ h0 (((zn.alloc _ _ _).trans (zn.alloc _ _ _)).trans (zn.alloc _ _ _)),?_,?_,?_,?_⟩;·exact(((ZU W 208 (.func (.yield l) #[] #[])).alloc _).alloc _).cell
  ·have:=(ZU ((W.alloc (cl #[.func (.yield l) #[] #[]] 208)).alloc (cl #[V fa ts.length fc] 98)) 96 (V fa ts.length fc)).cell;simpa using this
  ·intro h;have:=(c.out 0 b W h0).2 _ h;omega
  ·intro h;have:=(c.out 0 b W h0).2 _ h;omega
 case round=>
  rintro L k v M A b ⟨b,d,rfl⟩ ⟨a,f,j,q,r⟩;have S:k<zs.length:=by have:=C.out;omega
  obtain⟨z,hz⟩:∃z,zs[k]? =E z:=⟨_,zg S⟩;have J:=(c.out k M A a).1.2.2.2 k b z d hz;obtain⟨m,g,u,o⟩:=b;simp only[WT.val,WT.sv]at J⊢;unfold Zz;gi_wp2;refine⟨Xf ((Xe A).alloc _),fun b x=>?_⟩;have d:=(zn.alloc _ A (cl #[G m,V g u o] 85)).trans x;have w:zn W.heap.size A b:=d.mono so;have P:=d.cell f;have B:=d.cell ((c.out k M A a).1.2.1);have Q:=d.cell j;have I:=x.block _ _ (zC A (cl #[G m,V g u o] 85)) (.inr rfl);have c:=c_ 0 I;have c:=c_ 1 I;have a0:=y _ _ _ _ a (w.trans (zn.drew _ _));have c:=w.size;have c:W.heap.size+1+1<b.heap.size:=zw Q;have X:Hid (Calls pg 143 #[ag #[G m,V g u o]] b.drew fun e c=>∃t:WT,e=Xa (ag #[G t.b,V t.s.1 t.s.2.1 t.s.2.2])/\zy c (ag #[G t.b,V t.s.1 t.s.2.1 t.s.2.2]) (-z)/\Below b.drew.heap.size b.drew c):=by
   refine(zau b.drew _ z (J.keep (w.trans (zn.drew _ _)))).mono ?_;rintro e c ⟨U,rfl,d,D⟩;obtain⟨t,rfl⟩:=d.shape;exact⟨t,rfl,d,D⟩
  have Z:Hid (∀(t:WT) (c:H),zy c (ag #[G t.b,V t.s.1 t.s.2.1 t.s.2.2]) (-z)->Below b.drew.heap.size b.drew c->∃x B u w,(Instr.yield l #[ag #[G t.b,V t.s.1 t.s.2.1 t.s.2.2]]).run pg c= .ok (.round l x B u w) c/\
   RoundIn (Fence.wide.inRound L) 0 pg l x B u w c fun e g=>∃m,e=Xa (G m)/\Hid ((m=true->Wr M b g/\∃o,(K (k+1) o g/\g.cell? (Xd W.heap.size 0 O)=E (.func (.yield l) #[] #[])/\g.cell? ⟨W.heap.size+1+1,0,O⟩=E (V fa ts.length fc)/\¬o W.heap.size/\¬o (W.heap.size+1+1))/\∀l,o l->M l\/A.heap.size<=l)/\(m=false->Wr M b g/\N k g))):=by
   intro t c K D;have xB:=ZG D;obtain⟨x,B,u,w,d,l⟩:=zgw L 0 (Y.out k #[t.val] M c S ⟨t,z,hz,rfl,K⟩ (y _ _ _ _ a0 (zn.of_below D)));refine⟨x,B,u,w,d,l.mono ?_⟩;rintro e g ⟨m,rfl,b⟩;refine⟨m,rfl,fun h=>?_,fun h=>?_⟩
   ·obtain⟨g,o,N,D⟩:=b.out.1 h;have S:=xB.size;refine⟨(Xf xB).trans g,o,⟨N,g.cell (p:=(Xd W.heap.size 0 O)) q (xB.cell P),g.cell (p:=⟨W.heap.size+1+1,0,O⟩) r (xB.cell Q),fun h=>?_,fun h=>?_⟩,fun U d=>?_⟩
    ·rcases D _ h with h|h
     ·exact q h
     ·omega
    ·rcases D _ h with h|h
     ·exact r h
     ·omega
    ·rcases D U d with h|h
     ·exact .inl h
     ·exact .inr om
   ·obtain⟨g,o⟩:=b.out.2 h;exact⟨(Xf xB).trans g,o⟩
  clear I a f j J;gi_wp2;gi_region_with_o (first|(have g:=l;refine l.mono ?_;rintro e g ⟨m,rfl,b⟩)|(gi_at_call 143;refine(Zq L (zq.2 X.out)).mono ?_;rintro e c ⟨⟨o,h,I,D⟩,rfl,g,e⟩;have J:=(ZG e).cell P;obtain⟨x,B,u,w,d,l⟩:=Z.out ⟨o,h,I,D⟩ c g e;simp only at d))
  all_goals clear l d
  all_goals gi_wp2
  all_goals (rename_i K;cases m<;>simp at K)
  all_goals first
   |exact⟨(b.out.2 rfl).1,rfl,(b.out.2 rfl).2⟩
   |exact b.out.1 rfl
 case done=>
  rintro D M A c ⟨a,f,j,q,r⟩ b;gi_wp2;refine qh b ?_;refine⟨_,qI rfl _ _ _,⟨_,rfl⟩,.inl ⟨M,?_⟩⟩;rw[<-C.out];exact y _ _ _ _ a (zn.putObj _ (by simp at c;omega) b rfl)
 case stop=>
  rintro D F k A c s ⟨rfl,a⟩ b;gi_wp2;refine qh b ?_;exact⟨_,qI rfl _ _ _,⟨_,rfl⟩,.inr ⟨k,by have:=C.out;omega,R _ _ _ a (zn.putObj _ (by simp at c;omega) b rfl)⟩⟩
end

section
open Go.RowKit
variable {A B w:H}{N n:Nat}{v:Value}
theorem Jp{C D:H->Prop}(h1:Jt N C)(h2:Jt N D):Jt N (fun W=>C W/\D W):=fun A B h a=>⟨h1 A B h.1 a,h2 A B h.2 a⟩
theorem za2{a:Sort _}{C:a->H->Prop}(h:∀i,Jt N (C i)):Jt N (fun W=>∀i,C i W):=fun A B a b i=>h i A B (a i) b
theorem JU(c:∀(k:Nat) (o:Obj),k<N->A.heap[k]? =E o->o.isCells=true->B.heap[k]? =E o){p:Addr}(d:p.block<N)(h:A.cell? p=E v):B.cell? p=E v:=by
 obtain⟨o,a,b⟩:=cells_of_cell h;exact(Zj (w:=A) ((c _ o d a b).trans a.symm)).trans h
theorem JV{b o:Nat}(hb:b<N):Jt N (fun W=>W.cell? (Xd b o O)=E v):=fun _ _ h a=>JU a (p:=(Xd b o O)) hb h
theorem zkz(h:NatV w v n):Jt w.heap.size (fun W=>NatV W v n):=by
 intro A B g i;obtain⟨e,⟨_,_,l,_,m⟩,_,_,_⟩:=h;obtain⟨d,⟨b,c,a,j,k⟩,f⟩:=g;refine⟨d,⟨b,c,a,j,fun c=>?_⟩,f⟩;obtain⟨b,off,f,_,j⟩:=k c;have g:b<w.heap.size:=by
  rw[l]at a;simp only[qp]at a;have l:e≠ []:=by
   intro e;rw[e]at a;have:=ZC.2 c;simp at a;omega
  obtain⟨_,_,k,_,_⟩:=m l;have e:=a.1;rw[f,k]at e;simp only[qN,Jg]at e;omega
 have a:=ZC.2 c;have c:=JU i (p:=⟨b,off+0,O⟩) g (j 0 a);exact⟨b,off,f,zw c,fun a c=>JU i (p:=⟨b,off+a,O⟩) g (j a c)⟩
theorem zaw{x:Value}{z:Int}(h:zy w x z):Jt w.heap.size (fun W=>zy W x z):=by
 intro A B c i;obtain⟨_,k,a,d,_⟩:=h;obtain⟨b,v,e,f,g⟩:=c;have j:v=k:=by
  rw[a]at e;simp only[zdU]at e;have c:=qm (fun a:Array Value=>a[1]?) e;simpa using c.symm
 subst j;exact⟨b,v,e,zkz d A B f i,g⟩
theorem zf5{t:TypeId}{size:Nat}{a:List (List Value)}(h:ZS w t v size a):Jt w.heap.size (fun W=>ZS W t v size a):=by
 intro A B b c;rcases b with b|⟨g,off,d,a,j,⟨f,i,k⟩,l⟩
 ·exact Or.inl b
 ·have b:g<w.heap.size:=by
   rcases h with ⟨e,_⟩|⟨_,_,_,e,_,m,_⟩
   ·rw[e]at a;cases a
   ·have:=m.lt;rw[e]at a;simp only[qp,qN,Jg]at a;omega
  exact Or.inr ⟨g,off,d,a,j,⟨f,i,c g _ b k rfl⟩,fun i a d j u e=>JU c (p:=⟨g,off+i*size+j,O⟩) b (l i a d j u e)⟩
theorem Ja.weaken{P:Program}{g:Nat}{b:Array Value}{Y:Nat->Array Value->H->Prop}{C a:H->Prop}(h:Ja P g b n Y C)(j:∀W,a W->C W):Ja P g b n Y a:=
 fun l J b c W d e a f i=>h l J b c W d e (fun k M A b=>⟨j A (a k M A b).1,(a k M A b).2⟩) f i
def turnedSeq {w:H}{fa:Option Addr}{fc:Nat}{zs:List Int}{ts:List WT}{bs bf:Nat}(hn:zs.length<=1000000)(h1:ts.length=zs.length)(h2:ZS w 85 (V fa ts.length fc) 2 (ts.map WT.cells))(h3:∀(i:Nat) (t:WT) (z:Int),ts[i]? =E t->zs[i]? =E z->zy w t.val z)
 (hs:w.cell? (Xd bs 0 O)=E (V fa ts.length fc)) (hf:w.cell? (Xd bf 0 O)=E (.func (.func 143) #[] #[])):zdT w 296 #[pn (E (Xd bs 0 O)),pn (E (Xd bf 0 O))] (zs.map fun z=>-z) where
 Y:=fun k v W=>∃(t:WT) (z:Int),zs[k]? =E z/\v=#[t.val]/\zy W t.val (-z)
 C:=fun W=>W.cell? (Xd bs 0 O)=E (V fa ts.length fc)/\W.cell? (Xd bf 0 O)=E (.func (.func 143) #[] #[])/\ZS W 85 (V fa ts.length fc) 2 (ts.map WT.cells)/\∀(i:Nat) (t:WT) (z:Int),ts[i]? =E t->zs[i]? =E z->zy W t.val z
 seq:=by
  rw[zm];exact(zqE fa fc fc zs ts h1 bs bf hn).weaken (fun W h=>⟨h.1,h.2.1,h.2.2.1.recs,h.2.2.2⟩)
 ent:=qW Tryz.func296 (by kernel_rfl) rfl
 val:=by
  rintro k v W x hx ⟨t,z,hz,rfl,ht⟩;rw[zR,hz]at hx;simp only[qY,qN]at hx;subst hx;exact⟨t,rfl,ht⟩
 one:=by
  rintro k v W ⟨t,z,hz,rfl,ht⟩;rfl
 now:=⟨hs,hf,h2,h3⟩
 old:=Jp (JV (zw hs)) (Jp (JV (zw hf)) (Jp (zf5 h2) (za2 fun i=>za2 fun t=>za2 fun z=>fun A B hA hh ht hz=>zaw (h3 i t z ht hz) A B (hA ht hz) hh)))
theorem zg1(w:H)(r:RW)(x:List Int×Int)(h:QG w r x)(hn:x.1.length<=100000):
 Calls pg 239 #[r.val] w fun e w'=>∃X:RW,e=Xa X.val/\QG w' X (x.1.map (fun z=>-z),-x.2)/\(∀g,X.fv.ownBlock=E g->w.heap.size<=g)/\Below w.heap.size w w':=by
 obtain⟨⟨fa,_,i⟩,I,F,K,J⟩:=r;obtain⟨⟨k,Z,A,h3⟩,hm⟩:=h;obtain⟨_,_,e⟩:=A.shape;rw[zm]at e;simp only[RW.fv,qp]at e;obtain⟨rfl,rfl,rfl⟩:=e;simp only[RW.val,RW.fv,WT.sv,WT.val]at A hm⊢;have H1:=zf Z;have H2:=zf A;have H3:=zf h3;clear Z A h3;have j:Ext w ((w.alloc (cl #[V fa k.length i,G I,V F K J] 100)).alloc (cl #[V O 0 0,G false,V O 0 0] 100)):=((Xe w).alloc _).alloc _;obtain⟨C,R⟩:=Xj w (cl #[V fa k.length i,G I,V F K J] 100) (cl #[V O 0 0,G false,V O 0 0] 100);go_enter func239,ntmps239
 go_wp2_with fail
 generalize World.alloc _ _=a at *;have P:=zf (fun W (b:Ext a W)=>Xc (b.cell (c_ 0 C)) (Xc (b.cell (c_ 1 C)) (b.cell (c_ 2 C))));have HB:=zf (fun W (b:Ext a W)=>(b.block _ (zd.1 R).1).trans R);have y0:=Xe a;obtain⟨_,_,_⟩:=P.out a y0;have a3:Hid (∀(W:H) (d:Nat) (t:WT),Ext a W->zy W t.val (-x.2)->W.cell? (Xd d 0 O)=E (V fa k.length i)->W.cell? ⟨d+1,0,O⟩=E (.func (.func 143) #[] #[])->Calls pg 198 #[.func (.func 296) #[] #[pn (E (Xd d 0 O)),pn (E ⟨d+1,0,O⟩)],ag #[G t.b,V t.s.1 t.s.2.1 t.s.2.2]] W fun e w'=>∃r:RW,e=Xa r.val/\QG w' r (x.1.map (fun z=>-z),-x.2)/\(∀g,r.fv.ownBlock=E g->W.heap.size<=g)/\Below W.heap.size W w'):=by
  intro W d t b U p hf;exact zfO W _ _ (x.1.map fun z=>-z) (turnedSeq om H1.out (H2.out.ext (j.trans b)) (fun aa t z a7 a9=>(H3.out aa t z a7 a9).below (j.trans b)) p hf) (by rw[zm];exact hn) t (-x.2) U
 have a4:Hid (∀W,Ext a W->Calls pg 143 #[ag #[G I,V F K J]] W fun e w'=>∃t:WT,e=Xa (ag #[G t.b,V t.s.1 t.s.2.1 t.s.2.2])/\zy w' (ag #[G t.b,V t.s.1 t.s.2.1 t.s.2.2]) (-x.2)/\Below W.heap.size W w'):=by
  intro W b;refine(zau W _ x.2 (hm.below (j.trans b))).mono ?_;rintro e w' ⟨_,rfl,hy,p⟩;obtain⟨t,rfl⟩:=hy.shape;exact⟨t,rfl,hy,p⟩
 clear C R;go_region_held3 (fun W=>W.cell? (Xd w.heap.size 0 O)=E (V fa k.length i)/\W.cell? (Xd w.heap.size 1 O)=E (G I)/\W.cell? (Xd w.heap.size 2 O)=E (V F K J)) (first|(exact P.out _ ea)|(have Q:=P.out c N;exact⟨zcL om Q.1,zcL om Q.2.1,zcL om Q.2.2⟩)|go_keep) (first|(go_at_call 198;have _g:=M;refine(a3.out w2 _ tT M a6 ((Xh S).cell k0) ((Xh S).cell k1)).mono ?_;rintro e c ⟨⟨⟨l,o,m⟩,s,q,y,u⟩,rfl,a1,a0,a5⟩;have N:Ext a c:=M.trans (Xh a5);have f:=HB.out c N;have g0:=c_ 0 f;have g1:=c_ 1 f;have g2:=c_ 2 f;have f0:=Xg (j:=0) f;have f1:=Xg (j:=1) f;have f2:=Xg (j:=2) f;simp only[RW.val,RW.fv,WT.sv])|(go_at_call 143;have _g:=Y;refine(a4.out L Y).mono ?_;rintro e w2 ⟨tT,rfl,a6,S⟩;have M:Ext a w2:=Y.trans (Xh S))|(go_at_call 248;refine(zrO fa k.length i 143 _).mono ?_;rintro e L ⟨rfl,D⟩;have Y:Ext a L:=(by rw[D];exact(y0.drew.alloc _).alloc _);have k0:L.cell? (Xd a.drew.heap.size 0 O)=E (V fa k.length i):=(by rw[D];exact c_ 0 (Xj _ _ _).1);have k1:L.cell? ⟨a.drew.heap.size+1,0,O⟩=E (.func (.func 143) #[] #[]):=(by rw[D];exact c_ 0 (Xj _ _ _).2);clear D))
 all_goals
  have hw:Wr (fun d=>d=w.heap.size+1) c (((c.setCell ⟨w.heap.size+1,0,O⟩ (V l o m)).setCell ⟨w.heap.size+1,1,O⟩ (G s)).setCell ⟨w.heap.size+1,2,O⟩ (V q y u)):=zce rfl _ _ _;have HR:Hid (QG (((c.setCell ⟨w.heap.size+1,0,O⟩ (V l o m)).setCell ⟨w.heap.size+1,1,O⟩ (G s)).setCell ⟨w.heap.size+1,2,O⟩ (V q y u)) ⟨(l,o,m),s,q,y,u⟩ (x.1.map (fun z=>-z),-x.2)):=by
   refine QG.wr a1 hw (fun d p=>?_);subst p;exact⟨fun U=>absurd (U.one ⟨_,_,f⟩) dc,zE f n3⟩
  have HF:=zf (hw.below (B:=w.heap.size) (by have:=(j.trans N).size;omega) (fun ab hk=>om));have a2:=zf a0;have a8:=(j.trans M).size;have HX:=zf ((j.trans N));clear a1 a0;go_wp2;exact zH (v:=ag #[V l o m,G s,V q y u]) (by simp[results,results239,go_sem,g0,g1,g2]) rfl ⟨⟨(l,o,m),s,q,y,u⟩,rfl,HR.out,fun g hg=>zF a8 (a2.out g hg),Qg HX.out HF.out⟩
attribute [local go_sem] zD zW qJ
def SrchI (w0:H)(gb:Nat)(n:Nat)(p:Nat->Prop)(k:Nat)(M:Nat->Prop)(A:H):Prop:=Ext w0 A/\k<=n/\(∀i,i<k->p i)/\∀b,M b↔b=gb
def SrchX (w:H)(gb:Nat)(p:Nat->Prop)(c:Code)(k:Nat)(A:H):Prop:=c= .ret/\¬p k/\Below w.heap.size w A/\A.cell? (Xd gb 0 O)=E (G false)
theorem SrchI.keep{w0:H}{gb:Nat}{p:Nat->Prop}{k:Nat}{M:Nat->Prop}(h:SrchI w0 gb n p k M A)(a:zn w0.heap.size A B):SrchI w0 gb n p k M B:=⟨a.below h.1 (zh _) (zh _),h.2⟩
theorem SrchX.keep{gb C:Nat}{p:Nat->Prop}{c:Code}{k:Nat}(h:SrchX w gb p c k A)(a:zn C A B)(b:w.heap.size<=C):SrchX w gb p c k B:=⟨h.1,h.2.1,a.below h.2.2.1 b (zh _),a.cell h.2.2.2⟩
end

section
open Go.RowKit
variable {B a g n:Nat}{c d:Value}{row:List Int×List UInt8×Int}{w w':H}
def zft (p:qF)(zs:List Int):Prop:=
 zs.length=3*p.n/\(∀k,k<p.mx.length->zs.getD (3*k) 0=p.mx.getD k 0)/\∀k,k<p.rg.length->zs.getD (3*k+1) 0=(p.rg.getD k (0,0)).1/\zs.getD (3*k+2) 0=(p.rg.getD k (0,0)).2
structure Jl where
 s:ByteArray
 x:Bool
 b:Option Addr×Nat×Nat
 f:Nat
 n:Nat
def Jl.cells (r:Jl):List Value:= [gS r.s,G r.x,V r.b.1 r.b.2.1 r.b.2.2,V (E (Xd r.f 0 O)) r.n r.n]
def zaH (rs:List Jl):List Value:=rs.flatMap Jl.cells
def RowIs (w:H)(T:Nat->Prop)(r:Jl)(row:List Int×List UInt8×Int):Prop:=
 ¬T r.f/\r.n=row.1.length/\Whs w r.f row.1/\r.s=⟨row.2.1.toArray⟩/\zy w (ag #[G r.x,V r.b.1 r.b.2.1 r.b.2.2]) row.2.2
def Own (gp:Nat)(vC vR:Value)(k:Nat):Prop:=k=gp\/vC.ownBlock=E k\/vR.ownBlock=E k
theorem RowIs.keep{T:Nat->Prop}{r:Jl}(h:RowIs w T r row)(a:zn B w w'):RowIs w' T r row:=
 ⟨h.1,h.2.1,h.2.2.1.keep a,h.2.2.2.1,h.2.2.2.2.keep a⟩
theorem RowIs.wr{T U:Nat->Prop}{r:Jl}(h:RowIs w T r row)(b:Wr U w w')(c:∀k,U k->T k)(a:∀k,U k->qK w k):RowIs w' T r row:=
 ⟨h.1,h.2.1,h.2.2.1.wr b (fun e=>h.1 (c _ e)) a,h.2.2.2.1,h.2.2.2.2.wr b a⟩
structure DQ (w:H)(gp:Nat)(p:qF)(vC vR:Value):Prop where
 box:Zh w gp vC vR
 nodP:qK w gp
 cols:(p.n=0/\vC=V O 0 0)\/∃bc zs,vC=V (E (Xd bc 0 O)) p.n p.n/\bc≠gp/\Whs w bc zs/\zft p zs
 nodR:∀g,vR.ownBlock=E g->qK w g/\g≠gp/\vC.ownBlock≠E g
 rows:∃rs:List Jl,rs.length=p.rows.length/\w.ownsRow 0 143 4 vR rs.length (zaH rs)/\∀(i:Nat) (r:Jl) (row:List Int×List UInt8×Int),rs[i]? =E r->p.rows[i]? =E row->RowIs w (Own gp vC vR) r row
theorem Zh.same{x y:Value}(h:Zh w g x y)(b:w'.heap[g]? =w.heap[g]?)(hs:w.heap.size<=w'.heap.size):Zh w' g x y:=by
 obtain⟨c,d,e,f,i⟩:=h;exact⟨(Zj (w:=w) (a:=⟨g,0,O⟩) b).trans c,(Zj (w:=w) (a:=⟨g,1,O⟩) b).trans d,(qw (w:=w) (a:=⟨g,0,O⟩) b).trans e,(qw (w:=w) (a:=⟨g,1,O⟩) b).trans f,zK i hs⟩
theorem zn.cells(b:zn B w w'){o:Obj}(ho:w.heap[g]? =E o)(a:o.isCells=true):w'.heap[g]? =w.heap[g]?:=(b.block g o ho (.inr a)).trans ho.symm
theorem Zh.keep{x y:Value}(h:Zh w g x y)(a:zn B w w'):Zh w' g x y:=by
 obtain⟨_,c,b⟩:=cells_of_cell h.1;exact h.same (a.cells c b) a.size
theorem zfh{e size:Nat}{v:Value}{xs:List Value}(h:w.ownsRow B e size v n xs)(p:∀g,v.ownBlock=E g->w'.heap[g]? =w.heap[g]?):w'.ownsRow B e size v n xs:=by
 obtain⟨a,f|⟨g,c,d,b,l,m,o,i,j,k⟩⟩:=h;·exact⟨a,Or.inl f⟩
 ·exact⟨a,Or.inr ⟨g,c,d,b,l,(p g (by rw[b];rfl)).trans m,o,i,j,k⟩⟩
theorem zoE{B':Nat}{e size:Nat}{v:Value}{xs:List Value}(h:w.ownsRow B e size v n xs)(d:zn B' w w'):w'.ownsRow B e size v n xs:=by
 refine zfh h fun g a=>?_
 obtain⟨_,b|⟨_,_,_,f,_,c,_,_,_,_⟩⟩:=h;·rw[b.1]at a;cases a
 ·rw[f]at a;simp[Value.ownBlock]at a;subst a;exact d.cells c rfl
theorem DQ.keep{b:Nat}{p:qF}(h:DQ w b p c d)(a:zn B w w'):DQ w' b p c d:=by
 refine⟨h.box.keep a,h.nodP.keep a,?_,fun g b=>⟨(h.nodR g b).1.keep a,(h.nodR g b).2⟩,?_⟩
 ·rcases h.cols with b|⟨e,g,b,c,d,f⟩
  ·exact Or.inl b
  ·exact Or.inr ⟨e,g,b,c,d.keep a,f⟩
 ·obtain⟨e,b,c,d⟩:=h.rows;exact⟨e,b,zoE c a,fun i r row b c=>(d i r row b c).keep a⟩
theorem DQ.below{p:qF}{b:Value}(h:DQ w a p b c)(hb:Below w.heap.size w w'):DQ w' a p b c:=h.keep (B:=0) (zn.of_below hb)
theorem DQ.cols_anew{p q:qF}{b:Value}{zs:List Int}(h:DQ w g p b d)(f:b=V (E (Xd a 0 O)) p.n p.n)(e:0<p.n)(c:Wr (fun k=>k=a) w w')(t:Whs w' a zs)(r:zft q zs)(s:q.n=p.n)(l:q.rows=p.rows):DQ w' g q b d:=by
 obtain⟨j,m⟩:a≠g/\qK w a:=by
  rcases h.cols with ⟨_,_⟩|⟨_,_,d,i,b,_⟩
  ·omega
  ·rw[f]at d;simp at d;subst d;exact⟨i,b.1⟩
 have o:∀k,k=a->qK w k:=fun k e=>e▸m
 refine⟨h.box.same (c.block g h.box.2.2.2.2 (Qr j)) c.size,h.nodP.wr c (Qr j),Or.inr ⟨a,zs,by rw[s];exact f,j,t,r⟩,fun g a=>?_,?_⟩
 ·have b:=h.nodR g a;exact⟨b.1.wr c (fun e=>b.2.2 (by rw[f,e];rfl)),b.2⟩
 ·obtain⟨j,d,i,b⟩:=h.rows;refine⟨j,by rw[l];exact d,zfh i (fun g a=>?_),fun r s row j d=>?_⟩
  ·have m:=(i.lt g a).2;exact c.block g m (fun e=>(h.nodR g a).2.2 (by rw[f,e];rfl))
  ·rw[l]at d;exact(b r s row j d).wr c (fun k e=>Or.inr (Or.inl (by rw[f,e];rfl))) o
theorem DQ.cols_made{b:Nat}{zs:List Int}(h:DQ w a qF.none d c)(r:Whs w b zs)(f:b≠a)(m:c.ownBlock≠E b)(o:zs.length=3*n):
 DQ (w.setCell (Xd a 0 O) (V (E (Xd b 0 O)) n n)) a ⟨n,[],[],[]⟩ (V (E (Xd b 0 O)) n n) c:=by
 obtain⟨d,i,g,j,l⟩:=h.box;have c:Wr (fun k=>k=a) w (w.setCell (Xd a 0 O) (V (E (Xd b 0 O)) n n)):=Xq (T:=fun k=>k=a) (Xi _ _) (p:=(Xd a 0 O)) rfl _;have q:∀k,k=a->qK w k:=fun k e=>e▸h.nodP
 refine⟨⟨zN _ _ _ d,?_,by simpa using g,by simpa using j,by simpa using l⟩,?_,Or.inr ⟨b,zs,rfl,f,r.wr c f q,o,fun k a=>by simp at a,fun k a=>by simp at a⟩,fun g a=>?_,?_⟩;·rw[zA _ _ _ _ sp];exact i
 ·exact h.nodP.setCell d sp
 ·have b:=h.nodR g a;refine⟨b.1.wr c b.2.1,b.2.1,fun e=>?_⟩;simp[Value.ownBlock]at e;exact m (by rw[a,e])
 ·obtain⟨f,e,d,b⟩:=h.rows;obtain rfl:f= []:=QZ (by simpa[qF.none]using e);refine⟨[],rfl,zfh d (fun g a=>c.block g (d.lt g a).2 (h.nodR g a).2.1),fun i r row a b=>by simp at a⟩
theorem DQ.rows_grown{cap:Nat}{p:qF}{rs:List Jl}{r:Jl}{row:List Int×List UInt8×Int}(h:DQ w a p d c)(x:rs.length=p.rows.length)(M:∀(i:Nat) (r:Jl) (row:List Int×List UInt8×Int),rs[i]? =E r->p.rows[i]? =E row->RowIs w (Own a d c) r row)(L:RowIs w (Own a d c) r row)(B:w'.ownsRow 0 143 4 (V (E (Xd g 0 O)) (rs.length+1) cap) (rs.length+1) (zaH rs++r.cells))(hg:w.grownBy w' c.ownBlock)(s:c.ownBlock=E g\/g=w.heap.size)(K:qK w' g):
 DQ (w'.setCell (Xd a 1 O) (V (E (Xd g 0 O)) (rs.length+1) cap)) a { p with rows:=p.rows ++ [row] } d (V (E (Xd g 0 O)) (rs.length+1) cap):=by
 have j:Wr (fun k=>c.ownBlock=E k) w w':=⟨hg.os,hg.tape,hg.output,hg.size,fun k b e=>hg.block k b (fun f=>e f.symm)⟩;have y:=fun k e=>(h.nodR k e).1
 have l:¬c.ownBlock=E a:=fun e=>(h.nodR a e).2.1 rfl
 have m:=h.box.same (j.block a h.box.2.2.2.2 l) j.size;have A:=h.nodP.wr j l;obtain⟨D,u,F,I,J⟩:=m;have o:Wr (fun k=>k=a) w' (w'.setCell (Xd a 1 O) (V (E (Xd g 0 O)) (rs.length+1) cap)):=Xq (T:=fun k=>k=a) (Xi _ _) (p:=(Xd a 1 O)) rfl _;have z:∀k,k=a->qK w' k:=fun k e=>e▸A
 have v:g≠a:=by
  rcases s with e|e
  ·exact(h.nodR g e).2.1
  ·have:=h.box.2.2.2.2;omega
 have t:∀k,d.ownBlock=E k->k<w.heap.size/\¬c.ownBlock=E k:=by
  intro k b;rcases h.cols with ⟨_,e⟩|⟨l,C,e,f,m,_⟩
  ·rw[e]at b;cases b
  ·rw[e]at b;simp[Value.ownBlock]at b;subst b;exact⟨m.lt,fun m=>(h.nodR l m).2.2 (by rw[e];rfl)⟩
 have one:∀{r:Jl} {row:List Int×List UInt8×Int},RowIs w (Own a d c) r row->RowIs (w'.setCell (Xd a 1 O) (V (E (Xd g 0 O)) (rs.length+1) cap)) (Own a d (V (E (Xd g 0 O)) (rs.length+1) cap)) r row:=by
  intro r row c;have m:=c.wr j (fun k e=>Or.inr (Or.inr e)) y;have q:RowIs w' (Own a d (V (E (Xd g 0 O)) (rs.length+1) cap)) r row:=by
   refine⟨fun e=>?_,m.2⟩;rcases e with e|e|e
   ·exact c.1 (Or.inl e)
   ·exact c.1 (Or.inr (Or.inl e))
   ·simp[Value.ownBlock]at e;rcases s with f|f
    ·exact c.1 (Or.inr (Or.inr (by rw[f,e])))
    ·have:=c.2.2.1.lt;omega
  exact q.wr o (fun k e=>Or.inl e) z
 refine⟨⟨?_,zN _ _ _ u,by simpa using F,by simpa using I,by simpa using J⟩,A.setCell u sp,?_,fun k b=>?_,rs ++ [r],by simp[x],?_,fun i A F a d=>?_⟩;·rw[zA _ _ _ _ sp];exact D
 ·rcases h.cols with c|⟨l,C,c,m,q,u⟩
  ·exact Or.inl c
  ·refine Or.inr ⟨l,C,c,m,?_,u⟩;have u:=(t l (by rw[c];rfl)).2;exact(q.wr j u y).wr o m z
 ·simp[Value.ownBlock]at b;subst b;refine⟨K.wr o v,v,fun e=>?_⟩;rcases s with f|f
  ·exact(t g e).2 f
  ·have:=(t g e).1;omega
 ·have e:zaH rs++r.cells=zaH (rs ++ [r]):=by simp[zaH]
  rw[zM,ZH,<-e];exact zfh B (fun k b=>o.block k (B.lt k b).2 (by simp[Value.ownBlock]at b;omega))
 ·by_cases b:i<rs.length
  ·rw[zS b]at a;rw[zS om]at d;exact one (M i A F a d)
  ·have b:i=rs.length:=by
    have:=(zo.1 a).1;simp at this;omega
   subst b;rw[zG (zh _),Qn]at a;rw[x,zG (zh _),Qn]at d;simp at a d;subst a d;exact one L
def zbm (wd:List UInt8)(m:Nat)(ws:List (List UInt8)):Bool:=decide (ws.length=m+1/\ws.getD 0 []=wd/\(ws.drop 1).all dOk=true)
theorem zlP{b:Type}(f:b->Bool)(d:b)(a:List b)(m:Nat)(h:a.length=m+1):(a.drop 1).all f=true↔∀j,0<j->j<m+1->f (a.getD j d)=true:=by
 rw[Zi];constructor
 ·intro b j c c;rw[zk,zg om];refine b _ ?_;have:a[j]' om=(a.drop 1)[j-1]'(by rw[Za];omega):=by
   rw[zcZ];congr 1
   omega
  rw[qB,this];exact zJ _
 ·intro b x a;obtain⟨j,c,rfl⟩:=List.mem_iff_getElem.1 a;rw[Za]at c;have:=b (1+j) om om;rw[zk,zg om]at this;rw[zcZ];exact this
theorem znD(a:List UInt8)(m:Nat)(c:List (List UInt8)):zdS (m+1) (fun k x=>if k=0 then decide (x=a)else dOk x) c=zbm a m c:=by
 unfold zdS zbm;rw[zaI];constructor
 ·rintro⟨a,b⟩;refine⟨a,?_,(zlP dOk [] c m a).2 fun j d e=>?_⟩
  ·have:=b 0 om;simpa using this
  ·have:=b j e;dsimp only at this;rwa [zO om]at this
 ·rintro⟨a,b,f⟩;refine⟨a,fun j e=>?_⟩;dsimp only;by_cases d:j=0
  ·subst d;rw[zQ rfl,b];simp
  ·rw[zO d];exact(zlP dOk [] c m a).1 f j om e
theorem zih(s:List UInt8)(hs:s.length<=2000)(h:List UInt8)(d:Nat)(a:List Nat)(f:Nat->Nat)(b:Nat)(zs:List Int)(g cap:Nat)(w:H)(hg:g≠b)(o:a.length<=900)(l:a.length+1<=cap)(c:cap<=9223372036854775807)(r:∀i fv,(QY d::a.map ZA)[i]? =E fv->w.cell? (Xd g i O)=E fv)(t:w.cell? (Xd d 0 O)=E (gS ⟨h.toArray⟩))(v:d≠b)(y:∀j q,a[j]? =E q->q≠b/\w.cell? (Xd q 0 O)=E (pn (E ⟨b,2*f j,O⟩))/\f j<zs.length)(m:Whs w b zs):
 Calls pg 229 #[gS ⟨s.toArray⟩,V (E (Xd g 0 O)) (a.length+1) cap] w fun e w'=>
  e=Xa (G (zbm h a.length (Zb s)))/\Wr (fun k=>k=b) w w'/\(zbm h a.length (Zb s)=true->Whs w' b (zbh f 0 zs ((Zb s).drop 1))):=by
 have u:(QY d::a.map ZA).length=a.length+1:=sp;have o:=ziB s hs (QY d::a.map ZA) (fun k x=>if k=0 then decide (x=h)else dOk x) (fun k=>k=b) (fun pre A=>Whs A b (zbh f 0 zs (pre.drop 1))) g cap w
  (fun x l=>l▸m.lt) hg om om c r (fun pre A B c r=>c.keep r) (fun pre A r r A c z r B=>c.setCell z r (by have:=m.lt;omega) A) ?_ m
 ·rw[u,znD]at o;exact o
 ·intro k fv c;cases k with
  |zero=>
   simp at c;subst c;refine⟨_,d,rfl,ziz,fun pre x W r l o m=>?_⟩;refine(zfm x h d W (o.cell (p:=(Xd d 0 O)) v t)).mono ?_;rintro e d ⟨rfl,rfl⟩;refine⟨rfl,Xi _ _,fun _=>?_⟩;obtain rfl:pre= []:=QZ r;exact m
  |succ j=>
   rw[jg,zR]at c;cases hq:a[j]? with
   |none=>rw[hq]at c;cases c
   |some q=>
    rw[hq]at c;injection c with c
    subst c;obtain⟨a,h,c⟩:=y j q hq;refine⟨_,q,rfl,ziA,fun pre x W r l o m=>?_⟩;refine(zig x q b (f j) (2*f j) _ W (o.cell (p:=(Xd q 0 O)) a h) rfl m (by rw[zeh];exact c) a l).mono ?_;rintro e d ⟨rfl,a,f⟩;refine⟨rfl,a,fun d=>?_⟩;have a:(pre ++ [x]).drop 1=pre.drop 1 ++ [x]:=by rw[jC om]
    have c:(pre.drop 1).length=j:=by rw[Za];omega
    rw[a,zhp,c,qt];exact f d
attribute [local go_sem] zD zW qJ
theorem zmz(s:List UInt8)(hs:s.length<=2000)(U d n:Nat)(vR:Value)(zs:List Int)(w:H)(hb:Zh w U (V (E (Xd d 0 O)) n n) vR)(hn:n<=4)(hz:Whs w d zs)(ax:zs.length=3*n):
 Calls pg 139 #[pn (E (Xd U 0 O)),gS ⟨s.toArray⟩] w fun e w'=>
  e=Xa (G (zbm zbB n (Zb s)))/\Wr (fun k=>k=d) w w'/\(zbm zbB n (Zb s)=true->Whs w' d (zbh (fun j=>3*j) 0 zs ((Zb s).drop 1))):=by
 obtain⟨b0,_,_,_,b4⟩:=hb;have av:=hz.lt;have a4:=zf (Pls.start w w (qf _ _) zbB (fun j=>⟨d,j*6,O⟩));have HZ:=zf hz;clear hz;refine Q0 func139 ntmps139 (h:=?_);gi_wp2;refine(zq.2 (ze2 _ _)).mono ?_;rintro e w1 ⟨rfl,rfl⟩;have g0:(((w.alloc (cl #[gS ⟨#[109,97,120]⟩] 9)).alloc (cl #[.func (.func 288) #[] #[pn (E (Xd w.heap.size 0 O))]] 327)).alloc (cl #[V (E ⟨w.heap.size+1,0,O⟩) 1 1] 331)).cell? (Xd U 0 O)=E (V (E (Xd d 0 O)) n n):=((zbt w _ _ _).cell (p:=(Xd U 0 O)) b4).trans b0;gi_wp2;refine(zq.2 (zfo _ _ _ _ rfl _)).mono ?_;rintro e w1 ⟨rfl,rfl⟩;gi_wp2;refine zaW (zeY (E (Xd d 0 O)) d n n (w.heap.size+1+1+1) om (fun _=>rfl)) rfl (qW func259 kr rfl) (fun ar u=>?_)
  (fun k M A=>k<=n/\∃b m l,b.length=k/\Pls w.heap.size w A (w.heap.size+1+1) w.heap.size zbB b (fun j=>⟨d,j*6,O⟩) [w.heap.size+1+1+1] m l/\A.cell? ⟨w.heap.size+1+1+1,0,O⟩=E (V (E (Xd d 0 O)) n n)/\∀x,M x↔x=w.heap.size+1+1\/(V m (k+1) l).ownBlock=E x)
  (fun a7 k A=>False) (fun x=>x=w.heap.size+1+1\/(V (E ⟨w.heap.size+1,0,O⟩) (0+1) 1).ownBlock=E x) ?hI ?hIx ?hC ?h0 ?round ?done ?stop
 case hI=>
  rintro k M A B' ⟨h1,b,m,l,h2,W,h4,h5⟩ hk;exact⟨h1,b,m,l,h2,W.keep hk so,hk.cell h4,h5⟩
 case hIx=>
  rintro a7 k A B' F _;exact F.elim
 case hC=>
  rintro k M A ⟨h1,b,m,l,h2,W,h4,h5⟩;refine⟨h4,fun x P=>?_⟩;subst h2;rcases(h5 x).1 P with e|e
  ·rw[e];exact W.lt _ sp
  ·exact(W.own.lt x e).2
 case h0=>
  refine⟨qo _,[],E ⟨w.heap.size+1,0,O⟩,1,rfl,?_,?_,fun _=>Qb⟩
  ·have F:=a4.out.alloc_avoid (cl #[V (E (Xd d 0 O)) n n] 68);simp only[zL]at F;exact F
  ·have:=(ZU (((w.alloc (cl #[gS ⟨#[109,97,120]⟩] 9)).alloc (cl #[.func (.func 288) #[] #[pn (E (Xd w.heap.size 0 O))]] 327)).alloc (cl #[V (E ⟨w.heap.size+1,0,O⟩) 1 1] 331)) 68 (V (E (Xd d 0 O)) n n)).cell;simp only[zL]at this;exact this
 case round=>
  rintro Q k ar M A u ⟨_,b,m,l,Y,i,X,I⟩;have ao:k<n:=by
   have:=(zo.1 u).1;rwa [ji]at this
  rw[zcx ao]at u;injection u with u
  subst u;subst Y;unfold Zz;gi_wp2;refine⟨Xi _ _,fun c a2=>?_⟩;have o:=i.keep a2 so;have a8:=a2.cell X;have aw:A.heap.size<=c.heap.size:=a2.size;have c6:=o.box;have c7:=(o.alloc (cl #[pn (E ⟨d,b.length*6,O⟩)] 333)).box;have c8:=((o.alloc (cl #[pn (E ⟨d,b.length*6,O⟩)] 333)).alloc (cl #[.func (.func 290) #[] #[pn (E (Xd c.heap.size 0 O))]] 327)).box;have z:=((o.alloc (cl #[pn (E ⟨d,b.length*6,O⟩)] 333)).alloc (cl #[.func (.func 290) #[] #[pn (E (Xd c.heap.size 0 O))]] 327)).drew;have v:((c.alloc (cl #[pn (E ⟨d,b.length*6,O⟩)] 333)).alloc (cl #[.func (.func 290) #[] #[pn (E (Xd c.heap.size 0 O))]] 327)).drew.cell? ⟨c.heap.size+1,0,O⟩=E (ZA c.heap.size):=by
   have:=(ZU (c.alloc (cl #[pn (E ⟨d,b.length*6,O⟩)] 333)) 327 (ZA c.heap.size)).cell;rwa [zL]at this
  have B:((c.alloc (cl #[pn (E ⟨d,b.length*6,O⟩)] 333)).alloc (cl #[.func (.func 290) #[] #[pn (E (Xd c.heap.size 0 O))]] 327)).drew.cell? (Xd c.heap.size 0 O)=E (pn (E ⟨d,b.length*6,O⟩)):=
   ((ZU c 333 (pn (E ⟨d,b.length*6,O⟩))).alloc _).cell
  have y:c.heap.size≠w.heap.size+1+1:=by have:=o.lt (w.heap.size+1+1) sp;omega
  have D:w.heap.size<=c.heap.size:=o.bel.size;have C:∀g,(V m (b.length+1) l).ownBlock=E g->g≠c.heap.size:=fun g e=>by have:=(o.own.lt g e).2;omega
  have J:b.length<=900:=om;have a0:Wr M c ((c.alloc (cl #[pn (E ⟨d,b.length*6,O⟩)] 333)).alloc (cl #[.func (.func 290) #[] #[pn (E (Xd c.heap.size 0 O))]] 327)).drew:=(Xf (zaA c _ _)).trans (Xn _ _);have a1:((c.alloc (cl #[pn (E ⟨d,b.length*6,O⟩)] 333)).alloc (cl #[.func (.func 290) #[] #[pn (E (Xd c.heap.size 0 O))]] 327)).drew.cell? ⟨w.heap.size+1+1+1,0,O⟩=E (V (E (Xd d 0 O)) n n):=((zn.alloc 0 c _).trans (zn.alloc 0 _ _)).cell a8;have a5:c.heap.size<=((c.alloc (cl #[pn (E ⟨d,b.length*6,O⟩)] 333)).alloc (cl #[.func (.func 290) #[] #[pn (E (Xd c.heap.size 0 O))]] 327)).drew.heap.size:=so;obtain⟨S,hA6⟩:∃S,((c.alloc (cl #[pn (E ⟨d,b.length*6,O⟩)] 333)).alloc (cl #[.func (.func 290) #[] #[pn (E (Xd c.heap.size 0 O))]] 327)).drew=S:=⟨_,rfl⟩;have a3:Hid (∀(g f:Nat) (h:H),Pls w.heap.size w (h.setCell ⟨w.heap.size+1+1,0,O⟩ (V (E (Xd g 0 O)) (b.length+1+1) f)) (w.heap.size+1+1) w.heap.size zbB (b ++ [c.heap.size]) (fun j=>⟨d,j*6,O⟩) [w.heap.size+1+1+1] (E (Xd g 0 O)) f->
   Wr (fun x=>x=w.heap.size+1+1\/(V m (b.length+1) l).ownBlock=E x) S (h.setCell ⟨w.heap.size+1+1,0,O⟩ (V (E (Xd g 0 O)) (b.length+1+1) f))->((V m (b.length+1) l).ownBlock=E g\/S.heap.size<=g)->
   Wr M c (h.setCell ⟨w.heap.size+1+1,0,O⟩ (V (E (Xd g 0 O)) (b.length+1+1) f))/\∃M':Nat->Prop,(b.length+1<=n/\∃ai a6 af,ai.length=b.length+1/\Pls w.heap.size w (h.setCell ⟨w.heap.size+1+1,0,O⟩ (V (E (Xd g 0 O)) (b.length+1+1) f)) (w.heap.size+1+1) w.heap.size zbB ai (fun j=>⟨d,j*6,O⟩) [w.heap.size+1+1+1] a6 af/\
    (h.setCell ⟨w.heap.size+1+1,0,O⟩ (V (E (Xd g 0 O)) (b.length+1+1) f)).cell? ⟨w.heap.size+1+1+1,0,O⟩=E (V (E (Xd d 0 O)) n n)/\∀x,M' x↔x=w.heap.size+1+1\/(V a6 (b.length+1+1) af).ownBlock=E x)/\∀x,M' x->M x\/A.heap.size<=x):=by
   intro g f h r q t;rw[hA6]at a0 a1 a5;refine⟨a0.trans (q.mono fun x P=>(I x).2 P),fun x=>x=w.heap.size+1+1\/(V (E (Xd g 0 O)) (b.length+1+1) f).ownBlock=E x,⟨om,_,_,_,sp,r,?_,fun _=>Qb⟩,fun x P=>?_⟩
   ·refine q.cell (p:=⟨w.heap.size+1+1+1,0,O⟩) (fun e=>?_) a1;rcases e with e|e
    ·simp at e
    ·exact o.sep _ e (w.heap.size+1+1+1) sp rfl
   ·rcases P with e|e
    ·exact .inl ((I x).2 (.inl e))
    ·have aq:x=g:=by simpa[Value.ownBlock]using e.symm
     subst aq;rcases t with e2|e2
     ·exact .inl ((I _).2 (.inr e2))
     ·exact .inr om
  rw[<-hA6]at a3;clear hA6 a0 a1 a5 a8 X I i o HZ a4;gi_wp2;refine jX hm ?_;try(change wpAnyIn _ _ _ _ _ _ _ _ _ (World.drew _))
  refine rj2 0 1 (h:=fun K a=>?_) (h1:=fun K a=>?_);go_simp;refine a _ _ ?_;clear a K;refine rj1 1 (h:=fun K a=>?_);go_simp;refine a _ _ ?_;clear a K;refine rj1 2 (h:=fun K a=>?_);go_simp;refine a _ _ ?_;clear a K;refine rj1 3 (h:=fun K a=>?_);go_simp;refine a _ _ ?_;clear a K;refine rj1 4 (h:=fun K a=>?_);go_simp;refine(Zq Q (zq.2 (jn _ _))).mono ?_;rintro e R ⟨rfl,rfl⟩;simp only[];refine a _ _ ?_;clear a K;refine rj1 5 (h:=fun K a=>?_);go_simp;refine a _ _ ?_;clear a K;refine rj1 6 (h:=fun K a=>?_);refine JT _ rfl (.tmp 15) (.tmp 20) rfl z J rfl rfl v B D y C ?_;intro g f h r q t L N;refine a _ _ ?_;clear a K;refine rj1 7 (h:=fun K a=>?_);go_simp;refine a _ _ ?_;clear a K;refine Q4 kr ?_ _;rotate_left;go_simp;refine a _ _ ?_;clear a K;refine rj2 0 2 (h:=fun K a=>?_) (h1:=fun K a=>?_);go_simp;refine a _ _ ?_;clear a K;refine rj1 2 (h:=fun K a=>?_);go_simp;refine a _ _ ?_;clear a K;refine rj1 3 (h:=fun K a=>?_);go_simp;refine a _ _ ?_;clear a K;refine rj1 4 (h:=fun K a=>?_);go_simp;refine(Zq Q (zq.2 (jn _ _))).mono ?_;rintro e R ⟨rfl,rfl⟩;simp only[];refine a _ _ ?_;clear a K;refine rj1 5 (h:=fun K a=>?_);go_simp;refine a _ _ ?_;clear a K;refine rj1 6 (h:=fun K a=>?_);refine JT _ rfl (.tmp 15) (.tmp 20) rfl z J rfl rfl v B D y C ?_;intro g f h r q t L N;refine a _ _ ?_;clear a K;refine rj1 7 (h:=fun K a=>?_);go_simp;refine a _ _ ?_;clear a K;refine Q4 kr ?_ _;rotate_left;go_simp;refine a _ _ ?_;clear a K;refine rj2 0 3 (h:=fun K a=>?_) (h1:=fun K a=>?_);go_simp;refine a _ _ ?_;clear a K;refine rj1 3 (h:=fun K a=>?_);go_simp;refine a _ _ ?_;clear a K;refine rj1 4 (h:=fun K a=>?_);go_simp;refine(Zq Q (zq.2 (jn _ _))).mono ?_;rintro e R ⟨rfl,rfl⟩;simp only[];refine a _ _ ?_;clear a K;refine rj1 5 (h:=fun K a=>?_);go_simp;refine a _ _ ?_;clear a K;refine rj1 6 (h:=fun K a=>?_);refine JT _ rfl (.tmp 15) (.tmp 20) rfl z J rfl rfl v B D y C ?_;intro g f h r q t L N;refine a _ _ ?_;clear a K;refine rj1 7 (h:=fun K a=>?_);go_simp;refine a _ _ ?_;clear a K;refine Q4 kr ?_ _;rotate_left;go_simp;refine a _ _ ?_;clear a K;refine rj2 0 4 (h:=fun K a=>?_) (h1:=fun K a=>?_);go_simp;refine a _ _ ?_;clear a K;refine rj1 4 (h:=fun K a=>?_);go_simp;refine(Zq Q (zq.2 (jn _ _))).mono ?_;rintro e R ⟨rfl,rfl⟩;simp only[];refine a _ _ ?_;clear a K;refine rj1 5 (h:=fun K a=>?_);go_simp;refine a _ _ ?_;clear a K;refine rj1 6 (h:=fun K a=>?_);refine JT _ rfl (.tmp 15) (.tmp 20) rfl z J rfl rfl v B D y C ?_;intro g f h r q t L N;refine a _ _ ?_;clear a K;refine rj1 7 (h:=fun K a=>?_);go_simp;refine a _ _ ?_;clear a K;refine Q4 kr ?_ _;rotate_left;go_simp;refine(Zq Q (zq.2 (jn _ _))).mono ?_;rintro e R ⟨rfl,rfl⟩;simp only[];refine a _ _ ?_;clear a K;refine rj2 0 5 (h:=fun K a=>?_) (h1:=fun K a=>?_);go_simp;refine a _ _ ?_;clear a K;refine rj1 5 (h:=fun K a=>?_);go_simp;refine a _ _ ?_;clear a K;refine rj1 6 (h:=fun K a=>?_);refine JT _ rfl (.tmp 15) (.tmp 20) rfl z J rfl rfl v B D y C ?_;intro g f h r q t L N;refine a _ _ ?_;clear a K;refine rj1 7 (h:=fun K a=>?_);go_simp;refine a _ _ ?_
  clear a K;refine Q4 kr ?_ _;rotate_left;go_simp;refine a _ _ ?_;clear a K;refine rj1 0 (h:=fun K a=>?_);go_simp;refine a _ _ ?_;clear a K;refine rj1 6 (h:=fun K a=>?_);refine JT _ rfl (.tmp 15) (.tmp 20) rfl z J rfl rfl v B D y C ?_;intro g f h r q t L N;refine a _ _ ?_;clear a K;refine rj1 7 (h:=fun K a=>?_);go_simp;refine a _ _ ?_;clear a K;refine Q4 kr ?_ _;rotate_left;all_goals
   gi_wp2;exact a3.out g f h r q t
 case done=>
  rintro T M A hD ⟨h1,b,m,l,Y,i,X,I⟩ hd;rw[ji]at Y;subst Y;obtain⟨g,rfl,_,_,al,an,ab⟩:=i.row;have c0:=i.box;have HF:=zf (zih s hs zbB w.heap.size b (fun j=>3*j) d zs g l A om om al an ab i.q0c om
   (fun j ah hq=>⟨by have:=(i.new.2.2.2 ah (zx hq)).1;omega,by have:=i.qsc j ah hq;rw[show 2*(3*j)=j*6 by omega];exact this,by have:=(zo.1 hq).1;omega⟩) (HZ.out.below i.bel))
  have ak:=i.bel;clear i I X ab;gi_wp2;refine(zq.2 HF.out).mono ?_;rintro e Z ⟨rfl,ad,ae⟩;have au:w.heap.size<T:=by simp at hD;omega
  have a9:Z.heap[T]? =E (.deferred (E [])):=ad.some hd om;have aa:zn w.heap.size Z (Z.putObj T (.deferred O)):=zn.putObj (.deferred O) om a9 rfl;have aj:=zf ae;clear ae;gi_wp2;refine qh a9 ?_;refine⟨_,by simp[results,results139,go_sem],rfl,((Xf ak).trans ad).keep aa,fun hl=>(aj.out hl).keep aa⟩
 case stop=>
  rintro T a7 k A hD hk F hd;exact F.elim
 ·obtain⟨_,_,rfl⟩:=qP.1 u;rfl
end

section
open Go.RowKit
variable {zs:List Int}
theorem zfu(a:Nat->Nat)(i:Nat):∀(r:List (List UInt8)) (k:Nat) (zs:List Int),(∀j,j<r.length->a (k+j)≠i)->(zbh a k zs r).getD i 0=zs.getD i 0
 |[],k,zs,_=>rfl
 |x::r,k,zs,h=>by
  rw[zbh,zfu a i r (k+1) _ (fun j c=>by have:=h (j+1) so;rwa [show k+(j+1)=k+1+j by omega]at this)];have b:=h 0 sp;rw[qV]at b;simp only[zk,zal b]
theorem zhZ(c:Nat->Nat)(g:∀a b,c a=c b->a=b):∀(r:List (List UInt8)) (k:Nat) (zs:List Int) (j:Nat),j<r.length->c (k+j)<zs.length->(zbh c k zs r).getD (c (k+j)) 0=T.wZ (r.getD j [])
 |[],k,zs,j,d,_=>by simp at d
 |x::r,k,zs,0,_,f=>by
  rw[qV]at f⊢;rw[zbh,zfu c _ r (k+1) _ (fun j d e=>by have:=g _ _ e;omega)];simp only[zk,jZ f];rfl
 |x::r,k,zs,j+1,d,f=>by
  rw[zbh,show k+(j+1)=k+1+j by omega,zhZ c g r (k+1) _ j (by simpa using d) (by rw[qX,show k+1+j=k+(j+1)by omega];exact f)];simp
theorem zqF{r:List (List UInt8)}(h:zs.length=r.length):zbh id 0 zs r=r.map T.wZ:=by
 refine List.ext_getElem (by rw[zeh,zm,h]) fun j c a=>?_
 rw[zm]at a;have b:=zhZ id (fun d d e=>e) r 0 zs j a so;simp only[id,qt,zk,zg c,zg a,qB]at b;rw[b,zaJ]
theorem zqG{p:qF}{ws:List (List UInt8)}(h:zft p zs)(hrg:p.rg= [])(hl:ws.length=p.n+1):zft { p with mx:=(ws.drop 1).map T.wZ } (zbh (fun j=>3*j) 0 zs (ws.drop 1)):=by
 have hd:(ws.drop 1).length=p.n:=by rw[Za];omega
 refine⟨by rw[zeh];exact h.1,fun k hk=>?_,fun k hk=>by simp[hrg]at hk⟩;have hk2:k<p.n:=by simp at hk;omega
 have:=zhZ (fun j=>3*j) (fun a b e=>by have e':=e;omega) (ws.drop 1) 0 zs k om (by have:=h.1;simp;omega);simp only[qt]at this;rw[this];simp only[zk,zR,zg (show k<(ws.drop 1).length by omega),qY,qB]
theorem znE{p:qF}{a:List (List UInt8)}{m:Nat}(h:zft p zs)(hm:p.rg.length=m)(c:m<p.n)(b:a.length=3):
 zft { p with rg:=p.rg ++ [(T.wZ (a.getD 1 []),T.wZ (a.getD 2 []))] } (zbh (fun j=>3*m+1+j) 0 zs (a.drop 1)):=by
 have b:(a.drop 1).length=2:=by rw[Za];omega
 have c:=zhZ (fun j=>3*m+1+j) (fun b d e=>by have f:=e;omega) (a.drop 1) 0 zs;have d:(a.drop 1).getD 0 []=a.getD 1 []:=by simp[zk]
 have f:(a.drop 1).getD 1 []=a.getD 2 []:=by simp[zk]
 refine⟨by rw[zeh];exact h.1,fun k a=>?_,fun k a=>?_⟩
 ·rw[zfu _ _ _ _ _ (fun j b e=>by simp at e;omega)];exact h.2.1 k a
 ·simp only[zM,ZH]at a;by_cases a:k<m
  ·rw[zfu _ _ _ _ _ (fun j b e=>by simp at e;omega),zfu _ _ _ _ _ (fun j b e=>by simp at e;omega)];have:=h.2.2 k om;simp only[zk,zS (show k<p.rg.length by omega)]at this⊢;exact this
  ·obtain rfl:k=m:=om;have a:=c 0 om (by have:=h.1;simp;omega);have b:=c 1 om (by have:=h.1;simp;omega);simp only[qt,qV]at a b;rw[d]at a;rw[f]at b;rw[a,show 3*k+2=3*k+1+1 by omega,b];simp only[zk,zG (show p.rg.length<=k by omega),hm,Qn];exact⟨rfl,rfl⟩
open Go.ChangeShapes Go.WideShapes Go.ChangeAt Go.RowKit
theorem zgk{k:Type}{enc:TypeId×Value->k}{a:Assume}{C:Checked}{os:Os}{f:FuncId}{b:Func}{s:ChangeSpec}{h:List PathCond}{apart fresh o m:Bool}{X:H->Array Value->Prop}(u:∀(w w':H) (args:Array Value),w.heap=w'.heap->X w args->X w' args)(own:ownKnob C.prog.godebug=O)(Q:os.Started)(P:C.prog.inits.idxOf? f=O)(z:C.prog.funcs[f]? =E b)(R:∃(w:H) (c:Tape) (i:Input),w.os=os/\(w.forCall c i).Shaped C.prog/\i.vars= []/\Input.okWide C.prog (w.forCall c i) .any w.heap.size f i/\
  ((s.pre enc C.prog b h apart (w.forCall c i).memory i.args/\X (w.forCall c i).memory i.args)/\sizedMet enc C.prog b (OpenSpec.ofChange s) apart (w.forCall c i).memory i.args)/\a.holds C.prog (lone (Frame.enter C.prog f i.args .normal) [] (w.forCall c i)))(q:∀(W:H) (base:Nat) (args:Array Value) (ds d:List (DataW k)) (g:List MemPlace),
  (∀(j:Nat) t v,b.params[j]? =E t->args[j]? =E v->Value.okWide C.prog W .any base t v)->
  DataW.Whole enc C.prog b.params.toList s.vars apart W args.toList ds d g->
  h.all (PathCond.test C.prog ⟨b.params.toList,ds,s.plain.varTypes C.prog,d⟩)=true->
  (DataW.weightsEach C.prog (b.params.toList++s.plain.varTypes C.prog) (ds++d)).all (·<=reachBytes)=true->X W args->
  W.ShapedOpen C.prog->
  a.holds C.prog (lone (Frame.enter C.prog f args .normal) [] W)->
  Calls C.prog f args W fun e l=>∃v,e=Xa v/\s.post enc C.prog b apart fresh o m W args v l):
 ReturnsInHanded a C os f .any (fun w args=>(s.pre enc C.prog b h apart w args/\X w args)/\sizedMet enc C.prog b (OpenSpec.ofChange s) apart w args) (s.post enc C.prog b apart fresh o m):=by
 refine returnsInHanded_of_calls own Q P R ?_;intro w c i _ J _ D I B;obtain⟨_,_,_,r,A,_,_,_,_,K⟩:=D;have e:r=b:=Q8 (A.symm.trans z);subst e;obtain⟨⟨⟨ds,d,g,p,x⟩,M⟩,N⟩:=I;have L:=DataW.Whole.of_heap (w':=w.forCall c i) (by rfl) p;refine(q (w.forCall c i) w.heap.size i.args ds d g K L x (N.weights p) (u _ _ _ (by rfl) M) J B).mono fun e l ⟨v,y,F⟩=>?_
 subst y;exact ChangeSpec.post_blind F
theorem znF{H:Type}{enc:TypeId×Value->H}{P:Program}{f:Func}{s:ChangeSpec}{apart fresh handsOn:Bool}{W W':World}{args:Array Value}{v:Value}{ds gs:List (DataW H)}{before pa pv:List MemPlace}(hW:DataW.Whole enc P f.params.toList s.vars apart W args.toList ds gs before)(hres:∀(b:Nat) (sp:Nat->Bool) (hd:Bool),DataW.TrodAll enc P W' b sp hd f.resultTypes.toList (v.resultList f.resultTypes.size) (s.fn H (ds++gs)).results [])(hargs:∀sp:Nat->Bool,(∀p∈before,sp p.block=true)->DataW.TrodAll enc P W' 0 sp true f.params.toList args.toList (s.fn H (ds++gs)).args pa)(hvars:∀sp:Nat->Bool,(∀p∈before,sp p.block=true)->DataW.TrodVars enc P W' sp s.vars (s.fn H (ds++gs)).vars pv)(hps:before=pa++pv)(hb:Below W.heap.size W W'):
 s.post enc P f apart fresh handsOn false W args v W':=by
 have hold:∀p∈before,(fun b=>decide (b<W.heap.size)) p.block=true:=fun p hp=>by simpa using hW.lt p hp
 refine⟨ds,gs,before,[],pa,pv,hW,hres _ _ _,hargs _ hold,hvars _ hold,World.keptBut_mono (fun p hp=>⟨hp,?_⟩) (hb.frame _),fun h=>by cases h⟩;rw[hps,zU]at hp;exact Or.inr hp
theorem own:ownKnob Tryz.prog.godebug=O:=kr
theorem znG{W:World}(h:laidMetH Tryz.prog Rows.foundRow.laid W)(hs:W.ShapedOpen Tryz.prog):Gl W:=by
 rw[MakeChecks.laidMetH_plain _ _ _ (by kernel_rfl)]at h;have h3:=(h.tail).tail;have ht:Tab W:=Lib.tabIs_of_head (k:= .u64) (zs:=Lib.pow10Tab) (show Tryz.prog.globalNamed "internal/strconv.uint64pow10" =some 0 by kernel_rfl) (t:=277) (by kernel_rfl) Tryz.underlying277 Tryz.underlying202 (by kernel_rfl) (by kernel_rfl) h3;obtain⟨m,hm⟩:=Go.Proofs.cell_of_shapedOpen_int (g:=1) (zero:=#[.int Xb 0]) (t:=3) hs (jU (by kernel_rfl)) (by kernel_rfl) rfl (by kernel_rfl) (by kernel_rfl) Tryz.underlying3;exact⟨ht,m,hm,by
  rcases Qc 1 W.heap.size with h1|h1
  ·exact h1
  ·rw[World.cell?]at hm;simp[zbf h1]at hm⟩
