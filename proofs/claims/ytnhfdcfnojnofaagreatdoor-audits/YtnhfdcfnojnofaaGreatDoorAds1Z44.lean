import Derived.Test.YtnhfdcfnojnofaaGreatDoorAds1Z43
open Option renaming none->O,some->E
open Go.Value renaming slice->V,bool->G,string->gS,pointer->pn,int->it,agg->ag
open Go.Obj renaming cells->cl
open Go renaming World->H
open Go.Proofs.Tryz renaming prog->pg
open Go.Proofs.Tryz
set_option linter.unusedSimpArgs false
set_option linter.unusedVariables false
set_option maxHeartbeats 2000000
set_option maxRecDepth 100000
namespace Go.Proofs.YtnhfdcfnojnofaaGreatDoor
open Go.RowKit
attribute [local go_sem] qm qW ZR
theorem znU (a b:Option Addr)(n cap m c:Nat)(z:Int)(w:H):
 Calls pg 264 #[ag #[V a n cap,V b m c],it .i64 z] w fun e w'=>e= .returned (.func (.func 342) #[] #[pn (E ⟨w.heap.size,0,O⟩),pn (E ⟨w.heap.size+1,0,O⟩)])/\w'=(w.alloc (cl #[V a n cap,V b m c] 109)).alloc (cl #[it .i64 z] 3):=by
 go_enter func264,ntmps264
 have a:=JN;go_wp2;go_ret;exact⟨rfl,rfl⟩
theorem zgO (a b:Option Addr)(n cap m c:Nat)(w:H)(d:n<=100000):
 Calls pg 87 #[ag #[V a n cap,V b m c]] w fun e w'=>e= .returned (it .i64 (n:Nat))/\w'=w.alloc (cl #[V a n cap,V b m c] 109):=by
 go_enter func87,ntmps87
 go_wp2;go_ret;exact⟨rfl,rfl⟩
def UnitY (j:Nat)(k:Nat)(v:Array Value)(W:H):Prop:=∃t:WT,v=#[t.val]/\zY W t.val (if k=j then 1 else 0)
theorem zmz (a b:Option Addr)(n cap m d j e c:Nat)(r:n<=100000):
 J0 pg 342 #[pn (E ⟨e,0,O⟩),pn (E ⟨c,0,O⟩)] n (UnitY j) (fun W=>W.cell? ⟨e,0,O⟩=E (V a n cap)/\W.cell? ⟨e,1,O⟩=E (V b m d)/\W.cell? ⟨c,0,O⟩=E (it .i64 (j:Nat))):=by
 intro l J e f W A e e i g;obtain⟨k,p,q⟩:=(e 0 f W g).1;have l:=zi e;have I:=zi i;have o:=zi (fun W (z:Nat) (s:z<2)=>zkl W z om);clear i e;refine zcE func342 ntmps342 (h:=?_);gi_wp2;refine(zS.2 (zgO a b n cap m d W r)).mono ?_;rintro t e ⟨rfl,rfl⟩;have e:=A _ _ _ _ g (zw.alloc W.heap.size W (cl #[V a n cap,V b m d] 109));have g:W.heap.size<=(W.alloc (cl #[V a n cap,V b m d] 109)).heap.size:=sp;clear k p q;gi_wp2;gi_loopw [8] (fun i wr=>∃(k:Nat) (M:Nat->Prop),i=it .i64 (k:Int)/\k<=n/\J k M wr/\W.heap.size<=wr.heap.size) (fun i _=>n-(intOf i).toNat)
 case atStart=>exact⟨0,f,rfl,qp _,e,g⟩
 case round=>
  obtain⟨k,M,rfl,_,v,_⟩:=hrel;by_cases d:k<n
  ·have b:=(l.out k M wr v).1.2.2;have e:c<wr.heap.size:=zN b;gi_wp2;refine(zS.2 (o.out _ 0 om)).mono ?_;rintro t a ⟨_,rfl,C,u⟩;obtain⟨⟨g,f,l,i⟩,rfl⟩:=C.shape;simp only[WT.val,WT.sv]at C⊢;have s:Ext wr (a.alloc (cl #[G g,V f l i] 101)):=(Ext.of u).alloc _;have p:=s.cell b;have p:=(Ext.of u).cell b;have b:=zv e u.size;have F:=zq a (cl #[G g,V f l i] 101);by_cases w:k=j
   ·have N:((k:Int) == (j:Int))=true:=by simp[w]
    have L:=zi w;clear w;gi_wp2;refine(zS.2 (o.out _ 1 om)).mono ?_;rintro t b ⟨_,rfl,x,K⟩;obtain⟨⟨p,o,r,q⟩,rfl⟩:=x.shape;simp only[WT.val,WT.sv]at x⊢;have y:Ext (a.alloc (cl #[G g,V f l i] 101)) b:=Ext.of K;have e:=(y.block _ (zf.1 F).1).trans F;have c:=c_ 0 e;have c:=c_ 1 e;have c:b.frozen? ⟨a.heap.size,0,O⟩=false:=T.ZX e;have c:b.frozen? ⟨a.heap.size,1,O⟩=false:=T.ZX e;have D:Wr (fun c=>c=a.heap.size) b ((b.setCell ⟨a.heap.size,0,O⟩ (G p)).setCell ⟨a.heap.size,1,O⟩ (V o r q)):=(qS (U:=fun c=>c=a.heap.size) rfl _).trans (qS (U:=fun c=>c=a.heap.size) rfl _);have B:=ZA (s.trans y) (D.below (by have:=(s.trans y).size;omega) (fun c J=>by have:=u.size;omega));have u:=zi B.size;have z:=zi (I.out k #[ag #[G p,V o r q]] M ((b.setCell ⟨a.heap.size,0,O⟩ (G p)).setCell ⟨a.heap.size,1,O⟩ (V o r q)) d ⟨⟨p,o,r,q⟩,rfl,by
     rw[z8 L.out];exact x.wr D (fun c J=>by rw[J];exact qj e (by intro b b;simp at b;rcases b with rfl|rfl<;>(intro n t;cases t)))⟩ (A _ _ _ _ v (zw.of_below B)))
    clear B D e y K x;gi_wp2;refine jt z.out ?_ ?_
    ·rintro e ⟨o,c,b,_⟩;gi_wp2;go_roundw
     case rel=>exact⟨k+1,c,sp,d,b,by have:=o.size;have:=u.out;omega⟩
     case measure=>simp[intOf];omega
    ·intro e b;gi_wp2;refine zH (qY rfl _ _ _) rfl ?_;exact⟨⟨_,rfl⟩,.inr ⟨k,d,b.2⟩⟩
   ·have N:((k:Int) == (j:Int))=false:=by
     rw[qO];omega
    have u:=zi s.size;have z:=zi (I.out k #[ag #[G g,V f l i]] M (a.alloc (cl #[G g,V f l i] 101)) d ⟨⟨g,f,l,i⟩,rfl,by
     rw[zW w];exact C.below ((Ext.refl a).alloc _)⟩ (A _ _ _ _ v (zw.of_below s)))
    clear F;gi_wp2;refine jt z.out ?_ ?_
    ·rintro e ⟨o,c,b,_⟩;gi_wp2;go_roundw
     case rel=>exact⟨k+1,c,sp,d,b,by have:=o.size;have:=u.out;omega⟩
     case measure=>simp[intOf];omega
    ·intro e b;gi_wp2;refine zH (qY rfl _ _ _) rfl ?_;exact⟨⟨_,rfl⟩,.inr ⟨k,d,b.2⟩⟩
  ·gi_wp2;go_end0
   have a:k=n:=om;subst a;exact⟨⟨_,rfl⟩,.inl ⟨M,v⟩⟩
def ColY (zs:List Int)(lo hi:Int)(k:Nat)(v:Array Value)(W:H):Prop:=∃r:RW,v=#[r.val]/\QC W r (if k=0 then(zs,hi)else(zs.map (fun z=>-z),-lo))
structure ColC (ga:Nat)(lba:Array Value)(ba bc:Nat)(tl th:WT)(zs:List Int)(lo hi:Int)(W:H):Prop where
 fn:W.cell? ⟨ba,0,O⟩=E (.func (.func ga) #[] lba)
 c2:W.cell? ⟨bc,2,O⟩=E (G tl.b)
 c3:W.cell? ⟨bc,3,O⟩=E tl.sv
 c4:W.cell? ⟨bc,4,O⟩=E (G th.b)
 c5:W.cell? ⟨bc,5,O⟩=E th.sv
 low:zY W tl.val lo
 high:zY W th.val hi
 seq:Nonempty (WSeq W ga lba zs)
theorem zlb (d:Nat)(p:Array Value)(a b:Nat)(q x:WT)(zs:List Int)(g j:Int)(w:zs.length<=100000):
 J0 pg 341 #[pn (E ⟨a,0,O⟩),pn (E ⟨b,0,O⟩)] 2 (ColY zs g j) (ColC d p a b q x zs g j):=by
 intro l J a t W k a i u v;obtain⟨l,n,a,o,b,e,f,⟨c⟩⟩:=(i 0 t W v).1;have y:=zi i;have s:=zi u;have r:=zi (fun W (z:WSeq W d p zs) m mz hm=>zew W d p zs z w m mz hm);clear u i;obtain⟨_,_,_,_⟩:=q;obtain⟨_,_,_,_⟩:=x;simp only[WT.sv]at a b;have d:=zi (r.out W c _ j f);simp only[WT.val,WT.sv]at d;clear c;refine zcE func341 ntmps341 (h:=?_);gi_wp2;refine(zS.2 d.out).mono ?_;rintro u j ⟨⟨⟨_,_,_⟩,⟨_,⟨_,q,_⟩⟩⟩,rfl,q,-,p⟩;have i:=zi (s.out 0 _ t j om ⟨_,rfl,by rw[z8 rfl];exact q⟩ (k _ _ _ _ v (zw.of_below p)));simp only[RW.val,RW.fv,WT.sv]at i⊢;clear l n a o b e f d;gi_wp2;refine jt i.out ?_ ?_
 ·rintro j ⟨x,p,d,-⟩;obtain⟨l,n,a,o,b,e,f,⟨c⟩⟩:=(y.out 1 p j d).1;have i:=zi (r.out j c _ g e);simp only[WT.val,WT.sv]at i a b;clear c;gi_wp2;refine(zS.2 i.out).mono ?_;rintro u r ⟨q,rfl,v,-,t⟩;have c:=zi (zfp r q (zs,g) v w);obtain⟨⟨_,_,_⟩,⟨_,⟨_,_,_⟩⟩⟩:=q;simp only[RW.val,RW.fv,WT.sv]at c⊢;gi_wp2;refine(zS.2 c.out).mono ?_;rintro u q ⟨⟨⟨_,_,_⟩,⟨_,⟨_,_,_⟩⟩⟩,rfl,u,-,r⟩;have g:=zi (s.out 1 _ p q om ⟨_,rfl,by rw[zW om];exact u⟩ (k _ _ _ _ (k _ _ _ _ d (zw.of_below t)) (zw.of_below r)));simp only[RW.val,RW.fv,WT.sv]at g⊢;clear l n a o b e f i c;gi_wp2;refine jt g.out ?_ ?_
  ·rintro c ⟨e,b,a,-⟩;gi_wp2;go_end0
   exact⟨⟨_,rfl⟩,.inl ⟨b,a⟩⟩
  ·rintro c ⟨e,a⟩;gi_wp2;go_end0
   exact⟨⟨_,rfl⟩,.inr ⟨1,om,a⟩⟩
 ·rintro j ⟨x,d⟩;gi_wp2;go_end0
  exact⟨⟨_,rfl⟩,.inr ⟨0,om,d⟩⟩
theorem ziH (b k g:Bool)(a j f:Option Addr)(c ac n m i h:Nat)(d:Nat)(l:Array Value)(w:H):
 Calls pg 263 #[ag #[G b,V a c ac,G k,V j n m,G g,V f i h],.func (.func d) #[] l] w fun e w'=>e= .returned (.func (.func 341) #[] #[pn (E ⟨w.heap.size+1,0,O⟩),pn (E ⟨w.heap.size,0,O⟩)])/\w'=(w.alloc (cl #[G b,V a c ac,G k,V j n m,G g,V f i h] 153)).alloc (cl #[.func (.func d) #[] l] 147):=by
 go_enter func263,ntmps263
 have a:=JN;go_wp2;go_ret;exact⟨rfl,rfl⟩
theorem zlc (i:ByteArray)(b:Bool)(a f:Option Addr)(d c h g:Nat)(w:H):
 Calls pg 262 #[ag #[gS i,G b,V a d c,V f h g]] w fun e w'=>e= .returned (.func (.func 339) #[] #[pn (E ⟨w.heap.size,0,O⟩)])/\w'=w.alloc (cl #[gS i,G b,V a d c,V f h g] 160):=by
 go_enter func262,ntmps262
 have a:=JN;go_wp2;go_ret;exact⟨rfl,rfl⟩
theorem zkw (a b:Option Addr)(n cap m c:Nat)(w:H):
 Calls pg 164 #[ag #[V a n cap,V b m c]] w fun e w'=>e= .returned (.func (.func 260) #[] #[pn (E ⟨w.heap.size,0,O⟩)])/\w'=w.alloc (cl #[V a n cap,V b m c] 109):=by
 go_enter func164,ntmps164
 have a:=JN;go_wp2;go_ret;exact⟨rfl,rfl⟩
def HoI (W:H)(l:Nat)(J:Nat->(Nat->Prop)->H->Prop)(k:Nat)(M:Nat->Prop)(A:H):Prop:=∃N,J k N A/\A.heap[W.heap.size]? =E (cl #[.func (.yield l) #[] #[]] 161)/\A.heap[W.heap.size+1]? =E (cl #[G false] 4)/\¬N W.heap.size/\¬N (W.heap.size+1)/\∀x,M x↔N x\/x=W.heap.size+1
def HoX (W:H)(Jx:Nat->H->Prop)(c:Code)(k:Nat)(A:H):Prop:=c= .ret/\Jx k A/\A.heap[W.heap.size+1]? =E (cl #[G false] 4)
theorem zld (g:Nat)(h:Array Value)(n:Nat)(Y:Nat->Array Value->H->Prop)(C:H->Prop)(f:SeqQ pg g h n Y C)(j:∀args w,(callFunc g args).run pg w= .ok (.enter g args) w)
 (b:∀k v W,Y k v W->∃r:RW,v=#[r.val]) (a0:∀k v A B,Y k v A->zw 0 A B->Y k v B) (l:Nat) (J:Nat->(Nat->Prop)->H->Prop) (Jx:Nat->H->Prop) (M0:Nat->Prop) (W:H)
 (F:∀k M A B,J k M A->zw W.heap.size A B->J k M B) (R:∀k A B,Jx k A->zw W.heap.size A B->Jx k B)
 (Q:∀k M A B,J k M A->Wr (zas W.heap.size A) A B->J k M B) (S:∀k A B,Jx k A->Wr (zas W.heap.size A) A B->Jx k B)
 (hC:∀k M A,J k M A->C A/\∀x,M x->x<A.heap.size/\zbi A x)
 (d:∀k v M a,k<n->Y k v a->J k M a->YieldAt Fence.wide 0 pg l v a fun e W'=>
  (e= .returned (G true)/\Wr M a W'/\∃c,J (k+1) c W'/\∀x,c x->M x\/a.heap.size<=x)\/(e= .returned (G false)/\Wr M a W'/\Jx k W'))
 (h0:J 0 M0 W):
 Calls pg 261 #[.func (.func g) #[] h,.func (.yield l) #[] #[]] W fun e W'=>∃t,e= .returned (G t)/\(t=true->∃M,J n M W')/\(t=false->∃k,k<n/\Jx k W'):=by
 have h:=zi hC;have HY:=zi d;have m:=zi b;have a:=zi f;clear d hC b f;have D:Ext W ((W.alloc (cl #[.func (.yield l) #[] #[]] 161)).alloc (cl #[G false] 4)):=((Ext.refl W).alloc _).alloc _;obtain⟨y,s⟩:=T.zbs W (cl #[.func (.yield l) #[] #[]] 161) (cl #[G false] 4);refine JO func261 ntmps261 (h:=?_);gi_wp2;generalize (W.alloc (cl #[.func (.yield l) #[] #[]] 161)).alloc (cl #[G false] 4)=z at *;have q:=(h.out 0 M0 W h0).2;have c:=(zf.1 s).1;refine zd0 a.out rfl j (fun k v W b=>by obtain⟨r,rfl⟩:=m.out k v W b;rfl)
  (HoI W l J) (HoX W Jx) (fun x=>M0 x\/x=W.heap.size+1) ?hI ?hIx ?hI2 ?hIx2 ?hC ?h0 ?round ?done ?stop
 case hI=>
  rintro k M A B ⟨N,b,d,a,p,o,j⟩ c;exact⟨N,F _ _ _ _ b (c.mono om),c.block _ _ d (.inr rfl),c.block _ _ a (.inr rfl),p,o,j⟩
 case hIx=>
  rintro P k A B ⟨b,d,a⟩ c;exact⟨b,R _ _ _ d (c.mono om),c.block _ _ a (.inr rfl)⟩
 case hI2=>
  rintro k M A B ⟨N,b,d,a,p,o,j⟩ c;exact⟨N,Q _ _ _ _ b (c.mono (fun u f=>⟨by have:=f.1;omega,f.2⟩)),c.some d (fun e=>by have:=e.1;omega),c.some a (fun e=>by have:=e.1;omega),p,o,j⟩
 case hIx2=>
  rintro P k A B ⟨b,d,a⟩ c;exact⟨b,S _ _ _ d (c.mono (fun u f=>⟨by have:=f.1;omega,f.2⟩)),c.some a (fun e=>by have:=e.1;omega)⟩
 case hC=>
  rintro k M A ⟨N,b,d,a,p,o,j⟩;refine⟨(h.out k N A b).1,fun x f=>?_⟩;rcases(j x).1 f with f|rfl
  ·exact(h.out k N A b).2 x f
  ·exact⟨(zf.1 a).1,zeF a dc n1⟩
 case h0=>
  refine⟨M0,F _ _ _ _ h0 (zw.of_below D),y,s,fun h=>?_,fun h=>?_,fun x=>Ql⟩;·have:=(q _ h).1;omega
  ·have:=(q _ h).1;omega
 case round=>
  rintro q k v M A a1 s ⟨N,b,d,a,p,o,j⟩;obtain⟨⟨⟨y,I,D⟩,⟨X,⟨L,Z,Y⟩⟩⟩,rfl⟩:=m.out k v A s;simp only[RW.val,RW.fv,WT.sv]at s⊢;unfold Qr;gi_wp2;refine⟨Wr.of_below ((Ext.refl A).alloc _),fun u K=>?_⟩;have m:=(zw.alloc z.heap.size A (cl #[V y I D,G X,V L Z Y] 174)).trans K;have q:=K.block _ _ (zq A (cl #[V y I D,G X,V L Z Y] 174)) (.inr rfl);have y:=c_ 0 q;have y:=c_ 1 q;have y:=c_ 2 q;have L:=m.block _ _ d (.inr rfl);have I:=m.block _ _ a (.inr rfl);have y:=c_ 0 L;have y:=m.size;have y:=(zf.1 I).1;have y:=zi (HY.out k _ N u a1 (a0 _ _ _ _ s (m.mono (qp _))) (F _ _ _ _ b (m.mono om)));clear q;gi_wp2;refine zgh y.out ?_ ?_
  ·rintro m ⟨q,K,y,s⟩;have D:Hid (Qs M (HoI W l J) (HoX W Jx) k A u .normal { tmps:=#[],defers:= [] } m):=by
    refine⟨q.mono (fun x f=>(j x).2 (.inl f)),fun x=>K x\/x=W.heap.size+1,⟨K,y,q.some L p,q.some I o,fun h=>?_,fun h=>?_,fun x=>Ql⟩,fun x f=>?_⟩
    ·rcases s _ h with h|h
     ·exact p h
     ·omega
    ·rcases s _ h with h|h
     ·exact o h
     ·omega
    ·rcases f with f|f
     ·rcases s _ f with h|h
      ·exact .inl ((j x).2 (.inl h))
      ·exact .inr om
     ·exact .inl ((j x).2 (.inr f))
   clear q y s;gi_wp2;exact D.out
  ·rintro m ⟨q,y⟩;have s:=q.some I o;have I:=c_ 0 s;have I:m.frozen? ⟨W.heap.size+1,0,O⟩=false:=T.ZX s;have I:=(zf.1 s).1;have I:Wr (zas W.heap.size m) m (m.setCell ⟨W.heap.size+1,0,O⟩ (G false)):=qS (U:=zas W.heap.size m) ⟨om,.inr ⟨_,_,s⟩⟩ _;have D:Hid (Qs M (HoI W l J) (HoX W Jx) k A u .ret { tmps:=#[],defers:= [] } (m.setCell ⟨W.heap.size+1,0,O⟩ (G false))):=by
    refine⟨(q.mono (fun x f=>(j x).2 (.inl f))).trans (qS ((j _).2 (.inr rfl)) _),rfl,S _ _ _ y I,?_⟩;rw[T.zev s];rfl
   clear q y I s;gi_wp2;exact D.out
 case done=>
  rintro D M A q _ ⟨N,b,d,a,p,o,j⟩ f;have m:=Z1 q.symm;have j:=c_ 0 a;have j:A.frozen? ⟨W.heap.size+1,0,O⟩=false:=T.ZX a;have j:=(zf.1 a).1;have p:=Q _ _ _ _ b (qS (w:=A) (U:=zas W.heap.size A) (g:=W.heap.size+1) (i:=0) ⟨om,.inr ⟨_,_,a⟩⟩ (G true));have j:(A.setCell ⟨W.heap.size+1,0,O⟩ (G true)).heap[W.heap.size+1]? =E (cl #[G true] 4):=by
   rw[T.zev a];rfl
  have o:(A.setCell ⟨W.heap.size+1,0,O⟩ (G true)).heap[D]? =E (.deferred (E [])):=(zK _ _ _ _ so).trans f;have s:=zi p;have q:=zi j;clear b d a p j;gi_wp2;refine qt o ?_;have a:zw z.heap.size (A.setCell ⟨W.heap.size+1,0,O⟩ (G true)) ((A.setCell ⟨W.heap.size+1,0,O⟩ (G true)).putObj D (.deferred O)):=zw.putObj _ m o rfl;have j:=a.cell (c_ 0 q.out);exact⟨G true,by simp[results,results261,go_sem,j],true,rfl,fun _=>⟨N,F _ _ _ _ s.out (a.mono om)⟩,(fun h=>by cases h)⟩
 case stop=>
  rintro D P k A m c ⟨rfl,b,d⟩ f;gi_wp2;refine qt f ?_;have a:zw z.heap.size A (A.putObj D (.deferred O)):=zw.putObj _ m f rfl;have j:=a.cell (c_ 0 d);exact⟨G false,by simp[results,results261,go_sem,j],false,rfl,(fun h=>by cases h),fun _=>⟨k,c,R _ _ _ b (a.mono om)⟩⟩
structure JB where
 m:WT
 l:WT
 h:WT
def JB.cells (c:JB):List Value:= [G c.m.b,c.m.sv,G c.l.b,c.l.sv,G c.h.b,c.h.sv]
structure RwV where
 s:ByteArray
 b:WT
 f:Nat
 ts:List WT
def RwV.fv (r:RwV):Value:=V (E ⟨r.f,0,O⟩) r.ts.length r.ts.length
def RwV.cells (r:RwV):List Value:= [gS r.s,G r.b.b,r.b.sv,r.fv]
structure zdN (w:H)(r:RwV)(x:List Int×List UInt8×Int):Prop where
 sign:r.s=⟨x.2.1.toArray⟩
 len:r.ts.length=x.1.length
 most:zY w r.b.val x.2.2
 cell:∀(j:Nat) (t:WT),r.ts[j]? =E t->w.cell? ⟨r.f,j*2,O⟩=E (G t.b)/\w.cell? ⟨r.f,j*2+1,O⟩=E t.sv
 fac:∀(j:Nat) (t:WT) (z:Int),r.ts[j]? =E t->x.1[j]? =E z->zY w t.val z
structure PM (p:qo)(cs:List JB)(rs:List RwV)(bc gR:Nat)(ao ap:Option Addr)(w:World):Prop where
 cl:cs.length=p.n
 rl:rs.length=p.rows.length
 hao:0<p.n->ao=some ⟨bc,0,none⟩
 hap:0<p.rows.length->ap=some ⟨gR,0,none⟩
 col:∀(i:Nat) (c:JB),cs[i]? =some c->∀(j:Nat) (u:Value),c.cells[j]? =some u->w.cell? ⟨bc,i*6+j,none⟩=some u
 colw:∀(i:Nat) (c:JB),cs[i]? =some c->zY w c.m.val (p.mx.getD i 0)/\zY w c.l.val (p.rg.getD i (0,0)).1/\zY w c.h.val (p.rg.getD i (0,0)).2
 row:∀(i:Nat) (r:RwV),rs[i]? =some r->∀(j:Nat) (u:Value),r.cells[j]? =some u->w.cell? ⟨gR,i*4+j,none⟩=some u
 roww:∀(i:Nat) (r:RwV) (x:List Int×List UInt8×Int),rs[i]? =some r->p.rows[i]? =some x->zdN w r x
theorem zdN.keep {B:Nat}{w w':H}{r:RwV}{x:List Int×List UInt8×Int}(h:zdN w r x)(a:zw B w w'):zdN w' r x:=
 ⟨h.sign,h.len,h.most.keep a,fun j t b=>⟨a.cell (h.cell j t b).1,a.cell (h.cell j t b).2⟩,fun j t z b c=>(h.fac j t z b c).keep a⟩
theorem PM.keep {B:Nat}{w w':H}{p:qo}{cs:List JB}{rs:List RwV}{d e:Nat}{b c:Option Addr}(h:PM p cs rs d e b c w)(a:zw B w w'):PM p cs rs d e b c w':=
 ⟨h.cl,h.rl,h.hao,h.hap,fun i c b j u d=>a.cell (h.col i c b j u d),fun i c b=>⟨(h.colw i c b).1.keep a,(h.colw i c b).2.1.keep a,(h.colw i c b).2.2.keep a⟩,fun i r b j u d=>a.cell (h.row i r b j u d),fun i r x b c=>(h.roww i r x b c).keep a⟩
theorem PM.ext {w w':H}{p:qo}{cs:List JB}{rs:List RwV}{c d:Nat}{a b:Option Addr}(h:PM p cs rs c d a b w)(e:Ext w w'):PM p cs rs c d a b w':=h.keep (B:=0) (zw.of_below e)
theorem zhl {w:H}{r:RwV}{x:List Int×List UInt8×Int}(h:zdN w r x):jA w.heap.size (fun W=>zdN W r x):=by
 intro A B b c;exact⟨b.sign,b.len,zbu h.most A B b.most c,fun j t a=>⟨JK c (p:=⟨r.f,j*2,O⟩) (zN (h.cell j t a).1) (b.cell j t a).1,JK c (p:=⟨r.f,j*2+1,O⟩) (zN (h.cell j t a).2) (b.cell j t a).2⟩,fun j t z a d=>zbu (h.fac j t z a d) A B (b.fac j t z a d) c⟩
theorem znV {w:H}{p:qo}{cs:List JB}{rs:List RwV}{f g:Nat}{a b:Option Addr}(h:PM p cs rs f g a b w):jA w.heap.size (fun W=>PM p cs rs f g a b W):=by
 intro A B a d;exact⟨a.cl,a.rl,a.hao,a.hap,fun i c b j u e=>JK d (p:=⟨f,i*6+j,O⟩) (zN (h.col i c b j u e)) (a.col i c b j u e),fun i c b=>⟨zbu (h.colw i c b).1 A B (a.colw i c b).1 d,zbu (h.colw i c b).2.1 A B (a.colw i c b).2.1 d,zbu (h.colw i c b).2.2 A B (a.colw i c b).2.2 d⟩,fun i r b j u e=>JK d (p:=⟨g,i*4+j,O⟩) (zN (h.row i r b j u e)) (a.row i r b j u e),fun i r x b c=>zhl (h.roww i r x b c) A B (a.roww i r x b c) d⟩
theorem zcg {a:Type}{P:Nat->a->Prop}:∀(n:Nat),(∀j,j<n->∃t,P j t)->∃ts:List a,ts.length=n/\∀(j:Nat) (t:a),ts[j]? =E t->P j t
 |0,_=>⟨[],rfl,fun j t h=>by simp at h⟩
 |n+1,h=>by
  obtain⟨ts,h1,c⟩:=zcg n (fun j b=>h j om);obtain⟨t,d⟩:=h n om;refine⟨ts ++ [t],by simp[h1],fun j u a=>?_⟩;by_cases b:j<ts.length
  ·rw[zM b]at a;exact c j u a
  ·have b:=(zn.1 a).1;simp at b;have e:j=ts.length:=om;subst e;rw[zJ (zh _)]at a;simp at a;subst a;rw[h1];exact d
theorem znW {L:Nat}{p:qo}{e:Nat}{d F:Value}{w:H}(c:DQ w e p d F)(a:ji L p)(f:2+p.n<=L):∃cs rs l h b g cap o,d=V b p.n cap/\F=V g p.rows.length o/\PM p cs rs l h b g w:=by
 obtain⟨_,_⟩:=a.n om;have b:=a.m om;have b:p.rg.length=p.n:=by have:=a.g;omega
 rcases c.cols with ⟨_,_⟩|⟨l,_,rfl,_,d,a⟩
 ·omega
 obtain⟨x,y,b,n⟩:=zhe d a.1;obtain⟨rs,I,W,X⟩:=c.rows;obtain⟨cs,hc1,hc2⟩:∃cs:List JB,cs.length=p.n/\∀(i:Nat) (c:JB),cs[i]? =E c->(∀(j:Nat) (u:Value),c.cells[j]? =E u->w.cell? ⟨l,i*6+j,O⟩=E u)/\zY w c.m.val (p.mx.getD i 0)/\zY w c.l.val (p.rg.getD i (0,0)).1/\zY w c.h.val (p.rg.getD i (0,0)).2:=by
  refine zcg p.n fun i e=>?_
  obtain⟨N,J,Y,S,k,m⟩:=b i 0 e om;obtain⟨Q,K,Z,T,r,s⟩:=b i 1 e om;obtain⟨R,M,l2,U,t,v⟩:=b i 2 e om;have b:=n i 0 e om;have d:=n i 1 e om;have f:=n i 2 e om;have q:=fun j n=>y i j e n
  have y:=q 0 om;have z:=q 1 om;have A:=q 2 om;have B:=q 3 om;have C:=q 4 om;have D:=q 5 om;simp only[Z7,qi,Qe,Nat.reduceMul,Nat.reduceAdd,qy]at k m r s t v b d f y z A B C D;rw[k,m]at b;rw[r,s]at d;rw[t,v]at f;rw[k]at y;rw[m]at z;rw[r]at A;rw[s]at B;rw[t]at C;rw[v]at D;rw[a.2.1 i om]at b;rw[(a.2.2 i om).1]at d;rw[(a.2.2 i om).2]at f;refine⟨⟨⟨N,(J,Y,S)⟩,⟨Q,(K,Z,T)⟩,⟨R,(M,l2,U)⟩⟩,fun j u a=>?_,b,d,f⟩;match j,a with
  |0,a=>cases a;exact y
  |1,a=>cases a;exact z
  |2,a=>cases a;exact A
  |3,a=>cases a;exact B
  |4,a=>cases a;exact C
  |5,a=>cases a;exact D
  |j+6,a=>simp[JB.cells]at a
 have C:∀(r:jX) (x:List Int×List UInt8×Int) (T:Nat->Prop),RowIs w T r x->∃b:RwV,b.cells=r.cells/\zdN w b x:=by
  rintro r x T ⟨_,k,z,A,B⟩;obtain⟨J,m,q⟩:=zcg (P:=fun j (t:WT)=>(w.cell? ⟨r.f,j*2,O⟩=E (G t.b)/\w.cell? ⟨r.f,j*2+1,O⟩=E t.sv)/\zY w t.val (x.1.getD j 0)) x.1.length (fun j n=>by
   obtain⟨y,v,D,c,d,f,s,_,_⟩:=z.2 j n;rw[Qg]at d f;exact⟨⟨y,(v,D,c)⟩,⟨d,f⟩,s⟩)
  refine⟨⟨r.s,⟨r.x,r.b⟩,r.f,J⟩,by simp[RwV.cells,jX.cells,RwV.fv,WT.sv,m,k],A,m,B,fun j t m=>(q j t m).1,fun j t z m v=>?_⟩;have:=(q j t m).2;rw[zk,v]at this;exact this
 obtain⟨t,hr1,hr2⟩:∃t:List RwV,t.length=p.rows.length/\∀(i:Nat) (b:RwV),t[i]? =E b->∃r x,rs[i]? =E r/\p.rows[i]? =E x/\b.cells=r.cells/\zdN w b x:=by
  refine zcg p.rows.length fun i e=>?_
  have m:rs[i]? =E rs[i]:=zj om;have k:=zj e;obtain⟨b,d,f⟩:=C _ _ _ (X i _ _ m k);exact⟨b,_,_,m,k,d,f⟩
 obtain⟨g,o,h,hv,hap,hyc⟩:∃(g:Option Addr) (o h:Nat),F=V g p.rows.length o/\(0<p.rows.length->g=E ⟨h,0,O⟩)/\∀(i:Nat) (r:jX),rs[i]? =E r->∀(j:Nat) (u:Value),r.cells[j]? =E u->w.cell? ⟨h,i*4+j,O⟩=E u:=by
  obtain⟨_,⟨d,f⟩|⟨v,cap,y,d,_,z,_,_,_,A⟩⟩:=W;·exact⟨O,0,0,by rw[d,<-I,f],fun q=>om,fun i r q=>by have:=(zn.1 q).1;omega⟩
  ·refine⟨_,cap,v,by rw[d,I],fun _=>rfl,fun i r q j u a=>?_⟩;have n:j<4:=by have:=(zn.1 a).1;simpa[jX.cells]using this
   have e:=(zn.1 q).1;have m:=zjE rs i j r q n;rw[<-A,QZ om]at m;have k:w.cell? ⟨v,i*4+j,O⟩=y.toList[i*4+j]?:=by simp[World.cell?,z]
   rw[k,m];exact a
 subst hv;refine⟨cs,t,l,h,E ⟨l,0,O⟩,g,p.n,o,rfl,rfl,⟨hc1,hr1,fun _=>rfl,hap,fun i c e=>(hc2 i c e).1,fun i c e=>(hc2 i c e).2,fun i b c j u a=>?_,fun i b x c e=>?_⟩⟩
 ·obtain⟨r,x,d,f,s,g⟩:=hr2 i b c;rw[s]at a;exact hyc i r d j u a
 ·obtain⟨r,_,d,f,s,g⟩:=hr2 i b c;rw[f]at e;cases e;exact g
def zle {w:H}{r:RwV}{x:List Int×List UInt8×Int}{bt:Nat}(h:zdN w r x)(hn:r.ts.length<=100000)(hb:w.cell? ⟨bt,0,O⟩=E r.fv):WSeq w 327 #[pn (E ⟨bt,0,O⟩)] x.1 where
 Y:=fun k v W=>(zd3 (fun i j=>if j=0 then G (r.ts.getD i ⟨false,(O,0,0)⟩).b else(r.ts.getD i ⟨false,(O,0,0)⟩).sv) r.ts.length)[k]? =E v/\zdN W r x
 C:=fun W=>W.cell? ⟨bt,0,O⟩=E r.fv/\zdN W r x
 seq:=by
  have hs:=(zhx (fun i j=>if j=0 then G (r.ts.getD i ⟨false,(O,0,0)⟩).b else(r.ts.getD i ⟨false,(O,0,0)⟩).sv) (E ⟨r.f,0,O⟩) r.f r.ts.length r.ts.length bt (by omega) (fun _=>rfl)).seq;rw[zcd]at hs;rw[<-h.len];intro l J Jx M0 W h1 h2 h3 h4 h5;refine hs l J Jx M0 W h1 h2 (fun k M A hA=>⟨⟨(h3 k M A hA).1.1,fun i j hi hj=>?_⟩,(h3 k M A hA).2⟩) (fun k v M W1 hk hv hj=>h4 k v M W1 hk ⟨hv,(h3 k M W1 hj).1.2⟩ hj) h5;have hi':i<r.ts.length:=hi;have hg:=(h3 k M A hA).1.2.cell i _ (zj hi');have hgd:r.ts.getD i ⟨false,(O,0,0)⟩=r.ts[i]:=by rw[zk,zj hi'];rfl
  rw[hgd];match j,hj with
  |0,_=>exact hg.1
  |1,_=>exact hg.2
 ent:=ZJ Tryz.func327 (by kernel_rfl) rfl
 val:=by
  rintro k v W z hz ⟨hv,hr⟩;have hk:k<r.ts.length:=by have:=(zn.1 hv).1;rwa [zcd]at this
  rw[zeD hk]at hv;have hgd:r.ts.getD k ⟨false,(O,0,0)⟩=r.ts[k]:=by rw[zk,zj hk];rfl
  rw[hgd]at hv;cases hv;exact⟨r.ts[k],rfl,hr.fac k _ z (zj hk) hz⟩
 one:=by
  rintro k v W ⟨hv,hr⟩;have hk:k<r.ts.length:=by have:=(zn.1 hv).1;rwa [zcd]at this
  rw[zeD hk]at hv;cases hv;rfl
 now:=⟨hb,h⟩
 old:=zcA (zbg (zN hb)) (zhl h)
end Go.Proofs.YtnhfdcfnojnofaaGreatDoor
