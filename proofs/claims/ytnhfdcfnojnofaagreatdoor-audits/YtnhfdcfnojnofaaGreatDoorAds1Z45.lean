import Derived.Test.YtnhfdcfnojnofaaGreatDoorAds1Z44
open Option renaming none->O,some->E
open Go.Value renaming slice->V,bool->G,string->gS,pointer->pn,int->it,agg->ag
open Go.Obj renaming cells->cl
open Go renaming World->H
open Go.Proofs.Tryz renaming prog->pg
open Go.Proofs.Tryz
set_option linter.unusedSimpArgs false
set_option linter.unusedVariables false
set_option maxHeartbeats 4000000
set_option maxRecDepth 100000
namespace Go.Proofs.YtnhfdcfnojnofaaGreatDoor
open Go.RowKit
attribute [local go_sem] qm qW ZR
def zez (rows:List (List Int×Int))(k:Nat)(v:Array Value)(W:H):Prop:=∃r:RW,v=#[r.val]/\∃y,rows[k]? =E y/\QC W r y
structure RwBox (b:Nat)(r:RwV)(x:List Int×List UInt8×Int)(W:H):Prop where
 c0:W.cell? ⟨b,0,O⟩=E (gS r.s)
 c1:W.cell? ⟨b,1,O⟩=E (G r.b.b)
 c2:W.cell? ⟨b,2,O⟩=E r.b.sv
 c3:W.cell? ⟨b,3,O⟩=E r.fv
 is:zdN W r x
theorem zd1 {w:H}{g:Nat}{d e f a b c:Value}{t:TypeId}(h:w.heap[g]? =E (cl #[d,e,f] t)):(((w.setCell ⟨g,0,O⟩ a).setCell ⟨g,1,O⟩ b).setCell ⟨g,2,O⟩ c).heap[g]? =E (cl #[a,b,c] t):=by
 have d:=T.zev (i:=0) (v:=a) h;have e:=T.zev (i:=1) (v:=b) d;have d:=T.zev (i:=2) (v:=c) e;exact d
theorem Wr.below' {g:Nat}{W w w':H}(h:Wr (fun q=>q=g) w w')(b:W.heap.size<=g)(a:Ext W w):Below W.heap.size w w':=h.below a.size (fun k a=>om)
theorem zkb (b:Nat)(r:RwV)(x:List Int×List UInt8×Int)(ah:jQ x.2.1=true)(hn:x.1.length<=100000):
 SeqQ pg 339 #[pn (E ⟨b,0,O⟩)] (T.jK x).length (zez (T.jK x)) (RwBox b r x):=by
 intro aF aB Jx Q W hJ aD aC aE hC hY h0;obtain⟨k0,k1,k2,k3,a7⟩:=(hC 0 Q W h0).1;have HC:=zi hC;have HY:=zi hY;have hb:b<W.heap.size:=zN k0;obtain⟨v,⟨F,⟨D,J,I⟩⟩,u,n⟩:=r;have ax:n.length<=100000:=by rw[a7.len];exact hn
 have a8:=zi (a7.sign:v=⟨x.2.1.toArray⟩);have hm:Tryz.prog.follows .mixedOrders=true:=kr;have a2:Hid (∀L bt,Ext W L->L.cell? ⟨bt,0,O⟩=E (RwV.fv ⟨v,⟨F,(D,J,I)⟩,u,n⟩)->Calls pg 250 #[.func (.func 327) #[] #[pn (E ⟨bt,0,O⟩)],ag #[G F,V D J I]] L fun C w'=>∃r:RW,C= .returned r.val/\QC w' r (x.1,x.2.2)/\Below L.heap.size L w'):=by
  intro L bt Z hc;have ao:=a7.keep (B:=0) (zw.of_below Z);refine(zew L _ _ x.1 (zle ao ax hc) hn ⟨F,(D,J,I)⟩ x.2.2 ao.most).mono ?_;rintro C w' ⟨r,h1,h2,_,h4⟩;exact⟨r,h1,h2,h4⟩
 simp only[RwV.fv,WT.sv]at k1 k2 k3 a2;have a1:=zi (fun X (Z:Ext W X)=>And.intro (Z.cell k0) (And.intro (Z.cell k1) (And.intro (Z.cell k2) (Z.cell k3))));have ar:Hid (x.2.1= [60,61]\/x.2.1= [62,61]\/x.2.1= [61]):=by
  unfold jQ at ah;rw[Hid];simpa using ah
 clear hY hC a7 ah;refine zcE func339 ntmps339 (h:=?_);gi_wp2;refine wpIn_wide.2 ?_;go_region_held3 (fun X=>X.cell? ⟨b,0,O⟩=E (gS v)/\X.cell? ⟨b,1,O⟩=E (G F)/\X.cell? ⟨b,2,O⟩=E (V D J I)/\X.cell? ⟨b,3,O⟩=E (V (E ⟨u,0,O⟩) n.length n.length)) (first|(exact a1.out _ ea)|(exact a1.out _ (A.alloc _))|(exact a1.out _ (o.alloc _))|(have hK:=a1.out d A;exact⟨js om hK.1,js om hK.2.1,js om hK.2.2.1,js om hK.2.2.2⟩)|go_keep) (first|(go_at_call 250;have _g:=a5;refine((a2.out e _ o q1)).mono ?_;rintro C d ⟨⟨⟨g,j,i⟩,⟨h,⟨k,m,l⟩⟩⟩,rfl,M,y⟩;simp only[RW.val,RW.fv,WT.sv];have A:Ext W d:=o.trans (Ext.of y);have f:=((Ext.of y).block _ (zf.1 a5).1).trans a5;have g0:=c_ 0 f;have g1:=c_ 1 f;have g2:=c_ 2 f;have f0:d.frozen? ⟨W.heap.size,0,O⟩=false:=T.ZX f;have f1:d.frozen? ⟨W.heap.size,1,O⟩=false:=T.ZX f;have f2:d.frozen? ⟨W.heap.size,2,O⟩=false:=T.ZX f;have l2:W.heap.size<d.heap.size:=(zf.1 f).1)|(go_at_call 250;have _g:=ap;refine((a2.out (e.alloc (cl #[V O 0 0,G false,V O 0 0] 174)) _ (o.alloc _) (Jb q1))).mono ?_;rintro C d ⟨⟨⟨g,j,i⟩,⟨h,⟨k,m,l⟩⟩⟩,rfl,M,y⟩;simp only[RW.val,RW.fv,WT.sv];have A:Ext W d:=(o.alloc _).trans (Ext.of y);have ab:=zq e (cl #[V O 0 0,G false,V O 0 0] 174);have f:=((Ext.of y).block _ (zf.1 ab).1).trans ab;have g0:=c_ 0 f;have g1:=c_ 1 f;have g2:=c_ 2 f;have f0:d.frozen? ⟨e.heap.size,0,O⟩=false:=T.ZX f;have f1:d.frozen? ⟨e.heap.size,1,O⟩=false:=T.ZX f;have f2:d.frozen? ⟨e.heap.size,2,O⟩=false:=T.ZX f;have l2:e.heap.size<d.heap.size:=(zf.1 f).1)|(go_at_call 250;have _g:=ap;refine((a2.out e _ o q1)).mono ?_;rintro C d ⟨⟨⟨g,j,i⟩,⟨h,⟨k,m,l⟩⟩⟩,rfl,M,y⟩;simp only[RW.val,RW.fv,WT.sv];have A:Ext W d:=o.trans (Ext.of y);have aA:=trivial)|(go_at_call 158;refine((zg5 v F D J I (E ⟨u,0,O⟩) n.length n.length _)).mono ?_;rintro C e ⟨rfl,N⟩;have a5:e.heap[W.heap.size]? =E (cl #[V O 0 0,G false,V O 0 0] 174):=(by rw[N];exact(zI _ _ _ so).trans ((zI _ _ _ sp).trans (zq W _)));have o:Ext W e:=(by rw[N];exact((((Ext.refl W).alloc _).drew).alloc _).alloc _);have q1:e.cell? ⟨W.heap.size+1+1,0,O⟩=E (V (E ⟨u,0,O⟩) n.length n.length):=(by rw[N];first|exact c_ 0 (T.zbs _ _ _).2|simpa using c_ 0 (T.zbs (W.alloc (cl #[V O 0 0,G false,V O 0 0] 174)).drew (cl #[gS v,G F,V D J I,V (E ⟨u,0,O⟩) n.length n.length] 160) (cl #[V (E ⟨u,0,O⟩) n.length n.length] 158)).2);have av:=zv hb o.size;have z1:=o.cell k1;have z2:=o.cell k2;clear N)|(go_at_call 158;refine((zg5 v F D J I (E ⟨u,0,O⟩) n.length n.length _)).mono ?_;rintro C e ⟨rfl,N⟩;have ap:=trivial;have o:Ext W e:=(by rw[N];exact((Ext.refl W).drew.alloc _).alloc _);have q1:e.cell? ⟨W.heap.size+1,0,O⟩=E (V (E ⟨u,0,O⟩) n.length n.length):=(by rw[N];first|exact c_ 0 (T.zbs _ _ _).2|simpa using c_ 0 (T.zbs (W.alloc (cl #[V O 0 0,G false,V O 0 0] 174)).drew (cl #[gS v,G F,V D J I,V (E ⟨u,0,O⟩) n.length n.length] 160) (cl #[V (E ⟨u,0,O⟩) n.length n.length] 158)).2);have av:=zv hb o.size;have z1:=o.cell k1;have z2:=o.cell k2;clear N))
 all_goals first|(have _m:=a5;have a6:W.heap.size<=W.heap.size:=(by first|exact zh _|exact o.size);have U:Wr (fun a4=>a4=W.heap.size) d (((d.setCell ⟨W.heap.size,0,O⟩ (V g j i)).setCell ⟨W.heap.size,1,O⟩ (G h)).setCell ⟨W.heap.size,2,O⟩ (V k m l)):=zd5 rfl _ _ _;have x9:Ext W (((d.setCell ⟨W.heap.size,0,O⟩ (V g j i)).setCell ⟨W.heap.size,1,O⟩ (G h)).setCell ⟨W.heap.size,2,O⟩ (V k m l)):=ZA A (U.below' a6 A);have z:=QC.wr M U (fun a4 hq=>by subst hq;exact⟨fun ht=>absurd (ht.one ⟨_,_,f⟩) dc,qj f n3⟩);have S:=zd1 (a:=V g j i) (b:=G h) (c:=V k m l) f;clear U f g0 g1 g2 f0 f1 f2 l2 M y;generalize (((d.setCell ⟨W.heap.size,0,O⟩ (V g j i)).setCell ⟨W.heap.size,1,O⟩ (G h)).setCell ⟨W.heap.size,2,O⟩ (V k m l))=Y at *;generalize al:W.heap.size=g9 at *)|(have _m:=ab;have a6:=(by first|exact zh _|exact o.size);have U:Wr (fun a4=>a4=e.heap.size) d (((d.setCell ⟨e.heap.size,0,O⟩ (V g j i)).setCell ⟨e.heap.size,1,O⟩ (G h)).setCell ⟨e.heap.size,2,O⟩ (V k m l)):=zd5 rfl _ _ _;have x9:Ext W (((d.setCell ⟨e.heap.size,0,O⟩ (V g j i)).setCell ⟨e.heap.size,1,O⟩ (G h)).setCell ⟨e.heap.size,2,O⟩ (V k m l)):=ZA A (U.below' a6 A);have z:=QC.wr M U (fun a4 hq=>by subst hq;exact⟨fun ht=>absurd (ht.one ⟨_,_,f⟩) dc,qj f n3⟩);have S:=zd1 (a:=V g j i) (b:=G h) (c:=V k m l) f;clear U f g0 g1 g2 f0 f1 f2 l2 M y;generalize (((d.setCell ⟨e.heap.size,0,O⟩ (V g j i)).setCell ⟨e.heap.size,1,O⟩ (G h)).setCell ⟨e.heap.size,2,O⟩ (V k m l))=Y at *;generalize al:e.heap.size=g9 at *)|(have _m:=aA;have a6:=A.size;have x9:Ext W (d.alloc (cl #[V g j i,G h,V k m l] 174)):=A.alloc _;have z:=M.ext ((Ext.refl d).alloc (cl #[V g j i,G h,V k m l] 174));have S:=zq d (cl #[V g j i,G h,V k m l] 174);clear M y;generalize d.alloc (cl #[V g j i,G h,V k m l] 174)=Y at *;generalize al:d.heap.size=g9 at *)
 all_goals
  have aw:¬Q g9:=fun au=>by have:=((HC.out 0 Q W h0).2 _ au).1;omega
  have a0:=hJ _ _ _ _ h0 (zw.of_below x9);have aj:=zi (fun az hk=>((HC.out 0 Q Y a0).2 az hk).2);have d0:=c_ 0 S;have d1:=c_ 1 S;have d2:=c_ 2 S;have aa:=zi (fun(WX:H) (hr:QC WX ⟨(g,j,i),⟨h,(k,m,l)⟩⟩ (x.1,x.2.2))=>zfp WX _ _ hr hn);simp only[RW.val,RW.fv,WT.sv]at aa;have aq:=zi (fun(WX:H) (hx:WX.heap[g9]? =E (Obj.cells #[V g j i,G h,V k m l] 174))=>And.intro (c_ 0 hx) (And.intro (c_ 1 hx) (c_ 2 hx)));have c0:=x9.cell k0;clear k0 k1 k2 k3 a1 a2;rcases ar.out with t|t|t
  ·have s:T.jK x= [(x.1,x.2.2)]:=by unfold T.jK;rw[t];rfl
   have p:=zi s;have a3:v=⟨#[60,61]⟩:=by rw[a8.out,t]
   subst a3;have K:=zi (HY.out 0 _ Q Y (by rw[s];simp) ⟨_,rfl,_,by rw[s];rfl,z⟩ a0);simp only[RW.val,RW.fv,WT.sv]at K;clear s t z a0 S;gi_wp2;refine jt K.out ?_ ?_
   ·rintro w ⟨P,R,q,-⟩;have c5:=(HC.out _ R w q).1.c0;clear c0;gi_wp2;go_end0
    rw[p.out];exact⟨⟨_,rfl⟩,.inl ⟨R,q⟩⟩
   ·rintro w ⟨P,q⟩;gi_wp2;refine zH (qY rfl _ _ _) rfl ?_;rw[p.out];exact⟨⟨_,rfl⟩,.inr ⟨0,sp,q⟩⟩
  ·have s:T.jK x= [(x.1.map fun ai=>-ai,-x.2.2)]:=by unfold T.jK;rw[t];rfl
   have p:=zi s;have a3:v=⟨#[62,61]⟩:=by rw[a8.out,t]
   subst a3;have a9:=zi (aa.out Y z);clear s t z;gi_wp2;refine(zS.2 a9.out).mono ?_;rintro C W4 ⟨⟨⟨ia,il,ic⟩,⟨ub,⟨ua,ul,uc⟩⟩⟩,rfl,af,-,ad⟩;have K:=zi (HY.out 0 _ Q W4 (by rw[p.out];simp) ⟨_,rfl,_,by rw[p.out];rfl,af⟩ (hJ _ _ _ _ a0 (zw.of_below ad)));simp only[RW.val,RW.fv,WT.sv]at K⊢;gi_wp2;refine jt K.out ?_ ?_
   ·rintro w ⟨P,R,q,-⟩;gi_wp2;go_end0
    rw[p.out];exact⟨⟨_,rfl⟩,.inl ⟨R,q⟩⟩
   ·rintro w ⟨P,q⟩;gi_wp2;go_end0
    rw[p.out];exact⟨⟨_,rfl⟩,.inr ⟨0,sp,q⟩⟩
  ·have s:T.jK x= [(x.1,x.2.2),(x.1.map fun ai=>-ai,-x.2.2)]:=by unfold T.jK;rw[t];rfl
   have p:=zi s;have a3:v=⟨#[61]⟩:=by rw[a8.out,t]
   subst a3;have K:=zi (HY.out 0 _ Q Y (by rw[s];simp) ⟨_,rfl,_,by rw[s];rfl,z⟩ a0);simp only[RW.val,RW.fv,WT.sv]at K;clear s t a0;gi_wp2;refine jt K.out ?_ ?_
   ·rintro w ⟨P,R,q,_⟩;have c5:=(HC.out _ R w q).1.c0;have an:QC w ⟨(g,j,i),⟨h,(k,m,l)⟩⟩ (x.1,x.2.2):=⟨z.1.wrN P aj.out,z.2.wrN P aj.out⟩;have e5:=P.some S aw;obtain⟨_,_,_⟩:=aq.out w e5;have a9:=zi (aa.out w an);clear c0 z an d0 d1 d2;gi_wp2;refine(zS.2 a9.out).mono ?_;rintro C W6 ⟨⟨⟨ia,il,ic⟩,⟨ub,⟨ua,ul,uc⟩⟩⟩,rfl,af,-,ad⟩;have ak:=zi (HY.out 1 _ R W6 (by rw[p.out];simp) ⟨_,rfl,_,by rw[p.out];rfl,af⟩ (hJ _ _ _ _ q (zw.of_below ad)));simp only[RW.val,RW.fv,WT.sv]at ak⊢;gi_wp2;refine jt ak.out ?_ ?_
    ·rintro W7 ⟨ay,M7,ae,-⟩;gi_wp2;go_end0
     rw[p.out];exact⟨⟨_,rfl⟩,.inl ⟨M7,ae⟩⟩
    ·rintro W7 ⟨ay,ae⟩;gi_wp2;go_end0
     rw[p.out];exact⟨⟨_,rfl⟩,.inr ⟨1,sp,ae⟩⟩
   ·rintro w ⟨P,q⟩;gi_wp2;refine zH (qY rfl _ _ _) rfl ?_;rw[p.out];exact⟨⟨_,rfl⟩,.inr ⟨0,sp,q⟩⟩
structure Fr (S g:Nat)(W0:H)(M:Nat->Prop)(A:H):Prop where
 size:W0.heap.size<=A.heap.size
 same:∀b,S<=b->b<W0.heap.size->b≠g->A.heap[b]? =W0.heap[b]?
 far:∀x,M x->x<S\/W0.heap.size<=x
theorem Fr.keep {S g B:Nat}{W0 A A':H}{M:Nat->Prop}(h:Fr S g W0 M A)(c:zw B A A')(a:W0.heap.size<=B):Fr S g W0 M A':=by
 refine⟨zL h.size c.size,fun b e a f=>?_,h.far⟩;have d:=zv a h.size;rw[<-h.same b e a f,ZM d];exact c.block b _ (ZM d) (.inl om)
theorem Fr.wr {S g:Nat}{W0 A A':H}{M a:Nat->Prop}(h:Fr S g W0 M A)(d:Wr M A A')(f:∀x,a x->M x\/A.heap.size<=x):Fr S g W0 a A':=by
 refine⟨zL h.size d.size,fun b a c e=>?_,fun x j=>?_⟩
 ·have i:=zv c h.size;rw[<-h.same b a c e];exact d.block b i (fun e=>by rcases h.far b e with h|h<;>omega)
 ·rcases f x j with a|a
  ·exact h.far x a
  ·exact .inr (zL h.size a)
theorem Fr.priv {S g B:Nat}{W0 A A':H}{M:Nat->Prop}(h:Fr S g W0 M A)(c:Wr (zas B A) A A')(a:W0.heap.size<=B):Fr S g W0 M A':=by
 refine⟨zL h.size c.size,fun b d a e=>?_,h.far⟩;rw[<-h.same b d a e];exact c.block b (zv a h.size) (fun e=>by have:=e.1;omega)
theorem Fr.refl (S g:Nat)(W0:H){M:Nat->Prop}(h:∀x,M x->x<S):Fr S g W0 M W0:=⟨zh _,fun _ _ _ _=>rfl,fun x a=> .inl (h x a)⟩
theorem Fr.get {S g:Nat}{W0 A:H}{M:Nat->Prop}(h:Fr S g W0 M A){b:Nat}{o:Obj}(a:W0.heap[b]? =E o)(h1:S<=b)(c:b≠g):A.heap[b]? =E o:=(h.same b h1 (zf.1 a).1 c).trans a
def zbw (p:qo)(k:Nat):Nat:=((p.rows.take k).flatMap T.jK).length
theorem zmA {p:qo}{k:Nat}{x:List Int×List UInt8×Int}(h:p.rows[k]? =E x):zbw p (k+1)=zbw p k+(T.jK x).length:=by
 have a:=(zn.1 h).1;unfold zbw;rw[(zau a).symm,zax,zX];have:p.rows[k]=x:=(zn.1 h).2;simp[this]
theorem zjF {p:qo}{k j:Nat}{x:List Int×List UInt8×Int}{y:List Int×Int}(h:p.rows[k]? =E x)(a:(T.jK x)[j]? =E y):(T.zaV p)[zbw p k+j]? =E y:=by
 have b:=(zn.1 h).1;have c:p.rows[k]=x:=(zn.1 h).2;have b:p.rows=p.rows.take k++(x::p.rows.drop (k+1)):=by
  rw[<-c,List.getElem_cons_drop,Qf]
 have c:T.zaV p=(p.rows.take k).flatMap T.jK++(T.jK x++((p.rows.drop (k+1)).flatMap T.jK++(List.range p.n).flatMap fun i=>T.zaM p.n i (p.rg.getD i (0,0)))):=by
  unfold T.zaV;conv=>lhs;rw[b]
  simp[zax]
 rw[c,zJ (by unfold zbw;omega),show zbw p k+j-((p.rows.take k).flatMap T.jK).length=j by unfold zbw;omega,zM (zn.1 a).1];exact a
theorem zjG {p:qo}{k j:Nat}{x:List Int×List UInt8×Int}(h:p.rows[k]? =E x)(a:j<(T.jK x).length):zbw p k+j<(T.zaV p).length:=(zn.1 (zjF h (zj a))).1
def LdI (p:qo)(W W0:H)(J:Nat->(Nat->Prop)->H->Prop)(k:Nat)(M:Nat->Prop)(A:H):Prop:=J (zbw p k) M A/\Fr W.heap.size W0.heap.size W0 M A
def LdX (p:qo)(Jx:Nat->H->Prop)(c:Code)(_k:Nat)(A:H):Prop:=c= .ret/\∃j,j<(T.zaV p).length/\Jx j A
def LdJ (J:Nat->(Nat->Prop)->H->Prop)(W W0 A A2 W3:H)(g:Nat)(M0:Nat->Prop)(o:Nat)(k:Nat)(M:Nat->Prop)(X:H):Prop:=J (o+k) M X/\Fr W.heap.size g W0 M X/\Fr A.heap.size W3.heap.size W3 M X/\Wr M0 A2 X/\∀x,M x->M0 x\/A.heap.size<=x
def LdJx (Jx:Nat->H->Prop)(W W0 A A2 W3:H)(g:Nat)(M0:Nat->Prop)(o:Nat)(k:Nat)(X:H):Prop:=Jx (o+k) X/\Wr M0 A2 X/\Fr W.heap.size g W0 (fun _=>False) X/\Fr A.heap.size W3.heap.size W3 (fun _=>False) X
theorem zcB {M0 M:Nat->Prop}{A X Y:H}(h:Wr M0 A X)(a:Wr M X Y)(d:∀x,x<A.heap.size->M x->M0 x):Wr M0 A Y:=
 ⟨a.os.trans h.os,a.tape.trans h.tape,a.output.trans h.output,zL h.size a.size,fun k b c=>(a.block k (zv b h.size) (fun e=>c (d k b e))).trans (h.block k b c)⟩
theorem zik (p:qo){l:Nat}{J:Nat->(Nat->Prop)->H->Prop}{Jx:Nat->H->Prop}{C0:H->Prop}{W W0 A A2 W3:H}{g0:Nat}{M0:Nat->Prop}{o:Nat}
 (m:∀k M A B,J k M A->zw W.heap.size A B->J k M B) (z:∀k A B,Jx k A->zw W.heap.size A B->Jx k B)
 (y:∀k M A B,J k M A->Wr (zas W.heap.size A) A B->J k M B) (I:∀k A B,Jx k A->Wr (zas W.heap.size A) A B->Jx k B)
 (D:∀k M A,J k M A->C0 A/\∀x,M x->x<A.heap.size/\zbi A x)
 (K:∀k v M h,k<(T.zaV p).length->zez (T.zaV p) k v h->J k M h->YieldAt Fence.wide 0 pg l v h fun e W'=>
  (e= .returned (G true)/\Wr M h W'/\∃s,J (k+1) s W'/\∀x,s x->M x\/h.heap.size<=x)\/(e= .returned (G false)/\Wr M h W'/\Jx k W'))
 (N:W.heap.size<=W0.heap.size) (q:W0.heap.size<=A.heap.size) (u:A.heap.size<=A2.heap.size) (j:A2.heap.size<=W3.heap.size)
 {g:Nat} {a:Array Value} {n:Nat} {Y:Nat->Array Value->H->Prop} {C:H->Prop} (f:SeqQ pg g a n Y C) (b:∀args w,(callFunc g args).run pg w= .ok (.enter g args) w)
 (i:∀k v W,Y k v W->∃r:RW,v=#[r.val]) (d:∀k v A B,Y k v A->zw 0 A B->Y k v B)
 (F:∀k M X,LdJ J W W0 A A2 W3 g0 M0 o k M X->C X) (L:∀k v X,k<n->Y k v X->zez (T.zaV p) (o+k) v X/\o+k<(T.zaV p).length)
 (c:LdJ J W W0 A A2 W3 g0 M0 o 0 M0 W3):
 Calls pg 261 #[.func (.func g) #[] a,.func (.yield l) #[] #[]] W3 fun e W'=>∃t,e= .returned (G t)/\(t=true->∃M,LdJ J W W0 A A2 W3 g0 M0 o n M W')/\(t=false->∃k,k<n/\LdJx Jx W W0 A A2 W3 g0 M0 o k W'):=by
 refine zld g a n Y C f b i d l (LdJ J W W0 A A2 W3 g0 M0 o) (LdJx Jx W W0 A A2 W3 g0 M0 o) M0 W3 ?_ ?_ ?_ ?_ ?_ ?_ c
 ·rintro k M X u ⟨i,d,b,f,q⟩ c;exact⟨m _ _ _ _ i (c.mono om),d.keep c om,b.keep c (zh _),f.keep (c.mono j),q⟩
 ·rintro k X u ⟨i,d,b,f⟩ c;exact⟨z _ _ _ i (c.mono om),d.keep (c.mono j),b.keep c om,f.keep c (zh _)⟩
 ·rintro k M X u ⟨i,d,b,f,q⟩ a;exact⟨y _ _ _ _ i (a.mono (fun z m=>⟨by have:=m.1;omega,m.2⟩)),d.priv a om,b.priv a (zh _),zcB f a (fun x j y=>by have:=y.1;omega),q⟩
 ·rintro k X u ⟨i,d,b,f⟩ a;exact⟨I _ _ _ i (a.mono (fun z m=>⟨by have:=m.1;omega,m.2⟩)),zcB d a (fun x j y=>by have:=y.1;omega),b.priv a om,f.priv a (zh _)⟩
 ·intro k M X m;exact⟨F k M X m,(D _ _ _ m.1).2⟩
 ·rintro k v M h c u ⟨i,d,b,f,q⟩;obtain⟨N,P⟩:=L k v h c u;have u:∀x,x<A2.heap.size->M x->M0 x:=fun x j c=>by
   rcases b.far x c with m|m
   ·rcases q x c with c|c
    ·exact c
    ·omega
   ·omega
  obtain⟨z,I,c,y,D,F⟩:=K (o+k) v M h P N i;refine⟨z,I,c,y,D,F.mono ?_⟩;rintro e W' (⟨rfl,a,s,h,c⟩|⟨rfl,a,h⟩)
  ·refine .inl ⟨rfl,a,s,⟨h,d.wr a c,b.wr a c,zcB f a u,fun x j=>?_⟩,c⟩;rcases c x j with m|m
   ·exact q x m
   ·exact .inr (by have:=b.size;omega)
  ·exact .inr ⟨rfl,a,h,zcB f a u,d.wr a (fun x j=>j.elim),b.wr a (fun x j=>j.elim)⟩
structure LdC (p:qo)(cs:List JB)(rs:List RwV)(bc gR:Nat)(ao ap:Option Addr)(cap kp bP:Nat)(W:H):Prop where
 c0:W.cell? ⟨bP,0,O⟩=E (V ao p.n cap)
 c1:W.cell? ⟨bP,1,O⟩=E (V ap p.rows.length kp)
 pm:PM p cs rs bc gR ao ap W
def rowY (rs:List RwV)(i j:Nat):Value:=((rs.getD i ⟨⟨#[]⟩,⟨false,(O,0,0)⟩,0,[]⟩).cells).getD j (G false)
def colY (cs:List JB)(i j:Nat):Value:=((cs.getD i ⟨⟨false,(O,0,0)⟩,⟨false,(O,0,0)⟩,⟨false,(O,0,0)⟩⟩).cells).getD j (G false)
theorem zor {rs:List RwV}{i:Nat}{r:RwV}(h:rs[i]? =E r):rowY rs i 0=gS r.s/\rowY rs i 1=G r.b.b/\rowY rs i 2=r.b.sv/\rowY rs i 3=r.fv:=by
 have e:rs.getD i ⟨⟨#[]⟩,⟨false,(O,0,0)⟩,0,[]⟩=r:=by rw[zk,h];rfl
 unfold rowY;rw[e];exact⟨rfl,rfl,rfl,rfl⟩
theorem zkx {cs:List JB}{i:Nat}{c:JB}(h:cs[i]? =E c):colY cs i 0=G c.m.b/\colY cs i 1=c.m.sv/\colY cs i 2=G c.l.b/\colY cs i 3=c.l.sv/\colY cs i 4=G c.h.b/\colY cs i 5=c.h.sv:=by
 have e:cs.getD i ⟨⟨false,(O,0,0)⟩,⟨false,(O,0,0)⟩,⟨false,(O,0,0)⟩⟩=c:=by rw[zk,h];rfl
 unfold colY;rw[e];exact⟨rfl,rfl,rfl,rfl,rfl,rfl⟩
theorem PM.rowCells {p:qo}{cs:List JB}{rs:List RwV}{d a:Nat}{b c:Option Addr}{w:H}(h:PM p cs rs d a b c w):∀i j,i<p.rows.length->j<4->w.cell? ⟨a,i*4+j,O⟩=E (rowY rs i j):=by
 intro i j a b;have c:rs[i]? =E (rs.getD i ⟨⟨#[]⟩,⟨false,(O,0,0)⟩,0,[]⟩):=zei _ (by rw[h.rl];exact a);refine h.row i _ c j _ ?_;exact zei _ (by simpa[RwV.cells]using b)
theorem PM.colCells {p:qo}{cs:List JB}{rs:List RwV}{a d:Nat}{b c:Option Addr}{w:H}(h:PM p cs rs a d b c w):∀i j,i<p.n->j<6->w.cell? ⟨a,i*6+j,O⟩=E (colY cs i j):=by
 intro i j a b;have c:cs[i]? =E (cs.getD i ⟨⟨false,(O,0,0)⟩,⟨false,(O,0,0)⟩,⟨false,(O,0,0)⟩⟩):=zei _ (by rw[h.cl];exact a);refine h.col i _ c j _ ?_;exact zei _ (by simpa[JB.cells]using b)
theorem zez.keep {rows:List (List Int×Int)}:∀(k:Nat) (v:Array Value) (A B:H),zez rows k v A->zw 0 A B->zez rows k v B:=by
 rintro k v A B ⟨r,a,y,b,c⟩ d;exact⟨r,a,y,b,c.keep d⟩
theorem zgP {b c:Type}(f:b->List c)(h:∀x,(f x).length=2):∀l:List b,(l.flatMap f).length=2*l.length
 |[]=>rfl
 |a::l=>by rw[J8,zX,h,zgP f h l,Zo];omega
theorem zkc {b e:Type}{f:b->List e}(h:∀x,(f x).length=2){l:List b}{j k:Nat}{a:b}(c:l[j]? =E a){y:e}(d:(f a)[k]? =E y):(l.flatMap f)[2*j+k]? =E y:=by
 have b:=(zn.1 c).1;have e:l[j]=a:=(zn.1 c).2;have b:l=l.take j++(a::l.drop (j+1)):=by rw[<-e,List.getElem_cons_drop,Qf]
 have c:((l.take j).flatMap f).length=2*j:=by rw[zgP f h,zU];omega
 conv=>lhs;rw[b]
 rw[zax,J8,zJ om,c,show 2*j+k-2*j=k by omega,zM (zn.1 d).1];exact d
theorem zgQ (p:qo):zbw p p.rows.length=(p.rows.flatMap T.jK).length:=by unfold zbw;rw[Zw]
theorem znX {p:qo}{j k:Nat}(a:j<p.n){y:List Int×Int}(b:(T.zaM p.n j (p.rg.getD j (0,0)))[k]? =E y):(T.zaV p)[zbw p p.rows.length+2*j+k]? =E y:=by
 unfold T.zaV;rw[zgQ,zJ om,show(p.rows.flatMap T.jK).length+2*j+k-(p.rows.flatMap T.jK).length=2*j+k by omega];exact zkc (f:=fun i=>T.zaM p.n i (p.rg.getD i (0,0))) (fun i=>rfl) (zaw a) b
theorem zeA (p:qo):(T.zaV p).length=zbw p p.rows.length+2*p.n:=by
 unfold T.zaV;rw[zgQ,zX,zgP (fun i=>T.zaM p.n i (p.rg.getD i (0,0))) (fun i=>rfl),List.length_range]
def unitSeq {w:H}{ao ap:Option Addr}{n cap m kp j bp bj:Nat}(hn:n<=100000)(h0:w.cell? ⟨bp,0,O⟩=E (V ao n cap))(h1:w.cell? ⟨bp,1,O⟩=E (V ap m kp))(h2:w.cell? ⟨bj,0,O⟩=E (it .i64 (j:Nat))):WSeq w 342 #[pn (E ⟨bp,0,O⟩),pn (E ⟨bj,0,O⟩)] (T.zai n j) where
 Y:=UnitY j
 C:=fun W=>W.cell? ⟨bp,0,O⟩=E (V ao n cap)/\W.cell? ⟨bp,1,O⟩=E (V ap m kp)/\W.cell? ⟨bj,0,O⟩=E (it .i64 (j:Nat))
 seq:=by
  rw[show(T.zai n j).length=n by simp[T.zai]];exact zmz ao ap n cap m kp j bp bj hn
 ent:=ZJ Tryz.func342 (by kernel_rfl) rfl
 val:=by
  rintro k v W x hx ⟨t,rfl,ht⟩;unfold T.zai at hx;rw[zQ]at hx;have hk:k<n:=by
   refine Decidable.byContradiction fun hk=>?_
   rw[jY (by simpa using hk)]at hx;cases hx
  rw[zaw hk]at hx;simp only[Zz,z7]at hx;rw[hx]at ht;exact⟨t,rfl,ht⟩
 one:=by
  rintro k v W ⟨t,rfl,ht⟩;rfl
 now:=⟨h0,h1,h2⟩
 old:=zcA (zbg (zN h0)) (zcA (zbg (zN h1)) (zbg (zN h2)))
def LeI (p:qo)(W w1 w2:H)(J:Nat->(Nat->Prop)->H->Prop)(gA D:Nat)(ao:Option Addr)(cap:Nat)(k:Nat)(M:Nat->Prop)(X:H):Prop:=
 ∃N,J (zbw p p.rows.length+2*k) N X/\Fr W.heap.size w1.heap.size w1 N X/\X.heap[gA]? =E (cl #[it .i64 (k:Nat)] 3)/\X.heap[gA+1+1]? =E (cl #[V ao p.n cap] 106)/\X.heap[D]? =E (.deferred (E []))/\¬N gA/\¬N (gA+1+1)/\¬N D/\w2.heap.size<=X.heap.size/\∀x,M x↔N x\/x=gA
def LeX (p:qo)(Jx:Nat->H->Prop)(D:Nat)(c:Code)(_k:Nat)(X:H):Prop:=c= .ret/\(∃j,j<(T.zaV p).length/\Jx j X)/\X.heap[D]? =E (.deferred (E []))
theorem zjH {L:Nat}(p:qo)(cs:List JB)(rs:List RwV)(bc gR:Nat)(r C:Option Addr)(cap D bP:Nat)(hp:ji L p)(hL:2+p.n<=L):
 SeqQ pg 260 #[pn (E ⟨bP,0,O⟩)] (T.zaV p).length (zez (T.zaV p)) (LdC p cs rs bc gR r C cap D bP):=by
 intro F a5 Jx M0 W hJ aj aD aL hC l h0;obtain⟨_,_⟩:=hp.n om;have bE:=hp.l;have ak:=(hC 0 M0 W h0).1.c0;have aE:=(hC 0 M0 W h0).1.c1;have bg:=(hC 0 M0 W h0).2;have bv:bP<W.heap.size:=zN ak;have b7:=zi (hC 0 M0 W h0).1.pm.hap;have b6:=zi (hC 0 M0 W h0).1.pm.hao;have bb:=zi (hC 0 M0 W h0).1.pm.rl;have b9:=zi (hC 0 M0 W h0).1.pm.cl;have w:=zi hC;have HY:=zi l;have b8:=zi hp.c;have hm:Tryz.prog.follows .mixedOrders=true:=kr;clear l hC;refine JO func260 ntmps260 (h:=?_);gi_wp2;refine(zS.2 (zol C p.rows.length D (V r p.n cap) _)).mono ?_;rintro P m ⟨rfl,aF⟩;have I:Ext W m:=by rw[aF];exact(((Ext.refl W).alloc _).alloc _).alloc _
 have b0:m.heap[W.heap.size]? =E (cl #[.func (.yield F) #[] #[]] 161):=by
  rw[aF];exact(zI _ _ _ so).trans (T.zbs W _ _).1
 have b2:m.heap[W.heap.size+1+1]? =E (cl #[V C p.rows.length D] 107):=by
  rw[aF];have:=zq ((W.alloc (cl #[.func (.yield F) #[] #[]] 161)).alloc (cl #[V r p.n cap,V C p.rows.length D] 109)) (cl #[V C p.rows.length D] 107);simpa using this
 clear aF ak aE;have bw:=(zf.1 b2).1;gi_wp2;refine zd0 (zi2 (rowY rs) C gR p.rows.length D (W.heap.size+1+1) om b7.out).seq.own rfl (ZJ func246 kr rfl) (fun k aH c z=>by
  have g:k<p.rows.length:=by have:=(zn.1 z).1;rwa [zdx]at this
  rw[zfH g]at z;cases z;rfl)
  (LdI p W m a5) (LdX p Jx) M0 ?hI ?hIx ?hI2 ?hIx2 ?hC ?h0 ?round ?done ?stop
 case hI=>
  rintro k a8 A aC ⟨d,j⟩ g;exact⟨hJ _ _ _ _ d (g.mono I.size),j.keep g (zh _)⟩
 case hIx=>
  rintro aa k A aC ⟨d,J,j,h3⟩ g;exact⟨d,J,j,aj _ _ _ h3 (g.mono I.size)⟩
 case hI2=>
  rintro k a8 A aC ⟨d,j⟩ hw;exact⟨aD _ _ _ _ d (hw.mono (fun N i=>⟨zL I.size i.1,i.2⟩)),j.priv hw (zh _)⟩
 case hIx2=>
  rintro aa k A aC ⟨d,J,j,h3⟩ hw;exact⟨d,J,j,aL _ _ _ h3 (hw.mono (fun N i=>⟨zL I.size i.1,i.2⟩))⟩
 case hC=>
  rintro k a8 A ⟨d,j⟩;exact⟨⟨c_ 0 (j.get b2 om om),(w.out _ _ _ d).1.pm.rowCells⟩,(w.out _ _ _ d).2⟩
 case h0=>
  refine⟨hJ _ _ _ _ h0 (zw.of_below I),Fr.refl _ _ _ (fun x b=>(bg x b).1)⟩
 case round=>
  rintro l2 k aH a8 A a6 z ⟨d,j⟩;rw[zdx]at a6;rw[zfH a6]at z;have b:=zj a6;obtain⟨a7,hr⟩:∃a7,rs[k]? =E a7:=⟨_,zj (by rw[bb.out];exact a6)⟩;obtain⟨y0,y1,y2,y3⟩:=zor hr;rw[y0,y1,y2,y3]at z;cases z;have aY:=b8.out _ (zZ a6);generalize p.rows[k]=x at *;have bd:=(w.out _ _ _ d).2;have br:=j.size;have aJ:=zi (fun k' y X (Z:a5 k' y X)=>(w.out k' y X Z).1.pm.roww k a7 x hr b);obtain⟨a3,⟨rb,⟨ra,rl,rc⟩⟩,rf,f⟩:=a7;simp only[WT.sv,RwV.fv];unfold Qr;gi_wp2;refine⟨Wr.of_below ((Ext.refl A).alloc _),fun n al=>?_⟩;have xA:=(zw.alloc m.heap.size A (cl #[gS a3,G rb,V ra rl rc,V (E ⟨rf,0,O⟩) f.length f.length] 160)).trans al;have s:=al.block _ _ (zq A (cl #[gS a3,G rb,V ra rl rc,V (E ⟨rf,0,O⟩) f.length f.length] 160)) (.inr rfl);have d0:=c_ 0 s;have d1:=c_ 1 s;have d2:=c_ 2 s;have d3:=c_ 3 s;have g0:=c_ 0 (xA.block _ _ (j.get b0 (zh _) om) (.inr rfl));have aA:=hJ _ _ _ _ d ((xA.mono I.size).trans (zw.drew _ _));have aR:=(zf.1 s).1;have aI:Hid (∀W3,Ext n.drew W3->W3.heap[n.heap.size]? =E (cl #[gS a3,G rb,V ra rl rc,V (E ⟨rf,0,O⟩) f.length f.length] 160)->
   Calls pg 261 #[.func (.func 339) #[] #[pn (E ⟨n.heap.size,0,O⟩)],.func (.yield F) #[] #[]] W3 fun P c=>∃u,P= .returned (G u)/\(c.heap[A.heap.size]? =E (cl #[gS a3,G rb,V ra rl rc,V (E ⟨rf,0,O⟩) f.length f.length] 160)/\c.heap[W.heap.size]? =E (cl #[.func (.yield F) #[] #[]] 161))/\(u=true->Hid (Qs a8 (LdI p W m a5) (LdX p Jx) k A n .normal { tmps:=#[],defers:= [] } c))/\(u=false->Hid (Qs a8 (LdI p W m a5) (LdX p Jx) k A n .ret { tmps:=#[],defers:= [] } c))):=by
   intro W3 aw af;have b3:n.heap.size<=W3.heap.size:=aw.size;refine(zik p (C0:=LdC p cs rs bc gR r C cap D bP) (J:=a5) (Jx:=Jx) (W:=W) (W0:=m) (A:=A) (A2:=n) (W3:=W3) (g0:=m.heap.size) (M0:=a8) (o:=zbw p k) hJ aj aD aL w.out HY.out I.size br om b3
    (zkb n.heap.size ⟨a3,⟨rb,(ra,rl,rc)⟩,rf,f⟩ x aY.2 (by rw[aY.1];omega)) (ZJ func339 kr rfl) (fun _ _ _ ⟨a7,h,_⟩=>⟨a7,h⟩) zez.keep ?_ ?_ ?_).mono ?_
   ·rintro k' y X ⟨B,t,o,q,j5⟩;have v:=o.get af om (by have:=(zf.1 af).1;omega);exact⟨c_ 0 v,c_ 1 v,c_ 2 v,c_ 3 v,aJ.out _ _ _ B⟩
   ·rintro k' v' X aZ ⟨r',q1,bs,q2,q3⟩;exact⟨⟨r',q1,bs,zjF b q2,q3⟩,zjG b aZ⟩
   ·exact⟨hJ _ _ _ _ aA (zw.of_below aw),(j.keep xA (zh _)).keep (B:=m.heap.size) (zw.trans (zw.drew _ _) (zw.of_below aw)) (zh _),Fr.refl _ _ _ (fun x b=>(bd x b).1),(Wr.drew _ _).trans (Wr.of_below aw),fun x b=> .inl b⟩
   ·rintro P c ⟨u,rfl,t1,t2⟩;have e3:=(aw.block _ (show A.heap.size<n.drew.heap.size from aR)).trans s;have bz:=(zf.1 e3).1;refine⟨u,rfl,?_,fun ht=>?_,fun ht=>?_⟩
    ·cases u with
     |true=>
      obtain⟨y,B,t,o,q,j5⟩:=t1 rfl;exact⟨o.get e3 (zh _) om,t.get b0 (zh _) om⟩
     |false=>
      obtain⟨J,Z,B,t,o,q⟩:=t2 rfl;exact⟨q.get e3 (zh _) om,o.get b0 (zh _) om⟩
    ·obtain⟨y,B,t,o,q,j5⟩:=t1 ht;exact⟨q,y,⟨by rw[zmA b];exact B,t⟩,j5⟩
    ·obtain⟨J,Z,B,t,o,q⟩:=t2 ht;exact⟨t,rfl,_,zjG b Z,B⟩
  have aq:=zi (fun(X:H) (v:Ext n.drew X)=>show(fun X=>X.cell? ⟨A.heap.size,0,O⟩=E (gS a3)/\X.cell? ⟨A.heap.size,1,O⟩=E (G rb)/\X.cell? ⟨A.heap.size,2,O⟩=E (V ra rl rc)/\X.cell? ⟨A.heap.size,3,O⟩=E (V (E ⟨rf,0,O⟩) f.length f.length)/\X.cell? ⟨W.heap.size,0,O⟩=E (.func (.yield F) #[] #[])) X from⟨v.cell (show n.drew.cell? ⟨A.heap.size,0,O⟩=_ from d0),v.cell (show n.drew.cell? ⟨A.heap.size,1,O⟩=_ from d1),v.cell (show n.drew.cell? ⟨A.heap.size,2,O⟩=_ from d2),v.cell (show n.drew.cell? ⟨A.heap.size,3,O⟩=_ from d3),v.cell (show n.drew.cell? ⟨W.heap.size,0,O⟩=_ from g0)⟩);have ar:=zi (fun(X:H) (v:X.heap[A.heap.size]? =E (Obj.cells #[gS a3,G rb,V ra rl rc,V (E ⟨rf,0,O⟩) f.length f.length] 160)/\X.heap[W.heap.size]? =E (Obj.cells #[.func (.yield F) #[] #[]] 161))=>show(fun X=>X.cell? ⟨A.heap.size,0,O⟩=E (gS a3)/\X.cell? ⟨A.heap.size,1,O⟩=E (G rb)/\X.cell? ⟨A.heap.size,2,O⟩=E (V ra rl rc)/\X.cell? ⟨A.heap.size,3,O⟩=E (V (E ⟨rf,0,O⟩) f.length f.length)/\X.cell? ⟨W.heap.size,0,O⟩=E (.func (.yield F) #[] #[])) X from⟨c_ 0 v.1,c_ 1 v.1,c_ 2 v.1,c_ 3 v.1,c_ 0 v.2⟩);clear s d j;refine zaK ?_;refine zbX ?_;refine(show(Code.region _ _ _).wpIn _ _ _ _ _ _ from zan (S:=fun X=>X.cell? ⟨A.heap.size,0,O⟩=E (gS a3)/\X.cell? ⟨A.heap.size,1,O⟩=E (G rb)/\X.cell? ⟨A.heap.size,2,O⟩=E (V ra rl rc)/\X.cell? ⟨A.heap.size,3,O⟩=E (V (E ⟨rf,0,O⟩) f.length f.length)/\X.cell? ⟨W.heap.size,0,O⟩=E (.func (.yield F) #[] #[])) hm (by rfl) (fun⟨aU,b5,h⟩=>h) ⟨d0,d1,d2,d3,g0⟩ (fun ab=>?_));refine tkv 0 (h:=?_);refine tkv 2 (h:=?_);refine rd1 1 (h:=fun K e=>?_);go_simp;go_at_call 262
  refine(zlc a3 rb ra (E ⟨rf,0,O⟩) rl rc f.length f.length _).mono ?_;rintro P w3 ⟨rfl,ah⟩;have an:Ext n.drew w3:=by rw[ah];exact(Ext.refl _).alloc _
  have af:w3.heap[n.heap.size]? =E (cl #[gS a3,G rb,V ra rl rc,V (E ⟨rf,0,O⟩) f.length f.length] 160):=by rw[ah];exact zq n.drew _
  clear ah;go_wp2_with fail
  refine e.out _ _ (by exact aq.out _ an) (h:=fun ab=>?_);clear e K;refine rd1 3 (h:=fun K e=>?_);go_simp;go_at_call 261
  refine(aI.out w3 an af).mono ?_;rintro P W5 ⟨u,rfl,t0,t1,t2⟩;go_wp2_with fail
  refine e.out _ _ (by exact ar.out _ t0) (h:=fun ab=>?_);clear e K;refine rd1 4 (h:=fun K e=>?_);go_simp;refine e.out _ _ (by exact ar.out _ t0) (h:=fun ab=>?_);clear e K;refine QB kr ?_ _;cases u with
  |true=>
   refine zc4 rfl ?_;exact wpIn_skip (t1 rfl).out
  |false=>
   refine zdi rfl ?_;exact wpIn_ret (t2 rfl).out
 case stop=>
  rintro M aa k A hD g ⟨rfl,J,Z,d⟩ hd;gi_wp2;refine qt hd ?_;exact⟨_,qY rfl _ _ _,⟨_,rfl⟩,.inr ⟨J,Z,aj _ _ _ d (zw.putObj _ (zL I.size hD) hd rfl)⟩⟩
 case done=>
  rintro M a8 A aW bh ⟨d,j⟩ hd;have aT:=zi aW;clear aW;rw[zdx]at d;have ak:=(w.out _ _ _ d).1.c0;have aE:=(w.out _ _ _ d).1.c1;have bt:bP<A.heap.size:=zN ak;have bf:=(zf.1 hd).1;have aX:=(w.out _ _ _ d).2;have q0:=Jb (o:=cl #[it .i64 0] 3) ak;have q1:=Jb (o:=cl #[it .i64 0] 3) aE;have yA:=j.get b0 (zh _) om;gi_wp2;refine(zS.2 (ze6 r p.n cap (V C p.rows.length D) _)).mono ?_;rintro P w2 ⟨rfl,aG⟩;have x2:Ext A w2:=by rw[aG];exact(((Ext.refl A).alloc _).alloc _).alloc _
  have bA:w2.heap[A.heap.size]? =E (cl #[it .i64 0] 3):=by
   rw[aG];exact(zI _ _ _ so).trans (T.zbs A _ _).1
  have bC:w2.heap[A.heap.size+1+1]? =E (cl #[V r p.n cap] 106):=by
   rw[aG];have:=zq ((A.alloc (cl #[it .i64 0] 3)).alloc (cl #[V r p.n cap,V C p.rows.length D] 109)) (cl #[V r p.n cap] 106);simpa using this
  clear aG ak aE q0 q1;have bx:=(zf.1 bC).1;have bF:=j.size;have au:=zi x2.size;gi_wp2;refine jB (zcN (colY cs) r bc p.n cap (A.heap.size+1+1) om b6.out).seq rfl (ZJ func244 kr rfl) (fun k aH c z=>by
   have g:k<p.n:=by have:=(zn.1 z).1;rwa [jD]at this
   rw[za1 g]at z;cases z;rfl)
   (LeI p W m w2 a5 A.heap.size M r cap) (LeX p Jx M) (fun x=>a8 x\/x=A.heap.size) ?hI ?hIx ?hC ?h0 ?round ?done ?stop
  case hI=>
   rintro k y X Y ⟨ai,a1,n2,ad,ae,n5,n6,n7,n8,n9,a4⟩ g;exact⟨ai,hJ _ _ _ _ a1 (g.mono om),n2.keep g om,g.block _ _ ad (.inr rfl),g.block _ _ ae (.inr rfl),g.block _ _ n5 (.inl om),n6,n7,n8,zL n9 g.size,a4⟩
  case hIx=>
   rintro aa k X Y ⟨e1,⟨J,e2,e3⟩,e4⟩ g;exact⟨e1,⟨J,e2,aj _ _ _ e3 (g.mono om)⟩,g.block _ _ e4 (.inl om)⟩
  case hC=>
   rintro k y X ⟨ai,a1,n2,ad,ae,n5,n6,n7,n8,n9,a4⟩;refine⟨⟨c_ 0 ae,(w.out _ _ _ a1).1.pm.colCells⟩,fun x b=>?_⟩;rcases(a4 x).1 b with b|rfl
   ·exact((w.out _ _ _ a1).2 x b).1
   ·exact(zf.1 ad).1
  case h0=>
   refine⟨a8,hJ _ _ _ _ d (zw.of_below x2),j.keep (B:=m.heap.size) (zw.of_below x2) (zh _),bA,bC,(x2.block _ bf).trans hd,fun h=>?_,fun h=>?_,fun h=>?_,zh _,fun x=>Ql⟩;·have:=(aX _ h).1;omega
   ·have:=(aX _ h).1;omega
   ·have:=bh _ h;omega
  case round=>
   rintro l2 k aH y X a6 z ⟨ai,a1,n2,ad,ae,n5,n6,n7,n8,n9,a4⟩;rw[jD]at a6;rw[za1 a6]at z;obtain⟨aa,hcc⟩:∃aa,cs[k]? =E aa:=⟨_,zj (by rw[b9.out];exact a6)⟩;obtain⟨y0,y1,y2,y3,y4,y5⟩:=zkx hcc;rw[y0,y1,y2,y3,y4,y5]at z;cases z;have bi:=(w.out _ _ _ a1).2;have aJ:=zi (fun k' y Y (Z:a5 k' y Y)=>(w.out k' y Y Z).1.pm.colw k aa hcc);obtain⟨⟨mb,⟨ma,ml,mc⟩⟩,⟨lb,⟨la,ll,lc⟩⟩,⟨i,⟨Q,hl,R⟩⟩⟩:=aa;simp only[WT.sv];unfold Qr;gi_wp2;refine⟨Wr.of_below ((Ext.refl X).alloc _),fun a al=>?_⟩;have xX:=(zw.alloc w2.heap.size X (cl #[G mb,V ma ml mc,G lb,V la ll lc,G i,V Q hl R] 153)).trans al;have s:=al.block _ _ (zq X (cl #[G mb,V ma ml mc,G lb,V la ll lc,G i,V Q hl R] 153)) (.inr rfl);have d0:=c_ 0 s;have d1:=c_ 1 s;have d2:=c_ 2 s;have d3:=c_ 3 s;have d4:=c_ 4 s;have d5:=c_ 5 s;have bG:=au.out;have yX:=xX.block _ _ (n2.get b0 (zh _) om) (.inr rfl);have g0:=c_ 0 yX;have a2:=xX.block _ _ ad (.inr rfl);have a0:=c_ 0 a2;have c2:=xX.block _ _ ae (.inr rfl);have aV:=xX.block _ _ n5 (.inl om);have aA:=hJ _ _ _ _ a1 ((xX.mono om).trans (zw.drew _ _));have p0:=(w.out _ _ _ aA).1.c0;have p1:=(w.out _ _ _ aA).1.c1;have aR:=(zf.1 s).1;have bl:=(zf.1 ad).1;have aI:Hid (∀(W4:H) (s3:Nat),Ext a.drew W4->a.heap.size<=s3->W4.heap[s3]? =E (cl #[G mb,V ma ml mc,G lb,V la ll lc,G i,V Q hl R] 153)->W4.heap[s3+1]? =E (cl #[.func (.func 342) #[] #[pn (E ⟨a.heap.size,0,O⟩),pn (E ⟨a.heap.size+1,0,O⟩)]] 147)->W4.heap[a.heap.size]? =E (cl #[V r p.n cap,V C p.rows.length D] 109)->W4.heap[a.heap.size+1]? =E (cl #[it .i64 (k:Nat)] 3)->
    Calls pg 261 #[.func (.func 341) #[] #[pn (E ⟨s3+1,0,O⟩),pn (E ⟨s3,0,O⟩)],.func (.yield F) #[] #[]] W4 fun P c=>∃u,P= .returned (G u)/\(c.heap[X.heap.size]? =E (cl #[G mb,V ma ml mc,G lb,V la ll lc,G i,V Q hl R] 153)/\c.heap[W.heap.size]? =E (cl #[.func (.yield F) #[] #[]] 161)/\c.heap[A.heap.size]? =E (cl #[it .i64 (k:Nat)] 3))/\(u=true->Hid (Qs y (LeI p W m w2 a5 A.heap.size M r cap) (LeX p Jx M) k X a .normal { tmps:=#[],defers:= [] } (c.setCell ⟨A.heap.size,0,O⟩ (it .i64 ((k:Int)+1)))))/\(u=false->Hid (Qs y (LeI p W m w2 a5 A.heap.size M r cap) (LeX p Jx M) k X a .ret { tmps:=#[],defers:= [] } c))):=by
    intro W4 s3 ax b3 k1 k2 k3 k4;have bq:a.heap.size<=W4.heap.size:=ax.size;refine(zik p (C0:=LdC p cs rs bc gR r C cap D bP) (J:=a5) (Jx:=Jx) (W:=W) (W0:=m) (A:=X) (A2:=a) (W3:=W4) (g0:=m.heap.size) (M0:=ai) (o:=zbw p p.rows.length+2*k) hJ aj aD aL w.out HY.out I.size om om bq
     (zlb 342 #[pn (E ⟨a.heap.size,0,O⟩),pn (E ⟨a.heap.size+1,0,O⟩)] (s3+1) s3 ⟨lb,(la,ll,lc)⟩ ⟨i,(Q,hl,R)⟩ (T.zai p.n k) (p.rg.getD k (0,0)).1 (p.rg.getD k (0,0)).2 (by simp[T.zai];omega)).own (ZJ func341 kr rfl) (fun _ _ _ ⟨a7,h,_⟩=>⟨a7,h⟩) (fun k aH A aC ⟨a7,d,j⟩ g=>⟨a7,d,j.keep g⟩) ?_ ?_ ?_).mono ?_
    ·rintro k' av Y ⟨B,t,o,q,j5⟩;have l1:=(zf.1 k1).1;have l2:=(zf.1 k2).1;have l4:=(zf.1 k4).1;have z1:=o.get k1 om om;have z2:=o.get k2 om om;have z3:=o.get k3 om om;have z4:=o.get k4 om om;have hw:=aJ.out _ _ _ B;exact⟨c_ 0 z2,c_ 2 z1,c_ 3 z1,c_ 4 z1,c_ 5 z1,hw.2.1,hw.2.2,⟨unitSeq om (c_ 0 z3) (c_ 1 z3) (c_ 0 z4)⟩⟩
    ·rintro k' v' Y aZ ⟨r',q1,q3⟩;have aQ:=zeA p;refine⟨⟨r',q1,_,?_,q3⟩,om⟩;refine znX a6 ?_;have bm:k'=0\/k'=1:=om;rcases bm with rfl|rfl<;>rfl
    ·exact⟨hJ _ _ _ _ aA (zw.of_below ax),(n2.keep xX om).keep (B:=m.heap.size) (zw.trans (zw.drew _ _) (zw.of_below ax)) (zh _),Fr.refl _ _ _ (fun x b=>(bi x b).1),(Wr.drew _ _).trans (Wr.of_below ax),fun x b=> .inl b⟩
    ·rintro P c ⟨u,rfl,t1,t2⟩;have e4:=(ax.block _ (show X.heap.size<a.drew.heap.size from aR)).trans s;have bB:=(zf.1 e4).1;refine⟨u,rfl,?_,fun ht=>?_,fun ht=>?_⟩
     ·cases u with
      |true=>
       obtain⟨av,B,t,o,q,j5⟩:=t1 rfl;exact⟨o.get e4 (zh _) om,t.get b0 (zh _) om,q.some a2 n6⟩
      |false=>
       obtain⟨J,Z,B,t,o,q⟩:=t2 rfl;exact⟨q.get e4 (zh _) om,o.get b0 (zh _) om,t.some a2 n6⟩
     ·obtain⟨av,B,t,o,q,j5⟩:=t1 ht;have a9:=q.some a2 n6;have bn:Wr (zas W.heap.size c) c (c.setCell ⟨A.heap.size,0,O⟩ (it .i64 ((k:Int)+1))):=qS (U:=zas W.heap.size c) ⟨by have:=I.size;omega,.inl ⟨_,_,a9⟩⟩ _;have bo:Wr (zas m.heap.size c) c (c.setCell ⟨A.heap.size,0,O⟩ (it .i64 ((k:Int)+1))):=qS (U:=zas m.heap.size c) ⟨om,.inl ⟨_,_,a9⟩⟩ _;have b1:∀N aS,c.heap[N]? =E aS->N≠A.heap.size->(c.setCell ⟨A.heap.size,0,O⟩ (it .i64 ((k:Int)+1))).heap[N]? =E aS:=fun N aS i bD=>(zK _ _ _ _ so).trans i
      have aM:∀N,N<X.heap.size->¬ai N->¬av N:=fun N i hn h=>by
       rcases j5 N h with h|h
       ·exact hn h
       ·omega
      refine⟨(q.mono (fun x b=>(a4 x).2 (.inl b))).trans (qS ((a4 _).2 (.inr rfl)) _),fun x=>av x\/x=A.heap.size,⟨av,?_,t.priv bo (zh _),?_,b1 _ _ (q.some c2 n7) om,b1 _ _ (q.some aV n8) om,aM _ bl n6,aM _ (zf.1 ae).1 n7,aM _ (zf.1 n5).1 n8,?_,fun x=>Ql⟩,fun x b=>?_⟩
      ·have:=aD _ _ _ _ B bn;rw[show zbw p p.rows.length+2*k+2=zbw p p.rows.length+2*(k+1)by omega]at this;exact this
      ·rw[T.zev a9];simp
      ·have:=q.size;have:=al.size;simp at *;omega
      ·rcases b with b|b
       ·rcases j5 x b with h|h
        ·exact .inl ((a4 x).2 (.inl h))
        ·exact .inr h
       ·exact .inl ((a4 x).2 (.inr b))
     ·obtain⟨J,Z,B,t,o,q⟩:=t2 ht;have aQ:=zeA p;exact⟨t.mono (fun x b=>(a4 x).2 (.inl b)),rfl,⟨_,om,B⟩,t.some aV n8⟩
   have aq:=zi (fun(Y:H) (l:Ext a.drew Y)=>show(fun Y=>Y.cell? ⟨X.heap.size,0,O⟩=E (G mb)/\Y.cell? ⟨X.heap.size,1,O⟩=E (V ma ml mc)/\Y.cell? ⟨X.heap.size,2,O⟩=E (G lb)/\Y.cell? ⟨X.heap.size,3,O⟩=E (V la ll lc)/\Y.cell? ⟨X.heap.size,4,O⟩=E (G i)/\Y.cell? ⟨X.heap.size,5,O⟩=E (V Q hl R)/\Y.cell? ⟨W.heap.size,0,O⟩=E (.func (.yield F) #[] #[])/\Y.cell? ⟨A.heap.size,0,O⟩=E (it .i64 (k:Nat))) Y from⟨l.cell (show a.drew.cell? ⟨X.heap.size,0,O⟩=_ from d0),l.cell (show a.drew.cell? ⟨X.heap.size,1,O⟩=_ from d1),l.cell (show a.drew.cell? ⟨X.heap.size,2,O⟩=_ from d2),l.cell (show a.drew.cell? ⟨X.heap.size,3,O⟩=_ from d3),l.cell (show a.drew.cell? ⟨X.heap.size,4,O⟩=_ from d4),l.cell (show a.drew.cell? ⟨X.heap.size,5,O⟩=_ from d5),l.cell (show a.drew.cell? ⟨W.heap.size,0,O⟩=_ from g0),l.cell (show a.drew.cell? ⟨A.heap.size,0,O⟩=_ from a0)⟩);have ar:=zi (fun(Y:H) (l:Y.heap[X.heap.size]? =E (Obj.cells #[G mb,V ma ml mc,G lb,V la ll lc,G i,V Q hl R] 153)/\Y.heap[W.heap.size]? =E (Obj.cells #[.func (.yield F) #[] #[]] 161)/\Y.heap[A.heap.size]? =E (Obj.cells #[it .i64 (k:Nat)] 3))=>show(fun Y=>Y.cell? ⟨X.heap.size,0,O⟩=E (G mb)/\Y.cell? ⟨X.heap.size,1,O⟩=E (V ma ml mc)/\Y.cell? ⟨X.heap.size,2,O⟩=E (G lb)/\Y.cell? ⟨X.heap.size,3,O⟩=E (V la ll lc)/\Y.cell? ⟨X.heap.size,4,O⟩=E (G i)/\Y.cell? ⟨X.heap.size,5,O⟩=E (V Q hl R)/\Y.cell? ⟨W.heap.size,0,O⟩=E (.func (.yield F) #[] #[])/\Y.cell? ⟨A.heap.size,0,O⟩=E (it .i64 (k:Nat))) Y from⟨c_ 0 l.1,c_ 1 l.1,c_ 2 l.1,c_ 3 l.1,c_ 4 l.1,c_ 5 l.1,c_ 0 l.2.1,c_ 0 l.2.2⟩);have bu:(k:Int)<100:=om;clear s a1 n2 ad ae n5;refine zaK ?_;refine zbX ?_;refine zbX ?_;refine(show(Code.region _ _ _).wpIn _ _ _ _ _ _ from zan (S:=fun Y=>Y.cell? ⟨X.heap.size,0,O⟩=E (G mb)/\Y.cell? ⟨X.heap.size,1,O⟩=E (V ma ml mc)/\Y.cell? ⟨X.heap.size,2,O⟩=E (G lb)/\Y.cell? ⟨X.heap.size,3,O⟩=E (V la ll lc)/\Y.cell? ⟨X.heap.size,4,O⟩=E (G i)/\Y.cell? ⟨X.heap.size,5,O⟩=E (V Q hl R)/\Y.cell? ⟨W.heap.size,0,O⟩=E (.func (.yield F) #[] #[])/\Y.cell? ⟨A.heap.size,0,O⟩=E (it .i64 (k:Nat))) hm (by rfl) (fun⟨aU,b5,h⟩=>h) ⟨d0,d1,d2,d3,d4,d5,g0,a0⟩ (fun ab=>?_));refine tkv 0 (h:=?_);refine tkv 2 (h:=?_);refine tkv 5 (h:=?_);refine rd1 1 (h:=fun K e=>?_);go_simp;refine e.out _ _ (by exact aq.out _ (Ext.refl _)) (h:=fun ab=>?_);clear e K;refine rd1 3 (h:=fun K e=>?_);go_simp;go_at_call 264
   refine(znU r C p.n cap p.rows.length D (k:Nat) _).mono ?_;rintro P w3 ⟨rfl,ah⟩;have an:Ext a.drew w3:=by rw[ah];exact((Ext.refl _).alloc _).alloc _
   have af:w3.heap[a.heap.size]? =E (cl #[V r p.n cap,V C p.rows.length D] 109):=by rw[ah];exact(T.zbs a.drew _ _).1
   have aN:w3.heap[a.heap.size+1]? =E (cl #[it .i64 (k:Nat)] 3):=by rw[ah];exact(T.zbs a.drew _ _).2
   clear ah;go_wp2_with fail
   refine e.out _ _ (by exact aq.out _ an) (h:=fun ab=>?_);clear e K;refine rd1 4 (h:=fun K e=>?_);go_simp;go_at_call 263
   refine(ziH mb lb i ma la Q ml mc ll lc hl R _ _ _).mono ?_;rintro P w4 ⟨rfl,aB⟩;have b4:Ext a.drew w4:=by rw[aB];exact(an.alloc _).alloc _
   have aO:=(T.zbs w3 (cl #[G mb,V ma ml mc,G lb,V la ll lc,G i,V Q hl R] 153) (cl #[.func (.func 342) #[] #[pn (E ⟨a.heap.size,0,O⟩),pn (E ⟨a.heap.size+1,0,O⟩)]] 147));rw[<-aB]at aO;have bj:w4.heap[a.heap.size]? =E (cl #[V r p.n cap,V C p.rows.length D] 109):=by rw[aB];exact(zI _ _ _ (by have:=(zf.1 af).1;simp;omega)).trans ((zI _ _ _ (zf.1 af).1).trans af)
   have bk:w4.heap[a.heap.size+1]? =E (cl #[it .i64 (k:Nat)] 3):=by rw[aB];exact(zI _ _ _ (by have:=(zf.1 aN).1;simp;omega)).trans ((zI _ _ _ (zf.1 aN).1).trans aN)
   have bp:=an.size;clear aB;go_wp2_with fail
   refine e.out _ _ (by exact aq.out _ b4) (h:=fun ab=>?_);clear e K;refine rd1 6 (h:=fun K e=>?_);go_simp;go_at_call 261
   refine(aI.out w4 w3.heap.size b4 bp aO.1 aO.2 bj bk).mono ?_;rintro P W5 ⟨u,rfl,t0,t1,t2⟩;go_wp2_with fail
   refine e.out _ _ (by exact ar.out _ t0) (h:=fun ab=>?_);clear e K;refine rd1 7 (h:=fun K e=>?_);go_simp;refine e.out _ _ (by exact ar.out _ t0) (h:=fun ab=>?_);clear e K;refine QB kr ?_ _;cases u with
   |true=>
    refine zc4 rfl ?_;refine wpIn_skip ?_;have r9:=t0.2.2;have s0:=c_ 0 r9;have f0:W5.frozen? ⟨A.heap.size,0,O⟩=false:=T.ZX r9;have T1:=t1 rfl;refine JJ (by rfl) (fun⟨aU,b5,h⟩=>h) ?_;clear t1 t2;go_wp2;exact T1.out
   |false=>
    refine zdi rfl ?_;exact wpIn_ret (t2 rfl).out
  case done=>
   rintro D2 y X be ⟨ai,a1,n2,ad,ae,n5,n6,n7,n8,n9,a4⟩ ay;rw[jD]at a1;have aQ:=zeA p;have aK:M≠D2:=by have:=au.out;omega
   have az:=(Zp (w:=X) (o:= .deferred O) aK).trans n5;have aP:zw W.heap.size X ((X.putObj D2 (.deferred O)).putObj M (.deferred O)):=(zw.putObj _ (by have:=I.size;have:=au.out;omega) ay rfl).trans (zw.putObj _ (by have:=I.size;have:=aT.out;omega) az rfl);have ba:=zi (hJ _ _ _ _ a1 aP);clear a1 n2 ad ae n6 n7 n8 a4;gi_wp2;refine qt ay (qt az ?_);rw[aQ];exact⟨_,qY rfl _ _ _,⟨_,rfl⟩,.inl ⟨ai,ba.out⟩⟩
  case stop=>
   rintro D2 aa k X be g ⟨rfl,⟨J,Z,e1⟩,e5⟩ ay;have aK:M≠D2:=by have:=au.out;omega
   have az:=(Zp (w:=X) (o:= .deferred O) aK).trans e5;have aP:zw W.heap.size X ((X.putObj D2 (.deferred O)).putObj M (.deferred O)):=(zw.putObj _ (by have:=I.size;have:=au.out;omega) ay rfl).trans (zw.putObj _ (by have:=I.size;have:=aT.out;omega) az rfl);gi_wp2;refine qt ay (qt az ?_);exact⟨_,qY rfl _ _ _,⟨_,rfl⟩,.inr ⟨J,Z,aj _ _ _ e1 aP⟩⟩
def AimY (p:qo)(k:Nat)(v:Array Value)(W:H):Prop:=∃t:WT,v=#[t.val]/\zY W t.val (p.mx.getD k 0)
def AimI (W W0:H)(J:Nat->(Nat->Prop)->H->Prop)(k:Nat)(M:Nat->Prop)(A:H):Prop:=J k M A/\Fr W.heap.size W0.heap.size W0 M A
def AimX (Jx:Nat->H->Prop)(c:Code)(k:Nat)(A:H):Prop:=c= .ret/\Jx k A
theorem zmB (p:qo)(cs:List JB)(rs:List RwV)(U gR:Nat)(g C:Option Addr)(cap N D:Nat)(hn:p.n<=1000):
 J0 pg 155 #[pn (E ⟨D,0,O⟩)] p.n (AimY p) (LdC p cs rs U gR g C cap N D):=by
 intro a2 J z f W q X hC Z h0;have a0:=(hC 0 f W h0).1.c0;have ab:=(hC 0 f W h0).1.c1;have aa:=(hC 0 f W h0).2;have ah:D<W.heap.size:=zN a0;have a5:=zi (hC 0 f W h0).1.pm.hao;have a6:=zi (hC 0 f W h0).1.pm.cl;have x:=zi hC;have HY:=zi Z;clear Z hC;refine JO func155 ntmps155 (h:=?_);gi_wp2;refine(zS.2 (ze6 g p.n cap (V C p.rows.length N) _)).mono ?_;rintro ae d ⟨rfl,s⟩;have j:Ext W d:=by rw[s];exact(((Ext.refl W).alloc _).alloc _).alloc _
 have b0:d.heap[W.heap.size]? =E (cl #[.func (.yield a2) #[] #[]] 250):=by
  rw[s];exact(zI _ _ _ so).trans (T.zbs W _ _).1
 have S:d.heap[W.heap.size+1+1]? =E (cl #[V g p.n cap] 106):=by
  rw[s];have:=zq ((W.alloc (cl #[.func (.yield a2) #[] #[]] 250)).alloc (cl #[V g p.n cap,V C p.rows.length N] 109)) (cl #[V g p.n cap] 106);simpa using this
 clear s a0 ab;have ai:=(zf.1 S).1;gi_wp2;refine jB (zcN (colY cs) g U p.n cap (W.heap.size+1+1) om a5.out).seq rfl (ZJ func244 kr rfl) (fun k ad W' e=>by
  have c:k<p.n:=by have:=(zn.1 e).1;rwa [jD]at this
  rw[za1 c]at e;cases e;rfl)
  (AimI W d J) (AimX z) f ?hI ?hIx ?hC ?h0 ?round ?done ?stop
 case hI=>
  rintro k M A a3 ⟨a,b⟩ c;exact⟨q _ _ _ _ a (c.mono j.size),b.keep c (zh _)⟩
 case hIx=>
  rintro h k A a3 ⟨a,b⟩ c;exact⟨a,X _ _ _ b (c.mono j.size)⟩
 case hC=>
  rintro k M A ⟨a,b⟩;exact⟨⟨c_ 0 (b.get S om om),(x.out _ _ _ a).1.pm.colCells⟩,(x.out _ _ _ a).2⟩
 case h0=>exact⟨q _ _ _ _ h0 (zw.of_below j),Fr.refl _ _ _ (fun P L=>aa P L)⟩
 case round=>
  rintro l2 k ad M A r e ⟨a,b⟩;rw[jD]at r;rw[za1 r]at e;obtain⟨h,hcc⟩:∃h,cs[k]? =E h:=⟨_,zj (by rw[a6.out];exact r)⟩;obtain⟨y0,y1,y2,y3,y4,y5⟩:=zkx hcc;rw[y0,y1,y2,y3,y4,y5]at e;cases e;have a7:=zi (fun k' R Y (hj:J k' R Y)=>((x.out k' R Y hj).1.pm.colw k h hcc).1);obtain⟨⟨u,⟨t,w,v⟩⟩,⟨lb,⟨la,ll,lc⟩⟩,⟨hb,⟨ha,hl,hc⟩⟩⟩:=h;simp only[WT.sv];unfold Qr;gi_wp2;refine⟨Wr.of_below ((Ext.refl A).alloc _),fun n a1=>?_⟩;have Q:=(zw.alloc d.heap.size A (cl #[G u,V t w v,G lb,V la ll lc,G hb,V ha hl hc] 153)).trans a1;have o:=a1.block _ _ (zq A (cl #[G u,V t w v,G lb,V la ll lc,G hb,V ha hl hc] 153)) (.inr rfl);have d0:=c_ 0 o;have d1:=c_ 1 o;have g0:=c_ 0 (Q.block _ _ (b.get b0 (zh _) om) (.inr rfl));have K:=q _ _ _ _ a (Q.mono j.size);have a9:=b.keep Q (zh _);have aj:=(zf.1 o).1;have a8:=zi (HY.out k #[ag #[G u,V t w v]] M n r ⟨⟨u,(t,w,v)⟩,rfl,a7.out _ _ _ K⟩ K);clear o a b K;gi_wp2;refine zgh a8.out ?_ ?_
  ·rintro B ⟨i,M5,m,I⟩;have y:Hid (Qs M (AimI W d J) (AimX z) k A n .normal { tmps:=#[],defers:= [] } B):=⟨i,M5,⟨m,a9.wr i I⟩,fun P L=>(I P L).imp id (fun af=>om)⟩;clear i m I;gi_wp2;exact y.out
  ·rintro B ⟨i,m⟩;have y:Hid (Qs M (AimI W d J) (AimX z) k A n .ret { tmps:=#[],defers:= [] } B):=⟨i,rfl,m⟩;clear i m;gi_wp2;exact y.out
 case done=>
  rintro a4 M A F ⟨a,b⟩ l;rw[jD]at a;gi_wp2;refine qt l ?_;exact⟨_,qY rfl _ _ _,⟨_,rfl⟩,.inl ⟨M,q _ _ _ _ a (zw.putObj _ (zL j.size F) l rfl)⟩⟩
 case stop=>
  rintro a4 h k A F c ⟨rfl,a⟩ l;rw[jD]at c;gi_wp2;refine qt l ?_;exact⟨_,qY rfl _ _ _,⟨_,rfl⟩,.inr ⟨k,c,X _ _ _ a (zw.putObj _ (zL j.size F) l rfl)⟩⟩
theorem zil {w:H}{p:qo}{cs:List JB}{rs:List RwV}{d e:Nat}{b c:Option Addr}{cap f a:Nat}(h:LdC p cs rs d e b c cap f a w):jA w.heap.size (LdC p cs rs d e b c cap f a):=by
 intro A B b c;exact⟨JK c (p:=⟨a,0,O⟩) (zN h.c0) b.c0,JK c (p:=⟨a,1,O⟩) (zN h.c1) b.c1,znV h.pm A B b.pm c⟩
def aimsSeq {w:H}{p:qo}{cs:List JB}{rs:List RwV}{bc gR:Nat}{ao ap:Option Addr}{cap kp bP:Nat}(h:LdC p cs rs bc gR ao ap cap kp bP w)(hn:p.n<=1000)(hm:p.mx.length=p.n):WSeq w 155 #[pn (E ⟨bP,0,O⟩)] p.mx where
 Y:=AimY p
 C:=LdC p cs rs bc gR ao ap cap kp bP
 seq:=by
  rw[hm];exact zmB p cs rs bc gR ao ap cap kp bP hn
 ent:=ZJ Tryz.func155 (by kernel_rfl) rfl
 val:=by
  rintro k v W x hx ⟨t,rfl,ht⟩;rw[zk,hx]at ht;exact⟨t,rfl,ht⟩
 one:=by
  rintro k v W ⟨t,rfl,ht⟩;rfl
 now:=h
 old:=zil h
end Go.Proofs.YtnhfdcfnojnofaaGreatDoor
