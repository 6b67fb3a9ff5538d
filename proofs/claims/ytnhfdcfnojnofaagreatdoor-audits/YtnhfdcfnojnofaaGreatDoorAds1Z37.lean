import Derived.Test.YtnhfdcfnojnofaaGreatDoorAds1Z35
import Derived.Test.YtnhfdcfnojnofaaGreatDoorAds1Z36
open Option renaming none->O,some->E
open Go.Value renaming slice->V,bool->G,pointer->pn,int->it,agg->ag
open Go.Obj renaming cells->cl
open Go renaming World->H
open Go.Proofs.Tryz renaming prog->pg
open Go.Proofs.Tryz
set_option linter.unusedSimpArgs false
set_option linter.unusedVariables false
set_option maxHeartbeats 4000000
set_option maxRecDepth 100000
namespace Go.Proofs.YtnhfdcfnojnofaaGreatDoor
open Go.RowKit
theorem zcA {N:Nat}{C D:H->Prop}(h1:jA N C)(b:jA N D):jA N (fun W=>C W/\D W):=fun A B h a=>⟨h1 A B h.1 a,b A B h.2 a⟩
theorem zfS {N:Nat}{a:Sort _}{C:a->H->Prop}(h:∀i,jA N (C i)):jA N (fun W=>∀i,C i W):=fun A B a b i=>h i A B (a i) b
theorem JK {N:Nat}{A B:H}(c:∀(k:Nat) (o:Obj),k<N->A.heap[k]? =E o->o.isCells=true->B.heap[k]? =E o){p:Addr}{v:Value}(d:p.block<N)(h:A.cell? p=E v):B.cell? p=E v:=by
 obtain⟨o,a,b⟩:=cells_of_cell h;exact(zP (w:=A) ((c _ o d a b).trans a.symm)).trans h
theorem zbg {N b o:Nat}{v:Value}(a:b<N):jA N (fun W=>W.cell? ⟨b,o,O⟩=E v):=fun _ _ h c=>JK c (p:=⟨b,o,O⟩) a h
theorem zms {w:H}{v:Value}{n:Nat}(h:NatV w v n):jA w.heap.size (fun W=>NatV W v n):=by
 intro A B g j;obtain⟨f,⟨_,_,m,_,o⟩,_,_,_⟩:=h;obtain⟨e,⟨b,c,a,i,l⟩,d⟩:=g;refine⟨e,⟨b,c,a,i,fun c=>?_⟩,d⟩;obtain⟨b,d,g,_,k⟩:=l c;have i:b<w.heap.size:=by
  rw[m]at a;simp only[zV]at a;have m:f≠ []:=by
   intro f;rw[f]at a;have:=Zq.2 c;simp at a;omega
  obtain⟨_,_,l,_,_⟩:=o m;have f:=a.1;rw[g,l]at f;simp only[z7,je]at f;omega
 have a:=Zq.2 c;have c:=JK j (p:=⟨b,d+0,O⟩) i (k 0 a);exact⟨b,d,g,zN c,fun a c=>JK j (p:=⟨b,d+a,O⟩) i (k a c)⟩
theorem zbu {w:H}{x:Value}{z:Int}(h:zY w x z):jA w.heap.size (fun W=>zY W x z):=by
 intro A B c i;obtain⟨_,k,a,d,_⟩:=h;obtain⟨b,v,e,f,g⟩:=c;have j:v=k:=by
  rw[a]at e;simp only[zby]at e;have c:=Zt (fun a:Array Value=>a[1]?) e;simpa using c.symm
 subst j;exact⟨b,v,e,zms d A B f i,g⟩
theorem zj3 {w:H}{t:TypeId}{v:Value}{size:Nat}{a:List (List Value)}(h:Qk w t v size a):jA w.heap.size (fun W=>Qk W t v size a):=by
 intro A B b c;rcases b with b|⟨g,d,f,a,k,⟨i,j,l⟩,m⟩
 ·exact Or.inl b
 ·have b:g<w.heap.size:=by
   rcases h with ⟨e,_⟩|⟨_,_,_,e,_,n,_⟩
   ·rw[e]at a;cases a
   ·have:=n.lt;rw[e]at a;simp only[zV,z7,je]at a;omega
  exact Or.inr ⟨g,d,f,a,k,⟨i,j,c g _ b l rfl⟩,fun i a e j u f=>JK c (p:=⟨g,d+i*size+j,O⟩) b (m i a e j u f)⟩
theorem J0.weaken {P:Program}{g:Nat}{b:Array Value}{n:Nat}{Y:Nat->Array Value->H->Prop}{C a:H->Prop}(h:J0 P g b n Y C)(j:∀W,a W->C W):J0 P g b n Y a:=
 fun l J b c W d e a f i=>h l J b c W d e (fun k M A b=>⟨j A (a k M A b).1,(a k M A b).2⟩) f i
def turnedSeq {w:H}{fa:Option Addr}{fc:Nat}{zs:List Int}{ts:List WT}{bs bf:Nat}(hn:zs.length<=1000000)(h1:ts.length=zs.length)(h2:Qk w 101 (V fa ts.length fc) 2 (ts.map WT.cells))(h3:∀(i:Nat) (t:WT) (z:Int),ts[i]? =E t->zs[i]? =E z->zY w t.val z)
 (hs:w.cell? ⟨bs,0,O⟩=E (V fa ts.length fc)) (hf:w.cell? ⟨bf,0,O⟩=E (.func (.func 209) #[] #[])):WSeq w 379 #[pn (E ⟨bs,0,O⟩),pn (E ⟨bf,0,O⟩)] (zs.map fun z=>-z) where
 Y:=fun k v W=>∃(t:WT) (z:Int),zs[k]? =E z/\v=#[t.val]/\zY W t.val (-z)
 C:=fun W=>W.cell? ⟨bs,0,O⟩=E (V fa ts.length fc)/\W.cell? ⟨bf,0,O⟩=E (.func (.func 209) #[] #[])/\Qk W 101 (V fa ts.length fc) 2 (ts.map WT.cells)/\∀(i:Nat) (t:WT) (z:Int),ts[i]? =E t->zs[i]? =E z->zY W t.val z
 seq:=by
  rw[zo];exact(znO fa fc fc zs ts h1 bs bf hn).weaken (fun W h=>⟨h.1,h.2.1,h.2.2.1.recs,h.2.2.2⟩)
 ent:=ZJ Tryz.func379 (by kernel_rfl) rfl
 val:=by
  rintro k v W x hx ⟨t,z,hz,rfl,ht⟩;rw[zQ,hz]at hx;simp only[Zz,z7]at hx;subst hx;exact⟨t,rfl,ht⟩
 one:=by
  rintro k v W ⟨t,z,hz,rfl,ht⟩;rfl
 now:=⟨hs,hf,h2,h3⟩
 old:=zcA (zbg (zN hs)) (zcA (zbg (zN hf)) (zcA (zj3 h2) (zfS fun i=>zfS fun t=>zfS fun z=>fun A B hA hh ht hz=>zbu (h3 i t z ht hz) A B (hA ht hz) hh)))
theorem zfp (w:H)(r:RW)(x:List Int×Int)(h:QC w r x)(hn:x.1.length<=100000):
 Calls pg 340 #[r.val] w fun e w'=>∃X:RW,e= .returned X.val/\QC w' X (x.1.map (fun z=>-z),-x.2)/\(∀g,X.fv.ownBlock=E g->w.heap.size<=g)/\Below w.heap.size w w':=by
 obtain⟨⟨i,_,j⟩,s,q,y,u⟩:=r;obtain⟨⟨k,Z,I,h3⟩,hm⟩:=h;obtain⟨_,_,e⟩:=I.shape;rw[zo]at e;simp only[RW.fv,zV]at e;obtain⟨rfl,rfl,rfl⟩:=e;simp only[RW.val,RW.fv,WT.sv,WT.val]at I hm⊢;have H1:=zi Z;have H2:=zi I;have H3:=zi h3;clear Z I h3;have l:Ext w ((w.alloc (cl #[V i k.length j,G s,V q y u] 174)).alloc (cl #[V O 0 0,G false,V O 0 0] 174)):=((Ext.refl w).alloc _).alloc _;obtain⟨J,R⟩:=T.zbs w (cl #[V i k.length j,G s,V q y u] 174) (cl #[V O 0 0,G false,V O 0 0] 174);go_enter func340,ntmps340
 go_wp2_with fail
 generalize (w.alloc (cl #[V i k.length j,G s,V q y u] 174)).alloc (cl #[V O 0 0,G false,V O 0 0] 174)=a at *;have P:=zi (fun W (b:Ext a W)=>And.intro (b.cell (c_ 0 J)) (And.intro (b.cell (c_ 1 J)) (b.cell (c_ 2 J))));have HB:=zi (fun W (b:Ext a W)=>(b.block _ (zf.1 R).1).trans R);have y0:=Ext.refl a;obtain⟨_,_,_⟩:=P.out a y0;have a3:Hid (∀(W:H) (d:Nat) (t:WT),Ext a W->zY W t.val (-x.2)->W.cell? ⟨d,0,O⟩=E (V i k.length j)->W.cell? ⟨d+1,0,O⟩=E (.func (.func 209) #[] #[])->Calls pg 250 #[.func (.func 379) #[] #[pn (E ⟨d,0,O⟩),pn (E ⟨d+1,0,O⟩)],ag #[G t.b,V t.s.1 t.s.2.1 t.s.2.2]] W fun e w'=>∃r:RW,e= .returned r.val/\QC w' r (x.1.map (fun z=>-z),-x.2)/\(∀g,r.fv.ownBlock=E g->W.heap.size<=g)/\Below W.heap.size W w'):=by
  intro W d t b U p hf;exact zew W _ _ (x.1.map fun z=>-z) (turnedSeq om H1.out (H2.out.ext (l.trans b)) (fun aa t z a7 a9=>(H3.out aa t z a7 a9).below (l.trans b)) p hf) (by rw[zo];exact hn) t (-x.2) U
 have a4:Hid (∀W,Ext a W->Calls pg 209 #[ag #[G s,V q y u]] W fun e w'=>∃t:WT,e= .returned (ag #[G t.b,V t.s.1 t.s.2.1 t.s.2.2])/\zY w' (ag #[G t.b,V t.s.1 t.s.2.1 t.s.2.2]) (-x.2)/\Below W.heap.size W w'):=by
  intro W b;refine(zeC W _ x.2 (hm.below (l.trans b))).mono ?_;rintro e w' ⟨_,rfl,hy,p⟩;obtain⟨t,rfl⟩:=hy.shape;exact⟨t,rfl,hy,p⟩
 clear J R;go_region_held3 (fun W=>W.cell? ⟨w.heap.size,0,O⟩=E (V i k.length j)/\W.cell? ⟨w.heap.size,1,O⟩=E (G s)/\W.cell? ⟨w.heap.size,2,O⟩=E (V q y u)) (first|(exact P.out _ ea)|(have Q:=P.out c N;exact⟨js om Q.1,js om Q.2.1,js om Q.2.2⟩)|go_keep) (first|(go_at_call 250;have _g:=M;refine(a3.out w2 _ tT M a6 ((Ext.of S).cell k0) ((Ext.of S).cell k1)).mono ?_;rintro e c ⟨⟨⟨m,o,n⟩,C,A,F,D⟩,rfl,a1,a0,a5⟩;have N:Ext a c:=M.trans (Ext.of a5);have f:=HB.out c N;have g0:=c_ 0 f;have g1:=c_ 1 f;have g2:=c_ 2 f;have f0:c.frozen? ⟨w.heap.size+1,0,O⟩=false:=T.ZX f;have f1:c.frozen? ⟨w.heap.size+1,1,O⟩=false:=T.ZX f;have f2:c.frozen? ⟨w.heap.size+1,2,O⟩=false:=T.ZX f;simp only[RW.val,RW.fv,WT.sv])|(go_at_call 209;have _g:=Y;refine(a4.out L Y).mono ?_;rintro e w2 ⟨tT,rfl,a6,S⟩;have M:Ext a w2:=Y.trans (Ext.of S))|(go_at_call 348;refine(zon i k.length j 209 _).mono ?_;rintro e L ⟨rfl,K⟩;have Y:Ext a L:=(by rw[K];exact(y0.drew.alloc _).alloc _);have k0:L.cell? ⟨a.drew.heap.size,0,O⟩=E (V i k.length j):=(by rw[K];exact c_ 0 (T.zbs _ _ _).1);have k1:L.cell? ⟨a.drew.heap.size+1,0,O⟩=E (.func (.func 209) #[] #[]):=(by rw[K];exact c_ 0 (T.zbs _ _ _).2);clear K))
 all_goals
  have hw:Wr (fun d=>d=w.heap.size+1) c (((c.setCell ⟨w.heap.size+1,0,O⟩ (V m o n)).setCell ⟨w.heap.size+1,1,O⟩ (G C)).setCell ⟨w.heap.size+1,2,O⟩ (V A F D)):=zd5 rfl _ _ _;have HR:Hid (QC (((c.setCell ⟨w.heap.size+1,0,O⟩ (V m o n)).setCell ⟨w.heap.size+1,1,O⟩ (G C)).setCell ⟨w.heap.size+1,2,O⟩ (V A F D)) ⟨(m,o,n),C,A,F,D⟩ (x.1.map (fun z=>-z),-x.2)):=by
   refine QC.wr a1 hw (fun d p=>?_);subst p;exact⟨fun U=>absurd (U.one ⟨_,_,f⟩) dc,qj f n3⟩
  have HF:=zi (hw.below (B:=w.heap.size) (by have:=(l.trans N).size;omega) (fun ab hk=>om));have a2:=zi a0;have a8:=(l.trans M).size;have HX:=zi ((l.trans N));clear a1 a0;go_wp2;exact zH (v:=ag #[V m o n,G C,V A F D]) (by simp[results,results340,go_sem,g0,g1,g2]) rfl ⟨⟨(m,o,n),C,A,F,D⟩,rfl,HR.out,fun g hg=>zL a8 (a2.out g hg),ZA HX.out HF.out⟩
attribute [local go_sem] qm qW ZR
def zck (w0:H)(gb:Nat)(n:Nat)(p:Nat->Prop)(k:Nat)(M:Nat->Prop)(A:H):Prop:=Ext w0 A/\k<=n/\(∀i,i<k->p i)/\∀b,M b↔b=gb
def zcl (w:H)(gb:Nat)(p:Nat->Prop)(c:Code)(k:Nat)(A:H):Prop:=c= .ret/\¬p k/\Below w.heap.size w A/\A.cell? ⟨gb,0,O⟩=E (G false)
theorem zck.keep {a A B:H}{gb n:Nat}{p:Nat->Prop}{k:Nat}{M:Nat->Prop}(h:zck a gb n p k M A)(b:zw a.heap.size A B):zck a gb n p k M B:=⟨b.below h.1 (zh _) (zh _),h.2⟩
theorem zcl.keep {w A B:H}{gb C:Nat}{p:Nat->Prop}{c:Code}{k:Nat}(h:zcl w gb p c k A)(a:zw C A B)(b:w.heap.size<=C):zcl w gb p c k B:=⟨h.1,h.2.1,a.below h.2.2.1 b (zh _),a.cell h.2.2.2⟩
theorem zj4 (w:H)(r:RW)(x:List Int×Int)(h:QC w r x)(a:x.1.length<=100000):
 Calls pg 160 #[r.val] w fun e w'=>e= .returned (G (x.1.all (fun z=>decide (z=0))&&decide (x.2<0)))/\Below w.heap.size w w':=by
 obtain⟨⟨a,_,i⟩,j,c,n,k⟩:=r;obtain⟨⟨f,b,g,d⟩,K⟩:=h;obtain⟨_,_,e⟩:=g.shape;rw[zo]at e;simp only[RW.fv,zV]at e;obtain⟨rfl,rfl,rfl⟩:=e;simp only[RW.val,RW.fv,WT.sv,WT.val]at g K⊢;have B:=zi b;have o:=zi g;have s:=zi d;have l:f.length<=100000:=om;clear b g d;have I:Ext w ((w.alloc (cl #[V a f.length i,G j,V c n k] 174)).alloc (cl #[G false] 4)):=((Ext.refl w).alloc _).alloc _;obtain⟨l,m⟩:=T.zbs w (cl #[V a f.length i,G j,V c n k] 174) (cl #[G false] 4);refine JO func160 ntmps160 (h:=?_);gi_wp2;generalize (w.alloc (cl #[V a f.length i,G j,V c n k] 174)).alloc (cl #[G false] 4)=j at *;refine(zS.2 (zfo a f.length i j)).mono ?_;rintro e c ⟨rfl,k⟩;have q:Ext j c:=by rw[k];exact((Ext.refl j).alloc _).alloc _
 have v:c.cell? ⟨j.heap.size+1,0,O⟩=E (V a f.length i):=by rw[k];exact c_ 0 (T.zbs _ _ _).2
 clear k;have n:=I.trans q;have N:=zi (fun W (k:Ext j W)=>And.intro (k.cell (c_ 0 l)) (And.intro (k.cell (c_ 1 l)) (k.cell (c_ 2 l))));have t:=zi (fun W (k:Ext j W)=>(k.block _ (zf.1 m).1).trans m);clear l m;gi_wp2;refine jB (zef f a i (j.heap.size+1) om) rfl (ZJ func285 kr rfl) (fun k m W=>by rintro⟨_,_,rfl⟩;rfl)
  (zck c (w.heap.size+1) f.length (fun i=>x.1.getD i 0=0)) (zcl w (w.heap.size+1) (fun i=>x.1.getD i 0=0)) (fun a=>a=w.heap.size+1) ?hI ?hIx ?hC ?h0 ?round ?done ?stop
 case hI=>exact fun k M A l h u=>h.keep u
 case hIx=>exact fun P k A l h u=>h.keep u n.size
 case hC=>
  rintro k M A ⟨b,g,d,p⟩;refine⟨⟨b.cell v,(o.out.ext (n.trans b)).recs⟩,fun a l=>?_⟩;have:=(zf.1 (t.out A (q.trans b))).1;rw[(p a).1 l];exact this
 case h0=>exact⟨Ext.refl _,qp _,fun i J=>om,fun a=>Ql⟩
 case round=>
  rintro R k m M A Q ⟨l,m,rfl⟩ ⟨b,g,d,p⟩;have a:k<x.1.length:=by have:=B.out;omega
  have v:x.1[k]? =E (x.1.getD k 0):=by rw[zk,zj a];rfl
  have a:=(s.out k l _ m v).below (n.trans b);obtain⟨z,hzz⟩:∃z,x.1.getD k 0=z:=⟨_,rfl⟩;rw[hzz]at a;have D:=zi hzz;clear hzz v;obtain⟨C,y,L,F⟩:=l;simp only[WT.val,WT.sv]at a⊢;unfold Qr;gi_wp2;refine⟨Wr.of_below ((Ext.refl A).alloc _),fun s m=>?_⟩;have o:=(zw.alloc c.heap.size A (cl #[G C,V y L F] 101)).trans m;have S:Ext c s:=o.below b (zh _) (zh _);have l:=m.block _ _ (zq A (cl #[G C,V y L F] 101)) (.inr rfl);have m:=c_ 0 l;have m:=c_ 1 l;have l:=a.keep o;gi_wp2;refine(Zr R (zS.2 (sign_any s _ z l))).mono ?_;rintro e a ⟨rfl,l⟩;have m:=S.trans (Ext.of l);have o:=t.out a (q.trans m);have F:=c_ 0 o;have L:a.frozen? ⟨w.heap.size+1,0,O⟩=false:=T.ZX o;by_cases y:z=0
  ·have R:z.sign=0:=by rw[y];rfl
   have C:Hid (Qs M (zck c (w.heap.size+1) f.length (fun i=>x.1.getD i 0=0)) (zcl w (w.heap.size+1) (fun i=>x.1.getD i 0=0)) k A s .normal { tmps:=#[],defers:= [] } a):=
    ⟨Wr.of_below l,M,⟨m,Q,fun i J=>by
     rcases Z8 i k with h|h
     ·exact d i h
     ·have:i=k:=om;rw[this,D.out,y],p⟩,fun Q Q=> .inl Q⟩
   gi_wp2;exact C.out
  ·have R:¬z.sign=0:=fun h=>y (zbA.1 h)
   have C:Hid (Qs M (zck c (w.heap.size+1) f.length (fun i=>x.1.getD i 0=0)) (zcl w (w.heap.size+1) (fun i=>x.1.getD i 0=0)) k A s .ret { tmps:=#[],defers:= [] } (a.setCell ⟨w.heap.size+1,0,O⟩ (G false))):=
    ⟨(Wr.of_below l).trans (qS ((p _).2 rfl) _),rfl,(fun h=>y (D.out.symm.trans h)),Qu (n.trans m) sp _,zu _ _ _ F⟩
   gi_wp2;exact C.out
 case done=>
  rintro D M A s ⟨b,g,d,p⟩ f;have p:=q.trans b;obtain⟨_,_,_⟩:=N.out A p;have y:Hid (x.1.all (fun z=>decide (z=0))=true):=by
   rw[Hid,qR];intro z v;obtain⟨i,J,rfl⟩:=QS v;have:x.1.getD i 0=0:=d i (by have:=B.out;omega);rw[zk,zj J]at this;simpa using this
  have i:=zi (sign_any A _ x.2 (K.below (I.trans p)));clear d;gi_wp2;refine(zS.2 i.out).mono ?_;rintro e a ⟨rfl,l⟩;have m:=p.trans (Ext.of l);have o:=t.out a m;have F:=c_ 0 o;have L:a.frozen? ⟨w.heap.size+1,0,O⟩=false:=T.ZX o;have i:=((Ext.of l).block D (zf.1 f).1).trans f;gi_wp2;have j:=(zf.1 (t.out c q)).1;have j:(a.setCell ⟨w.heap.size+1,0,O⟩ (G (decide (x.2<0)))).heap[D]? =E (.deferred (E [])):=(zK _ _ _ _ so).trans i;refine qt j ?_;have i:zw c.heap.size (a.setCell ⟨w.heap.size+1,0,O⟩ (G (decide (x.2<0)))) ((a.setCell ⟨w.heap.size+1,0,O⟩ (G (decide (x.2<0)))).putObj D (.deferred O)):=zw.putObj _ s j rfl;have j:=i.cell (zu _ _ (G (decide (x.2<0))) F);have l:Below w.heap.size w (a.setCell ⟨w.heap.size+1,0,O⟩ (G (decide (x.2<0)))):=Qu (I.trans m) sp _;exact⟨G (decide (x.2<0)),by simp[results,results160,go_sem,j],by rw[y.out];rfl,(i.mono n.size).below l (zh _) (zh _)⟩
 case stop=>
  rintro D P k A s u ⟨rfl,b,g,d⟩ f;gi_wp2;refine qt f ?_;have i:zw c.heap.size A (A.putObj D (.deferred O)):=zw.putObj _ s f rfl;have j:=i.cell d;have d:(x.1.all fun z=>decide (z=0))=false:=by
   rw[QT];have c:k<x.1.length:=by have:=B.out;omega
   refine⟨x.1[k],zZ c,?_⟩;have a:=b;rw[zk,zj c]at a;simpa using a
  exact⟨G false,by simp[results,results160,go_sem,j],by rw[d];rfl,(i.mono n.size).below g (zh _) (zh _)⟩
theorem QC.open {w:H}{r:RW}{x:List Int×Int}(h:QC w r x):∃(a:Option Addr) (b:Nat) (t:WT) (ts:List WT),r=⟨(a,ts.length,b),t⟩/\ts.length=x.1.length/\Qk w 101 (V a ts.length b) 2 (ts.map WT.cells)/\(∀(i:Nat) (t:WT) (z:Int),ts[i]? =E t->x.1[i]? =E z->zY w t.val z)/\zY w t.val x.2:=by
 obtain⟨⟨a,_,b⟩,t⟩:=r;obtain⟨⟨ts,d,c,f⟩,g⟩:=h;obtain⟨_,_,e⟩:=c.shape;rw[zo]at e;simp only[RW.fv,zV]at e;obtain⟨rfl,rfl,rfl⟩:=e;exact⟨a,b,t,ts,rfl,d,c,f,g⟩
theorem znP (K:Nat)(hK:K<=1073741823)(w:H)(r s:RW)(x y:List Int×Int)(h:QC w r x)(k:QC w s y)(hl:x.1.length=y.1.length)(hn:x.1.length<=100000)(bx:(∀z∈x.1,z.natAbs<4294967296^K)/\x.2.natAbs<4294967296^K)(al:(∀z∈y.1,z.natAbs<4294967296^K)/\y.2.natAbs<4294967296^K):
 Calls pg 253 #[r.val,s.val] w fun e w'=>e= .returned (G (decide (x=y)))/\Below w.heap.size w w':=by
 obtain⟨f,g,⟨v,u,C,B⟩,a,rfl,b,o,m,hm⟩:=h.open;obtain⟨j,l,⟨F,D,J,I⟩,ss,rfl,an,a2,ao,au⟩:=k.open;have ae:ss.length=a.length:=om;rw[ae]at a2⊢;simp only[RW.val,RW.fv,WT.sv,WT.val]at o hm a2 au⊢;have H1:=zi b;have H2:=zi o;have H3:=zi m;have aT:=zi an;have ax:=zi a2;have ay:=zi ao;have aE:=zi ae;have aW:a.length<=100000:=om;have ah:=zi bx;have ai:=zi al;clear b o m an a2 ao ae bx al h k;have a5:Ext w (((w.alloc (cl #[V f a.length g,G v,V u C B] 174)).alloc (cl #[V j a.length l,G F,V D J I] 174)).alloc (cl #[G false] 4)):=(((Ext.refl w).alloc _).alloc _).alloc _;have a3:(((w.alloc (cl #[V f a.length g,G v,V u C B] 174)).alloc (cl #[V j a.length l,G F,V D J I] 174)).alloc (cl #[G false] 4)).heap[w.heap.size]? =E (cl #[V f a.length g,G v,V u C B] 174):=(zI _ _ _ so).trans (T.zbs w _ _).1;have a4:(((w.alloc (cl #[V f a.length g,G v,V u C B] 174)).alloc (cl #[V j a.length l,G F,V D J I] 174)).alloc (cl #[G false] 4)).heap[w.heap.size+1]? =E (cl #[V j a.length l,G F,V D J I] 174):=(zI _ _ _ sp).trans (T.zbs w _ _).2;have a9:(((w.alloc (cl #[V f a.length g,G v,V u C B] 174)).alloc (cl #[V j a.length l,G F,V D J I] 174)).alloc (cl #[G false] 4)).heap[w.heap.size+1+1]? =E (cl #[G false] 4):=by
  have:=zq ((w.alloc (cl #[V f a.length g,G v,V u C B] 174)).alloc (cl #[V j a.length l,G F,V D J I] 174)) (cl #[G false] 4);simpa using this
 refine JO func253 ntmps253 (h:=?_);gi_wp2;generalize ((w.alloc (cl #[V f a.length g,G v,V u C B] 174)).alloc (cl #[V j a.length l,G F,V D J I] 174)).alloc (cl #[G false] 4)=n at *;refine(zS.2 (zgr f j a.length g a.length l n)).mono ?_;rintro e d ⟨rfl,a7⟩;have Y:Ext n d:=by rw[a7];exact((Ext.refl n).alloc _).alloc _
 have k1:d.cell? ⟨n.heap.size,0,O⟩=E (V f a.length g):=by rw[a7];exact c_ 0 (T.zbs _ _ _).1
 have k2:d.cell? ⟨n.heap.size+1,0,O⟩=E (V j a.length l):=by rw[a7];exact c_ 0 (T.zbs _ _ _).2
 clear a7;have q:=a5.trans Y;have HM:=zi (fun a0 (p:Ext n a0)=>And.intro (p.cell (c_ 0 a3)) (And.intro (p.cell (c_ 1 a3)) (And.intro (p.cell (c_ 2 a3)) (And.intro (p.cell (c_ 0 a4)) (And.intro (p.cell (c_ 1 a4)) (p.cell (c_ 2 a4)))))));have HR:=zi (fun a0 (p:Ext n a0)=>(p.block _ (zf.1 a9).1).trans a9);clear a3 a4 a9;gi_wp2;refine jB (zfQ a ss aE.out.symm f j g l n.heap.size (n.heap.size+1) om) rfl (ZJ func349 kr rfl) (fun k aS a0=>by rintro⟨_,s,_,_,rfl⟩;rfl)
  (zck d (w.heap.size+1+1) a.length (fun i=>x.1.getD i 0=y.1.getD i 0)) (zcl w (w.heap.size+1+1) (fun i=>x.1.getD i 0=y.1.getD i 0)) (fun a1=>a1=w.heap.size+1+1) ?hI ?hIx ?hC ?h0 ?round ?done ?stop
 case hI=>exact fun k M A aw h hk=>h.keep hk
 case hIx=>exact fun N k A aw h hk=>h.keep hk q.size
 case hC=>
  rintro k M A ⟨b,o,m,U⟩;refine⟨⟨b.cell k1,b.cell k2,(H2.out.ext (q.trans b)).recs,(ax.out.ext (q.trans b)).recs⟩,fun a1 hb=>?_⟩;have:=(zf.1 (HR.out A (Y.trans b))).1;rw[(U a1).1 hb];exact this
 case h0=>exact⟨Ext.refl _,qp _,fun i hi=>om,fun a1=>Ql⟩
 case round=>
  rintro l2 k aS M A aN ⟨t0,s0,aR,aQ,rfl⟩ ⟨b,o,m,U⟩;have aP:k<x.1.length:=by have:=H1.out;omega
  have aO:k<y.1.length:=om;have hz:x.1[k]? =E (x.1.getD k 0):=by rw[zk,zj aP];rfl
  have af:y.1[k]? =E (y.1.getD k 0):=by rw[zk,zj aO];rfl
  have aa:=(H3.out k t0 _ aR hz).below (q.trans b);have ab:=(ay.out k s0 _ aQ af).below (q.trans b);have ap:=ah.out.1 _ (qJ hz);have aq:=ai.out.1 _ (qJ af);obtain⟨z,hzz⟩:∃z,x.1.getD k 0=z:=⟨_,rfl⟩;obtain⟨z',hzz'⟩:∃z,y.1.getD k 0=z:=⟨_,rfl⟩;rw[hzz]at aa ap;rw[hzz']at ab aq;have aj:=zi hzz;have ak:=zi hzz';clear hzz hz hzz' af;obtain⟨yb,ya,yl,yc⟩:=t0;obtain⟨pb,pa,pl,pc⟩:=s0;simp only[WT.val,WT.sv]at aa ab⊢;unfold Qr;gi_wp2;refine⟨Wr.of_below (((Ext.refl A).alloc _).alloc _),fun Z ad=>?_⟩;have xA:=((zw.alloc d.heap.size A (cl #[G yb,V ya yl yc] 101)).trans (zw.alloc d.heap.size _ (cl #[G pb,V pa pl pc] 101))).trans ad;have xE:Ext d Z:=xA.below b (zh _) (zh _);have e0:=ad.block _ _ (T.zbs A (cl #[G yb,V ya yl yc] 101) (cl #[G pb,V pa pl pc] 101)).1 (.inr rfl);have e1:=ad.block _ _ (T.zbs A (cl #[G yb,V ya yl yc] 101) (cl #[G pb,V pa pl pc] 101)).2 (.inr rfl);have d0:=c_ 0 e0;have d1:=c_ 1 e0;have d2:=c_ 0 e1;have d3:=c_ 1 e1;have aF:=aa.keep xA;have aG:=ab.keep xA;gi_wp2;refine(Zr l2 (zS.2 (zbJ Z _ _ z z' K hK aF aG ap aq))).mono ?_;rintro e c ⟨N,rfl,a6,t,aI,aJ,Q⟩;have R:=xE.trans (Ext.of Q);have S:=HR.out c (Y.trans R);have c3:=c_ 0 S;have f3:c.frozen? ⟨w.heap.size+1+1,0,O⟩=false:=T.ZX S;by_cases av:N=0
  ·have aB:=zi (t.1 av);have HF:Hid (Qs M (zck d (w.heap.size+1+1) a.length (fun i=>x.1.getD i 0=y.1.getD i 0)) (zcl w (w.heap.size+1+1) (fun i=>x.1.getD i 0=y.1.getD i 0)) k A Z .normal { tmps:=#[],defers:= [] } c):=
    ⟨Wr.of_below Q,M,⟨R,aN,fun i hi=>by
     rcases Z8 i k with h|h
     ·exact m i h
     ·have:i=k:=om;rw[this,aj.out,ak.out];exact aB.out,U⟩,fun y hy=> .inl hy⟩
   clear a6 t;gi_wp2;exact HF.out
  ·have aC:=zi (fun h=>av (t.2 h));have HF:Hid (Qs M (zck d (w.heap.size+1+1) a.length (fun i=>x.1.getD i 0=y.1.getD i 0)) (zcl w (w.heap.size+1+1) (fun i=>x.1.getD i 0=y.1.getD i 0)) k A Z .ret { tmps:=#[],defers:= [] } (c.setCell ⟨w.heap.size+1+1,0,O⟩ (G false))):=
    ⟨(Wr.of_below Q).trans (qS ((U _).2 rfl) _),rfl,(fun h=>aC.out (aj.out.symm.trans (h.trans ak.out))),Qu (q.trans R) so _,zu _ _ _ c3⟩
   clear a6 t;gi_wp2;exact HF.out
 case done=>
  rintro L M A hD ⟨b,o,m,U⟩ W;have a8:=Y.trans b;obtain⟨_,_,_,_,_,_⟩:=HM.out A a8;have az:Hid (x.1=y.1):=by
   rw[Hid];apply zcs hl;intro i hi aM;have:x.1.getD i 0=y.1.getD i 0:=m i (by have:=H1.out;omega);rw[zk,zj hi,zk,zj aM]at this;exact this
  have aD:=zi (zbJ A _ _ x.2 y.2 K hK (hm.below (a5.trans a8)) (au.below (a5.trans a8)) ah.out.2 ai.out.2);clear m;gi_wp2;refine(zS.2 aD.out).mono ?_;rintro e c ⟨N,rfl,a6,t,aI,aJ,Q⟩;have R:=a8.trans (Ext.of Q);have S:=HR.out c R;have c3:=c_ 0 S;have f3:c.frozen? ⟨w.heap.size+1+1,0,O⟩=false:=T.ZX S;have aK:=((Ext.of Q).block L (zf.1 W).1).trans W;have aU:=(zf.1 (HR.out d Y)).1;have aA:Hid ((N == 0)=decide (x=y)):=by
   rw[Hid,QD,beq_iff_eq,zbV,t];exact⟨fun h=>Prod.ext az.out h,fun h=>by rw[h]⟩
  clear a6 t;generalize aV:(N == 0)=P at *;gi_wp2;have ar:(c.setCell ⟨w.heap.size+1+1,0,O⟩ (G P)).heap[L]? =E (.deferred (E [])):=(zK _ _ _ _ so).trans aK;refine qt ar ?_;have X:zw d.heap.size (c.setCell ⟨w.heap.size+1+1,0,O⟩ (G P)) ((c.setCell ⟨w.heap.size+1+1,0,O⟩ (G P)).putObj L (.deferred O)):=zw.putObj _ hD ar rfl;have c9:=X.cell (zu _ _ (G P) c3);have aH:Below w.heap.size w (c.setCell ⟨w.heap.size+1+1,0,O⟩ (G P)):=Qu (a5.trans R) so _;exact⟨G P,by simp[results,results253,go_sem,c9],by rw[aA.out],(X.mono q.size).below aH (zh _) (zh _)⟩
 case stop=>
  rintro L N k A hD hk ⟨rfl,b,o,m⟩ W;gi_wp2;refine qt W ?_;have X:zw d.heap.size A (A.putObj L (.deferred O)):=zw.putObj _ hD W rfl;have c9:=X.cell m;have aL:decide (x=y)=false:=by
   rw[decide_eq_false_iff_not];intro e;exact b (by rw[e])
  exact⟨G false,by simp[results,results253,go_sem,c9],by rw[aL],(X.mono q.size).below o (zh _) (zh _)⟩
theorem zfb {w:H}{g b j:Nat}{u c d:Value}(e:b≠g)(h:w.cell? ⟨b,j,O⟩=E u):((w.setCell ⟨g,0,O⟩ c).setCell ⟨g,1,O⟩ d).cell? ⟨b,j,O⟩=E u:=by
 rw[zP (w:=w) (a:=⟨b,j,O⟩)];·exact h
 ·exact(zK _ _ _ _ so).trans (zK _ _ _ _ so)
theorem Qk.lt {w:H}{t:TypeId}{v:Value}{size:Nat}{a:List (List Value)}(h:Qk w t v size a):∀g,v.ownBlock=E g->g<w.heap.size:=by
 intro g a;rcases h with ⟨e,_⟩|⟨b,_,_,e,_,c,_⟩
 ·rw[e]at a;cases a
 ·rw[e]at a;have:b=g:=by simpa[Value.ownBlock]using a
  rw[<-this];exact c.lt
theorem Qk.wr2 {U:Nat->Prop}{w w':H}{t:TypeId}{v:Value}{size:Nat}{a:List (List Value)}(h:Qk w t v size a)(d:Wr U w w')(j:∀g,v.ownBlock=E g->¬U g):Qk w' t v size a:=by
 rcases h with h|⟨g,e,f,a,i,b,k⟩
 ·exact Or.inl h
 ·have c:=j g (by rw[a];rfl);exact Or.inr ⟨g,e,f,a,i,b.same (d.block g b.lt c),fun i a b j u f=>d.cell (p:=⟨g,e+i*size+j,O⟩) c (k i a b j u f)⟩
def AccI (w1:H)(gs n:Nat)(d:Nat->Int)(k:Nat)(M:Nat->Prop)(A:H):Prop:=
 Wr (fun b=>b=gs) w1 A/\k<=n/\(∃(t:WT) (fr:Nat×Nat),A.heap[gs]? =E (cl #[G t.b,t.sv] 101 fr)/\A.frozen? ⟨gs,0,O⟩=false/\A.frozen? ⟨gs,1,O⟩=false/\zY A t.val (d k))/\∀b,M b↔b=gs
theorem AccI.keep {c A B:H}{b n:Nat}{d:Nat->Int}{k:Nat}{M:Nat->Prop}(h:AccI c b n d k M A)(f:zw c.heap.size A B):AccI c b n d k M B:=by
 obtain⟨i,j,⟨t,g,c,l,m,o⟩,p⟩:=h;have e:=f.block _ _ c (.inr rfl);exact⟨i.keep f,j,⟨t,g,e,(zt (w:=A) (a:=⟨b,0,O⟩) (e.trans c.symm)).trans l,(zt (w:=A) (a:=⟨b,1,O⟩) (e.trans c.symm)).trans m,o.keep f⟩,p⟩
theorem zoo (a d:Option Addr)(c b g f:Nat)(w:H):
 Calls pg 329 #[ag #[V a c b],V d g f] w fun e w'=>e= .returned (.func (.func 349) #[] #[pn (E ⟨w.heap.size+1,0,O⟩),pn (E ⟨w.heap.size+1+1,0,O⟩)])/\w'=((w.alloc (cl #[V a c b] 172)).alloc (cl #[V a c b] 158)).alloc (cl #[V d g f] 158):=by
 go_enter func329,ntmps329
 go_wp2_with fail
 refine(zgr a d c b g f _).mono ?_;rintro e a ⟨rfl,rfl⟩;go_wp2;go_ret;exact⟨sp,rfl⟩
theorem zig (K:Nat)(d:K+K<=1073741823)(w:H)(r X:Option Addr)(s Y:Nat)(ts Q:List WT)(zs f:List Int)(h1:ts.length=zs.length)(h2:Qk w 101 (V r ts.length s) 2 (ts.map WT.cells))(o:∀(i:Nat) (t:WT) (z:Int),ts[i]? =E t->zs[i]? =E z->zY w t.val z)
 (ax:Q.length=f.length) (ad:Qk w 101 (V X Q.length Y) 2 (Q.map WT.cells)) (ay:∀(i:Nat) (t:WT) (z:Int),Q[i]? =E t->f[i]? =E z->zY w t.val z) (hl:zs.length=f.length) (hn:zs.length<=100000)
 (bz:∀z∈zs,z.natAbs<4294967296^K) (bx:∀z∈f,z.natAbs<4294967296^K) (bm:∀a∈zs,∀b∈f,(a*b).natAbs<4294967296^K) (bs:∀j,(T.ju (zs.take j) (f.take j)).natAbs<4294967296^K):
 Calls pg 252 #[ag #[V r ts.length s],V X Q.length Y] w fun e w'=>∃t:WT,e= .returned t.val/\zY w' t.val (T.ju zs f)/\Below w.heap.size w w':=by
 have an:Q.length=ts.length:=om;rw[an]at ad⊢;have H1:=zi h1;have H2:=zi h2;have H3:=zi o;have bd:=zi ax;have au:=zi ad;have aO:=zi ay;have aV:=zi an;have bh:ts.length<=100000:=om;have aS:=zi bz;have aR:=zi bx;have aP:=zi bm;have aQ:=zi bs;clear h1 h2 o ax ad ay an bz bx bm bs;have aY:Ext w (((w.alloc (cl #[V r ts.length s] 172)).alloc (cl #[G false,V O 0 0] 101)).alloc (cl #[G false,V O 0 0] 101)):=(((Ext.refl w).alloc _).alloc _).alloc _;have aX:(((w.alloc (cl #[V r ts.length s] 172)).alloc (cl #[G false,V O 0 0] 101)).alloc (cl #[G false,V O 0 0] 101)).heap[w.heap.size]? =E (cl #[V r ts.length s] 172):=(zI _ _ _ so).trans (T.zbs w _ _).1;have af:(((w.alloc (cl #[V r ts.length s] 172)).alloc (cl #[G false,V O 0 0] 101)).alloc (cl #[G false,V O 0 0] 101)).heap[w.heap.size+1]? =E (cl #[G false,V O 0 0] 101):=(zI _ _ _ sp).trans (T.zbs w _ _).2;have ae:(((w.alloc (cl #[V r ts.length s] 172)).alloc (cl #[G false,V O 0 0] 101)).alloc (cl #[G false,V O 0 0] 101)).heap[w.heap.size+1+1]? =E (cl #[G false,V O 0 0] 101):=by
  have:=zq ((w.alloc (cl #[V r ts.length s] 172)).alloc (cl #[G false,V O 0 0] 101)) (cl #[G false,V O 0 0] 101);simpa using this
 refine JO func252 ntmps252 (h:=?_);gi_wp2;generalize (((w.alloc (cl #[V r ts.length s] 172)).alloc (cl #[G false,V O 0 0] 101)).alloc (cl #[G false,V O 0 0] 101))=u at *;refine(zS.2 (zoo r X ts.length s ts.length Y u)).mono ?_;rintro e v ⟨rfl,aa⟩;have x1:Ext u v:=by rw[aa];exact(((Ext.refl u).alloc _).alloc _).alloc _
 have k1:v.cell? ⟨u.heap.size+1,0,O⟩=E (V r ts.length s):=by rw[aa];exact(((Ext.refl _).alloc _).cell (c_ 0 (T.zbs _ _ _).2))
 have k2:v.cell? ⟨u.heap.size+1+1,0,O⟩=E (V X ts.length Y):=by
  rw[aa];have:=c_ 0 (zq ((u.alloc (cl #[V r ts.length s] 172)).alloc (cl #[V r ts.length s] 158)) (cl #[V X ts.length Y] 158));simpa using this
 clear aa;have J:=aY.trans x1;have b4:=(zf.1 ae).1;have a1:=(x1.block _ b4).trans ae;have HR:=zi ((x1.block _ (zf.1 af).1).trans af);clear aX ae af;have bi:=x1.size;gi_wp2;refine jB (zfQ ts Q aV.out.symm r X s Y (u.heap.size+1) (u.heap.size+1+1) om) rfl (ZJ func349 kr rfl) (fun k bb W=>by rintro⟨t,_,_,_,rfl⟩;rfl)
  (AccI v (w.heap.size+1+1) ts.length (fun k=>T.ju (zs.take k) (f.take k))) (fun _ _ _=>False) (fun b=>b=w.heap.size+1+1) ?hI ?hIx ?hC ?h0 ?round ?done ?stop
 case hI=>exact fun k a3 A bc N hk=>N.keep hk
 case hIx=>exact fun _ _ _ _ N _=>N
 case hC=>
  rintro k a3 A ⟨h1,h2,⟨t,fr,o,-⟩,h4⟩;refine⟨⟨h1.cell (p:=⟨u.heap.size+1,0,O⟩) so k1,h1.cell (p:=⟨u.heap.size+1+1,0,O⟩) so k2,((H2.out.ext J).wr2 h1 (fun ab hg e=>by have:=H2.out.lt ab hg;omega)).recs,((au.out.ext J).wr2 h1 (fun ab hg e=>by have:=au.out.lt ab hg;omega)).recs⟩,fun b q=>?_⟩;rw[(h4 b).1 q];exact(zf.1 o).1
 case h0=>exact⟨Wr.refl _ _,qp _,⟨⟨false,O,0,0⟩,(0,0),a1,T.ZX a1,T.ZX a1,⟨false,V O 0 0,rfl,NatV.zero _ _ _,rfl⟩⟩,fun b=>Ql⟩
 case round=>
  rintro l2 k bb a3 A b5 ⟨t0,s0,b9,b8,rfl⟩ ⟨h1,h2,⟨⟨h,g,m,l⟩,fr,o,aj,ak,Z⟩,h4⟩;have a9:k<zs.length:=by have:=H1.out;omega
  have a8:k<f.length:=om;have hz:=zj a9;have aI:=zj a8;have aD:∀b,b=w.heap.size+1+1->qU v b:=fun b q=>by rw[q];exact qj a1 (by intro aM I;simp at I;rcases I with rfl|rfl<;>(intro aJ e;cases e))
  have ah:=((H3.out k t0 _ b9 hz).below J).wr h1 aD;have ai:=((aO.out k s0 _ b8 aI).below J).wr h1 aD;have aA:=aS.out _ (zZ a9);have aB:=aR.out _ (zZ a8);have a0:=aP.out _ (zZ a9) _ (zZ a8);have av:=zi (T.zmq a9 a8);have a5:=aQ.out k;generalize zs[k]=z at *;generalize f[k]=R at *;obtain⟨L,hdk⟩:∃L,T.ju (zs.take k) (f.take k)=L:=⟨_,rfl⟩;have az:zY A (ag #[G h,V g m l]) L:=by rw[<-hdk];exact Z
  rw[hdk]at a5 av;have be:=zi hdk;clear hz aI hdk Z;obtain⟨yb,ya,yl,yc⟩:=t0;obtain⟨pb,pa,pl,pc⟩:=s0;simp only[WT.val,WT.sv]at ah ai o⊢;unfold Qr;gi_wp2;refine⟨Wr.of_below (((Ext.refl A).alloc _).alloc _),fun c al=>?_⟩;have xA:=((zw.alloc v.heap.size A (cl #[G yb,V ya yl yc] 101)).trans (zw.alloc v.heap.size _ (cl #[G pb,V pa pl pc] 101))).trans al;have e0:=al.block _ _ (T.zbs A (cl #[G yb,V ya yl yc] 101) (cl #[G pb,V pa pl pc] 101)).1 (.inr rfl);have e1:=al.block _ _ (T.zbs A (cl #[G yb,V ya yl yc] 101) (cl #[G pb,V pa pl pc] 101)).2 (.inr rfl);have M:=xA.block _ _ o (.inr rfl);have bf:=(zf.1 o).1;have a6:=(zf.1 M).1;have a2:Hid (∀W,Ext c W->W.cell? ⟨A.heap.size,0,O⟩=E (G yb)/\W.cell? ⟨A.heap.size,1,O⟩=E (V ya yl yc)/\W.cell? ⟨A.heap.size+1,0,O⟩=E (G pb)/\W.cell? ⟨A.heap.size+1,1,O⟩=E (V pa pl pc)):=fun W hW=>⟨hW.cell (c_ 0 e0),hW.cell (c_ 1 e0),hW.cell (c_ 0 e1),hW.cell (c_ 1 e1)⟩
  have ap:c.cell? ⟨w.heap.size+1+1,0,O⟩=E (G h):=c_ 0 M;have aq:c.cell? ⟨w.heap.size+1+1,1,O⟩=E (V g m l):=c_ 1 M;have aK:=(zt (w:=A) (a:=⟨w.heap.size+1+1,0,O⟩) (M.trans o.symm)).trans aj;have aL:=(zt (w:=A) (a:=⟨w.heap.size+1+1,1,O⟩) (M.trans o.symm)).trans ak;have aw:Hid (Calls pg 205 #[ag #[G yb,V ya yl yc],ag #[G pb,V pa pl pc]] c.drew fun e w'=>∃t:WT,e= .returned (ag #[G t.b,V t.s.1 t.s.2.1 t.s.2.2])/\zY w' (ag #[G t.b,V t.s.1 t.s.2.1 t.s.2.2]) (z*R)/\Below c.drew.heap.size c.drew w'):=by
   refine(zcH c.drew _ _ z R K K d (ah.keep (xA.trans (zw.drew _ _))) (ai.keep (xA.trans (zw.drew _ _))) aA aB).mono ?_;rintro e w' ⟨aN,rfl,P,q⟩;obtain⟨t,rfl⟩:=P.shape;exact⟨t,rfl,P,q⟩
  have aU:Hid (∀W,Ext c W->∀ao,zY W ao (z*R)->Calls pg 203 #[ag #[G h,V g m l],ao] W fun e w'=>∃t:WT,e= .returned (ag #[G t.b,V t.s.1 t.s.2.1 t.s.2.2])/\zY w' (ag #[G t.b,V t.s.1 t.s.2.1 t.s.2.2]) (L+z*R)/\Below W.heap.size W w'):=by
   intro W hW ao hq;refine(zep W _ _ L (z*R) K om ((az.keep xA).below hW) hq a5 a0).mono ?_;rintro e w' ⟨aN,rfl,P,q⟩;obtain⟨t,rfl⟩:=P.shape;exact⟨t,rfl,P,q⟩
  have aT:Hid (∀(n:H) (B:Bool) (y:Option Addr) (D C:Nat),Ext c n->zY n (ag #[G B,V y D C]) (L+z*R)->Qs a3 (AccI v (w.heap.size+1+1) ts.length (fun k=>T.ju (zs.take k) (f.take k))) (fun _ _ _=>False) k A c .normal { tmps:=#[],defers:= [] } ((n.setCell ⟨w.heap.size+1+1,0,O⟩ (G B)).setCell ⟨w.heap.size+1+1,1,O⟩ (V y D C))):=by
   intro n B y D C x hq;have e4:=(x.block _ a6).trans M;have aG:Wr (fun b=>b=w.heap.size+1+1) n ((n.setCell ⟨w.heap.size+1+1,0,O⟩ (G B)).setCell ⟨w.heap.size+1+1,1,O⟩ (V y D C)):=(qS (U:=fun b=>b=w.heap.size+1+1) rfl _).trans (qS (U:=fun b=>b=w.heap.size+1+1) rfl _);have aF:=(Wr.of_below x).trans aG;have e5:((n.setCell ⟨w.heap.size+1+1,0,O⟩ (G B)).setCell ⟨w.heap.size+1+1,1,O⟩ (V y D C)).heap[w.heap.size+1+1]? =E (cl #[G B,V y D C] 101 fr):=by
    rw[T.zev (T.zev e4)];rfl
   have b6:∀b,b=w.heap.size+1+1->qU n b:=fun b q=>by rw[q];exact qj e4 (by intro aM I;simp at I;rcases I with rfl|rfl<;>(intro aJ e;cases e))
   have f4:=fun j=>zt (w:=c) (a:=⟨w.heap.size+1+1,j,O⟩) (x.block _ a6)
   refine⟨aF.mono (fun b q=>(h4 b).2 q),a3,⟨(h1.keep xA).trans aF,b5,⟨⟨B,y,D,C⟩,fr,e5,?_,?_,?_⟩,h4⟩,fun aN P=> .inl P⟩;·simpa using (f4 0).trans aK
   ·simpa using (f4 1).trans aL
   ·have e6:=av.out;show zY _ _ (T.ju (zs.take (k+1)) (f.take (k+1)))
    rw[e6];exact hq.wr aG b6
  obtain⟨b0,b1,b2,b3⟩:=a2.out c (Ext.refl _);clear e0 e1 M h1 o aj ak ah ai az aA aB a0 a5;refine zaK ?_;refine zan (S:=fun W=>W.cell? ⟨A.heap.size,0,O⟩=E (G yb)/\W.cell? ⟨A.heap.size,1,O⟩=E (V ya yl yc)/\W.cell? ⟨A.heap.size+1,0,O⟩=E (G pb)/\W.cell? ⟨A.heap.size+1,1,O⟩=E (V pa pl pc)) kr (by rfl) (fun⟨a,w,N⟩=>N) ⟨b0,b1,b2,b3⟩ (fun a4=>?_);refine tkv 1 (h:=?_);refine tkv 2 (h:=?_);refine rd2 0 3 (h:=fun K d=>?_) (h1:=fun K d=>?_);go_simp;refine d.out _ _ am (h:=fun a4=>?_);clear d K;refine rd1 3 (h:=fun K d=>?_);go_simp;go_at_call 205
  refine aw.out.mono ?_;rintro e A3 ⟨⟨qb,qa,ql,qc⟩,rfl,aE,a0⟩;have F:=jG a0;have s3:=F.cell ap;have s4:=F.cell aq;go_wp2_with fail
  rotate_left;go_simp;go_at_call 205
  refine aw.out.mono ?_;rintro e A3 ⟨⟨qb,qa,ql,qc⟩,rfl,aE,a0⟩;have F:=jG a0;have s3:=F.cell ap;have s4:=F.cell aq;go_wp2_with fail
  refine d.out _ _ (by exact a2.out _ F) (h:=fun a4=>?_);clear d K;refine rd1 0 (h:=fun K d=>?_);go_simp;rotate_left;all_goals
   refine d.out _ _ (by exact a2.out _ F) (h:=fun a4=>?_);clear d K;refine rd1 4 (h:=fun K d=>?_);go_simp;go_at_call 203
   refine(aU.out A3 F _ aE).mono ?_;rintro e n ⟨⟨B,y,D,C⟩,rfl,b7,a5⟩;have x:=F.trans (Ext.of a5);have bj:=x.cell ap;have r4:=x.cell aq;have bk:=(zt (w:=c) (a:=⟨w.heap.size+1+1,0,O⟩) (x.block _ a6)).trans aK;have bl:=(zt (w:=c) (a:=⟨w.heap.size+1+1,1,O⟩) (x.block _ a6)).trans aL;go_wp2_with fail
   refine d.out _ _ (by exact a2.out _ x) (h:=fun a4=>?_);clear d K;refine rd1 5 (h:=fun K d=>?_);go_simp;refine d.out _ _ (by have d:=a2.out n x;exact⟨zfb om d.1,zfb om d.2.1,zfb om d.2.2.1,zfb om d.2.2.2⟩) (h:=fun a4=>?_);clear d K;refine QB kr ?_ _;exact aT.out n B y D C x b7
 case done=>
  rintro ar a3 A hD ⟨h1,h2,⟨⟨h,g,m,l⟩,fr,o,aj,ak,Z⟩,h4⟩ hd;simp only[WT.sv,WT.val]at o Z;have m0:=c_ 0 o;have m1:=c_ 1 o;have r1:=h1.some HR.out (fun e=>by have:w.heap.size+1=w.heap.size+1+1:=e;omega);have c0:=c_ 0 r1;have c1:=c_ 1 r1;have f0:A.frozen? ⟨w.heap.size+1,0,O⟩=false:=T.ZX r1;have f1:A.frozen? ⟨w.heap.size+1,1,O⟩=false:=T.ZX r1;have H5:Hid (zY A (ag #[G h,V g m l]) (T.ju zs f)):=by
   have e:T.ju (zs.take ts.length) (f.take ts.length)=T.ju zs f:=by rw[zy (by have:=H1.out;omega),zy (by have:=H1.out;omega)]
   rw[<-e];exact Z
  have bg:=(zf.1 HR.out).1;clear Z;gi_wp2;have aC:((A.setCell ⟨w.heap.size+1,0,O⟩ (G h)).setCell ⟨w.heap.size+1,1,O⟩ (V g m l)).heap[ar]? =E (.deferred (E [])):=(zK _ _ _ _ so).trans ((zK _ _ _ _ so).trans hd);refine qt aC ?_;have a7:zw v.heap.size ((A.setCell ⟨w.heap.size+1,0,O⟩ (G h)).setCell ⟨w.heap.size+1,1,O⟩ (V g m l)) (((A.setCell ⟨w.heap.size+1,0,O⟩ (G h)).setCell ⟨w.heap.size+1,1,O⟩ (V g m l)).putObj ar (.deferred O)):=zw.putObj _ hD aC rfl;have aH:Wr (fun b=>b=w.heap.size+1) A ((A.setCell ⟨w.heap.size+1,0,O⟩ (G h)).setCell ⟨w.heap.size+1,1,O⟩ (V g m l)):=(qS (U:=fun b=>b=w.heap.size+1) rfl _).trans (qS (U:=fun b=>b=w.heap.size+1) rfl _);have e9:((A.setCell ⟨w.heap.size+1,0,O⟩ (G h)).setCell ⟨w.heap.size+1,1,O⟩ (V g m l)).heap[w.heap.size+1]? =E (cl #[G h,V g m l] 101):=by
   rw[T.zev (T.zev r1)];rfl
  have c9:=a7.cell (c_ 0 e9);have aW:=a7.cell (c_ 1 e9);have ba:=H5.out.wr aH (fun b q=>by rw[q];exact qj r1 (by intro aM I;simp at I;rcases I with rfl|rfl<;>(intro aJ e;cases e)));have aZ:=(ZA J (h1.below (B:=w.heap.size) J.size (fun b q=>om))).trans (aH.below (by have:=J.size;have:=h1.size;omega) (fun b q=>om));exact⟨ag #[G h,V g m l],by simp[results,results252,go_sem,c9,aW],⟨h,g,m,l⟩,rfl,ba.keep a7,(a7.mono J.size).below aZ (zh _) (zh _)⟩
 case stop=>exact fun _ _ _ _ _ _ N _=>N.elim
end Go.Proofs.YtnhfdcfnojnofaaGreatDoor
namespace Go.Proofs.YtnhfdcfnojnofaaGreatDoor
open Go.RowKit
theorem zj5 (K:Nat)(p:K+K<=1073741823)(w:H)(r:RW)(x:List Int×Int)(h:QC w r x)(pa:Option Addr)(c f:Nat)(d:List Int)(M:Jm w (V pa c f) d)(q:x.1.length=d.length)(J:x.1.length<=100000)
 (A:∀z∈x.1,z.natAbs<4294967296^K) (y:∀z∈d,z.natAbs<4294967296^K) (u:∀a∈x.1,∀b∈d,(a*b).natAbs<4294967296^K) (s:∀j,(T.ju (x.1.take j) (d.take j)).natAbs<4294967296^K) (v:x.2.natAbs<4294967296^K):
 Calls pg 328 #[r.val,V pa c f] w fun e w'=>e= .returned (G (decide (T.ju x.1 d<=x.2)))/\Below w.heap.size w w':=by
 obtain⟨g,i,⟨l,k,n,m⟩,o,rfl,D,F,I,L⟩:=h.open;obtain⟨N,B,t,C⟩:=M;obtain⟨_,_,e⟩:=t.shape;rw[zo]at e;simp only[zV]at e;obtain⟨rfl,rfl,rfl⟩:=e;simp only[RW.val,RW.fv,WT.sv,WT.val]at L⊢;have M:=zi (fun W (c:Ext w W)=>zig K p W g pa i f o N x.1 d D (F.ext c) (fun f p z a b=>(I f p z a b).below c) B (t.ext c) (fun f p z a b=>(C f p z a b).below c) q J A y u s);have J:(T.ju x.1 d).natAbs<4294967296^K:=by
  have:=s x.1.length;rw[Zw,q,Zw]at this;exact this
 have N:Hid (∀W (c:Ext w W) q,zY W q (T.ju x.1 d)->Calls pg 151 #[q,ag #[G l,V k n m]] W fun e w'=>∃f:Int,e= .returned (it .i64 f)/\decide (f<=0)=decide (T.ju x.1 d<=x.2)/\Below W.heap.size W w'):=by
  intro W c q d;refine(zbJ W _ _ _ x.2 K om d (L.below c) J v).mono ?_;rintro e w' ⟨f,rfl,_,_,_,_,d⟩;refine⟨f,rfl,?_,d⟩;rw[Q8];omega
 have q:Ext w (w.alloc (cl #[V g o.length i,G l,V k n m] 174)):=(Ext.refl w).alloc _;have p:=zq w (cl #[V g o.length i,G l,V k n m] 174);clear D F I B t C A y u s v J;go_enter func328,ntmps328
 go_wp2_with fail
 generalize w.alloc (cl #[V g o.length i,G l,V k n m] 174)=d at *;have s:=zi (fun W (c:Ext d W)=>And.intro (c.cell (c_ 0 p)) (And.intro (c.cell (c_ 1 p)) (c.cell (c_ 2 p))));have c:=Ext.refl d;obtain⟨_,_,_⟩:=s.out d c;clear p;go_region_held3 (fun W=>W.cell? ⟨w.heap.size,0,O⟩=E (V g o.length i)/\W.cell? ⟨w.heap.size,1,O⟩=E (G l)/\W.cell? ⟨w.heap.size,2,O⟩=E (V k n m)) (first|(exact s.out _ ea)|go_keep) (first|(go_at_call 151;have c:=c;refine(N.out i (q.trans c) _ k).mono ?_;rintro e l ⟨f,rfl,g,f⟩;have m:Ext d l:=c.trans (Ext.of f))|(go_at_call 252;refine(M.out _ (by first|exact q.drew|exact q)).mono ?_;rintro e i ⟨⟨_,_,_,_⟩,rfl,k,f⟩;have c:Ext d i:=(by first|exact jG f|exact Ext.of f);simp only[WT.val,WT.sv]))
 all_goals
  have c:=zi g;clear g;go_wp2;go_ret;exact⟨by rw[<-c.out];rfl,q.trans m⟩
structure BT where
 m:T.Tri
 f:Option Addr×Nat×Nat
def BT.fv (b:BT):Value:=V b.f.1 b.f.2.1 b.f.2.2
def BT.val (b:BT):Value:=ag #[G b.m.b,b.m.up,b.m.down,b.fv]
def JU (w:H)(b:BT)(acc:List (Int×Nat)×(Int×Nat)):Prop:=zdZ w b.fv acc.1/\qP w b.m.val acc.2.1 acc.2.2
theorem JU.keep {B:Nat}{w w':H}{b:BT}{a:List (Int×Nat)×(Int×Nat)}(h:JU w b a)(c:zw B w w'):JU w' b a:=⟨h.1.keep c,h.2.keep c⟩
theorem JU.ext {w w':H}{b:BT}{a:List (Int×Nat)×(Int×Nat)}(h:JU w b a)(c:Ext w w'):JU w' b a:=h.keep (B:=0) (zw.of_below c)
theorem JU.wr {U:Nat->Prop}{w w':H}{b:BT}{a:List (Int×Nat)×(Int×Nat)}(h:JU w b a)(d:Wr U w w')(c:∀k,U k->¬QI w k 103/\qU w k):JU w' b a:=⟨h.1.wr d c,h.2.wr d (fun k a=>(c k a).2)⟩
theorem zih (w:H):qP w (ag #[G false,V O 0 0,V O 0 0]) 0 1:=⟨false,_,_,rfl,NatV.zero _ _ _,rfl,NatV.zero _ _ _,om,rfl⟩
end Go.Proofs.YtnhfdcfnojnofaaGreatDoor
namespace Go.Proofs.YtnhfdcfnojnofaaGreatDoor.T
open Go.RowKit
def jK (x:List Int×List UInt8×Int):List (List Int×Int):=
 (if x.2.1= [62,61]then []else [(x.1,x.2.2)])++(if x.2.1= [60,61]then []else [(x.1.map fun z=>-z,-x.2.2)])
def zai (n i:Nat):List Int:=(List.range n).map fun k=>if k=i then 1 else 0
def zaM (n i:Nat)(r:Int×Int):List (List Int×Int):= [(zai n i,r.2),((zai n i).map fun z=>-z,-r.1)]
def zaV (p:qo):List (List Int×Int):=p.rows.flatMap jK++(List.range p.n).flatMap fun i=>zaM p.n i (p.rg.getD i (0,0))
def QJ (A:Nat->Prop)(B:Nat)(w:H)(v:Value)(rows:List (List Int×Int)):Prop:=
 ∃ts:List Qb,ts.length=rows.length/\w.ownsRow B 308 4 v ts.length (ts.map Qb.cells).flatten/\
  ∀(i:Nat) (c:Qb) (x:List Int×Int),ts[i]? =E c->rows[i]? =E x->Qj w c.gv (x.1.map fun z=>(z,1))/\qe w c.r.val x.2 1/\(∀g,c.gv.ownBlock=E g->v.ownBlock≠E g/\g<w.heap.size/\¬A g)
abbrev zga (B:Nat)(w:H)(v:Value)(rows:List (List Int×Int)):Prop:=QJ (fun _=>False) B w v rows
theorem QJ.nil (A:Nat->Prop)(B:Nat)(w:H):QJ A B w (V O 0 0) []:=⟨[],rfl,Ze _ _ _ _,fun i c x h=>by simp at h⟩
theorem QJ.avoid {A A':Nat->Prop}{B:Nat}{w:H}{v:Value}{rows:List (List Int×Int)}(h:QJ A B w v rows)(f:∀g,g<w.heap.size->A' g->A g):QJ A' B w v rows:=by
 obtain⟨d,a,c,b⟩:=h;exact⟨d,a,c,fun i c x d e=>⟨(b i c x d e).1,(b i c x d e).2.1,fun g j=>have a:=(b i c x d e).2.2 g j;⟨a.1,a.2.1,fun h=>a.2.2 (f g a.2.1 h)⟩⟩⟩
theorem QJ.ext {A:Nat->Prop}{B:Nat}{w w':H}{v:Value}{rows:List (List Int×Int)}(h:QJ A B w v rows)(a:Ext w w'):QJ A B w' v rows:=by
 obtain⟨d,b,c,f⟩:=h;have e:=a.size;refine⟨d,b,zb1 c a,fun j e x g i=>?_⟩;obtain⟨c,d,b⟩:=f j e x g i;exact⟨c.below a,d.below a,fun g a=>⟨(b g a).1,by have:=(b g a).2.1;omega,(b g a).2.2⟩⟩
theorem QJ.kept {A:Nat->Prop}{B:Nat}{w w':H}{v:Value}{rows:List (List Int×Int)}(h:QJ A B w v rows)(c:QH w w')(d:∀g,¬A g->w'.heap[g]? =w.heap[g]?)(f:∀g,v.ownBlock=E g->¬A g):QJ A B w' v rows:=by
 obtain⟨i,a,b,j⟩:=h;have e:=c.1;refine⟨i,a,zaJ b e (fun g a=>d g (f g a)),fun m i x k l=>?_⟩;obtain⟨e,f,b⟩:=j m i x k l;exact⟨e.kept c (fun g a=>d g (b g a).2.2),f.kept c,fun g a=>⟨(b g a).1,by have:=(b g a).2.1;omega,(b g a).2.2⟩⟩
theorem QJ.rows {A:Nat->Prop}{B:Nat}{w:H}{v:Value}{rows:List (List Int×Int)}(h:QJ A B w v rows):zds w v rows:=by
 obtain⟨c,b,e,a⟩:=h;refine⟨c,b,fun i c x b d=>⟨(a i c x b d).1,(a i c x b d).2.1⟩,zfK (B:=B) (t:=308) (by rw[zo];exact e) (by intro a a;obtain⟨c,_,rfl⟩:=ZC.1 a;rfl)⟩
theorem QJ.own {A:Nat->Prop}{B:Nat}{w:H}{v:Value}{rows:List (List Int×Int)}(h:QJ A B w v rows):∃a:List Value,w.ownsRow B 308 4 v rows.length a:=by
 obtain⟨_,b,a,_⟩:=h;rw[b]at a;exact⟨_,a⟩
theorem QJ.lt {A:Nat->Prop}{B:Nat}{w:H}{v:Value}{rows:List (List Int×Int)}(h:QJ A B w v rows):∀g,v.ownBlock=E g->B<=g/\g<w.heap.size:=by
 obtain⟨_,h⟩:=h.own;exact za5 h
def RowIs (A:Nat->Prop)(w:H)(v:Value)(c:Qb)(x:List Int×Int):Prop:=
 Qj w c.gv (x.1.map fun z=>(z,1))/\qe w c.r.val x.2 1/\(∀g,c.gv.ownBlock=E g->v.ownBlock≠E g/\g<w.heap.size/\¬A g)
theorem QJ.grow {A:Nat->Prop}{B:Nat}{w w':H}{v:Value}{rows:List (List Int×Int)}{ts:List Qb}{c:Qb}{x:List Int×Int}{g cap:Nat}(n:ts.length=rows.length)(ho:w.ownsRow B 308 4 v ts.length (ts.map Qb.cells).flatten)
 (C:∀(i:Nat) (c:Qb) (x:List Int×Int),ts[i]? =E c->rows[i]? =E x->RowIs A w v c x) (t:RowIs A w v c x)
 (j:w.grownBy w' v.ownBlock) (D:w'.ownsRow B 308 4 (V (E ⟨g,0,O⟩) (ts.length+1) cap) (ts.length+1) ((ts.map Qb.cells).flatten++c.cells)) (s:v.ownBlock=E g\/g=w.heap.size):QJ A B w' (V (E ⟨g,0,O⟩) (ts.length+1) cap) (rows ++ [x]):=by
 have F:=JG ho dc;have m:=QH.of_grown j F;have I:=j.size;have step:∀(c:Qb) (x:List Int×Int),RowIs A w v c x->RowIs A w' (V (E ⟨g,0,O⟩) (ts.length+1) cap) c x:=by
  rintro c x ⟨o,p,b⟩;refine⟨o.kept m (fun d a=>j.block d (b d a).2.1 (fun f=>(b d a).1 f.symm)),p.kept m,fun d a=>⟨fun f=>?_,by have:=(b d a).2.1;omega,(b d a).2.2⟩⟩;simp[Value.ownBlock]at f;subst f;rcases s with l|l
  ·exact(b g a).1 l
  ·have:=(b g a).2.1;omega
 refine⟨ts ++ [c],by simp[n],?_,fun i k y e h=>?_⟩
 ·rw[zX,qF,ZN,ZF,jE,<-zh6];exact D
 ·by_cases u:i<ts.length
  ·rw[zM u]at e;rw[zM om]at h;exact step k y (C i k y e h)
  ·have z:i=ts.length:=by
    have:=(zn.1 e).1;simp at this;omega
   subst z;rw[zJ (zh _),Zy]at e;rw[zJ om,n,Zy]at h;have q:=qV e;have r:=qV h;subst q r;exact step c x t
theorem QJ.open {A:Nat->Prop}{B:Nat}{w:H}{v:Value}{rows:List (List Int×Int)}(h:QJ A B w v rows):∃ts:List Qb,ts.length=rows.length/\w.ownsRow B 308 4 v ts.length (ts.map Qb.cells).flatten/\∀(i:Nat) (c:Qb) (x:List Int×Int),ts[i]? =E c->rows[i]? =E x->RowIs A w v c x:=h
theorem Qb.one (c:Qb):∀u∈c.cells,u.oneCell'=true:=by
 intro u a;simp only[Qb.cells,qw,Zi,QF]at a;rcases a with rfl|rfl|rfl|rfl<;>rfl
theorem rec_new (w:H)(cs:List Value)(t:TypeId):∀(j:Nat) (u:Value),cs[j]? =E u->(w.alloc (cl cs.toArray t)).cell? ((⟨w.heap.size,0,O⟩:Addr).add j)=E u:=by
 intro j u h;exact Jw (zq w (cl cs.toArray t)) j u (by simpa using h)
theorem zeg (l:List (List Int×List UInt8×Int)):(l.flatMap jK).length<=2*l.length:=by
 induction l with
 |nil=>simp
 |cons x r a=>
  rw[J8,zX,Zo];have:(jK x).length<=2:=by unfold jK;split<;>split<;>simp
  omega
theorem Tryz.infoRowRef:(Tryz.prog.info? 308).map (fun i=>(i.zero,i.size,i.bytes))=E (E (ag #[V O 0 0,G false,V O 0 0,V O 0 0]),4,80):=by kernel_rfl
end Go.Proofs.YtnhfdcfnojnofaaGreatDoor.T
