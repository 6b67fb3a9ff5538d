import Derived.Test.YtnhfdcfnojnofaaGreatDoorAds1Z43
import Derived.Test.YtnhfdcfnojnofaaGreatDoorAds1Z46
open Option renaming none->O,some->E
open Go.Value renaming slice->V,bool->G,string->gS,pointer->pn,tuple->tp,int->it,agg->ag
open Go.Obj renaming cells->cl
open Go renaming World->H
open Go.Proofs.Tryz renaming prog->pg
open Go.Proofs.Tryz
set_option linter.unusedSimpArgs false
set_option linter.unusedVariables false
set_option maxHeartbeats 4000000
set_option maxRecDepth 100000
namespace Go.Proofs.YtnhfdcfnojnofaaGreatDoor
open Go.RowKit
attribute [local go_sem] qm qW ZR
theorem zas.type {B:Nat}{W:H}{b:Nat}{t:TypeId}(h:zas B W b)(f:t≠3)(d:t≠4):¬QI W b t:=by
 intro a;rcases h.2 with ⟨x,c,e⟩|⟨x,c,e⟩
 ·exact f (a.one ⟨_,_,e⟩)
 ·exact d (a.one ⟨_,_,e⟩)
theorem zas.dig {B:Nat}{W:H}{b:Nat}(h:zas B W b):qU W b:=by
 rcases h.2 with ⟨x,a,e⟩|⟨x,a,e⟩
 ·exact qj e n1
 ·exact qj e n1
theorem zas.num {B:Nat}{W:H}{b:Nat}(h:zas B W b):¬QI W b 101/\qU W b:=⟨h.type dc dc,h.dig⟩
theorem Grw.priv {C B:Nat}{t:TypeId}{size:Nat}{w w':H}{v:Value}{a:List (List Value)}(h:Grw B t size w v a)(b:Wr (zas C w) w w')(d:t≠3)(c:t≠4):Grw B t size w' v a:=
 h.same b.size (fun g a=>b.block g (h.type g a).1.lt (fun e=>e.type d c (h.type g a).1))
theorem zhO (g:Nat)(lb:Array Value)(p:List (List Int×Int))(a1:Nat->Array Value->H->Prop)(C:H->Prop)(ao:SeqQ pg g lb p.length a1 C)(eg:∀args w,(callFunc g args).run pg w= .ok (.enter g args) w)
 (hY:∀k v W x,p[k]? =E x->a1 k v W->∃t:RW,v=#[t.val]/\QC W t x) (aA:∀k v W,a1 k v W->v.size=1) (hn:p.length<=100000) (w:H) (hC:C w) (hL:jA w.heap.size C):
 Calls pg 259 #[V O 0 0,.func (.func g) #[] lb] w fun e w'=>∃(v:Value) (ts:List RW),e= .returned v/\ts.length=p.length/\Grw w.heap.size 174 3 w' v (ts.map RW.cells)/\(∀(i:Nat) (t:RW) x,ts[i]? =E t->p[i]? =E x->QC w' t x)/\(∀g,v.ownBlock=E g->w.heap.size<=g)/\Below w.heap.size w w':=by
 obtain⟨i0,aC,aH,aI,aJ⟩:=qL zjt;have HC:=zi hC;have ay:=zi ao;have HY:=zi hY;have Z:=zi hL;clear hC ao hY hL;have af:Ext w (w.alloc (cl #[V O 0 0] 261)):=(Ext.refl w).alloc _;have ad:=zq w (cl #[V O 0 0] 261);have aF:∀a6:Prop,Hid a6->a6:=fun a6 h=>h
 refine JO func259 ntmps259 (h:=?_);gi_wp2;generalize au:w.alloc (cl #[V O 0 0] 261)=w0 at *;have ap:w0.heap.size=w.heap.size+1:=by rw[<-au];simp
 have a0:=zi ap;clear au ap;refine zd0 ay.out rfl eg aA
  (zju w C p)
  (fun _ _ _=>False) (fun b=>b=w.heap.size) ?hI ?hIx ?hI2 ?hIx2 ?hC ?h0 ?round ?done ?stop
 case hI=>
  rintro k M A a7 ⟨u,y,z,P,v,ts,r,m,f,J,c,s,q⟩ l;have aE:zw w.heap.size A a7:=l.mono (by have:=a0.out;omega);refine⟨Z.out.keep u l,aE.below y (zh _) (zh _),zv z l.size,P,v,ts,r,m,l.block _ _ f (.inr rfl),?_,c.keep l,fun i t x d B=>?_,q⟩;·exact(zt (w:=A) (a:=⟨w.heap.size,0,O⟩) ((l.block _ _ f (.inr rfl)).trans f.symm)).trans J
  ·exact(s i t x d B).keep l
 case hIx=>exact fun _ _ _ _ h _=>h
 case hI2=>
  rintro k M A a7 ⟨u,y,z,P,v,ts,r,m,f,J,c,s,q⟩ Q;have aO:=a0.out;have ah:=Q.some f (fun e=>by have:=e.1;omega);refine⟨Z.out.wr u Q (fun k l=>by have:=l.1;omega),y.trans (Q.below om (fun k l=>by have:=l.1;omega)),zv z Q.size,P,v,ts,r,m,ah,?_,c.priv Q dc dc,fun i t x d B=>(s i t x d B).wr Q (fun k l=>l.num),q⟩;exact(zt (w:=A) (a:=⟨w.heap.size,0,O⟩) (ah.trans f.symm)).trans J
 case hIx2=>exact fun _ _ _ _ h _=>h
 case hC=>
  rintro k M A ⟨u,y,z,P,v,ts,r,m,f,J,c,s,q⟩;refine⟨u,fun b a=>?_⟩;rcases(q b).1 a with rfl|a
  ·refine⟨z,zeF f dc ?_⟩;intro aM hu;simp at hu;subst hu;obtain⟨n,o,rfl⟩:=c.shape;intro aL e;cases e
  ·exact⟨(c.type b a).1.lt,zbi.of (fun d=>absurd (d.one (c.type b a).1) dc) (c.dig b a)⟩
 case h0=>exact⟨Z.out.below HC.out af,af,by have:=a0.out;omega,qp _,V O 0 0,[],(0,0),rfl,ad,T.ZX ad,Grw.nil _ _ _ _,(fun i t x h=>by simp at h),fun b=>by simp[Value.ownBlock]⟩
 case round=>
  rintro aQ k av M A al aB ⟨u,y,z,P,v,ts,r,m,f,J,c,s,q⟩;obtain⟨x,B⟩:∃x,p[k]? =E x:=⟨_,zj al⟩;obtain⟨⟨⟨K,N,L⟩,S,R,X,U⟩,rfl,aq⟩:=HY.out k av A x B aB;have az:=zi aq;clear aq;obtain⟨n,o,rfl⟩:=c.shape;rw[zo]at f c q;have H5:=zi m;have aP:ts.length<=100000:=om;clear m;simp only[RW.val,RW.fv,WT.sv];unfold Qr;gi_wp2;refine⟨Wr.of_below ((Ext.refl A).alloc _),fun j ak=>?_⟩;have F:=(zw.alloc _ _ _).trans ak;have I:=F.block _ _ f (.inr rfl);have c0:=c_ 0 I;have f2:=(zt (w:=A) (a:=⟨w.heap.size,0,O⟩) (I.trans f.symm)).trans J;have e0:=ak.block _ _ (zq A (cl #[V K N L,G S,V R X U] 174)) (.inr rfl);have d0:=c_ 0 e0;have d1:=c_ 1 e0;have d2:=c_ 2 e0;have Y:=c.keep F;have G3:=Y.ext ((Ext.refl j).alloc (cl #[V K N L,G S,V R X U] 174));have aG:=zv z F.size;have a5:=G3.own;rw[zo]at a5;have ai:=G3.dig;clear e0;refine zaK ?_;refine JJ (by rfl) (fun⟨_,w,h⟩=>h) ?_;go_wp2_with (at_builtin;refine aF _ ?_)
  unfold Hid;refine J6 _ rfl _ _ 261 rfl (w.heap.size+1) 174 i0 (ag #[V O 0 0,G false,V O 0 0]) 3 56 underlying261 aC aH aI aJ rfl dc (V n ts.length o) ts.length (ts.map RW.cells).flatten rfl a5 ⟨j.heap.size,0,O⟩ 1 1 [V K N L,G S,V R X U] rfl rfl (rec_new j [V K N L,G S,V R X U] 174) r3 om mo om so (j.heap.size+1) sp (by intro aM hu;simp[Value.cells]at hu;rcases hu with rfl|rfl|rfl<;>(intro aL e;cases e)) n4 ai ?_;intro g4 a2 A4 aw a3 aa aK ab;have b4:=(a3.block _ so (fun e=>by have:=(c.type _ e.symm).2;omega)).trans ((zI _ _ _ aG).trans I);have c4:=c_ 0 b4;have f4:=(zt (w:=j) (a:=⟨w.heap.size,0,O⟩) (b4.trans I.symm)).trans f2;have a9:=Y;have ax:A4.ownsRow (w.heap.size+1) 174 3 (V (E ⟨g4,0,O⟩) ((ts.map RW.cells).length+1) a2) ((ts.map RW.cells).length+1) ((ts.map RW.cells).flatten ++ [V K N L,G S,V R X U]):=by rw[zo];exact aw
  obtain⟨D,q2,q3,q4⟩:=zgK (gb:=w.heap.size) a9 rfl ax ab a3 I om (by simpa using aa);rw[zo]at D q2 q3 q4;have HF:Hid (Qs M (zju w C p) (fun _ _ _=>False) k A j .normal { tmps:=#[],defers:= [] } (A4.setCell ⟨w.heap.size,0,O⟩ (V (E ⟨g4,0,O⟩) (ts.length+1) a2))):=by
   have an:∀b,b=w.heap.size\/(V n ts.length o).ownBlock=E b->qU j b:=by
    rintro b (rfl|a);·exact qj I n1
    ·exact Y.dig b a
   have ar:∀b,b=w.heap.size\/(V n ts.length o).ownBlock=E b->¬QI j b 101:=by
    rintro b (rfl|a) d;·exact absurd (d.one ⟨_,_,I⟩) dc
    ·exact absurd (d.one ((Y.type b a).1)) dc
   have hM:=q;refine⟨D.mono (fun b a=>(hM b).2 a),fun b=>b=w.heap.size\/(V (E ⟨g4,0,O⟩) (ts.length+1) a2).ownBlock=E b,⟨Z.out.wr (Z.out.keep u F) D (fun b a=>?_),?_,?_,al,_,ts ++ [⟨⟨K,N,L⟩,S,R,X,U⟩],r,by rw[zX,qF,H5.out],q2,?_,by rw[ZN];exact q3,fun i t aN d hy=>?_,fun b=>Ql⟩,fun b a=>?_⟩
   ·rcases a with rfl|a
    ·exact zh _
    ·have:=(c.type b a).2;omega
   ·exact((F.mono (by have:=a0.out;omega)).below y (zh _) (zh _)).trans (D.below om (fun b a=>by
     rcases a with rfl|a
     ·exact zh _
     ·have:=(c.type b a).2;omega))
   ·have:=D.size;omega
   ·simpa using f4
   ·by_cases aD:i<ts.length
    ·rw[zM aD]at d;exact((s i t aN d hy).keep F).wr D (fun b a=>⟨ar b a,an b a⟩)
    ·have aj:i=ts.length:=by
      have:=(zn.1 d).1;simp at this;omega
     rw[aj,H5.out,B]at hy;rw[aj,zJ (zh _),Zy]at d;have e1:=qV hy;have e2:=qV d;subst e1 e2;exact(az.out.keep F).wr D (fun b a=>⟨ar b a,an b a⟩)
   ·rcases q4 b a with h|h
    ·exact .inl ((hM b).2 h)
    ·exact .inr (zL F.size h)
  clear aw a3 aa aK ab ax D q2 q3 q4 a9 Y G3 c s q a5 ai b4;go_wp2_with fail
  exact HF.out
 case done=>
  rintro a8 M A ae _ ⟨u,y,z,P,v,ts,r,m,f,J,c,s,q⟩ hd;have hD:=Z1 ae.symm;clear ae;obtain⟨n,o,rfl⟩:=c.shape;have e:(ts.map RW.cells).length=p.length:=by rw[zo];exact m
  rw[e]at f c;have H5:=zi m;clear e m;have c0:=c_ 0 f;gi_wp2;refine qt hd ?_;have a4:zw w0.heap.size A (A.putObj a8 (.deferred O)):=zw.putObj _ hD hd rfl;exact⟨V n p.length o,results_tmp (t:=4) rfl _ _ _,V n p.length o,ts,rfl,H5.out,(c.keep a4).mono (zbq _),fun i t x d B=>(s i t x d B).keep a4,fun g hg=>zL (zbq _) (c.type g hg).2,(a4.mono (by have:=a0.out;omega)).below y (zh _) (zh _)⟩
 case stop=>exact fun _ _ _ _ _ _ h _=>h.elim
theorem zjJ (g:Nat)(b:Array Value)(a:List (List Int×Int))(Y:Nat->Array Value->H->Prop)(C:H->Prop)(l:SeqQ pg g b a.length Y C)(c:∀args w,(callFunc g args).run pg w= .ok (.enter g args) w)
 (h:∀k v W x,a[k]? =E x->Y k v W->∃t:RW,v=#[t.val]/\QC W t x) (j:∀k v W,Y k v W->v.size=1) (n:a.length<=100000) (w:H) (d:C w) (f:jA w.heap.size C):
 Calls pg 163 #[.func (.func g) #[] b] w fun e w'=>∃(v:Value) (ts:List RW),e= .returned v/\ts.length=a.length/\Grw w.heap.size 174 3 w' v (ts.map RW.cells)/\(∀(i:Nat) (t:RW) x,ts[i]? =E t->a[i]? =E x->QC w' t x)/\(∀g,v.ownBlock=E g->w.heap.size<=g)/\Below w.heap.size w w':=by
 have m:=zi (zhO g b a Y C l c h j n w d f);clear l c h j d f;go_enter func163,ntmps163
 go_wp2_with fail
 refine m.out.mono ?_;rintro e a ⟨v,ts,rfl,b,a,c,d,j⟩;have f:=zi b;have h:=zi c;obtain⟨l,m,rfl⟩:=a.shape;rw[zo]at a d;clear b c;go_wp2;go_ret;exact⟨V l ts.length m,ts,rfl,f.out,a,h.out,d,j⟩
end Go.Proofs.YtnhfdcfnojnofaaGreatDoor
namespace Go.Proofs.YtnhfdcfnojnofaaGreatDoor
open Go.RowKit
theorem zlg (w:H)(v:Value)(n:Nat)(h:NatV w v n):
 Calls pg 374 #[v] w fun e w'=>e= .returned (tp #[it .u64 ((if n<18446744073709551616 then n else 0:Nat):Int),G (decide (n<18446744073709551616))])/\w'=w:=by
 have b:=h;obtain⟨a,⟨_,_,rfl,g,j⟩,c,d,k⟩:=b;by_cases b:n<18446744073709551616
 ·have i:¬(2:Int)<(a.length:Int):=by
   intro i;have m:=Top.le d (a.length-1) om;have f:4294967296^2<=4294967296^(a.length-1):=qz om om;omega
  rw[z8 b,qH b];have l:=zi (zdu w _ n h b);clear h j g k d c;go_enter func374,ntmps374
  go_wp2_with fail
  refine l.out.mono ?_;rintro e w' ⟨rfl,rfl⟩;go_wp2;go_ret2;exact⟨rfl,rfl⟩
 ·have i:(2:Int)<(a.length:Int):=by
   have m:=val_lt c;by_cases f:a.length<=2
   ·have i:4294967296^a.length<=4294967296^2:=qz om f;omega
   ·omega
  rw[zW b,ZB b];clear h j g k d c b;go_enter func374,ntmps374
  go_wp2;go_ret2;exact⟨rfl,rfl⟩
def zdm (w:H)(v:Value)(rows:List (List Int×Int)):Prop:=
 ∃rs:List RW,rs.length=rows.length/\Qk w 174 v 3 (rs.map RW.cells)/\∀(i:Nat) (r:RW) (x:List Int×Int),rs[i]? =E r->rows[i]? =E x->QC w r x
theorem zdm.keep {B:Nat}{w w':H}{v:Value}{rows:List (List Int×Int)}(h:zdm w v rows)(a:zw B w w'):zdm w' v rows:=by
 obtain⟨e,b,c,d⟩:=h;exact⟨e,b,c.keep a,fun i t z b c=>(d i t z b c).keep a⟩
theorem zdm.ext {w w':H}{v:Value}{rows:List (List Int×Int)}(h:zdm w v rows)(a:Ext w w'):zdm w' v rows:=h.keep (B:=0) (zw.of_below a)
theorem znY (w:H)(u:Nat)(v R:Value)(n:Nat)(rows:List (List Int×Int))(A:NatV w v n)(P:w.cell? ⟨u,1,O⟩=E R)(Z:zdm w R rows)(hn:rows.length<=1000000):
 Calls pg 336 #[pn (E ⟨u,0,O⟩),v] w fun e w'=>∃r:RW,e= .returned (tp #[r.val,G (decide (0<n/\n<=rows.length))])/\(∀x,0<n->rows[n-1]? =E x->QC w' r x)/\Below w.heap.size w w':=by
 obtain⟨j,M,l,N⟩:=Z;obtain⟨_,_,rfl⟩:=l.shape;rw[zo]at l P;have a4:u<w.heap.size:=zN P;have c:=zi (fun W (hW:Ext w W)=>zlg W v n (A.below hW));obtain⟨_,_,_,rfl⟩:=A.slice;have o:Ext w (w.alloc (cl #[V O 0 0,G false,V O 0 0] 174)):=(Ext.refl w).alloc _;have a0:=zq w (cl #[V O 0 0,G false,V O 0 0] 174);have J:=zi M;have S:=zi l;have T:=zi N;have a7:j.length<=1000000:=om;clear M l N A;by_cases h:0<n/\n<=rows.length
 ·rw[qH h];have i:n<18446744073709551616:=om;rw[z8 i,qH i]at c;obtain⟨m,rfl⟩:∃m,n=m+1:=⟨n-1,om⟩;have y:m<j.length:=by have:=J.out;omega
  obtain⟨_,_,rfl,_,Q⟩:=S.out.recs.at (by intro e;rw[ZU]at e;rw[e]at y;simp at y);have z:=zj y;have p:=Q m _ (by rw[zQ,z];rfl);have U:=zi (fun x b=>T.out m _ x z b);clear Q z;generalize j[m]=r at *;obtain⟨⟨q,t,s⟩,⟨C,⟨B,F,D⟩⟩⟩:=r;have L:=p 0 _ rfl;have X:=p 1 _ rfl;have Y:=p 2 _ rfl;rw[qy]at L;simp only[RW.cells,RW.fv,WT.sv]at L X Y;clear p;have a5:¬((j.length:Int)<(m:Int)+1):=om;have a1:(((m:Int)+1) == 0)=false:=qO.2 om;have a3:=h.2;clear h a0;go_enter func336,ntmps336
  go_wp2_with fail
  refine(c.out _ o).mono ?_;rintro e I ⟨rfl,rfl⟩;go_wp2_with fail
  have a:=zq w (cl #[V q t s,G C,V B F D] 174);have d:=c_ 0 a;have f:=c_ 1 a;have g:=c_ 2 a;exact⟨rfl,tp #[ag #[V q t s,G C,V B F D],G true],by simp[results,results336,go_sem,d,f,g],⟨(q,t,s),⟨C,(B,F,D)⟩⟩,rfl,fun x _ b=>(U.out x b).ext ((Ext.refl w).alloc _),(zR _ _).alloc (zh _) _⟩
 ·rw[ZB h];have K:Hid (∀x,0<n->rows[n-1]?≠E x):=fun x h0 b=>by
   have:=(zn.1 b).1;omega
  by_cases i:n<18446744073709551616
  ·rw[z8 i,qH i]at c;by_cases a2:n=0
   ·subst a2;clear h;go_enter func336,ntmps336
    go_wp2_with fail
    refine(c.out _ o).mono ?_;rintro e I ⟨rfl,rfl⟩;go_wp2_with fail
    have a:=zq w (cl #[V O 0 0,G false,V O 0 0] 174);have d:=c_ 0 a;have f:=c_ 1 a;have g:=c_ 2 a;exact⟨rfl,tp #[ag #[V O 0 0,G false,V O 0 0],G false],by simp[results,results336,go_sem,d,f,g],⟨(O,0,0),⟨false,(O,0,0)⟩⟩,rfl,fun x k=>absurd k (Nat.lt_irrefl 0),(zR _ _).alloc (zh _) _⟩
   ·have a6:(j.length:Int)<(n:Int):=by have:=J.out;omega
    have a1:((n:Int) == 0)=false:=qO.2 om;clear h;go_enter func336,ntmps336
    go_wp2_with fail
    refine(c.out _ o).mono ?_;rintro e I ⟨rfl,rfl⟩;go_wp2_with fail
    have a:=zq w (cl #[V O 0 0,G false,V O 0 0] 174);have d:=c_ 0 a;have f:=c_ 1 a;have g:=c_ 2 a;exact⟨rfl,tp #[ag #[V O 0 0,G false,V O 0 0],G false],by simp[results,results336,go_sem,d,f,g],⟨(O,0,0),⟨false,(O,0,0)⟩⟩,rfl,fun x k b=>absurd b (K.out x k),(zR _ _).alloc (zh _) _⟩
  ·rw[zW i,ZB i]at c;clear h;go_enter func336,ntmps336
   go_wp2_with fail
   refine(c.out _ o).mono ?_;rintro e I ⟨rfl,rfl⟩;go_wp2_with fail
   have a:=zq w (cl #[V O 0 0,G false,V O 0 0] 174);have d:=c_ 0 a;have f:=c_ 1 a;have g:=c_ 2 a;exact⟨rfl,tp #[ag #[V O 0 0,G false,V O 0 0],G false],by simp[results,results336,go_sem,d,f,g],⟨(O,0,0),⟨false,(O,0,0)⟩⟩,rfl,fun x k b=>absurd b (K.out x k),(zR _ _).alloc (zh _) _⟩
end Go.Proofs.YtnhfdcfnojnofaaGreatDoor
namespace Go.Proofs.YtnhfdcfnojnofaaGreatDoor.T
open Go.RowKit
theorem zfW {A B:Nat}:∀(c d:List Int),(∀a∈c,a.natAbs<=A)->(∀b∈d,b.natAbs<=B)->(ju c d).natAbs<=c.length*(A*B)
 |[],d,_,_=>by simp[ju]
 |a::c,[],_,_=>by simp[ju]
 |a::c,b::d,f,g=>by
  have e:=zfW c d (fun x e=>f x (Zu _ e)) (fun x e=>g x (Zu _ e));have e:(a*b).natAbs<=A*B:=by rw[Zx];exact Z0 (f a ZS) (g b ZS)
  have e:ju (a::c) (b::d)=a*b+ju c d:=by simp[ju]
  have f:=zaT (a*b) (ju c d);rw[e,Zo,ZO,Qy];omega
theorem zhm {L:Nat}{p:qo}(a:ji L p)(b:p.n<=4):(zaV p).length<=20:=by
 unfold zaV;have b:=zeg p.rows;have b:=a.l;have a:∀m,((List.range m).flatMap fun i=>zaM p.n i (p.rg.getD i (0,0))).length=2*m:=by
  intro m;induction m with
  |zero=>rfl
  |succ m b=>rw[zfc,zX,b];simp[zaM];omega
 rw[zX,a];omega
theorem zfs {a:Type}{f:a->Bool}{l:List a}{i:Nat}{x:a}(h:l[i]? =E x):(l.take (i+1)).all f=((l.take i).all f&&f x):=by
 obtain⟨a,b⟩:=zn.1 h;rw[Zh a,Jj,b];simp
theorem zky {a:Type}{f:a->Bool}{l:List a}{i:Nat}{x:a}(h:l[i]? =E x)(b:f x=false):l.all f=false:=by
 rw[QT];exact⟨x,qJ h,by simp[b]⟩
theorem zds.at {w:H}{v:Value}{rows:List (List Int×Int)}(h:zds w v rows){i:Nat}{x:List Int×Int}(j:rows[i]? =E x):
 ∃(g a cap:Nat) (c:Qb),v=V (E ⟨g,a,O⟩) rows.length cap/\w.cell? ⟨g,a+i*4,O⟩=E c.gv/\w.cell? ⟨g,a+i*4+1,O⟩=E (G c.r.b)/\w.cell? ⟨g,a+i*4+2,O⟩=E c.r.up/\w.cell? ⟨g,a+i*4+3,O⟩=E c.r.down/\Qj w c.gv (x.1.map fun z=>(z,1))/\qe w c.r.val x.2 1:=by
 obtain⟨b,l,k,e⟩:=h;have d:i<b.length:=by have:=(zn.1 j).1;omega
 have f:=zj d;obtain⟨_,cap,rfl⟩:=e.shape;obtain⟨g,a,rfl,_,m⟩:=e.at (by intro e;rw[ZU]at e;rw[e]at d;simp at d);have d:(b.map Qb.cells)[i]? =E (Qb.cells b[i]):=by rw[zQ,f];rfl
 obtain⟨e,n⟩:=k i _ x f j;have k:=m i _ d;exact⟨g,a,cap,b[i],by rw[zo,l],k 0 _ rfl,k 1 _ rfl,k 2 _ rfl,k 3 _ rfl,e,n⟩
theorem zds.shape {w:H}{v:Value}{rows:List (List Int×Int)}(h:zds w v rows):∃a cap,v=V a rows.length cap:=by
 obtain⟨_,b,_,c⟩:=h;obtain⟨a,cap,rfl⟩:=c.shape;exact⟨a,cap,by rw[zo,b]⟩
theorem zmC (d w:H)(b L:Nat)(p:qo)(h:RPr d w b p)(g:ji L p)(i:2+p.n<=L)(m:Value)(a:List Int)(l:Qj w m (a.map fun z=>(z,1)))(j:a.length=p.n)(c:∀z∈a,z.natAbs<=10^100):
 Calls pg 192 #[pn (E ⟨b,0,O⟩),m] w fun e w'=>e= .returned (G (J9 (zaV p) a))/\Below w.heap.size w w':=by
 obtain⟨_,j⟩:=g.n om;have A:=zi (zjI d w b L p h g i);have B:=zi (zeV g i);have b:=zhm g j;obtain⟨K,o,j,C,k,q⟩:∃K,K+K<100000000/\1<10000^K/\10^100<10000^K/\4*(10^40*10^100)<10000^K/\10^40<10000^K:=⟨40,dc,dc,dc,dc,dc⟩;have n:=zi l;have F:Hid (∀W v r,Ext w W->r∈zaV p->Qj W v (r.1.map fun z=>(z,1))->Calls pg 193 #[v,m] W fun e w'=>∃u,e= .returned u/\qe w' u (ju r.1 a) 1/\Below W.heap.size W w'):=by
  intro W v r b d s;obtain⟨I,i,D⟩:=B.out r d;refine zif W v m r.1 a s (n.out.below b) om om K o j (fun z m=>zr (i z m) q) (fun z m=>zr (c z m) C) (fun m s n t=>?_) (fun x=>?_)
  ·refine zr ?_ k;rw[Zx];have:=Z0 (i m s) (c n t);omega
  ·refine zr (zfW _ _ (fun m s=>i m (Zv s)) (fun n t=>c n (Zv t))) (zr (qM _ ?_) k);rw[zU];omega
 have R:Hid (∀W x y r,r∈zaV p->qe W x (ju r.1 a) 1->qe W y r.2 1->Calls pg 68 #[x,y] W fun e w'=>e= .returned (it .i64 (ju r.1 a + -r.2).sign)/\Below W.heap.size W w'):=by
  intro W x y r d l m;obtain⟨I,i,D⟩:=B.out r d;have:=JQ K o W x y (ju r.1 a) r.2 1 1 l m (zr (zfW _ _ i c) (zr (qM _ om) k)) (zr D q) j j;simpa using this
 clear o j C k q l c h g;go_enter func192,ntmps192
 go_wp2_with fail
 refine A.out.mono ?_;rintro e g ⟨v,rfl,c,l⟩;have x:=Ext.of l;have q:=zi c.rows;obtain⟨_,_,rfl⟩:=q.out.shape;clear c A;generalize c:zaV p=rows at *;have j:=Ext.refl g;go_wp2_with fail
 go_loopw [6] (fun c wr=>∃(i:Nat),c=it .i64 (i:Nat)/\i<=rows.length/\Hid (((rows.take i).all fun r=>decide (ju r.1 a<=r.2))=true)/\Ext g wr) (fun c _=>rows.length-(intOf c).toNat)
 case atStart=>exact⟨0,rfl,om,rfl,j⟩
 case round=>
  obtain⟨i,rfl,_,y,c⟩:=hrel;by_cases g:i<rows.length
  ·obtain⟨r,d⟩:∃r,rows[i]? =E r:=⟨_,zj g⟩;have D:=qJ d;obtain⟨s,t,_,⟨⟨M,Gl,N⟩,⟨T,⟨S,X,U⟩,⟨Y,Sl,Z⟩⟩⟩,v,g,j,k,m,n,o⟩:=q.out.at d;simp only[zV]at v;obtain⟨rfl,-,rfl⟩:=v;simp only[Qb.gv,Tri.up,Tri.down]at g j k m n o;have a0:(i:Int)<(rows.length:Int):=om;have B:=zi (fun W (b:Ext wr W)=>And.intro (b.cell (c.cell g)) (And.intro (b.cell (c.cell j)) (And.intro (b.cell (c.cell k)) (b.cell (c.cell m)))));have q:=zi (fun W (b:Ext wr W)=>n.below (c.trans b));have A:=zi (fun W (b:Ext wr W)=>o.below (c.trans b));have Q:=zi (zfs (f:=fun r:List Int×Int=>decide (ju r.1 a<=r.2)) d);have P:=zi (fun h=>zky (f:=fun r:List Int×Int=>decide (ju r.1 a<=r.2)) d h);have d:=Ext.refl wr;obtain⟨m0,m1,m2,m3⟩:=B.out wr d;clear g j k m n o;go_wp2_with fail
   refine(F.out wr _ r (x.trans c) D (q.out wr d)).mono ?_;rintro e v ⟨u,rfl,x,C⟩;obtain⟨d,m,o,n,g,k,j,rfl,-⟩:=x.parts;have u:=Ext.of C;have q:Ext wr (v.alloc (cl #[G d,V m o n,V g k j] 118)):=u.alloc _;have u:=qq v (cl #[G d,V m o n,V g k j] 118);have I:=c_ 0 u;have J:=c_ 1 u;have K:=c_ 2 u;have F:=x.alloc (cl #[G d,V m o n,V g k j] 118);clear u x C;go_wp2_with fail
   generalize v.alloc (cl #[G d,V m o n,V g k j] 118)=u at *;generalize v.heap.size=v at *;have x:=zi (fun W (b:Ext u W)=>And.intro (b.cell I) (And.intro (b.cell J) (And.intro (b.cell K) (B.out W (q.trans b)))));have b:=Ext.refl u;obtain⟨_,_,_,_,_,_,_⟩:=x.out u b;clear I J K m0 m1 m2 m3;go_region_held3 (fun W=>W.cell? ⟨v,0,O⟩=E (G d)/\W.cell? ⟨v,1,O⟩=E (V m o n)/\W.cell? ⟨v,2,O⟩=E (V g k j)/\W.cell? ⟨s,t+i*4,O⟩=E (V M Gl N)/\W.cell? ⟨s,t+i*4+1,O⟩=E (G T)/\W.cell? ⟨s,t+i*4+2,O⟩=E (V S X U)/\W.cell? ⟨s,t+i*4+3,O⟩=E (V Y Sl Z)) (first|(exact x.out _ ea)|go_keep) (first|(go_at_call 68;refine(R.out _ _ _ r D (by first|exact F.below b.drew|exact F) (by first|exact A.out _ q.drew|exact A.out _ q)).mono ?_;rintro e g ⟨rfl,d⟩;have b:Ext u g:=(by first|exact Qq d|exact Ext.of d)))
   all_goals
    by_cases d:ju r.1 a<=r.2
    ·have j:¬(0:Int)<(ju r.1 a + -r.2).sign:=by
      intro h;have:=Int.sign_pos_iff.1 h;omega
     have g:Hid (((rows.take (i+1)).all fun r=>decide (ju r.1 a<=r.2))=true):=by rw[Hid,Q.out,y.out];simp[d]
     go_wp2_with fail
     go_roundw
     case rel=>exact⟨i+1,by go_num,om,g,c.trans (q.trans (by first|exact b.drew|exact b))⟩
     case measure=>simp[intOf];omega
    ·have j:(0:Int)<(ju r.1 a + -r.2).sign:=Int.sign_pos_iff.2 om;have a:=P.out (by simp[d]);go_wp2;go_ret;exact⟨by rw[J9,a];rfl,l.trans ((c.trans (q.trans (by first|exact b.drew|exact b))).mono l.size)⟩
  ·obtain rfl:i=rows.length:=om;have a:=y.out;rw[Zw]at a;have a0:¬(rows.length:Int)<(rows.length:Int):=om;go_wp2;go_ret;exact⟨by rw[J9,a];rfl,l.trans (c.mono l.size)⟩
def jW (p:qo)(kind:Int)(k:Nat):Int:=if kind=1 then p.mx.getD k 0 else 0
def endC (p:qo)(kind z:Int)(gs:List (Int×Nat))(rz:Int):Bool:=
 ((List.range p.n).all fun k=>decide ((gs.getD k (0,1)).1=jW p kind k*((gs.getD k (0,1)).2:Int)))&&(if kind=1 then decide (rz=z)else decide (rz<0))
theorem zeW {f:Nat->Bool}(i:Nat):(List.range (i+1)).all f=((List.range i).all f&&f i):=by
 rw[List.range_succ,Jj];simp
theorem zft {f:Nat->Bool}{i n:Nat}(h:i<n)(a:f i=false):(List.range n).all f=false:=by
 rw[QT];exact⟨i,zdj.2 h,by simp[a]⟩
theorem J2 {a b:Int}:(a + -b).sign=0↔a=b:=by
 rw[zbA];omega
theorem zos (W1 w:H)(gp L:Nat)(p:qo)(h:RPr W1 w gp p)(X:ji L p)(hL:2+p.n<=L)(d:Option Addr)(gl D:Nat)(R:Tri)(c:List (Int×Nat))(g:Int)(hg:Qj w (V d gl D) c)(aG:c.length=p.n)(hR:qe w R.val g 1)
 (z:Int) (Z:Tri) (hZ:qe w Z.val z 1) (K:Nat) (hK:K+K<100000000) (a5:10^40<10000^K) (bg:∀a∈c,a.1.natAbs<10000^K/\a.2<10000^K) (br:g.natAbs<10000^K) (bz:z.natAbs<10000^K):
 Calls pg 197 #[pn (E ⟨gp,0,O⟩),ag #[V d gl D,G R.b,R.up,R.down],it .i64 1,ag #[G Z.b,Z.up,Z.down]] w fun e w'=>e= .returned (G (endC p 1 z c g))/\Below w.heap.size w w':=by
 obtain⟨_,_⟩:=X.n om;have aB:=X.m om;have az:=zi X.bm;have S:1<10000^K:=Qm dc a5;obtain⟨Rb,⟨Ra,Rl,Rk⟩,⟨Sa,Sl,Sk⟩⟩:=R;obtain⟨Zb,⟨Za,Zl,Zk⟩,⟨Ya,Yl,Yk⟩⟩:=Z;simp only[Tri.up,Tri.down,Tri.val]at hR hZ⊢;obtain rfl:gl=p.n:=by have:=hg.len;omega
 obtain⟨-,t,u,rfl,_,a6⟩:=hg.at3 om;obtain⟨vM,_,_,_,hQ⟩:=h;obtain⟨k0,k1,-,-,-,-,-,-,-,-⟩:=hQ.box;have HM:=zi hQ.mx;have ah:Hid (∀k,k<p.n->∃(C I a0:Nat) (J:Tri),vM=V (E ⟨C,I,O⟩) p.n a0/\w.cell? ⟨C,I+k*3,O⟩=E (G J.b)/\w.cell? ⟨C,I+k*3+1,O⟩=E J.up/\w.cell? ⟨C,I+k*3+2,O⟩=E J.down/\qe w J.val (p.mx.getD k 0) 1):=by
  intro k hk;obtain⟨C,I,a0,J,h1,_,h2,h3,h4,h5⟩:=HM.out.at_map k p.n (p.mx.getD k 0) aB (by rw[zk,zj om];rfl);exact⟨C,I,a0,J,h1,h2,h3,h4,h5⟩
 have af:=zi a6;have HC:Hid (∀W x y a P,a∈c->P.natAbs<10000^K->qe W x a.1 a.2->qe W y P 1->Calls pg 68 #[x,y] W fun e w'=>e= .returned (it .i64 (a.1 + -(P*(a.2:Int))).sign)/\Below W.heap.size W w'):=by
  intro W x y a P ha hr N hy;have:=JQ K hK W x y a.1 P a.2 1 N hy (bg a ha).1 hr (bg a ha).2 S;simpa[Int.neg_mul]using this
 have ae:Hid (∀W x y,qe W x g 1->qe W y z 1->Calls pg 68 #[x,y] W fun e w'=>e= .returned (it .i64 (g + -z).sign)/\Below W.heap.size W w'):=by
  intro W x y N hy;have:=JQ K hK W x y g z 1 1 N hy br bz S S;simpa using this
 have aF:=zi (fun W x N=>sign_any W x g 1 N K br);have ai:=zi (fun W=>zaD W);have v:Ext w ((w.alloc (cl #[V (E ⟨t,u,O⟩) p.n D,G Rb,V Ra Rl Rk,V Sa Sl Sk] 308)).alloc (cl #[G Zb,V Za Zl Zk,V Ya Yl Yk] 118)):=((Ext.refl w).alloc _).alloc _;obtain⟨M,T⟩:=zbs w (cl #[V (E ⟨t,u,O⟩) p.n D,G Rb,V Ra Rl Rk,V Sa Sl Sk] 308) (cl #[G Zb,V Za Zl Zk,V Ya Yl Yk] 118);clear hg a6 hQ X hK;go_enter func197,ntmps197
 go_wp2_with fail
 generalize (w.alloc (cl #[V (E ⟨t,u,O⟩) p.n D,G Rb,V Ra Rl Rk,V Sa Sl Sk] 308)).alloc (cl #[G Zb,V Za Zl Zk,V Ya Yl Yk] 118)=w0 at *;generalize aH:w.heap.size=gb at *;have HB:=zi (fun W (b:Ext w0 W)=>And.intro (b.cell (c_ 0 M)) (And.intro (b.cell (c_ 1 M)) (And.intro (b.cell (c_ 2 M)) (And.intro (b.cell (c_ 3 M)) (And.intro (b.cell (c_ 0 T)) (And.intro (b.cell (c_ 1 T)) (And.intro (b.cell (c_ 2 T)) (And.intro (b.cell (v.cell k0)) (b.cell (v.cell k1))))))))));have y0:=Ext.refl w0;clear M T k0 k1;go_loopw [9] (fun iv wr=>∃(i:Nat),iv=it .i64 (i:Nat)/\i<=p.n/\Hid (((List.range i).all fun k=>decide ((c.getD k (0,1)).1=jW p (1:Int) k*((c.getD k (0,1)).2:Int)))=true)/\Ext w0 wr) (fun iv _=>p.n-(intOf iv).toNat)
 case atStart=>exact⟨0,rfl,om,rfl,y0⟩
 case round=>
  obtain⟨i,rfl,_,HA,B⟩:=hrel;obtain⟨b0,_,_,_,_,_,_,_,b8⟩:=HB.out wr B;by_cases a7:i<p.n
  ·have aA:(i:Int)<(p.n:Int):=om;have a1:c[i]? =E (c.getD i (0,1)):=by rw[zk,zj om];rfl
   have a8:=qJ a1;obtain⟨⟨an,⟨av,aw,ax⟩,ap,aq,ar⟩,Y,c0,c1,c2⟩:=af.out i _ a1;simp only[Tri.up,Tri.down,Tri.val]at c0 c1 c2 Y;have j:=v.trans B;have HS:=zi (fun W (b:Ext wr W)=>And.intro (b.cell b0) (And.intro (b.cell (j.cell c0)) (And.intro (b.cell (j.cell c1)) (b.cell (j.cell c2)))));have ad:=zi (zeW (f:=fun k=>decide ((c.getD k (0,1)).1=jW p (1:Int) k*((c.getD k (0,1)).2:Int))) i);have ab:=zi (fun h=>zft (f:=fun k=>decide ((c.getD k (0,1)).1=jW p (1:Int) k*((c.getD k (0,1)).2:Int))) a7 h);have aD:(jW p (1:Int) i).natAbs<10000^K:=by
    unfold jW;split
    ·exact Qm (az.out _ (by rw[zk,zj om];exact zZ _)) a5
    ·exact Qm dc S
   obtain⟨_,_,_,⟨m,⟨l,o,n⟩,⟨q,s,r⟩⟩,rfl,m0,m1,m2,hM⟩:=ah.out i a7;simp only[Tri.up,Tri.down,Tri.val]at m0 m1 m2 hM;have n0:=j.cell m0;have aE:=j.cell m1;have n2:=j.cell m2;obtain⟨d,hga2⟩:∃d,c.getD i (0,1)=d:=⟨_,rfl⟩;rw[hga2]at a8 Y;have a2:=zi hga2;have a4:=zi (fun W (b:Ext wr W)=>Y.below (j.trans b));clear hga2 a1;clear c0 c1 c2 Y m0 m1 m2;have a9:jW p (1:Int) i=p.mx.getD i 0:=by unfold jW;rw[z8 rfl]
   have aj:=zi a9;clear a9;go_wp2_with fail
   refine(ai.out _).mono ?_;rintro e A ⟨_,rfl,aC,ay⟩;obtain⟨e0,f0,al,ak,g0,au,ao,rfl,-⟩:=aC.parts;have x2:=Ext.of ay;have x3:Ext wr (A.alloc (cl #[G e0,V f0 al ak,V g0 au ao] 118)):=x2.alloc _;have r0:=x3.cell n0;have r1:=x3.cell aE;have r2:=x3.cell n2;have r8:=x3.cell b8;go_wp2_with fail
   have Q:Ext wr (A.alloc (cl #[G m,V l o n,V q s r] 118)):=x2.alloc _;have t3:=zq A (cl #[G m,V l o n,V q s r] 118);have HT:=zi (show qe (A.alloc (cl #[G m,V l o n,V q s r] 118)) (ag #[G m,V l o n,V q s r]) (jW p (1:Int) i) 1 from by rw[aj.out];exact hM.below (j.trans (x2.alloc _)));have q0:=c_ 0 t3;have q1:=c_ 1 t3;have q2:=c_ 2 t3;have a3:=zi (fun W (b:Ext (A.alloc (cl #[G m,V l o n,V q s r] 118)) W)=>And.intro (b.cell q0) (And.intro (b.cell q1) (And.intro (b.cell q2) (HS.out W (Q.trans b)))));clear q0 q1 q2 t3;generalize A.alloc (cl #[G m,V l o n,V q s r] 118)=w3 at *;generalize A.heap.size=g3 at *;have z0:=Ext.refl w3;obtain⟨_,_,_,_,_,_,_⟩:=a3.out w3 z0;go_region_held3 (fun W=>W.cell? ⟨g3,0,O⟩=E (G m)/\W.cell? ⟨g3,1,O⟩=E (V l o n)/\W.cell? ⟨g3,2,O⟩=E (V q s r)/\W.cell? ⟨gb,0,O⟩=E (V (E ⟨t,u,O⟩) p.n D)/\W.cell? ⟨t,u+i*3,O⟩=E (G an)/\W.cell? ⟨t,u+i*3+1,O⟩=E (V av aw ax)/\W.cell? ⟨t,u+i*3+2,O⟩=E (V ap aq ar)) (first|(exact a3.out _ ea)|go_keep) (first|(go_at_call 68;refine(HC.out _ _ _ d (jW p (1:Int) i) a8 aD (by first|exact a4.out _ Q.drew|exact a4.out _ Q) (by first|exact HT.out.below z0.drew|exact HT.out)).mono ?_;rintro e w4 ⟨rfl,U⟩;have x4:Ext w3 w4:=(by first|exact Qq U|exact Ext.of U)))
   all_goals
    by_cases F:d.1=jW p (1:Int) i*(d.2:Int)
    ·have hs:=J2.2 F;have aa:Hid (((List.range (i+1)).all fun k=>decide ((c.getD k (0,1)).1=jW p (1:Int) k*((c.getD k (0,1)).2:Int)))=true):=by rw[Hid,ad.out,HA.out,a2.out];simp[F]
     clear F;go_wp2_with fail
     go_roundw
     case rel=>exact⟨i+1,by go_num,om,aa,B.trans (Q.trans (by first|exact x4.drew|exact x4))⟩
     case measure=>simp[intOf];omega
    ·have hs:¬(d.1 + -(jW p (1:Int) i*(d.2:Int))).sign=0:=fun h=>F (J2.1 h)
     have hF:=ab.out (by rw[a2.out];simp[F]);clear F;go_wp2;go_ret;exact⟨by rw[endC,hF];rfl,(v.trans (B.trans (Q.trans (by first|exact x4.drew|exact x4))))⟩
  ·obtain rfl:i=p.n:=om;have hA:=HA.out;have aA:¬(p.n:Int)<(p.n:Int):=om;go_wp2_with fail
   refine(ae.out _ _ _ (hR.below (v.trans B)) (hZ.below (v.trans B))).mono ?_;rintro e w4 ⟨rfl,U⟩;go_wp2;go_ret;have hB:((g + -z).sign == 0)=decide (g=z):=by rw[QD,beq_iff_eq,zbV];exact J2
   exact⟨by rw[endC,hA,z8 rfl,ZE,<-hB];rfl,(v.trans (B.trans (Ext.of U)))⟩
theorem znZ (j w:H)(i L:Nat)(p:qo)(h:RPr j w i p)(o:ji L p)(l:2+p.n<=L)(d:Option Addr)(b u:Nat)(R:Tri)(c:List (Int×Nat))(g:Int)(U:Qj w (V d b u) c)(m:c.length=p.n)(hR:qe w R.val g 1)
 (kind z:Int) (X:¬kind=1) (Z:Tri) (k:qe w Z.val z 1) (K:Nat) (S:K+K<100000000) (a0:10^40<10000^K) (v:∀a∈c,a.1.natAbs<10000^K/\a.2<10000^K) (Y:g.natAbs<10000^K) (bz:z.natAbs<10000^K):
 Calls pg 197 #[pn (E ⟨i,0,O⟩),ag #[V d b u,G R.b,R.up,R.down],it .i64 kind,ag #[G Z.b,Z.up,Z.down]] w fun e w'=>e= .returned (G (endC p kind z c g))/\Below w.heap.size w w':=by
 obtain⟨_,_⟩:=o.n om;have a2:=o.m om;have ab:=zi o.bm;have n:1<10000^K:=Qm dc a0;obtain⟨s,⟨q,B,A⟩,⟨C,Sl,D⟩⟩:=R;obtain⟨N,⟨M,Q,P⟩,⟨F,J,I⟩⟩:=Z;simp only[Tri.up,Tri.down,Tri.val]at hR k⊢;obtain rfl:b=p.n:=by have:=U.len;omega
 obtain⟨-,j,l,rfl,_,a1⟩:=U.at3 om;obtain⟨x,_,_,_,T⟩:=h;obtain⟨k0,k1,-,-,-,-,-,-,-,-⟩:=T.box;have r:=zi T.mx;have a3:Hid (∀k,k<p.n->∃(b i m:Nat) (t:Tri),x=V (E ⟨b,i,O⟩) p.n m/\w.cell? ⟨b,i+k*3,O⟩=E (G t.b)/\w.cell? ⟨b,i+k*3+1,O⟩=E t.up/\w.cell? ⟨b,i+k*3+2,O⟩=E t.down/\qe w t.val (p.mx.getD k 0) 1):=by
  intro k X;obtain⟨b,i,m,t,x,_,y,W,h4,h5⟩:=r.out.at_map k p.n (p.mx.getD k 0) a2 (by rw[zk,zj om];rfl);exact⟨b,i,m,t,x,y,W,h4,h5⟩
 have a2:=zi a1;have HC:Hid (∀W x y a r,a∈c->r.natAbs<10000^K->qe W x a.1 a.2->qe W y r 1->Calls pg 68 #[x,y] W fun e w'=>e= .returned (it .i64 (a.1 + -(r*(a.2:Int))).sign)/\Below W.heap.size W w'):=by
  intro W x y a r m t b i;have:=JQ K S W x y a.1 r a.2 1 b i (v a m).1 t (v a m).2 n;simpa[Int.neg_mul]using this
 have m:Hid (∀W x y,qe W x g 1->qe W y z 1->Calls pg 68 #[x,y] W fun e w'=>e= .returned (it .i64 (g + -z).sign)/\Below W.heap.size W w'):=by
  intro W x y b i;have:=JQ K S W x y g z 1 1 b i Y bz n n;simpa using this
 have a4:=zi (fun W x b=>sign_any W x g 1 b K Y);have Y:=zi (fun W=>zaD W);have v:Ext w ((w.alloc (cl #[V (E ⟨j,l,O⟩) p.n u,G s,V q B A,V C Sl D] 308)).alloc (cl #[G N,V M Q P,V F J I] 118)):=((Ext.refl w).alloc _).alloc _;obtain⟨i,m⟩:=zbs w (cl #[V (E ⟨j,l,O⟩) p.n u,G s,V q B A,V C Sl D] 308) (cl #[G N,V M Q P,V F J I] 118);clear U a1 T o S;go_enter func197,ntmps197
 go_wp2_with fail
 generalize (w.alloc (cl #[V (E ⟨j,l,O⟩) p.n u,G s,V q B A,V C Sl D] 308)).alloc (cl #[G N,V M Q P,V F J I] 118)=o at *;generalize b:w.heap.size=gb at *;have q:=zi (fun W (b:Ext o W)=>And.intro (b.cell (c_ 0 i)) (And.intro (b.cell (c_ 1 i)) (And.intro (b.cell (c_ 2 i)) (And.intro (b.cell (c_ 3 i)) (And.intro (b.cell (c_ 0 m)) (And.intro (b.cell (c_ 1 m)) (And.intro (b.cell (c_ 2 m)) (And.intro (b.cell (v.cell k0)) (b.cell (v.cell k1))))))))));have r:=Ext.refl o;clear i m k0 k1;go_loopw [9] (fun m wr=>∃(i:Nat),m=it .i64 (i:Nat)/\i<=p.n/\Hid (((List.range i).all fun k=>decide ((c.getD k (0,1)).1=jW p kind k*((c.getD k (0,1)).2:Int)))=true)/\Ext o wr) (fun m _=>p.n-(intOf m).toNat)
 case atStart=>exact⟨0,rfl,om,rfl,r⟩
 case round=>
  obtain⟨i,rfl,_,C,y⟩:=hrel;obtain⟨x,_,_,_,_,_,_,_,_⟩:=q.out wr y;by_cases B:i<p.n
  ·have ad:(i:Int)<(p.n:Int):=om;have t:c[i]? =E (c.getD i (0,1)):=by rw[zk,zj om];rfl
   have M:=qJ t;obtain⟨⟨a1,⟨a8,a9,aa⟩,a5,a6,a7⟩,o,q,r,s⟩:=a2.out i _ t;simp only[Tri.up,Tri.down,Tri.val]at q r s o;have m:=v.trans y;have U:=zi (fun W (b:Ext wr W)=>And.intro (b.cell x) (And.intro (b.cell (m.cell q)) (And.intro (b.cell (m.cell r)) (b.cell (m.cell s)))));have T:=zi (zeW (f:=fun k=>decide ((c.getD k (0,1)).1=jW p kind k*((c.getD k (0,1)).2:Int))) i);have S:=zi (fun h=>zft (f:=fun k=>decide ((c.getD k (0,1)).1=jW p kind k*((c.getD k (0,1)).2:Int))) B h);have a2:(jW p kind i).natAbs<10000^K:=by
    unfold jW;split
    ·exact Qm (ab.out _ (by rw[zk,zj om];exact zZ _)) a0
    ·exact Qm dc n
   obtain⟨_,_,_,⟨_,⟨_,_,_⟩,⟨_,_,_⟩⟩,rfl,n,x,A,D⟩:=a3.out i B;simp only[Tri.up,Tri.down,Tri.val]at n x A D;have B:=m.cell n;have B:=m.cell x;have B:=m.cell A;obtain⟨d,hga2⟩:∃d,c.getD i (0,1)=d:=⟨_,rfl⟩;rw[hga2]at M o;have D:=zi hga2;have J:=zi (fun W (b:Ext wr W)=>o.below (m.trans b));clear hga2 t;clear q r s o n x A;have m:jW p kind i=0:=by unfold jW;rw[zW X]
   have N:=zi m;clear m;go_wp2_with fail
   refine(Y.out _).mono ?_;rintro e x ⟨_,rfl,F,A⟩;obtain⟨m,n,q,o,r,t,s,rfl,-⟩:=F.parts;have B:=Ext.of A;go_wp2_with fail
   have A:Ext wr (x.alloc (cl #[G m,V n q o,V r t s] 118)):=B.alloc _;have B:=zq x (cl #[G m,V n q o,V r t s] 118);have I:=zi (show qe (x.alloc (cl #[G m,V n q o,V r t s] 118)) (ag #[G m,V n q o,V r t s]) (jW p kind i) 1 from by rw[N.out];exact F.alloc _);have N:=c_ 0 B;have P:=c_ 1 B;have Q:=c_ 2 B;have F:=zi (fun W (b:Ext (x.alloc (cl #[G m,V n q o,V r t s] 118)) W)=>And.intro (b.cell N) (And.intro (b.cell P) (And.intro (b.cell Q) (U.out W (A.trans b)))));clear N P Q B;generalize x.alloc (cl #[G m,V n q o,V r t s] 118)=B at *;generalize x.heap.size=b at *;have x:=Ext.refl B;obtain⟨_,_,_,_,_,_,_⟩:=F.out B x;go_region_held3 (fun W=>W.cell? ⟨b,0,O⟩=E (G m)/\W.cell? ⟨b,1,O⟩=E (V n q o)/\W.cell? ⟨b,2,O⟩=E (V r t s)/\W.cell? ⟨gb,0,O⟩=E (V (E ⟨j,l,O⟩) p.n u)/\W.cell? ⟨j,l+i*3,O⟩=E (G a1)/\W.cell? ⟨j,l+i*3+1,O⟩=E (V a8 a9 aa)/\W.cell? ⟨j,l+i*3+2,O⟩=E (V a5 a6 a7)) (first|(exact F.out _ ea)|go_keep) (first|(go_at_call 68;refine(HC.out _ _ _ d (jW p kind i) M a2 (by first|exact J.out _ A.drew|exact J.out _ A) (by first|exact I.out.below x.drew|exact I.out)).mono ?_;rintro e m ⟨rfl,j⟩;have l:Ext B m:=(by first|exact Qq j|exact Ext.of j)))
   all_goals
    by_cases b:d.1=jW p kind i*(d.2:Int)
    ·have o:=J2.2 b;have n:Hid (((List.range (i+1)).all fun k=>decide ((c.getD k (0,1)).1=jW p kind k*((c.getD k (0,1)).2:Int)))=true):=by rw[Hid,T.out,C.out,D.out];simp[b]
     clear b;go_wp2_with fail
     go_roundw
     case rel=>exact⟨i+1,by go_num,om,n,y.trans (A.trans (by first|exact l.drew|exact l))⟩
     case measure=>simp[intOf];omega
    ·have o:¬(d.1 + -(jW p kind i*(d.2:Int))).sign=0:=fun h=>b (J2.1 h)
     have c:=S.out (by rw[D.out];simp[b]);clear b;go_wp2;go_ret;exact⟨by rw[endC,c];rfl,(v.trans (y.trans (A.trans (by first|exact l.drew|exact l))))⟩
  ·obtain rfl:i=p.n:=om;have b:=C.out;have ad:¬(p.n:Int)<(p.n:Int):=om;go_wp2_with fail
   refine(a4.out _ _ (hR.below (v.trans y))).mono ?_;rintro e m ⟨rfl,j⟩;go_wp2;go_ret;have c:decide (g.sign<0)=decide (g<0):=by rw[Q8];exact Int.sign_neg_iff
   exact⟨by rw[endC,b,zW X,ZE,<-c];rfl,(v.trans (y.trans (Ext.of j)))⟩
theorem zot (j w:H)(i L:Nat)(p:qo)(h:RPr j w i p)(x:ji L p)(q:2+p.n<=L)(d:Option Addr)(g f:Nat)(R:Tri)(b:List (Int×Nat))(c:Int)(t:Qj w (V d g f) b)(u:b.length=p.n)(r:qe w R.val c 1)
 (kind z:Int) (Z:Tri) (s:qe w Z.val z 1) (K:Nat) (n:K+K<100000000) (o:10^40<10000^K) (k:∀a∈b,a.1.natAbs<10000^K/\a.2<10000^K) (l:c.natAbs<10000^K) (m:z.natAbs<10000^K):
 Calls pg 197 #[pn (E ⟨i,0,O⟩),ag #[V d g f,G R.b,R.up,R.down],it .i64 kind,ag #[G Z.b,Z.up,Z.down]] w fun e w'=>e= .returned (G (endC p kind z b c))/\Below w.heap.size w w':=by
 by_cases v:kind=1
 ·subst v;exact zos j w i L p h x q d g f R b c t u r z Z s K n o k l m
 ·exact znZ j w i L p h x q d g f R b c t u r kind z v Z s K n o k l m
def Sw (w:H)(v:Value)(ls:List ByteArray):Prop:=Sv w v ls\/∃a cap,v=V (E a) 0 cap/\ls= []
theorem Sw.below {w w':H}{v:Value}{a:List ByteArray}(h:Sw w v a)(b:Below w.heap.size w w'):Sw w' v a:=h.imp (fun h=>h.below b) id
theorem Sw.row {w:H}{b:Option Addr}{l cap:Nat}{a:List ByteArray}(h:Sw w (V b l cap) a)(c:a≠ []):∃g d,b=E ⟨g,d,O⟩/\g<w.heap.size/\∀i,i<a.length->w.cell? ⟨g,d+i,O⟩=E (gS (a.getD i ⟨#[]⟩)):=by
 rcases h with h|⟨_,_,_,rfl⟩
 ·exact h.row c
 ·exact absurd rfl c
def zaX (p:qo)(kind:Int)(pts:List ByteArray)(val:ByteArray)(w:H)(e:Ending)(w':H):Prop:=
 ∃(t:Tri) (c:Nat),e= .returned (tp #[ag #[G t.b,t.up,t.down],it .i64 (c:Nat)])/\(match ZH p kind (pts.map fun l=>l.data.toList) val.data.toList with|.error n=>c=n|.ok z=>c=0/\qe w' t.val z 1)/\Below w.heap.size w w'
theorem zaX.err {p:qo}{kind:Int}{a:List ByteArray}{val:ByteArray}{w w':H}{b:Bool}{u d:Option Addr×Nat×Nat}{n:Nat}(e:ZH p kind (a.map fun l=>l.data.toList) val.data.toList= .error n)(c:Below w.heap.size w w'):zaX p kind a val w (.returned (tp #[ag #[G b,V u.1 u.2.1 u.2.2,V d.1 d.2.1 d.2.2],it .i64 (n:Nat)])) w':=
 ⟨⟨b,u,d⟩,n,rfl,by rw[e],c⟩
theorem zaX.okay {p:qo}{kind:Int}{a:List ByteArray}{val:ByteArray}{w w':H}{b:Bool}{u d:Option Addr×Nat×Nat}{z:Int}(e:ZH p kind (a.map fun l=>l.data.toList) val.data.toList= .ok z)(f:qe w' (ag #[G b,V u.1 u.2.1 u.2.2,V d.1 d.2.1 d.2.2]) z 1)(c:Below w.heap.size w w'):zaX p kind a val w (.returned (tp #[ag #[G b,V u.1 u.2.1 u.2.2,V d.1 d.2.1 d.2.2],it .i64 0])) w':=
 ⟨⟨b,u,d⟩,0,rfl,by rw[e];exact⟨rfl,f⟩,c⟩
theorem zaN {w W:H}{g:Nat}(a:Ext w W)(ho:w.heap[g]? =E (cl #[G false,V O 0 0,V O 0 0] 118)):W.cell? ⟨g,0,O⟩=E (G false)/\W.cell? ⟨g,1,O⟩=E (V O 0 0)/\W.cell? ⟨g,2,O⟩=E (V O 0 0)/\W.frozen? ⟨g,0,O⟩=false/\W.frozen? ⟨g,1,O⟩=false/\W.frozen? ⟨g,2,O⟩=false/\¬QE W g:=by
 have e:=(a.block g (zf.1 ho).1).trans ho;exact⟨c_ 0 e,c_ 1 e,c_ 2 e,ZX e,ZX e,ZX e,zar e dc⟩
theorem zjK (e w:H)(c L:Nat)(p:qo)(h:RPr e w c p)(g:ji L p)(f:2+p.n<=L)(pa:Option Addr)(b:Nat)(a:List ByteArray)(val:ByteArray)(k:Sw w (V pa a.length b) a)(j:∀l∈a,l.size<=9223372036854775807)(m:val.size<=9223372036854775807)(i:a.length<=9223372036854775807):
 Calls pg 109 #[pn (E ⟨c,0,O⟩),ag #[it .i64 2,V pa a.length b,gS val]] w (zaX p 2 a val w):=by
 have g:Ext w ((w.alloc (cl #[it .i64 2,V pa a.length b,gS val] 46)).alloc (cl #[G false,V O 0 0,V O 0 0] 118)):=((Ext.refl w).alloc _).alloc _;obtain⟨c,f⟩:=zbs w (cl #[it .i64 2,V pa a.length b,gS val] 46) (cl #[G false,V O 0 0,V O 0 0] 118);have n:=zi f;have i:=zi (fun W (e:Ext ((w.alloc (cl #[it .i64 2,V pa a.length b,gS val] 46)).alloc (cl #[G false,V O 0 0,V O 0 0] 118)) W)=>And.intro (e.cell (c_ 0 c)) (And.intro (e.cell (c_ 1 c)) (e.cell (c_ 2 c))));have e:=zi g;clear g f c;go_enter func109,ntmps109
 go_wp2_with fail
 generalize ((w.alloc (cl #[it .i64 2,V pa a.length b,gS val] 46)).alloc (cl #[G false,V O 0 0,V O 0 0] 118))=j at *;have A:=e.out;have a:=Ext.refl j;obtain⟨_,_,_⟩:=i.out j a;refine(zaD _).mono ?_;rintro e k ⟨_,rfl,m,r⟩;obtain⟨i,e,g,f,a,c,b,rfl,-⟩:=m.parts;have q:=zi m;have m:=Ext.of r;obtain⟨r,s,x,_,_,_,y⟩:=zaN m n.out;have j:=zi (show Below w.heap.size w (((k.setCell ⟨w.heap.size+1,0,O⟩ (G i)).setCell ⟨w.heap.size+1,1,O⟩ (V e g f)).setCell ⟨w.heap.size+1,2,O⟩ (V a c b))from JA (o:=0) (t:=⟨i,(e,g,f),(a,c,b)⟩) (A.trans m) om);have m:=zi (show qe (((k.setCell ⟨w.heap.size+1,0,O⟩ (G i)).setCell ⟨w.heap.size+1,1,O⟩ (V e g f)).setCell ⟨w.heap.size+1,2,O⟩ (V a c b)) (ag #[G i,V e g f,V a c b]) 0 1 from q.out.kept (jS (o:=0) (t:=⟨i,(e,g,f),(a,c,b)⟩) y));go_wp2;exact zH (v:=tp #[ag #[G i,V e g f,V a c b],it .i64 0]) (by simp[results,results109,go_sem,r,s,x]) rfl (zaX.okay (u:=(e,g,f)) (d:=(a,c,b)) (z:=0) (by simp[ZH]) m.out j.out)
theorem ziI (e w:H)(c L:Nat)(p:qo)(h:RPr e w c p)(g:ji L p)(f:2+p.n<=L)(kind:Int)(q:¬kind=1)(A:¬kind=2)(pa:Option Addr)(b:Nat)(a:List ByteArray)(val:ByteArray)(m:Sw w (V pa a.length b) a)(j:∀l∈a,l.size<=9223372036854775807)(k:val.size<=9223372036854775807)(i:a.length<=9223372036854775807):
 Calls pg 109 #[pn (E ⟨c,0,O⟩),ag #[it .i64 kind,V pa a.length b,gS val]] w (zaX p kind a val w):=by
 have i:Ext w ((w.alloc (cl #[it .i64 kind,V pa a.length b,gS val] 46)).alloc (cl #[G false,V O 0 0,V O 0 0] 118)):=((Ext.refl w).alloc _).alloc _;obtain⟨e,g⟩:=zbs w (cl #[it .i64 kind,V pa a.length b,gS val] 46) (cl #[G false,V O 0 0,V O 0 0] 118);have y:=zi g;have f:=zi (fun W (c:Ext ((w.alloc (cl #[it .i64 kind,V pa a.length b,gS val] 46)).alloc (cl #[G false,V O 0 0,V O 0 0] 118)) W)=>And.intro (c.cell (c_ 0 e)) (And.intro (c.cell (c_ 1 e)) (c.cell (c_ 2 e))));have j:=zi i;clear i g e;go_enter func109,ntmps109
 go_wp2_with fail
 generalize ((w.alloc (cl #[it .i64 kind,V pa a.length b,gS val] 46)).alloc (cl #[G false,V O 0 0,V O 0 0] 118))=a at *;have D:=j.out;have b:=Ext.refl a;obtain⟨e,B,C⟩:=f.out a b;refine(zdK val _ k).mono ?_;rintro z b ⟨r,m,x,s,g,j,i,rfl,_,k⟩;have F:=Ext.of k;have k:(kind != 1)=true:=by simp[q]
 go_wp2_with fail
 have k:Ext a (b.alloc (cl #[G r,V m x s,V g j i] 118)):=F.alloc _;generalize b.alloc (cl #[G r,V m x s,V g j i] 118)=b at *;obtain⟨e,B,C⟩:=f.out b k;have g:=Ext.refl b;have g:=zi (fun W (c:Ext b W)=>f.out W (k.trans c));refine Jz (S:=fun W=>W.cell? ⟨w.heap.size,0,O⟩=E (it .i64 kind)) kr e (fun b=>?_);refine tkv 0 (h:=?_);refine tkv 1 (h:=?_);refine tkv 2 (h:=?_);refine tkv 3 (h:=?_);refine tks 4 (h:=?_);refine tks 5 (h:=?_);refine tkv 6 (h:=?_);refine tkv 7 (h:=?_);refine tks 8 (h:=?_);refine tks 9 (h:=?_);refine tks 10 (h:=?_);refine tks 11 (h:=?_);refine tks 12 (h:=?_);refine tks 13 (h:=?_);refine tks 14 (h:=?_);refine tks 15 (h:=?_);refine tkv 16 (h:=?_);refine QB kr ?_ _;go_wp2_with fail
 refine(zaD _).mono ?_;rintro z r ⟨_,rfl,s,m⟩;obtain⟨j,f,i,g,b,e,c,rfl,-⟩:=s.parts;have s:=k.trans (by first|exact Qq m|exact Ext.of m);obtain⟨k,m,x,_,_,_,_⟩:=zaN s y.out;have a:=zi (show Below w.heap.size w (((r.setCell ⟨w.heap.size+1,0,O⟩ (G j)).setCell ⟨w.heap.size+1,1,O⟩ (V f i g)).setCell ⟨w.heap.size+1,2,O⟩ (V b e c))from JA (o:=0) (t:=⟨j,(f,i,g),(b,e,c)⟩) (D.trans s) om);go_wp2;exact zH (v:=tp #[ag #[G j,V f i g,V b e c],it .i64 7]) (by simp[results,results109,go_sem,k,m,x]) rfl (zaX.err (u:=(f,i,g)) (d:=(b,e,c)) (n:=7) (by simp[ZH,q,A]) a.out)
theorem zkd (W1 w:H)(gp L:Nat)(p:qo)(h:RPr W1 w gp p)(an:ji L p)(hL:2+p.n<=L)(pa:Option Addr)(pc:Nat)(a:List ByteArray)(val:ByteArray)(hv:Sw w (V pa a.length pc) a)(b4:∀l∈a,l.size<=9223372036854775807)(bC:val.size<=9223372036854775807)(bN:a.length<=9223372036854775807):
 Calls pg 109 #[pn (E ⟨gp,0,O⟩),ag #[it .i64 1,V pa a.length pc,gS val]] w (zaX p 1 a val w):=by
 obtain⟨bv,_⟩:=an.n om;have bu:=an.m om;obtain⟨i0,bp,bE,bF,bG⟩:=qL Tryz.infoNum;have bz:∀aK:Prop,Hid aK->aK:=fun aK h=>h
 have bL:=zi (fun W (c:Ext w W)=>show RPr W1 W gp p from h.below c);have b9:=zi (fun W (c:Ext w W) vx xz hx hl bx=>zmC W1 W gp L p (h.below c) an hL vx xz hx hl bx);obtain⟨vM,_,_,_,hQ⟩:=h;obtain⟨k0,k1,-,-,-,-,-,-,-,-⟩:=hQ.box;have HK:=zi (fun W (c:Ext w W)=>And.intro (c.cell k0) (c.cell k1));have HM:=zi (fun W (c:Ext w W)=>(hQ.below c).mx);clear k0 k1 hQ;have aN:=zi an.bm;obtain⟨X,hK,ah,aF,ai,aW⟩:∃X,X+X<100000000/\1<10000^X/\10^100<10000^X/\4*(10^40*10^100)<10000^X/\10^40<10000^X:=⟨40,dc,dc,dc,dc,dc⟩;have ad:∀l:List UInt8,vOk l=true->(wZ l).natAbs<=10^100:=fun l hl=>by
  unfold wZ;rw[zbn];exact Z2 (zoh hl)
 have bd:Hid (∀W vx,Ext w W->Qj W vx ((a.map fun l=>wZ l.data.toList).map fun z=>(z,1))->a.length=p.n->(a.all fun l=>vOk l.data.toList)=true->Calls pg 193 #[vM,vx] W fun q w'=>∃Z,q= .returned Z/\qe w' Z (ju p.mx (a.map fun l=>wZ l.data.toList)) 1/\Below W.heap.size W w'):=by
  intro W vx c hx a9 aG;have bx:∀z∈a.map (fun l=>wZ l.data.toList),z.natAbs<=10^100:=fun z r=>by
   obtain⟨l,hl,rfl⟩:=ZC.1 r;exact ad _ (qR.1 aG l hl)
  have bm:=fun z r=>Z2 (aN.out z r)
  refine zif W vM vx p.mx _ (HM.out W c) hx (by rw[zo];omega) om X hK ah (fun z r=>zr (bm z r) aW) (fun z r=>zr (bx z r) aF) (fun aa ha aD hb=>?_) (fun bO=>?_)
  ·refine zr ?_ ai;rw[Zx];have:=Z0 (bm aa ha) (bx aD hb);omega
  ·refine zr (zfW _ _ (fun aa ha=>bm aa (Zv ha)) (fun aD hb=>bx aD (Zv hb))) (zr (qM _ ?_) ai);rw[zU];omega
 have b7:Hid (∀W au ax,a.length=p.n->(a.all fun l=>vOk l.data.toList)=true->vOk val.data.toList=true->qe W au (ju p.mx (a.map fun l=>wZ l.data.toList)) 1->qe W ax (wZ val.data.toList) 1->Calls pg 68 #[au,ax] W fun q w'=>q= .returned (it .i64 (ju p.mx (a.map fun l=>wZ l.data.toList) + -wZ val.data.toList).sign)/\Below W.heap.size W w'):=by
  intro W au ax a9 aG bB hx hy;have bx:∀z∈a.map (fun l=>wZ l.data.toList),z.natAbs<=10^100:=fun z r=>by
   obtain⟨l,hl,rfl⟩:=ZC.1 r;exact ad _ (qR.1 aG l hl)
  have bm:=fun z r=>Z2 (aN.out z r)
  have:=JQ X hK W au ax _ _ 1 1 hx hy (zr (zfW _ _ bm bx) (zr (qM _ om) ai)) (zr (ad _ bB) aF) ah ah;simpa using this
 have be:=zi ad;have bb:=zi hv;have bc:=zi b4;clear hK ah aF ai aW ad hv b4;have aY:Ext w ((w.alloc (cl #[it .i64 1,V pa a.length pc,gS val] 46)).alloc (cl #[G false,V O 0 0,V O 0 0] 118)):=((Ext.refl w).alloc _).alloc _;obtain⟨aj,aX⟩:=zbs w (cl #[it .i64 1,V pa a.length pc,gS val] 46) (cl #[G false,V O 0 0,V O 0 0] 118);have a8:=zi aX;have HV:=zi (fun W (c:Ext ((w.alloc (cl #[it .i64 1,V pa a.length pc,gS val] 46)).alloc (cl #[G false,V O 0 0,V O 0 0] 118)) W)=>And.intro (c.cell (c_ 0 aj)) (And.intro (c.cell (c_ 1 aj)) (c.cell (c_ 2 aj))));have bf:=zi aY;clear aY aX aj;go_enter func109,ntmps109
 go_wp2_with fail
 generalize ((w.alloc (cl #[it .i64 1,V pa a.length pc,gS val] 46)).alloc (cl #[G false,V O 0 0,V O 0 0] 118))=w0 at *;have x0:=bf.out;have y0:=Ext.refl w0;obtain⟨v0,v1,v2⟩:=HV.out w0 y0;refine(zdK val _ bC).mono ?_;rintro q w1 ⟨U,K,N,M,F,J,I,rfl,r,bk⟩;have x1:=Ext.of bk;rw[zjC]at r⊢;have bg:=zi r;clear r;go_wp2_with fail
 have x2:Ext w0 (w1.alloc (cl #[G U,V K N M,V F J I] 118)):=x1.alloc _;have t2:=zq w1 (cl #[G U,V K N M,V F J I] 118);have aS:=zi (fun hh=>((bg.out hh).alloc (cl #[G U,V K N M,V F J I] 118)));generalize w1.alloc (cl #[G U,V K N M,V F J I] 118)=w2 at *;generalize w1.heap.size=gz at *;have aU:=zi (fun W (c:Ext w2 W)=>And.intro (c.cell (c_ 0 t2)) (And.intro (c.cell (c_ 1 t2)) (c.cell (c_ 2 t2))));obtain⟨v0,v1,v2⟩:=HV.out w2 x2;obtain⟨k0,k1⟩:=HK.out w2 (x0.trans x2);clear t2;cases hvo:vOk val.data.toList with
 |false=>
  have a3:Hid (ZH p 1 (a.map fun l=>l.data.toList) val.data.toList= .error 7):=by rw[Hid];simp[ZH,hvo]
  refine Jz (S:=fun W=>W.cell? ⟨w.heap.size,0,O⟩=E (it .i64 1)/\W.cell? ⟨w.heap.size,1,O⟩=E (V pa a.length pc)/\W.cell? ⟨gp,0,O⟩=E (it .i64 (p.n:Nat))) kr ⟨v0,v1,k0⟩ (fun a7=>?_);refine tkv 0 (h:=?_);refine tkv 1 (h:=?_);refine tkv 2 (h:=?_);refine tkv 3 (h:=?_);refine tkv 4 (h:=?_);refine tkv 5 (h:=?_);refine tkv 6 (h:=?_);refine tkv 7 (h:=?_);refine tks 8 (h:=?_);refine tks 9 (h:=?_);refine tks 10 (h:=?_);refine tks 11 (h:=?_);refine tks 12 (h:=?_);refine tks 13 (h:=?_);refine tks 14 (h:=?_);refine tks 15 (h:=?_);refine tkv 16 (h:=?_);refine QB kr ?_ _;go_wp2_with fail
  refine(zaD _).mono ?_;rintro q R ⟨tO,rfl,a5,P⟩;obtain⟨s,j,m,k,e,i,g,rfl,-⟩:=a5.parts;have T:=x2.trans (by first|exact Qq P|exact Ext.of P);obtain⟨c0,c1,c2,f0,f1,f2,nk⟩:=zaN T a8.out;have a4:=zi (show Below w.heap.size w (((R.setCell ⟨w.heap.size+1,0,O⟩ (G s)).setCell ⟨w.heap.size+1,1,O⟩ (V j m k)).setCell ⟨w.heap.size+1,2,O⟩ (V e i g))from JA (o:=0) (t:=⟨s,(j,m,k),(e,i,g)⟩) (x0.trans T) om);go_wp2;exact zH (v:=tp #[ag #[G s,V j m k,V e i g],it .i64 7]) (by simp[results,results109,go_sem,c0,c1,c2]) rfl (zaX.err (u:=(j,m,k)) (d:=(e,i,g)) (n:=7) a3.out a4.out)
 |true=>
  by_cases a9:a.length=p.n
  ·have bt:((a.length:Int) != (p.n:Int))=false:=by simp[a9]
   have a6:=zi a9;have aB:=zi hvo;clear a9 hvo;refine Jz (S:=fun W=>W.cell? ⟨w.heap.size,0,O⟩=E (it .i64 1)/\W.cell? ⟨w.heap.size,1,O⟩=E (V pa a.length pc)/\W.cell? ⟨gp,0,O⟩=E (it .i64 (p.n:Nat))) kr ⟨v0,v1,k0⟩ (fun a7=>?_);refine tkv 0 (h:=?_);refine tkv 1 (h:=?_);refine tkv 2 (h:=?_);refine tkv 3 (h:=?_);refine tkv 4 (h:=?_);refine tkv 5 (h:=?_);refine tkv 6 (h:=?_);refine tkv 7 (h:=?_);refine tkv 8 (h:=?_);refine tkv 9 (h:=?_);refine tkv 10 (h:=?_);refine tkv 11 (h:=?_);refine tkv 12 (h:=?_);refine tkv 13 (h:=?_);refine tkv 14 (h:=?_);refine tkv 15 (h:=?_);refine tkv 16 (h:=?_);refine QB kr ?_ _;go_wp2_with fail
   have xd:=x2.drew;generalize aJ:w2.drew=w3 at *;have aT:=zi (show qe w3 (ag #[G U,V K N M,V F J I]) (wZ val.data.toList) 1 from by rw[<-aJ];exact(aS.out aB.out).below (Ext.refl w2).drew);have aV:=zi (fun W (c:Ext w3 W)=>aU.out W (by rw[<-aJ]at c;exact(Ext.refl w2).drew.trans c));clear aJ aS aU v0 v1 v2 k0 k1 a7 x2;have yd:=Ext.refl w3;have bK:=zi bv;go_loopw [8,9] (fun lv iv wr=>∃(b:List Tri),iv=it .i64 (b.length:Nat)/\b.length<=p.n/\wr.ownsRow w3.heap.size 118 3 lv b.length (Zj b)/\Hid (∀(Y:Nat) (Z:Tri),b[Y]? =E Z->qe wr Z.val (wZ (a.getD Y ⟨#[]⟩).data.toList) 1)/\Hid (((a.take b.length).all fun l=>vOk l.data.toList)=true)/\Ext w3 wr) (fun _ iv _=>p.n-(intOf iv).toNat)
   case atStart=>exact⟨[],rfl,sp,Ze _ _ _ _,by rw[Hid];intro Y Z hh;simp at hh,rfl,yd⟩
   case round=>
    obtain⟨b,rfl,_,ao,al,HA,xr⟩:=hrel;have xw:=xd.trans xr;obtain⟨k0,k1⟩:=HK.out wr (x0.trans xw);obtain⟨v0,v1,v2⟩:=HV.out wr xw;by_cases hk:b.length<p.n
    ·have bs:(b.length:Int)<(p.n:Int):=om;have ak:b.length<a.length:=by have:=a6.out;omega
     have bM:(b.length:Int)<(a.length:Int):=om;obtain⟨_,_,rfl,_,b2⟩:=bb.out.row (by intro q;rw[q]at ak;simp at ak);have bo:=(x0.trans xw).cell (b2 b.length ak);have aq:a[b.length]? =E (a.getD b.length ⟨#[]⟩):=by rw[zk,zj ak];rfl
     have b3:=bc.out _ (qJ aq);have az:=zi (zfs (f:=fun l:ByteArray=>vOk l.data.toList) aq);have ay:=zi (fun hh=>zky (f:=fun l:ByteArray=>vOk l.data.toList) aq hh);obtain⟨ar,hs⟩:∃ar,a.getD b.length ⟨#[]⟩=ar:=⟨_,rfl⟩;rw[hs]at bo b3 az ay;have HS:=zi hs;clear hs b2 aq;go_wp2_with fail
     refine(zdK ar _ b3).mono ?_;rintro q Q ⟨B,A,D,C,t,y,x,rfl,hn,aH⟩;rw[zjC]at hn⊢;have x4:=Ext.of aH;cases hso:vOk ar.data.toList with
     |false=>
      have a3:Hid (ZH p 1 (a.map fun l=>l.data.toList) val.data.toList= .error 7):=by
       have h1:=ay.out hso;have h2:(a.map fun l=>l.data.toList).all vOk=false:=by rw[zc6];exact h1
       rw[Hid];simp only[ZH,h2];simp
      have x5:Ext w0 (Q.alloc (cl #[G B,V A D C,V t y x] 118)):=(xw.trans x4).alloc _;go_wp2_with fail
      refine(zaD _).mono ?_;rintro q R ⟨tO,rfl,a5,P⟩;obtain⟨s,j,m,k,e,i,g,rfl,-⟩:=a5.parts;have T:=x5.trans (by first|exact Qq P|exact Ext.of P);obtain⟨c0,c1,c2,f0,f1,f2,nk⟩:=zaN T a8.out;have a4:=zi (show Below w.heap.size w (((R.setCell ⟨w.heap.size+1,0,O⟩ (G s)).setCell ⟨w.heap.size+1,1,O⟩ (V j m k)).setCell ⟨w.heap.size+1,2,O⟩ (V e i g))from JA (o:=0) (t:=⟨s,(j,m,k),(e,i,g)⟩) (x0.trans T) om);go_wp2;exact zH (v:=tp #[ag #[G s,V j m k,V e i g],it .i64 7]) (by simp[results,results109,go_sem,c0,c1,c2]) rfl (zaX.err (u:=(j,m,k)) (d:=(e,i,g)) (n:=7) a3.out a4.out)
     |true=>
      have bw:=hn hso;have hX:Ext wr ((Q.alloc (cl #[G B,V A D C,V t y x] 118)).alloc (cl #[G B,V A D C,V t y x] 118)):=(x4.alloc _).alloc _;have ap:=zb1 ao hX;have aL:Hid (((a.take (b.length+1)).all fun l=>vOk l.data.toList)=true):=by rw[Hid,az.out,HA.out,hso];rfl
      have aA:=zi ((bw.alloc (cl #[G B,V A D C,V t y x] 118)).alloc (cl #[G B,V A D C,V t y x] 118));have aE:=(xr.trans hX).size;obtain⟨w5,hw5⟩:∃w5,Q.alloc (cl #[G B,V A D C,V t y x] 118)=w5:=⟨_,rfl⟩;have t5:=zq Q (cl #[G B,V A D C,V t y x] 118);rw[hw5]at hX ap aA aE t5;have a0:=c_ 0 t5;have a1:=c_ 1 t5;have a2:=c_ 2 t5;clear t5 az ay hn HA;go_wp2_with (at_builtin;refine bz _ ?_)
      unfold Hid;refine Qz _ rfl _ _ 200 rfl w3.heap.size 118 i0 (ag #[G false,V O 0 0,V O 0 0]) 3 56 underlying200 bp bE bF bG rfl dc u8 b.length (Zj b) rfl ap ⟨w5.heap.size,0,O⟩ 1 1 (Tri.cells ⟨B,(A,D,C),(t,y,x)⟩) rfl rfl (zap w5 ⟨B,(A,D,C),(t,y,x)⟩ _) (zfa _) om mo om aE (w5.heap.size+1) sp ?_;intro g6 bj w6 b5 af bh bH;have aI:=JG ap dc;have ba:Hid (∀(Y:Nat) (Z:Tri),(b ++ [⟨B,(A,D,C),(t,y,x)⟩])[Y]? =E Z->qe w6 Z.val (wZ (a.getD Y ⟨#[]⟩).data.toList) 1):=by
       intro Y Z ab;by_cases br:Y<b.length
       ·rw[zM br]at ab;exact((al.out Y Z ab).below hX).grown af aI
       ·have bq:Y=b.length:=by
         have:=(zn.1 ab).1;simp at this;omega
        subst bq;rw[zJ (zh _),Zy]at ab;have bD:=qV ab;subst bD;rw[HS.out];exact aA.out.grown af aI
      have x6:Ext w3 w6:=JH (xr.trans hX) ap af aE;have bI:w6.ownsRow w3.heap.size 118 3 (V (E ⟨g6,0,O⟩) (b.length+1) bj) (b ++ [(⟨B,(A,D,C),(t,y,x)⟩:Tri)]).length (Zj (b ++ [(⟨B,(A,D,C),(t,y,x)⟩:Tri)])):=by
       rw[zX,qF];have q:Zj b++Tri.cells ⟨B,(A,D,C),(t,y,x)⟩=Zj (b ++ [(⟨B,(A,D,C),(t,y,x)⟩:Tri)]):=by simp[Zj]
       rw[<-q];exact b5
      have b1:(b ++ [(⟨B,(A,D,C),(t,y,x)⟩:Tri)]).length=b.length+1:=sp;generalize b ++ [(⟨B,(A,D,C),(t,y,x)⟩:Tri)]=bJ at *;rw[<-b1]at aL;clear af b5 al bh bH aI aA;go_wp2_with fail
      go_roundw
      case rel=>exact⟨bJ,by rw[b1];go_num,om,bI,ba,aL,x6⟩
      case measure=>simp[intOf];omega
    ·have aQ:Hid (b.length=p.n):=by rw[Hid];omega
     have bs:¬(b.length:Int)<(p.n:Int):=om;have ae:Hid ((a.all fun l=>vOk l.data.toList)=true):=by
      have h1:=HA.out;rw[zy (by have:=a6.out;have:=aQ.out;omega)]at h1;exact h1
     have b6:Hid ((a.map fun l=>l.data.toList).all vOk=true):=by rw[Hid,zc6];exact ae.out
     obtain⟨ua,uc,rfl⟩:=zfV ao;have aP:Hid (Qj wr (V ua b.length uc) ((a.map fun l=>wZ l.data.toList).map fun z=>(z,1))):=by
      refine zbO ao (by simp;have:=a6.out;have:=aQ.out;omega) (fun Y Z z ht r=>?_);have aZ:Y<a.length:=by
       have h1:=(zn.1 ht).1;have:=a6.out;omega
      simp only[ZV,zQ,zj aZ,Zz,Function.comp,z7]at r;subst r;have h1:=al.out Y Z ht;rw[zk,zj aZ]at h1;exact h1
     have b8:=zi (b9.out wr (x0.trans xw) (V ua b.length uc) (a.map fun l=>wZ l.data.toList) aP.out (by rw[zo];exact a6.out) (fun z r=>by
      obtain⟨l,hl,rfl⟩:=ZC.1 r;exact be.out _ (qR.1 ae.out l hl)))
     have aC:Hid (ZH p 1 (a.map fun l=>l.data.toList) val.data.toList=if J9 (zaV p) (a.map fun l=>wZ l.data.toList)=true/\ju p.mx (a.map fun l=>wZ l.data.toList)=wZ val.data.toList then .ok (wZ val.data.toList)else .error 8):=by
      have q:(a.map fun l=>l.data.toList).map wZ=a.map fun l=>wZ l.data.toList:=by rw[ZV];rfl
      rw[Hid];unfold ZH;rw[zW dc,zW ?_,q];rintro(h|h|h|h);·exact h rfl
      ·rw[aB.out]at h;cases h
      ·exact h (by rw[zo];exact a6.out)
      ·rw[b6.out]at h;cases h
     clear HA al ao;go_wp2_with fail
     refine b8.out.mono ?_;rintro q Q ⟨rfl,aH⟩;have x4:=Ext.of aH;have aw:=xw.trans x4;obtain⟨k0,k1⟩:=HK.out Q (x0.trans aw);obtain⟨z0,z1,z2⟩:=aV.out Q (xr.trans x4);obtain⟨aM,cM,hvM⟩:∃aM cM,vM=V aM p.n cM:=by
      obtain⟨aa,bi,q⟩:=(HM.out w (Ext.refl w)).shape;rw[zo,bu]at q;exact⟨aa,bi,q⟩
     rw[hvM]at k1;have aO:Hid (∀W,Ext Q W->W.cell? ⟨gp,1,O⟩=E (V aM p.n cM)/\W.cell? ⟨gz,0,O⟩=E (G U)/\W.cell? ⟨gz,1,O⟩=E (V K N M)/\W.cell? ⟨gz,2,O⟩=E (V F J I)):=fun W c=>⟨c.cell k1,c.cell z0,c.cell z1,c.cell z2⟩
     have aR:=zi (bd.out Q.drew (V ua b.length uc) (x0.trans aw).drew (aP.out.below (x4.drew)) a6.out ae.out);rw[hvM]at aR;clear hvM;cases hme:J9 (zaV p) (a.map fun l=>wZ l.data.toList)with
     |false=>
      have a3:Hid (ZH p 1 (a.map fun l=>l.data.toList) val.data.toList= .error 8):=by rw[Hid,aC.out,hme];simp
      go_wp2_with fail
      refine Jz (S:=fun W=>W.cell? ⟨gp,1,O⟩=E (V aM p.n cM)/\W.cell? ⟨gz,0,O⟩=E (G U)/\W.cell? ⟨gz,1,O⟩=E (V K N M)/\W.cell? ⟨gz,2,O⟩=E (V F J I)) kr ⟨k1,z0,z1,z2⟩ (fun a7=>?_);refine tkv 0 (h:=?_);refine tkv 1 (h:=?_);refine tkv 2 (h:=?_);refine tks 3 (h:=?_);refine tks 4 (h:=?_);refine tks 5 (h:=?_);refine tks 6 (h:=?_);refine tks 7 (h:=?_);refine tks 8 (h:=?_);refine tks 9 (h:=?_);refine tks 10 (h:=?_);refine tks 11 (h:=?_);refine tkv 12 (h:=?_);refine QB kr ?_ _;go_wp2_with fail
      refine(zaD _).mono ?_;rintro q R ⟨tO,rfl,a5,P⟩;obtain⟨s,j,m,k,e,i,g,rfl,-⟩:=a5.parts;have T:=aw.trans (by first|exact Qq P|exact Ext.of P);obtain⟨c0,c1,c2,f0,f1,f2,nk⟩:=zaN T a8.out;have a4:=zi (show Below w.heap.size w (((R.setCell ⟨w.heap.size+1,0,O⟩ (G s)).setCell ⟨w.heap.size+1,1,O⟩ (V j m k)).setCell ⟨w.heap.size+1,2,O⟩ (V e i g))from JA (o:=0) (t:=⟨s,(j,m,k),(e,i,g)⟩) (x0.trans T) om);go_wp2;exact zH (v:=tp #[ag #[G s,V j m k,V e i g],it .i64 8]) (by simp[results,results109,go_sem,c0,c1,c2]) rfl (zaX.err (u:=(j,m,k)) (d:=(e,i,g)) (n:=8) a3.out a4.out)
     |true=>
      go_wp2_with fail
      refine Jz (S:=fun W=>W.cell? ⟨gp,1,O⟩=E (V aM p.n cM)/\W.cell? ⟨gz,0,O⟩=E (G U)/\W.cell? ⟨gz,1,O⟩=E (V K N M)/\W.cell? ⟨gz,2,O⟩=E (V F J I)) kr ⟨k1,z0,z1,z2⟩ (fun a7=>?_);refine tkv 0 (h:=?_);refine tkv 1 (h:=?_);refine tkv 2 (h:=?_);refine tkv 3 (h:=?_);refine tkv 4 (h:=?_);refine tkv 5 (h:=?_);refine tkv 6 (h:=?_);refine tkv 7 (h:=?_);refine tkv 9 (h:=?_);refine rd1 8 (h:=fun X hK=>?_);go_simp;go_at_call 193
      refine aR.out.mono ?_;rintro q w5 ⟨_,rfl,bA,bl⟩;have x5:=Qq bl;go_wp2_with fail
      refine hK.out _ _ (by exact aO.out _ x5) (h:=fun a7=>?_);clear hK X;refine rd1 10 (h:=fun X hK=>?_);go_simp;go_at_call 68
      refine(b7.out w5 _ _ a6.out ae.out aB.out bA (aT.out.below (xr.trans (x4.trans x5)))).mono ?_;rintro q w6 ⟨rfl,bn⟩;have x6:=x5.trans (Ext.of bn);go_wp2_with fail
      refine hK.out _ _ (by exact aO.out _ x6) (h:=fun a7=>?_);clear hK X;refine tkv 11 (h:=?_);refine tkv 12 (h:=?_);refine QB kr ?_ _;by_cases hd:ju p.mx (a.map fun l=>wZ l.data.toList)=wZ val.data.toList
      ·have hs:=J2.2 hd;have a3:Hid (ZH p 1 (a.map fun l=>l.data.toList) val.data.toList= .ok (wZ val.data.toList)):=by rw[Hid,aC.out,hme,z8 ⟨rfl,hd⟩]
       have xF:=xr.trans (x4.trans x6);have av:=xd.trans xF;obtain⟨z0,z1,z2⟩:=aV.out w6 xF;have HZ:=zi (aT.out.below xF);clear hd;obtain⟨c0,c1,c2,f0,f1,f2,nk⟩:=zaN av a8.out;have a4:=zi (show Below w.heap.size w (((w6.setCell ⟨w.heap.size+1,0,O⟩ (G U)).setCell ⟨w.heap.size+1,1,O⟩ (V K N M)).setCell ⟨w.heap.size+1,2,O⟩ (V F J I))from JA (o:=0) (t:=⟨U,(K,N,M),(F,J,I)⟩) (x0.trans av) om);have HN:=zi (show qe (((w6.setCell ⟨w.heap.size+1,0,O⟩ (G U)).setCell ⟨w.heap.size+1,1,O⟩ (V K N M)).setCell ⟨w.heap.size+1,2,O⟩ (V F J I)) (ag #[G U,V K N M,V F J I]) (wZ val.data.toList) 1 from HZ.out.kept (jS (o:=0) (t:=⟨U,(K,N,M),(F,J,I)⟩) nk));go_wp2;exact zH (v:=tp #[ag #[G U,V K N M,V F J I],it .i64 0]) (by simp[results,results109,go_sem,c0,c1,c2]) rfl (zaX.okay (u:=(K,N,M)) (d:=(F,J,I)) a3.out HN.out a4.out)
      ·have hs:¬(ju p.mx (a.map fun l=>wZ l.data.toList) + -wZ val.data.toList).sign=0:=fun hh=>hd (J2.1 hh)
       have a3:Hid (ZH p 1 (a.map fun l=>l.data.toList) val.data.toList= .error 8):=by rw[Hid,aC.out,hme,zW (fun hh=>hd hh.2)]
       have av:=aw.trans x6;clear hd;go_wp2_with fail
       refine(zaD _).mono ?_;rintro q R ⟨tO,rfl,a5,P⟩;obtain⟨s,j,m,k,e,i,g,rfl,-⟩:=a5.parts;have T:=av.trans (by first|exact Qq P|exact Ext.of P);obtain⟨c0,c1,c2,f0,f1,f2,nk⟩:=zaN T a8.out;have a4:=zi (show Below w.heap.size w (((R.setCell ⟨w.heap.size+1,0,O⟩ (G s)).setCell ⟨w.heap.size+1,1,O⟩ (V j m k)).setCell ⟨w.heap.size+1,2,O⟩ (V e i g))from JA (o:=0) (t:=⟨s,(j,m,k),(e,i,g)⟩) (x0.trans T) om);go_wp2;exact zH (v:=tp #[ag #[G s,V j m k,V e i g],it .i64 8]) (by simp[results,results109,go_sem,c0,c1,c2]) rfl (zaX.err (u:=(j,m,k)) (d:=(e,i,g)) (n:=8) a3.out a4.out)
  ·have bt:((a.length:Int) != (p.n:Int))=true:=by
    simp;omega
   have a3:Hid (ZH p 1 (a.map fun l=>l.data.toList) val.data.toList= .error 7):=by rw[Hid];simp[ZH,a9]
   refine Jz (S:=fun W=>W.cell? ⟨w.heap.size,0,O⟩=E (it .i64 1)/\W.cell? ⟨w.heap.size,1,O⟩=E (V pa a.length pc)/\W.cell? ⟨gp,0,O⟩=E (it .i64 (p.n:Nat))) kr ⟨v0,v1,k0⟩ (fun a7=>?_);refine tkv 0 (h:=?_);refine tkv 1 (h:=?_);refine tkv 2 (h:=?_);refine tkv 3 (h:=?_);refine tkv 4 (h:=?_);refine tkv 5 (h:=?_);refine tkv 6 (h:=?_);refine tkv 7 (h:=?_);refine tkv 8 (h:=?_);refine tkv 9 (h:=?_);refine tkv 10 (h:=?_);refine tkv 11 (h:=?_);refine tkv 12 (h:=?_);refine tkv 13 (h:=?_);refine tkv 14 (h:=?_);refine tkv 15 (h:=?_);refine tkv 16 (h:=?_);refine QB kr ?_ _;go_wp2_with fail
   refine(zaD _).mono ?_;rintro q R ⟨tO,rfl,a5,P⟩;obtain⟨s,j,m,k,e,i,g,rfl,-⟩:=a5.parts;have T:=x2.trans (by first|exact Qq P|exact Ext.of P);obtain⟨c0,c1,c2,f0,f1,f2,nk⟩:=zaN T a8.out;have a4:=zi (show Below w.heap.size w (((R.setCell ⟨w.heap.size+1,0,O⟩ (G s)).setCell ⟨w.heap.size+1,1,O⟩ (V j m k)).setCell ⟨w.heap.size+1,2,O⟩ (V e i g))from JA (o:=0) (t:=⟨s,(j,m,k),(e,i,g)⟩) (x0.trans T) om);go_wp2;exact zH (v:=tp #[ag #[G s,V j m k,V e i g],it .i64 7]) (by simp[results,results109,go_sem,c0,c1,c2]) rfl (zaX.err (u:=(j,m,k)) (d:=(e,i,g)) (n:=7) a3.out a4.out)
theorem zke (d w:H)(b L:Nat)(p:qo)(h:RPr d w b p)(f:ji L p)(e:2+p.n<=L)(kind:Int)(pa:Option Addr)(c:Nat)(a:List ByteArray)(val:ByteArray)(j:Sw w (V pa a.length c) a)(i:∀l∈a,l.size<=9223372036854775807)(k:val.size<=9223372036854775807)(g:a.length<=9223372036854775807):
 Calls pg 109 #[pn (E ⟨b,0,O⟩),ag #[it .i64 kind,V pa a.length c,gS val]] w (zaX p kind a val w):=by
 by_cases n:kind=2
 ·subst n;exact zjK d w b L p h f e pa c a val j i k g
 ·by_cases m:kind=1
  ·subst m;exact zkd d w b L p h f e pa c a val j i k g
  ·exact ziI d w b L p h f e kind m n pa c a val j i k g
end Go.Proofs.YtnhfdcfnojnofaaGreatDoor.T
namespace Go.Proofs.YtnhfdcfnojnofaaGreatDoor
open Go.RowKit
def Red (a:Int×Nat):Prop:=0<a.2/\Nat.gcd a.1.natAbs a.2=1
theorem zjL {z:Int}{n:Nat}(a:0<n):Red (qred z n):=by
 have c:0<Nat.gcd z.natAbs n:=Qn _ a;have b:(Nat.gcd z.natAbs n:Int) ∣ z:=Q3.2 (ZY _ _);refine⟨zaO (QV a (ZZ _ _)) c,?_⟩;show Nat.gcd (z/(Nat.gcd z.natAbs n:Int)).natAbs (n/Nat.gcd z.natAbs n)=1
 rw[jq b,Zc];exact Nat.gcd_div_gcd_div_gcd_of_pos_right a
theorem Red.whole {a:Int×Nat}(h:Red a){r:Int}(e:a.1=r*(a.2:Int)):a=(r,1):=by
 have c:a.2 ∣ a.1.natAbs:=by rw[e,Zx,Zc];exact Nat.dvd_mul_left _ _
 have b:a.2=1:=by
  have:=Nat.dvd_gcd c (Nat.dvd_refl a.2);rw[h.2]at this;exact Nat.dvd_one.1 this
 refine Prod.ext ?_ b;rw[e,b];simp
def zhn (acc:List (Int×Nat)×(Int×Nat)):Prop:=(∀a∈acc.1,Red a)/\Red acc.2
theorem zfX {n R:Nat}{rows:List (List Int×Int)}(i:Jl n R rows):∀(d:List (Nat×Int×Nat)) (c b:List (Int×Nat)×(Int×Nat)),(∀x∈d,0<x.2.2)->zhn c->qG rows d c= .ok b->zhn b
 |[],c,b,_,a,h=>by
  simp only[qG,Except.ok.injEq]at h;subst h;exact a
 |x::d,c,b,f,a,h=>by
  rw[qG]at h;by_cases h1:x.1<1\/rows.length<x.1
  ·rw[z8 h1]at h;cases h
  ·rw[zW h1]at h;by_cases e:x.2.1<=0
   ·rw[z8 e]at h;cases h
   ·rw[zW e]at h;have j:=f x ZS;have step:∀(c:Int×Nat) (g:Int),Red c->True->Red (jh c (Z5 (g,1) x.2)):=by
     intro c g a _;have c:Red (Z5 (g,1) x.2):=zjL (jr Nat.one_pos j);exact zjL (jr a.1 c.1)
    refine zfX i d _ b (fun y b=>f y (Zu _ b)) ⟨zgo a.1 (fun _ _=>trivial) step,step _ _ a.2 trivial⟩ h
theorem zdA {rows:List (List Int×Int)}:∀{c:List (Nat×Int×Nat)} {a:List (Int×Nat)×(Int×Nat)} {e:Nat},qG rows c a= .error e->e=9\/e=10
 |[],a,e,h=>by simp[qG]at h
 |x::c,a,e,h=>by
  rw[qG]at h;by_cases h1:x.1<1\/rows.length<x.1
  ·rw[z8 h1]at h;injection h with h
   exact .inl h.symm
  ·rw[zW h1]at h;by_cases b:x.2.1<=0
   ·rw[z8 b]at h;injection h with h
    exact .inr h.symm
   ·rw[zW b]at h;exact zdA h
theorem zfY (n:Nat):zhn (List.replicate n ((0:Int),1),((0:Int),1)):=
 ⟨fun a a=>by rw[(zdv.1 a).2];exact⟨Nat.one_pos,dc⟩,⟨Nat.one_pos,by show Nat.gcd 0 1=1;decide⟩⟩
theorem zn0 {p:qo}{kind z:Int}{a:List (Int×Nat)×(Int×Nat)}(l:zhn a)(b:a.1.length=p.n)(j:p.mx.length=p.n):T.endC p kind z a.1 (a.2.1/(a.2.2:Int))=((Qa a).map (jM p kind z)).getD false:=by
 have g:((List.range p.n).all fun k=>decide ((a.1.getD k (0,1)).1=T.jW p kind k*((a.1.getD k (0,1)).2:Int)))=true↔a.1=(List.range p.n).map fun k=>(T.jW p kind k,1):=by
  rw[qR];constructor
  ·intro h;apply zcs;·simp[b]
   ·intro i c e;have d:i<p.n:=om;have b:=QU (h i (zdj.2 d));rw[zk,zj c]at b;have f:=(l.1 _ (zZ c)).whole b;rw[f];simp
  ·intro h k b;have f:=zdj.1 b;rw[h,zk,zQ,zaw f];simp
 have f:((List.range p.n).map fun k=>(T.jW p kind k,1))=((if kind=1 then p.mx else List.replicate p.n 0).map fun z=>(z,1)):=by
  apply zcs;·split<;>simp[j]
  ·intro i c e;have d:i<p.n:=by simpa using c
   simp only[List.getElem_map,List.getElem_range];unfold T.jW;split
   ·rename_i b
    subst b;try simp only[jo]
    rw[zk,zj om];rfl
   ·rename_i b
    simp[b]
 rw[f]at g;unfold T.endC;by_cases d:((List.range p.n).all fun k=>decide ((a.1.getD k (0,1)).1=T.jW p kind k*((a.1.getD k (0,1)).2:Int)))=true
 ·have e:=g.1 d;rw[d,ZE];have f:a.1.all (fun c=>decide (c.2=1))=true:=by
   rw[e,qR];intro c i;obtain⟨_,_,rfl⟩:=ZC.1 i;simp
  have i:a.1.map Prod.fst=if kind=1 then p.mx else List.replicate p.n 0:=by
   rw[e,ZV];exact(List.map_congr_left (fun c _=>rfl)).trans (List.map_id _)
  unfold Qa jM;rw[z8 f,i];by_cases b:kind=1
  ·simp[b]
  ·simp[b]
 ·have e:((List.range p.n).all fun k=>decide ((a.1.getD k (0,1)).1=T.jW p kind k*((a.1.getD k (0,1)).2:Int)))=false:=by simpa using d
  rw[e,zag];unfold Qa;split
  ·rename_i f
   have e:¬(a.1.map Prod.fst)=if kind=1 then p.mx else List.replicate p.n 0:=by
    intro h;apply d;rw[g,<-h,ZV];symm
    have:∀(l:List (Int×Nat)),l.all (fun c=>decide (c.2=1))=true->l.map ((fun z=>(z,1)) ∘ Prod.fst)=l:=by
     intro l a;induction l with
     |nil=>rfl
     |cons c r c=>
      rw[zci,ZQ]at a;rw[ZF,c a.2];congr 1
      exact Prod.ext rfl (QU a.1).symm
    exact this _ f
   unfold jM;by_cases b:kind=1
   ·simp only[b,jo]at e⊢;simp;intro h;exact absurd h e
   ·simp only[b,Jg]at e⊢;simp[e]
  ·rfl
theorem zim {n:Nat}{goal:List Int×Int->Bool}{a:List (List UInt8×Bool)}{k:Nat}{rows:List (List Int×Int)}{y:List UInt8×Bool}(c:a[k]? =E y):QR n goal k rows (a.drop k)=match zc5 (decide (k+1=a.length)) y with
 |none=>(5,k+1)
 |some d=>match qG rows d (List.replicate n (0,1),(0,1))with
  |.error e=>(e,k+1)
  |.ok b=>
   if decide (k+1=a.length)=true then(if ((Qa b).map goal).getD false=true then(0,0)else(12,k+1))
   else match Qa b with
    |none=>(11,k+1)
    |some row=>QR n goal (k+1) (rows ++ [row]) (a.drop (k+1)):=by
 obtain⟨b,rfl⟩:=zn.1 c;rw[Zn b,QR];have e:(a.drop (k+1)).isEmpty=decide (k+1=a.length):=by
  rw[QD,List.isEmpty_iff,zbV,zcW];omega
 rw[e];rfl
theorem zlh {s:List UInt8}{p:qo}(h:jj s= .ok p):2+p.n<=(qE s).length:=by
 unfold jj at h;split at h
 ·cases h
 ·split at h
  ·cases h
  ·split at h
   ·cases h
   ·rename_i q _ a
    split at h
    ·cases h
    ·injection h with h
     subst h;omega
theorem zfZ {p:qo}{kind:Int}{a:List (List UInt8)}{v:List UInt8}{e:Nat}(h:ZH p kind a v= .error e):e=7\/e=8:=by
 unfold ZH at h;split at h
 ·cases h
 ·split at h
  ·injection h with h
   exact .inl h.symm
  ·split at h
   ·cases h
   ·injection h with h
    exact .inr h.symm
theorem zgt {p:qo}{kind:Int}{a:List (List UInt8)}{v:List UInt8}{z:Int}(h:ZH p kind a v= .ok z):z.natAbs<=10^100:=by
 unfold ZH at h;split at h
 ·injection h with h
  subst h;exact qp _
 ·rename_i a
  split at h
  ·cases h
  ·rename_i b
   split at h
   ·injection h with h
    subst h;have a:vOk v=true:=by
     cases a:vOk v with
     |true=>rfl
     |false=>exact absurd (.inr (.inl a)) b
    unfold T.wZ;rw[zbn];exact Z2 (T.zoh a)
   ·cases h
theorem zfd (rows:List (List Int×Int))(c:rows.length<1125899906842624):∀(b:List (List UInt8)) (a:List (Int×Nat)×(Int×Nat)),qG rows (b.map T.Jk) a=qG rows (b.map jx) a
 |[],_=>rfl
 |l::b,a=>by
  rw[ZF,ZF,qG,qG];show(if min (T.partN l) 1125899906842624<1\/rows.length<min (T.partN l) 1125899906842624 then _ else if T.partP l<=0 then _ else _)=(if T.partN l<1\/rows.length<T.partN l then _ else if T.partP l<=0 then _ else _)
  by_cases h:T.partN l<1\/rows.length<T.partN l
  ·rw[z8 h,z8 om]
  ·rw[zW h,zW om];have e:min (T.partN l) 1125899906842624=T.partN l:=om;by_cases a:T.partP l<=0
   ·rw[z8 a,z8 a]
   ·rw[zW a,zW a];have a:T.Jk l=jx l:=by
     unfold T.Jk jx;rw[e]
    rw[a];exact zfd rows c b _
theorem zeG (rows:List (List Int×Int))(x:Nat×Int×Nat):∀(c:List (Nat×Int×Nat)) (a:List (Int×Nat)×(Int×Nat)),qG rows (c ++ [x]) a=(match qG rows c a with|.error e=> .error e|.ok d=>qG rows [x] d)
 |[],a=>by simp[qG]
 |y::c,a=>by
  rw[Q5,qG];conv=>rhs;rw[qG]
  by_cases h:y.1<1\/rows.length<y.1
  ·rw[z8 h,z8 h]
  ·rw[zW h,zW h];by_cases b:y.2.1<=0
   ·rw[z8 b,z8 b]
   ·rw[zW b,zW b];exact zeG rows x c _
theorem zf0 (rows:List (List Int×Int)){e:Nat}(r:List (Nat×Int×Nat)):∀(b:List (Nat×Int×Nat)) (a:List (Int×Nat)×(Int×Nat)),qG rows b a= .error e->qG rows (b++r) a= .error e
 |[],a,h=>by simp[qG]at h
 |y::b,a,h=>by
  rw[qG]at h;rw[Q5,qG];by_cases h1:y.1<1\/rows.length<y.1
  ·rw[z8 h1]at h⊢;exact h
  ·rw[zW h1]at h⊢;by_cases c:y.2.1<=0
   ·rw[z8 c]at h⊢;exact h
   ·rw[zW c]at h⊢;exact zf0 rows r b _ h
theorem zn1 (z:Int)(e:Bool)(a:Option Addr)(l c:Nat)(w:H):
 Calls pg 335 #[ag #[it .i64 z,G e,V a l c]] w fun b w'=>b= .returned (.func (.func 384) #[] #[pn (E ⟨w.heap.size+1,0,O⟩)])/\w'=(w.alloc (cl #[it .i64 z,G e,V a l c] 259)).alloc (cl #[V a l c] 257):=by
 go_enter func335,ntmps335
 go_wp2_with fail
 refine(zhH _ _ _ _).mono ?_;rintro b b ⟨rfl,rfl⟩;go_wp2;go_ret;exact⟨sp,rfl⟩
attribute [local go_sem] qm qW ZR
def BdI (w1:H)(g6 r4 r5 n:Nat)(rows:List (List Int×Int))(ps:List (Nat×Int×Nat))(k:Nat)(M:Nat->Prop)(A:H):Prop:=
 Wr (fun b=>b=g6) w1 A/\k<=ps.length/\(∃(acc:List (Int×Nat)×(Int×Nat)) (b:BT),qG rows (ps.take k) (List.replicate n (0,1),(0,1))= .ok acc/\A.heap[g6]? =E (cl #[G b.m.b,b.m.up,b.m.down,b.fv] 365)/\JU A b acc)/\∀x,M x↔x=g6\/x=r4\/x=r5
theorem BdI.keep {b A B:H}{c e f n:Nat}{rows:List (List Int×Int)}{d:List (Nat×Int×Nat)}{k:Nat}{M:Nat->Prop}(h:BdI b c e f n rows d k M A)(a:zw b.heap.size A B):BdI b c e f n rows d k M B:=by
 obtain⟨d,e,⟨b,c,f,g,i⟩,j⟩:=h;exact⟨d.keep a,e,⟨b,c,f,a.block _ _ g (.inr rfl),i.keep a⟩,j⟩
def BdX (w:H)(r4 r5 n:Nat)(rows:List (List Int×Int))(ps:List (Nat×Int×Nat))(c:Code)(A:H):Prop:=c= .ret/\Below w.heap.size w A/\∃er:Nat,qG rows ps (List.replicate n (0,1),(0,1))= .error er/\A.heap[r4]? =E (cl #[G false,V O 0 0,V O 0 0,V O 0 0] 365)/\A.heap[r5]? =E (cl #[it .i64 (er:Nat)] 27)
theorem BdX.keep {w A B:H}{d e n C:Nat}{rows:List (List Int×Int)}{b:List (Nat×Int×Nat)}{c:Code}(h:BdX w d e n rows b c A)(a:zw C A B)(j:w.heap.size<=C):BdX w d e n rows b c B:=by
 obtain⟨d,e,b,f,g,i⟩:=h;exact⟨d,a.below e j (zh _),b,f,a.block _ _ g (.inr rfl),a.block _ _ i (.inr rfl)⟩
theorem zli {w:H}{r s:Nat}(p:r≠s){i j l m n:Value}{f h:TypeId}(h1:w.heap[r]? =E (cl #[i,j,l,m] f))(o:w.heap[s]? =E (cl #[n] h))(a b c d e:Value):
 (((((w.setCell ⟨r,0,O⟩ a).setCell ⟨r,1,O⟩ b).setCell ⟨r,2,O⟩ c).setCell ⟨r,3,O⟩ d).setCell ⟨s,0,O⟩ e).heap[r]? =E (cl #[a,b,c,d] f)/\(((((w.setCell ⟨r,0,O⟩ a).setCell ⟨r,1,O⟩ b).setCell ⟨r,2,O⟩ c).setCell ⟨r,3,O⟩ d).setCell ⟨s,0,O⟩ e).heap[s]? =E (cl #[e] h)/\Wr (fun k=>k=r\/k=s) w (((((w.setCell ⟨r,0,O⟩ a).setCell ⟨r,1,O⟩ b).setCell ⟨r,2,O⟩ c).setCell ⟨r,3,O⟩ d).setCell ⟨s,0,O⟩ e):=by
 refine⟨(zK _ _ _ _ so).trans (T.ze7 h1),T.zev ((T.zc1 om).trans o),?_⟩;exact((zhL (w:=w) (g:=r) a b c d).mono (fun k f=> .inl f)).trans (qS (U:=fun k=>k=r\/k=s) (.inr rfl) _)
theorem zdm.wr {U:Nat->Prop}{w w':H}{v:Value}{rows:List (List Int×Int)}(h:zdm w v rows)(c:Wr U w w')(b:∀k,U k->¬QI w k 174/\¬QI w k 101/\qU w k):zdm w' v rows:=by
 obtain⟨f,a,d,e⟩:=h;exact⟨f,a,d.wr c (fun k a=>(b k a).1),fun i t z d f=>(e i t z d f).wr c (fun k a=>(b k a).2)⟩
theorem zmD (K:Nat)(hK:K+K+1<=1073741800)(n:Nat)(hn:n<=100000)(w:H)(j:Nat)(d:DL)(vR:Value)(rows:List (List Int×Int))(f:List (Nat×Int×Nat))
 (aS:w.cell? ⟨j,0,O⟩=E (it .i64 (n:Nat))) (bm:w.cell? ⟨j,1,O⟩=E vR) (hR:zdm w vR rows) (bq:rows.length<=1000000) (hP:JZ w d.pv f) (bN:f.length<=1000000)
 (HB:∀k l,qG rows (f.take k) (List.replicate n (0,1),(0,1))= .ok l->l.1.length=n/\(∀a∈l.1,a.1.natAbs<4294967296^K/\a.2<4294967296^K)/\l.2.1.natAbs<4294967296^K/\l.2.2<4294967296^K)
 (aJ:∀r∈rows,r.1.length=n/\(∀g∈r.1,g.natAbs<4294967296^K)/\r.2.natAbs<4294967296^K)
 (aI:∀x∈f,x.2.1.natAbs<4294967296^K/\x.2.2<4294967296^K/\∀r∈rows,(∀g∈r.1,(x.2.1*g).natAbs<4294967296^K)/\(x.2.1*r.2).natAbs<4294967296^K):
 Calls pg 257 #[pn (E ⟨j,0,O⟩),d.val] w fun e w'=>Below w.heap.size w w'/\∃b:BT,(∃U:Nat,qG rows f (List.replicate n (0,1),(0,1))= .error U/\e= .returned (tp #[b.val,it .i64 (U:Nat)]))\/(∃l,qG rows f (List.replicate n (0,1),(0,1))= .ok l/\e= .returned (tp #[b.val,it .i64 0])/\JU w' b l):=by
 obtain⟨P,N,D,_,F⟩:=d;obtain⟨y,aP,aj,aQ⟩:=hP;obtain⟨_,_,he⟩:=aj.shape;rw[zo]at he;simp only[DL.pv,zV]at he;obtain⟨rfl,rfl,rfl⟩:=he;simp only[DL.val,DL.pv]at aj⊢;have H1:=zi aP;have H2:=zi aj;have H3:=zi aQ;have ba:=zi HB;have be:=zi aJ;have bd:=zi aI;have bb:=zi hR;have bl:y.length<=1000000:=om;have bF:j<w.heap.size:=zN aS;have bG:j<w.heap.size+1:=om;have bH:j<w.heap.size+1+1:=om;have bI:j<w.heap.size+1+1+1:=om;have bc:=zi (fun W=>zka n hn W);clear aP aj aQ HB aJ aI hR;have aM:Ext w ((((w.alloc (cl #[pn (E ⟨j,0,O⟩)] 166)).alloc (cl #[it .i64 P,G N,V D y.length F] 259)).alloc (cl #[G false,V O 0 0,V O 0 0,V O 0 0] 365)).alloc (cl #[it .i64 0] 27)):=((((Ext.refl w).alloc _).alloc _).alloc _).alloc _;have ax:((((w.alloc (cl #[pn (E ⟨j,0,O⟩)] 166)).alloc (cl #[it .i64 P,G N,V D y.length F] 259)).alloc (cl #[G false,V O 0 0,V O 0 0,V O 0 0] 365)).alloc (cl #[it .i64 0] 27)).heap[w.heap.size]? =E (cl #[pn (E ⟨j,0,O⟩)] 166):=(zI _ _ _ sd).trans ((zI _ _ _ sd).trans (T.zbs w _ _).1);have ay:((((w.alloc (cl #[pn (E ⟨j,0,O⟩)] 166)).alloc (cl #[it .i64 P,G N,V D y.length F] 259)).alloc (cl #[G false,V O 0 0,V O 0 0,V O 0 0] 365)).alloc (cl #[it .i64 0] 27)).heap[w.heap.size+1]? =E (cl #[it .i64 P,G N,V D y.length F] 259):=(zI _ _ _ sd).trans ((zI _ _ _ sd).trans (T.zbs w _ _).2);have az:((((w.alloc (cl #[pn (E ⟨j,0,O⟩)] 166)).alloc (cl #[it .i64 P,G N,V D y.length F] 259)).alloc (cl #[G false,V O 0 0,V O 0 0,V O 0 0] 365)).alloc (cl #[it .i64 0] 27)).heap[w.heap.size+1+1]? =E (cl #[G false,V O 0 0,V O 0 0,V O 0 0] 365):=by
  refine(zI _ _ _ sd).trans ?_;have:=zq ((w.alloc (cl #[pn (E ⟨j,0,O⟩)] 166)).alloc (cl #[it .i64 P,G N,V D y.length F] 259)) (cl #[G false,V O 0 0,V O 0 0,V O 0 0] 365);simpa using this
 have I:((((w.alloc (cl #[pn (E ⟨j,0,O⟩)] 166)).alloc (cl #[it .i64 P,G N,V D y.length F] 259)).alloc (cl #[G false,V O 0 0,V O 0 0,V O 0 0] 365)).alloc (cl #[it .i64 0] 27)).heap[w.heap.size+1+1+1]? =E (cl #[it .i64 0] 27):=by
  have:=zq (((w.alloc (cl #[pn (E ⟨j,0,O⟩)] 166)).alloc (cl #[it .i64 P,G N,V D y.length F] 259)).alloc (cl #[G false,V O 0 0,V O 0 0,V O 0 0] 365)) (cl #[it .i64 0] 27);simpa using this
 refine JO func257 ntmps257 (h:=?_);have bJ:=aM.cell aS;gi_wp2;generalize ((((w.alloc (cl #[pn (E ⟨j,0,O⟩)] 166)).alloc (cl #[it .i64 P,G N,V D y.length F] 259)).alloc (cl #[G false,V O 0 0,V O 0 0,V O 0 0] 365)).alloc (cl #[it .i64 0] 27))=w0 at *;have b8:=zi (fun W (hW:Ext w0 W)=>(hW.block _ (zf.1 ax).1).trans ax);have b9:=zi (fun W (hW:Ext w0 W)=>(hW.block _ (zf.1 ay).1).trans ay);have aG:=zi (fun W (hW:Ext w0 W)=>(hW.block _ (zf.1 az).1).trans az);have aq:=zi (fun W (hW:Ext w0 W)=>(hW.block _ (zf.1 I).1).trans I);have bM:=(zf.1 I).1;clear ax ay az I;refine(zS.2 (bc.out w0)).mono ?_;rintro e wA ⟨⟨⟨vb,⟨va,vl,vc⟩,⟨ua,ul,uc⟩⟩,⟨fa,fl,fc⟩⟩,rfl,aY,aO⟩;have xA:=Ext.of aO;simp only[BT.val,BT.fv,T.Tri.up,T.Tri.down];have a1:=b9.out _ (xA.alloc (cl #[G vb,V va vl vc,V ua ul uc,V fa fl fc] 365));have p0:=c_ 0 a1;have p1:=c_ 1 a1;have p2:=c_ 2 a1;clear a1;gi_wp2;have aa:=zq wA (cl #[G vb,V va vl vc,V ua ul uc,V fa fl fc] 365);have xB:Ext w0 (wA.alloc (cl #[G vb,V va vl vc,V ua ul uc,V fa fl fc] 365)):=xA.alloc _;have aX:=aY.ext ((Ext.refl wA).alloc (cl #[G vb,V va vl vc,V ua ul uc,V fa fl fc] 365));generalize bv:wA.alloc (cl #[G vb,V va vl vc,V ua ul uc,V fa fl fc] 365)=wB at *;obtain⟨c,hg6⟩:∃c,wA.heap.size=c:=⟨_,rfl⟩;rw[hg6]at aa⊢;have bE:w.heap.size+1+1+1<c:=by
  have:=xA.size;omega
 clear bv aO hg6 xA aY p0 p1 p2;refine(zS.2 (zn1 P N D y.length F wB)).mono ?_;rintro e m ⟨rfl,aF⟩;have x1:Ext wB m:=by rw[aF];exact((Ext.refl wB).alloc _).alloc _
 have k1:m.cell? ⟨wB.heap.size+1,0,O⟩=E (V D y.length F):=by rw[aF];exact c_ 0 (T.zbs _ _ _).2
 clear aF;have a4:=xB.trans x1;have u:=aM.trans a4;have ad:=(x1.block _ (zf.1 aa).1).trans aa;have bC:=(zf.1 ad).1;have bD:=(zf.1 aa).1;have bi:=zi (aX.ext x1);have aV:∀b,b=c->qU m b:=fun b h=>by rw[h];exact qj ad (by intro b4 hu;simp at hu;rcases hu with rfl|rfl|rfl|rfl<;>(intro n e;cases e))
 clear aa aX;gi_wp2;refine jB (zg8 y D F (wB.heap.size+1) bl) rfl (ZJ func384 kr rfl) (fun k bx W=>by rintro⟨_,_,rfl⟩;rfl)
  (BdI m c (w.heap.size+1+1) (w.heap.size+1+1+1) n rows f) (fun aw _ A=>BdX w (w.heap.size+1+1) (w.heap.size+1+1+1) n rows f aw A) (fun x=>x=c\/x=w.heap.size+1+1\/x=w.heap.size+1+1+1) ?hI ?hIx ?hC ?h0 ?round ?done ?stop
 case hI=>exact fun k a0 A b7 a9 hk=>a9.keep hk
 case hIx=>exact fun aw k A b7 a9 hk=>a9.keep hk u.size
 case hC=>
  rintro k a0 A ⟨q,h2,⟨l,b,z,s,h5⟩,Q⟩;have bo:=(zf.1 s).1;refine⟨⟨q.cell (p:=⟨wB.heap.size+1,0,O⟩) so k1,((H2.out.ext u).wr2 q (fun g hg e=>by have:=H2.out.lt g hg;omega)).recs⟩,fun b h=>?_⟩;rcases(Q b).1 h with rfl|h|h
  ·exact bo
  ·omega
  ·omega
 case h0=>exact⟨Wr.refl _ _,qp _,⟨_,⟨⟨vb,(va,vl,vc),(ua,ul,uc)⟩,(fa,fl,fc)⟩,rfl,ad,bi.out⟩,fun x=>Ql⟩
 case round=>
  rintro l2 k bx a0 A bK ⟨t0,bt,rfl⟩ ⟨q,h2,⟨l,b,z,s,h5⟩,Q⟩;have ab:k<f.length:=by have:=H1.out;omega
  have hx:=zj ab;have ak:=((H3.out k t0 _ bt hx).ext u).wr q aV;have aD:=bd.out _ (zZ ab);have aL:Hid (∀U,qG rows [f[k]] l= .error U->qG rows f (List.replicate n (0,1),(0,1))= .error U):=fun U he=>by
   have e1:f=f.take (k+1)++f.drop (k+1):=(Qf _ _).symm;have S:=(zau ab).symm;rw[e1];refine zf0 rows _ _ _ ?_;rw[S,zeG,z];exact he
  have bh:Hid (∀av,qG rows [f[k]] l= .ok av->qG rows (f.take (k+1)) (List.replicate n (0,1),(0,1))= .ok av):=fun av he=>by
   have S:=(zau ab).symm;rw[S,zeG,z];exact he
  have aB:=ba.out k l z;generalize f[k]=x at *;obtain⟨xn,xp,xq⟩:=x;obtain⟨⟨ra,rl,rc⟩,⟨tb,⟨ta,tl,tc⟩,⟨sa,sl,sc⟩⟩⟩:=t0;obtain⟨⟨yb,⟨ya,yl,yc⟩,⟨za,zl,zc⟩⟩,⟨qa,ql,qc⟩⟩:=b;simp only[DP.val,DP.rv,T.Tri.up,T.Tri.down,BT.fv]at s⊢;unfold Qr;gi_wp2;refine⟨Wr.of_below ((Ext.refl A).alloc _),fun J aT=>?_⟩;have xA:=(zw.alloc m.heap.size A (cl #[V ra rl rc,G tb,V ta tl tc,V sa sl sc] 454)).trans aT;have R:=aT.block _ _ (zq A (cl #[V ra rl rc,G tb,V ta tl tc,V sa sl sc] 454)) (.inr rfl);have d0:=c_ 0 R;have d1:=c_ 1 R;have d2:=c_ 2 R;have d3:=c_ 3 R;have S:=xA.block _ _ s (.inr rfl);have Y:=q.keep xA;have a5:=zi (fun b bw (h:m.heap[b]? =E bw) (hn:¬b=c)=>Y.some h hn);have b0:=a5.out _ _ (b8.out m a4) om;have i:=a5.out _ _ (aG.out m a4) om;have v:=a5.out _ _ (aq.out m a4) om;have bz:=c_ 0 b0;have bk:=Y.cell (p:=⟨j,1,O⟩) so (u.cell bm);have bp:zdm J vR rows:=(bb.out.ext u).wr Y (fun b h=>by
   rw[h];exact⟨fun X=>absurd (X.one ⟨_,_,ad⟩) dc,fun X=>absurd (X.one ⟨_,_,ad⟩) dc,aV c rfl⟩)
  have a6:=ak.keep xA;have ai:=h5.keep xA;have ae:=zi (znY J j (V ra rl rc) vR xn rows a6.1 bk bp bq);have bL:=Y.size;have b6:=ZA u (Y.below (B:=w.heap.size) u.size (fun b h=>om));by_cases aC:0<xn/\xn<=rows.length
  ·rw[qH aC]at ae;have b1:rows[xn-1]? =E (rows.getD (xn-1) ([],0)):=by
    rw[zk,zj (show xn-1<rows.length by omega)];rfl
   have aZ:=qJ b1;have aE:=be.out _ aZ;have aW:=aD.2.2 _ aZ;gi_wp2;refine(Zr l2 (zS.2 ae.out)).mono ?_;rintro e o ⟨⟨⟨Z,jl,jc⟩,⟨jb,⟨ka,kl,kc⟩⟩⟩,rfl,br,I⟩;have bf:=zi (br _ aC.1 b1);simp only[RW.val,RW.fv,WT.sv];have x3:Ext J (o.alloc (cl #[V Z jl jc,G jb,V ka kl kc] 174)):=(Ext.of I).alloc _;have n9:=zq o (cl #[V Z jl jc,G jb,V ka kl kc] 174);have bg:=zi (bf.out.ext ((Ext.refl o).alloc (cl #[V Z jl jc,G jb,V ka kl kc] 174)));have a2:=(x3.block _ (zf.1 R).1).trans R;have s1:=c_ 1 a2;have s2:=c_ 2 a2;have s3:=c_ 3 a2;have aK:=zi (zlR (o.alloc (cl #[V Z jl jc,G jb,V ka kl kc] 174)) _ xp xq (a6.2.below x3));simp only[T.Tri.val,T.Tri.up,T.Tri.down]at aK;gi_wp2;refine(Zr l2 (zS.2 aK.out)).mono ?_;rintro e B ⟨rfl,aA⟩;have ap:=Ext.of aA;have x4:=x3.trans ap;by_cases al:xp<=0
   ·have bs:=Int.sign_nonpos_iff.2 al;have ar:=zi (aL.out 10 (by rw[qG,zW om,z8 al]));have M:=(x4.block _ (zf.1 i).1).trans i;have af:=(x4.block _ (zf.1 v).1).trans v;have c0:=c_ 0 M;have c1:=c_ 1 M;have c2:=c_ 2 M;have c3:=c_ 3 M;have c4:=c_ 0 af;have f0:B.frozen? ⟨w.heap.size+1+1,0,O⟩=false:=T.ZX M;have f1:B.frozen? ⟨w.heap.size+1+1,1,O⟩=false:=T.ZX M;have f2:B.frozen? ⟨w.heap.size+1+1,2,O⟩=false:=T.ZX M;have f3:B.frozen? ⟨w.heap.size+1+1,3,O⟩=false:=T.ZX M;have f4:B.frozen? ⟨w.heap.size+1+1+1,0,O⟩=false:=T.ZX af;have HX:Hid (Wr a0 J (((((B.setCell ⟨w.heap.size+1+1,0,O⟩ (G false)).setCell ⟨w.heap.size+1+1,1,O⟩ (V O 0 0)).setCell ⟨w.heap.size+1+1,2,O⟩ (V O 0 0)).setCell ⟨w.heap.size+1+1,3,O⟩ (V O 0 0)).setCell ⟨w.heap.size+1+1+1,0,O⟩ (it .i64 10))/\BdX w (w.heap.size+1+1) (w.heap.size+1+1+1) n rows f .ret (((((B.setCell ⟨w.heap.size+1+1,0,O⟩ (G false)).setCell ⟨w.heap.size+1+1,1,O⟩ (V O 0 0)).setCell ⟨w.heap.size+1+1,2,O⟩ (V O 0 0)).setCell ⟨w.heap.size+1+1,3,O⟩ (V O 0 0)).setCell ⟨w.heap.size+1+1+1,0,O⟩ (it .i64 10))):=by
     obtain⟨u2,u3,u4⟩:=zli om M af (G false) (V O 0 0) (V O 0 0) (V O 0 0) (it .i64 10);have u5:=(Wr.of_below (T:=fun b=>b=w.heap.size+1+1\/b=w.heap.size+1+1+1) x4).trans u4;exact⟨u5.mono (fun b h=>(Q b).2 (.inr h)),rfl,b6.trans (u5.below (by have:=u.size;omega) (fun b h=>om)),10,ar.out,u2,u3⟩
    clear b0 i v M af R S q s h5 Q Y a6 ai ak I a5 aA n9 a2;gi_wp2;exact HX.out
   ·have bs:¬xp.sign<=0:=fun a9=>al (Int.sign_nonpos_iff.1 a9)
    have ah:=(ap.block _ (zf.1 a2).1).trans a2;have y1:=c_ 1 ah;have y2:=c_ 2 ah;have y3:=c_ 3 ah;have an:=(ap.block _ (zf.1 n9).1).trans n9;have i0:=c_ 0 an;have i1:=c_ 1 an;have i2:=c_ 2 an;have a3:=(x4.block _ (zf.1 S).1).trans S;have j0:=c_ 0 a3;have j1:=c_ 1 a3;have j2:=c_ 2 a3;have j3:=c_ 3 a3;have aH:=zi (ziE K hK B _ _ _ l (rows.getD (xn-1) ([],0)) (xp,xq) (ai.ext x4) (bg.out.ext ap) (a6.2.below x4) (by rw[aB.1,aE.1]) (by rw[aB.1];exact hn) aB.2 ⟨fun g hg=>⟨aE.2.1 g hg,aW.1 g hg⟩,aE.2.2,aW.2⟩ ⟨aD.1,aD.2.1⟩);simp only[BT.val,BT.fv,RW.val,RW.fv,WT.sv,T.Tri.val,T.Tri.up,T.Tri.down]at aH;have au:=zi (bh.out _ (show qG rows [(xn,xp,xq)] l=_ by rw[qG,zW om,zW al,qG]));have bn:=(zf.1 a3).1;clear b0 i v s a5;gi_wp2;refine(Zr l2 (zS.2 aH.out)).mono ?_;rintro e A5 ⟨⟨⟨ob,⟨oa,ol,oc⟩,⟨ia,il,ic⟩⟩,⟨ma,ml,mc⟩⟩,rfl,aU,aN⟩;have b5:=Ext.of aN;have C:=(b5.block _ bn).trans a3;have o0:=c_ 0 C;have o1:=c_ 1 C;have o2:=c_ 2 C;have o3:=c_ 3 C;have l0:A5.frozen? ⟨c,0,O⟩=false:=T.ZX C;have l1:A5.frozen? ⟨c,1,O⟩=false:=T.ZX C;have bO:A5.frozen? ⟨c,2,O⟩=false:=T.ZX C;have l3:A5.frozen? ⟨c,3,O⟩=false:=T.ZX C;simp only[BT.val,BT.fv,T.Tri.up,T.Tri.down];have HX:Hid (Wr a0 J ((((A5.setCell ⟨c,0,O⟩ (G ob)).setCell ⟨c,1,O⟩ (V oa ol oc)).setCell ⟨c,2,O⟩ (V ia il ic)).setCell ⟨c,3,O⟩ (V ma ml mc))/\∃M',BdI m c (w.heap.size+1+1) (w.heap.size+1+1+1) n rows f (k+1) M' ((((A5.setCell ⟨c,0,O⟩ (G ob)).setCell ⟨c,1,O⟩ (V oa ol oc)).setCell ⟨c,2,O⟩ (V ia il ic)).setCell ⟨c,3,O⟩ (V ma ml mc))/\∀x,M' x->a0 x\/A.heap.size<=x):=by
     have u1:=zhL (w:=A5) (g:=c) (G ob) (V oa ol oc) (V ia il ic) (V ma ml mc);have u5:=(Wr.of_below (T:=fun b=>b=c) (x4.trans b5)).trans u1;refine⟨u5.mono (fun b h=>(Q b).2 (.inl h)),a0,⟨Y.trans u5,ab,⟨_,⟨⟨ob,(oa,ol,oc),(ia,il,ic)⟩,(ma,ml,mc)⟩,au.out,T.ze7 C,aU.wr u1 (fun b h=>?_)⟩,Q⟩,fun x hx=> .inl hx⟩;rw[h];exact⟨fun X=>absurd (X.one ⟨_,_,C⟩) dc,qj C (by intro b4 hu;simp at hu;rcases hu with rfl|rfl|rfl|rfl<;>(intro n e;cases e))⟩
    clear R S q h5 Q Y a6 ai ak I aA n9 a2 ah an a3 C aN aU;gi_wp2;exact HX.out
  ·rw[ZB aC]at ae;have ar:=zi (aL.out 9 (by rw[qG,z8 om]));gi_wp2;refine(Zr l2 (zS.2 ae.out)).mono ?_;rintro e o ⟨⟨⟨Z,jl,jc⟩,⟨jb,⟨ka,kl,kc⟩⟩⟩,rfl,-,I⟩;simp only[RW.val,RW.fv,WT.sv];have x3:=Ext.of I;have L:=(x3.block _ (zf.1 i).1).trans i;have a8:=(x3.block _ (zf.1 v).1).trans v;have bB:=(zf.1 a8).1;have bA:w.heap.size+1+1<o.heap.size:=om;have c0:=c_ 0 L;have c1:=c_ 1 L;have c2:=c_ 2 L;have c3:=c_ 3 L;have c4:=c_ 0 a8;have f0:o.frozen? ⟨w.heap.size+1+1,0,O⟩=false:=T.ZX L;have f1:o.frozen? ⟨w.heap.size+1+1,1,O⟩=false:=T.ZX L;have f2:o.frozen? ⟨w.heap.size+1+1,2,O⟩=false:=T.ZX L;have f3:o.frozen? ⟨w.heap.size+1+1,3,O⟩=false:=T.ZX L;have f4:o.frozen? ⟨w.heap.size+1+1+1,0,O⟩=false:=T.ZX a8;have HX:Hid (Wr a0 J ((((((o.setCell ⟨w.heap.size+1+1,0,O⟩ (G false)).setCell ⟨w.heap.size+1+1,1,O⟩ (V O 0 0)).setCell ⟨w.heap.size+1+1,2,O⟩ (V O 0 0)).setCell ⟨w.heap.size+1+1,3,O⟩ (V O 0 0)).setCell ⟨w.heap.size+1+1+1,0,O⟩ (it .i64 9)).alloc (cl #[V Z jl jc,G jb,V ka kl kc] 174))/\BdX w (w.heap.size+1+1) (w.heap.size+1+1+1) n rows f .ret ((((((o.setCell ⟨w.heap.size+1+1,0,O⟩ (G false)).setCell ⟨w.heap.size+1+1,1,O⟩ (V O 0 0)).setCell ⟨w.heap.size+1+1,2,O⟩ (V O 0 0)).setCell ⟨w.heap.size+1+1,3,O⟩ (V O 0 0)).setCell ⟨w.heap.size+1+1+1,0,O⟩ (it .i64 9)).alloc (cl #[V Z jl jc,G jb,V ka kl kc] 174))):=by
    obtain⟨u2,u3,u4⟩:=zli om L a8 (G false) (V O 0 0) (V O 0 0) (V O 0 0) (it .i64 9);have u5:=((Wr.of_below (T:=fun b=>b=w.heap.size+1+1\/b=w.heap.size+1+1+1) x3).trans u4).trans (Wr.of_below ((Ext.refl _).alloc (cl #[V Z jl jc,G jb,V ka kl kc] 174)));exact⟨u5.mono (fun b h=>(Q b).2 (.inr h)),rfl,b6.trans (u5.below (by have:=u.size;omega) (fun b h=>om)),9,ar.out,(zI _ _ _ (zf.1 u2).1).trans u2,(zI _ _ _ (zf.1 u3).1).trans u3⟩
   clear b0 i v L a8 R S q s h5 Q Y a6 ai ak I a5;gi_wp2;exact HX.out
 case done=>
  rintro a7 a0 A hD ⟨q,h2,⟨l,b,z,s,h5⟩,Q⟩ hd;obtain⟨⟨yb,⟨ya,yl,yc⟩,⟨za,zl,zc⟩⟩,⟨qa,ql,qc⟩⟩:=b;simp only[T.Tri.up,T.Tri.down,BT.fv]at s;have j0:=c_ 0 s;have j1:=c_ 1 s;have j2:=c_ 2 s;have j3:=c_ 3 s;have i:=q.some (aG.out m a4) (fun e=>by have:w.heap.size+1+1=c:=e;omega);have v:=q.some (aq.out m a4) (fun e=>by have:w.heap.size+1+1+1=c:=e;omega);have c0:=c_ 0 i;have c1:=c_ 1 i;have c2:=c_ 2 i;have c3:=c_ 3 i;have c4:=c_ 0 v;have f0:A.frozen? ⟨w.heap.size+1+1,0,O⟩=false:=T.ZX i;have f1:A.frozen? ⟨w.heap.size+1+1,1,O⟩=false:=T.ZX i;have f2:A.frozen? ⟨w.heap.size+1+1,2,O⟩=false:=T.ZX i;have f3:A.frozen? ⟨w.heap.size+1+1,3,O⟩=false:=T.ZX i;have f4:A.frozen? ⟨w.heap.size+1+1+1,0,O⟩=false:=T.ZX v;have au:Hid (qG rows f (List.replicate n (0,1),(0,1))= .ok l):=by
   rw[H1.out,Zw]at z;exact z
  obtain⟨u2,u3,u4⟩:=zli om i v (G yb) (V ya yl yc) (V za zl zc) (V qa ql qc) (it .i64 0);have HU:=zi (And.intro u2 (And.intro u3 u4));clear u2 u3 u4 z;gi_wp2;have aR:=(HU.out.2.2.block a7 (zf.1 hd).1 (by have:=(zf.1 (aq.out m a4)).1;omega)).trans hd;refine qt aR ?_;have t:zw m.heap.size ((((((A.setCell ⟨w.heap.size+1+1,0,O⟩ (G yb)).setCell ⟨w.heap.size+1+1,1,O⟩ (V ya yl yc)).setCell ⟨w.heap.size+1+1,2,O⟩ (V za zl zc)).setCell ⟨w.heap.size+1+1,3,O⟩ (V qa ql qc)).setCell ⟨w.heap.size+1+1+1,0,O⟩ (it .i64 0))) (((((((A.setCell ⟨w.heap.size+1+1,0,O⟩ (G yb)).setCell ⟨w.heap.size+1+1,1,O⟩ (V ya yl yc)).setCell ⟨w.heap.size+1+1,2,O⟩ (V za zl zc)).setCell ⟨w.heap.size+1+1,3,O⟩ (V qa ql qc)).setCell ⟨w.heap.size+1+1+1,0,O⟩ (it .i64 0))).putObj a7 (.deferred O)):=zw.putObj _ hD aR rfl;have d0:=t.cell (c_ 0 HU.out.1);have d1:=t.cell (c_ 1 HU.out.1);have d2:=t.cell (c_ 2 HU.out.1);have d3:=t.cell (c_ 3 HU.out.1);have d4:=t.cell (c_ 0 HU.out.2.1);have bu:=h5.wr HU.out.2.2 (fun b h=>by
   rcases h with rfl|rfl
   ·exact⟨fun X=>absurd (X.one ⟨_,_,i⟩) dc,qj i (by intro b4 hu;simp at hu;rcases hu with rfl|rfl|rfl|rfl<;>(intro n e;cases e))⟩
   ·exact⟨fun X=>absurd (X.one ⟨_,_,v⟩) dc,qj v n1⟩)
  have bj:=(ZA u (q.below (B:=w.heap.size) u.size (fun b h=>om))).trans (HU.out.2.2.below (by have:=u.size;have:=q.size;omega) (fun b h=>om));exact⟨tp #[ag #[G yb,V ya yl yc,V za zl zc,V qa ql qc],it .i64 0],by simp[results,results257,go_sem,d0,d1,d2,d3,d4],(t.mono u.size).below bj (zh _) (zh _),⟨⟨yb,(ya,yl,yc),(za,zl,zc)⟩,(qa,ql,qc)⟩,.inr ⟨l,au.out,rfl,bu.keep t⟩⟩
 case stop=>
  rintro a7 aw k A hD hk ⟨rfl,q,U,h2,z,s⟩ hd;gi_wp2;refine qt hd ?_;have t:zw m.heap.size A (A.putObj a7 (.deferred O)):=zw.putObj _ hD hd rfl;have d0:=t.cell (c_ 0 z);have d1:=t.cell (c_ 1 z);have d2:=t.cell (c_ 2 z);have d3:=t.cell (c_ 3 z);have d4:=t.cell (c_ 0 s);exact⟨tp #[ag #[G false,V O 0 0,V O 0 0,V O 0 0],it .i64 (U:Nat)],by simp[results,results257,go_sem,d0,d1,d2,d3,d4],(t.mono u.size).below q (zh _) (zh _),⟨⟨false,(O,0,0),(O,0,0)⟩,(O,0,0)⟩,.inl ⟨U,h2,rfl⟩⟩
end Go.Proofs.YtnhfdcfnojnofaaGreatDoor
namespace Go.Proofs.YtnhfdcfnojnofaaGreatDoor
open Go.RowKit
def zcv (B:Nat)(w:H)(v:Value)(rows:List (List Int×Int)):Prop:=
 ∃rs:List RW,rs.length=rows.length/\Grw B 174 3 w v (rs.map RW.cells)/\∀(i:Nat) (r:RW) (x:List Int×Int),rs[i]? =E r->rows[i]? =E x->QC w r x
theorem zcv.led {B:Nat}{w:H}{v:Value}{rows:List (List Int×Int)}(h:zcv B w v rows):zdm w v rows:=by
 obtain⟨d,a,b,c⟩:=h;exact⟨d,a,b.list,c⟩
theorem zcv.keep {C B:Nat}{w w':H}{v:Value}{rows:List (List Int×Int)}(h:zcv B w v rows)(a:zw C w w'):zcv B w' v rows:=by
 obtain⟨e,b,c,d⟩:=h;exact⟨e,b,c.keep a,fun i t z b c=>(d i t z b c).keep a⟩
theorem zcv.ext {B:Nat}{w w':H}{v:Value}{rows:List (List Int×Int)}(h:zcv B w v rows)(a:Ext w w'):zcv B w' v rows:=h.keep (C:=0) (zw.of_below a)
def zbD (n:Nat)(goal:List Int×Int->Bool)(last:Bool)(rows:List (List Int×Int))(ps:List (Nat×Int×Nat)):Nat×List (List Int×Int):=
 match qG rows ps (List.replicate n (0,1),(0,1))with
 |.error e=>(e,rows)
 |.ok acc=>if last=true then(if ((Qa acc).map goal).getD false=true then 0 else 12,rows)else match Qa acc with
  |none=>(11,rows)
  |some row=>(0,rows ++ [row])
def GoalOK (w:H)(fid:Nat)(fst:Array Value)(goal:List Int×Int->Bool)(OK:List Int×Int->Prop):Prop:=
 (∀args w,(callFunc fid args).run pg w= .ok (.enter fid args) w)/\∀(W:H) (r:RW) (x:List Int×Int),Ext w W->QC W r x->OK x->Calls pg fid (fst.push r.val) W fun e w'=>e= .returned (G (goal x))/\Below W.heap.size W w'
theorem take_any (K:Nat)(hK:K+K+1<=1073741800)(n:Nat)(hn:n<=100000)(B:Nat)(w:H)(s:Nat)(d:DL)(A:Value)(rows:List (List Int×Int))(u:List (Nat×Int×Nat))
 (goal:List Int×Int->Bool) (OK:List Int×Int->Prop) (aB:Nat) (aC:Array Value) (ah:GoalOK w aB aC goal OK)
 (C:w.heap[s]? =E (cl #[it .i64 (n:Nat),A] 267)) (hR:zcv B w A rows) (be:B<=w.heap.size) (bi:rows.length<=900000) (hP:JZ w d.pv u) (b8:u.length<=1000000)
 (HB:∀k q,qG rows (u.take k) (List.replicate n (0,1),(0,1))= .ok q->q.1.length=n/\(∀a∈q.1,a.1.natAbs<4294967296^K/\a.2<4294967296^K)/\q.2.1.natAbs<4294967296^K/\q.2.2<4294967296^K)
 (az:∀r∈rows,r.1.length=n/\(∀g∈r.1,g.natAbs<4294967296^K)/\r.2.natAbs<4294967296^K)
 (ay:∀x∈u,x.2.1.natAbs<4294967296^K/\x.2.2<4294967296^K/\∀r∈rows,(∀g∈r.1,(x.2.1*g).natAbs<4294967296^K)/\(x.2.1*r.2).natAbs<4294967296^K)
 (ax:∀q row,qG rows u (List.replicate n (0,1),(0,1))= .ok q->Qa q=E row->OK row):
 Calls pg 162 #[pn (E ⟨s,0,O⟩),d.val,.func (.func aB) aC #[]] w fun e w'=>e= .returned (it .i64 ((zbD n goal d.e rows u).1:Nat))/\Wr (fun b=>b=s\/A.ownBlock=E b) w w'/\∃ar,w'.heap[s]? =E (cl #[it .i64 (n:Nat),ar] 267)/\zcv B w' ar (zbD n goal d.e rows u).2/\(∀g,ar.ownBlock=E g->A.ownBlock=E g\/w.heap.size<=g):=by
 obtain⟨i0,b6,b9,ba,bb⟩:=qL zjt;have aH:=c_ 0 C;have aI:=c_ 1 C;have a0:=(zf.1 C).1;have au:=zi (fun a2 (hW:Ext w a2)=>zmD K hK n hn a2 s d A rows u (hW.cell aH) (hW.cell aI) (hR.led.ext hW) om (hP.ext hW) b8 HB az ay);have aV:=zi (fun a2 (b:BT) q (hb:JU a2 b q) (ha:qG rows u (List.replicate n (0,1),(0,1))= .ok q)=>zj8 K om a2 b q hb (by have:=HB u.length q (by rw[Zw];exact ha);omega) (HB u.length q (by rw[Zw];exact ha)).2);obtain⟨dz,v,pa,pl,pc⟩:=d;simp only[DL.val,DL.pv]at au⊢;have aX:=zi ax;have aW:=zi ah.2;have bf:=ah.1;have R:=zi hR;have Q:=zi C;clear HB az ay ax ah hR hP C;have ae:Ext w (w.alloc (cl #[it .i64 dz,G v,V pa pl pc] 259)):=(Ext.refl w).alloc _;have a5:=zq w (cl #[it .i64 dz,G v,V pa pl pc] 259);go_enter func162,ntmps162
 go_wp2_with fail
 generalize w.alloc (cl #[it .i64 dz,G v,V pa pl pc] 259)=w0 at *;refine(au.out w0 ae).mono ?_;rintro e w1 ⟨a6,⟨⟨vb,⟨va,vl,vc⟩,⟨ua,ul,uc⟩⟩,⟨U,X,W⟩⟩,⟨er,af,rfl⟩|⟨q,a4,rfl,aG⟩⟩
 ·have b0:=zdA af;have HE:Hid (zbD n goal v rows u=(er,rows)):=by unfold zbD;rw[af];rfl
  simp only[BT.val,BT.fv,T.Tri.up,T.Tri.down];have bh:¬((er:Int)=0):=om;have p:=zi (ae.trans ((Ext.of a6).alloc (cl #[G vb,V va vl vc,V ua ul uc,V U X W] 365)));clear af b0 a6 a5;go_wp2;go_ret;rw[HE.out];exact⟨rfl,Wr.of_below p.out,A,(p.out.block _ a0).trans Q.out,R.out.ext p.out,fun g t=> .inl t⟩
 ·simp only[BT.val,BT.fv,T.Tri.up,T.Tri.down];have x1:=Ext.of a6;have aP:=aG.ext ((Ext.refl w1).alloc (cl #[G vb,V va vl vc,V ua ul uc,V U X W] 365));have av:=zi (aV.out _ _ q aP a4);simp only[BT.val,BT.fv,T.Tri.up,T.Tri.down]at av;have ap:=zq w1 (cl #[G vb,V va vl vc,V ua ul uc,V U X W] 365);have aS:=ae.trans (x1.alloc (cl #[G vb,V va vl vc,V ua ul uc,V U X W] 365));have L:=((x1.alloc (cl #[G vb,V va vl vc,V ua ul uc,V U X W] 365)).block _ (zf.1 a5).1).trans a5;clear aP aG a6;go_wp2_with fail
  generalize w1.alloc (cl #[G vb,V va vl vc,V ua ul uc,V U X W] 365)=w2 at *;refine av.out.mono ?_;rintro e F ⟨⟨⟨⟨f,j,i⟩,⟨h,⟨l,o,m⟩⟩⟩,⟨b2,rfl⟩|⟨row,aK,rfl,al,_⟩⟩,a3⟩
  ·simp only[RW.val,RW.fv,WT.sv];have x3:=Ext.of a3;have D:=(x3.block _ (zf.1 L).1).trans L;have M:=(zI F (cl #[V f j i,G h,V l o m] 174) _ (zf.1 D).1).trans D;have c1:=c_ 1 M;have p:=zi (aS.trans (x3.alloc (cl #[V f j i,G h,V l o m] 174)));have HE:Hid (zbD n goal v rows u=(if v=true then 12 else 11,rows)):=by
    unfold zbD;rw[a4];simp only[b2];cases v<;>rfl
   clear a3 D M L ap;cases v
   ·go_wp2;go_ret;rw[HE.out];exact⟨rfl,Wr.of_below p.out,A,(p.out.block _ a0).trans Q.out,R.out.ext p.out,fun g t=> .inl t⟩
   ·go_wp2;go_ret;rw[HE.out];exact⟨rfl,Wr.of_below p.out,A,(p.out.block _ a0).trans Q.out,R.out.ext p.out,fun g t=> .inl t⟩
  ·simp only[RW.val,RW.fv,WT.sv];have x3:=Ext.of a3;have D:=(x3.block _ (zf.1 L).1).trans L;have M:=(zI F (cl #[V f j i,G h,V l o m] 174) _ (zf.1 D).1).trans D;have c1:=c_ 1 M;have aq:=zq F (cl #[V f j i,G h,V l o m] 174);have I:=aS.trans (x3.alloc (cl #[V f j i,G h,V l o m] 174));have a7:=al.ext ((Ext.refl F).alloc (cl #[V f j i,G h,V l o m] 174));have a1:Hid (zbD n goal v rows u=(if v=true then(if goal row=true then 0 else 12)else 0,if v=true then rows else rows ++ [row])):=by
    unfold zbD;rw[a4];simp only[aK];cases v<;>rfl
   cases v
   ·obtain⟨c,aO,hG,aE⟩:=R.out;obtain⟨J,N,aQ⟩:=hG.shape;rw[zo]at aQ;subst aQ;have aa:=zi aO;have aY:=zi aE;have aD:=hG.ext I;have bj:c.length<=900000:=om;have Y:=(I.block _ a0).trans Q.out;have q1:=c_ 1 Y;have b4:=(zf.1 Y).1;clear a3 D L ap al aH aI a5 aO aE;have r0:=c_ 0 aq;have r1:=c_ 1 aq;have r2:=c_ 2 aq;go_wp2_with fail
    generalize F.alloc (cl #[V f j i,G h,V l o m] 174)=z at *;have Z:Grw B 174 3 (z.alloc (cl #[V f j i,G h,V l o m] 174)).drew (V J c.length N) (c.map RW.cells):=aD.ext ((Ext.refl z).alloc _).drew;have ak:=Z.own;rw[zo]at ak;have aJ:=Z.dig;have aL:∀g,(V J c.length N).ownBlock=E g->g≠s:=fun g C e=>by
     subst e;exact absurd ((aD.type g C).1.one ⟨_,_,Y⟩) dc
    have aZ:B<=(z.alloc (cl #[V f j i,G h,V l o m] 174)).drew.heap.size:=by have:=I.size;simp;omega
    go_region_law (refine zbz _ rfl (.tmp 47) (.tmp 49) 261 rfl B 174 i0 (ag #[V O 0 0,G false,V O 0 0]) 3 56 underlying261 b6 b9 ba bb rfl dc (V J c.length N) c.length (c.map RW.cells).flatten rfl ak ⟨z.heap.size,0,O⟩ 1 1 [V f j i,G h,V l o m] rfl rfl (rec_new z [V f j i,G h,V l o m] 174) r3 om mo om aZ (z.heap.size+1) sp (by intro bd hu;simp[Value.cells]at hu;rcases hu with rfl|rfl|rfl<;>(intro n e;cases e)) n4 aJ ?_;intro y S P aR ad ab bk aA;have e5:P.heap[s]? =E (cl #[it .i64 (n:Nat),V J c.length N] 267):=((ad.block _ so (fun e=>aL _ e.symm rfl)).trans (zI _ _ _ b4)).trans Y;have q5:=c_ 1 e5;have f5:P.frozen? ⟨s,1,O⟩=false:=T.ZX e5)
    all_goals
     have a9:Ext z (z.alloc (cl #[V f j i,G h,V l o m] 174)).drew:=((Ext.refl z).alloc _).drew;have a8:Wr (fun b=>b=s\/(V J c.length N).ownBlock=E b) (z.alloc (cl #[V f j i,G h,V l o m] 174)).drew (P.setCell ⟨s,1,O⟩ (V (E ⟨y,0,O⟩) (c.length+1) S)):=(zbt ad (fun k hk=>Or.inr hk)).trans (qS (Or.inl rfl) _);have aj:∀b,b=s\/(V J c.length N).ownBlock=E b->¬QI (z.alloc (cl #[V f j i,G h,V l o m] 174)).drew b 101/\qU (z.alloc (cl #[V f j i,G h,V l o m] 174)).drew b:=by
      rintro b (rfl|hb)
      ·have e9:=(a9.block _ (zf.1 Y).1).trans Y;exact⟨fun ht=>absurd (ht.one ⟨_,_,e9⟩) dc,qj e9 (by intro bd hu;simp at hu;rcases hu with rfl|rfl<;>(intro n e;cases e))⟩
      ·exact⟨fun ht=>absurd (ht.one (Z.type b hb).1) dc,Z.dig b hb⟩
     have HW:=zi a8;have HL:Hid (zcv B (P.setCell ⟨s,1,O⟩ (V (E ⟨y,0,O⟩) (c.length+1) S)) (V (E ⟨y,0,O⟩) (c.length+1) S) (rows ++ [row])):=by
      have bc:P.ownsRow B 174 3 (V (E ⟨y,0,O⟩) ((c.map RW.cells).length+1) S) ((c.map RW.cells).length+1) ((c.map RW.cells).flatten ++ [V f j i,G h,V l o m]):=by rw[zo];exact aR
      have hm:=Z.more (cs:= [V f j i,G h,V l o m]) rfl bc aA;rw[zo]at hm;have bg:y≠s:=by
       rcases ab with t|t
       ·exact aL y t
       ·rw[t];omega
      refine⟨c ++ [⟨(f,j,i),⟨h,(l,o,m)⟩⟩],by simp[aa.out],?_,fun an r x hi hx=>?_⟩
      ·rw[ZN];refine hm.same sp (fun k hk=>?_);have e:y=k:=by simpa[Value.ownBlock]using hk
       exact zK _ _ _ _ so
      ·by_cases aN:an<c.length
       ·rw[zM aN]at hi;rw[zM (by rw[<-aa.out];exact aN)]at hx;exact(((aY.out an r x hi hx).ext I).ext a9).wr a8 aj
       ·have h1:=(zn.1 hi).1;simp at h1;have b7:an=c.length:=om;subst b7;rw[zJ (zh _)]at hi;rw[aa.out,zJ (zh _)]at hx;simp at hi hx;subst hi;subst hx;exact(a7.ext a9).wr a8 aj
     have aU:Hid ((P.setCell ⟨s,1,O⟩ (V (E ⟨y,0,O⟩) (c.length+1) S)).heap[s]? =E (cl #[it .i64 (n:Nat),V (E ⟨y,0,O⟩) (c.length+1) S] 267)):=by
      rw[Hid,T.zev e5];rfl
     have aT:Hid ((V J c.length N).ownBlock=E y\/w.heap.size<=y):=ab.imp id (fun t=>by have:=I.size;omega);have X4:=zi (I.trans a9);clear a8 aj Z ak aJ aR ad ab aA q5 f5 a7;go_wp2;go_ret;rw[a1.out];refine⟨rfl,(Wr.of_below X4.out).trans HW.out,_,aU.out,HL.out,fun g C=>?_⟩;have e:y=g:=by simpa[Value.ownBlock]using C
     rw[<-e];exact aT.out
   ·have aw:=zi (aW.out _ _ row I a7 (aX.out q row a4 aK));simp only[RW.val,RW.fv,WT.sv]at aw;clear a3 D L ap al a7;go_wp2_with fail
    refine aw.out.mono ?_;rintro e P ⟨rfl,aF⟩;have x5:=Ext.of aF;have p:=zi (I.trans x5);have b5:=(x5.block _ (zf.1 M).1).trans M;have c5:=c_ 1 b5;clear M b5 aF;by_cases ai:goal row=true
    ·rw[ai];rw[ai]at a1;go_wp2;go_ret;rw[a1.out];exact⟨rfl,Wr.of_below p.out,A,(p.out.block _ a0).trans Q.out,R.out.ext p.out,fun g t=> .inl t⟩
    ·have aM:goal row=false:=by simpa using ai
     rw[aM];rw[aM]at a1;go_wp2;go_ret;rw[a1.out];exact⟨rfl,Wr.of_below p.out,A,(p.out.block _ a0).trans Q.out,R.out.ext p.out,fun g t=> .inl t⟩
end Go.Proofs.YtnhfdcfnojnofaaGreatDoor
