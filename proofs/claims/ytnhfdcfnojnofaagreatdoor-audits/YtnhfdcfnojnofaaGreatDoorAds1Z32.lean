import Derived.Test.YtnhfdcfnojnofaaGreatDoorAds1Z31
open Option renaming none->O,some->E
open Go.Value renaming slice->V,bool->G,string->gS,tuple->tp,int->it,agg->ag
open Go.Obj renaming cells->cl
open Go renaming World->H
open Go.Proofs.Tryz renaming prog->pg
open Go.Proofs.Tryz
set_option linter.unusedSimpArgs false
set_option linter.unusedVariables false
set_option maxHeartbeats 4000000
set_option maxRecDepth 100000
namespace Go.Proofs.YtnhfdcfnojnofaaGreatDoor
open Go.RowKit
attribute [local go_sem] qm qW ZR
theorem zic (w:H)(a b c d f:Obj):(((((w.alloc a).alloc b).alloc c).alloc d).alloc f).heap[w.heap.size]? =E a/\(((((w.alloc a).alloc b).alloc c).alloc d).alloc f).heap[w.heap.size+1]? =E b/\(((((w.alloc a).alloc b).alloc c).alloc d).alloc f).heap[w.heap.size+1+1]? =E c/\(((((w.alloc a).alloc b).alloc c).alloc d).alloc f).heap[w.heap.size+1+1+1]? =E d/\(((((w.alloc a).alloc b).alloc c).alloc d).alloc f).heap[w.heap.size+1+1+1+1]? =E f:=by
 obtain⟨g,h,i,j⟩:=zdz w a b c d;have k:((((w.alloc a).alloc b).alloc c).alloc d).heap.size=w.heap.size+1+1+1+1:=sp;have e:=qq ((((w.alloc a).alloc b).alloc c).alloc d) f;rw[k]at e;refine⟨?_,?_,?_,?_,e⟩;·rw[zI _ _ _ om];exact g
 ·rw[zI _ _ _ om];exact h
 ·rw[zI _ _ _ om];exact i
 ·rw[zI _ _ _ om];exact j
theorem RdI.start (w:H)(a:List (List UInt8×Bool))(s:ByteArray):
 RdI w a 0 qo.none (V O 0 0) (V O 0 0) (((((w.alloc (cl #[V O 0 0,V O 0 0] 109)).alloc (cl #[it .i64 0] 3)).alloc (cl #[V O 0 0,V O 0 0] 109)).alloc (cl #[it .i64 1] 3)).alloc (cl #[gS s] 9)):=by
 obtain⟨b,d,a,f,h⟩:=zic w (cl #[V O 0 0,V O 0 0] 109) (cl #[it .i64 0] 3) (cl #[V O 0 0,V O 0 0] 109) (cl #[it .i64 1] 3) (cl #[gS s] 9);have c:∀g,Value.ownBlock (V O 0 0)=E g->False:=fun g e=>by cases e
 refine⟨⟨⟨qh _ _ _ _ _ _ a,qh _ _ _ _ _ _ a,ZW _ _ _ _ _ a,ZW _ _ _ _ _ a,jn a⟩,qj a (fun v a=>?_),Or.inl ⟨rfl,rfl⟩,fun g e=>(c g e).elim,[],rfl,Ze _ _ _ _,fun i r row g i=>by simp at g⟩,ji.start,sp,qh _ _ _ _ _ _ f,ZW _ _ _ _ _ f,
  ⟨qh _ _ _ _ _ _ b,qh _ _ _ _ _ _ b,ZW _ _ _ _ _ b,ZW _ _ _ _ _ b,jn b⟩,qh _ _ _ _ _ _ d,ZW _ _ _ _ _ d,?_,fun x b=>?_,jn h⟩
 ·simp only[qw,Zi,QF]at a;intro n e;rcases a with rfl|rfl<;>cases e
 ·exact((J4 w _ _ _).alloc so _).alloc so _
 ·rcases b with e|e|e
  ·exact Or.inl e
  ·exact(c x e).elim
  ·exact(c x e).elim
theorem zhI {w X:H}{k:Nat}{b:Int}(h:qX X w.heap.size (V O 0 0) (V O 0 0))(h1:X.cell? ⟨w.heap.size+1,0,O⟩=E (it .i64 b))(i:Below w.heap.size w X)(M:Nat->Prop)(a:M w.heap.size/\M (w.heap.size+1)):
 Wr M X (((X.setCell ⟨w.heap.size,0,O⟩ (V O 0 0)).setCell ⟨w.heap.size,1,O⟩ (V O 0 0)).setCell ⟨w.heap.size+1,0,O⟩ (it .i64 ((k:Int)+1))).drew/\
  qX (((X.setCell ⟨w.heap.size,0,O⟩ (V O 0 0)).setCell ⟨w.heap.size,1,O⟩ (V O 0 0)).setCell ⟨w.heap.size+1,0,O⟩ (it .i64 ((k:Int)+1))).drew w.heap.size (V O 0 0) (V O 0 0)/\
  (((X.setCell ⟨w.heap.size,0,O⟩ (V O 0 0)).setCell ⟨w.heap.size,1,O⟩ (V O 0 0)).setCell ⟨w.heap.size+1,0,O⟩ (it .i64 ((k:Int)+1))).drew.cell? ⟨w.heap.size+1,0,O⟩=E (it .i64 ((k:Int)+1))/\
  Below w.heap.size w (((X.setCell ⟨w.heap.size,0,O⟩ (V O 0 0)).setCell ⟨w.heap.size,1,O⟩ (V O 0 0)).setCell ⟨w.heap.size+1,0,O⟩ (it .i64 ((k:Int)+1))).drew:=by
 obtain⟨c,d,e,f,g⟩:=h;have h:(X.setCell ⟨w.heap.size,0,O⟩ (V O 0 0)).cell? ⟨w.heap.size,1,O⟩=E (V O 0 0):=by rw[zp _ _ _ _ sp];exact d
 have d:((X.setCell ⟨w.heap.size,0,O⟩ (V O 0 0)).setCell ⟨w.heap.size,1,O⟩ (V O 0 0)).cell? ⟨w.heap.size+1,0,O⟩=E (it .i64 b):=by
  rw[qf _ _ _ _ sp,qf _ _ _ _ sp];exact h1
 refine⟨(((Wr.refl M X).setCell (p:=⟨w.heap.size,0,O⟩) a.1 _).setCell (p:=⟨w.heap.size,1,O⟩) a.1 _).setCell (p:=⟨w.heap.size+1,0,O⟩) a.2 _ |>.trans (Wr.drew _ _),⟨?_,?_,by simpa using e,by simpa using f,by simpa using g⟩,zu _ _ _ d,?_⟩
 ·show World.cell? (World.setCell _ _ _) _=_
  rw[qf _ _ _ _ sp,zp _ _ _ _ sp];exact zu _ _ _ c
 ·show World.cell? (World.setCell _ _ _) _=_
  rw[qf _ _ _ _ sp];exact zu _ _ _ h
 ·exact zce (((i.setCell (p:=⟨w.heap.size,0,O⟩) (zh _) _).setCell (p:=⟨w.heap.size,1,O⟩) (zh _) _).setCell (p:=⟨w.heap.size+1,0,O⟩) sp _)
theorem ziB (s:List UInt8)(hs:s.length<=2000)(w:H):
 Calls pg 83 #[gS ⟨s.toArray⟩] w fun e w'=>Below w.heap.size w w'/\
  (
   (∃k:Nat,jd 0 qo.none (qE s)= .error k/\e= .returned (tp #[ag #[V O 0 0,V O 0 0],it .i64 (k:Nat)]))\/
   ∃p,jd 0 qo.none (qE s)= .ok p/\(((qE s).length<2+p.n/\e= .returned (tp #[ag #[V O 0 0,V O 0 0],it .i64 (((qE s).length+1:Nat):Int)]))\/
    (¬(qE s).length<2+p.n/\∃f b,e= .returned (tp #[ag #[f,b],it .i64 0])/\DQ w' (w.heap.size+1+1) p f b/\ji (qE s).length p/\∀x,Own (w.heap.size+1+1) f b x->w.heap.size<=x))):=by
 have a:Tryz.prog.follows .mixedOrders=true:=kr;have t:=zi (zji s om (w.heap.size+1+1+1+1));have r:=zi (fun k x (R:(qE s)[k]? =E x)=>zL (znM s k x R) hs);have a:(qE s).length<=2000:=zL (zbd s.length s).1 hs;obtain⟨d,hLL⟩:∃d,qE s=d:=⟨_,rfl⟩;rw[hLL]at t r a⊢;clear hLL;have F:=zi (RdI.start w d ⟨s.toArray⟩);refine JO func83 ntmps83 (h:=?_);gi_wp2;refine(zS.2 (zkY _ _)).mono ?_;rintro e a ⟨rfl,rfl⟩;gi_wp2;refine zaE t.out rfl (ZJ func237 kr rfl) (fun c Z=>?_)
  (fun k M A=>k<=d.length/\∃p f b,Hid (RdI w d k p f b A)/\A.cell? ⟨w.heap.size+1+1+1+1,0,O⟩=E (gS ⟨s.toArray⟩)/\∀x,M x↔(x=w.heap.size\/x=w.heap.size+1\/x=w.heap.size+1+1+1)\/Own (w.heap.size+1+1) f b x)
  (fun W k A=>W= .ret/\Hid (jd 0 qo.none d= .error (k+1)/\qX A w.heap.size (V O 0 0) (V O 0 0)/\A.cell? ⟨w.heap.size+1,0,O⟩=E (it .i64 ((k:Int)+1))/\Below w.heap.size w A))
  (fun x=>(x=w.heap.size\/x=w.heap.size+1\/x=w.heap.size+1+1+1)\/Own (w.heap.size+1+1) (V O 0 0) (V O 0 0) x) ?hI ?hIx ?hC ?h0 ?round ?done ?stop
 case hI=>
  rintro k M A a ⟨q,p,f,b,h,u,v⟩ n;exact⟨q,p,f,b,h.out.keep n so,n.cell u,v⟩
 case hIx=>
  rintro W k A a ⟨q,h⟩ n;exact⟨q,h.out.1,h.out.2.1.keep n,n.cell h.out.2.2.1,n.below h.out.2.2.2 so (zh _)⟩
 case hC=>
  rintro k M A ⟨q,p,f,b,h,u,v⟩;refine⟨u,fun x J=>?_⟩;have a:=h.out.2.2.2.2.2.2.2.2.2.2;rcases(v x).1 J with e|e
  ·omega
  ·exact h.out.1.lt x e
 case h0=>
  refine⟨qp _,qo.none,_,_,F.out,?_,fun _=>Ql⟩;exact qh _ _ _ _ _ _ (zic w _ _ _ _ _).2.2.2.2
 case round=>
  rintro N k c M A Z ⟨_,p,f,b,l,S,i⟩;obtain⟨y,last,K,rfl⟩:=zhd Z;rw[qi];have a:=(zn.1 K).1;have z:=r.out k y K;unfold Qr zf8;gi_wp2;refine⟨Wr.of_below ((zR _ _).alloc (zh _) _),fun m a=>?_⟩;have o:=(zw.alloc _ A _).trans a;have c:Hid (RdI w d k p f b m):=l.out.keep o so;have L:m.cell? ⟨A.heap.size,0,O⟩=E (it .i64 ((k:Int)+1)):=a.cell (qh _ _ _ _ _ _ (qq A _));have l1:m.cell? ⟨A.heap.size,1,O⟩=E (gS ⟨y.1.toArray⟩):=a.cell (qh _ _ _ _ _ _ (qq A _));have T:m.cell? ⟨A.heap.size,2,O⟩=E (G y.2):=a.cell (qh _ _ _ _ _ _ (qq A _));have l3:m.cell? ⟨A.heap.size,3,O⟩=E (G last):=a.cell (qh _ _ _ _ _ _ (qq A _));have C:=l.out.2.2.2.2.2.2.2.2.2.2;have C:A.heap.size<m.heap.size:=zN L;have a0:=o.cell S;have a1:¬Own (w.heap.size+1+1) f b A.heap.size:=fun e=>by have:=l.out.1.lt _ e;omega
  have a5:¬Own (w.heap.size+1+1) f b (w.heap.size+1+1+1+1):=fun e=>by rcases l.out.2.2.2.2.2.2.2.2.2.1 _ e with e|e<;>omega
  clear a o l S;cases hye:y.2 with
  |false=>
   rw[hye]at T;have U:Hid (jd 0 qo.none d= .error (k+1)):=by
    rw[Hid,c.out.2.2.1,zfR K,z8 hye]
   obtain⟨_,_,_,_,_,o,D,X,I,_,_⟩:=c.out;have C:=zi (zhI (k:=k) o D I M ⟨(i _).2 (.inl (.inl rfl)),(i _).2 (.inl (.inr (.inl rfl)))⟩);obtain⟨f0,f1,f2,f3,f4⟩:=o;clear c r F t i;gi_wp2;gi_region_o
   all_goals gi_wp2
   all_goals exact⟨C.out.1,rfl,U.out,C.out.2⟩
  |true=>
   rw[hye]at T;have Q:=zi (zmh k y.1 true last (w.heap.size+1+1) p f b m c.out.1 c.out.2.1 z om);have a:((k+1:Nat):Int)=(k:Int)+1:=sp;rw[a]at Q;clear a;gi_wp2;refine(Zr N (zS.2 Q.out)).mono ?_;rintro e z ⟨rfl,a,Y⟩;have a2:=a.mono (fun x e=>(i x).2 (.inr e));cases htk:Q2 k p (qg y.1)with
   |none=>
    have U:Hid (jd 0 qo.none d= .error (k+1)):=by
     rw[Hid,c.out.2.2.1,zfR K,zW (by rw[hye];simp),htk]
    obtain⟨_,_,_,_,_,o,D,X,I,m,_⟩:=c.out;have N:¬Own (w.heap.size+1+1) f b w.heap.size:=fun e=>by rcases m _ e with e|e<;>omega
    have P:¬Own (w.heap.size+1+1) f b (w.heap.size+1):=fun e=>by rcases m _ e with e|e<;>omega
    have y:=o.same (a.block _ o.2.2.2.2 N) a.size;have a3:=a.cell (p:=⟨w.heap.size+1,0,O⟩) P D;have a4:=(a.frozen (p:=⟨w.heap.size+1,0,O⟩) P (zN D)).trans X;have a4:=I.trans (a.below I.size (fun x e=>by rcases m x e with e|e<;>omega));have C:=zi (zhI (k:=k) y a3 a4 M ⟨(i _).2 (.inl (.inl rfl)),(i _).2 (.inl (.inr (.inl rfl)))⟩);obtain⟨f0,f1,f2,f3,f4⟩:=y;have a3:=a.cell (p:=⟨A.heap.size,0,O⟩) a1 L;clear c r F t i o Y htk Q L l1 T l3 D X I a;simp only[Option.isSome];gi_wp2;gi_region_o
    all_goals gi_wp2
    all_goals exact⟨a2.trans C.out.1,rfl,U.out,C.out.2⟩
   |some o=>
    obtain⟨C,D,y,m⟩:=Y o htk;obtain⟨_,_,I⟩:=c.out.step a y m K hye htk;have a3:=a.cell (p:=⟨A.heap.size,0,O⟩) a1 L;have c:=a.cell (p:=⟨w.heap.size+1+1+1+1,0,O⟩) a5 a0;have a:=(i _).2 (.inl (.inr (.inr rfl)));simp only[Option.isSome];clear htk Q Y L l1 T l3 r F t a0;gi_wp2;refine⟨a2.setCell (p:=⟨w.heap.size+1+1+1,0,O⟩) a _,_,⟨om,o,C,D,I,?_,fun _=>Ql⟩,fun x J=>?_⟩
    ·rw[qf _ _ _ _ sp];exact c
    ·rcases J with e|e
     ·exact .inl ((i x).2 (.inl e))
     ·rcases m x e with e|e
      ·exact .inl ((i x).2 (.inr e))
      ·exact .inr om
 case stop=>
  rintro D W k A c n ⟨rfl,R⟩ y;have C:w.heap.size+1+1+1+1<D:=by simp at c;omega
  have a:zw w.heap.size A (A.putObj D (.deferred O)):=zw.putObj (.deferred O) om y rfl;obtain⟨q,h,u,v⟩:=R.out;have m:=a.cell h.1;have n:=a.cell h.2.1;have o:=a.cell u;have z:=a.below v (zh _) (zh _);clear h u v R;gi_wp2;refine qt y ?_;refine⟨tp #[ag #[V O 0 0,V O 0 0],it .i64 ((k:Int)+1)],by simp[results,results83,go_sem,m,n,o],z,Or.inl ⟨k+1,q,sp⟩⟩
 case done=>
  rintro D M A c ⟨q,p,f,b,l,S,i⟩ y;rw[zdV]at l q;have C:w.heap.size+1+1+1+1<D:=by simp at c;omega
  obtain⟨u,M,q3,_,_,z,R,_,X,L,_⟩:=l.out;have v:Hid (jd 0 qo.none d= .ok p):=by rw[Hid,q3,List.drop_length];rfl
  have b:p.n<=4:=by
   by_cases b:d.length=0
   ·rw[M.z b];simp[qo.none]
   ·exact(M.n om).2
  obtain⟨b,c,hvC⟩:∃b c,f=V b p.n c:=by
   rcases u.cols with ⟨h0,h⟩|⟨_,_,h,_⟩
   ·exact⟨O,0,by rw[h,h0]⟩
   ·exact⟨_,_,h⟩
  obtain⟨f,h,C⟩:=u.shapeR;obtain⟨d0,_,_,_,_⟩:=u.box;subst hvC;have I:=zi (fun(W:H) (q:W.cell? ⟨w.heap.size+1+1,0,O⟩=E (V b p.n c))=>zha (w.heap.size+1+1) p.n b c W q om);have q:=zi (zhI (k:=d.length) z R X (fun _=>True) ⟨trivial,trivial⟩);obtain⟨Q,K,_,_,_⟩:=z;subst C;have N:¬Own (w.heap.size+1+1) (V b p.n c) (V f p.rows.length h) w.heap.size:=fun e=>by rcases L _ e with e|e<;>omega
  have P:¬Own (w.heap.size+1+1) (V b p.n c) (V f p.rows.length h) (w.heap.size+1):=fun e=>by rcases L _ e with e|e<;>omega
  have z:=jn y;have z:(((A.setCell ⟨w.heap.size,0,O⟩ (V O 0 0)).setCell ⟨w.heap.size,1,O⟩ (V O 0 0)).setCell ⟨w.heap.size+1,0,O⟩ (it .i64 ((d.length:Int)+1))).drew.drew.heap[D]? =E (.deferred (E [])):=by
   show(World.setCell _ _ _).heap[D]? =_
   rw[zK _ _ _ _ so,zK _ _ _ _ so,zK _ _ _ _ so];exact y
  have C:(((A.setCell ⟨w.heap.size,0,O⟩ (V b p.n c)).setCell ⟨w.heap.size,1,O⟩ (V f p.rows.length h)).setCell ⟨w.heap.size+1,0,O⟩ (it .i64 0)).drew.heap[D]? =E (.deferred (E [])):=by
   show(World.setCell _ _ _).heap[D]? =_
   rw[zK _ _ _ _ so,zK _ _ _ _ so,zK _ _ _ _ so];exact y
  have y:(A.setCell ⟨w.heap.size,0,O⟩ (V b p.n c)).cell? ⟨w.heap.size,0,O⟩=E (V b p.n c):=zu _ _ _ Q;have D:(A.setCell ⟨w.heap.size,0,O⟩ (V b p.n c)).cell? ⟨w.heap.size,1,O⟩=E (V O 0 0):=by rw[zp _ _ _ _ sp];exact K
  have Y:((A.setCell ⟨w.heap.size,0,O⟩ (V b p.n c)).setCell ⟨w.heap.size,1,O⟩ (V f p.rows.length h)).cell? ⟨w.heap.size,1,O⟩=E (V f p.rows.length h):=zu _ _ _ D;have o3:((A.setCell ⟨w.heap.size,0,O⟩ (V b p.n c)).setCell ⟨w.heap.size,1,O⟩ (V f p.rows.length h)).cell? ⟨w.heap.size,0,O⟩=E (V b p.n c):=by rw[zp _ _ _ _ sp];exact y
  have K:((A.setCell ⟨w.heap.size,0,O⟩ (V b p.n c)).setCell ⟨w.heap.size,1,O⟩ (V f p.rows.length h)).cell? ⟨w.heap.size+1,0,O⟩=E (it .i64 0):=by rw[qf _ _ _ _ sp,qf _ _ _ _ sp];exact R
  have W:=zi ((((u.set_other (g:=w.heap.size) (j:=0) (v:=V b p.n c) N Q sp sp Q sp).set_other (g:=w.heap.size) (j:=1) (v:=V f p.rows.length h) N D sp sp y sp).set_int (g:=w.heap.size+1) (z':=0) P K).keep (zw.drew 0 _));have R:(((A.setCell ⟨w.heap.size,0,O⟩ (V b p.n c)).setCell ⟨w.heap.size,1,O⟩ (V f p.rows.length h)).setCell ⟨w.heap.size+1,0,O⟩ (it .i64 0)).drew.cell? ⟨w.heap.size,0,O⟩=E (V b p.n c):=by
   show World.cell? (World.setCell _ _ _) _=_
   rw[qf _ _ _ _ sp];exact o3
  have T:(((A.setCell ⟨w.heap.size,0,O⟩ (V b p.n c)).setCell ⟨w.heap.size,1,O⟩ (V f p.rows.length h)).setCell ⟨w.heap.size+1,0,O⟩ (it .i64 0)).drew.cell? ⟨w.heap.size,1,O⟩=E (V f p.rows.length h):=by
   show World.cell? (World.setCell _ _ _) _=_
   rw[qf _ _ _ _ sp];exact Y
  have U:(((A.setCell ⟨w.heap.size,0,O⟩ (V b p.n c)).setCell ⟨w.heap.size,1,O⟩ (V f p.rows.length h)).setCell ⟨w.heap.size+1,0,O⟩ (it .i64 0)).drew.cell? ⟨w.heap.size+1,0,O⟩=E (it .i64 0):=zu _ _ _ K;have Q:Below w.heap.size w (((A.setCell ⟨w.heap.size,0,O⟩ (V b p.n c)).setCell ⟨w.heap.size,1,O⟩ (V f p.rows.length h)).setCell ⟨w.heap.size+1,0,O⟩ (it .i64 0)).drew:=zce (((X.setCell (p:=⟨w.heap.size,0,O⟩) (zh _) _).setCell (p:=⟨w.heap.size,1,O⟩) (zh _) _).setCell (p:=⟨w.heap.size+1,0,O⟩) sp _);have X:=zi M;have A:Hid (∀x,Own (w.heap.size+1+1) (V b p.n c) (V f p.rows.length h) x->w.heap.size<=x):=fun x J=>by rcases L x J with e|e<;>omega
  clear y D Y o3 K i S F t r q3 N P u l;gi_wp2;refine zcZ ?_;gi_region_with_o (refine(zS.2 (I.out _ (by exact d0))).mono ?_;rintro e i ⟨rfl,rfl⟩)
  all_goals simp only[]
  all_goals by_cases l:d.length<2+p.n
  ·have i:(d.length:Int)+1<=2+(p.n:Int):=om;gi_wp2;refine zcZ ?_;gi_region_o
   all_goals simp only[]
   all_goals gi_wp2
   all_goals refine qt z ?_
   all_goals have a:=zw.putObj (B:=w.heap.size) (.deferred O) om z rfl
   all_goals have m:=a.cell (q.out.2.1.1)
   all_goals have n:=a.cell (q.out.2.1.2.1)
   all_goals have o:=a.cell (q.out.2.2.1)
   all_goals exact⟨tp #[ag #[V O 0 0,V O 0 0],it .i64 ((d.length:Int)+1)],by simp[results,results83,go_sem,m,n,o],a.below (zce q.out.2.2.2) (zh _) (zh _),Or.inr ⟨p,v.out,Or.inl ⟨l,sp⟩⟩⟩
  ·have i:¬(d.length:Int)+1<=2+(p.n:Int):=om;gi_wp2;refine qt C ?_;have a:=zw.putObj (B:=w.heap.size) (.deferred O) om C rfl;have m:=a.cell R;have n:=a.cell T;have o:=a.cell U;exact⟨tp #[ag #[V b p.n c,V f p.rows.length h],it .i64 0],by simp[results,results83,go_sem,m,n,o],a.below Q (zh _) (zh _),Or.inr ⟨p,v.out,Or.inr ⟨om,_,_,rfl,W.out.keep a,X.out,A.out⟩⟩⟩
  ·have i:(d.length:Int)+1<=2+(p.n:Int):=om;gi_wp2;refine zcZ ?_;gi_region_o
   all_goals simp only[]
   all_goals gi_wp2
   all_goals refine qt z ?_
   all_goals have a:=zw.putObj (B:=w.heap.size) (.deferred O) om z rfl
   all_goals have m:=a.cell (q.out.2.1.1)
   all_goals have n:=a.cell (q.out.2.1.2.1)
   all_goals have o:=a.cell (q.out.2.2.1)
   all_goals exact⟨tp #[ag #[V O 0 0,V O 0 0],it .i64 ((d.length:Int)+1)],by simp[results,results83,go_sem,m,n,o],a.below (zce q.out.2.2.2) (zh _) (zh _),Or.inr ⟨p,v.out,Or.inl ⟨l,sp⟩⟩⟩
  ·have i:¬(d.length:Int)+1<=2+(p.n:Int):=om;gi_wp2;refine qt C ?_;have a:=zw.putObj (B:=w.heap.size) (.deferred O) om C rfl;have m:=a.cell R;have n:=a.cell T;have o:=a.cell U;exact⟨tp #[ag #[V b p.n c,V f p.rows.length h],it .i64 0],by simp[results,results83,go_sem,m,n,o],a.below Q (zh _) (zh _),Or.inr ⟨p,v.out,Or.inr ⟨om,_,_,rfl,W.out.keep a,X.out,A.out⟩⟩⟩
 ·obtain⟨_,a⟩:=List.mem_iff_getElem?.1 Z;obtain⟨x,last,_,rfl⟩:=zhd a;rfl
end Go.Proofs.YtnhfdcfnojnofaaGreatDoor
