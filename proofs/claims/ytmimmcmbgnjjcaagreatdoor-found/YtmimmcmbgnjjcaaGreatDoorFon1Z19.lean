import Derived.Test.YtmimmcmbgnjjcaaGreatDoorFon1Z13
open Option renaming none->O,some->E
open Go.Value renaming slice->V,bool->G,string->gS,tuple->tp,int->it,agg->ag
open Go.Obj renaming cells->cl
open Go renaming World->H
open Go.Proofs.Tryz renaming prog->pg
open Go.Proofs.Tryz
open Go.Ending renaming returned->Xa
open Go.IntKind renaming i64->Xb
open Go.Addr renaming mk->Xd
set_option linter.unusedSimpArgs false
set_option linter.unusedVariables false
set_option maxHeartbeats 4000000
set_option maxRecDepth 100000
namespace Go.Proofs.YtmimmcmbgnjjcaaGreatDoor
open Go.RowKit
attribute [local go_sem] zD zW qJ
theorem zkJ (w:H)(a b c d f:Obj):(((((w.alloc a).alloc b).alloc c).alloc d).alloc f).heap[w.heap.size]? =E a/\(((((w.alloc a).alloc b).alloc c).alloc d).alloc f).heap[w.heap.size+1]? =E b/\(((((w.alloc a).alloc b).alloc c).alloc d).alloc f).heap[w.heap.size+1+1]? =E c/\(((((w.alloc a).alloc b).alloc c).alloc d).alloc f).heap[w.heap.size+1+1+1]? =E d/\(((((w.alloc a).alloc b).alloc c).alloc d).alloc f).heap[w.heap.size+1+1+1+1]? =E f:=by
 obtain⟨g,h,i,j⟩:=zeK w a b c d;have k:((((w.alloc a).alloc b).alloc c).alloc d).heap.size=w.heap.size+1+1+1+1:=sp;have e:=qR ((((w.alloc a).alloc b).alloc c).alloc d) f;rw[k]at e;refine⟨?_,?_,?_,?_,e⟩;·rw[qH _ _ _ om];exact g
 ·rw[qH _ _ _ om];exact h
 ·rw[qH _ _ _ om];exact i
 ·rw[qH _ _ _ om];exact j
theorem RdI.start (w:H)(a:List (List UInt8×Bool))(s:ByteArray):
 RdI w a 0 qF.none (V O 0 0) (V O 0 0) (((((w.alloc (cl #[V O 0 0,V O 0 0] 71)).alloc (cl #[it Xb 0] 3)).alloc (cl #[V O 0 0,V O 0 0] 71)).alloc (cl #[it Xb 1] 3)).alloc (cl #[gS s] 9)):=by
 obtain⟨b,d,a,f,h⟩:=zkJ w (cl #[V O 0 0,V O 0 0] 71) (cl #[it Xb 0] 3) (cl #[V O 0 0,V O 0 0] 71) (cl #[it Xb 1] 3) (cl #[gS s] 9);have c:∀g,Value.ownBlock (V O 0 0)=E g->False:=fun g e=>by cases e
 refine⟨⟨⟨ze _ _ _ _ _ _ a,ze _ _ _ _ _ _ a,ZK _ _ _ _ _ a,ZK _ _ _ _ _ a,Jw a⟩,zE a (fun v a=>?_),Or.inl ⟨rfl,rfl⟩,fun g e=>(c g e).elim,[],rfl,zaf _ _ _ _,fun i r row g i=>by simp at g⟩,zbU.start,sp,ze _ _ _ _ _ _ f,ZK _ _ _ _ _ f,
  ⟨ze _ _ _ _ _ _ b,ze _ _ _ _ _ _ b,ZK _ _ _ _ _ b,ZK _ _ _ _ _ b,Jw b⟩,ze _ _ _ _ _ _ d,ZK _ _ _ _ _ d,?_,fun x b=>?_,Jw h⟩
 ·simp only[zI,zY,Zp]at a;intro n e;rcases a with rfl|rfl<;>cases e
 ·exact((zbt w _ _ _).alloc so _).alloc so _
 ·rcases b with e|e|e
  ·exact Or.inl e
  ·exact(c x e).elim
  ·exact(c x e).elim
theorem zke {w X:H}{k:Nat}{b:Int}(hb:Zh X w.heap.size (V O 0 0) (V O 0 0))(h1:X.cell? ⟨w.heap.size+1,0,O⟩=E (it Xb b))(i:Below w.heap.size w X)(M:Nat->Prop)(a:M w.heap.size/\M (w.heap.size+1)):
 Wr M X (((X.setCell (Xd w.heap.size 0 O) (V O 0 0)).setCell (Xd w.heap.size 1 O) (V O 0 0)).setCell ⟨w.heap.size+1,0,O⟩ (it Xb ((k:Int)+1))).drew/\
  Zh (((X.setCell (Xd w.heap.size 0 O) (V O 0 0)).setCell (Xd w.heap.size 1 O) (V O 0 0)).setCell ⟨w.heap.size+1,0,O⟩ (it Xb ((k:Int)+1))).drew w.heap.size (V O 0 0) (V O 0 0)/\
  (((X.setCell (Xd w.heap.size 0 O) (V O 0 0)).setCell (Xd w.heap.size 1 O) (V O 0 0)).setCell ⟨w.heap.size+1,0,O⟩ (it Xb ((k:Int)+1))).drew.cell? ⟨w.heap.size+1,0,O⟩=E (it Xb ((k:Int)+1))/\
  Below w.heap.size w (((X.setCell (Xd w.heap.size 0 O) (V O 0 0)).setCell (Xd w.heap.size 1 O) (V O 0 0)).setCell ⟨w.heap.size+1,0,O⟩ (it Xb ((k:Int)+1))).drew:=by
 obtain⟨c,d,e,f,g⟩:=hb;have h:(X.setCell (Xd w.heap.size 0 O) (V O 0 0)).cell? (Xd w.heap.size 1 O)=E (V O 0 0):=by rw[zA _ _ _ _ sp];exact d
 have d:((X.setCell (Xd w.heap.size 0 O) (V O 0 0)).setCell (Xd w.heap.size 1 O) (V O 0 0)).cell? ⟨w.heap.size+1,0,O⟩=E (it Xb b):=by
  rw[qj _ _ _ _ sp,qj _ _ _ _ sp];exact h1
 refine⟨(((Xi M X).setCell (p:=(Xd w.heap.size 0 O)) a.1 _).setCell (p:=(Xd w.heap.size 1 O)) a.1 _).setCell (p:=⟨w.heap.size+1,0,O⟩) a.2 _ |>.trans (Xn _ _),⟨?_,?_,by simpa using e,by simpa using f,by simpa using g⟩,zN _ _ _ d,?_⟩
 ·show World.cell? (World.setCell _ _ _) _=_
  rw[qj _ _ _ _ sp,zA _ _ _ _ sp];exact zN _ _ _ c
 ·show World.cell? (World.setCell _ _ _) _=_
  rw[qj _ _ _ _ sp];exact zN _ _ _ h
 ·exact zc6 (((i.setCell (p:=(Xd w.heap.size 0 O)) (zh _) _).setCell (p:=(Xd w.heap.size 1 O)) (zh _) _).setCell (p:=⟨w.heap.size+1,0,O⟩) sp _)
theorem zlc (s:List UInt8)(hs:s.length<=2000)(w:H):
 Calls pg 44 #[gS ⟨s.toArray⟩] w fun e w'=>Below w.heap.size w w'/\
  (
   (∃k:Nat,ju 0 qF.none (QW s)= .error k/\e=Xa (tp #[ag #[V O 0 0,V O 0 0],it Xb (k:Nat)]))\/
   ∃p,ju 0 qF.none (QW s)= .ok p/\(((QW s).length<2+p.n/\e=Xa (tp #[ag #[V O 0 0,V O 0 0],it Xb (((QW s).length+1:Nat):Int)]))\/
    (¬(QW s).length<2+p.n/\∃f b,e=Xa (tp #[ag #[f,b],it Xb 0])/\DQ w' (w.heap.size+1+1) p f b/\zbU (QW s).length p/\∀x,Own (w.heap.size+1+1) f b x->w.heap.size<=x))):=by
 have hm:Tryz.prog.follows .mixedOrders=true:=kr;have u:=zf (of_seq s om (w.heap.size+1+1+1+1));have t:=zf (fun k x (S:(QW s)[k]? =E x)=>zF (zqY s k x S) hs);have a:(QW s).length<=2000:=zF (zgA s.length s).1 hs;obtain⟨d,hLL⟩:∃d,QW s=d:=⟨_,rfl⟩;rw[hLL]at u t a⊢;clear hLL;have F:=zf (RdI.start w d ⟨s.toArray⟩);refine Q0 func44 ntmps44 (h:=?_);gi_wp2;refine(zq.2 (of_mk _ _)).mono ?_;rintro e a ⟨rfl,rfl⟩;gi_wp2;refine zaW u.out rfl (qW func137 kr rfl) (fun c hv=>?_)
  (fun k M A=>k<=d.length/\∃p f b,Hid (RdI w d k p f b A)/\A.cell? ⟨w.heap.size+1+1+1+1,0,O⟩=E (gS ⟨s.toArray⟩)/\∀x,M x↔(x=w.heap.size\/x=w.heap.size+1\/x=w.heap.size+1+1+1)\/Own (w.heap.size+1+1) f b x)
  (fun X k A=>X= .ret/\Hid (ju 0 qF.none d= .error (k+1)/\Zh A w.heap.size (V O 0 0) (V O 0 0)/\A.cell? ⟨w.heap.size+1,0,O⟩=E (it Xb ((k:Int)+1))/\Below w.heap.size w A))
  (fun x=>(x=w.heap.size\/x=w.heap.size+1\/x=w.heap.size+1+1+1)\/Own (w.heap.size+1+1) (V O 0 0) (V O 0 0) x) ?hI ?hIx ?hC ?h0 ?round ?done ?stop
 case hI=>
  rintro k M A a ⟨r,p,f,b,h,v,y⟩ o;exact⟨r,p,f,b,h.out.keep o so,o.cell v,y⟩
 case hIx=>
  rintro X k A a ⟨r,h⟩ o;exact⟨r,h.out.1,h.out.2.1.keep o,o.cell h.out.2.2.1,o.below h.out.2.2.2 so (zh _)⟩
 case hC=>
  rintro k M A ⟨r,p,f,b,h,v,y⟩;refine⟨v,fun x K=>?_⟩;have a:=h.out.2.2.2.2.2.2.2.2.2.2;rcases(y x).1 K with e|e
  ·omega
  ·exact h.out.1.lt x e
 case h0=>
  refine⟨qo _,qF.none,_,_,F.out,?_,fun _=>Qb⟩;exact ze _ _ _ _ _ _ (zkJ w _ _ _ _ _).2.2.2.2
 case round=>
  rintro P k c M A hv ⟨_,p,f,b,l,T,i⟩;obtain⟨z,last,L,rfl⟩:=zjr hv;rw[qt];have a:=(zo.1 L).1;have C:=t.out k z L;unfold Zz lineV;gi_wp2;refine⟨Xf ((qf _ _).alloc (zh _) _),fun m a=>?_⟩;have q:=(zn.alloc _ A _).trans a;have c:Hid (RdI w d k p f b m):=l.out.keep q so;have N:m.cell? (Xd A.heap.size 0 O)=E (it Xb ((k:Int)+1)):=a.cell (ze _ _ _ _ _ _ (qR A _));have l1:m.cell? (Xd A.heap.size 1 O)=E (gS ⟨z.1.toArray⟩):=a.cell (ze _ _ _ _ _ _ (qR A _));have U:m.cell? (Xd A.heap.size 2 O)=E (G z.2):=a.cell (ze _ _ _ _ _ _ (qR A _));have l3:m.cell? (Xd A.heap.size 3 O)=E (G last):=a.cell (ze _ _ _ _ _ _ (qR A _));have D:=l.out.2.2.2.2.2.2.2.2.2.2;have D:A.heap.size<m.heap.size:=zw N;have a0:=q.cell T;have a1:¬Own (w.heap.size+1+1) f b A.heap.size:=fun e=>by have:=l.out.1.lt _ e;omega
  have a5:¬Own (w.heap.size+1+1) f b (w.heap.size+1+1+1+1):=fun e=>by rcases l.out.2.2.2.2.2.2.2.2.2.1 _ e with e|e<;>omega
  clear a q l T;cases hye:z.2 with
  |false=>
   rw[hye]at U;have W:Hid (ju 0 qF.none d= .error (k+1)):=by
    rw[Hid,c.out.2.2.1,zhA L,zQ hye]
   obtain⟨_,_,_,_,_,q,I,Y,J,_,_⟩:=c.out;have D:=zf (zke (k:=k) q I J M ⟨(i _).2 (.inl (.inl rfl)),(i _).2 (.inl (.inr (.inl rfl)))⟩);obtain⟨f0,f1,f2,f3,f4⟩:=q;clear c t F u i;gi_wp2;gi_region_o
   all_goals gi_wp2
   all_goals exact⟨D.out.1,rfl,W.out,D.out.2⟩
  |true=>
   rw[hye]at U;have R:=zf (zoT k z.1 true last (w.heap.size+1+1) p f b m c.out.1 c.out.2.1 C om);have a:((k+1:Nat):Int)=(k:Int)+1:=sp;rw[a]at R;clear a;gi_wp2;refine(Zq P (zq.2 R.out)).mono ?_;rintro e C ⟨rfl,a,Z⟩;have a2:=a.mono (fun x e=>(i x).2 (.inr e));cases htk:jD k p (Zb z.1)with
   |none=>
    have W:Hid (ju 0 qF.none d= .error (k+1)):=by
     rw[Hid,c.out.2.2.1,zhA L,zO (by rw[hye];simp),htk]
    obtain⟨_,_,_,_,_,q,I,Y,J,m,_⟩:=c.out;have P:¬Own (w.heap.size+1+1) f b w.heap.size:=fun e=>by rcases m _ e with e|e<;>omega
    have Q:¬Own (w.heap.size+1+1) f b (w.heap.size+1):=fun e=>by rcases m _ e with e|e<;>omega
    have z:=q.same (a.block _ q.2.2.2.2 P) a.size;have a3:=a.cell (p:=⟨w.heap.size+1,0,O⟩) Q I;have a4:=(a.frozen (p:=⟨w.heap.size+1,0,O⟩) Q (zw I)).trans Y;have a4:=J.trans (a.below J.size (fun x e=>by rcases m x e with e|e<;>omega));have D:=zf (zke (k:=k) z a3 a4 M ⟨(i _).2 (.inl (.inl rfl)),(i _).2 (.inl (.inr (.inl rfl)))⟩);obtain⟨f0,f1,f2,f3,f4⟩:=z;have a3:=a.cell (p:=(Xd A.heap.size 0 O)) a1 N;clear c t F u i q Z htk R N l1 U l3 I Y J a;simp only[Option.isSome];gi_wp2;gi_region_o
    all_goals gi_wp2
    all_goals exact⟨a2.trans D.out.1,rfl,W.out,D.out.2⟩
   |some q=>
    obtain⟨D,I,z,m⟩:=Z q htk;obtain⟨_,_,J⟩:=c.out.step a z m L hye htk;have a3:=a.cell (p:=(Xd A.heap.size 0 O)) a1 N;have c:=a.cell (p:=⟨w.heap.size+1+1+1+1,0,O⟩) a5 a0;have a:=(i _).2 (.inl (.inr (.inr rfl)));simp only[Option.isSome];clear htk R Z N l1 U l3 t F u a0;gi_wp2;refine⟨a2.setCell (p:=⟨w.heap.size+1+1+1,0,O⟩) a _,_,⟨om,q,D,I,J,?_,fun _=>Qb⟩,fun x K=>?_⟩
    ·rw[qj _ _ _ _ sp];exact c
    ·rcases K with e|e
     ·exact .inl ((i x).2 (.inl e))
     ·rcases m x e with e|e
      ·exact .inl ((i x).2 (.inr e))
      ·exact .inr om
 case stop=>
  rintro D X k A c o ⟨rfl,S⟩ z;have I:w.heap.size+1+1+1+1<D:=by simp at c;omega
  have a:zn w.heap.size A (A.putObj D (.deferred O)):=zn.putObj (.deferred O) om z rfl;obtain⟨r,h,v,y⟩:=S.out;have m:=a.cell h.1;have o:=a.cell h.2.1;have q:=a.cell v;have C:=a.below y (zh _) (zh _);clear h v y S;gi_wp2;refine qh z ?_;refine⟨tp #[ag #[V O 0 0,V O 0 0],it Xb ((k:Int)+1)],by simp[results,results44,go_sem,m,o,q],C,Or.inl ⟨k+1,r,sp⟩⟩
 case done=>
  rintro D M A c ⟨r,p,f,b,l,T,i⟩ z;rw[zjc]at l r;have I:w.heap.size+1+1+1+1<D:=by simp at c;omega
  obtain⟨v,N,q3,_,_,C,S,_,Y,M,_⟩:=l.out;have y:Hid (ju 0 qF.none d= .ok p):=by rw[Hid,q3,List.drop_length];rfl
  have b:p.n<=4:=by
   by_cases b:d.length=0
   ·rw[N.z b];simp[qF.none]
   ·exact(N.n om).2
  obtain⟨b,c,hvC⟩:∃b c,f=V b p.n c:=by
   rcases v.cols with ⟨h0,h⟩|⟨_,_,h,_⟩
   ·exact⟨O,0,by rw[h,h0]⟩
   ·exact⟨_,_,h⟩
  obtain⟨f,h,I⟩:=v.shapeR;obtain⟨d0,_,_,_,_⟩:=v.box;subst hvC;have J:=zf (fun(W:H) (r:W.cell? ⟨w.heap.size+1+1,0,O⟩=E (V b p.n c))=>zjq (w.heap.size+1+1) p.n b c W r om);have r:=zf (zke (k:=d.length) C S Y (fun _=>True) ⟨trivial,trivial⟩);obtain⟨R,L,_,_,_⟩:=C;subst I;have P:¬Own (w.heap.size+1+1) (V b p.n c) (V f p.rows.length h) w.heap.size:=fun e=>by rcases M _ e with e|e<;>omega
  have Q:¬Own (w.heap.size+1+1) (V b p.n c) (V f p.rows.length h) (w.heap.size+1):=fun e=>by rcases M _ e with e|e<;>omega
  have C:=Jw z;have C:(((A.setCell (Xd w.heap.size 0 O) (V O 0 0)).setCell (Xd w.heap.size 1 O) (V O 0 0)).setCell ⟨w.heap.size+1,0,O⟩ (it Xb ((d.length:Int)+1))).drew.drew.heap[D]? =E (.deferred (E [])):=by
   show(World.setCell _ _ _).heap[D]? =_
   rw[qC _ _ _ _ so,qC _ _ _ _ so,qC _ _ _ _ so];exact z
  have I:(((A.setCell (Xd w.heap.size 0 O) (V b p.n c)).setCell (Xd w.heap.size 1 O) (V f p.rows.length h)).setCell ⟨w.heap.size+1,0,O⟩ (it Xb 0)).drew.heap[D]? =E (.deferred (E [])):=by
   show(World.setCell _ _ _).heap[D]? =_
   rw[qC _ _ _ _ so,qC _ _ _ _ so,qC _ _ _ _ so];exact z
  have z:(A.setCell (Xd w.heap.size 0 O) (V b p.n c)).cell? (Xd w.heap.size 0 O)=E (V b p.n c):=zN _ _ _ R;have D:(A.setCell (Xd w.heap.size 0 O) (V b p.n c)).cell? (Xd w.heap.size 1 O)=E (V O 0 0):=by rw[zA _ _ _ _ sp];exact L
  have Z:((A.setCell (Xd w.heap.size 0 O) (V b p.n c)).setCell (Xd w.heap.size 1 O) (V f p.rows.length h)).cell? (Xd w.heap.size 1 O)=E (V f p.rows.length h):=zN _ _ _ D;have o3:((A.setCell (Xd w.heap.size 0 O) (V b p.n c)).setCell (Xd w.heap.size 1 O) (V f p.rows.length h)).cell? (Xd w.heap.size 0 O)=E (V b p.n c):=by rw[zA _ _ _ _ sp];exact z
  have L:((A.setCell (Xd w.heap.size 0 O) (V b p.n c)).setCell (Xd w.heap.size 1 O) (V f p.rows.length h)).cell? ⟨w.heap.size+1,0,O⟩=E (it Xb 0):=by rw[qj _ _ _ _ sp,qj _ _ _ _ sp];exact S
  have X:=zf ((((v.set_other (g:=w.heap.size) (j:=0) (v:=V b p.n c) P R sp sp R sp).set_other (g:=w.heap.size) (j:=1) (v:=V f p.rows.length h) P D sp sp z sp).set_int (g:=w.heap.size+1) (z':=0) Q L).keep (zn.drew 0 _));have S:(((A.setCell (Xd w.heap.size 0 O) (V b p.n c)).setCell (Xd w.heap.size 1 O) (V f p.rows.length h)).setCell ⟨w.heap.size+1,0,O⟩ (it Xb 0)).drew.cell? (Xd w.heap.size 0 O)=E (V b p.n c):=by
   show World.cell? (World.setCell _ _ _) _=_
   rw[qj _ _ _ _ sp];exact o3
  have U:(((A.setCell (Xd w.heap.size 0 O) (V b p.n c)).setCell (Xd w.heap.size 1 O) (V f p.rows.length h)).setCell ⟨w.heap.size+1,0,O⟩ (it Xb 0)).drew.cell? (Xd w.heap.size 1 O)=E (V f p.rows.length h):=by
   show World.cell? (World.setCell _ _ _) _=_
   rw[qj _ _ _ _ sp];exact Z
  have W:(((A.setCell (Xd w.heap.size 0 O) (V b p.n c)).setCell (Xd w.heap.size 1 O) (V f p.rows.length h)).setCell ⟨w.heap.size+1,0,O⟩ (it Xb 0)).drew.cell? ⟨w.heap.size+1,0,O⟩=E (it Xb 0):=zN _ _ _ L;have R:Below w.heap.size w (((A.setCell (Xd w.heap.size 0 O) (V b p.n c)).setCell (Xd w.heap.size 1 O) (V f p.rows.length h)).setCell ⟨w.heap.size+1,0,O⟩ (it Xb 0)).drew:=zc6 (((Y.setCell (p:=(Xd w.heap.size 0 O)) (zh _) _).setCell (p:=(Xd w.heap.size 1 O)) (zh _) _).setCell (p:=⟨w.heap.size+1,0,O⟩) sp _);have Y:=zf N;have A:Hid (∀x,Own (w.heap.size+1+1) (V b p.n c) (V f p.rows.length h) x->w.heap.size<=x):=fun x K=>by rcases M x K with e|e<;>omega
  clear z D Z o3 L i T F u t q3 P Q v l;gi_wp2;refine zcM ?_;gi_region_with_o (refine(zq.2 (J.out _ (by exact d0))).mono ?_;rintro e i ⟨rfl,rfl⟩)
  all_goals simp only[]
  all_goals by_cases l:d.length<2+p.n
  ·have i:(d.length:Int)+1<=2+(p.n:Int):=om;gi_wp2;refine zcM ?_;gi_region_o
   all_goals simp only[]
   all_goals gi_wp2
   all_goals refine qh C ?_
   all_goals have a:=zn.putObj (B:=w.heap.size) (.deferred O) om C rfl
   all_goals have m:=a.cell (r.out.2.1.1)
   all_goals have o:=a.cell (r.out.2.1.2.1)
   all_goals have q:=a.cell (r.out.2.2.1)
   all_goals exact⟨tp #[ag #[V O 0 0,V O 0 0],it Xb ((d.length:Int)+1)],by simp[results,results44,go_sem,m,o,q],a.below (zc6 r.out.2.2.2) (zh _) (zh _),Or.inr ⟨p,y.out,Or.inl ⟨l,sp⟩⟩⟩
  ·have i:¬(d.length:Int)+1<=2+(p.n:Int):=om;gi_wp2;refine qh I ?_;have a:=zn.putObj (B:=w.heap.size) (.deferred O) om I rfl;have m:=a.cell S;have o:=a.cell U;have q:=a.cell W;exact⟨tp #[ag #[V b p.n c,V f p.rows.length h],it Xb 0],by simp[results,results44,go_sem,m,o,q],a.below R (zh _) (zh _),Or.inr ⟨p,y.out,Or.inr ⟨om,_,_,rfl,X.out.keep a,Y.out,A.out⟩⟩⟩
  ·have i:(d.length:Int)+1<=2+(p.n:Int):=om;gi_wp2;refine zcM ?_;gi_region_o
   all_goals simp only[]
   all_goals gi_wp2
   all_goals refine qh C ?_
   all_goals have a:=zn.putObj (B:=w.heap.size) (.deferred O) om C rfl
   all_goals have m:=a.cell (r.out.2.1.1)
   all_goals have o:=a.cell (r.out.2.1.2.1)
   all_goals have q:=a.cell (r.out.2.2.1)
   all_goals exact⟨tp #[ag #[V O 0 0,V O 0 0],it Xb ((d.length:Int)+1)],by simp[results,results44,go_sem,m,o,q],a.below (zc6 r.out.2.2.2) (zh _) (zh _),Or.inr ⟨p,y.out,Or.inl ⟨l,sp⟩⟩⟩
  ·have i:¬(d.length:Int)+1<=2+(p.n:Int):=om;gi_wp2;refine qh I ?_;have a:=zn.putObj (B:=w.heap.size) (.deferred O) om I rfl;have m:=a.cell S;have o:=a.cell U;have q:=a.cell W;exact⟨tp #[ag #[V b p.n c,V f p.rows.length h],it Xb 0],by simp[results,results44,go_sem,m,o,q],a.below R (zh _) (zh _),Or.inr ⟨p,y.out,Or.inr ⟨om,_,_,rfl,X.out.keep a,Y.out,A.out⟩⟩⟩
 ·obtain⟨_,a⟩:=Jq.1 hv;obtain⟨x,last,_,rfl⟩:=zjr a;rfl
