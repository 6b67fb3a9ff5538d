import Derived.Test.YthnopjedhcapmaaGreatDoorMvr1Z13
open Option renaming none->O,some->E
open Go.Value renaming slice->V,bool->G,string->gS,pointer->pn,int->it,agg->ag
open Go.Obj renaming cells->cl
open Go renaming World->H
open Go.Proofs.Tryz renaming prog->pg
open Go.Proofs.Tryz
open Go.Ending renaming returned->Xa
open Go.IntKind renaming i64->Xb
open Go.Addr renaming mk->Xd
set_option linter.unusedSimpArgs false
set_option linter.unusedVariables false
set_option maxHeartbeats 2000000
set_option maxRecDepth 100000
namespace Go.Proofs.YthnopjedhcapmaaGreatDoor
open Go.RowKit
attribute [local go_sem] zD zW qJ
variable {B g k:Nat}{W w w':H}{b:A_}{es:List Edg}{t:TypeId}
def listSeq {w:H}{fa:A_}{fc:Nat}{zs:L_}{ts:List WT}{bt:Nat}(hn:zs.length<=1000000)(h1:ts.length=zs.length)(h2:ZS w 64 (V fa ts.length fc) 2 (ts.map WT.cells))(h3:∀(i:Nat) (t:WT) (z:Int),ts[i]? =E t->zs[i]? =E z->zy w t.val z)
 (hs:w.cell? (Xd bt 0 O)=E (V fa ts.length fc)):zdT w 179 #[p_ bt 0] zs where
 Y:=fun k v W=>(∃t,ts[k]? =E t/\v=#[t.val])/\∀(i:Nat) (t:WT) (z:Int),ts[i]? =E t->zs[i]? =E z->zy W t.val z
 C:=fun W=>W.cell? (Xd bt 0 O)=E (V fa ts.length fc)/\ZS W 64 (V fa ts.length fc) 2 (ts.map WT.cells)/\∀(i:Nat) (t:WT) (z:Int),ts[i]? =E t->zs[i]? =E z->zy W t.val z
 seq:=by
  have hq:=JO ts fa fc bt (by omega);rw[<-h1];intro l J Jx M0 W g1 g2 g3 g4 g5;exact hq l J Jx M0 W g1 g2 (fun k M A hA=>⟨⟨(g3 k M A hA).1.1,(g3 k M A hA).1.2.1.recs⟩,(g3 k M A hA).2⟩) (fun k v M W1 hk hv hj=>g4 k v M W1 hk ⟨hv,(g3 k M W1 hj).1.2.2⟩ hj) g5
 ent:=qW Tryz.func179 (by kernel_rfl) rfl
 val:=by
  rintro k v W x hx ⟨⟨t,ht,rfl⟩,hall⟩;exact⟨t,rfl,hall k t x ht hx⟩
 one:=by
  rintro k v W ⟨⟨t,ht,rfl⟩,hall⟩;rfl
 now:=⟨hs,h2,h3⟩
 old:=Jp (JV (zw hs)) (Jp (zf5 h2) (za2 fun i=>za2 fun t=>za2 fun z=>fun A B hA hh ht hz=>zaw (h3 i t z ht hz) A B (hA ht hz) hh))
theorem zjI(w:H)(fa:A_)(fl fc:Nat)(zs:L_)(h:Zo w (V fa fl fc) zs)(d:zs.length<=100000)(a:Nat)(hs:w.cell? (Xd a 0 O)=E (V fa fl fc)):
 C_ 158 #[.func (.func 179) #[] #[p_ a 0]] w fun e w'=>∃f:S_,e=Xa (sl3 f)/\Zo w' (sl3 f) zs/\b_ w w':=by
 have⟨_,b,a,c⟩:=h;have⟨_,_,e⟩:=a.shape;rw[zm]at e;simp only[qp]at e;obtain⟨rfl,rfl,rfl⟩:=e;have q:=listSeq om b a c hs;apply(zg0 _ _ zs q.Y q.C q.seq q.ent q.val q.one d w q.now q.old).mono;rintro e a ⟨_,g,rfl,b,a,c,_,d⟩;obtain⟨i,j,rfl⟩:=a.shape;exact⟨(i,_,j),rfl,⟨g,b,a,c⟩,d⟩
def jx (aims:L_)(bs:List qO):List Edg:=bs.filterMap fun b=>if 0<Qx (qT aims b.1.1)then E (⟨b.1,b.2,b.1.1⟩:Edg)else O
theorem zrg{aims:L_}{a:List qO}{b:qO}(h:a[k]? =E b)(hs:0<Qx (qT aims b.1.1)):(jx aims (a.take (k+1))).length=(jx aims (a.take k)).length+1/\(jx aims a)[(jx aims (a.take k)).length]? =E ⟨b.1,b.2,b.1.1⟩:=by
 have c:=jQ h;have d:a.take (k+1)=a.take k ++ [b]:=by rw[ZB,h];rfl
 have c:jx aims (a.take (k+1))=jx aims (a.take k) ++ [⟨b.1,b.2,b.1.1⟩]:=by
  rw[d];unfold jx;rw[zdD];simp[hs]
 have d:jx aims a=jx aims (a.take (k+1))++jx aims (a.drop (k+1)):=by
  unfold jx;rw[<-zdD,zbp]
 refine⟨by rw[c];simp,?_⟩;rw[d,c,Zl,zG (zh _),Qn];rfl
theorem zrh{aims:L_}{a:List qO}{b:qO}(h:a[k]? =E b)(hs:¬0<Qx (qT aims b.1.1)):jx aims (a.take (k+1))=jx aims (a.take k):=by
 have c:a.take (k+1)=a.take k ++ [b]:=by rw[ZB,h];rfl
 rw[c];unfold jx;rw[zdD];simp[hs]
def ptF (es:List Edg)(n k:Nat):L_:=(es.take k).foldl (fun pt e=>ZJ 1 pt 1 e.loss e.row.2) (List.replicate n 0)
theorem zmb{n:Nat}{e:Edg}(h:es[k]? =E e):ptF es n (k+1)=ZJ 1 (ptF es n k) 1 e.loss e.row.2:=by
 unfold ptF;rw[ZB,h];simp
theorem znb{es:List Edg}{n D:Nat}(h:∀e∈es,e.loss.length=n/\Zu D e.loss/\Lim D e.row.2):∀k,k<=es.length->(ptF es n k).length=n/\Zu (k*(D*D)) (ptF es n k)
 |0,_=>by
  refine⟨by simp[ptF],fun z a=>?_⟩;have:z=0:=by simpa[ptF]using (zaB (by simpa[ptF]using a):z=0)
  rw[this];exact Xr _
 |k+1,b=>by
  have⟨b,c⟩:=znb h k om;have⟨f,g,i⟩:=h _ (zJ (show k<es.length by omega));rw[zmb (zg (show k<es.length by omega))];generalize es[k]=e at *;refine⟨by rw[zhF (by rw[b,f]),b],fun z a=>?_⟩;unfold ZJ at a;obtain⟨_,b,rfl⟩:=qM a;rw[zbX];rw[jY]at b;refine(zgn (zh 1) (((c _ (zJ om)).mul (Xq (zh 1))).add ((g _ (zJ om)).mul i))).mono (jm ?_);rw[Zg,jM,Jv]
def FiI (w1:H)(b0 g:Nat)(av ov:S_)(aims:L_)(bs:List qO)(k:Nat)(M:Nat->Prop)(A:H):Prop:=
 k<=bs.length/\ExI w1 b0 g av ov (O,0,0) (jx aims bs) (jx aims (bs.take k)).length M A
def PtI (w2:H)(D1 g:Nat)(av ov ev:S_)(es:List Edg)(n:Nat)(k:Nat)(M:Nat->Prop)(A:H):Prop:=
 Wr (fun b=>b=g) w2 A/\(∃pv:S_,A.heap[g]? =E (cl #[sl3 av,sl3 ov,sl3 pv,sl3 ev] 114)/\Zo A (sl3 pv) (ptF es n k))/\A.heap[D1]? =E (.deferred (E []))/\∀b,M b↔b=g
theorem ExI.more2{w1 A A2 X3 A8:H}{h:Nat}{w ov pv:S_}{M:Nat->Prop}{v:Value}{a:List ET}{u:ET}{e:Edg}{g8 cap8:Nat}{o:Obj}(C:a.length=k)(m:GrJ 194 5 114 (fun v=>#[sl3 w,sl3 ov,sl3 pv,v]) ET.cells w1 h g g v a M A)(L:∀(i:Nat) (u:ET) (e:Edg),a[i]? =E u->es[i]? =E e->zbY A u e)(p:zn w1.heap.size A A2)(q:Ext A2 X3)(P:g<w1.heap.size)(y:es[k]? =E e)(S:zbY X3 u e)(own:A8.ownsRow h 194 5 (V (E (Xd g8 0 O)) (a.length+1) cap8) (a.length+1) ((a.map ET.cells).flatten++u.cells))(grow:(X3.alloc o).grownBy A8 v.ownBlock)(J:v.ownBlock=E g8\/(X3.alloc o).heap.size<=g8)(dig:qK A8 g8):
 Wr M A2 (A8.setCell (Xd g 3 O) (V (E (Xd g8 0 O)) (a.length+1) cap8))/\∃d,ExI w1 h g w ov pv es (k+1) d (A8.setCell (Xd g 3 O) (V (E (Xd g8 0 O)) (a.length+1) cap8))/\∀x,d x->M x\/A.heap.size<=x:=by
 have D:Wr (fun c=>A.heap.size<=c) A2 _:=Xg (q.alloc o);have⟨s,d,X,Y⟩:=m.more (j:=3) p D P own rfl grow J dig rfl;have R:∃f W l,v=V f W l:=by have⟨f,l,K⟩:=m.2.2.1.shape;exact⟨f,_,l,K⟩
 have z:∀c,M c->¬qQ _ c 64/\qK _ c:=fun c N=>by
  have⟨Z,q2⟩:=(m.fresh p D).far (zm7 R) c N;refine⟨fun b=>?_,Z⟩;rcases q2 with t|t
  ·exact absurd (b.one t) dc
  ·exact absurd (b.one t) dc
 refine⟨(Xg (q.alloc o)).trans s,d,⟨jQ y,_,a ++ [u],by rw[zM,C];rfl,X,fun i F I b r=>?_⟩,Y⟩;by_cases Q:i<a.length
 ·rw[zS Q]at b;exact(((L i F I b r).keep p).ext (q.alloc o)).wr s z
 ·have B:i=a.length:=by
   have:=(zo.1 b).1;rw[zM,ZH]at this;omega
  rw[B,zG (zh _),Qn]at b;have T:u=F:=by simpa using b
  rw[B,C,y]at r;have U:e=I:=by simpa using r
  subst T U;exact(S.ext ((Xe X3).alloc o)).wr s z
theorem zri(a b:A_)(n cap m c:Nat)(z:Int)(w:H):
 C_ 157 #[ag #[V a n cap,V b m c],i_ z] w fun e w'=>e=Xa (.func (.func 222) #[] #[p_ w.heap.size 0,p_ (w.heap.size+1) 0])/\w'=(w.alloc (cl #[V a n cap,V b m c] 73)).alloc (cl #[i_ z] 3):=by
 go_enter func157,ntmps157
 go_wp2;go_ret;exact⟨rfl,rfl⟩
theorem zmc(a b:A_)(n cap m c:Nat)(w:H)(d:n<=100000):
 C_ 91 #[ag #[V a n cap,V b m c]] w fun e w'=>e=Xa (i_ (n:Nat))/\w'=w.alloc (cl #[V a n cap,V b m c] 73):=by
 go_enter func91,ntmps91
 go_wp2;go_ret;exact⟨rfl,rfl⟩
def UnitY (j:Nat)(k:Nat)(v:W_)(W:H):Prop:=∃t:WT,v=#[t.val]/\zy W t.val (if k=j then 1 else 0)
theorem zpv(a b:A_)(n cap m d j e c:Nat)(r:n<=100000):
 Ja pg 222 #[p_ e 0,p_ c 0] n (UnitY j) (fun W=>W.cell? (Xd e 0 O)=E (V a n cap)/\W.cell? (Xd e 1 O)=E (V b m d)/\W.cell? (Xd c 0 O)=E (i_ (j:Nat))):=by
 intro l J e f W A e e i g;obtain⟨k,p,q⟩:=(e 0 f W g).1;have l:=zf e;have I:=zf i;have o:=zf (fun W (z:Nat) (s:z<2)=>zjP W z om);clear i e;refine zcW func222 ntmps222 (h:=?_);gi_wp2;refine(zq.2 (zmc a b n cap m d W r)).mono ?_;rintro t e ⟨rfl,rfl⟩;have e:=A _ _ _ _ g (zn.alloc W.heap.size W (cl #[V a n cap,V b m d] 73));have g:W.heap.size<=(W.alloc (cl #[V a n cap,V b m d] 73)).heap.size:=sp;clear k p q;gi_wp2;gi_loopw [8] (fun i wr=>∃(k:Nat) (M:Nat->Prop),i=i_ (k:Int)/\k<=n/\J k M wr/\W.heap.size<=wr.heap.size) (fun i _=>n-(intOf i).toNat)
 case atStart=>exact⟨0,f,rfl,qo _,e,g⟩
 case round=>
  obtain⟨k,M,rfl,_,v,_⟩:=hrel;by_cases d:k<n
  ·have b:=(l.out k M wr v).1.2.2;have e:c<wr.heap.size:=zw b;gi_wp2;refine(zq.2 (o.out _ 0 om)).mono ?_;rintro t a ⟨_,rfl,C,u⟩;obtain⟨⟨g,f,l,i⟩,rfl⟩:=C.shape;simp only[WT.val,WT.sv]at C⊢;have s:Ext wr (a.alloc (cl #[G g,V f l i] 64)):=(Xf u).alloc _;have p:=s.cell b;have p:=(Xf u).cell b;have b:=zK e u.size;have F:=zC a (cl #[G g,V f l i] 64);by_cases w:k=j
   ·have N:((k:Int) == (j:Int))=true:=by simp[w]
    have L:=zf w;clear w;gi_wp2;refine(zq.2 (o.out _ 1 om)).mono ?_;rintro t b ⟨_,rfl,x,K⟩;obtain⟨⟨p,o,r,q⟩,rfl⟩:=x.shape;simp only[WT.val,WT.sv]at x⊢;have y:Ext (a.alloc (cl #[G g,V f l i] 64)) b:=Xf K;have e:=(y.block _ (zd.1 F).1).trans F;have c:=c_ 0 e;have c:=c_ 1 e;have c:=Xh (j:=0) e;have c:=Xh (j:=1) e;have D:Wr (fun c=>c=a.heap.size) b ((b.setCell (y_ a 0) (G p)).setCell (y_ a 1) (V o r q)):=(zv (U:=fun c=>c=a.heap.size) rfl _).trans (zv (U:=fun c=>c=a.heap.size) rfl _);have B:=Qg (s.trans y) (D.below (by have:=(s.trans y).size;omega) (fun c J=>by have:=u.size;omega));have u:=zf B.size;have z:=zf (I.out k #[ag #[G p,V o r q]] M ((b.setCell (y_ a 0) (G p)).setCell (y_ a 1) (V o r q)) d ⟨⟨p,o,r,q⟩,rfl,by
     rw[zQ L.out];exact x.wr D (fun c J=>by rw[J];exact zE e (by intro b b;simp at b;rcases b with rfl|rfl<;>(intro n t;cases t)))⟩ (A _ _ _ _ v (zn.of_below B)))
    clear B D e y K x;gi_wp2;refine jr z.out ?_ ?_
    ·rintro e ⟨o,c,b,_⟩;gi_wp2;go_roundw
     case rel=>exact⟨k+1,c,sp,d,b,by have:=o.size;have:=u.out;omega⟩
     case measure=>simp[intOf];omega
    ·intro e b;gi_wp2;refine zH (qI rfl _ _ _) rfl ?_;exact⟨⟨_,rfl⟩,.inr ⟨k,d,b.2⟩⟩
   ·have N:((k:Int) == (j:Int))=false:=by
     rw[ZN];omega
    have u:=zf s.size;have z:=zf (I.out k #[ag #[G g,V f l i]] M (a.alloc (cl #[G g,V f l i] 64)) d ⟨⟨g,f,l,i⟩,rfl,by
     rw[zO w];exact C.below ((Xe a).alloc _)⟩ (A _ _ _ _ v (zn.of_below s)))
    clear F;gi_wp2;refine jr z.out ?_ ?_
    ·rintro e ⟨o,c,b,_⟩;gi_wp2;go_roundw
     case rel=>exact⟨k+1,c,sp,d,b,by have:=o.size;have:=u.out;omega⟩
     case measure=>simp[intOf];omega
    ·intro e b;gi_wp2;refine zH (qI rfl _ _ _) rfl ?_;exact⟨⟨_,rfl⟩,.inr ⟨k,d,b.2⟩⟩
  ·gi_wp2;go_end0
   have a:k=n:=om;subst a;exact⟨⟨_,rfl⟩,.inl ⟨M,v⟩⟩
def ColY (zs:L_)(lo hi:Int)(k:Nat)(v:W_)(W:H):Prop:=∃r:RW,v=#[r.val]/\QG W r (if k=0 then(zs,hi)else(zs.map (fun z=>-z),-lo))
structure ColC (ga:Nat)(lba:W_)(ba bc:Nat)(tl th:WT)(zs:L_)(lo hi:Int)(W:H):Prop where
 fn:W.cell? (Xd ba 0 O)=E (.func (.func ga) #[] lba)
 c2:W.cell? (Xd bc 2 O)=E (G tl.b)
 c3:W.cell? (Xd bc 3 O)=E tl.sv
 c4:W.cell? (Xd bc 4 O)=E (G th.b)
 c5:W.cell? (Xd bc 5 O)=E th.sv
 low:zy W tl.val lo
 high:zy W th.val hi
 seq:Nonempty (zdT W ga lba zs)
theorem zn6(c:Nat)(j:W_)(w x:Nat)(k I:WT)(zs:L_)(lo hi:Int)(B:zs.length<=100000):
 Ja pg 221 #[p_ w 0,p_ x 0] 2 (ColY zs lo hi) (ColC c j w x k I zs lo hi):=by
 intro a3 a1 Jx u W d a2 A Q z;obtain⟨k0,k2,f,k4,g,C,D,⟨i⟩⟩:=(A 0 u W z).1;have J:=zf A;have r:=zf Q;have l:=zf (fun W (ws:zdT W c j zs) m mz hm=>zfO W c j zs ws B m mz hm);obtain⟨_,_,_,_⟩:=k;obtain⟨_,_,_,_⟩:=I;simp only[WT.sv]at f g;have o:=zf (l.out W i _ hi D);simp only[WT.val,WT.sv]at o;refine zcW func221 ntmps221 (h:=?_);gi_wp2;refine(zq.2 o.out).mono ?_;rintro y L ⟨⟨⟨fa,_,_⟩,⟨_,⟨_,k,_⟩⟩⟩,rfl,U,-,R⟩;have s:=zf (r.out 0 _ u L om ⟨_,rfl,by rw[zQ rfl];exact U⟩ (d _ _ _ _ z (zn.of_below R)));simp only[RW.val,RW.fv,WT.sv]at s⊢;gi_wp2;refine jr s.out ?_ ?_
 ·rintro b ⟨Z,v,a,-⟩;obtain⟨k0,k2,f,k4,g,C,D,⟨i⟩⟩:=(J.out 1 v b a).1;have p:=zf (l.out b i _ lo C);simp only[WT.val,WT.sv]at p f g;gi_wp2;refine(zq.2 p.out).mono ?_;rintro y M ⟨F,rfl,X,-,S⟩;have q:=zf (zg1 M F (zs,lo) X B);obtain⟨⟨_,_,_⟩,⟨_,⟨_,sl,_⟩⟩⟩:=F;simp only[RW.val,RW.fv,WT.sv]at q⊢;gi_wp2;refine(zq.2 q.out).mono ?_;rintro y N ⟨⟨⟨_,_,_⟩,⟨_,⟨_,_,_⟩⟩⟩,rfl,Y,-,T⟩;have t:=zf (r.out 1 _ v N om ⟨_,rfl,by rw[zO om];exact Y⟩ (d _ _ _ _ (d _ _ _ _ a (zn.of_below S)) (zn.of_below T)));simp only[RW.val,RW.fv,WT.sv]at t⊢;gi_wp2;refine jr t.out ?_ ?_
  ·rintro P ⟨a0,K,e,-⟩;gi_wp2;go_end0
   exact⟨⟨_,rfl⟩,.inl ⟨K,e⟩⟩
  ·rintro P ⟨a0,e⟩;gi_wp2;go_end0
   exact⟨⟨_,rfl⟩,.inr ⟨1,om,e⟩⟩
 ·rintro b ⟨Z,a⟩;gi_wp2;go_end0
  exact⟨⟨_,rfl⟩,.inr ⟨0,om,a⟩⟩
theorem zlk(b j hb:Bool)(a i f:A_)(c ac m l h g:Nat)(d:Nat)(k:W_)(w:H):
 C_ 156 #[ag #[G b,V a c ac,G j,V i m l,G hb,V f h g],.func (.func d) #[] k] w fun e w'=>e=Xa (.func (.func 221) #[] #[p_ (w.heap.size+1) 0,p_ w.heap.size 0])/\w'=(w.alloc (cl #[G b,V a c ac,G j,V i m l,G hb,V f h g] 165)).alloc (cl #[.func (.func d) #[] k] 171):=by
 go_enter func156,ntmps156
 go_wp2;go_ret;exact⟨rfl,rfl⟩
theorem zn7(f:ByteArray)(b:Bool)(a fa:A_)(d c fl fc:Nat)(w:H):
 C_ 155 #[ag #[gS f,G b,V a d c,V fa fl fc]] w fun e w'=>e=Xa (.func (.func 217) #[] #[p_ w.heap.size 0])/\w'=w.alloc (cl #[gS f,G b,V a d c,V fa fl fc] 234):=by
 go_enter func155,ntmps155
 go_wp2;go_ret;exact⟨rfl,rfl⟩
theorem zr8(a b:A_)(n cap m c:Nat)(w:H):
 C_ 92 #[ag #[V a n cap,V b m c]] w fun e w'=>e=Xa (.func (.func 152) #[] #[p_ w.heap.size 0])/\w'=w.alloc (cl #[V a n cap,V b m c] 73):=by
 go_enter func92,ntmps92
 go_wp2;go_ret;exact⟨rfl,rfl⟩
def HoI (W:H)(l:Nat)(J:Nat->(Nat->Prop)->H->Prop)(k:Nat)(M:Nat->Prop)(A:H):Prop:=∃N,J k N A/\A.heap[W.heap.size]? =E (cl #[.func (.yield l) #[] #[]] 228)/\A.heap[W.heap.size+1]? =E (cl #[G false] 4)/\¬N W.heap.size/\¬N (W.heap.size+1)/\∀x,M x↔N x\/x=W.heap.size+1
def HoX (W:H)(Jx:Nat->H->Prop)(c:Code)(k:Nat)(A:H):Prop:=c= .ret/\Jx k A/\A.heap[W.heap.size+1]? =E (cl #[G false] 4)
theorem zn8(g:Nat)(f:W_)(n:Nat)(Y:Nat->W_->H->Prop)(C:H->Prop)(o:SeqQ pg g f n Y C)(j:∀args w,(callFunc g args).run pg w= .ok (.enter g args) w)(c:∀k v W,Y k v W->∃r:RW,v=#[r.val])(a0:∀k v A B,Y k v A->zn 0 A B->Y k v B)(l:Nat)(J:Nat->(Nat->Prop)->H->Prop)(Jx:Nat->H->Prop)(M0:Nat->Prop)(W:H)(z:∀k M A B,J k M A->zn W.heap.size A B->J k M B)(R:∀k A B,Jx k A->zn W.heap.size A B->Jx k B)(Q:∀k M A B,J k M A->Wr (zaa W.heap.size A) A B->J k M B)(S:∀k A B,Jx k A->Wr (zaa W.heap.size A) A B->Jx k B)(hC:∀k M A,J k M A->C A/\∀x,M x->x<A.heap.size/\zcN A x)(m:∀k v M b,k<n->Y k v b->J k M b->YieldAt Fence.wide 0 pg l v b fun e a=>
  (e=Xa (G true)/\Wr M b a/\∃d,J (k+1) d a/\∀x,d x->M x\/b.heap.size<=x)\/(e=Xa (G false)/\Wr M b a/\Jx k a))(h0:J 0 M0 W):
 C_ 154 #[.func (.func g) #[] f,.func (.yield l) #[] #[]] W fun e a=>∃t,e=Xa (G t)/\(t=true->∃M,J n M a)/\(t=false->∃k,k<n/\Jx k a):=by
 have h:=zf hC;have Z:=zf m;have m:=zf c;have a:=zf o;have F:Ext W ((W.alloc (cl #[.func (.yield l) #[] #[]] 228)).alloc (cl #[G false] 4)):=((Xe W).alloc _).alloc _;obtain⟨D,s⟩:=Xk W (cl #[.func (.yield l) #[] #[]] 228) (cl #[G false] 4);refine Q0 func154 ntmps154 (h:=?_);gi_wp2;generalize World.alloc _ _=y at *;have q:=(h.out 0 M0 W h0).2;have b:=(zd.1 s).1;refine ze6 a.out rfl j (fun k v W c=>by obtain⟨r,rfl⟩:=m.out k v W c;rfl)
  (HoI W l J) (HoX W Jx) (fun x=>M0 x\/x=W.heap.size+1) ?hI ?hIx ?hI2 ?hIx2 ?hC ?h0 ?round ?done ?stop
 case hI=>
  rintro k M A B ⟨N,b,d,a,p,o,j⟩ c;exact⟨N,z _ _ _ _ b (c.mono om),c.block _ _ d (.inr rfl),c.block _ _ a (.inr rfl),p,o,j⟩
 case hIx=>
  rintro P k A B ⟨b,d,a⟩ c;exact⟨b,R _ _ _ d (c.mono om),c.block _ _ a (.inr rfl)⟩
 case hI2=>
  rintro k M A B ⟨N,b,d,a,p,o,j⟩ c;exact⟨N,Q _ _ _ _ b (c.mono (fun u f=>⟨by have:=f.1;omega,f.2⟩)),c.some d (fun e=>by have:=e.1;omega),c.some a (fun e=>by have:=e.1;omega),p,o,j⟩
 case hIx2=>
  rintro P k A B ⟨b,d,a⟩ c;exact⟨b,S _ _ _ d (c.mono (fun u f=>⟨by have:=f.1;omega,f.2⟩)),c.some a (fun e=>by have:=e.1;omega)⟩
 case hC=>
  rintro k M A ⟨N,b,d,a,p,o,j⟩;refine⟨(h.out k N A b).1,fun x f=>?_⟩;rcases(j x).1 f with f|rfl
  ·exact(h.out k N A b).2 x f
  ·exact⟨(zd.1 a).1,zmC a dc n1⟩
 case h0=>
  refine⟨M0,z _ _ _ _ h0 (zn.of_below F),D,s,fun h=>?_,fun h=>?_,fun x=>Qb⟩;·have:=(q _ h).1;omega
  ·have:=(q _ h).1;omega
 case round=>
  rintro q k v M A a1 u ⟨N,b,d,a,p,o,j⟩;obtain⟨⟨⟨fa,F,D⟩,⟨L,⟨K,Y,X⟩⟩⟩,rfl⟩:=m.out k v A u;simp only[RW.val,RW.fv,WT.sv]at u⊢;unfold Zz;gi_wp2;refine⟨Xg ((Xe A).alloc _),fun s I=>?_⟩;have m:=(zn.alloc y.heap.size A (cl #[V fa F D,G L,V K Y X] 104)).trans I;have q:=I.block _ _ (zC A (cl #[V fa F D,G L,V K Y X] 104)) (.inr rfl);have D:=c_ 0 q;have D:=c_ 1 q;have D:=c_ 2 q;have L:=m.block _ _ d (.inr rfl);have F:=m.block _ _ a (.inr rfl);have q:=c_ 0 L;have q:=m.size;have q:=(zd.1 F).1;have q:=zf (Z.out k _ N s a1 (a0 _ _ _ _ u (m.mono (qo _))) (z _ _ _ _ b (m.mono om)));gi_wp2;refine JS q.out ?_ ?_
  ·rintro m ⟨q,K,I,u⟩;have D:Hid (ZL M (HoI W l J) (HoX W Jx) k A s .normal { tmps:=#[],defers:= [] } m):=by
    refine⟨q.mono (fun x f=>(j x).2 (.inl f)),fun x=>K x\/x=W.heap.size+1,⟨K,I,q.some L p,q.some F o,fun h=>?_,fun h=>?_,fun x=>Qb⟩,fun x f=>?_⟩
    ·rcases u _ h with h|h
     ·exact p h
     ·omega
    ·rcases u _ h with h|h
     ·exact o h
     ·omega
    ·rcases f with f|f
     ·rcases u _ f with h|h
      ·exact .inl ((j x).2 (.inl h))
      ·exact .inr om
     ·exact .inl ((j x).2 (.inr f))
   gi_wp2;exact D.out
  ·rintro m ⟨q,I⟩;have u:=q.some F o;have F:=c_ 0 u;have F:=Xh (j:=0) u;have F:=(zd.1 u).1;have F:Wr (zaa W.heap.size m) m (m.setCell (x_ W 0) (G false)):=zv (U:=zaa W.heap.size m) ⟨om,.inr ⟨_,_,u⟩⟩ _;have D:Hid (ZL M (HoI W l J) (HoX W Jx) k A s .ret { tmps:=#[],defers:= [] } (m.setCell (x_ W 0) (G false))):=by
    refine⟨(q.mono (fun x f=>(j x).2 (.inl f))).trans (zv ((j _).2 (.inr rfl)) _),rfl,S _ _ _ I F,?_⟩;rw[Xl u];rfl
   gi_wp2;exact D.out
 case done=>
  rintro D M A q _ ⟨N,b,d,a,p,o,j⟩ f;have m:=jm q.symm;have j:=c_ 0 a;have j:=Xh (j:=0) a;have j:=(zd.1 a).1;have o:=Q _ _ _ _ b (zv (w:=A) (U:=zaa W.heap.size A) (g:=W.heap.size+1) (i:=0) ⟨om,.inr ⟨_,_,a⟩⟩ (G true));have q:(A.setCell (x_ W 0) (G true)).heap[W.heap.size+1]? =E (cl #[G true] 4):=by
   rw[Xl a];rfl
  have j:(A.setCell (x_ W 0) (G true)).heap[D]? =E (.deferred (E [])):=(qC _ _ _ _ so).trans f;have p:=zf o;have o:=zf q;gi_wp2;refine qh j ?_;have a:zn y.heap.size (A.setCell (x_ W 0) (G true)) ((A.setCell (x_ W 0) (G true)).putObj D (.deferred O)):=zn.putObj _ m j rfl;have j:=a.cell (c_ 0 o.out);exact⟨G true,by simp[results,results154,go_sem,j],true,rfl,fun _=>⟨N,z _ _ _ _ p.out (a.mono om)⟩,(fun h=>by cases h)⟩
 case stop=>
  rintro D P k A m c ⟨rfl,b,d⟩ f;gi_wp2;refine qh f ?_;have a:zn y.heap.size A (A.putObj D (.deferred O)):=zn.putObj _ m f rfl;have j:=a.cell (c_ 0 d);exact⟨G false,by simp[results,results154,go_sem,j],false,rfl,(fun h=>by cases h),fun _=>⟨k,c,R _ _ _ b (a.mono om)⟩⟩
structure zac where
 m:WT
 l:WT
 h:WT
def zac.cells (c:zac):List Value:= [G c.m.b,c.m.sv,G c.l.b,c.l.sv,G c.h.b,c.h.sv]
structure RwV where
 s:ByteArray
 b:WT
 f:Nat
 ts:List WT
def RwV.fv (r:RwV):Value:=V (E (Xd r.f 0 O)) r.ts.length r.ts.length
def RwV.cells (r:RwV):List Value:= [gS r.s,G r.b.b,r.b.sv,r.fv]
structure zes (w:H)(r:RwV)(x:L_×U_×Int):Prop where
 sign:r.s=⟨x.2.1.toArray⟩
 len:r.ts.length=x.1.length
 most:zy w r.b.val x.2.2
 cell:∀(j:Nat) (t:WT),r.ts[j]? =E t->w.cell? ⟨r.f,j*2,O⟩=E (G t.b)/\w.cell? ⟨r.f,j*2+1,O⟩=E t.sv
 fac:∀(j:Nat) (t:WT) (z:Int),r.ts[j]? =E t->x.1[j]? =E z->zy w t.val z
structure PM (p:qF)(cs:List zac)(rs:List RwV)(bc gR:Nat)(ao ap:A_)(w:World):Prop where
 cl:cs.length=p.n
 rl:rs.length=p.rows.length
 hao:0<p.n->ao=some ⟨bc,0,none⟩
 hap:0<p.rows.length->ap=some ⟨gR,0,none⟩
 col:∀(i:Nat) (c:zac),cs[i]? =some c->∀(j:Nat) (u:Value),c.cells[j]? =some u->w.cell? ⟨bc,i*6+j,none⟩=some u
 colw:∀(i:Nat) (c:zac),cs[i]? =some c->zy w c.m.val (p.mx.getD i 0)/\zy w c.l.val (p.rg.getD i (0,0)).1/\zy w c.h.val (p.rg.getD i (0,0)).2
 row:∀(i:Nat) (r:RwV),rs[i]? =some r->∀(j:Nat) (u:Value),r.cells[j]? =some u->w.cell? ⟨gR,i*4+j,none⟩=some u
 roww:∀(i:Nat) (r:RwV) (x:L_×U_×Int),rs[i]? =some r->p.rows[i]? =some x->zes w r x
theorem zes.keep{r:RwV}{x:L_×U_×Int}(h:zes w r x)(a:zn B w w'):zes w' r x:=
 ⟨h.sign,h.len,h.most.keep a,fun j t b=>⟨a.cell (h.cell j t b).1,a.cell (h.cell j t b).2⟩,fun j t z b c=>(h.fac j t z b c).keep a⟩
theorem PM.keep{p:qF}{cs:List zac}{rs:List RwV}{d e:Nat}{c:A_}(h:PM p cs rs d e b c w)(a:zn B w w'):PM p cs rs d e b c w':=
 ⟨h.cl,h.rl,h.hao,h.hap,fun i c b j u d=>a.cell (h.col i c b j u d),fun i c b=>⟨(h.colw i c b).1.keep a,(h.colw i c b).2.1.keep a,(h.colw i c b).2.2.keep a⟩,fun i r b j u d=>a.cell (h.row i r b j u d),fun i r x b c=>(h.roww i r x b c).keep a⟩
theorem PM.ext{p:qF}{cs:List zac}{rs:List RwV}{c d:Nat}{a:A_}(h:PM p cs rs c d a b w)(e:Ext w w'):PM p cs rs c d a b w':=h.keep (B:=0) (zn.of_below e)
theorem zjJ{r:RwV}{x:L_×U_×Int}(h:zes w r x):Jt w.heap.size (fun W=>zes W r x):=by
 intro A B b c;exact⟨b.sign,b.len,zaw h.most A B b.most c,fun j t a=>⟨JU c (p:=⟨r.f,j*2,O⟩) (zw (h.cell j t a).1) (b.cell j t a).1,JU c (p:=⟨r.f,j*2+1,O⟩) (zw (h.cell j t a).2) (b.cell j t a).2⟩,fun j t z a d=>zaw (h.fac j t z a d) A B (b.fac j t z a d) c⟩
theorem zrj{p:qF}{cs:List zac}{rs:List RwV}{f:Nat}{a:A_}(h:PM p cs rs f g a b w):Jt w.heap.size (fun W=>PM p cs rs f g a b W):=by
 intro A B a d;exact⟨a.cl,a.rl,a.hao,a.hap,fun i c b j u e=>JU d (p:=⟨f,i*6+j,O⟩) (zw (h.col i c b j u e)) (a.col i c b j u e),fun i c b=>⟨zaw (h.colw i c b).1 A B (a.colw i c b).1 d,zaw (h.colw i c b).2.1 A B (a.colw i c b).2.1 d,zaw (h.colw i c b).2.2 A B (a.colw i c b).2.2 d⟩,fun i r b j u e=>JU d (p:=⟨g,i*4+j,O⟩) (zw (h.row i r b j u e)) (a.row i r b j u e),fun i r x b c=>zjJ (h.roww i r x b c) A B (a.roww i r x b c) d⟩
theorem zeD{a:Type}{P:Nat->a->Prop}:∀(n:Nat),(∀j,j<n->∃t,P j t)->∃ts:List a,ts.length=n/\∀(j:Nat) (t:a),ts[j]? =E t->P j t
 |0,_=>⟨[],rfl,fun j t h=>by simp at h⟩
 |n+1,h=>by
  obtain⟨ts,h1,h2⟩:=zeD n (fun j b=>h j om);obtain⟨t,c⟩:=h n om;refine⟨ts ++ [t],by simp[h1],fun j u a=>?_⟩;by_cases b:j<ts.length
  ·rw[zS b]at a;exact h2 j u a
  ·have b:=(zo.1 a).1;simp at b;have e:j=ts.length:=om;subst e;rw[zG (zh _)]at a;simp at a;subst a;rw[h1];exact c
theorem zrk{L:Nat}{p:qF}{e:Nat}{d I:Value}(c:DQ w e p d I)(a:zbU L p)(f:2+p.n<=L):∃cs rs l h b g cap s,d=V b p.n cap/\I=V g p.rows.length s/\PM p cs rs l h b g w:=by
 obtain⟨_,_⟩:=a.n om;have b:=a.m om;have b:p.rg.length=p.n:=by have:=a.g;omega
 rcases c.cols with ⟨_,_⟩|⟨l,_,rfl,_,d,a⟩
 ·omega
 obtain⟨x,z,b,o⟩:=zjv d a.1;obtain⟨rs,J,Y,Z⟩:=c.rows;obtain⟨cs,hc1,hc2⟩:∃cs:List zac,cs.length=p.n/\∀(i:Nat) (c:zac),cs[i]? =E c->(∀(j:Nat) (u:Value),c.cells[j]? =E u->w.cell? ⟨l,i*6+j,O⟩=E u)/\zy w c.m.val (p.mx.getD i 0)/\zy w c.l.val (p.rg.getD i (0,0)).1/\zy w c.h.val (p.rg.getD i (0,0)).2:=by
  refine zeD p.n fun i e=>?_
  obtain⟨Q,K,l0,U,k,m⟩:=b i 0 e om;obtain⟨R,M,l1,W,r,t⟩:=b i 1 e om;obtain⟨S,N,l2,X,v,y⟩:=b i 2 e om;have b:=o i 0 e om;have d:=o i 1 e om;have f:=o i 2 e om;have q:=fun j o=>z i j e o
  have z:=q 0 om;have A:=q 1 om;have B:=q 2 om;have C:=q 3 om;have D:=q 4 om;have F:=q 5 om;simp only[Ql,qt,jM,Nat.reduceMul,Nat.reduceAdd,qV]at k m r t v y b d f z A B C D F;rw[k,m]at b;rw[r,t]at d;rw[v,y]at f;rw[k]at z;rw[m]at A;rw[r]at B;rw[t]at C;rw[v]at D;rw[y]at F;rw[a.2.1 i om]at b;rw[(a.2.2 i om).1]at d;rw[(a.2.2 i om).2]at f;refine⟨⟨⟨Q,(K,l0,U)⟩,⟨R,(M,l1,W)⟩,⟨S,(N,l2,X)⟩⟩,fun j u a=>?_,b,d,f⟩;match j,a with
  |0,a=>cases a;exact z
  |1,a=>cases a;exact A
  |2,a=>cases a;exact B
  |3,a=>cases a;exact C
  |4,a=>cases a;exact D
  |5,a=>cases a;exact F
  |j+6,a=>simp[zac.cells]at a
 have D:∀(r:Jl) (x:L_×U_×Int) (T:Nat->Prop),RowIs w T r x->∃b:RwV,b.cells=r.cells/\zes w b x:=by
  rintro r x T ⟨_,k,A,B,C⟩;obtain⟨K,m,q⟩:=zeD (P:=fun j (t:WT)=>(w.cell? ⟨r.f,j*2,O⟩=E (G t.b)/\w.cell? ⟨r.f,j*2+1,O⟩=E t.sv)/\zy w t.val (x.1.getD j 0)) x.1.length (fun j o=>by
   obtain⟨z,y,F,c,d,f,v,_,_⟩:=A.2 j o;rw[Z5]at d f;exact⟨⟨z,(y,F,c)⟩,⟨d,f⟩,v⟩)
  refine⟨⟨r.s,⟨r.x,r.b⟩,r.f,K⟩,by simp[RwV.cells,Jl.cells,RwV.fv,WT.sv,m,k],B,m,C,fun j t m=>(q j t m).1,fun j t z m y=>?_⟩;have:=(q j t m).2;rw[zk,y]at this;exact this
 obtain⟨t,hr1,hr2⟩:∃t:List RwV,t.length=p.rows.length/\∀(i:Nat) (b:RwV),t[i]? =E b->∃r x,rs[i]? =E r/\p.rows[i]? =E x/\b.cells=r.cells/\zes w b x:=by
  refine zeD p.rows.length fun i e=>?_
  have m:rs[i]? =E rs[i]:=zg om;have k:=zg e;obtain⟨b,d,f⟩:=D _ _ _ (Z i _ _ m k);exact⟨b,_,_,m,k,d,f⟩
 obtain⟨g,s,h,hv,hap,hyc⟩:∃(g:A_) (s h:Nat),I=V g p.rows.length s/\(0<p.rows.length->g=E (Xd h 0 O))/\∀(i:Nat) (r:Jl),rs[i]? =E r->∀(j:Nat) (u:Value),r.cells[j]? =E u->w.cell? ⟨h,i*4+j,O⟩=E u:=by
  obtain⟨_,⟨d,f⟩|⟨y,cap,z,d,_,A,_,_,_,B⟩⟩:=Y;·exact⟨O,0,0,by rw[d,<-J,f],fun q=>om,fun i r q=>by have:=(zo.1 q).1;omega⟩
  ·refine⟨_,cap,y,by rw[d,J],fun _=>rfl,fun i r q j u a=>?_⟩;have o:j<4:=by have:=(zo.1 a).1;simpa[Jl.cells]using this
   have e:=(zo.1 q).1;have m:=zl6 rs i j r q o;rw[<-B,zaG om]at m;have k:w.cell? ⟨y,i*4+j,O⟩=z.toList[i*4+j]?:=by simp[World.cell?,A]
   rw[k,m];exact a
 subst hv;refine⟨cs,t,l,h,E (Xd l 0 O),g,p.n,s,rfl,rfl,⟨hc1,hr1,fun _=>rfl,hap,fun i c e=>(hc2 i c e).1,fun i c e=>(hc2 i c e).2,fun i b c j u a=>?_,fun i b x c e=>?_⟩⟩
 ·obtain⟨r,x,d,f,v,g⟩:=hr2 i b c;rw[v]at a;exact hyc i r d j u a
 ·obtain⟨r,_,d,f,v,g⟩:=hr2 i b c;rw[f]at e;cases e;exact g
def zn9 {w:H}{r:RwV}{x:L_×U_×Int}{bt:Nat}(h:zes w r x)(hn:r.ts.length<=100000)(hb:w.cell? (Xd bt 0 O)=E r.fv):zdT w 264 #[p_ bt 0] x.1 where
 Y:=fun k v W=>(zff (fun i j=>if j=0 then G (r.ts.getD i ⟨false,(O,0,0)⟩).b else(r.ts.getD i ⟨false,(O,0,0)⟩).sv) r.ts.length)[k]? =E v/\zes W r x
 C:=fun W=>W.cell? (Xd bt 0 O)=E r.fv/\zes W r x
 seq:=by
  have hs:=(zjX (fun i j=>if j=0 then G (r.ts.getD i ⟨false,(O,0,0)⟩).b else(r.ts.getD i ⟨false,(O,0,0)⟩).sv) (E (Xd r.f 0 O)) r.f r.ts.length r.ts.length bt (by omega) (fun _=>rfl)).seq;rw[zc3]at hs;rw[<-h.len];intro l J Jx M0 W h1 h2 h3 h4 h5;refine hs l J Jx M0 W h1 h2 (fun k M A hA=>⟨⟨(h3 k M A hA).1.1,fun i j hi hj=>?_⟩,(h3 k M A hA).2⟩) (fun k v M W1 hk hv hj=>h4 k v M W1 hk ⟨hv,(h3 k M W1 hj).1.2⟩ hj) h5;have hi':i<r.ts.length:=hi;have hg:=(h3 k M A hA).1.2.cell i _ (zg hi');have hgd:r.ts.getD i ⟨false,(O,0,0)⟩=r.ts[i]:=by rw[zk,zg hi'];rfl
  rw[hgd];match j,hj with
  |0,_=>exact hg.1
  |1,_=>exact hg.2
 ent:=qW Tryz.func264 (by kernel_rfl) rfl
 val:=by
  rintro k v W z hz ⟨hv,hr⟩;have hk:k<r.ts.length:=by have:=(zo.1 hv).1;rwa [zc3]at this
  rw[zf4 hk]at hv;have hgd:r.ts.getD k ⟨false,(O,0,0)⟩=r.ts[k]:=by rw[zk,zg hk];rfl
  rw[hgd]at hv;cases hv;exact⟨r.ts[k],rfl,hr.fac k _ z (zg hk) hz⟩
 one:=by
  rintro k v W ⟨hv,hr⟩;have hk:k<r.ts.length:=by have:=(zo.1 hv).1;rwa [zc3]at this
  rw[zf4 hk]at hv;cases hv;rfl
 now:=⟨hb,h⟩
 old:=Jp (JV (zw hb)) (zjJ h)
def zfY (rows:R_)(k:Nat)(v:W_)(W:H):Prop:=∃r:RW,v=#[r.val]/\∃y,rows[k]? =E y/\QG W r y
structure RwBox (b:Nat)(r:RwV)(x:L_×U_×Int)(W:H):Prop where
 c0:W.cell? (Xd b 0 O)=E (gS r.s)
 c1:W.cell? (Xd b 1 O)=E (G r.b.b)
 c2:W.cell? (Xd b 2 O)=E r.b.sv
 c3:W.cell? (Xd b 3 O)=E r.fv
 is:zes W r x
theorem zjK{d e f a b c:Value}(h:w.heap[g]? =E (cl #[d,e,f] t)):(((w.setCell (Xd g 0 O) a).setCell (Xd g 1 O) b).setCell (Xd g 2 O) c).heap[g]? =E (cl #[a,b,c] t):=by
 have d:=Xl (i:=0) (v:=a) h;have e:=Xl (i:=1) (v:=b) d;have d:=Xl (i:=2) (v:=c) e;exact d
theorem Wr.below'(h:Wr (fun q=>q=g) w w')(hg:W.heap.size<=g)(a:Ext W w):Below W.heap.size w w':=h.below a.size (fun k a=>om)
theorem zmQ(b:Nat)(r:RwV)(x:L_×U_×Int)(hsg:jO x.2.1=true)(hn:x.1.length<=100000):
 SeqQ pg 217 #[p_ b 0] (T.condRows x).length (zfY (T.condRows x)) (RwBox b r x):=by
 intro l J Jx M0 W hJ hJx hJ2 hJx2 hC hY h0;obtain⟨k0,k1,k2,k3,kr⟩:=(hC 0 M0 W h0).1;have HC:=zf hC;have HY:=zf hY;have hb:b<W.heap.size:=zw k0;obtain⟨rs,⟨rb,⟨ra,rl,rc⟩⟩,rf,ts⟩:=r;have hts:ts.length<=100000:=by rw[kr.len];exact hn
 have HRS:=zf (kr.sign:rs=⟨x.2.1.toArray⟩);have HOF:Hid (∀W1 bt,Ext W W1->W1.cell? (Xd bt 0 O)=E (RwV.fv ⟨rs,⟨rb,(ra,rl,rc)⟩,rf,ts⟩)->C_ 218 #[.func (.func 264) #[] #[p_ bt 0],ag #[G rb,V ra rl rc]] W1 fun e w'=>∃r:RW,e=Xa r.val/\QG w' r (x.1,x.2.2)/\b_ W1 w'):=by
  intro W1 bt hW hc;have kr1:=kr.keep (B:=0) (zn.of_below hW);refine(zfO W1 _ _ x.1 (zn9 kr1 hts hc) hn ⟨rb,(ra,rl,rc)⟩ x.2.2 kr1.most).mono ?_;rintro e w' ⟨r,h1,h2,h3,h4⟩;exact⟨r,h1,h2,h4⟩
 simp only[RwV.fv,WT.sv]at k1 k2 k3 HOF;have HK4:=zf (fun W' (hW:Ext W W')=>Xc (hW.cell k0) (Xc (hW.cell k1) (Xc (hW.cell k2) (hW.cell k3))));have HS3:Hid (x.2.1= [60,61]\/x.2.1= [62,61]\/x.2.1= [61]):=by
  unfold jO at hsg;rw[Hid];simpa using hsg
 clear hY hC kr hsg;refine zcW Tryz.func217 Tryz.ntmps217 (h:=?_);gi_wp2;refine wpIn_wide.2 ?_;go_region_held3 (fun W'=>W'.cell? (Xd b 0 O)=E (gS rs)/\W'.cell? (Xd b 1 O)=E (G rb)/\W'.cell? (Xd b 2 O)=E (V ra rl rc)/\W'.cell? (Xd b 3 O)=E (V (E (Xd rf 0 O)) ts.length ts.length)) (first|(exact HK4.out _ (by with_reducible first|assumption|exact Xz (by assumption)))|(exact HK4.out _ (x2.alloc _))|(exact HK4.out _ (x1.alloc _))|(have hK:=HK4.out w2 x2;exact⟨zcL (by omega) hK.1,zcL (by omega) hK.2.1,zcL (by omega) hK.2.2.1,zcL (by omega) hK.2.2.2⟩)|go_keep) (first|(go_at_call 218;have _g:=bxa;refine((HOF.out w1 _ x1 q1)).mono ?_;rintro e w2 ⟨⟨⟨ja,jl,jc⟩,⟨jb,⟨ka,kl,kc⟩⟩⟩,rfl,hrow,hb2⟩;simp only[RW.val,RW.fv,WT.sv];have x2:Ext W w2:=x1.trans (Xf hb2);have bx2:=((Xf hb2).block _ (zd.1 bxa).1).trans bxa;have g0:=ze _ _ 0 _ _ _ bx2;have g1:=ze _ _ 1 _ _ _ bx2;have g2:=ze _ _ 2 _ _ _ bx2;have f0:=Xh (j:=0) bx2;have f1:=Xh (j:=1) bx2;have f2:=Xh (j:=2) bx2;have l2:W.heap.size<w2.heap.size:=(zd.1 bx2).1)|(go_at_call 218;have _g:=nox;refine((HOF.out (w1.alloc (cl #[V_,G false,V_] 104)) _ (x1.alloc _) (zee q1))).mono ?_;rintro e w2 ⟨⟨⟨ja,jl,jc⟩,⟨jb,⟨ka,kl,kc⟩⟩⟩,rfl,hrow,hb2⟩;simp only[RW.val,RW.fv,WT.sv];have x2:Ext W w2:=(x1.alloc _).trans (Xf hb2);have bxb:=zC w1 (cl #[V_,G false,V_] 104);have bx2:=((Xf hb2).block _ (zd.1 bxb).1).trans bxb;have g0:=ze _ _ 0 _ _ _ bx2;have g1:=ze _ _ 1 _ _ _ bx2;have g2:=ze _ _ 2 _ _ _ bx2;have f0:=Xh (j:=0) bx2;have f1:=Xh (j:=1) bx2;have f2:=Xh (j:=2) bx2;have l2:w1.heap.size<w2.heap.size:=(zd.1 bx2).1)|(go_at_call 218;have _g:=nox;refine((HOF.out w1 _ x1 q1)).mono ?_;rintro e w2 ⟨⟨⟨ja,jl,jc⟩,⟨jb,⟨ka,kl,kc⟩⟩⟩,rfl,hrow,hb2⟩;simp only[RW.val,RW.fv,WT.sv];have x2:Ext W w2:=x1.trans (Xf hb2);have noy:=trivial)|(go_at_call 219;refine((zi8 rs rb ra rl rc (E (Xd rf 0 O)) ts.length ts.length _)).mono ?_;rintro e w1 ⟨rfl,hw1⟩;have bxa:w1.heap[W.heap.size]? =E (cl #[V_,G false,V_] 104):=(by rw[hw1];exact(qH _ _ _ (by simp;omega)).trans ((qH _ _ _ (by simp)).trans (zC W _)));have x1:Ext W w1:=(by rw[hw1];exact((((Xe W).alloc _).drew).alloc _).alloc _);have q1:w1.cell? (w_ W 0)=E (V (E (Xd rf 0 O)) ts.length ts.length):=(by rw[hw1];first|exact ze _ _ 0 _ _ _ (Xk _ _ _).2|simpa using ze _ _ 0 _ _ _ (Xk (W.alloc (cl #[V_,G false,V_] 104)).drew (cl #[gS rs,G rb,V ra rl rc,V (E (Xd rf 0 O)) ts.length ts.length] 234) (cl #[V (E (Xd rf 0 O)) ts.length ts.length] 100)).2);have hb1:=zK hb x1.size;have z1:=x1.cell k1;have z2:=x1.cell k2;clear hw1)|(go_at_call 219;refine((zi8 rs rb ra rl rc (E (Xd rf 0 O)) ts.length ts.length _)).mono ?_;rintro e w1 ⟨rfl,hw1⟩;have nox:=trivial;have x1:Ext W w1:=(by rw[hw1];exact((Xe W).drew.alloc _).alloc _);have q1:w1.cell? (x_ W 0)=E (V (E (Xd rf 0 O)) ts.length ts.length):=(by rw[hw1];first|exact ze _ _ 0 _ _ _ (Xk _ _ _).2|simpa using ze _ _ 0 _ _ _ (Xk (W.alloc (cl #[V_,G false,V_] 104)).drew (cl #[gS rs,G rb,V ra rl rc,V (E (Xd rf 0 O)) ts.length ts.length] 234) (cl #[V (E (Xd rf 0 O)) ts.length ts.length] 100)).2);have hb1:=zK hb x1.size;have z1:=x1.cell k1;have z2:=x1.cell k2;clear hw1))
 all_goals first|(have _m:=bxa;have hgW:W.heap.size<=W.heap.size:=(by first|exact zh _|exact x1.size);have hw:Wr (fun q=>q=W.heap.size) w2 (((w2.setCell (y_ W 0) (V ja jl jc)).setCell (y_ W 1) (G jb)).setCell (y_ W 2) (V ka kl kc)):=zce rfl _ _ _;have x9:Ext W (((w2.setCell (y_ W 0) (V ja jl jc)).setCell (y_ W 1) (G jb)).setCell (y_ W 2) (V ka kl kc)):=Qg x2 (hw.below' hgW x2);have hrow9:=QG.wr hrow hw (fun q hq=>by subst hq;exact⟨fun ht=>absurd (ht.one ⟨_,_,bx2⟩) (by decide),zE bx2 (by intro u hu;simp at hu;rcases hu with rfl|rfl|rfl<;>(intro n e;cases e))⟩);have e9:=zjK (a:=V ja jl jc) (b:=G jb) (c:=V ka kl kc) bx2;clear hw bx2 g0 g1 g2 f0 f1 f2 l2 hrow hb2;generalize (((w2.setCell (y_ W 0) (V ja jl jc)).setCell (y_ W 1) (G jb)).setCell (y_ W 2) (V ka kl kc))=W9 at *;generalize hg9:W.heap.size=g9 at *)|(have _m:=bxb;have hgW:=(by first|exact zh _|exact x1.size);have hw:Wr (fun q=>q=w1.heap.size) w2 (((w2.setCell (y_ w1 0) (V ja jl jc)).setCell (y_ w1 1) (G jb)).setCell (y_ w1 2) (V ka kl kc)):=zce rfl _ _ _;have x9:Ext W (((w2.setCell (y_ w1 0) (V ja jl jc)).setCell (y_ w1 1) (G jb)).setCell (y_ w1 2) (V ka kl kc)):=Qg x2 (hw.below' hgW x2);have hrow9:=QG.wr hrow hw (fun q hq=>by subst hq;exact⟨fun ht=>absurd (ht.one ⟨_,_,bx2⟩) (by decide),zE bx2 (by intro u hu;simp at hu;rcases hu with rfl|rfl|rfl<;>(intro n e;cases e))⟩);have e9:=zjK (a:=V ja jl jc) (b:=G jb) (c:=V ka kl kc) bx2;clear hw bx2 g0 g1 g2 f0 f1 f2 l2 hrow hb2;generalize (((w2.setCell (y_ w1 0) (V ja jl jc)).setCell (y_ w1 1) (G jb)).setCell (y_ w1 2) (V ka kl kc))=W9 at *;generalize hg9:w1.heap.size=g9 at *)|(have _m:=noy;have hgW:=x2.size;have x9:Ext W (w2.alloc (cl #[V ja jl jc,G jb,V ka kl kc] 104)):=x2.alloc _;have hrow9:=hrow.ext ((Xe w2).alloc (cl #[V ja jl jc,G jb,V ka kl kc] 104));have e9:=zC w2 (cl #[V ja jl jc,G jb,V ka kl kc] 104);clear hrow hb2;generalize World.alloc _ _=W9 at *;generalize hg9:w2.heap.size=g9 at *)
 all_goals
  have hg9M:¬M0 g9:=fun h=>by have:=((HC.out 0 M0 W h0).2 _ h).1;omega
  have hj9:=hJ _ _ _ _ h0 (zn.of_below x9);have HMN:=zf (fun k hk=>((HC.out 0 M0 W9 hj9).2 k hk).2);have d0:=ze _ _ 0 _ _ _ e9;have d1:=ze _ _ 1 _ _ _ e9;have d2:=ze _ _ 2 _ _ _ e9;have HTN:=zf (fun(WX:H) (hr:QG WX ⟨(ja,jl,jc),⟨jb,(ka,kl,kc)⟩⟩ (x.1,x.2.2))=>zg1 WX _ _ hr hn);simp only[RW.val,RW.fv,WT.sv]at HTN;have HRK:=zf (fun(WX:H) (hx:WX.heap[g9]? =E (Obj.cells #[V ja jl jc,G jb,V ka kl kc] 104))=>Xc (ze _ _ 0 _ _ _ hx) (Xc (ze _ _ 1 _ _ _ hx) (ze _ _ 2 _ _ _ hx)));have c0:=x9.cell k0;clear k0 k1 k2 k3 HK4 HOF;rcases HS3.out with hs|hs|hs
  ·have hcr:T.condRows x= [(x.1,x.2.2)]:=by unfold T.condRows;rw[hs];rfl
   have HCR:=zf hcr;have hr0:rs=⟨#[60,61]⟩:=by rw[HRS.out,hs]
   subst hr0;have HYD:=zf (HY.out 0 _ M0 W9 (by rw[hcr];simp) ⟨_,rfl,_,by rw[hcr];rfl,hrow9⟩ hj9);simp only[RW.val,RW.fv,WT.sv]at HYD;clear hcr hs hrow9 hj9 e9;gi_wp2;refine jr HYD.out ?_ ?_
   ·rintro W5 ⟨hw5,M5,hj5,-⟩;have c5:=(HC.out _ M5 W5 hj5).1.c0;clear c0;gi_wp2;go_end0
    rw[HCR.out];exact⟨⟨_,rfl⟩,.inl ⟨M5,hj5⟩⟩
   ·rintro W5 ⟨hw5,hj5⟩;gi_wp2;refine zH (qI rfl _ _ _) rfl ?_;rw[HCR.out];exact⟨⟨_,rfl⟩,.inr ⟨0,by simp,hj5⟩⟩
  ·have hcr:T.condRows x= [(x.1.map fun z=>-z,-x.2.2)]:=by unfold T.condRows;rw[hs];rfl
   have HCR:=zf hcr;have hr0:rs=⟨#[62,61]⟩:=by rw[HRS.out,hs]
   subst hr0;have HT9:=zf (HTN.out W9 hrow9);clear hcr hs hrow9;gi_wp2;refine(zq.2 HT9.out).mono ?_;rintro e W4 ⟨⟨⟨ia,il,ic⟩,⟨ub,⟨ua,ul,uc⟩⟩⟩,rfl,hr4,-,hb4⟩;have HYD:=zf (HY.out 0 _ M0 W4 (by rw[HCR.out];simp) ⟨_,rfl,_,by rw[HCR.out];rfl,hr4⟩ (hJ _ _ _ _ hj9 (zn.of_below hb4)));simp only[RW.val,RW.fv,WT.sv]at HYD⊢;gi_wp2;refine jr HYD.out ?_ ?_
   ·rintro W5 ⟨hw5,M5,hj5,-⟩;gi_wp2;go_end0
    rw[HCR.out];exact⟨⟨_,rfl⟩,.inl ⟨M5,hj5⟩⟩
   ·rintro W5 ⟨hw5,hj5⟩;gi_wp2;go_end0
    rw[HCR.out];exact⟨⟨_,rfl⟩,.inr ⟨0,by simp,hj5⟩⟩
  ·have hcr:T.condRows x= [(x.1,x.2.2),(x.1.map fun z=>-z,-x.2.2)]:=by unfold T.condRows;rw[hs];rfl
   have HCR:=zf hcr;have hr0:rs=⟨#[61]⟩:=by rw[HRS.out,hs]
   subst hr0;have HYD:=zf (HY.out 0 _ M0 W9 (by rw[hcr];simp) ⟨_,rfl,_,by rw[hcr];rfl,hrow9⟩ hj9);simp only[RW.val,RW.fv,WT.sv]at HYD;clear hcr hs hj9;gi_wp2;refine jr HYD.out ?_ ?_
   ·rintro W5 ⟨hw5,M5,hj5,hM5⟩;have c5:=(HC.out _ M5 W5 hj5).1.c0;have hrow5:QG W5 ⟨(ja,jl,jc),⟨jb,(ka,kl,kc)⟩⟩ (x.1,x.2.2):=⟨hrow9.1.wrN hw5 HMN.out,hrow9.2.wrN hw5 HMN.out⟩;have e5:=hw5.some e9 hg9M;obtain⟨p0,p1,p2⟩:=HRK.out W5 e5;have HT9:=zf (HTN.out W5 hrow5);clear c0 hrow9 hrow5 d0 d1 d2;gi_wp2;refine(zq.2 HT9.out).mono ?_;rintro e W6 ⟨⟨⟨ia,il,ic⟩,⟨ub,⟨ua,ul,uc⟩⟩⟩,rfl,hr4,-,hb4⟩;have HYE:=zf (HY.out 1 _ M5 W6 (by rw[HCR.out];simp) ⟨_,rfl,_,by rw[HCR.out];rfl,hr4⟩ (hJ _ _ _ _ hj5 (zn.of_below hb4)));simp only[RW.val,RW.fv,WT.sv]at HYE⊢;gi_wp2;refine jr HYE.out ?_ ?_
    ·rintro W7 ⟨hw7,M7,hj7,-⟩;gi_wp2;go_end0
     rw[HCR.out];exact⟨⟨_,rfl⟩,.inl ⟨M7,hj7⟩⟩
    ·rintro W7 ⟨hw7,hj7⟩;gi_wp2;go_end0
     rw[HCR.out];exact⟨⟨_,rfl⟩,.inr ⟨1,by simp,hj7⟩⟩
   ·rintro W5 ⟨hw5,hj5⟩;gi_wp2;refine zH (qI rfl _ _ _) rfl ?_;rw[HCR.out];exact⟨⟨_,rfl⟩,.inr ⟨0,by simp,hj5⟩⟩
theorem zaa.type{b:Nat}(h:zaa B W b)(hi:t≠3)(hb:t≠4):¬qQ W b t:=by
 intro a;rcases h.2 with ⟨x,c,e⟩|⟨x,c,e⟩
 ·exact hi (a.one ⟨_,_,e⟩)
 ·exact hb (a.one ⟨_,_,e⟩)
theorem zaa.dig{b:Nat}(h:zaa B W b):qK W b:=by
 rcases h.2 with ⟨x,a,e⟩|⟨x,a,e⟩
 ·exact zE e n1
 ·exact zE e n1
theorem zaa.num{b:Nat}(h:zaa B W b):¬qQ W b 64/\qK W b:=⟨h.type dc dc,h.dig⟩
theorem Grw.priv{C:Nat}{size:Nat}{v:Value}{a:List (List Value)}(h:Grw B t size w v a)(b:Wr (zaa C w) w w')(hi:t≠3)(hb:t≠4):Grw B t size w' v a:=
 h.same b.size (fun g a=>b.block g (h.type g a).1.lt (fun e=>e.type hi hb (h.type g a).1))
