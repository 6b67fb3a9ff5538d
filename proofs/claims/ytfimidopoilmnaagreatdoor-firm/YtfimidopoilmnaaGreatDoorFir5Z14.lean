import Derived.Test.YtfimidopoilmnaaGreatDoorFir5Z12
open Option renaming none->O,some->E
open Go.Value renaming slice->V,bool->G,string->gS,pointer->pn,int->it,agg->ag
open Go.Obj renaming cells->cl
open Go renaming World->H
open Go.Proofs.Tryz renaming prog->pg
open Go.Proofs.Tryz
open Go.Ending renaming returned->Xa
open Go.IntKind renaming i64->Xb
open Go.Addr renaming mk->Xd
set_option linter.unusedSimpArgs false
set_option linter.unusedVariables false
set_option maxHeartbeats 4000000
set_option maxRecDepth 100000
namespace Go.Proofs.YtfimidopoilmnaaGreatDoor
open Go.RowKit
attribute [local go_sem] zD zW qJ
variable {B g k n:Nat}{W w w':H}{b:Option Addr}{es:List Edg}{t:TypeId}
def listSeq {w:H}{fa:Option Addr}{fc:Nat}{zs:List Int}{ts:List WT}{bt:Nat}(hn:zs.length<=1000000)(h1:ts.length=zs.length)(h2:ZS w 75 (V fa ts.length fc) 2 (ts.map WT.cells))(h3:∀(i:Nat) (t:WT) (z:Int),ts[i]? =E t->zs[i]? =E z->zy w t.val z)
 (hs:w.cell? (Xd bt 0 O)=E (V fa ts.length fc)):zdT w 172 #[pn (E (Xd bt 0 O))] zs where
 Y:=fun k v W=>(∃t,ts[k]? =E t/\v=#[t.val])/\∀(i:Nat) (t:WT) (z:Int),ts[i]? =E t->zs[i]? =E z->zy W t.val z
 C:=fun W=>W.cell? (Xd bt 0 O)=E (V fa ts.length fc)/\ZS W 75 (V fa ts.length fc) 2 (ts.map WT.cells)/\∀(i:Nat) (t:WT) (z:Int),ts[i]? =E t->zs[i]? =E z->zy W t.val z
 seq:=by
  have hq:=JO ts fa fc bt (by omega);rw[<-h1];intro l J Jx M0 W g1 g2 g3 g4 g5;exact hq l J Jx M0 W g1 g2 (fun k M A hA=>⟨⟨(g3 k M A hA).1.1,(g3 k M A hA).1.2.1.recs⟩,(g3 k M A hA).2⟩) (fun k v M W1 hk hv hj=>g4 k v M W1 hk ⟨hv,(g3 k M W1 hj).1.2.2⟩ hj) g5
 ent:=qW Tryz.func172 (by kernel_rfl) rfl
 val:=by
  rintro k v W x hx ⟨⟨t,ht,rfl⟩,hall⟩;exact⟨t,rfl,hall k t x ht hx⟩
 one:=by
  rintro k v W ⟨⟨t,ht,rfl⟩,hall⟩;rfl
 now:=⟨hs,h2,h3⟩
 old:=Jp (JV (zw hs)) (Jp (zf5 h2) (za2 fun i=>za2 fun t=>za2 fun z=>fun A B hA hh ht hz=>zaw (h3 i t z ht hz) A B (hA ht hz) hh))
theorem zjI(w:H)(fa:Option Addr)(fl fc:Nat)(zs:List Int)(h:Zo w (V fa fl fc) zs)(d:zs.length<=100000)(a:Nat)(hs:w.cell? (Xd a 0 O)=E (V fa fl fc)):
 Calls pg 148 #[.func (.func 172) #[] #[pn (E (Xd a 0 O))]] w fun e w'=>∃f:Option Addr×Nat×Nat,e=Xa (sl3 f)/\Zo w' (sl3 f) zs/\Below w.heap.size w w':=by
 obtain⟨_,b,a,c⟩:=h;obtain⟨_,_,e⟩:=a.shape;rw[zm]at e;simp only[qp]at e;obtain⟨rfl,rfl,rfl⟩:=e;have q:=listSeq om b a c hs;refine(zg0 _ _ zs q.Y q.C q.seq q.ent q.val q.one d w q.now q.old).mono ?_;rintro e a ⟨_,g,rfl,b,a,c,_,d⟩;obtain⟨i,j,rfl⟩:=a.shape;exact⟨(i,_,j),rfl,⟨g,b,a,c⟩,d⟩
def jx (aims:List Int)(bs:List qO):List Edg:=bs.filterMap fun b=>if 0<Qx (qT aims b.1.1)then E (⟨b.1,b.2,b.1.1⟩:Edg)else O
theorem zrg{aims:List Int}{a:List qO}{b:qO}(h:a[k]? =E b)(hs:0<Qx (qT aims b.1.1)):(jx aims (a.take (k+1))).length=(jx aims (a.take k)).length+1/\(jx aims a)[(jx aims (a.take k)).length]? =E ⟨b.1,b.2,b.1.1⟩:=by
 have c:=jQ h;have d:a.take (k+1)=a.take k ++ [b]:=by rw[ZB,h];rfl
 have c:jx aims (a.take (k+1))=jx aims (a.take k) ++ [⟨b.1,b.2,b.1.1⟩]:=by
  rw[d];unfold jx;rw[zdD];simp[hs]
 have d:jx aims a=jx aims (a.take (k+1))++jx aims (a.drop (k+1)):=by
  unfold jx;rw[<-zdD,zbp]
 refine⟨by rw[c];simp,?_⟩;rw[d,c,Zl,zG (zh _),Qn];rfl
theorem zrh{aims:List Int}{a:List qO}{b:qO}(h:a[k]? =E b)(hs:¬0<Qx (qT aims b.1.1)):jx aims (a.take (k+1))=jx aims (a.take k):=by
 have c:a.take (k+1)=a.take k ++ [b]:=by rw[ZB,h];rfl
 rw[c];unfold jx;rw[zdD];simp[hs]
def ptF (es:List Edg)(n k:Nat):List Int:=(es.take k).foldl (fun pt e=>ZJ 1 pt 1 e.loss e.row.2) (List.replicate n 0)
theorem zmb{e:Edg}(h:es[k]? =E e):ptF es n (k+1)=ZJ 1 (ptF es n k) 1 e.loss e.row.2:=by
 unfold ptF;rw[ZB,h];simp
theorem znb{es:List Edg}{D:Nat}(h:∀e∈es,e.loss.length=n/\Zu D e.loss/\Lim D e.row.2):∀k,k<=es.length->(ptF es n k).length=n/\Zu (k*(D*D)) (ptF es n k)
 |0,_=>by
  refine⟨by simp[ptF],fun z a=>?_⟩;have:z=0:=by simpa[ptF]using (zaB (by simpa[ptF]using a):z=0)
  rw[this];exact Xp _
 |k+1,b=>by
  have d:=zg (show k<es.length by omega);obtain⟨b,c⟩:=znb h k om;obtain⟨f,g,i⟩:=h _ (zJ (show k<es.length by omega));rw[zmb d];generalize es[k]=e at *;refine⟨by rw[zhF (by rw[b,f]),b],fun z a=>?_⟩;unfold ZJ at a;obtain⟨_,b,rfl⟩:=qM a;rw[zbX];rw[jY]at b;refine(zgn (zh 1) (((c _ (zJ om)).mul (Xo (zh 1))).add ((g _ (zJ om)).mul i))).mono (jm ?_);rw[Zg,jM,Jv]
def FiI (w1:H)(b0 g:Nat)(av ov:Option Addr×Nat×Nat)(aims:List Int)(bs:List qO)(k:Nat)(M:Nat->Prop)(A:H):Prop:=
 k<=bs.length/\ExI w1 b0 g av ov (O,0,0) (jx aims bs) (jx aims (bs.take k)).length M A
def PtI (w2:H)(D1 g:Nat)(av ov ev:Option Addr×Nat×Nat)(es:List Edg)(n:Nat)(k:Nat)(M:Nat->Prop)(A:H):Prop:=
 Wr (fun b=>b=g) w2 A/\(∃pv:Option Addr×Nat×Nat,A.heap[g]? =E (cl #[sl3 av,sl3 ov,sl3 pv,sl3 ev] 125)/\Zo A (sl3 pv) (ptF es n k))/\A.heap[D1]? =E (.deferred (E []))/\∀b,M b↔b=g
theorem ExI.more2{w1 A A2 X3 A8:H}{h:Nat}{w ov pv:Option Addr×Nat×Nat}{M:Nat->Prop}{v:Value}{a:List ET}{u:ET}{e:Edg}{g8 cap8:Nat}{o:Obj}(C:a.length=k)(m:GrJ 192 5 125 (fun v=>#[sl3 w,sl3 ov,sl3 pv,v]) ET.cells w1 h g g v a M A)(L:∀(i:Nat) (u:ET) (e:Edg),a[i]? =E u->es[i]? =E e->zbY A u e)(p:zn w1.heap.size A A2)(q:Ext A2 X3)(P:g<w1.heap.size)(y:es[k]? =E e)(S:zbY X3 u e)(own:A8.ownsRow h 192 5 (V (E (Xd g8 0 O)) (a.length+1) cap8) (a.length+1) ((a.map ET.cells).flatten++u.cells))(grow:(X3.alloc o).grownBy A8 v.ownBlock)(J:v.ownBlock=E g8\/(X3.alloc o).heap.size<=g8)(dig:qK A8 g8):
 Wr M A2 (A8.setCell (Xd g 3 O) (V (E (Xd g8 0 O)) (a.length+1) cap8))/\∃d,ExI w1 h g w ov pv es (k+1) d (A8.setCell (Xd g 3 O) (V (E (Xd g8 0 O)) (a.length+1) cap8))/\∀x,d x->M x\/A.heap.size<=x:=by
 have D:Wr (fun c=>A.heap.size<=c) A2 (X3.alloc o):=Xf (q.alloc o);obtain⟨s,d,X,Y⟩:=m.more (j:=3) p D P own rfl grow J dig rfl;have R:∃f W l,v=V f W l:=by obtain⟨f,l,K⟩:=m.2.2.1.shape;exact⟨f,_,l,K⟩
 have z:∀c,M c->¬qQ (X3.alloc o) c 75/\qK (X3.alloc o) c:=fun c N=>by
  obtain⟨Z,q2⟩:=(m.fresh p D).far (zm7 R) c N;refine⟨fun b=>?_,Z⟩;rcases q2 with t|t
  ·exact absurd (b.one t) dc
  ·exact absurd (b.one t) dc
 refine⟨(Xf (q.alloc o)).trans s,d,⟨jQ y,_,a ++ [u],by rw[zM,C];rfl,X,fun i F I b r=>?_⟩,Y⟩;by_cases Q:i<a.length
 ·rw[zS Q]at b;exact(((L i F I b r).keep p).ext (q.alloc o)).wr s z
 ·have B:i=a.length:=by
   have:=(zo.1 b).1;rw[zM,ZH]at this;omega
  rw[B,zG (zh _),Qn]at b;have T:u=F:=by simpa using b
  rw[B,C,y]at r;have U:e=I:=by simpa using r
  subst T U;exact(S.ext ((Xe X3).alloc o)).wr s z
theorem zri(a b:Option Addr)(n cap m c:Nat)(z:Int)(w:H):
 Calls pg 147 #[ag #[V a n cap,V b m c],it Xb z] w fun e w'=>e=Xa (.func (.func 232) #[] #[pn (E (Xd w.heap.size 0 O)),pn (E ⟨w.heap.size+1,0,O⟩)])/\w'=(w.alloc (cl #[V a n cap,V b m c] 61)).alloc (cl #[it Xb z] 3):=by
 go_enter func147,ntmps147
 go_wp2;go_ret;exact⟨rfl,rfl⟩
theorem zmc(a b:Option Addr)(n cap m c:Nat)(w:H)(d:n<=100000):
 Calls pg 39 #[ag #[V a n cap,V b m c]] w fun e w'=>e=Xa (it Xb (n:Nat))/\w'=w.alloc (cl #[V a n cap,V b m c] 61):=by
 go_enter func39,ntmps39
 go_wp2;go_ret;exact⟨rfl,rfl⟩
def UnitY (j:Nat)(k:Nat)(v:Array Value)(W:H):Prop:=∃t:WT,v=#[t.val]/\zy W t.val (if k=j then 1 else 0)
theorem zpv(a b:Option Addr)(n cap m d j e c:Nat)(r:n<=100000):
 Ja pg 232 #[pn (E (Xd e 0 O)),pn (E (Xd c 0 O))] n (UnitY j) (fun W=>W.cell? (Xd e 0 O)=E (V a n cap)/\W.cell? (Xd e 1 O)=E (V b m d)/\W.cell? (Xd c 0 O)=E (it Xb (j:Nat))):=by
 intro l J e f W A e e i g;obtain⟨k,p,q⟩:=(e 0 f W g).1;have l:=zf e;have I:=zf i;have o:=zf (fun W (z:Nat) (s:z<2)=>zjP W z om);clear i e;refine zcW func232 ntmps232 (h:=?_);gi_wp2;refine(zq.2 (zmc a b n cap m d W r)).mono ?_;rintro t e ⟨rfl,rfl⟩;have e:=A _ _ _ _ g (zn.alloc W.heap.size W (cl #[V a n cap,V b m d] 61));have g:W.heap.size<=(W.alloc (cl #[V a n cap,V b m d] 61)).heap.size:=sp;clear k p q;gi_wp2;gi_loopw [8] (fun i wr=>∃(k:Nat) (M:Nat->Prop),i=it Xb (k:Int)/\k<=n/\J k M wr/\W.heap.size<=wr.heap.size) (fun i _=>n-(intOf i).toNat)
 case atStart=>exact⟨0,f,rfl,qo _,e,g⟩
 case round=>
  obtain⟨k,M,rfl,_,v,_⟩:=hrel;by_cases d:k<n
  ·have b:=(l.out k M wr v).1.2.2;have e:c<wr.heap.size:=zw b;gi_wp2;refine(zq.2 (o.out _ 0 om)).mono ?_;rintro t a ⟨_,rfl,C,u⟩;obtain⟨⟨g,f,l,i⟩,rfl⟩:=C.shape;simp only[WT.val,WT.sv]at C⊢;have s:Ext wr (a.alloc (cl #[G g,V f l i] 75)):=(Xh u).alloc _;have p:=s.cell b;have p:=(Xh u).cell b;have b:=zK e u.size;have F:=zC a (cl #[G g,V f l i] 75);by_cases w:k=j
   ·have N:((k:Int) == (j:Int))=true:=by simp[w]
    have L:=zf w;clear w;gi_wp2;refine(zq.2 (o.out _ 1 om)).mono ?_;rintro t b ⟨_,rfl,x,K⟩;obtain⟨⟨p,o,r,q⟩,rfl⟩:=x.shape;simp only[WT.val,WT.sv]at x⊢;have y:Ext (a.alloc (cl #[G g,V f l i] 75)) b:=Xh K;have e:=(y.block _ (zd.1 F).1).trans F;have c:=c_ 0 e;have c:=c_ 1 e;have c:=Xg (j:=0) e;have c:=Xg (j:=1) e;have D:Wr (fun c=>c=a.heap.size) b ((b.setCell (Xd a.heap.size 0 O) (G p)).setCell (Xd a.heap.size 1 O) (V o r q)):=(zv (U:=fun c=>c=a.heap.size) rfl _).trans (zv (U:=fun c=>c=a.heap.size) rfl _);have B:=Qg (s.trans y) (D.below (by have:=(s.trans y).size;omega) (fun c J=>by have:=u.size;omega));have u:=zf B.size;have z:=zf (I.out k #[ag #[G p,V o r q]] M ((b.setCell (Xd a.heap.size 0 O) (G p)).setCell (Xd a.heap.size 1 O) (V o r q)) d ⟨⟨p,o,r,q⟩,rfl,by
     rw[zQ L.out];exact x.wr D (fun c J=>by rw[J];exact zE e (by intro b b;simp at b;rcases b with rfl|rfl<;>(intro n t;cases t)))⟩ (A _ _ _ _ v (zn.of_below B)))
    clear B D e y K x;gi_wp2;refine jr z.out ?_ ?_
    ·rintro e ⟨o,c,b,_⟩;gi_wp2;go_roundw
     case rel=>exact⟨k+1,c,sp,d,b,by have:=o.size;have:=u.out;omega⟩
     case measure=>simp[intOf];omega
    ·intro e b;gi_wp2;refine zH (qI rfl _ _ _) rfl ?_;exact⟨⟨_,rfl⟩,.inr ⟨k,d,b.2⟩⟩
   ·have N:((k:Int) == (j:Int))=false:=by
     rw[ZN];omega
    have u:=zf s.size;have z:=zf (I.out k #[ag #[G g,V f l i]] M (a.alloc (cl #[G g,V f l i] 75)) d ⟨⟨g,f,l,i⟩,rfl,by
     rw[zO w];exact C.below ((Xe a).alloc _)⟩ (A _ _ _ _ v (zn.of_below s)))
    clear F;gi_wp2;refine jr z.out ?_ ?_
    ·rintro e ⟨o,c,b,_⟩;gi_wp2;go_roundw
     case rel=>exact⟨k+1,c,sp,d,b,by have:=o.size;have:=u.out;omega⟩
     case measure=>simp[intOf];omega
    ·intro e b;gi_wp2;refine zH (qI rfl _ _ _) rfl ?_;exact⟨⟨_,rfl⟩,.inr ⟨k,d,b.2⟩⟩
  ·gi_wp2;go_end0
   have a:k=n:=om;subst a;exact⟨⟨_,rfl⟩,.inl ⟨M,v⟩⟩
def ColY (zs:List Int)(lo hi:Int)(k:Nat)(v:Array Value)(W:H):Prop:=∃r:RW,v=#[r.val]/\QG W r (if k=0 then(zs,hi)else(zs.map (fun z=>-z),-lo))
structure ColC (ga:Nat)(lba:Array Value)(ba bc:Nat)(tl th:WT)(zs:List Int)(lo hi:Int)(W:H):Prop where
 fn:W.cell? (Xd ba 0 O)=E (.func (.func ga) #[] lba)
 c2:W.cell? (Xd bc 2 O)=E (G tl.b)
 c3:W.cell? (Xd bc 3 O)=E tl.sv
 c4:W.cell? (Xd bc 4 O)=E (G th.b)
 c5:W.cell? (Xd bc 5 O)=E th.sv
 low:zy W tl.val lo
 high:zy W th.val hi
 seq:Nonempty (zdT W ga lba zs)
theorem zn6(c:Nat)(k:Array Value)(x y:Nat)(l J:WT)(zs:List Int)(lo e:Int)(C:zs.length<=100000):
 Ja pg 231 #[pn (E (Xd x 0 O)),pn (E (Xd y 0 O))] 2 (ColY zs lo e) (ColC c k x y l J zs lo e):=by
 intro a4 a2 Jx v W d a3 B R A;obtain⟨k0,k2,g,k4,i,D,F,⟨j⟩⟩:=(B 0 v W A).1;have K:=zf B;have s:=zf R;have o:=zf (fun W (ws:zdT W c k zs) m mz hm=>zfO W c k zs ws C m mz hm);obtain⟨_,_,_,_⟩:=l;obtain⟨_,_,_,_⟩:=J;simp only[WT.sv]at g i;have p:=zf (o.out W j _ e F);simp only[WT.val,WT.sv]at p;refine zcW func231 ntmps231 (h:=?_);gi_wp2;refine(zq.2 p.out).mono ?_;rintro z M ⟨⟨⟨fa,_,_⟩,⟨_,⟨_,l,_⟩⟩⟩,rfl,X,-,S⟩;have t:=zf (s.out 0 _ v M om ⟨_,rfl,by rw[zQ rfl];exact X⟩ (d _ _ _ _ A (zn.of_below S)));simp only[RW.val,RW.fv,WT.sv]at t⊢;gi_wp2;refine jr t.out ?_ ?_
 ·rintro b ⟨a0,w,a,-⟩;obtain⟨k0,k2,g,k4,i,D,F,⟨j⟩⟩:=(K.out 1 w b a).1;have q:=zf (o.out b j _ lo D);simp only[WT.val,WT.sv]at q g i;gi_wp2;refine(zq.2 q.out).mono ?_;rintro z N ⟨I,rfl,Y,-,T⟩;have r:=zf (zg1 N I (zs,lo) Y C);obtain⟨⟨_,_,_⟩,⟨_,⟨_,sl,_⟩⟩⟩:=I;simp only[RW.val,RW.fv,WT.sv]at r⊢;gi_wp2;refine(zq.2 r.out).mono ?_;rintro z P ⟨⟨⟨_,_,_⟩,⟨_,⟨_,_,_⟩⟩⟩,rfl,Z,-,U⟩;have u:=zf (s.out 1 _ w P om ⟨_,rfl,by rw[zO om];exact Z⟩ (d _ _ _ _ (d _ _ _ _ a (zn.of_below T)) (zn.of_below U)));simp only[RW.val,RW.fv,WT.sv]at u⊢;gi_wp2;refine jr u.out ?_ ?_
  ·rintro Q ⟨a1,L,f,-⟩;gi_wp2;go_end0
   exact⟨⟨_,rfl⟩,.inl ⟨L,f⟩⟩
  ·rintro Q ⟨a1,f⟩;gi_wp2;go_end0
   exact⟨⟨_,rfl⟩,.inr ⟨1,om,f⟩⟩
 ·rintro b ⟨a0,a⟩;gi_wp2;go_end0
  exact⟨⟨_,rfl⟩,.inr ⟨0,om,a⟩⟩
theorem zlk(b j hb:Bool)(a i f:Option Addr)(c ac m l h g:Nat)(d:Nat)(k:Array Value)(w:H):
 Calls pg 146 #[ag #[G b,V a c ac,G j,V i m l,G hb,V f h g],.func (.func d) #[] k] w fun e w'=>e=Xa (.func (.func 231) #[] #[pn (E ⟨w.heap.size+1,0,O⟩),pn (E (Xd w.heap.size 0 O))])/\w'=(w.alloc (cl #[G b,V a c ac,G j,V i m l,G hb,V f h g] 101)).alloc (cl #[.func (.func d) #[] k] 95):=by
 go_enter func146,ntmps146
 go_wp2;go_ret;exact⟨rfl,rfl⟩
theorem zn7(f:ByteArray)(b:Bool)(a fa:Option Addr)(d c fl fc:Nat)(w:H):
 Calls pg 145 #[ag #[gS f,G b,V a d c,V fa fl fc]] w fun e w'=>e=Xa (.func (.func 229) #[] #[pn (E (Xd w.heap.size 0 O))])/\w'=w.alloc (cl #[gS f,G b,V a d c,V fa fl fc] 108):=by
 go_enter func145,ntmps145
 go_wp2;go_ret;exact⟨rfl,rfl⟩
theorem zr8(a b:Option Addr)(n cap m c:Nat)(w:H):
 Calls pg 78 #[ag #[V a n cap,V b m c]] w fun e w'=>e=Xa (.func (.func 143) #[] #[pn (E (Xd w.heap.size 0 O))])/\w'=w.alloc (cl #[V a n cap,V b m c] 61):=by
 go_enter func78,ntmps78
 go_wp2;go_ret;exact⟨rfl,rfl⟩
def HoI (W:H)(l:Nat)(J:Nat->(Nat->Prop)->H->Prop)(k:Nat)(M:Nat->Prop)(A:H):Prop:=∃N,J k N A/\A.heap[W.heap.size]? =E (cl #[.func (.yield l) #[] #[]] 136)/\A.heap[W.heap.size+1]? =E (cl #[G false] 4)/\¬N W.heap.size/\¬N (W.heap.size+1)/\∀x,M x↔N x\/x=W.heap.size+1
def HoX (W:H)(Jx:Nat->H->Prop)(c:Code)(k:Nat)(A:H):Prop:=c= .ret/\Jx k A/\A.heap[W.heap.size+1]? =E (cl #[G false] 4)
theorem zn8(g:Nat)(f:Array Value)(n:Nat)(Y:Nat->Array Value->H->Prop)(C:H->Prop)(o:SeqQ pg g f n Y C)(j:∀args w,(callFunc g args).run pg w= .ok (.enter g args) w)(c:∀k v W,Y k v W->∃r:RW,v=#[r.val])(a0:∀k v A B,Y k v A->zn 0 A B->Y k v B)(l:Nat)(J:Nat->(Nat->Prop)->H->Prop)(Jx:Nat->H->Prop)(M0:Nat->Prop)(W:H)(z:∀k M A B,J k M A->zn W.heap.size A B->J k M B)(R:∀k A B,Jx k A->zn W.heap.size A B->Jx k B)(Q:∀k M A B,J k M A->Wr (zaa W.heap.size A) A B->J k M B)(S:∀k A B,Jx k A->Wr (zaa W.heap.size A) A B->Jx k B)(hC:∀k M A,J k M A->C A/\∀x,M x->x<A.heap.size/\zcN A x)(m:∀k v M b,k<n->Y k v b->J k M b->YieldAt Fence.wide 0 pg l v b fun e a=>
  (e=Xa (G true)/\Wr M b a/\∃d,J (k+1) d a/\∀x,d x->M x\/b.heap.size<=x)\/(e=Xa (G false)/\Wr M b a/\Jx k a))(h0:J 0 M0 W):
 Calls pg 144 #[.func (.func g) #[] f,.func (.yield l) #[] #[]] W fun e a=>∃t,e=Xa (G t)/\(t=true->∃M,J n M a)/\(t=false->∃k,k<n/\Jx k a):=by
 have h:=zf hC;have Z:=zf m;have m:=zf c;have a:=zf o;have F:Ext W ((W.alloc (cl #[.func (.yield l) #[] #[]] 136)).alloc (cl #[G false] 4)):=((Xe W).alloc _).alloc _;obtain⟨D,s⟩:=Xj W (cl #[.func (.yield l) #[] #[]] 136) (cl #[G false] 4);refine Q0 func144 ntmps144 (h:=?_);gi_wp2;generalize World.alloc _ _=y at *;have q:=(h.out 0 M0 W h0).2;have b:=(zd.1 s).1;refine ze6 a.out rfl j (fun k v W c=>by obtain⟨r,rfl⟩:=m.out k v W c;rfl)
  (HoI W l J) (HoX W Jx) (fun x=>M0 x\/x=W.heap.size+1) ?hI ?hIx ?hI2 ?hIx2 ?hC ?h0 ?round ?done ?stop
 case hI=>
  rintro k M A B ⟨N,b,d,a,p,o,j⟩ c;exact⟨N,z _ _ _ _ b (c.mono om),c.block _ _ d (.inr rfl),c.block _ _ a (.inr rfl),p,o,j⟩
 case hIx=>
  rintro P k A B ⟨b,d,a⟩ c;exact⟨b,R _ _ _ d (c.mono om),c.block _ _ a (.inr rfl)⟩
 case hI2=>
  rintro k M A B ⟨N,b,d,a,p,o,j⟩ c;exact⟨N,Q _ _ _ _ b (c.mono (fun u f=>⟨by have:=f.1;omega,f.2⟩)),c.some d (fun e=>by have:=e.1;omega),c.some a (fun e=>by have:=e.1;omega),p,o,j⟩
 case hIx2=>
  rintro P k A B ⟨b,d,a⟩ c;exact⟨b,S _ _ _ d (c.mono (fun u f=>⟨by have:=f.1;omega,f.2⟩)),c.some a (fun e=>by have:=e.1;omega)⟩
 case hC=>
  rintro k M A ⟨N,b,d,a,p,o,j⟩;refine⟨(h.out k N A b).1,fun x f=>?_⟩;rcases(j x).1 f with f|rfl
  ·exact(h.out k N A b).2 x f
  ·exact⟨(zd.1 a).1,zmC a dc n1⟩
 case h0=>
  refine⟨M0,z _ _ _ _ h0 (zn.of_below F),D,s,fun h=>?_,fun h=>?_,fun x=>Qb⟩;·have:=(q _ h).1;omega
  ·have:=(q _ h).1;omega
 case round=>
  rintro q k v M A a1 u ⟨N,b,d,a,p,o,j⟩;obtain⟨⟨⟨fa,F,D⟩,⟨L,⟨K,Y,X⟩⟩⟩,rfl⟩:=m.out k v A u;simp only[RW.val,RW.fv,WT.sv]at u⊢;unfold Zz;gi_wp2;refine⟨Xf ((Xe A).alloc _),fun s I=>?_⟩;have m:=(zn.alloc y.heap.size A (cl #[V fa F D,G L,V K Y X] 115)).trans I;have q:=I.block _ _ (zC A (cl #[V fa F D,G L,V K Y X] 115)) (.inr rfl);have D:=c_ 0 q;have D:=c_ 1 q;have D:=c_ 2 q;have L:=m.block _ _ d (.inr rfl);have F:=m.block _ _ a (.inr rfl);have q:=c_ 0 L;have q:=m.size;have q:=(zd.1 F).1;have q:=zf (Z.out k _ N s a1 (a0 _ _ _ _ u (m.mono (qo _))) (z _ _ _ _ b (m.mono om)));gi_wp2;refine JS q.out ?_ ?_
  ·rintro m ⟨q,K,I,u⟩;have D:Hid (ZL M (HoI W l J) (HoX W Jx) k A s .normal { tmps:=#[],defers:= [] } m):=by
    refine⟨q.mono (fun x f=>(j x).2 (.inl f)),fun x=>K x\/x=W.heap.size+1,⟨K,I,q.some L p,q.some F o,fun h=>?_,fun h=>?_,fun x=>Qb⟩,fun x f=>?_⟩
    ·rcases u _ h with h|h
     ·exact p h
     ·omega
    ·rcases u _ h with h|h
     ·exact o h
     ·omega
    ·rcases f with f|f
     ·rcases u _ f with h|h
      ·exact .inl ((j x).2 (.inl h))
      ·exact .inr om
     ·exact .inl ((j x).2 (.inr f))
   gi_wp2;exact D.out
  ·rintro m ⟨q,I⟩;have u:=q.some F o;have F:=c_ 0 u;have F:=Xg (j:=0) u;have F:=(zd.1 u).1;have F:Wr (zaa W.heap.size m) m (m.setCell ⟨W.heap.size+1,0,O⟩ (G false)):=zv (U:=zaa W.heap.size m) ⟨om,.inr ⟨_,_,u⟩⟩ _;have D:Hid (ZL M (HoI W l J) (HoX W Jx) k A s .ret { tmps:=#[],defers:= [] } (m.setCell ⟨W.heap.size+1,0,O⟩ (G false))):=by
    refine⟨(q.mono (fun x f=>(j x).2 (.inl f))).trans (zv ((j _).2 (.inr rfl)) _),rfl,S _ _ _ I F,?_⟩;rw[Xk u];rfl
   gi_wp2;exact D.out
 case done=>
  rintro D M A q _ ⟨N,b,d,a,p,o,j⟩ f;have m:=jm q.symm;have j:=c_ 0 a;have j:=Xg (j:=0) a;have j:=(zd.1 a).1;have o:=Q _ _ _ _ b (zv (w:=A) (U:=zaa W.heap.size A) (g:=W.heap.size+1) (i:=0) ⟨om,.inr ⟨_,_,a⟩⟩ (G true));have q:(A.setCell ⟨W.heap.size+1,0,O⟩ (G true)).heap[W.heap.size+1]? =E (cl #[G true] 4):=by
   rw[Xk a];rfl
  have j:(A.setCell ⟨W.heap.size+1,0,O⟩ (G true)).heap[D]? =E (.deferred (E [])):=(qC _ _ _ _ so).trans f;have p:=zf o;have o:=zf q;gi_wp2;refine qh j ?_;have a:zn y.heap.size (A.setCell ⟨W.heap.size+1,0,O⟩ (G true)) ((A.setCell ⟨W.heap.size+1,0,O⟩ (G true)).putObj D (.deferred O)):=zn.putObj _ m j rfl;have j:=a.cell (c_ 0 o.out);exact⟨G true,by simp[results,results144,go_sem,j],true,rfl,fun _=>⟨N,z _ _ _ _ p.out (a.mono om)⟩,(fun h=>by cases h)⟩
 case stop=>
  rintro D P k A m c ⟨rfl,b,d⟩ f;gi_wp2;refine qh f ?_;have a:zn y.heap.size A (A.putObj D (.deferred O)):=zn.putObj _ m f rfl;have j:=a.cell (c_ 0 d);exact⟨G false,by simp[results,results144,go_sem,j],false,rfl,(fun h=>by cases h),fun _=>⟨k,c,R _ _ _ b (a.mono om)⟩⟩
structure zac where
 m:WT
 l:WT
 h:WT
def zac.cells (c:zac):List Value:= [G c.m.b,c.m.sv,G c.l.b,c.l.sv,G c.h.b,c.h.sv]
structure RwV where
 s:ByteArray
 b:WT
 f:Nat
 ts:List WT
def RwV.fv (r:RwV):Value:=V (E (Xd r.f 0 O)) r.ts.length r.ts.length
def RwV.cells (r:RwV):List Value:= [gS r.s,G r.b.b,r.b.sv,r.fv]
structure zes (w:H)(r:RwV)(x:List Int×List UInt8×Int):Prop where
 sign:r.s=⟨x.2.1.toArray⟩
 len:r.ts.length=x.1.length
 most:zy w r.b.val x.2.2
 cell:∀(j:Nat) (t:WT),r.ts[j]? =E t->w.cell? ⟨r.f,j*2,O⟩=E (G t.b)/\w.cell? ⟨r.f,j*2+1,O⟩=E t.sv
 fac:∀(j:Nat) (t:WT) (z:Int),r.ts[j]? =E t->x.1[j]? =E z->zy w t.val z
structure PM (p:qF)(cs:List zac)(rs:List RwV)(bc gR:Nat)(ao ap:Option Addr)(w:World):Prop where
 cl:cs.length=p.n
 rl:rs.length=p.rows.length
 hao:0<p.n->ao=some ⟨bc,0,none⟩
 hap:0<p.rows.length->ap=some ⟨gR,0,none⟩
 col:∀(i:Nat) (c:zac),cs[i]? =some c->∀(j:Nat) (u:Value),c.cells[j]? =some u->w.cell? ⟨bc,i*6+j,none⟩=some u
 colw:∀(i:Nat) (c:zac),cs[i]? =some c->zy w c.m.val (p.mx.getD i 0)/\zy w c.l.val (p.rg.getD i (0,0)).1/\zy w c.h.val (p.rg.getD i (0,0)).2
 row:∀(i:Nat) (r:RwV),rs[i]? =some r->∀(j:Nat) (u:Value),r.cells[j]? =some u->w.cell? ⟨gR,i*4+j,none⟩=some u
 roww:∀(i:Nat) (r:RwV) (x:List Int×List UInt8×Int),rs[i]? =some r->p.rows[i]? =some x->zes w r x
theorem zes.keep{r:RwV}{x:List Int×List UInt8×Int}(h:zes w r x)(a:zn B w w'):zes w' r x:=
 ⟨h.sign,h.len,h.most.keep a,fun j t b=>⟨a.cell (h.cell j t b).1,a.cell (h.cell j t b).2⟩,fun j t z b c=>(h.fac j t z b c).keep a⟩
theorem PM.keep{p:qF}{cs:List zac}{rs:List RwV}{d e:Nat}{c:Option Addr}(h:PM p cs rs d e b c w)(a:zn B w w'):PM p cs rs d e b c w':=
 ⟨h.cl,h.rl,h.hao,h.hap,fun i c b j u d=>a.cell (h.col i c b j u d),fun i c b=>⟨(h.colw i c b).1.keep a,(h.colw i c b).2.1.keep a,(h.colw i c b).2.2.keep a⟩,fun i r b j u d=>a.cell (h.row i r b j u d),fun i r x b c=>(h.roww i r x b c).keep a⟩
theorem PM.ext{p:qF}{cs:List zac}{rs:List RwV}{c d:Nat}{a:Option Addr}(h:PM p cs rs c d a b w)(e:Ext w w'):PM p cs rs c d a b w':=h.keep (B:=0) (zn.of_below e)
theorem zjJ{r:RwV}{x:List Int×List UInt8×Int}(h:zes w r x):Jt w.heap.size (fun W=>zes W r x):=by
 intro A B b c;exact⟨b.sign,b.len,zaw h.most A B b.most c,fun j t a=>⟨JU c (p:=⟨r.f,j*2,O⟩) (zw (h.cell j t a).1) (b.cell j t a).1,JU c (p:=⟨r.f,j*2+1,O⟩) (zw (h.cell j t a).2) (b.cell j t a).2⟩,fun j t z a d=>zaw (h.fac j t z a d) A B (b.fac j t z a d) c⟩
theorem zrj{p:qF}{cs:List zac}{rs:List RwV}{f:Nat}{a:Option Addr}(h:PM p cs rs f g a b w):Jt w.heap.size (fun W=>PM p cs rs f g a b W):=by
 intro A B a d;exact⟨a.cl,a.rl,a.hao,a.hap,fun i c b j u e=>JU d (p:=⟨f,i*6+j,O⟩) (zw (h.col i c b j u e)) (a.col i c b j u e),fun i c b=>⟨zaw (h.colw i c b).1 A B (a.colw i c b).1 d,zaw (h.colw i c b).2.1 A B (a.colw i c b).2.1 d,zaw (h.colw i c b).2.2 A B (a.colw i c b).2.2 d⟩,fun i r b j u e=>JU d (p:=⟨g,i*4+j,O⟩) (zw (h.row i r b j u e)) (a.row i r b j u e),fun i r x b c=>zjJ (h.roww i r x b c) A B (a.roww i r x b c) d⟩
theorem zeD{a:Type}{P:Nat->a->Prop}:∀(n:Nat),(∀j,j<n->∃t,P j t)->∃ts:List a,ts.length=n/\∀(j:Nat) (t:a),ts[j]? =E t->P j t
 |0,_=>⟨[],rfl,fun j t h=>by simp at h⟩
 |n+1,h=>by
  obtain⟨ts,h1,h2⟩:=zeD n (fun j b=>h j om);obtain⟨t,c⟩:=h n om;refine⟨ts ++ [t],by simp[h1],fun j u a=>?_⟩;by_cases b:j<ts.length
  ·rw[zS b]at a;exact h2 j u a
  ·have b:=(zo.1 a).1;simp at b;have e:j=ts.length:=om;subst e;rw[zG (zh _)]at a;simp at a;subst a;rw[h1];exact c
theorem zrk{L:Nat}{p:qF}{e:Nat}{d I:Value}(c:DQ w e p d I)(a:zbU L p)(f:2+p.n<=L):∃cs rs l h b g cap s,d=V b p.n cap/\I=V g p.rows.length s/\PM p cs rs l h b g w:=by
 obtain⟨_,_⟩:=a.n om;have b:=a.m om;have b:p.rg.length=p.n:=by have:=a.g;omega
 rcases c.cols with ⟨_,_⟩|⟨l,_,rfl,_,d,a⟩
 ·omega
 obtain⟨x,z,b,o⟩:=zjv d a.1;obtain⟨rs,J,Y,Z⟩:=c.rows;obtain⟨cs,hc1,hc2⟩:∃cs:List zac,cs.length=p.n/\∀(i:Nat) (c:zac),cs[i]? =E c->(∀(j:Nat) (u:Value),c.cells[j]? =E u->w.cell? ⟨l,i*6+j,O⟩=E u)/\zy w c.m.val (p.mx.getD i 0)/\zy w c.l.val (p.rg.getD i (0,0)).1/\zy w c.h.val (p.rg.getD i (0,0)).2:=by
  refine zeD p.n fun i e=>?_
  obtain⟨Q,K,l0,U,k,m⟩:=b i 0 e om;obtain⟨R,M,l1,W,r,t⟩:=b i 1 e om;obtain⟨S,N,l2,X,v,y⟩:=b i 2 e om;have b:=o i 0 e om;have d:=o i 1 e om;have f:=o i 2 e om;have q:=fun j o=>z i j e o
  have z:=q 0 om;have A:=q 1 om;have B:=q 2 om;have C:=q 3 om;have D:=q 4 om;have F:=q 5 om;simp only[Ql,qt,jM,Nat.reduceMul,Nat.reduceAdd,qV]at k m r t v y b d f z A B C D F;rw[k,m]at b;rw[r,t]at d;rw[v,y]at f;rw[k]at z;rw[m]at A;rw[r]at B;rw[t]at C;rw[v]at D;rw[y]at F;rw[a.2.1 i om]at b;rw[(a.2.2 i om).1]at d;rw[(a.2.2 i om).2]at f;refine⟨⟨⟨Q,(K,l0,U)⟩,⟨R,(M,l1,W)⟩,⟨S,(N,l2,X)⟩⟩,fun j u a=>?_,b,d,f⟩;match j,a with
  |0,a=>cases a;exact z
  |1,a=>cases a;exact A
  |2,a=>cases a;exact B
  |3,a=>cases a;exact C
  |4,a=>cases a;exact D
  |5,a=>cases a;exact F
  |j+6,a=>simp[zac.cells]at a
 have D:∀(r:Jl) (x:List Int×List UInt8×Int) (T:Nat->Prop),RowIs w T r x->∃b:RwV,b.cells=r.cells/\zes w b x:=by
  rintro r x T ⟨_,k,A,B,C⟩;obtain⟨K,m,q⟩:=zeD (P:=fun j (t:WT)=>(w.cell? ⟨r.f,j*2,O⟩=E (G t.b)/\w.cell? ⟨r.f,j*2+1,O⟩=E t.sv)/\zy w t.val (x.1.getD j 0)) x.1.length (fun j o=>by
   obtain⟨z,y,F,c,d,f,v,_,_⟩:=A.2 j o;rw[Z5]at d f;exact⟨⟨z,(y,F,c)⟩,⟨d,f⟩,v⟩)
  refine⟨⟨r.s,⟨r.x,r.b⟩,r.f,K⟩,by simp[RwV.cells,Jl.cells,RwV.fv,WT.sv,m,k],B,m,C,fun j t m=>(q j t m).1,fun j t z m y=>?_⟩;have:=(q j t m).2;rw[zk,y]at this;exact this
 obtain⟨t,hr1,hr2⟩:∃t:List RwV,t.length=p.rows.length/\∀(i:Nat) (b:RwV),t[i]? =E b->∃r x,rs[i]? =E r/\p.rows[i]? =E x/\b.cells=r.cells/\zes w b x:=by
  refine zeD p.rows.length fun i e=>?_
  have m:rs[i]? =E rs[i]:=zg om;have k:=zg e;obtain⟨b,d,f⟩:=D _ _ _ (Z i _ _ m k);exact⟨b,_,_,m,k,d,f⟩
 obtain⟨g,s,h,hv,hap,hyc⟩:∃(g:Option Addr) (s h:Nat),I=V g p.rows.length s/\(0<p.rows.length->g=E (Xd h 0 O))/\∀(i:Nat) (r:Jl),rs[i]? =E r->∀(j:Nat) (u:Value),r.cells[j]? =E u->w.cell? ⟨h,i*4+j,O⟩=E u:=by
  obtain⟨_,⟨d,f⟩|⟨y,cap,z,d,_,A,_,_,_,B⟩⟩:=Y;·exact⟨O,0,0,by rw[d,<-J,f],fun q=>om,fun i r q=>by have:=(zo.1 q).1;omega⟩
  ·refine⟨_,cap,y,by rw[d,J],fun _=>rfl,fun i r q j u a=>?_⟩;have o:j<4:=by have:=(zo.1 a).1;simpa[Jl.cells]using this
   have e:=(zo.1 q).1;have m:=zl6 rs i j r q o;rw[<-B,zaG om]at m;have k:w.cell? ⟨y,i*4+j,O⟩=z.toList[i*4+j]?:=by simp[World.cell?,A]
   rw[k,m];exact a
 subst hv;refine⟨cs,t,l,h,E (Xd l 0 O),g,p.n,s,rfl,rfl,⟨hc1,hr1,fun _=>rfl,hap,fun i c e=>(hc2 i c e).1,fun i c e=>(hc2 i c e).2,fun i b c j u a=>?_,fun i b x c e=>?_⟩⟩
 ·obtain⟨r,x,d,f,v,g⟩:=hr2 i b c;rw[v]at a;exact hyc i r d j u a
 ·obtain⟨r,_,d,f,v,g⟩:=hr2 i b c;rw[f]at e;cases e;exact g
def zn9 {w:H}{r:RwV}{x:List Int×List UInt8×Int}{bt:Nat}(h:zes w r x)(hn:r.ts.length<=100000)(hb:w.cell? (Xd bt 0 O)=E r.fv):zdT w 228 #[pn (E (Xd bt 0 O))] x.1 where
 Y:=fun k v W=>(zff (fun i j=>if j=0 then G (r.ts.getD i ⟨false,(O,0,0)⟩).b else(r.ts.getD i ⟨false,(O,0,0)⟩).sv) r.ts.length)[k]? =E v/\zes W r x
 C:=fun W=>W.cell? (Xd bt 0 O)=E r.fv/\zes W r x
 seq:=by
  have hs:=(zjX (fun i j=>if j=0 then G (r.ts.getD i ⟨false,(O,0,0)⟩).b else(r.ts.getD i ⟨false,(O,0,0)⟩).sv) (E (Xd r.f 0 O)) r.f r.ts.length r.ts.length bt (by omega) (fun _=>rfl)).seq;rw[zc3]at hs;rw[<-h.len];intro l J Jx M0 W h1 h2 h3 h4 h5;refine hs l J Jx M0 W h1 h2 (fun k M A hA=>⟨⟨(h3 k M A hA).1.1,fun i j hi hj=>?_⟩,(h3 k M A hA).2⟩) (fun k v M W1 hk hv hj=>h4 k v M W1 hk ⟨hv,(h3 k M W1 hj).1.2⟩ hj) h5;have hi':i<r.ts.length:=hi;have hg:=(h3 k M A hA).1.2.cell i _ (zg hi');have hgd:r.ts.getD i ⟨false,(O,0,0)⟩=r.ts[i]:=by rw[zk,zg hi'];rfl
  rw[hgd];match j,hj with
  |0,_=>exact hg.1
  |1,_=>exact hg.2
 ent:=qW Tryz.func228 (by kernel_rfl) rfl
 val:=by
  rintro k v W z hz ⟨hv,hr⟩;have hk:k<r.ts.length:=by have:=(zo.1 hv).1;rwa [zc3]at this
  rw[zf4 hk]at hv;have hgd:r.ts.getD k ⟨false,(O,0,0)⟩=r.ts[k]:=by rw[zk,zg hk];rfl
  rw[hgd]at hv;cases hv;exact⟨r.ts[k],rfl,hr.fac k _ z (zg hk) hz⟩
 one:=by
  rintro k v W ⟨hv,hr⟩;have hk:k<r.ts.length:=by have:=(zo.1 hv).1;rwa [zc3]at this
  rw[zf4 hk]at hv;cases hv;rfl
 now:=⟨hb,h⟩
 old:=Jp (JV (zw hb)) (zjJ h)
def zfY (rows:List (List Int×Int))(k:Nat)(v:Array Value)(W:H):Prop:=∃r:RW,v=#[r.val]/\∃y,rows[k]? =E y/\QG W r y
structure RwBox (b:Nat)(r:RwV)(x:List Int×List UInt8×Int)(W:H):Prop where
 c0:W.cell? (Xd b 0 O)=E (gS r.s)
 c1:W.cell? (Xd b 1 O)=E (G r.b.b)
 c2:W.cell? (Xd b 2 O)=E r.b.sv
 c3:W.cell? (Xd b 3 O)=E r.fv
 is:zes W r x
theorem zjK{d e f a b c:Value}(h:w.heap[g]? =E (cl #[d,e,f] t)):(((w.setCell (Xd g 0 O) a).setCell (Xd g 1 O) b).setCell (Xd g 2 O) c).heap[g]? =E (cl #[a,b,c] t):=by
 have d:=Xk (i:=0) (v:=a) h;have e:=Xk (i:=1) (v:=b) d;have d:=Xk (i:=2) (v:=c) e;exact d
theorem Wr.below'(h:Wr (fun q=>q=g) w w')(hg:W.heap.size<=g)(a:Ext W w):Below W.heap.size w w':=h.below a.size (fun k a=>om)
theorem zmQ(b:Nat)(r:RwV)(x:List Int×List UInt8×Int)(hsg:jO x.2.1=true)(hn:x.1.length<=100000):
 SeqQ pg 229 #[pn (E (Xd b 0 O))] (T.condRows x).length (zfY (T.condRows x)) (RwBox b r x):=by
 intro l J Jx M0 W hJ hJx hJ2 hJx2 hC hY h0;obtain⟨k0,k1,k2,k3,kr⟩:=(hC 0 M0 W h0).1;have HC:=zf hC;have HY:=zf hY;have hb:b<W.heap.size:=zw k0;obtain⟨rs,⟨rb,⟨ra,rl,rc⟩⟩,rf,ts⟩:=r;have hts:ts.length<=100000:=by rw[kr.len];exact hn
 have HRS:=zf (kr.sign:rs=⟨x.2.1.toArray⟩);have HOF:Hid (∀W1 bt,Ext W W1->W1.cell? (Xd bt 0 O)=E (RwV.fv ⟨rs,⟨rb,(ra,rl,rc)⟩,rf,ts⟩)->Calls pg 181 #[.func (.func 228) #[] #[pn (E (Xd bt 0 O))],ag #[G rb,V ra rl rc]] W1 fun e w'=>∃r:RW,e=Xa r.val/\QG w' r (x.1,x.2.2)/\Below W1.heap.size W1 w'):=by
  intro W1 bt hW hc;have kr1:=kr.keep (B:=0) (zn.of_below hW);refine(zfO W1 _ _ x.1 (zn9 kr1 hts hc) hn ⟨rb,(ra,rl,rc)⟩ x.2.2 kr1.most).mono ?_;rintro e w' ⟨r,h1,h2,h3,h4⟩;exact⟨r,h1,h2,h4⟩
 simp only[RwV.fv,WT.sv]at k1 k2 k3 HOF;have HK4:=zf (fun W' (hW:Ext W W')=>Xc (hW.cell k0) (Xc (hW.cell k1) (Xc (hW.cell k2) (hW.cell k3))));have HS3:Hid (x.2.1= [60,61]\/x.2.1= [62,61]\/x.2.1= [61]):=by
  unfold jO at hsg;rw[Hid];simpa using hsg
 clear hY hC kr hsg;refine zcW Tryz.func229 Tryz.ntmps229 (h:=?_);gi_wp2;refine wpIn_wide.2 ?_;go_region_held3 (fun W'=>W'.cell? (Xd b 0 O)=E (gS rs)/\W'.cell? (Xd b 1 O)=E (G rb)/\W'.cell? (Xd b 2 O)=E (V ra rl rc)/\W'.cell? (Xd b 3 O)=E (V (E (Xd rf 0 O)) ts.length ts.length)) (first|(exact HK4.out _ (by with_reducible first|assumption|exact Ext.drew (by assumption)))|(exact HK4.out _ (x2.alloc _))|(exact HK4.out _ (x1.alloc _))|(have hK:=HK4.out w2 x2;exact⟨zcL (by omega) hK.1,zcL (by omega) hK.2.1,zcL (by omega) hK.2.2.1,zcL (by omega) hK.2.2.2⟩)|go_keep) (first|(go_at_call 181;have _g:=bxa;refine((HOF.out w1 _ x1 q1)).mono ?_;rintro e w2 ⟨⟨⟨ja,jl,jc⟩,⟨jb,⟨ka,kl,kc⟩⟩⟩,rfl,hrow,hb2⟩;simp only[RW.val,RW.fv,WT.sv];have x2:Ext W w2:=x1.trans (Xh hb2);have bx2:=((Xh hb2).block _ (zd.1 bxa).1).trans bxa;have g0:=ze _ _ 0 _ _ _ bx2;have g1:=ze _ _ 1 _ _ _ bx2;have g2:=ze _ _ 2 _ _ _ bx2;have f0:=Xg (j:=0) bx2;have f1:=Xg (j:=1) bx2;have f2:=Xg (j:=2) bx2;have l2:W.heap.size<w2.heap.size:=(zd.1 bx2).1)|(go_at_call 181;have _g:=nox;refine((HOF.out (w1.alloc (cl #[V O 0 0,G false,V O 0 0] 115)) _ (x1.alloc _) (zee q1))).mono ?_;rintro e w2 ⟨⟨⟨ja,jl,jc⟩,⟨jb,⟨ka,kl,kc⟩⟩⟩,rfl,hrow,hb2⟩;simp only[RW.val,RW.fv,WT.sv];have x2:Ext W w2:=(x1.alloc _).trans (Xh hb2);have bxb:=zC w1 (cl #[V O 0 0,G false,V O 0 0] 115);have bx2:=((Xh hb2).block _ (zd.1 bxb).1).trans bxb;have g0:=ze _ _ 0 _ _ _ bx2;have g1:=ze _ _ 1 _ _ _ bx2;have g2:=ze _ _ 2 _ _ _ bx2;have f0:=Xg (j:=0) bx2;have f1:=Xg (j:=1) bx2;have f2:=Xg (j:=2) bx2;have l2:w1.heap.size<w2.heap.size:=(zd.1 bx2).1)|(go_at_call 181;have _g:=nox;refine((HOF.out w1 _ x1 q1)).mono ?_;rintro e w2 ⟨⟨⟨ja,jl,jc⟩,⟨jb,⟨ka,kl,kc⟩⟩⟩,rfl,hrow,hb2⟩;simp only[RW.val,RW.fv,WT.sv];have x2:Ext W w2:=x1.trans (Xh hb2);have noy:=trivial)|(go_at_call 76;refine((zi8 rs rb ra rl rc (E (Xd rf 0 O)) ts.length ts.length _)).mono ?_;rintro e w1 ⟨rfl,hw1⟩;have bxa:w1.heap[W.heap.size]? =E (cl #[V O 0 0,G false,V O 0 0] 115):=(by rw[hw1];exact(qH _ _ _ (by simp;omega)).trans ((qH _ _ _ (by simp)).trans (zC W _)));have x1:Ext W w1:=(by rw[hw1];exact((((Xe W).alloc _).drew).alloc _).alloc _);have q1:w1.cell? ⟨W.heap.size+1+1,0,O⟩=E (V (E (Xd rf 0 O)) ts.length ts.length):=(by rw[hw1];first|exact ze _ _ 0 _ _ _ (Xj _ _ _).2|simpa using ze _ _ 0 _ _ _ (Xj (W.alloc (cl #[V O 0 0,G false,V O 0 0] 115)).drew (cl #[gS rs,G rb,V ra rl rc,V (E (Xd rf 0 O)) ts.length ts.length] 108) (cl #[V (E (Xd rf 0 O)) ts.length ts.length] 106)).2);have hb1:=zK hb x1.size;have z1:=x1.cell k1;have z2:=x1.cell k2;clear hw1)|(go_at_call 76;refine((zi8 rs rb ra rl rc (E (Xd rf 0 O)) ts.length ts.length _)).mono ?_;rintro e w1 ⟨rfl,hw1⟩;have nox:=trivial;have x1:Ext W w1:=(by rw[hw1];exact((Xe W).drew.alloc _).alloc _);have q1:w1.cell? ⟨W.heap.size+1,0,O⟩=E (V (E (Xd rf 0 O)) ts.length ts.length):=(by rw[hw1];first|exact ze _ _ 0 _ _ _ (Xj _ _ _).2|simpa using ze _ _ 0 _ _ _ (Xj (W.alloc (cl #[V O 0 0,G false,V O 0 0] 115)).drew (cl #[gS rs,G rb,V ra rl rc,V (E (Xd rf 0 O)) ts.length ts.length] 108) (cl #[V (E (Xd rf 0 O)) ts.length ts.length] 106)).2);have hb1:=zK hb x1.size;have z1:=x1.cell k1;have z2:=x1.cell k2;clear hw1))
 all_goals first|(have _m:=bxa;have hgW:W.heap.size<=W.heap.size:=(by first|exact zh _|exact x1.size);have hw:Wr (fun q=>q=W.heap.size) w2 (((w2.setCell (Xd W.heap.size 0 O) (V ja jl jc)).setCell (Xd W.heap.size 1 O) (G jb)).setCell (Xd W.heap.size 2 O) (V ka kl kc)):=zce rfl _ _ _;have x9:Ext W (((w2.setCell (Xd W.heap.size 0 O) (V ja jl jc)).setCell (Xd W.heap.size 1 O) (G jb)).setCell (Xd W.heap.size 2 O) (V ka kl kc)):=Qg x2 (hw.below' hgW x2);have hrow9:=QG.wr hrow hw (fun q hq=>by subst hq;exact⟨fun ht=>absurd (ht.one ⟨_,_,bx2⟩) (by decide),zE bx2 (by intro u hu;simp at hu;rcases hu with rfl|rfl|rfl<;>(intro n e;cases e))⟩);have e9:=zjK (a:=V ja jl jc) (b:=G jb) (c:=V ka kl kc) bx2;clear hw bx2 g0 g1 g2 f0 f1 f2 l2 hrow hb2;generalize (((w2.setCell (Xd W.heap.size 0 O) (V ja jl jc)).setCell (Xd W.heap.size 1 O) (G jb)).setCell (Xd W.heap.size 2 O) (V ka kl kc))=W9 at *;generalize hg9:W.heap.size=g9 at *)|(have _m:=bxb;have hgW:=(by first|exact zh _|exact x1.size);have hw:Wr (fun q=>q=w1.heap.size) w2 (((w2.setCell (Xd w1.heap.size 0 O) (V ja jl jc)).setCell (Xd w1.heap.size 1 O) (G jb)).setCell (Xd w1.heap.size 2 O) (V ka kl kc)):=zce rfl _ _ _;have x9:Ext W (((w2.setCell (Xd w1.heap.size 0 O) (V ja jl jc)).setCell (Xd w1.heap.size 1 O) (G jb)).setCell (Xd w1.heap.size 2 O) (V ka kl kc)):=Qg x2 (hw.below' hgW x2);have hrow9:=QG.wr hrow hw (fun q hq=>by subst hq;exact⟨fun ht=>absurd (ht.one ⟨_,_,bx2⟩) (by decide),zE bx2 (by intro u hu;simp at hu;rcases hu with rfl|rfl|rfl<;>(intro n e;cases e))⟩);have e9:=zjK (a:=V ja jl jc) (b:=G jb) (c:=V ka kl kc) bx2;clear hw bx2 g0 g1 g2 f0 f1 f2 l2 hrow hb2;generalize (((w2.setCell (Xd w1.heap.size 0 O) (V ja jl jc)).setCell (Xd w1.heap.size 1 O) (G jb)).setCell (Xd w1.heap.size 2 O) (V ka kl kc))=W9 at *;generalize hg9:w1.heap.size=g9 at *)|(have _m:=noy;have hgW:=x2.size;have x9:Ext W (w2.alloc (cl #[V ja jl jc,G jb,V ka kl kc] 115)):=x2.alloc _;have hrow9:=hrow.ext ((Xe w2).alloc (cl #[V ja jl jc,G jb,V ka kl kc] 115));have e9:=zC w2 (cl #[V ja jl jc,G jb,V ka kl kc] 115);clear hrow hb2;generalize World.alloc _ _=W9 at *;generalize hg9:w2.heap.size=g9 at *)
 all_goals
  have hg9M:¬M0 g9:=fun h=>by have:=((HC.out 0 M0 W h0).2 _ h).1;omega
  have hj9:=hJ _ _ _ _ h0 (zn.of_below x9);have HMN:=zf (fun k hk=>((HC.out 0 M0 W9 hj9).2 k hk).2);have d0:=ze _ _ 0 _ _ _ e9;have d1:=ze _ _ 1 _ _ _ e9;have d2:=ze _ _ 2 _ _ _ e9;have HTN:=zf (fun(WX:H) (hr:QG WX ⟨(ja,jl,jc),⟨jb,(ka,kl,kc)⟩⟩ (x.1,x.2.2))=>zg1 WX _ _ hr hn);simp only[RW.val,RW.fv,WT.sv]at HTN;have HRK:=zf (fun(WX:H) (hx:WX.heap[g9]? =E (Obj.cells #[V ja jl jc,G jb,V ka kl kc] 115))=>Xc (ze _ _ 0 _ _ _ hx) (Xc (ze _ _ 1 _ _ _ hx) (ze _ _ 2 _ _ _ hx)));have c0:=x9.cell k0;clear k0 k1 k2 k3 HK4 HOF;rcases HS3.out with hs|hs|hs
  ·have hcr:T.condRows x= [(x.1,x.2.2)]:=by unfold T.condRows;rw[hs];rfl
   have HCR:=zf hcr;have hr0:rs=⟨#[60,61]⟩:=by rw[HRS.out,hs]
   subst hr0;have HYD:=zf (HY.out 0 _ M0 W9 (by rw[hcr];simp) ⟨_,rfl,_,by rw[hcr];rfl,hrow9⟩ hj9);simp only[RW.val,RW.fv,WT.sv]at HYD;clear hcr hs hrow9 hj9 e9;gi_wp2;refine jr HYD.out ?_ ?_
   ·rintro W5 ⟨hw5,M5,hj5,-⟩;have c5:=(HC.out _ M5 W5 hj5).1.c0;clear c0;gi_wp2;go_end0
    rw[HCR.out];exact⟨⟨_,rfl⟩,.inl ⟨M5,hj5⟩⟩
   ·rintro W5 ⟨hw5,hj5⟩;gi_wp2;refine zH (qI rfl _ _ _) rfl ?_;rw[HCR.out];exact⟨⟨_,rfl⟩,.inr ⟨0,by simp,hj5⟩⟩
  ·have hcr:T.condRows x= [(x.1.map fun z=>-z,-x.2.2)]:=by unfold T.condRows;rw[hs];rfl
   have HCR:=zf hcr;have hr0:rs=⟨#[62,61]⟩:=by rw[HRS.out,hs]
   subst hr0;have HT9:=zf (HTN.out W9 hrow9);clear hcr hs hrow9;gi_wp2;refine(zq.2 HT9.out).mono ?_;rintro e W4 ⟨⟨⟨ia,il,ic⟩,⟨ub,⟨ua,ul,uc⟩⟩⟩,rfl,hr4,-,hb4⟩;have HYD:=zf (HY.out 0 _ M0 W4 (by rw[HCR.out];simp) ⟨_,rfl,_,by rw[HCR.out];rfl,hr4⟩ (hJ _ _ _ _ hj9 (zn.of_below hb4)));simp only[RW.val,RW.fv,WT.sv]at HYD⊢;gi_wp2;refine jr HYD.out ?_ ?_
   ·rintro W5 ⟨hw5,M5,hj5,-⟩;gi_wp2;go_end0
    rw[HCR.out];exact⟨⟨_,rfl⟩,.inl ⟨M5,hj5⟩⟩
   ·rintro W5 ⟨hw5,hj5⟩;gi_wp2;go_end0
    rw[HCR.out];exact⟨⟨_,rfl⟩,.inr ⟨0,by simp,hj5⟩⟩
  ·have hcr:T.condRows x= [(x.1,x.2.2),(x.1.map fun z=>-z,-x.2.2)]:=by unfold T.condRows;rw[hs];rfl
   have HCR:=zf hcr;have hr0:rs=⟨#[61]⟩:=by rw[HRS.out,hs]
   subst hr0;have HYD:=zf (HY.out 0 _ M0 W9 (by rw[hcr];simp) ⟨_,rfl,_,by rw[hcr];rfl,hrow9⟩ hj9);simp only[RW.val,RW.fv,WT.sv]at HYD;clear hcr hs hj9;gi_wp2;refine jr HYD.out ?_ ?_
   ·rintro W5 ⟨hw5,M5,hj5,hM5⟩;have c5:=(HC.out _ M5 W5 hj5).1.c0;have hrow5:QG W5 ⟨(ja,jl,jc),⟨jb,(ka,kl,kc)⟩⟩ (x.1,x.2.2):=⟨hrow9.1.wrN hw5 HMN.out,hrow9.2.wrN hw5 HMN.out⟩;have e5:=hw5.some e9 hg9M;obtain⟨p0,p1,p2⟩:=HRK.out W5 e5;have HT9:=zf (HTN.out W5 hrow5);clear c0 hrow9 hrow5 d0 d1 d2;gi_wp2;refine(zq.2 HT9.out).mono ?_;rintro e W6 ⟨⟨⟨ia,il,ic⟩,⟨ub,⟨ua,ul,uc⟩⟩⟩,rfl,hr4,-,hb4⟩;have HYE:=zf (HY.out 1 _ M5 W6 (by rw[HCR.out];simp) ⟨_,rfl,_,by rw[HCR.out];rfl,hr4⟩ (hJ _ _ _ _ hj5 (zn.of_below hb4)));simp only[RW.val,RW.fv,WT.sv]at HYE⊢;gi_wp2;refine jr HYE.out ?_ ?_
    ·rintro W7 ⟨hw7,M7,hj7,-⟩;gi_wp2;go_end0
     rw[HCR.out];exact⟨⟨_,rfl⟩,.inl ⟨M7,hj7⟩⟩
    ·rintro W7 ⟨hw7,hj7⟩;gi_wp2;go_end0
     rw[HCR.out];exact⟨⟨_,rfl⟩,.inr ⟨1,by simp,hj7⟩⟩
   ·rintro W5 ⟨hw5,hj5⟩;gi_wp2;refine zH (qI rfl _ _ _) rfl ?_;rw[HCR.out];exact⟨⟨_,rfl⟩,.inr ⟨0,by simp,hj5⟩⟩
theorem zaa.type{b:Nat}(h:zaa B W b)(d:t≠3)(hb:t≠4):¬qQ W b t:=by
 intro a;rcases h.2 with ⟨x,c,e⟩|⟨x,c,e⟩
 ·exact d (a.one ⟨_,_,e⟩)
 ·exact hb (a.one ⟨_,_,e⟩)
theorem zaa.dig{b:Nat}(h:zaa B W b):qK W b:=by
 rcases h.2 with ⟨x,a,e⟩|⟨x,a,e⟩
 ·exact zE e n1
 ·exact zE e n1
theorem zaa.num{b:Nat}(h:zaa B W b):¬qQ W b 75/\qK W b:=⟨h.type dc dc,h.dig⟩
theorem Grw.priv{C:Nat}{size:Nat}{v:Value}{a:List (List Value)}(h:Grw B t size w v a)(b:Wr (zaa C w) w w')(c:t≠3)(hb:t≠4):Grw B t size w' v a:=
 h.same b.size (fun g a=>b.block g (h.type g a).1.lt (fun e=>e.type c hb (h.type g a).1))
theorem zpD{B:H}{a:Nat}(b:B.heap[a]? =E (cl #[V O 0 0,G false,V O 0 0,it Xb 0,V O 0 0] 192))(c d e f g:Value):
 (((((B.setCell (Xd a 0 O) c).setCell (Xd a 1 O) d).setCell (Xd a 2 O) e).setCell (Xd a 3 O) f).setCell (Xd a 4 O) g).heap[a]? =E (cl #[c,d,e,f,g] 192)/\Wr (fun k=>k=a) B (((((B.setCell (Xd a 0 O) c).setCell (Xd a 1 O) d).setCell (Xd a 2 O) e).setCell (Xd a 3 O) f).setCell (Xd a 4 O) g)/\(¬qQ B a 75/\qK B a)/\
 (B.cell? (Xd a 0 O)=E (V O 0 0)/\B.cell? (Xd a 1 O)=E (G false)/\B.cell? (Xd a 2 O)=E (V O 0 0)/\B.cell? (Xd a 3 O)=E (it Xb 0)/\B.cell? (Xd a 4 O)=E (V O 0 0))/\B.frozen? (Xd a 0 O)=false/\B.frozen? (Xd a 1 O)=false/\B.frozen? (Xd a 2 O)=false/\B.frozen? (Xd a 3 O)=false/\B.frozen? (Xd a 4 O)=false:=
 ⟨Xk (Xk (Xk (Xk (Xk b)))),((((zv (U:=fun k=>k=a) rfl _).trans (zv (U:=fun k=>k=a) rfl _)).trans (zv (U:=fun k=>k=a) rfl _)).trans (zv (U:=fun k=>k=a) rfl _)).trans (zv (U:=fun k=>k=a) rfl _),⟨fun a=>absurd (a.one ⟨_,_,b⟩) dc,zE b (by intro u a;simp at a;rcases a with rfl|rfl|rfl|rfl|rfl<;>(intro n e;cases e))⟩,⟨c_ 0 b,c_ 1 b,c_ 2 b,c_ 3 b,c_ 4 b⟩,Xg b,Xg b,Xg b,Xg b,Xg b⟩
theorem zpE{D K:Nat}(hc:jN D K)(w:H)(a:Option Addr×Nat×Nat)(aims:List Int)(ha:Zo w (sl3 a) aims)(cS:aims.length=n)(cc:n<=4)(cR:Zu D aims)(aI:List NT)(rows:List qO)(ao:Option Addr)(cap bt:Nat)(hb:w.cell? (Xd bt 0 O)=E (V ao aI.length cap))(hR:RowsM w (V ao aI.length cap) rows aI)(dE:rows.length<=1000)(cg:∀r∈rows,r.1.1.length=n/\Jm D r.1)(c5:(jx aims rows).length=n):
 Calls pg 79 #[ag #[sl3 a],.func (.func 153) #[] #[pn (E (Xd bt 0 O))]] w fun e w'=>∃(c:CT) (cN:List ET),e=Xa c.val/\c.a=a/\JF w' aims c (zb9 aims rows) cN/\Below w.heap.size w w':=by
 obtain⟨i0,cY,dj,dk,dl⟩:=Zn zkI;obtain⟨j0,cZ,dm,dn,dp⟩:=Zn zbW;have dd:∀bo:Prop,Hid bo->bo:=fun bo J=>J
 have ca:=hR.len;have bF:=zf hR;have cC:=zf hb;have bq:=zf (fun W (hx:Ext w W)=>ha.ext hx);have aY:=zf c5;have b0:=zf ca;have dA:bt<w.heap.size:=zw hb;have bM:∀e∈jx aims rows,(e.row.1.length=n/\e.loss.length=n)/\Jm D e.row/\Zu D e.loss:=fun e X=>by
  unfold jx at X;obtain⟨b,hb,X⟩:=List.mem_filterMap.1 X;obtain⟨q1,q2⟩:=cg b hb;split at X
  ·cases X;exact⟨⟨q1,q1⟩,q2,q2.1⟩
  ·cases X
 have aK:=zf bM;have bE:Hid (∀W:H,Calls pg 134 #[it .u64 1] W fun e w'=>∃a7,e=Xa a7/\NatV w' a7 1/\Below W.heap.size W w'):=fun W=>ziX W 1 dc
 have cJ:Hid (∀W:H,Calls pg 70 #[it Xb 1] W fun e w'=>∃cq,e=Xa cq/\zy w' cq 1/\Below W.heap.size W w'):=fun W=>zjP W 1 dc
 have bG:=zf (fun W (hx:Ext w W) (u:Value) (pt:List Int) (j:Zo W u pt) (hl:pt.length=n) (hB:Zu D pt)=>zhD K (by have:=hc.k;omega) W (sl3 a) u aims pt (ha.ext hx) j (by rw[cS,hl]) (by rw[hl];exact cc) cR hB hc.one hc.one hc.two);obtain⟨v,x,ac⟩:=a;simp only[sl3]at bq bG⊢;obtain⟨n0,aV⟩:=Xj w (cl #[V v x ac] 122) (cl #[V O 0 0,V O 0 0,V O 0 0,V O 0 0] 125);have hX:Ext w ((w.alloc (cl #[V v x ac] 122)).alloc (cl #[V O 0 0,V O 0 0,V O 0 0,V O 0 0] 125)):=((Xe _).alloc _).alloc _;clear ha hR hb c5 ca bM;refine Q0 func79 ntmps79 (h:=?_);gi_wp2;generalize (w.alloc (cl #[V v x ac] 122)).alloc (cl #[V O 0 0,V O 0 0,V O 0 0,V O 0 0] 125)=f at *;have aZ:=zf (fun W (hW:Ext f W)=>Xc ((hW.block _ (zd.1 n0).1).trans n0) ((hW.block _ (zd.1 aV).1).trans aV));have af:=zf (fun W (hW:Ext f W)=>c_ 0 (aZ.out W hW).1);have dG:=(zd.1 aV).1;clear n0 aV;refine Jc (S:=fun W=>W.cell? (Xd w.heap.size 0 O)=E (V v x ac)) hm (af.out f (Xe _)) (fun L=>?_);refine tkv 0 ?_;refine rd2 1 3 (h:=fun K h=>?_) (h1:=fun K h=>?_);go_simp;refine(bE.out _).mono ?_;rintro e I ⟨a7,rfl,hv,ar⟩;obtain⟨⟨M,Q,N⟩,rfl⟩:=hv.sl;have xC:=ZG ar;simp only[sl3]at hv⊢;go_wp2_with fail
 refine h.out _ _ (af.out I xC) (h:=fun L=>?_);clear h K;refine tkv 2 ?_;refine rd1 3 fun K h=>?_;go_simp;refine h.out _ _ (af.out _ (xC.alloc _)) (h:=fun L=>?_);clear h K;refine rd1 4 fun K h=>?_;go_simp;refine h.out _ _ (af.out _ (xC.alloc _)) (h:=fun L=>?_);clear h K;have aC:=zC I (cl #[V v x ac,V M Q N,V O 0 0,V O 0 0] 125);have xX:Ext f (I.alloc (cl #[V v x ac,V M Q N,V O 0 0,V O 0 0] 125)):=xC.alloc _;have ck:=hv.below ((Xe I).alloc (cl #[V v x ac,V M Q N,V O 0 0,V O 0 0] 125));have cV:=xC.size;generalize I.alloc (cl #[V v x ac,V M Q N,V O 0 0,V O 0 0] 125)=ay at *;generalize I.heap.size=i at *;clear xC ar hv;rotate_left;go_simp;refine h.out _ _ (af.out _ ((Xe f).drew.alloc _)) (h:=fun L=>?_);clear h K;refine rd1 1 fun K h=>?_;go_simp;go_at_call 134
 have aq:=zC f.drew (cl #[V O 0 0,V O 0 0,V O 0 0,V O 0 0] 125);have yB:Ext f (f.drew.alloc (cl #[V O 0 0,V O 0 0,V O 0 0,V O 0 0] 125)):=(Xe f).drew.alloc _;refine(bE.out _).mono ?_;rintro e I ⟨a7,rfl,hv,ar⟩;obtain⟨⟨M,Q,N⟩,rfl⟩:=hv.sl;have xC:=yB.trans (Xh ar);have hN:I.heap[f.heap.size]? =E (cl #[V O 0 0,V O 0 0,V O 0 0,V O 0 0] 125):=((Xh ar).block _ (zd.1 aq).1).trans aq;simp only[sl3]at hv⊢;go_wp2_with fail
 refine h.out _ _ (af.out I xC) (h:=fun L=>?_);clear h K;refine tkv 2 ?_;refine rd1 4 fun K h=>?_;have aC:=qG (i:=3) (v:=V O 0 0) (qG (i:=2) (v:=V O 0 0) (qG (i:=1) (v:=V M Q N) (qG (i:=0) (v:=V v x ac) hN)));have xX:Ext f ((((I.setCell (Xd f.heap.size 0 O) (V v x ac)).setCell (Xd f.heap.size 1 O) (V M Q N)).setCell (Xd f.heap.size 2 O) (V O 0 0)).setCell (Xd f.heap.size 3 O) (V O 0 0)):=(((xC.setCell (p:=(Xd f.heap.size 0 O)) (zh _) _).setCell (p:=(Xd f.heap.size 1 O)) (zh _) _).setCell (p:=(Xd f.heap.size 2 O)) (zh _) _).setCell (p:=(Xd f.heap.size 3 O)) (zh _) _;have cn:Wr (fun b=>b=f.heap.size) I ((((I.setCell (Xd f.heap.size 0 O) (V v x ac)).setCell (Xd f.heap.size 1 O) (V M Q N)).setCell (Xd f.heap.size 2 O) (V O 0 0)).setCell (Xd f.heap.size 3 O) (V O 0 0)):=((((Xi (fun b=>b=f.heap.size) I).trans (zv (U:=fun b=>b=f.heap.size) rfl _)).trans (zv (U:=fun b=>b=f.heap.size) rfl _)).trans (zv (U:=fun b=>b=f.heap.size) rfl _)).trans (zv (U:=fun b=>b=f.heap.size) rfl _);have ck:=hv.wr cn (fun b hb=>by rw[hb];exact zE hN n1);have k0:=c_ 0 hN;have k1:=c_ 1 hN;have k2:=c_ 2 hN;have k3:=c_ 3 hN;have f0:=Xg (j:=0) hN;have f1:=Xg (j:=1) hN;have f2:=Xg (j:=2) hN;have f3:=Xg (j:=3) hN;go_simp;refine h.out _ _ (af.out _ xX) (h:=fun L=>?_);clear h K;generalize (((I.setCell (Xd f.heap.size 0 O) (V v x ac)).setCell (Xd f.heap.size 1 O) (V M Q N)).setCell (Xd f.heap.size 2 O) (V O 0 0)).setCell (Xd f.heap.size 3 O) (V O 0 0)=ay at *;obtain⟨i,hg99⟩:∃i,f.heap.size=i:=⟨_,rfl⟩;have cV:f.heap.size<=i:=om;simp only[hg99]at aC⊢;clear xC ar hv hN aq yB cn k0 k1 k2 k3 f0 f1 f2 f3 hg99;all_goals
  refine zV kr ⟨rfl,?_⟩ _;clear L;gi_wp2;have dB:=(zd.1 aC).1;have dK:=xX.size;have dM:=hX.size;have aW:=hX.trans xX;have dF:aI.length<=1000:=by have:=b0.out;omega
  refine ZT (zgj aI ao cap bt om) rfl (qW func153 kr rfl) (fun aw a7 W=>by rintro⟨dr,_,rfl⟩;rfl)
   (FiI ay w.heap.size i (v,x,ac) (M,Q,N) aims rows) (fun _ _ _=>False) (fun b=>b=i) ?hI ?hIx ?hC ?h0 ?round ?done ?stop
  case hI=>exact fun aw a5 A B J hk=>⟨J.1,J.2.keep hk⟩
  case hIx=>exact fun _ _ _ _ J _=>J
  case hC=>
   rintro a1 a5 A ⟨h0,h1,a7,d,_,h3,_⟩;have aH:=qk aW h3.1 (fun b hb=>by rcases hb with e|e<;>omega);exact⟨⟨aH.cell cC.out,(bF.out.list.ext aH).recs⟩,h3.lt⟩
  case h0=>exact⟨qo _,qo _,_,[],by simp[jx],GrJ.start aC,fun a6 u e j=>by simp at j⟩
  case round=>
   rintro l2 a1 a7 a5 A d4 ⟨t0,aE,rfl⟩ ⟨h0,h1,a7,d,a8,Z,hE⟩;have aS:a1<rows.length:=by have:=b0.out;omega
   have aT:=zg aS;have cf:=cg _ (zJ aS);have aH:=qk aW Z.1 (fun b hb=>by rcases hb with e|e<;>omega);have aL:=zf (fun W (hx:Ext w W)=>(bF.out.row a1 t0 _ aE aT).ext hx);have cx:=zf (fun hs=>zrg (aims:=aims) aT hs);have cy:=zf (fun hs=>zrh (aims:=aims) aT hs);generalize rows[a1]=rj at *;have b1:=zf cf;have a9:=zf Z;have ax:=zf hE;have an:=zf a8;have dP:d.length<=4:=by have:=aY.out;omega
   obtain⟨a2,a3,rfl⟩:=Z.2.2.1.shape;rw[zm]at a9 Z;obtain⟨⟨fa,l,k⟩,⟨q,m,t,s⟩,y⟩:=t0;have dw:Hid (y=(rj.2:Int)):=(aL.out w (Xe w)).2.2;simp only[NT.val,NT.fv,WT.sv]at aL⊢;clear aE aT hE a8 cf;unfold Zz;gi_wp2;refine⟨Xf ((Xe A).alloc _),fun g ad=>?_⟩;have a0:=(zn.alloc ay.heap.size A (cl #[V fa l k,G q,V m t s,it Xb y] 117)).trans ad;have e0:=ad.block _ _ (zC A (cl #[V fa l k,G q,V m t s,it Xb y] 117)) (.inr rfl);have eC:=a0.block _ _ Z.2.1 (.inr rfl);have ch:=ad.size;simp only[zL]at ch;have dI:=Z.1.size;have cm:=Z.1.keep a0;have bl:=qk aW cm (fun b hb=>by rcases hb with e|e<;>omega);have bi:=qk xX cm (fun b hb=>by rcases hb with e|e<;>omega);have a4:=zf (fun W (hW:Ext g W)=>
    have q0:=(hW.block _ (zd.1 e0).1).trans e0;Xc (c_ 0 q0) (Xc (c_ 1 q0) (Xc (c_ 2 q0) (c_ 3 q0))))
   have cz:Hid (∀W,Calls pg 149 #[ag #[V fa l k]] W fun e w'=>∃b,e=Xa (.func (.func 172) #[] #[pn (E (Xd b 0 O))])/\w'.cell? (Xd b 0 O)=E (V fa l k)/\Below W.heap.size W w'):=fun W=>by
    refine(zde fa l k W).mono ?_;rintro e w' ⟨rfl,rfl⟩;exact⟨_,rfl,c_ 0 (Xj W _ _).2,((Xe W).alloc _).alloc _⟩
   have ct:=zf (fun W (hW:Ext g W) (b:Nat) hs=>zjI W fa l k rj.1.1 (aL.out W (bl.trans hW)).1 (by rw[b1.out.1];omega) b hs);have bx:=zf eC;have bp:=zf (aZ.out g bi);clear e0 eC Z;refine ZW (zcE ?_);refine jK (S:=fun W=>W.cell? (Xd A.heap.size 0 O)=E (V fa l k)/\W.cell? (Xd A.heap.size 1 O)=E (G q)/\W.cell? (Xd A.heap.size 2 O)=E (V m t s)/\W.cell? (Xd A.heap.size 3 O)=E (it Xb y)) hm (by rfl) (fun⟨a,w,J⟩=>J) (a4.out g (Xe _)) (fun L=>?_);refine tkl [0,1,2,3] ?_;have y0:=(Xe g).drew;refine rd2 4 7 (h:=fun K h=>?_) (h1:=fun K h=>?_);rotate_left;go_simp;refine h.out _ _ (a4.out _ (y0.alloc _)) (h:=fun L=>?_);clear h K;have aQ:g.heap.size<=g.heap.size:=zh _;have aq:(g.drew.alloc (cl #[V O 0 0,G false,V O 0 0,it Xb 0,V O 0 0] 192)).heap[g.heap.size]? =E (cl #[V O 0 0,G false,V O 0 0,it Xb 0,V O 0 0] 192):=zC g.drew _;have y0:Ext g (g.drew.alloc (cl #[V O 0 0,G false,V O 0 0,it Xb 0,V O 0 0] 192)):=y0.alloc _;refine rd1 4 fun K h=>?_;all_goals
    go_simp;refine(cz.out _).mono ?_;rintro e Y ⟨b,rfl,aR,bb⟩;have y1:=y0.trans (Xh bb);try have ba:=((Xh bb).block _ (zd.1 aq).1).trans aq
    go_wp2_with fail
    refine h.out _ _ (a4.out _ y1) (h:=fun L=>?_);clear h K
   refine rd1 5 fun K h=>?_;rotate_left;refine rd2 5 7 (h:=fun K h=>?_) (h1:=fun K h=>?_);rotate_left;go_simp;refine h.out _ _ (a4.out _ (y1.alloc _)) (h:=fun L=>?_);clear h K;have aQ:=y1.size;have ba:=zC Y (cl #[V O 0 0,G false,V O 0 0,it Xb 0,V O 0 0] 192);have y1:Ext g (Y.alloc (cl #[V O 0 0,G false,V O 0 0,it Xb 0,V O 0 0] 192)):=y1.alloc _;have aR:=((Xe Y).alloc (cl #[V O 0 0,G false,V O 0 0,it Xb 0,V O 0 0] 192)).cell aR;refine rd1 5 fun K h=>?_;all_goals
    go_simp;refine(ct.out _ y1 b aR).mono ?_;rintro e B2 ⟨⟨z,F,C⟩,rfl,aF,bc⟩;have y2:=y1.trans (Xh bc);try have ah:=((Xh bc).block _ (zd.1 ba).1).trans ba
    simp only[sl3]at aF⊢;go_wp2_with fail
    refine h.out _ _ (a4.out _ y2) (h:=fun L=>?_);clear h K;refine tkv 6 ?_
   refine rd1 8 fun K h=>?_;obtain⟨ab,aj,aD,⟨k0,k1,k2,k3,k4⟩,f0,f1,f2,f3,f4⟩:=zpD ah (V fa l k) (G q) (V m t s) (it Xb y) (V z F C);have ak:=qk y2 aj (fun aw hk=>by rw[hk];exact aQ);have av:=aF.wr aj (fun aw hk=>by rw[hk];exact aD);go_simp;refine h.out _ _ (a4.out _ ak) (h:=fun L=>?_);clear h K;generalize (((((B2.setCell (Xd Y.heap.size 0 O) (V fa l k)).setCell (Xd Y.heap.size 1 O) (G q)).setCell (Xd Y.heap.size 2 O) (V m t s)).setCell (Xd Y.heap.size 3 O) (it Xb y)).setCell (Xd Y.heap.size 4 O) (V z F C))=X3 at *;generalize b7:Y.heap.size=g7 at ab⊢;clear aj aD k0 k1 k2 k3 k4 f0 f1 f2 f3 f4 ah b7;rotate_left;refine rd1 8 fun K h=>?_;obtain⟨ab,aj,aD,⟨k0,k1,k2,k3,k4⟩,f0,f1,f2,f3,f4⟩:=zpD ah (V fa l k) (G q) (V m t s) (it Xb y) (V z F C);have ak:=qk y2 aj (fun aw hk=>by rw[hk];exact aQ);have av:=aF.wr aj (fun aw hk=>by rw[hk];exact aD);go_simp;refine h.out _ _ (a4.out _ ak) (h:=fun L=>?_);clear h K;generalize (((((B2.setCell (Xd g.heap.size 0 O) (V fa l k)).setCell (Xd g.heap.size 1 O) (G q)).setCell (Xd g.heap.size 2 O) (V m t s)).setCell (Xd g.heap.size 3 O) (it Xb y)).setCell (Xd g.heap.size 4 O) (V z F C))=X3 at *;generalize b7:g.heap.size=g7 at ab⊢;clear aj aD k0 k1 k2 k3 k4 f0 f1 f2 f3 f4 ah b7;rotate_left;refine rd1 7 fun K h=>?_;go_simp;refine h.out _ _ (a4.out _ (y2.alloc _)) (h:=fun L=>?_);clear h K;refine rd1 8 fun K h=>?_;go_simp;refine h.out _ _ (a4.out _ (y2.alloc _)) (h:=fun L=>?_);clear h K;have ab:=zC B2 (cl #[V fa l k,G q,V m t s,it Xb y,V z F C] 192);have ak:Ext g (B2.alloc (cl #[V fa l k,G q,V m t s,it Xb y,V z F C] 192)):=y2.alloc _;have av:=aF.ext ((Xe B2).alloc (cl #[V fa l k,G q,V m t s,it Xb y,V z F C] 192));have aQ:=y2.size;generalize B2.alloc (cl #[V fa l k,G q,V m t s,it Xb y,V z F C] 192)=X3 at *;generalize B2.heap.size=g7 at *;all_goals
    refine zV kr ?_ _;clear L;have cA:=c_ 0 ((ak.block _ (zd.1 bp.out.1).1).trans bp.out.1);have q4:=c_ 4 ab;have b2:=zf (bG.out X3 (bl.trans ak) _ rj.1.1 av b1.out.1 b1.out.2.1);have cU:=(zd.1 ab).1;clear aR bb bc aF y0 y1 y2;refine(show(Code.seq _ _).wpIn _ _ _ _ _ _ from zcP (fun K2 bO=>?_));have bB:=zf bO;clear bO;refine Qt (by rfl) (fun⟨a,w,J⟩=>J) ?_;go_wp2_with fail
    refine b2.out.mono ?_;rintro e A4 ⟨rfl,ai⟩;have x4:=ak.trans (Xh ai);have r7:=((Xh ai).block _ cU).trans ab;have bg:=av.ext (Xh ai);have cF:=zf (aL.out A4 (bl.trans x4));have rC:=(x4.block _ (zd.1 bx.out).1).trans bx.out;simp only[sl3]at rC;have r0:=c_ 0 r7;have r1:=c_ 1 r7;have r2:=c_ 2 r7;have dQ:=c_ 3 r7;have r4:=c_ 4 r7;have cE:=c_ 3 rC;by_cases db:0<Qx (qT aims rj.1.1)
    ·obtain⟨c4,bZ⟩:=cx.out db;have aX:=zf c4;have a8:=an.out;have ci:zbY A4 ⟨⟨(fa,l,k),⟨q,m,t,s⟩,y⟩,(z,F,C)⟩ ⟨rj.1,rj.2,rj.1.1⟩:=⟨cF.out,bg⟩;have br:=zf (fun(A5 A6:H) hx4 grow=>GrJ.boxed (A4:=A5) (A5:=A6) a9.out a0 hx4 grow);have bD:=zf (fun(A8:H) (g8 b3:Nat) own grow aM dig=>ExI.more2 (X3:=A4) (A8:=A8) (g8:=g8) (cap8:=b3) (u:=⟨⟨(fa,l,k),⟨q,m,t,s⟩,y⟩,(z,F,C)⟩) (o:=cl #[V fa l k,G q,V m t s,it Xb y,V z F C] 192) a8 a9.out ax.out a0 x4 om bZ ci own grow aM dig);have bj:Wr (fun b=>A.heap.size<=b) g (A4.alloc (cl #[V fa l k,G q,V m t s,it Xb y,V z F C] 192)):=Xf (x4.alloc _);have b6:=a9.out.fresh a0 bj;have bf:=b6.2.2.1.own;rw[zm]at bf;have bY:=b6.2.2.1.dig;have dH:=x4.size;clear b6 a8 c4 bZ ci bg ai b2 ab av;go_wp2_with fail
     refine bB.out _ _ ?_;refine zcQ rfl ?_;refine Qt (by rfl) (fun⟨a,w,J⟩=>J) ?_;go_wp2_with (at_builtin;refine dd _ ?_)
     unfold Hid;refine JI _ rfl _ _ 123 rfl w.heap.size 192 i0 (ag #[V O 0 0,G false,V O 0 0,it Xb 0,V O 0 0]) 5 88 underlying123 cY dj dk dl rfl dc (V a2 d.length a3) d.length (d.map ET.cells).flatten rfl bf ⟨A4.heap.size,0,O⟩ 1 1 [V fa l k,G q,V m t s,it Xb y,V z F C] rfl rfl (rec_new A4 [V fa l k,G q,V m t s,it Xb y,V z F C] 192) (by intro u j;simp only[zI,zY,Zp]at j;rcases j with rfl|rfl|rfl|rfl|rfl<;>rfl) om mo om so (A4.heap.size+1) sp (by intro u j;simp[Value.cells]at j;rcases j with rfl|rfl|rfl|rfl|rfl<;>(intro n e;cases e)) (by intro u j;simp only[zI,zY,Zp]at j;rcases j with rfl|rfl|rfl|rfl|rfl<;>(intro n e;cases e)) bY ?_;intro g8 b3 A8 cp b4 aM dq bJ;have b8:=br.out _ A8 bj b4;have c8:=c_ 3 b8;have f8:=Xg (j:=3) b8;have HF:=zf (bD.out A8 g8 b3 cp b4 (aM.imp id (fun e=>so)) bJ);clear cp b4 aM dq bJ b8 bf bY bj br bD;go_wp2_with fail
     obtain⟨m1,M',m2,m3⟩:=HF.out;exact⟨m1,M',⟨aS,by rw[aX.out];exact m2⟩,m3⟩
    ·have aX:=zf (cy.out om);have dL:Qx (qT aims rj.1.1)<=0:=om;have cB:=zf (a9.out.keep (a0.trans (zn.of_below x4)));have cw:=zf (fun a6 u e j X=>((ax.out a6 u e j X).keep a0).ext x4);clear bg ai b2 ab av;go_wp2_with fail
     refine bB.out _ _ ?_;refine zd7 (show G (decide (0<Qx (qT aims rj.1.1)))=G false by rw[J2 om]) (wpIn_skip ?_);refine⟨Xf x4,a5,⟨aS,?_⟩,fun aJ hx=> .inl hx⟩;rw[aX.out];exact⟨h1,_,d,an.out,cB.out,cw.out⟩
  case done=>
   rintro D1 a5 A dx ⟨h0,h1,a7,d,a8,Z,hE⟩ bW;rw[b0.out,Zx]at a8;obtain⟨a2,a3,rfl⟩:=Z.2.2.1.shape;rw[zm]at Z;have cj:d.length=n:=by rw[a8];exact aY.out
   have aH:=qk aW Z.1 (fun b hb=>by rcases hb with e|e<;>omega);have df:=qk xX Z.1 (fun b hb=>by rcases hb with e|e<;>omega);have eC:=Z.2.1;simp only[sl3]at eC;have cE:=c_ 3 eC;have cP:=c_ 2 eC;have cL:=c_ 0 eC;have cM:=c_ 1 eC;have cW:=(zd.1 eC).1;have fP:=Xg (j:=2) eC;have d8:∀W:H,(Instr.makeSlice 106 (it Xb (d.length:Nat)) (it Xb (d.length:Nat))).run pg W= .ok (V (E (Xd W.heap.size 0 O)) d.length d.length) (W.alloc (cl (madeCells #[G false,V O 0 0] (d.length*2)) 75)):=by
    intro W;have:=run_make (P:=pg) W 106 75 j0 _ underlying106 cZ dm Xb Xb (d.length:Int) (d.length:Int) om om (by rw[dp];omega) om;rw[dn,jT]at this;exact this
   have bH:=zf cj;have an:=zf a8;have a9:=zf Z;have ax:=zf hE;clear Z hE a8 cj;gi_wp2;have ae:Wr (fun b=>b=i) A ((A.setCell (Xd i 2 O) (V (E (Xd A.heap.size 0 O)) d.length d.length)).alloc (cl (madeCells #[G false,V O 0 0] (d.length*2)) 75)):=(zv (U:=fun b=>b=i) rfl _).trans (Xf ((Xe _).alloc _));have b9:=(qH (A.setCell (Xd i 2 O) (V (E (Xd A.heap.size 0 O)) d.length d.length)) (cl (madeCells #[G false,V O 0 0] (d.length*2)) 75) i (by simpa using cW)).trans (qG (i:=2) (v:=V (E (Xd A.heap.size 0 O)) d.length d.length) eC);have bP:((A.setCell (Xd i 2 O) (V (E (Xd A.heap.size 0 O)) d.length d.length)).alloc (cl (madeCells #[G false,V O 0 0] (d.length*2)) 75)).heap[A.heap.size]? =E (cl (madeCells #[G false,V O 0 0] (d.length*2)) 75):=by
    have:=zC (A.setCell (Xd i 2 O) (V (E (Xd A.heap.size 0 O)) d.length d.length)) (cl (madeCells #[G false,V O 0 0] (d.length*2)) 75);simpa using this
   have aO:∀b,b=i->(¬qQ A b 75/\qK A b)/\¬qQ A b 192:=fun b hb=>by
    rw[hb];exact⟨⟨fun ht=>absurd (ht.one ⟨_,_,eC⟩) dc,zE eC (by intro u j;simp at j;rcases j with rfl|rfl|rfl|rfl<;>(intro n e;cases e))⟩,fun ht=>absurd (ht.one ⟨_,_,eC⟩) dc⟩
   have bK:∀b,b=i\/b=i->qK ay b:=fun b hb=>by
    have hb:b=i:=by rcases hb with e|e<;>exact e
    rw[hb];exact zE aC (by intro u j;simp at j;rcases j with rfl|rfl|rfl|rfl<;>(intro n e;cases e))
   have bR:=(ck.wr a9.out.1 bK).wr ae (fun b hb=>(aO b hb).1.2);have bT:=zjA bP;have bV:=(a9.out.2.2.1.list).wr ae (fun b hb=>(aO b hb).2);have bN:∀(a6:Nat) (u:ET) (e:Edg),d[a6]? =E u->(jx aims rows)[a6]? =E e->zbY _ u e:=fun a6 u e j X=>(ax.out a6 u e j X).wr ae (fun b hb=>(aO b hb).1)
   have bd:=ae.some bW (fun e=>om);have di:Ext w _:=qk aH ae (fun b hb=>om);have dh:Ext f _:=qk df ae (fun b hb=>om);have dJ:=ae.size;generalize (A.setCell (Xd i 2 O) (V (E (Xd A.heap.size 0 O)) d.length d.length)).alloc (cl (madeCells #[G false,V O 0 0] (d.length*2)) 75)=wM at *;have bA:=zf (zgM ⟨(v,x,ac),(M,Q,N),(E (Xd A.heap.size 0 O),d.length,d.length),(a2,d.length,a3)⟩ wM);simp only[CT.val,sl3]at bA;clear ae bP aO bK eC cE cP cL cM fP bW d8 a9 ax;refine(zq.2 bA.out).mono ?_;rintro e w2 ⟨rfl,bh⟩;have x2:Ext wM w2:=by rw[bh];exact((Xe wM).alloc _).alloc _
   have kv:w2.cell? ⟨wM.heap.size+1,0,O⟩=E (V a2 d.length a3):=by rw[bh];exact c_ 0 (Xj _ _ _).2
   have cX:=(zd.1 b9).1;have aN:=(x2.block _ cX).trans b9;have aP:=(x2.block _ (zd.1 bd).1).trans bd;have ah:=bR.below x2;have cQ:=bT.ext x2;have bU:=bV.ext x2;have bv:=zf (fun a6 u e j X=>(bN a6 u e j X).ext x2);have co:=di.trans x2;have bi:=dh.trans x2;have ch:=x2.size;have dO:d.length<=4:=by have:=bH.out;omega
   have ap:∀b,b=i->(¬qQ w2 b 75/\qK w2 b)/\¬qQ w2 b 192:=fun b hb=>by
    rw[hb];exact⟨⟨fun ht=>absurd (ht.one ⟨_,_,aN⟩) dc,zE aN (by intro u j;simp at j;rcases j with rfl|rfl|rfl|rfl<;>(intro n e;cases e))⟩,fun ht=>absurd (ht.one ⟨_,_,aN⟩) dc⟩
   have dC:w.heap.size+1<i:=om;have cb:=znb (es:=jx aims rows) (n:=n) (D:=D) (fun e X=>⟨(aK.out e X).1.2,(aK.out e X).2.2,(aK.out e X).2.1.2⟩);have cD:=zf cb;have bS:ptF (jx aims rows) n 0=List.replicate d.length 0:=by rw[bH.out];rfl
   have cG:=zf bS;clear bh b9 bd bR bT bV bN cb bS;gi_wp2;refine ZT (zcs d a2 a3 (wM.heap.size+1) om) rfl (qW func286 kr rfl) (fun aw a7 W=>by rintro⟨dr,_,rfl⟩;rfl)
    (PtI w2 D1 i (v,x,ac) (M,Q,N) (a2,d.length,a3) (jx aims rows) n) (fun _ _ _=>False) (fun b=>b=i) ?iI ?iIx ?iC ?i0 ?iround ?idone ?istop
   case iI=>
    rintro a1 a5 B dv ⟨R,⟨pv,p2,p3⟩,p4,p5⟩ hk;exact⟨R.keep hk,⟨pv,hk.block _ _ p2 (.inr rfl),p3.keep hk⟩,hk.block _ _ p4 (.inl (by have:=(zd.1 aP).1;omega)),p5⟩
   case iIx=>exact fun _ _ _ _ J _=>J
   case iC=>
    rintro a1 a5 B ⟨R,p2,p4,p5⟩;refine⟨⟨R.cell (p:=⟨wM.heap.size+1,0,O⟩) (fun e=>by simp at e;omega) kv,(bU.wr R (fun b hb=>(ap b hb).2)).recs⟩,fun b hb=>?_⟩;have:=R.size;have:=(p5 b).1 hb;omega
   case i0=>exact⟨Xi _ _,⟨(E (Xd A.heap.size 0 O),d.length,d.length),aN,by rw[cG.out];exact cQ⟩,aP,fun b=>Qb⟩
   case iround=>
    rintro l2 a1 a7 a5 B d4 ⟨t0,aE,rfl⟩ ⟨R,⟨⟨pa,pl,pc⟩,p2,p3⟩,p4,p5⟩;have c9:a1<(jx aims rows).length:=by have:=an.out;omega
    have be:=zg c9;obtain⟨⟨_,d5⟩,d7,d6⟩:=aK.out _ (zJ c9);obtain⟨cd,d9⟩:=cD.out a1 om;have cH:=zf (zmb (n:=n) be);have b5:=(bv.out a1 t0 _ aE be).wr R (fun b hb=>(ap b hb).1);have bQ:=ah.wr R (fun b hb=>(ap b hb).1.2);generalize (jx aims rows)[a1]=ej at *;have dD:a1<=4:=om;have da:Zu (gB D) (ptF (jx aims rows) n a1):=d9.mono (by unfold gB;exact zZ _ om);have cO:=R.size;have bn:=qk co R (fun b hb=>om);obtain⟨⟨⟨fa,l,k⟩,⟨q,m,t,s⟩,y⟩,⟨z,F,C⟩⟩:=t0;simp only[ET.val,NT.fv,WT.sv,ET.lv,sl3]at p2 p3⊢;clear aE be;unfold Zz;gi_wp2;refine⟨Xf ((Xe B).alloc _),fun g ad=>?_⟩;have a0:=(zn.alloc w2.heap.size B (cl #[V fa l k,G q,V m t s,it Xb y,V z F C] 192)).trans ad;have e0:=ad.block _ _ (zC B (cl #[V fa l k,G q,V m t s,it Xb y,V z F C] 192)) (.inr rfl);have e9:=a0.block _ _ p2 (.inr rfl);have eD:=a0.block _ _ p4 (.inl (by have:=(zd.1 aP).1;omega));have de:=R.keep a0;have dN:=a0.size;have a4:=zf (fun W (hW:Ext g W)=>
     have q9:=(hW.block _ (zd.1 e9).1).trans e9;have q0:=(hW.block _ (zd.1 e0).1).trans e0;Xc (Xc (c_ 0 q9) (Xc (c_ 1 q9) (Xc (c_ 2 q9) (c_ 3 q9)))) (Xc (c_ 1 q0) (Xc (c_ 2 q0) (c_ 4 q0))))
    have bu:=zf (fun(W:H) (hx:Ext g W) (u:WT) (j:zy W u.val 1)=>zf9 K (by have:=hc.k;omega) W ⟨(v,x,ac),(M,Q,N),(pa,pl,pc),(a2,d.length,a3)⟩ 1 ((bQ.keep a0).below hx) dc (V pa pl pc) (V z F C) (ptF (jx aims rows) n a1) ej.loss ((p3.keep a0).ext hx) ((b5.2.keep a0).ext hx) (by rw[cd,d5]) (by rw[cd];exact cc) u ⟨q,m,t,s⟩ 1 ej.row.2 j ((b5.1.2.1.keep a0).below hx) da (d6.mono hc.le_gain) ((Xo (zh 1)).mono (zF hc.d hc.le_gain)) (d7.2.mono hc.le_gain) hc.gain hc.cross (qu hc.d hc.one));simp only[CT.val,sl3,WT.val,WT.sv]at bu;have bw:=zf e9;have bz:=zf eD;have cI:=zf de;have bC:=zf p5;clear e0 e9 eD p2 p3 p4 p5 b5 bQ;refine ZW ?_;refine zav 12 (S:=fun W=>(W.cell? (Xd i 0 O)=E (V v x ac)/\W.cell? (Xd i 1 O)=E (V M Q N)/\W.cell? (Xd i 2 O)=E (V pa pl pc)/\W.cell? (Xd i 3 O)=E (V a2 d.length a3))/\W.cell? (Xd B.heap.size 1 O)=E (G q)/\W.cell? (Xd B.heap.size 2 O)=E (V m t s)/\W.cell? (Xd B.heap.size 4 O)=E (V z F C)) hm (by rfl) (fun⟨a,w,J⟩=>J) (a4.out g (Xe _)) (h:=fun L=>?_);refine tkl [0,1,2,4,5,6,7,8,9] ?_;refine rcl 3 (cJ.out _) ?_;rintro e A4 ⟨_,rfl,hy,ai⟩;have x4:=ZG ai;obtain⟨⟨yb,ds,du,dt⟩,rfl⟩:=hy.shape;have bs:=zf (bu.out A4 x4 ⟨yb,ds,du,dt⟩ hy);simp only[WT.val,WT.sv]at bs⊢;refine bk (a4.out _ x4) fun L=>?_
    refine rcl 10 bs.out ?_;rintro e A5 ⟨⟨az,aB,aA⟩,rfl,c6,cT⟩;have x5:=x4.trans (Xh cT);have q9:=(x5.block _ (zd.1 bw.out).1).trans bw.out;have c2:=c_ 2 q9;have f2:=Xg (j:=2) q9;have aU:Wr (fun b=>b=i) A5 (A5.setCell (Xd i 2 O) (V az aB aA)):=zv (U:=fun b=>b=i) rfl _;have HF:Hid (Wr a5 g (A5.setCell (Xd i 2 O) (V az aB aA))/\∃M',PtI w2 D1 i (v,x,ac) (M,Q,N) (a2,d.length,a3) (jx aims rows) n (a1+1) M' (A5.setCell (Xd i 2 O) (V az aB aA))/\∀aJ,M' aJ->a5 aJ\/B.heap.size<=aJ):=by
     refine⟨((Xf x5).trans aU).mono (fun b hb=>(bC.out b).2 hb),a5,⟨(cI.out.trans (Xf x5)).trans aU,⟨(az,aB,aA),qG (i:=2) (v:=V az aB aA) q9,?_⟩,aU.some ((x5.block _ (zd.1 bz.out).1).trans bz.out) (fun e=>om),bC.out⟩,fun aJ hx=> .inl hx⟩;rw[cH.out];exact c6.wr aU (fun b hb=>by rw[hb];exact⟨fun ht=>absurd (ht.one ⟨_,_,q9⟩) dc,zE q9 (by intro u j;simp at j;rcases j with rfl|rfl|rfl|rfl<;>(intro n e;cases e))⟩)
    simp only[sl3]at c6⊢;refine bk (a4.out _ x5) fun L=>?_
    refine tkv 11 ?_;refine zV kr (zbP (h:=?_)) _;go_simp;exact HF.out
   case idone=>
    rintro D2 a5 B dz ⟨R,⟨⟨pa,pl,pc⟩,p2,p3⟩,p4,p5⟩ bX;have cO:=R.size;have dy:=(zd.1 aP).1;have bn:=qk co R (fun b hb=>om);have dg:=qk bi R (fun b hb=>om);have c7:ptF (jx aims rows) n d.length=(zb9 aims rows).point:=by
     show((jx aims rows).take d.length).foldl _ _=(jx aims rows).foldl _ (List.replicate (jx aims rows).length 0)
     rw[an.out,Zx,aY.out]
    rw[c7]at p3;have bL:JF B aims ⟨(v,x,ac),(M,Q,N),(pa,pl,pc),(a2,d.length,a3)⟩ (zb9 aims rows) d:=
     ⟨bq.out B bn,ah.wr R (fun b hb=>(ap b hb).1.2),p3,an.out,bU.wr R (fun b hb=>(ap b hb).2),fun a6 u e j X=>(bv.out a6 u e j X).wr R (fun b hb=>(ap b hb).1)⟩
    have r2:=(aZ.out B dg).2;simp only[sl3]at p2;have k0:=c_ 0 p2;have k1:=c_ 1 p2;have k2:=c_ 2 p2;have k3:=c_ 3 p2;have c0:=c_ 0 r2;have c1:=c_ 1 r2;have c2:=c_ 2 r2;have c3:=c_ 3 r2;have f0:=Xg (j:=0) r2;have f1:=Xg (j:=1) r2;have f2:=Xg (j:=2) r2;have f3:=Xg (j:=3) r2;have aG:Wr (fun b=>b=w.heap.size+1) B ((((B.setCell ⟨w.heap.size+1,0,O⟩ (V v x ac)).setCell ⟨w.heap.size+1,1,O⟩ (V M Q N)).setCell ⟨w.heap.size+1,2,O⟩ (V pa pl pc)).setCell ⟨w.heap.size+1,3,O⟩ (V a2 d.length a3)):=((((Xi (fun b=>b=w.heap.size+1) B).trans (zv (U:=fun b=>b=w.heap.size+1) rfl _)).trans (zv (U:=fun b=>b=w.heap.size+1) rfl _)).trans (zv (U:=fun b=>b=w.heap.size+1) rfl _)).trans (zv (U:=fun b=>b=w.heap.size+1) rfl _);have qZ:=qG (i:=3) (v:=V a2 d.length a3) (qG (i:=2) (v:=V pa pl pc) (qG (i:=1) (v:=V M Q N) (qG (i:=0) (v:=V v x ac) r2)));have cu:=zf (bL.wr aG (fun b hb=>by rw[hb];exact⟨⟨fun ht=>absurd (ht.one ⟨_,_,r2⟩) dc,zE r2 n1⟩,fun ht=>absurd (ht.one ⟨_,_,r2⟩) dc⟩));have cv:=zf (Xc (c_ 0 qZ) (Xc (c_ 1 qZ) (Xc (c_ 2 qZ) (c_ 3 qZ))));have bI:=zf (aG.some bX (fun e=>om));have cK:=zf (aG.some p4 (fun e=>om));have cr:=zf (qk bn aG (fun b hb=>om));clear bL R p2 p3 p4 p5 bX r2 aG qZ c7;gi_wp2;refine qh bI.out ?_;have ad:=zn.putObj (B:=w.heap.size) (.deferred O) om bI.out rfl;have ce:=(Z4 (o:= .deferred O) (by omega:D1≠D2)).trans cK.out;refine qh ce ?_;have au:=ad.trans (zn.putObj (B:=w.heap.size) (.deferred O) om ce rfl);obtain⟨d0,d1,d2,d3⟩:=cv.out;have j0:=au.cell d0;have j1:=au.cell d1;have j2:=au.cell d2;have j3:=au.cell d3;exact⟨ag #[V v x ac,V M Q N,V pa pl pc,V a2 d.length a3],by simp[results,results79,go_sem,j0,j1,j2,j3],⟨(v,x,ac),(M,Q,N),(pa,pl,pc),(a2,d.length,a3)⟩,d,rfl,rfl,cu.out.keep au,au.below cr.out (zh _) (zh _)⟩
   case istop=>exact fun _ _ _ _ _ _ J _=>J.elim
  case stop=>exact fun _ _ _ _ _ _ J _=>J.elim
