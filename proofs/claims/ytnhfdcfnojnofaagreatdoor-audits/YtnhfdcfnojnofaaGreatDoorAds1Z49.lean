import Derived.Test.YtnhfdcfnojnofaaGreatDoorAds1Z47
import Derived.Test.YtnhfdcfnojnofaaGreatDoorAds1Z45
open Option renaming none->O,some->E
open Go.Value renaming slice->V,bool->G,string->gS,pointer->pn,tuple->tp,int->it,agg->ag
open Go.Obj renaming cells->cl
open Go renaming World->H
open Go.Proofs.Tryz renaming prog->pg
open Go.Proofs.Tryz
set_option linter.unusedSimpArgs false
set_option linter.unusedVariables false
set_option maxHeartbeats 4000000
set_option maxRecDepth 100000
namespace Go.Proofs.YtnhfdcfnojnofaaGreatDoor
open Go.RowKit
def zaY (W:H)(fid:Nat)(fst:Array Value)(p:qo)(kind z:Int):Prop:=
 (kind≠1/\fid=160/\fst=#[])\/(kind=1/\fid=253/\∃r:RW,fst=#[r.val]/\QC W r (p.mx,z))
theorem zaY.keep {B:Nat}{w w':H}{a:Nat}{b:Array Value}{p:qo}{kind z:Int}(h:zaY w a b p kind z)(e:zw B w w'):zaY w' a b p kind z:=by
 rcases h with h|⟨a,b,r,c,d⟩
 ·exact .inl h
 ·exact .inr ⟨a,b,r,c,d.keep e⟩
theorem zaY.ext {w w':H}{a:Nat}{b:Array Value}{p:qo}{kind z:Int}(h:zaY w a b p kind z)(c:Ext w w'):zaY w' a b p kind z:=h.keep (B:=0) (zw.of_below c)
theorem zaY.wr {U:Nat->Prop}{w w':H}{a:Nat}{b:Array Value}{p:qo}{kind z:Int}(h:zaY w a b p kind z)(f:Wr U w w')(e:∀k,U k->¬QI w k 101/\qU w k):zaY w' a b p kind z:=by
 rcases h with h|⟨a,b,r,c,d⟩
 ·exact .inl h
 ·exact .inr ⟨a,b,r,c,d.wr f e⟩
def FitsR (n K:Nat)(x:List Int×Int):Prop:=x.1.length=n/\(∀z∈x.1,z.natAbs<4294967296^K)/\x.2.natAbs<4294967296^K
theorem zn4 {n:Nat}{l:List Int}(h:l.length=n):(l.all fun z=>decide (z=0))=decide (l=List.replicate n 0):=by
 rw[QD,qR,zbV,List.eq_replicate_iff];constructor
 ·intro a;exact⟨h,fun z b=>QU (a z b)⟩
 ·rintro⟨_,a⟩ z b;exact qH (a z b)
theorem zov {w:H}{a:Nat}{b:Array Value}{p:qo}{kind z:Int}{K:Nat}(k:K<=1073741823)(g:p.n<=100000)(d:FitsR p.n K (p.mx,z))(h:zaY w a b p kind z):GoalOK w a b (jM p kind z) (FitsR p.n K):=by
 rcases h with ⟨b,rfl,rfl⟩|⟨b,rfl,l,rfl,j⟩
 ·refine⟨ZJ func160 kr rfl,fun W r x f e a=>?_⟩;refine(zj4 W r x e (by rw[a.1];exact g)).mono ?_;rintro i m ⟨rfl,c⟩;refine⟨?_,c⟩;unfold jM;rw[zW b,zn4 a.1]
 ·refine⟨ZJ func253 kr rfl,fun W r x f e a=>?_⟩;refine(znP K k W l r (p.mx,z) x (j.ext f) e (by rw[d.1,a.1]) (by rw[d.1];exact g) d.2 a.2).mono ?_;rintro i m ⟨rfl,c⟩;refine⟨?_,c⟩;unfold jM;rw[z8 b];congr 2
  rw[Q8];exact eq_comm
attribute [local go_sem] qm qW ZR
theorem zeH {L:Nat}{p:qo}(a:ji L p)(b:2+p.n<=L):(T.zaV p).length<=20:=by
 obtain⟨_,_⟩:=a.n om;rw[zeA,zgQ];have b:=a.l;have b:∀l:List (List Int×List UInt8×Int),(l.flatMap T.jK).length<=2*l.length:=by
  intro l;induction l with
  |nil=>simp
  |cons a l c=>
   rw[J8,zX,Zo];have:(T.jK a).length<=2:=by
    unfold T.jK;rw[zX];split<;>split<;>simp
   omega
 have:=b p.rows;omega
theorem ziJ {L:Nat}(p:qo)(cs:List JB)(rs:List RwV)(m s:Nat)(a b:Option Addr)(cap c:Nat)(w:H)(x:ji L p)(D:2+p.n<=L)(h:PM p cs rs m s a b w):
 Calls pg 95 #[ag #[V a p.n cap,V b p.rows.length c]] w fun e w'=>∃(t:Nat) (P:Value),e= .returned (pn (E ⟨t,0,O⟩))/\w'.heap[t]? =E (cl #[it .i64 (p.n:Nat),P] 267)/\zcv w.heap.size w' P (T.zaV p)/\w.heap.size<=t/\Below w.heap.size w w':=by
 obtain⟨_,_⟩:=x.n om;have a1:=zeH x D;have U:Hid (∀(W:H) (d:Nat),Ext w W->W.cell? ⟨d,0,O⟩=E (V a p.n cap)->W.cell? ⟨d,1,O⟩=E (V b p.rows.length c)->Calls pg 163 #[.func (.func 260) #[] #[pn (E ⟨d,0,O⟩)]] W fun e w'=>∃(f:Option Addr×Nat×Nat),e= .returned (V f.1 f.2.1 f.2.2)/\zcv w.heap.size w' (V f.1 f.2.1 f.2.2) (T.zaV p)/\Below W.heap.size W w'):=by
  intro W d g h0 h1;have C:LdC p cs rs m s a b cap c d W:=⟨h0,h1,h.ext g⟩;refine(zjJ _ _ (T.zaV p) _ _ (zjH p cs rs m s a b cap c d x D) (ZJ func260 kr rfl) (fun a0 N W a2 hx hy=>by
   obtain⟨M,n,_,B,Z⟩:=hy;rw[hx]at B;cases B;exact⟨M,n,Z⟩) (fun a0 N W ⟨M,n,_⟩=>by rw[n];rfl) om W C (zil C)).mono ?_
  rintro e w' ⟨N,ts,rfl,q1,K,q3,_,q5⟩;obtain⟨va,vc,rfl⟩:=K.shape;exact⟨(va,_,vc),rfl,⟨ts,q1,K.mono g.size,q3⟩,q5⟩
 have v:Ext w (w.alloc (cl #[V a p.n cap,V b p.rows.length c] 109)):=(Ext.refl w).alloc _;have u:=zq w (cl #[V a p.n cap,V b p.rows.length c] 109);have l:=zi (fun(W:H) (g:Ext (w.alloc (cl #[V a p.n cap,V b p.rows.length c] 109)) W)=>And.intro (g.cell (c_ 0 u)) (g.cell (c_ 1 u)));clear h;go_enter func95,ntmps95
 go_wp2_with fail
 generalize w.alloc (cl #[V a p.n cap,V b p.rows.length c] 109)=i at *;have R:=Ext.refl i;obtain⟨_,_⟩:=l.out i R;clear u;go_region_held3 (fun W=>W.cell? ⟨w.heap.size,0,O⟩=E (V a p.n cap)/\W.cell? ⟨w.heap.size,1,O⟩=E (V b p.rows.length c)) (first|(exact l.out _ ea)|(exact l.out _ (A.alloc _))|go_keep) (first|(go_at_call 163;refine(U.out k _ (v.trans Q) k0 k1).mono ?_;rintro e z ⟨⟨o,r,q⟩,rfl,I,F⟩;have A:Ext i z:=Q.trans (Ext.of F))|(go_at_call 164;refine(zkw a b p.n cap p.rows.length c _).mono ?_;rintro e k ⟨rfl,j⟩;have Q:Ext i k:=(by rw[j];exact x1.alloc _);have k0:k.cell? ⟨y.heap.size,0,O⟩=E (V a p.n cap):=(by rw[j];exact c_ 0 (zq _ _));have k1:k.cell? ⟨y.heap.size,1,O⟩=E (V b p.rows.length c):=(by rw[j];exact c_ 1 (zq _ _));clear j)|(go_at_call 87;refine(zgO a b p.n cap p.rows.length c _ om).mono ?_;rintro e y ⟨rfl,J⟩;have x1:Ext i y:=(by rw[J];exact R.drew.alloc _);clear J))
 all_goals
  have hz:=(v.trans A).size;have X:=zi (I.ext ((Ext.refl z).alloc (cl #[it .i64 (p.n:Nat),V o r q] 267)));have S:=zi (zq z (cl #[it .i64 (p.n:Nat),V o r q] 267));have Y:=zi ((v.trans A).alloc (cl #[it .i64 (p.n:Nat),V o r q] 267));clear I F;go_wp2;go_ret;exact⟨_,_,rfl,S.out,X.out,hz,Y.out⟩
theorem zaf {m K:Nat}(h:m<=4*K):10^m<4294967296^K\/K=0:=by
 rcases Qc K with a|a
 ·exact .inr a
 ·left
  have a:10^m<=10^(4*K):=qz om h;have a:10^(4*K)=10000^K:=by rw[Nat.pow_mul]
  have a:10000^K<4294967296^K:=Nat.pow_lt_pow_left om om;omega
theorem zdn {M:Nat}:∀(c d:List Int) (j:Nat),(∀a∈c,∀b∈d,(a*b).natAbs<=M)->(T.ju (c.take j) (d.take j)).natAbs<=j*M
 |[],d,j,_=>by cases j<;>simp[T.ju]
 |g::c,[],j,_=>by cases j<;>simp[T.ju]
 |g::c,x::d,0,_=>by simp[T.ju]
 |g::c,x::d,j+1,h=>by
  have i:=zdn c d j (fun a e b f=>h a (Zu _ e) b (Zu _ f));have e:=h g ZS x ZS;unfold T.ju at i⊢;simp only[List.take_succ_cons,List.zipWith_cons_cons,zbo];have e:=zaT (g*x) (List.zipWith (· * ·) (c.take j) (d.take j)).sum;rw[Nat.succ_mul];omega
theorem zmF {L:Nat}(p:qo)(cs:List JB)(rs:List RwV)(y A:Nat)(b g:Option Addr)(cap i:Nat)(w:H)(q:ji L p)(s:2+p.n<=L)(h:PM p cs rs y A b g w)(pa:Option Addr)(k d:Nat)(a:List Int)(t:Jm w (V pa k d) a)(c:a.length=p.n)(m:∀z∈a,z.natAbs<=10^100):
 Calls pg 251 #[V pa k d,ag #[V b p.n cap,V g p.rows.length i]] w fun e w'=>e= .returned (G (J9 (T.zaV p) a))/\Below w.heap.size w w':=by
 obtain⟨_,_⟩:=q.n om;have c:=zeH q s;have c:=zi (zeV q s);have c:=zi t;have D:=zi h;have R:Hid (∀(W:H) (r:RW) (x:List Int×Int),Ext w W->QC W r x->x∈T.zaV p->Calls pg 328 #[r.val,V pa k d] W fun e w'=>e= .returned (G (decide (T.ju x.1 a<=x.2)))/\Below W.heap.size W w'):=by
  intro W r x n C c;obtain⟨_,B,I⟩:=zeV q s x c;obtain⟨K,hKe⟩:∃K,K=100:=⟨_,rfl⟩;have u:10^40<4294967296^K:=(zaf om).resolve_right om;have F:10^100<4294967296^K:=(zaf om).resolve_right om;have c:10^150<4294967296^K:=(zaf om).resolve_right om;have v:∀f∈x.1,∀c∈a,(f*c).natAbs<=10^140:=fun f o c j=>by
   rw[Zx,show(10:Nat)^140=10^40*10^100 by rw[<-ZI]];exact Z0 (B f o) (m c j)
  have l:(10:Nat)^140<=10^150:=qz om om;refine zj5 K om W r x C pa k d a (t.ext n) om om (fun z l=>zr (B z l) u) (fun z l=>zr (m z l) F) (fun f o c j=>?_) (fun m=>?_) (zr I u)
  ·have:=v f o c j;omega
  ·have u:T.ju (x.1.take m) (a.take m)=T.ju ((x.1.take 4).take (min m 4)) ((a.take 4).take (min m 4)):=by
    rw[zy (show x.1.length<=4 by omega),zy (show a.length<=4 by omega)];by_cases l:m<=4
    ·rw[ZL l]
    ·rw[Nat.min_eq_right om,zy (show x.1.length<=m by omega),zy (show a.length<=m by omega),zy (show x.1.length<=4 by omega),zy (show a.length<=4 by omega)]
   rw[u];have l:=zdn (M:=10^140) (x.1.take 4) (a.take 4) (min m 4) (fun f o c j=>v f (Zv o) c (Zv j));have f:min m 4*10^140<=10^150:=by
    have:(10:Nat)^150=10^10*10^140:=by rw[<-ZI]
    rw[this];exact qM _ om
   omega
 clear t h;have J:Ext w (((w.alloc (cl #[V pa k d] 158)).alloc (cl #[V b p.n cap,V g p.rows.length i] 109)).alloc (cl #[G false] 4)):=(((Ext.refl w).alloc _).alloc _).alloc _;have B:(((w.alloc (cl #[V pa k d] 158)).alloc (cl #[V b p.n cap,V g p.rows.length i] 109)).alloc (cl #[G false] 4)).heap[w.heap.size]? =E (cl #[V pa k d] 158):=(zI _ _ _ so).trans (T.zbs w _ _).1;have F:(((w.alloc (cl #[V pa k d] 158)).alloc (cl #[V b p.n cap,V g p.rows.length i] 109)).alloc (cl #[G false] 4)).heap[w.heap.size+1]? =E (cl #[V b p.n cap,V g p.rows.length i] 109):=(zI _ _ _ sp).trans (T.zbs w _ _).2;have t:(((w.alloc (cl #[V pa k d] 158)).alloc (cl #[V b p.n cap,V g p.rows.length i] 109)).alloc (cl #[G false] 4)).heap[w.heap.size+1+1]? =E (cl #[G false] 4):=by
  have:=zq ((w.alloc (cl #[V pa k d] 158)).alloc (cl #[V b p.n cap,V g p.rows.length i] 109)) (cl #[G false] 4);simpa using this
 refine JO func251 ntmps251 (h:=?_);gi_wp2;generalize ((w.alloc (cl #[V pa k d] 158)).alloc (cl #[V b p.n cap,V g p.rows.length i] 109)).alloc (cl #[G false] 4)=k at *;refine(zS.2 (zkw b g p.n cap p.rows.length i k)).mono ?_;rintro e d ⟨rfl,m⟩;have o:Ext k d:=by rw[m];exact(Ext.refl k).alloc _
 have K:d.cell? ⟨k.heap.size,0,O⟩=E (V b p.n cap):=by rw[m];exact c_ 0 (zq _ _)
 have N:d.cell? ⟨k.heap.size,1,O⟩=E (V g p.rows.length i):=by rw[m];exact c_ 1 (zq _ _)
 clear m;have m:=J.trans o;have S:=zi (fun W (n:Ext k W)=>n.cell (c_ 0 B));have v:=zi (fun W (n:Ext k W)=>(n.block _ (zf.1 t).1).trans t);have n:=(zf.1 t).1;have n:=o.size;clear B F t;gi_wp2;refine zd0 (zjH p cs rs y A b g cap i k.heap.size q s) rfl (ZJ func260 kr rfl) (fun k t W ⟨r,u,_⟩=>by rw[u];rfl)
  (zck d (w.heap.size+1+1) (T.zaV p).length (fun i=>T.ju ((T.zaV p).getD i ([],0)).1 a<=((T.zaV p).getD i ([],0)).2)) (zcl w (w.heap.size+1+1) (fun i=>T.ju ((T.zaV p).getD i ([],0)).1 a<=((T.zaV p).getD i ([],0)).2)) (fun c=>c=w.heap.size+1+1) ?hI ?hIx ?hI2 ?hIx2 ?hC ?h0 ?round ?done ?stop
 case hI=>exact fun k M A B h n=>h.keep n
 case hIx=>exact fun I k A B h n=>h.keep n m.size
 case hI2=>
  rintro k M A B ⟨b,l,f,g⟩ q;exact⟨ZA b (q.below b.size (fun c j=>j.1)),l,f,g⟩
 case hIx2=>
  rintro I k A B ⟨b,l,f,g⟩ q;exact⟨b,l,f.trans (q.below f.size (fun c j=>zL m.size j.1)),q.cell (p:=⟨w.heap.size+1+1,0,O⟩) (fun e=>by have:d.heap.size<=w.heap.size+1+1:=e.1;omega) g⟩
 case hC=>
  rintro k M A ⟨b,l,f,g⟩;refine⟨⟨b.cell K,b.cell N,D.out.ext (m.trans b)⟩,fun c j=>?_⟩;have q:=v.out A (o.trans b);rw[(g c).1 j];exact⟨(zf.1 q).1,zeF q dc n1⟩
 case h0=>exact⟨Ext.refl _,qp _,fun i s=>om,fun c=>Ql⟩
 case round=>
  rintro Y k t M A W ⟨r,rfl,x,c,q⟩ ⟨b,l,f,g⟩;have j:(T.zaV p).getD k ([],0)=x:=by rw[zk,c];rfl
  have F:=zi j;have X:=qJ c;have U:=zi q;clear q j c;obtain⟨⟨q,y,u⟩,⟨K,⟨D,P,N⟩⟩⟩:=r;simp only[RW.val,RW.fv,WT.sv];unfold Qr;gi_wp2;refine⟨Wr.of_below ((Ext.refl A).alloc _),fun j B=>?_⟩;have Q:=(zw.alloc d.heap.size A (cl #[V q y u,G K,V D P N] 174)).trans B;have t:Ext d j:=Q.below b (zh _) (zh _);have c:=B.block _ _ (zq A (cl #[V q y u,G K,V D P N] 174)) (.inr rfl);have q:=c_ 0 c;have q:=c_ 1 c;have q:=c_ 2 c;have c:=S.out j (o.trans t);have c:=zi (R.out j _ x (m.trans t) (U.out.keep Q) X);simp only[RW.val,RW.fv,WT.sv]at c;gi_wp2;refine(Zr Y (zS.2 c.out)).mono ?_;rintro e q ⟨rfl,B⟩;have D:=t.trans (Ext.of B);have c:=v.out q (o.trans D);have y:=c_ 0 c;have K:q.frozen? ⟨w.heap.size+1+1,0,O⟩=false:=T.ZX c;by_cases t:T.ju x.1 a<=x.2
  ·rw[qH t];have u:Hid (Qs M (zck d (w.heap.size+1+1) (T.zaV p).length (fun i=>T.ju ((T.zaV p).getD i ([],0)).1 a<=((T.zaV p).getD i ([],0)).2)) (zcl w (w.heap.size+1+1) (fun i=>T.ju ((T.zaV p).getD i ([],0)).1 a<=((T.zaV p).getD i ([],0)).2)) k A j .normal { tmps:=#[],defers:= [] } q):=
    ⟨Wr.of_below B,M,⟨D,W,fun i s=>by
     rcases Z8 i k with h|h
     ·exact f i h
     ·have:i=k:=om;rw[this,F.out];exact t,g⟩,fun x x=> .inl x⟩
   gi_wp2;exact u.out
  ·rw[ZB t];have u:Hid (Qs M (zck d (w.heap.size+1+1) (T.zaV p).length (fun i=>T.ju ((T.zaV p).getD i ([],0)).1 a<=((T.zaV p).getD i ([],0)).2)) (zcl w (w.heap.size+1+1) (fun i=>T.ju ((T.zaV p).getD i ([],0)).1 a<=((T.zaV p).getD i ([],0)).2)) k A j .ret { tmps:=#[],defers:= [] } (q.setCell ⟨w.heap.size+1+1,0,O⟩ (G false))):=
    ⟨(Wr.of_below B).trans (qS ((g _).2 rfl) _),rfl,(fun h=>t (by have j:T.ju ((T.zaV p).getD k ([],0)).1 a<=((T.zaV p).getD k ([],0)).2:=h;rw[F.out]at j;exact j)),Qu (m.trans D) so _,zu _ _ _ y⟩
   gi_wp2;exact u.out
 case done=>
  rintro D M A q _ ⟨b,l,f,g⟩ g;have j:=Z1 q.symm;clear q;have q:=o.trans b;have t:Hid (J9 (T.zaV p) a=true):=by
   rw[Hid,J9,qR];intro r C;obtain⟨i,s,rfl⟩:=QS C;have o:T.ju ((T.zaV p).getD i ([],0)).1 a<=((T.zaV p).getD i ([],0)).2:=f i s;rw[zk,zj s]at o;exact qH o
  clear f;have c:=v.out A q;have y:=c_ 0 c;have K:A.frozen? ⟨w.heap.size+1+1,0,O⟩=false:=T.ZX c;have i:=(zf.1 c).1;gi_wp2;have i:(A.setCell ⟨w.heap.size+1+1,0,O⟩ (G true)).heap[D]? =E (.deferred (E [])):=(zK _ _ _ _ so).trans g;refine qt i ?_;have c:zw d.heap.size (A.setCell ⟨w.heap.size+1+1,0,O⟩ (G true)) ((A.setCell ⟨w.heap.size+1+1,0,O⟩ (G true)).putObj D (.deferred O)):=zw.putObj _ j i rfl;have i:=c.cell (zu _ _ (G true) y);have o:Below w.heap.size w (A.setCell ⟨w.heap.size+1+1,0,O⟩ (G true)):=Qu (J.trans q) so _;exact⟨G true,by simp[results,results251,go_sem,i],by rw[t.out],(c.mono m.size).below o (zh _) (zh _)⟩
 case stop=>
  rintro D I k A j n ⟨rfl,b,l,f⟩ g;have o:=zi b;clear b;gi_wp2;refine qt g ?_;have c:zw d.heap.size A (A.putObj D (.deferred O)):=zw.putObj _ j g rfl;have i:=c.cell f;have d:J9 (T.zaV p) a=false:=by
   rw[J9,QT];refine⟨(T.zaV p)[k],zZ n,?_⟩;have b:=Int.not_le.2 o.out;rw[zk,zj n]at b;simpa using b
  exact⟨G false,by simp[results,results251,go_sem,i],by rw[d],(c.mono m.size).below l (zh _) (zh _)⟩
end Go.Proofs.YtnhfdcfnojnofaaGreatDoor
namespace Go.Proofs.YtnhfdcfnojnofaaGreatDoor
open Go.RowKit
theorem zhp (s:ByteArray)(w:H)(hs:s.size<=9223372036854775807):
 Calls pg 74 #[gS s,it .i64 100] w fun e w'=>∃t:WT,e= .returned (tp #[t.val,G (vOk s.data.toList)])/\Below w.heap.size w w'/\(vOk s.data.toList=true->zY w' t.val (T.wZ s.data.toList)):=by
 by_cases h:vOk s.data.toList=true
 ·obtain⟨a,b,c⟩:=zbS h;refine(zeR s 100 w om a b c).mono ?_;rintro e w' ⟨_,rfl,d,f⟩;obtain⟨b,a,l,c,rfl,_,_⟩:=d.parts;exact⟨⟨b,(a,l,c)⟩,by rw[h];rfl,f,fun _=>d⟩
 ·have d:vOk s.data.toList=false:=by simpa using h
  refine(zfm s 100 w om hs d).mono ?_;rintro e w' ⟨b,a,l,c,rfl,f⟩;exact⟨⟨b,(a,l,c)⟩,by rw[d];rfl,f,fun e=>by rw[d]at e;cases e⟩
theorem zn5 {z:Array Value}{k:Nat}(c:∀u∈z.toList,JP u):∀u∈(madeCells z k).toList,JP u:=by
 intro u a;simp[madeCells]at a;obtain⟨j,_,rfl⟩:=a;by_cases b:0<z.size
 ·have a:j%z.size<z.size:=Qx _ b;refine c _ ?_;rw[getElem!_pos z (j%z.size) a];simp
 ·have a:z.size=0:=om;intro n e;have:z=#[]:=Ji a;subst this;simp at e;cases e
theorem ziK (w:H)(pa:Option Addr)(b n:Nat)(a:List ByteArray)(s:T.Sv w (V pa a.length b) a)(X:∀l∈a,l.size<=9223372036854775807)(d:a.length<=9223372036854775807)(c:n<=1000):
 Calls pg 249 #[V pa a.length b,it .i64 (n:Nat)] w fun e w'=>∃f:Option Addr×Nat×Nat,e= .returned (tp #[V f.1 f.2.1 f.2.2,G (decide (a.length=n)&&a.all fun l=>vOk l.data.toList)])/\((decide (a.length=n)&&a.all fun l=>vOk l.data.toList)=true->Jm w' (V f.1 f.2.1 f.2.2) (a.map fun l=>T.wZ l.data.toList))/\Below w.heap.size w w':=by
 obtain⟨i0,Q,a0,a1,a2⟩:=qL ze9;by_cases S:a.length=n
 ·subst S;rw[qH rfl,ZE];obtain⟨I,b⟩:∃I,(a.all fun l=>vOk l.data.toList)=I:=⟨_,rfl⟩;have Z:=zi b;rw[b];clear b;have o:=zi X;clear X;have b:∀W:H,(Instr.makeSlice 158 (it .i64 0) (it .i64 (a.length:Nat))).run pg W= .ok (V (E ⟨W.heap.size,0,O⟩) 0 a.length) (W.alloc (cl (madeCells #[G false,V O 0 0] (a.length*2)) 101)):=by
   intro W;have:=run_make (P:=pg) W 158 101 i0 _ underlying158 Q a0 .i64 .i64 0 (a.length:Int) om om (by rw[a2];omega) om;rw[a1,jJ]at this;exact this
  have h:Hid (Grw w.heap.size 101 2 (w.alloc (cl (madeCells #[G false,V O 0 0] (a.length*2)) 101)) (V (E ⟨w.heap.size,0,O⟩) 0 a.length) []):=by
   refine⟨World.ownsRow_made w _ _ (zh _) mo (zdf _ _),fun g c=>?_,fun b j=>by simp at j⟩;have e:w.heap.size=g:=by simpa[Value.ownBlock]using c
   subst e;exact qj (zq w _) (zn5 (by intro B m;simp at m;rcases m with rfl|rfl<;>(intro n e;cases e)))
  go_enter func249,ntmps249
  go_wp2;go_loopw [6,19] (fun i d wr=>∃(b:List WT) (r:Option Addr) (v:Nat),i=V r b.length v/\d=it .i64 (b.length:Nat)/\b.length<=a.length/\Grw w.heap.size 101 2 wr (V r b.length v) (b.map WT.cells)/\
   Hid (∀(i:Nat) (t:WT),b[i]? =E t->zY wr t.val (T.wZ (a.getD i ⟨#[]⟩).data.toList))/\Hid (((a.take b.length).all fun l=>vOk l.data.toList)=true)/\Below w.heap.size w wr) (fun _ d _=>((a.length:Int)-intOf d).toNat)
  case atStart=>exact⟨[],E ⟨w.heap.size,0,O⟩,a.length,rfl,rfl,sp,h.out,by rw[Hid];intro i t j;simp at j,rfl,(zR _ _).alloc (zh _) _⟩
  case round=>
   obtain⟨b,r,v,rfl,rfl,_,J,L,y,q⟩:=hrel;by_cases k:b.length<a.length
   ·obtain⟨g,u,rfl,c,h⟩:=s.row (by intro e;rw[e]at k;simp at k);have d:=(q.cell (p:=⟨g,u+b.length,O⟩) c).trans (h b.length k);have c:(a.getD b.length ⟨#[]⟩).size<=9223372036854775807:=by
     rw[zk,zj k];exact o.out _ (zZ k)
    have D:=zi (T.znt (f:=fun l:ByteArray=>vOk l.data.toList) b.length ⟨#[]⟩ k);have C:=zi (fun j=>T.zl6 (f:=fun l:ByteArray=>vOk l.data.toList) b.length ⟨#[]⟩ k j);obtain⟨A,hs⟩:∃A,a.getD b.length ⟨#[]⟩=A:=⟨_,rfl⟩;rw[hs]at d c D C;have HS:=zi hs;clear hs;have F:=zi (fun W=>zhp A W c);by_cases z:vOk A.data.toList=true
    ·have u:=F.out;simp only[z,zbP]at u;have N:=zi u;have a9:Hid (((a.take (b.length+1)).all fun l=>vOk l.data.toList)=true):=by rw[Hid,D.out,y.out,z];rfl
     clear u F C D y z;go_wp2_with fail
     refine(N.out _).mono ?_;rintro e o ⟨⟨c,⟨d,h,g⟩⟩,rfl,s,Y⟩;simp only[WT.val,WT.sv];have x1:=Ext.of s;have M:=J.ext x1;have a3:=(M.ext ((Ext.refl o).alloc (cl #[G c,V d h g] 101)));have x:=(a3.ext ((Ext.refl _).alloc (cl #[G c,V d h g] 101)));have W:=x.own;rw[zo]at W;have K:=x.dig;have R:=ZA q (s.mono q.size);have ab:=R.size;have HX:=zi Y;have HN:=zi (fun i t (j:b[i]? =E t)=>(L.out i t j).below x1);clear L q Y s J M;go_wp2_with (at_builtin;refine J6 _ rfl _ _ 158 rfl w.heap.size 101 i0 (ag #[G false,V O 0 0]) 2 32 underlying158 Q a0 a1 a2 rfl dc (V r b.length v) b.length (b.map WT.cells).flatten rfl W ⟨o.heap.size+1,0,O⟩ 1 1 [G c,V d h g] rfl rfl (by simpa using rec_new (o.alloc (cl #[G c,V d h g] 101)) [G c,V d h g] 101) (by intro B m;simp only[qw,Zi,QF]at m;rcases m with rfl|rfl<;>rfl) om mo om so (o.heap.size+1+1) sp (by intro B m;simp[Value.cells]at m;rcases m with rfl|rfl<;>(intro n e;cases e)) (by intro B m;simp only[qw,Zi,QF]at m;rcases m with rfl|rfl<;>(intro n e;cases e)) K ?_)
     intro g4 a0 Y a6 a2 aa m a1;have a7:Y.ownsRow w.heap.size 101 2 (V (E ⟨g4,0,O⟩) ((b.map WT.cells).length+1) a0) ((b.map WT.cells).length+1) ((b.map WT.cells).flatten ++ [G c,V d h g]):=by rw[zo];exact a6
     have Q:=x.more (cs:= [G c,V d h g]) rfl a7 a1;rw[zo]at Q;have B:Ext o ((o.alloc (cl #[G c,V d h g] 101)).alloc (cl #[G c,V d h g] 101)):=((Ext.refl o).alloc _).alloc _;have M:=zbt (U:=fun m=>(V r b.length v).ownBlock=E m) a2 (fun a5 k=>k);have a8:Hid (∀(i:Nat) (t:WT),(b ++ [⟨c,(d,h,g)⟩])[i]? =E t->zY Y t.val (T.wZ (a.getD i ⟨#[]⟩).data.toList)):=by
      intro i t m;by_cases a4:i<b.length
      ·rw[zM a4]at m;exact((HN.out i t m).below B).wr M K
      ·have a4:i=b.length:=by
        have:=(zn.1 m).1;simp at this;omega
       subst a4;rw[zJ (zh _),Zy]at m;have a4:(⟨c,(d,h,g)⟩:WT)=t:=by simpa using m
       rw[HS.out,<-a4];exact(HX.out.below B).wr M K
     have a4:=(ZA R (B.mono ab)).trans (M.below (by have:=B.size;omega) (fun a5 k=>(x.type a5 k).2));have Y:=zi Q;have k:=zi a4;clear Q x a3 W K a6 a7 a2 aa a1 M B a4 R;go_wp2;go_roundw
     case rel=>exact⟨b ++ [⟨c,(d,h,g)⟩],E ⟨g4,0,O⟩,a0,sp,sp,so,by rw[ZN,zX];exact Y.out,a8,by rw[zX];exact a9,k.out⟩
     case measure=>simp[intOf];omega
    ·have x:vOk A.data.toList=false:=by simpa using z
     have u:=F.out;simp only[x,Q4,false_implies,zcn]at u;have N:=zi u;have A:Hid (I=false):=by rw[Hid,<-Z.out];exact C.out x
     clear u F C D y z x;go_wp2_with fail
     refine(N.out _).mono ?_;rintro e o ⟨⟨c,⟨d,h,g⟩⟩,rfl,s⟩;simp only[WT.val,WT.sv];have k:=zi ((ZA q (s.mono q.size)).alloc (by have:=s.size;have:=q.size;omega) (cl #[G c,V d h g] 101));clear s;go_wp2;go_ret2;rw[A.out];exact⟨(O,0,0),rfl,(fun j=>by cases j),k.out⟩
   ·have g:b.length=a.length:=om;have h:Hid (I=true):=by
     have:=y.out;rw[g,Zw]at this;rw[Hid,<-Z.out];exact this
    have o:Hid (Jm wr (V r b.length v) (a.map fun l=>T.wZ l.data.toList)):=by
     refine⟨b,by simp[g],J.list,fun i t z m c=>?_⟩;have d:=L.out i t m;rw[zQ]at c;rw[zk]at d;cases hp:a[i]? with
     |none=>rw[hp]at c;cases c
     |some l=>
      rw[hp]at c d;simp only[Zz,z7]at c;subst c;exact d
    have k:=zi q;clear L y J g;go_wp2;go_ret2;rw[h.out];exact⟨(r,b.length,v),rfl,fun _=>o.out,k.out⟩
 ·rw[ZB S,zag];have b:((a.length:Int) != (n:Int))=true:=so;clear X S;go_enter func249,ntmps249
  go_wp2;go_ret2;exact⟨(O,0,0),rfl,(fun j=>by cases j),zR _ _⟩
def GrR (p:qo)(pts:List ByteArray)(val:ByteArray)(w:H)(e:Ending)(w':H):Prop:=
 (∀er,ZH p 1 (pts.map fun l=>l.data.toList) val.data.toList= .error er->e= .returned (tp #[.nilFunc,it .i64 (er:Nat)]))/\(∀z,ZH p 1 (pts.map fun l=>l.data.toList) val.data.toList= .ok z->∃r:RW,e= .returned (tp #[.func (.func 253) #[r.val] #[],it .i64 0])/\QC w' r (p.mx,z))/\Below w.heap.size w w'
theorem zmG {l:List UInt8}(h:vOk l=true):(T.wZ l).natAbs<=10^100:=by
 unfold T.wZ;rw[zbn];exact Z2 (T.zoh h)
theorem zkf (W:H)(f g:Option Addr×Nat×Nat)(zs a:List Int)(i:Jm W (V f.1 f.2.1 f.2.2) zs)(p:Jm W (V g.1 g.2.1 g.2.2) a)(s:zs.length=a.length)(b:a.length<=4)(o:∀z∈zs,z.natAbs<=10^40)(n:∀z∈a,z.natAbs<=10^100):
 Calls pg 252 #[ag #[V f.1 f.2.1 f.2.2],V g.1 g.2.1 g.2.2] W fun e w'=>∃t:WT,e= .returned t.val/\zY w' t.val (T.ju zs a)/\(T.ju zs a).natAbs<=10^150/\Below W.heap.size W w':=by
 obtain⟨K,hKe⟩:∃K,K=100:=⟨_,rfl⟩;have B:10^40<4294967296^K:=(zaf om).resolve_right om;have y:10^100<4294967296^K:=(zaf om).resolve_right om;have A:10^150<4294967296^K:=(zaf om).resolve_right om;have q:∀b∈zs,∀c∈a,(b*c).natAbs<=10^140:=fun b d c h=>by
  rw[Zx,show(10:Nat)^140=10^40*10^100 by rw[<-ZI]];exact Z0 (o b d) (n c h)
 have j:(10:Nat)^140<=10^150:=qz om om;have r:∀j,(T.ju (zs.take j) (a.take j)).natAbs<=10^150:=fun j=>by
  have k:T.ju (zs.take j) (a.take j)=T.ju ((zs.take 4).take (min j 4)) ((a.take 4).take (min j 4)):=by
   rw[zy (show zs.length<=4 by omega),zy (show a.length<=4 by omega)];by_cases l:j<=4
   ·rw[ZL l]
   ·rw[Nat.min_eq_right om,zy (show zs.length<=j by omega),zy (show a.length<=j by omega),zy (show zs.length<=4 by omega),zy (show a.length<=4 by omega)]
  rw[k];have l:=zdn (M:=10^140) (zs.take 4) (a.take 4) (min j 4) (fun b d c h=>q b (Zv d) c (Zv h));have l:min j 4*10^140<=10^150:=by
   have:(10:Nat)^150=10^10*10^140:=by rw[<-ZI]
   rw[this];exact qM _ om
  omega
 obtain⟨L,I,m,J⟩:=i;obtain⟨F,C,l,D⟩:=p;obtain⟨u,w,k⟩:=m.shape;obtain⟨v,x,p⟩:=l.shape;rw[zo]at k p;rw[k]at m⊢;rw[p]at l⊢;refine(zig K om W u v w x L F zs a I m J C l D s om (fun z i=>zr (o z i) B) (fun z i=>zr (n z i) y) (fun b d c h=>zr (q b d c h) om) (fun j=>zr (r j) A)).mono ?_;rintro e w' ⟨t,a,b,c⟩;refine⟨t,a,b,?_,c⟩;have:=r zs.length;rw[Zw,s,Zw]at this;exact this
theorem zgR {L:Nat}(p:qo)(cs:List JB)(rs:List RwV)(bc gR:Nat)(m n:Option Addr)(cap t:Nat)(w:H)(hp:ji L p)(hL:2+p.n<=L)(h:PM p cs rs bc gR m n w)(pa:Option Addr)(pc:Nat)(d:List ByteArray)(val:ByteArray)(hv:T.Sv w (V pa d.length pc) d)(aU:∀l∈d,l.size<=9223372036854775807)(bg:val.size<=9223372036854775807)(bf:d.length<=9223372036854775807):
 Calls pg 159 #[ag #[V m p.n cap,V n p.rows.length t],ag #[it .i64 1,V pa d.length pc,gS val]] w (GrR p d val w):=by
 obtain⟨_,_⟩:=hp.n om;have aQ:=hp.m om;have b6:=zi (fun(W:H) (c:Ext w W)=>ziK W pa pc p.n d (hv.below c) aU bf om);have b4:=zi (fun(W:H)=>zhp val W bg);have HP:=zi h;have aq:Hid (∀(W:H) (bP:Nat) (F:WT) (z:Int),Ext w W->W.cell? ⟨bP,0,O⟩=E (V m p.n cap)->W.cell? ⟨bP,1,O⟩=E (V n p.rows.length t)->zY W F.val z->Calls pg 250 #[.func (.func 155) #[] #[pn (E ⟨bP,0,O⟩)],ag #[G F.b,V F.s.1 F.s.2.1 F.s.2.2]] W fun v Z=>∃aj:RW,v= .returned aj.val/\QC Z aj (p.mx,z)/\Below W.heap.size W Z):=by
  intro W bP F z c h0 h1 ht;refine(zew W _ _ p.mx (aimsSeq (⟨h0,h1,h.ext c⟩:LdC p cs rs bc gR m n cap t bP W) om aQ) om F z ht).mono ?_;rintro v Z ⟨aj,q1,q2,_,q4⟩;exact⟨aj,q1,q2,q4⟩
 have b3:Hid (∀(W:H) (J:Option Addr×Nat×Nat) (xs:List Int),Ext w W->Jm W (V J.1 J.2.1 J.2.2) xs->xs.length=p.n->(∀z∈xs,z.natAbs<=10^100)->Calls pg 251 #[V J.1 J.2.1 J.2.2,ag #[V m p.n cap,V n p.rows.length t]] W fun v Z=>v= .returned (G (J9 (T.zaV p) xs))/\Below W.heap.size W Z):=fun W J xs c hx hl N=>zmF p cs rs bc gR m n cap t W hp hL (h.ext c) J.1 J.2.1 J.2.2 xs hx hl N
 clear h hv aU;have ax:Ext w ((w.alloc (cl #[V m p.n cap,V n p.rows.length t] 109)).alloc (cl #[it .i64 1,V pa d.length pc,gS val] 46)):=((Ext.refl w).alloc _).alloc _;obtain⟨aw,aa⟩:=T.zbs w (cl #[V m p.n cap,V n p.rows.length t] 109) (cl #[it .i64 1,V pa d.length pc,gS val] 46);go_enter func159,ntmps159
 go_wp2_with fail
 generalize (w.alloc (cl #[V m p.n cap,V n p.rows.length t] 109)).alloc (cl #[it .i64 1,V pa d.length pc,gS val] 46)=U at *;have HS:=zi (fun(W:H) (c:Ext U W)=>And.intro (c.cell (c_ 0 aw)) (And.intro (c.cell (c_ 1 aw)) (And.intro (c.cell (c_ 1 aa)) (c.cell (c_ 2 aa)))));have bk:=(zf.1 aa).1;have y0:=Ext.refl U;obtain⟨s0,s1,s2,s3⟩:=HS.out U y0;clear aw aa;go_region_held3 (fun W=>W.cell? ⟨w.heap.size,0,O⟩=E (V m p.n cap)/\W.cell? ⟨w.heap.size,1,O⟩=E (V n p.rows.length t)/\W.cell? ⟨w.heap.size+1,1,O⟩=E (V pa d.length pc)/\W.cell? ⟨w.heap.size+1,2,O⟩=E (gS val)) (first|(exact HS.out _ ea)|go_keep) (first|(go_at_call 249;have _g:=x1;refine(b6.out w1 (ax.trans x1)).mono ?_;rintro v w2 ⟨⟨fa,fl,fc⟩,rfl,aW,aN⟩;have x2:Ext U w2:=x1.trans (Ext.of aN))|(go_at_call 87;refine(zgO m n p.n cap p.rows.length t _ om).mono ?_;rintro v w1 ⟨rfl,aV⟩;have x1:Ext U w1:=(by rw[aV];exact y0.drew.alloc _);clear aV))
 all_goals
  obtain⟨c0,c1,c2,c3⟩:=HS.out w2 x2;clear aN;have aL:=zi (b4.out w2);have aM:=zi aW;clear aW;obtain⟨bp,Q⟩:∃bp,(decide (d.length=p.n)&&d.all fun l=>vOk l.data.toList)=bp:=⟨_,rfl⟩;obtain⟨bv,hbv⟩:∃bv,vOk val.data.toList=bv:=⟨_,rfl⟩;rw[Q]at aM⊢;rw[hbv]at aL;have aH:=zi Q;have al:=zi hbv;clear Q hbv;go_wp2_with fail
  refine aL.out.mono ?_;rintro v I ⟨⟨B,⟨A,D,C⟩⟩,rfl,ab,hq⟩;simp only[WT.val,WT.sv];have x3:=x2.trans (Ext.of ab);by_cases aA:bp=true/\bv=true
  ·obtain⟨rfl,rfl⟩:=aA;have aX:=(aM.out rfl).ext (Ext.of ab);have a3:=(hq rfl).below ((Ext.refl I).alloc (cl #[G B,V A D C] 101));have ai:=zq I (cl #[G B,V A D C] 101);have x4:Ext U (I.alloc (cl #[G B,V A D C] 101)):=x3.alloc _;have aY:=aX.ext ((Ext.refl I).alloc (cl #[G B,V A D C] 101));clear ab hq aX c0 c1 c2 c3 s0 s1 s2 s3;go_wp2_with fail
   generalize I.alloc (cl #[G B,V A D C] 101)=a at *;have ak:=ax.trans x4;obtain⟨c0,c1,c2,c3⟩:=HS.out a x4;have v0:=c_ 0 ai;have v1:=c_ 1 ai;have a0:=zi (fun(W:H) (c:Ext a W)=>And.intro (c.cell c0) (And.intro (c.cell c1) (And.intro (c.cell v0) (c.cell v1))));have aP:=(zf.1 ai).1;have bl:=x4.size;go_region_held3 (fun W=>W.cell? ⟨w.heap.size,0,O⟩=E (V m p.n cap)/\W.cell? ⟨w.heap.size,1,O⟩=E (V n p.rows.length t)/\W.cell? ⟨I.heap.size,0,O⟩=E (G B)/\W.cell? ⟨I.heap.size,1,O⟩=E (V A D C)) (first|(exact a0.out _ (by with_reducible first|assumption|exact Ext.refl _|exact Ext.drew (by first|assumption|exact Ext.refl _)))|(exact a0.out _ (S.alloc _))|(exact a0.out _ (x.alloc _))|(exact a0.out _ ((Ext.refl a).alloc _).drew)|(have y:=a0.out f S;exact⟨js om y.1,js om y.2.1,js om y.2.2.1,js om y.2.2.2⟩)|go_keep) (first|(go_at_call 250;have _g:=a7;refine(aq.out e _ (⟨B,(A,D,C)⟩:WT) _ (ak.trans x) q0 q1 (a3.below x)).mono ?_;rintro v f ⟨⟨⟨g,j,i⟩,⟨o,⟨q,s,r⟩⟩⟩,rfl,Y,P⟩;simp only[RW.val,RW.fv,WT.sv];have S:Ext a f:=x.trans (Ext.of P);have k:=((Ext.of P).block _ (zf.1 a7).1).trans a7;have g0:=c_ 0 k;have g1:=c_ 1 k;have g2:=c_ 2 k;have f0:f.frozen? ⟨a.heap.size,0,O⟩=false:=T.ZX k;have f1:f.frozen? ⟨a.heap.size,1,O⟩=false:=T.ZX k;have f2:f.frozen? ⟨a.heap.size,2,O⟩=false:=T.ZX k;have l6:a.heap.size<f.heap.size:=(zf.1 k).1)|(go_at_call 250;have _g:=aZ;refine(aq.out (e.alloc (cl #[V O 0 0,G false,V O 0 0] 174)) _ (⟨B,(A,D,C)⟩:WT) _ (ak.trans (x.alloc _)) (Jb q0) (Jb q1) (a3.below (x.alloc _))).mono ?_;rintro v f ⟨⟨⟨g,j,i⟩,⟨o,⟨q,s,r⟩⟩⟩,rfl,Y,P⟩;simp only[RW.val,RW.fv,WT.sv];have S:Ext a f:=(x.alloc _).trans (Ext.of P);have av:=zq e (cl #[V O 0 0,G false,V O 0 0] 174);have k:=((Ext.of P).block _ (zf.1 av).1).trans av;have g0:=c_ 0 k;have g1:=c_ 1 k;have g2:=c_ 2 k;have f0:f.frozen? ⟨e.heap.size,0,O⟩=false:=T.ZX k;have f1:f.frozen? ⟨e.heap.size,1,O⟩=false:=T.ZX k;have f2:f.frozen? ⟨e.heap.size,2,O⟩=false:=T.ZX k;have l6:e.heap.size<f.heap.size:=(zf.1 k).1)|(go_at_call 250;have _g:=aZ;refine(aq.out e _ (⟨B,(A,D,C)⟩:WT) _ (ak.trans x) q0 q1 (a3.below x)).mono ?_;rintro v f ⟨⟨⟨g,j,i⟩,⟨o,⟨q,s,r⟩⟩⟩,rfl,Y,P⟩;simp only[RW.val,RW.fv,WT.sv];have S:Ext a f:=x.trans (Ext.of P);have bj:=trivial)|(go_at_call 88;refine(zku m p.n cap n p.rows.length t _).mono ?_;rintro v e ⟨rfl,R⟩;have a7:e.heap[a.heap.size]? =E (cl #[V O 0 0,G false,V O 0 0] 174):=(by rw[R];exact(zI _ _ _ sp).trans (zq a _));have x:Ext a e:=(by rw[R];exact(((Ext.refl a).alloc _).drew).alloc _);have q0:e.cell? ⟨a.heap.size+1,0,O⟩=E (V m p.n cap):=(by rw[R];first|exact c_ 0 (zq _ _)|simpa using c_ 0 (zq (a.alloc (cl #[V O 0 0,G false,V O 0 0] 174)).drew (cl #[V m p.n cap,V n p.rows.length t] 109)));have q1:e.cell? ⟨a.heap.size+1,1,O⟩=E (V n p.rows.length t):=(by rw[R];first|exact c_ 1 (zq _ _)|simpa using c_ 1 (zq (a.alloc (cl #[V O 0 0,G false,V O 0 0] 174)).drew (cl #[V m p.n cap,V n p.rows.length t] 109)));have bb:=zv aP x.size;have bi:=x.size;clear R)|(go_at_call 88;refine(zku m p.n cap n p.rows.length t _).mono ?_;rintro v e ⟨rfl,R⟩;have aZ:=trivial;have x:Ext a e:=(by rw[R];exact(Ext.refl a).drew.alloc _);have q0:e.cell? ⟨a.heap.size,0,O⟩=E (V m p.n cap):=(by rw[R];first|exact c_ 0 (zq _ _)|simpa using c_ 0 (zq (a.alloc (cl #[V O 0 0,G false,V O 0 0] 174)).drew (cl #[V m p.n cap,V n p.rows.length t] 109)));have q1:e.cell? ⟨a.heap.size,1,O⟩=E (V n p.rows.length t):=(by rw[R];first|exact c_ 1 (zq _ _)|simpa using c_ 1 (zq (a.alloc (cl #[V O 0 0,G false,V O 0 0] 174)).drew (cl #[V m p.n cap,V n p.rows.length t] 109)));have bb:=zv aP x.size;have bi:=x.size;clear R))
   all_goals first|(have _m:=a7;have af:a.heap.size<=a.heap.size:=(by first|exact zh _|exact x.size);have hw:Wr (fun a6=>a6=a.heap.size) f (((f.setCell ⟨a.heap.size,0,O⟩ (V g j i)).setCell ⟨a.heap.size,1,O⟩ (G o)).setCell ⟨a.heap.size,2,O⟩ (V q s r)):=zd5 rfl _ _ _;have x9:Ext a (((f.setCell ⟨a.heap.size,0,O⟩ (V g j i)).setCell ⟨a.heap.size,1,O⟩ (G o)).setCell ⟨a.heap.size,2,O⟩ (V q s r)):=ZA S (hw.below' af S);have a4:=QC.wr Y hw (fun a6 hq=>by subst hq;exact⟨fun ht=>absurd (ht.one ⟨_,_,k⟩) dc,qj k n3⟩);have e9:=zd1 (a:=V g j i) (b:=G o) (c:=V q s r) k;clear hw k g0 g1 g2 f0 f1 f2 l6 Y P;generalize (((f.setCell ⟨a.heap.size,0,O⟩ (V g j i)).setCell ⟨a.heap.size,1,O⟩ (G o)).setCell ⟨a.heap.size,2,O⟩ (V q s r))=u at *;generalize aO:a.heap.size=g9 at *)|(have _m:=av;have af:=(by first|exact zh _|exact x.size);have hw:Wr (fun a6=>a6=e.heap.size) f (((f.setCell ⟨e.heap.size,0,O⟩ (V g j i)).setCell ⟨e.heap.size,1,O⟩ (G o)).setCell ⟨e.heap.size,2,O⟩ (V q s r)):=zd5 rfl _ _ _;have x9:Ext a (((f.setCell ⟨e.heap.size,0,O⟩ (V g j i)).setCell ⟨e.heap.size,1,O⟩ (G o)).setCell ⟨e.heap.size,2,O⟩ (V q s r)):=ZA S (hw.below' af S);have a4:=QC.wr Y hw (fun a6 hq=>by subst hq;exact⟨fun ht=>absurd (ht.one ⟨_,_,k⟩) dc,qj k n3⟩);have e9:=zd1 (a:=V g j i) (b:=G o) (c:=V q s r) k;clear hw k g0 g1 g2 f0 f1 f2 l6 Y P;generalize (((f.setCell ⟨e.heap.size,0,O⟩ (V g j i)).setCell ⟨e.heap.size,1,O⟩ (G o)).setCell ⟨e.heap.size,2,O⟩ (V q s r))=u at *;generalize aO:e.heap.size=g9 at *)|(have _m:=bj;have af:=S.size;have x9:Ext a (f.alloc (cl #[V g j i,G o,V q s r] 174)):=S.alloc _;have a4:=Y.ext ((Ext.refl f).alloc (cl #[V g j i,G o,V q s r] 174));have e9:=zq f (cl #[V g j i,G o,V q s r] 174);clear Y P;generalize f.alloc (cl #[V g j i,G o,V q s r] 174)=u at *;generalize aO:f.heap.size=g9 at *)
   all_goals
    have aE:=aY.ext x9;have aT:=a3.below x9;have r0:=c_ 0 e9;obtain⟨t0,t1,t2,t3⟩:=a0.out u x9;have a2:=zi (fun(W:H) (c:Ext u W)=>show(fun W=>W.cell? ⟨w.heap.size,0,O⟩=E (V m p.n cap)/\W.cell? ⟨w.heap.size,1,O⟩=E (V n p.rows.length t)/\W.cell? ⟨I.heap.size,0,O⟩=E (G B)/\W.cell? ⟨I.heap.size,1,O⟩=E (V A D C)/\W.cell? ⟨g9,0,O⟩=E (V g j i)) W from⟨c.cell t0,c.cell t1,c.cell t2,c.cell t3,c.cell r0⟩);have b5:=zi (fun(W:H) (c:Ext u W)=>And.intro (c.cell r0) (And.intro (c.cell (c_ 1 e9)) (c.cell (c_ 2 e9))));have ah:=ak.trans x9;have Q:=aH.out;rw[ZQ,Qw,qR]at Q;have aG:(d.map fun l=>T.wZ l.data.toList).length=p.n:=by rw[zo];exact Q.1
    have aF:∀z∈(d.map fun l=>T.wZ l.data.toList),z.natAbs<=10^100:=fun z hz=>by
     obtain⟨l,hl,rfl⟩:=ZC.1 hz;exact zmG (Q.2 l hl)
    have aR:(d.map fun l=>l.data.toList).map T.wZ=d.map fun l=>T.wZ l.data.toList:=by rw[ZV];rfl
    have M:ZH p 1 (d.map fun l=>l.data.toList) val.data.toList=if J9 (T.zaV p) (d.map fun l=>T.wZ l.data.toList)=true/\T.ju p.mx (d.map fun l=>T.wZ l.data.toList)=T.wZ val.data.toList then .ok (T.wZ val.data.toList)else .error 8:=by
     unfold ZH;rw[zW dc,zW,aR];rintro(h|h|h|h);·exact h rfl
     ·rw[al.out]at h;cases h
     ·rw[zo]at h;exact h Q.1
     ·have:(d.map fun l=>l.data.toList).all vOk=true:=by
       rw[zc6,qR];exact Q.2
      rw[this]at h;cases h
    have aJ:Hid (∀W,Ext u W->¬J9 (T.zaV p) (d.map fun l=>T.wZ l.data.toList)=true->GrR p d val w (.returned (tp #[.nilFunc,it .i64 8])) W):=fun W c hn=>by
     rw[zW (fun h=>hn h.1)]at M;refine⟨fun er h=>?_,fun z h=>?_,ah.trans c⟩
     ·rw[M]at h;cases h;rfl
     ·rw[M]at h;cases h
    have b2:Hid (∀W,Ext u W->¬T.ju p.mx (d.map fun l=>T.wZ l.data.toList)=T.wZ val.data.toList->GrR p d val w (.returned (tp #[.nilFunc,it .i64 8])) W):=fun W c hn=>by
     rw[zW (fun h=>hn h.2)]at M;refine⟨fun er h=>?_,fun z h=>?_,ah.trans c⟩
     ·rw[M]at h;cases h;rfl
     ·rw[M]at h;cases h
    have aK:Hid (∀W,Ext u W->J9 (T.zaV p) (d.map fun l=>T.wZ l.data.toList)=true->T.ju p.mx (d.map fun l=>T.wZ l.data.toList)=T.wZ val.data.toList->GrR p d val w (.returned (tp #[.func (.func 253) #[ag #[V g j i,G o,V q s r]] #[],it .i64 0])) W):=fun W c h1 h2=>by
     rw[z8 ⟨h1,h2⟩]at M;refine⟨fun er h=>?_,fun z h=>?_,ah.trans c⟩
     ·rw[M]at h;cases h
     ·rw[M]at h;cases h;exact⟨⟨(g,j,i),⟨o,(q,s,r)⟩⟩,rfl,a4.ext c⟩
    have an:=zi (fun(W:H) (c:Ext u W)=>b3.out W (fa,fl,fc) _ (ah.trans c) (aE.ext c) aG aF);have b0:=zi (fun(W:H) (c:Ext u W)=>zkf W (g,j,i) (fa,fl,fc) p.mx _ (a4.1.ext c) (aE.ext c) (by rw[aQ,aG]) om (fun z hz=>Z2 (hp.bm z hz)) aF);have b1:Hid (∀(W:H) (F:WT),Ext u W->zY W F.val (T.ju p.mx (d.map fun l=>T.wZ l.data.toList))->(T.ju p.mx (d.map fun l=>T.wZ l.data.toList)).natAbs<=10^150->Calls pg 151 #[ag #[G F.b,V F.s.1 F.s.2.1 F.s.2.2],ag #[G B,V A D C]] W fun v Z=>∃a8:Int,v= .returned (it .i64 a8)/\(a8=0↔T.ju p.mx (d.map fun l=>T.wZ l.data.toList)=T.wZ val.data.toList)/\Below W.heap.size W Z):=fun W F c ht N=>by
     obtain⟨K,hKe⟩:∃K,K=100:=⟨_,rfl⟩;have b7:10^100<4294967296^K:=(zaf om).resolve_right om;have b8:10^150<4294967296^K:=(zaf om).resolve_right om;refine(zbJ W _ _ _ (T.wZ val.data.toList) K om ht (aT.below c) (zr N b8) (zr (zmG al.out) b7)).mono ?_;rintro v Z ⟨a8,rfl,_,c2,_,_,bd⟩;exact⟨a8,rfl,c2,bd⟩
    have b9:=a2.out u.drew (Ext.refl u).drew;obtain⟨mt,aS⟩:∃mt,J9 (T.zaV p) (d.map fun l=>T.wZ l.data.toList)=mt:=⟨_,rfl⟩;rw[aS]at an aJ aK;clear aS M aR aE aY aT a3 a4 e9 r0 t0 t1 t2 t3 aG aF Q a0 c0 c1 c2 c3 v0 v1 ai;have hm:Tryz.prog.follows .mixedOrders=true:=kr;have bh:∀(id:Nat) (a5:Array Oper) (ar:Exit->Act->H->Prop) (au:Act),(wpAnyH pg .any a5 ar (fun W=>W.cell? ⟨w.heap.size,0,O⟩=E (V m p.n cap)/\W.cell? ⟨w.heap.size,1,O⟩=E (V n p.rows.length t)/\W.cell? ⟨I.heap.size,0,O⟩=E (G B)/\W.cell? ⟨I.heap.size,1,O⟩=E (V A D C)/\W.cell? ⟨g9,0,O⟩=E (V g j i)) a5.size (Array.replicate a5.size false) au u.drew)->(Code.region id a5 true).wp pg ar au u:=fun id a5 ar au h=>zdk hm h
    go_wp2_with fail
    refine bh _ _ _ _ ?_;have a9:=b9;cases mt with
    |false=>
     have aD:¬(false=true):=dc;refine tkv 0 (h:=?_);refine tkv 1 (h:=?_);refine rd1 2 (h:=fun K y=>?_);go_simp;go_at_call 251
     refine(an.out _ (Ext.refl _).drew).mono ?_;rintro v wA ⟨rfl,a1⟩;have xA:=jG a1;go_wp2_with fail
     refine y.out _ _ (by exact a2.out _ xA) (h:=fun a9=>?_);clear y K;refine tkv 3 (h:=?_);refine tkv 4 (h:=?_);refine tks 5 (h:=?_);refine tks 6 (h:=?_);refine tks 7 (h:=?_);refine tks 8 (h:=?_);refine tks 9 (h:=?_);refine tks 10 (h:=?_);refine tks 11 (h:=?_);refine tkv 12 (h:=?_);refine QB kr ?_ _;have X:Hid (GrR p d val w (.returned (tp #[.nilFunc,it .i64 8])) wA):=aJ.out wA xA aD;clear a1;go_wp2;go_ret2;exact X.out
    |true=>
     have aD:(true=true):=rfl;refine tkv 0 (h:=?_);refine tkv 1 (h:=?_);refine rd1 2 (h:=fun K y=>?_);go_simp;go_at_call 251
     refine(an.out _ (Ext.refl _).drew).mono ?_;rintro v wA ⟨rfl,a1⟩;have xA:=jG a1;go_wp2_with fail
     refine y.out _ _ (by exact a2.out _ xA) (h:=fun a9=>?_);clear y K;refine tkv 3 (h:=?_);refine tkv 4 (h:=?_);refine tkv 5 (h:=?_);refine tkv 6 (h:=?_);refine tkv 7 (h:=?_);refine tkv 9 (h:=?_);refine rd1 8 (h:=fun K y=>?_);go_simp;go_at_call 252
     refine(b0.out wA xA).mono ?_;rintro v wB ⟨⟨ib,⟨ia,il,ic⟩⟩,rfl,aC,aB,ay⟩;have xB:=xA.trans (Ext.of ay);simp only[WT.val,WT.sv];go_wp2_with fail
     refine y.out _ _ (by exact a2.out _ xB) (h:=fun a9=>?_);clear y K;refine rd1 10 (h:=fun K y=>?_);go_simp;go_at_call 151
     refine(b1.out wB ⟨ib,(ia,il,ic)⟩ xB aC aB).mono ?_;rintro v wC ⟨cc,rfl,ae,az⟩;have xC:=xB.trans (Ext.of az);go_wp2_with fail
     refine y.out _ _ (by exact a2.out _ xC) (h:=fun a9=>?_);clear y K;refine tkv 11 (h:=?_);refine tkv 12 (h:=?_);refine QB kr ?_ _;by_cases ad:cc=0
     ·have be:((cc:Int) != 0)=false:=by simp[ad]
      have X:Hid (GrR p d val w (.returned (tp #[.func (.func 253) #[ag #[V g j i,G o,V q s r]] #[],it .i64 0])) wC):=aK.out wC xC aD (ae.1 ad);have bm:=JN;obtain⟨_,_,_⟩:=b5.out wC xC;clear a1 ay az ae aC aB;go_wp2;go_ret2;exact X.out
     ·have be:((cc:Int) != 0)=true:=by simp[ad]
      have X:Hid (GrR p d val w (.returned (tp #[.nilFunc,it .i64 8])) wC):=b2.out wC xC (fun h=>ad (ae.2 h));clear a1 ay az ae aC aB;go_wp2;go_ret2;exact X.out
  ·have aI:Hid (ZH p 1 (d.map fun l=>l.data.toList) val.data.toList= .error 7):=by
    rw[Hid,ZH,zW dc];have N:=aH.out;have hv:=al.out;rw[z8];rw[zo];have ba:(d.map fun l=>l.data.toList).all vOk=d.all fun l=>vOk l.data.toList:=by rw[zc6];rfl
    rw[ba];cases bv with
    |false=>exact .inr (.inl hv)
    |true=>
     cases bp with
     |true=>exact absurd ⟨rfl,rfl⟩ aA
     |false=>
      simp only[Bool.and_eq_false_iff,decide_eq_false_iff_not]at N;rcases N with N|N
      ·exact .inr (.inr (.inl N))
      ·exact .inr (.inr (.inr N))
   have HX:=zi ((ax.trans x3).alloc (cl #[G B,V A D C] 101));have X:Hid (GrR p d val w (.returned (tp #[.nilFunc,it .i64 7])) (I.alloc (cl #[G B,V A D C] 101))):=by
    refine⟨fun er h=>?_,fun z h=>?_,HX.out⟩
    ·rw[aI.out]at h;cases h;rfl
    ·rw[aI.out]at h;cases h
   clear ab hq;cases bp with
   |false=>
    go_wp2;go_ret2;exact X.out
   |true=>
    cases bv with
    |true=>exact absurd ⟨rfl,rfl⟩ aA
    |false=>
     go_wp2;go_ret2;exact X.out
def VeR (p:qo)(kind:Int)(pts:List ByteArray)(val:ByteArray)(w:H)(e:Ending)(w':H):Prop:=
 (∀er,ZH p kind (pts.map fun l=>l.data.toList) val.data.toList= .error er->e= .returned (tp #[.nilFunc,it .i64 (er:Nat)]))/\(∀z,ZH p kind (pts.map fun l=>l.data.toList) val.data.toList= .ok z->∃fid fst,e= .returned (tp #[.func (.func fid) fst #[],it .i64 0])/\zaY w' fid fst p kind z)/\Below w.heap.size w w'
theorem zhq {L:Nat}(p:qo)(cs:List JB)(rs:List RwV)(b c:Nat)(e f:Option Addr)(cap i:Nat)(w:H)(n:ji L p)(m:2+p.n<=L)(h:PM p cs rs b c e f w)(kind:Int)(pa:Option Addr)(g:Nat)(a:List ByteArray)(val:ByteArray)(k:T.Sv w (V pa a.length g) a)(j:∀l∈a,l.size<=9223372036854775807)(r:val.size<=9223372036854775807)(q:a.length<=9223372036854775807):
 Calls pg 93 #[ag #[V e p.n cap,V f p.rows.length i],ag #[it .i64 kind,V pa a.length g,gS val]] w (VeR p kind a val w):=by
 have o:=zi (fun(W:H) (d:Ext w W)=>zgR p cs rs b c e f cap i W n m (h.ext d) pa g a val (k.below d) j r q);have n:Ext w ((w.alloc (cl #[V e p.n cap,V f p.rows.length i] 109)).alloc (cl #[it .i64 kind,V pa a.length g,gS val] 46)):=((Ext.refl w).alloc _).alloc _;have d:=zi n;clear h k j;by_cases m:kind=1
 ·subst m;clear n;go_enter func93,ntmps93
  go_wp2_with fail
  refine(o.out _ d.out).mono ?_;rintro j u ⟨o,q,k⟩;cases b:ZH p 1 (a.map fun l=>l.data.toList) val.data.toList with
  |error s=>
   have r:=o s b;subst r;have c:Hid (VeR p 1 a val w (.returned (tp #[.nilFunc,it .i64 (s:Nat)])) u):=⟨(fun j h=>by rw[b]at h;cases h;rfl),(fun z h=>by rw[b]at h;cases h),ZA d.out (k.mono (Ext.size d.out))⟩;clear o q k b;go_wp2;go_ret2;exact c.out
  |ok z=>
   obtain⟨s,r,t⟩:=q z b;subst r;have c:Hid (VeR p 1 a val w (.returned (tp #[.func (.func 253) #[s.val] #[],it .i64 0])) u):=⟨(fun j h=>by rw[b]at h;cases h),(fun r h=>by
    rw[b]at h;cases h;exact⟨_,_,rfl,.inr ⟨rfl,rfl,s,rfl,t⟩⟩),ZA d.out (k.mono (Ext.size d.out))⟩
   obtain⟨⟨_,_,_⟩,⟨_,⟨_,_,_⟩⟩⟩:=s;simp only[RW.val,RW.fv,WT.sv]at c⊢;clear o q k b t;go_wp2;go_ret2;exact c.out
 ·by_cases k:kind=2
  ·subst k;have c:Hid (VeR p 2 a val w (.returned (tp #[.func (.func 160) #[] #[],it .i64 0])) ((w.alloc (cl #[V e p.n cap,V f p.rows.length i] 109)).alloc (cl #[it .i64 2,V pa a.length g,gS val] 46))):=by
    have b:ZH p 2 (a.map fun l=>l.data.toList) val.data.toList= .ok 0:=by unfold ZH;rw[z8 rfl]
    refine⟨(fun j h=>by rw[b]at h;cases h),fun z h=>?_,d.out⟩;exact⟨_,_,rfl,.inl ⟨dc,rfl,rfl⟩⟩
   clear n m;go_enter func93,ntmps93
   go_wp2;go_ret2;exact c.out
  ·have c:Hid (VeR p kind a val w (.returned (tp #[.nilFunc,it .i64 7])) ((w.alloc (cl #[V e p.n cap,V f p.rows.length i] 109)).alloc (cl #[it .i64 kind,V pa a.length g,gS val] 46))):=by
    have b:ZH p kind (a.map fun l=>l.data.toList) val.data.toList= .error 7:=by unfold ZH;rw[zW k,z8 (.inl m)]
    exact⟨(fun j h=>by rw[b]at h;cases h;rfl),(fun z h=>by rw[b]at h;cases h),d.out⟩
   have a:=qO.2 m;have a:=qO.2 k;clear n;go_enter func93,ntmps93
   go_wp2;go_ret2;exact c.out
theorem zkz {l:List UInt8}:∀{b:List (List UInt8)},l∈b->l.length<=Jn b
 |[],h=>by simp at h
 |a::b,h=>by
  have e:Jn (a::b)=a.length+1+Jn b:=by simp[Jn]
  rcases qw.1 h with rfl|h
  ·omega
  ·have:=zkz h;omega
theorem zin {n c S K:Nat}{rows:List (List Int×Int)}{e:List (List UInt8)}(o:Jl n (10^c) rows)(d:rows.length<1125899906842624)(A:∀l∈e,T.QG l=true)(t:Jn e<=S)(f:∀m,m<=c+S+S->10^m<4294967296^K):
 (∀k b,qG rows ((e.map jx).take k) (List.replicate n (0,1),(0,1))= .ok b->b.1.length=n/\(∀a∈b.1,a.1.natAbs<4294967296^K/\a.2<4294967296^K)/\b.2.1.natAbs<4294967296^K/\b.2.2<4294967296^K)/\
 (∀r∈rows,r.1.length=n/\(∀g∈r.1,g.natAbs<4294967296^K)/\r.2.natAbs<4294967296^K)/\
 (∀x∈e.map jx,x.2.1.natAbs<4294967296^K/\x.2.2<4294967296^K/\∀r∈rows,(∀g∈r.1,(x.2.1*g).natAbs<4294967296^K)/\(x.2.1*r.2).natAbs<4294967296^K)/\
 (∀b row,qG rows (e.map jx) (List.replicate n (0,1),(0,1))= .ok b->Qa b=E row->FitsR n K row/\Jl n (10^(c+S)) (rows ++ [row])):=by
 have z:=f c om;have y:∀k b,qG rows ((e.map jx).take k) (List.replicate n (0,1),(0,1))= .ok b->zcV (10^c*10^S) (10^S) b/\b.1.length=n:=by
  intro k b h;rw[<-zdI,<-zfd rows d,zdI]at h;exact zgc o A t k b h
 have s:10^c*10^S=10^(c+S):=(ZI _ _ _).symm;have v:10^(c+S)*10^S=10^(c+S+S):=(ZI _ _ _).symm;have d:=f (c+S+S) om;have q:=f S om;have w:=f (c+S) om;refine⟨fun k b h=>?_,fun r d=>?_,fun x B=>?_,fun b row h I=>?_⟩
 ·obtain⟨⟨j,i⟩,p⟩:=y k b h;refine⟨p,fun a u=>⟨?_,zr (j a u).down q⟩,?_,zr i.down q⟩
  ·have:=(j a u).num;rw[s,v]at this;omega
  ·have:=i.num;rw[s,v]at this;omega
 ·obtain⟨C,u,v⟩:=o r d;exact⟨C,fun g i=>zr (u g i) z,zr v z⟩
 ·obtain⟨l,z,rfl⟩:=ZC.1 B;have B:=zeU (A l z);have A:=zL (zkz z) t;have t:(jx l).2=(T.Jk l).2:=rfl;rw[t];have t:10^l.length<=10^S:=qz om A;have A:(T.Jk l).2.1.natAbs<=10^(S+S):=by
   rw[ZI];exact zL B.num (Z0 t t)
  have F:=f (S+S) om;have z:∀g:Int,g.natAbs<=10^c->((T.Jk l).2.1*g).natAbs<4294967296^K:=fun g i=>by
   rw[Zx];have D:=Z0 A i;rw[<-ZI]at D;have D:=f (S+S+c) om;omega
  refine⟨zr A F,zr (zL B.down t) q,fun r d=>?_⟩;obtain⟨C,u,v⟩:=o r d;exact⟨fun g i=>z g (u g i),z r.2 v⟩
 ·have f:qG rows ((e.map jx).take (e.map jx).length) (List.replicate n (0,1),(0,1))= .ok b:=by rw[Zw];exact h
  obtain⟨j,p⟩:=y _ b f;obtain⟨f,b,e⟩:=zhi j p I;rw[s]at b e;refine⟨⟨f,fun z h=>zr (b z h) w,zr e w⟩,fun r d=>?_⟩;rcases Zs.1 d with d|d
  ·exact(o.mono (qz om om)) r d
  ·rw[Qo.1 d];exact⟨f,b,e⟩
attribute [local go_sem] qm qW ZR
def lenK (L:List (List UInt8×Bool))(k:Nat):Nat:=((L.take k).map fun x=>x.1.length).sum
theorem zf1 {L:List (List UInt8×Bool)}{k:Nat}(h:k<L.length):lenK L (k+1)=lenK L k+(L.getD k ([],false)).1.length:=by
 unfold lenK;rw[(zau h).symm,ZN,zc2,zk,zj h];simp
theorem zow (L:List (List UInt8×Bool))(k:Nat):lenK L k<=(L.map fun x=>x.1.length).sum:=by
 unfold lenK;conv=>rhs;rw[<-Qf k L]
 rw[ZN,zc2];omega
theorem zmH (l:List UInt8):(qE l).length<=l.length:=(zbd _ l).1
structure CkS (n:Nat)(goal:List Int×Int->Bool)(L:List (List UInt8×Bool))(rows0 rows:List (List Int×Int))(k:Nat):Prop where
 ok:∀i,i<k->za8 L i=true
 le:k<=L.length
 on:k<L.length->QR n goal 0 rows0 L=QR n goal k rows (L.drop k)
 fin:k=L.length->QR n goal 0 rows0 L=(0,0)
 sz:Jl n (10^(40+lenK L k)) rows
 len:rows.length<=rows0.length+k
theorem CkS.step {n:Nat}{goal:List Int×Int->Bool}{L:List (List UInt8×Bool)}{a rows:List (List Int×Int)}{k:Nat}(h:CkS n goal L a rows k)(d:k<L.length)(f:rows.length<1125899906842624):
 (za8 L k=false->QR n goal 0 a L=(5,k+1))/\
 (za8 L k=true->((zbD n goal (decide (k+1=L.length)) rows (((qg (L.getD k ([],false)).1).drop 1).map jx)).1≠0->QR n goal 0 a L=((zbD n goal (decide (k+1=L.length)) rows (((qg (L.getD k ([],false)).1).drop 1).map jx)).1,k+1))/\
  ((zbD n goal (decide (k+1=L.length)) rows (((qg (L.getD k ([],false)).1).drop 1).map jx)).1=0->CkS n goal L a (zbD n goal (decide (k+1=L.length)) rows (((qg (L.getD k ([],false)).1).drop 1).map jx)).2 (k+1))):=by
 have b:L[k]? =E (L.getD k ([],false)):=zei _ d;have a:=h.on d;rw[zim b,znR]at a;have e:za8 L k=Je (decide (k+1=L.length)) (L.getD k ([],false)):=rfl;rw[<-e]at a;refine⟨fun c=>by rw[a,c];rfl,fun b=>?_⟩;rw[b,z8 rfl]at a;simp only[zfd rows f]at a;have g:∀l∈(qg (L.getD k ([],false)).1).drop 1,T.QG l=true:=by
  rw[e]at b;unfold Je at b;simp only[ZQ]at b;exact qR.1 b.2.2
 generalize i:((qg (L.getD k ([],false)).1).drop 1).map jx=o at *;have e:=zin (n:=n) (K:=40+lenK L k+(L.getD k ([],false)).1.length+(L.getD k ([],false)).1.length+1) h.sz f g (zex (L.getD k ([],false)).1) (fun m f=>(zaf om).resolve_right om);rw[i]at e;have m:=e.2.2.2;have j:∀i,i<k+1->za8 L i=true:=fun i e=>by
  rcases Z8 i k with e|e
  ·exact h.ok i e
  ·have:i=k:=om;rw[this];exact b
 have l:Jl n (10^(40+lenK L (k+1))) rows:=h.sz.mono (qz om (by rw[zf1 d];omega));unfold zbD;cases hb:qG rows o (List.replicate n (0,1),(0,1))with
 |error e=>
  rw[hb]at a;have b:=zdA hb;exact⟨fun _=>a,fun b=>by have f:e=0:=b;omega⟩
 |ok e=>
  rw[hb]at a;simp only at a⊢;by_cases f:k+1=L.length
  ·rw[qH f]at a⊢;simp only[jo]at a⊢;by_cases i:((Qa e).map goal).getD false=true
   ·rw[z8 i]at a⊢;refine⟨fun b=>absurd rfl b,fun _=>⟨j,om,fun g=>om,fun _=>a,l,by have:=h.len;omega⟩⟩
   ·rw[zW i]at a⊢;exact⟨fun _=>a,fun b=>by cases b⟩
  ·rw[ZB f]at a⊢;simp only[Q4,Jg]at a⊢;cases c:Qa e with
   |none=>
    rw[c]at a;exact⟨fun _=>a,fun b=>by cases b⟩
   |some row=>
    rw[c]at a;refine⟨fun b=>absurd rfl b,fun _=>⟨j,om,fun _=>a,fun g=>absurd g f,?_,by have:=h.len;simp;omega⟩⟩;have:=(m e row hb c).2;rw[zf1 d];rw[zaz]at this;exact this
def CkI (w w1:H)(B gl n:Nat)(goal:List Int×Int->Bool)(L:List (List UInt8×Bool))(rows0:List (List Int×Int))(vR0:Value)(GV:H->Prop)(k:Nat)(M:Nat->Prop)(A:H):Prop:=
 ∃rows vR,A.heap[gl]? =E (cl #[it .i64 (n:Nat),vR] 267)/\zcv B A vR rows/\CkS n goal L rows0 rows k/\Wr (fun b=>b=gl\/vR0.ownBlock=E b) w1 A/\(∀g,vR.ownBlock=E g->vR0.ownBlock=E g\/w1.heap.size<=g)/\GV A/\∀x,M x↔x=gl\/vR.ownBlock=E x\/x=w.heap.size+1+1\/x=w.heap.size+1+1+1
def CkX (w:H)(gl:Nat)(vR0:Value)(RES:Nat×Nat)(c:Code)(A:H):Prop:=c= .ret/\Wr (fun b=>b=gl\/vR0.ownBlock=E b) w A/\∃er ln:Nat,RES=(er,ln)/\A.heap[w.heap.size+1+1]? =E (cl #[it .i64 (er:Nat)] 27)/\A.heap[w.heap.size+1+1+1]? =E (cl #[it .i64 (ln:Nat)] 3)
theorem zlk {w:H}{r s:Nat}(h:r≠s){d f:Value}{b c:TypeId}(h1:w.heap[r]? =E (cl #[d] b))(g:w.heap[s]? =E (cl #[f] c))(a e:Value):
 ((w.setCell ⟨r,0,O⟩ a).setCell ⟨s,0,O⟩ e).heap[r]? =E (cl #[a] b)/\((w.setCell ⟨r,0,O⟩ a).setCell ⟨s,0,O⟩ e).heap[s]? =E (cl #[e] c)/\Wr (fun k=>k=r\/k=s) w ((w.setCell ⟨r,0,O⟩ a).setCell ⟨s,0,O⟩ e):=by
 refine⟨(zK _ _ _ _ so).trans (T.zev h1),T.zev ((zK _ _ _ _ so).trans g),(qS (.inl rfl) _).trans (qS (.inr rfl) _)⟩
theorem zhP (p:qo)(kind z:Int)(hn:p.n<=4)(aX:p.mx.length=p.n)(aL:∀z∈p.mx,z.natAbs<10^40)(aM:z.natAbs<=10^100)(B:Nat)(w:H)(a l:Nat)(m:Array Value)(f:Value)(u:List (List Int×Int))(c:List UInt8)(bl:c.length<=20000)
 (hg:w.heap[a]? =E (cl #[it .i64 (p.n:Nat),f] 267)) (hR:zcv B w f u) (bz:B<=w.heap.size) (bK:u.length<=20) (b1:Jl p.n (10^40) u) (aU:zaY w l m p kind z):
 Calls pg 94 #[pn (E ⟨a,0,O⟩),.func (.func l) m #[],gS ⟨c.toArray⟩] w fun e w'=>e= .returned (tp #[it .i64 ((QR p.n (jM p kind z) 0 u (qE c)).1:Nat),it .i64 ((QR p.n (jM p kind z) 0 u (qE c)).2:Nat)])/\Wr (fun b=>b=a\/f.ownBlock=E b) w w':=by
 have aG:QR p.n (jM p kind z) 0 u (qE c)=QR p.n (jM p kind z) 0 u (zab c):=by
  unfold zab;by_cases h:c= []
  ·subst h;rw[z8 rfl];have i:qE ([]:List UInt8)= []:=rfl;rw[i];simp[QR,zc5]
  ·rw[zW h]
 rw[aG];clear aG;have bi:0<(zab c).length:=by
  unfold zab;split
  ·simp
  ·rename_i h
   exact Zq.2 (fun e=>h ((zfr c).1 e))
 have bB:((zab c).map fun x=>x.1.length).sum<=20000:=by
  unfold zab;split
  ·simp
  ·exact zL (zij c) bl
 have bA:(zab c).length<=20001:=by
  unfold zab;split
  ·simp
  ·exact zL (zmH c) om
 have b3:=zmy c om;have bd:=zi b3;have HN:=zi (zhN (za8 (zab c)) (zab c).length 0);have al:0<zbj (zab c):=zgN _ _ _ bi;have bC:zbj (zab c)<=(zab c).length:=zhM _ _ _;have b9:Hid ((∀av,av<zbj (zab c)->za8 (zab c) av=true)->zbj (zab c)=(zab c).length):=fun h=>by
  have i:=HN.out (zbj (zab c)-1) (by unfold zbj at al⊢;omega);rw[qi]at i;have j:=i.2 (h _ om);by_cases o:zbj (zab c)-1+1<(zab c).length
  ·have d:=j.1 o;unfold zbj at d al;unfold zbj;omega
  ·have q:=j.2 om;unfold zbj at q al⊢;omega
 generalize zab c=n at *;clear b3;obtain⟨a0,hRES⟩:∃a0,QR p.n (jM p kind z) 0 u n=a0:=⟨_,rfl⟩;have aA:=zi hRES;rw[hRES];clear hRES;have bk:=(zf.1 hg).1;have HR:=zi hR;have HG:=zi hg;have b7:=zi aU;have bb:=zi b1;obtain⟨K,hKe⟩:∃K,K=20100:=⟨_,rfl⟩;have aj:Hid (∀ad,ad<=80000->10^ad<4294967296^K):=fun ad hm=>(zaf om).resolve_right om
 have bh:K+K+1<=1073741800:=om;have b6:Hid (FitsR p.n K (p.mx,z)):=⟨aX,fun x g=>Qm (aL x g) (aj.out 40 om),zr aM (aj.out 100 om)⟩;clear hR hg aU b1 hKe aL aM aX;generalize bG:(⟨c.toArray⟩:ByteArray)=lg at *;have bj:Ext w ((((w.alloc (cl #[pn (E ⟨a,0,O⟩)] 166)).alloc (cl #[.func (.func l) m #[]] 162)).alloc (cl #[it .i64 0] 27)).alloc (cl #[it .i64 0] 3)):=((((Ext.refl w).alloc _).alloc _).alloc _).alloc _;have aI:((((w.alloc (cl #[pn (E ⟨a,0,O⟩)] 166)).alloc (cl #[.func (.func l) m #[]] 162)).alloc (cl #[it .i64 0] 27)).alloc (cl #[it .i64 0] 3)).heap[w.heap.size]? =E (cl #[pn (E ⟨a,0,O⟩)] 166):=(zI _ _ _ sd).trans ((zI _ _ _ sd).trans (T.zbs w _ _).1);have aJ:((((w.alloc (cl #[pn (E ⟨a,0,O⟩)] 166)).alloc (cl #[.func (.func l) m #[]] 162)).alloc (cl #[it .i64 0] 27)).alloc (cl #[it .i64 0] 3)).heap[w.heap.size+1]? =E (cl #[.func (.func l) m #[]] 162):=(zI _ _ _ sd).trans ((zI _ _ _ sd).trans (T.zbs w _ _).2);have aK:((((w.alloc (cl #[pn (E ⟨a,0,O⟩)] 166)).alloc (cl #[.func (.func l) m #[]] 162)).alloc (cl #[it .i64 0] 27)).alloc (cl #[it .i64 0] 3)).heap[w.heap.size+1+1]? =E (cl #[it .i64 0] 27):=by
  refine(zI _ _ _ sd).trans ?_;have:=zq ((w.alloc (cl #[pn (E ⟨a,0,O⟩)] 166)).alloc (cl #[.func (.func l) m #[]] 162)) (cl #[it .i64 0] 27);simpa using this
 have an:((((w.alloc (cl #[pn (E ⟨a,0,O⟩)] 166)).alloc (cl #[.func (.func l) m #[]] 162)).alloc (cl #[it .i64 0] 27)).alloc (cl #[it .i64 0] 3)).heap[w.heap.size+1+1+1]? =E (cl #[it .i64 0] 3):=by
  have:=zq (((w.alloc (cl #[pn (E ⟨a,0,O⟩)] 166)).alloc (cl #[.func (.func l) m #[]] 162)).alloc (cl #[it .i64 0] 27)) (cl #[it .i64 0] 3);simpa using this
 have hm:Tryz.prog.follows .mixedOrders=true:=kr;refine JO func94 ntmps94 (h:=?_);gi_wp2;generalize (((w.alloc (cl #[pn (E ⟨a,0,O⟩)] 166)).alloc (cl #[.func (.func l) m #[]] 162)).alloc (cl #[it .i64 0] 27)).alloc (cl #[it .i64 0] 3)=Q at *;refine(zS.2 (znT lg Q)).mono ?_;rintro e s ⟨rfl,au⟩;have x1:Ext Q s:=by rw[au];exact(Ext.refl Q).alloc _
 have k1:s.heap[Q.heap.size]? =E (cl #[gS lg] 9):=by rw[au];exact zq _ _
 clear au;have R:=bj.trans x1;have bI:=(zf.1 an).1;have bH:=(zf.1 k1).1;have br:∀y,f.ownBlock=E y->y<w.heap.size/\QI w y 174/\qU w y:=fun y ao=>by
  obtain⟨rs,_,C,_⟩:=HR.out;exact⟨(C.type y ao).1.lt,(C.type y ao).1,C.dig y ao⟩
 have HB:Hid (∀A,Wr (fun b=>b=a\/f.ownBlock=E b) s A->A.heap[w.heap.size]? =E (cl #[pn (E ⟨a,0,O⟩)] 166)/\A.heap[w.heap.size+1]? =E (cl #[.func (.func l) m #[]] 162)/\A.heap[w.heap.size+1+1]? =E (cl #[it .i64 0] 27)/\A.heap[w.heap.size+1+1+1]? =E (cl #[it .i64 0] 3)/\A.heap[Q.heap.size]? =E (cl #[gS lg] 9)):=fun A hA=>by
  have far:∀b,w.heap.size<=b->¬(b=a\/f.ownBlock=E b):=fun b hb=>by
   rintro(rfl|h);·omega
   ·have:=(br b h).1;omega
  have get:∀(b:Nat) (aw:Obj),Q.heap[b]? =E aw->w.heap.size<=b->A.heap[b]? =E aw:=fun b aw ho hb=>hA.some ((x1.block b (zf.1 ho).1).trans ho) (far b hb)
  exact⟨get _ _ aI om,get _ _ aJ om,get _ _ aK om,get _ _ an om,hA.some k1 (far _ om)⟩
 clear aI aJ aK an;gi_wp2;refine jB (bd.out Q.heap.size) rfl (ZJ func255 kr rfl) (fun k bw W ⟨aE,e1,_⟩=>by rw[e1];rfl)
  (CkI w s B a p.n (jM p kind z) n u f (fun A=>zaY A l m p kind z)) (fun M _ A=>CkX w a f a0 M A) (fun x=>x=a\/f.ownBlock=E x\/x=w.heap.size+1+1\/x=w.heap.size+1+1+1) ?hI ?hIx ?hC ?h0 ?round ?done ?stop
 case hI=>
  rintro k a3 A A' ⟨rows,vR,i,j,o,d,q,P,t⟩ F;exact⟨rows,vR,F.block _ _ i (.inr rfl),j.keep F,o,d.keep F,q,P.keep F,t⟩
 case hIx=>
  rintro M k A A' ⟨i,j,N,ln,o,d,q⟩ F;exact⟨i,j.keep (F.mono R.size),N,ln,o,F.block _ _ d (.inr rfl),F.block _ _ q (.inr rfl)⟩
 case hC=>
  rintro k a3 A ⟨rows,vR,i,j,o,d,q,P,t⟩;obtain⟨q0,q1,J,L,q4⟩:=HB.out A d;refine⟨c_ 0 q4,fun x g=>?_⟩;rcases(t x).1 g with rfl|g|rfl|rfl
  ·exact(zf.1 i).1
  ·obtain⟨rs,_,C,_⟩:=j;exact(C.type x g).1.lt
  ·exact(zf.1 J).1
  ·exact(zf.1 L).1
 case h0=>
  refine⟨u,f,(R.block _ bk).trans HG.out,HR.out.ext R,⟨fun av hi=>om,qp _,fun _=>rfl,fun h=>om,?_,om⟩,Wr.refl _ _,fun y hg=> .inl hg,b7.out.ext R,fun x=>Ql⟩;exact bb.out
 case round=>
  rintro l2 k bw a3 A bF ⟨aE,rfl,aQ,ah⟩ ⟨rows,vR,i,j,o,d,q,P,t⟩;have aW:k<n.length:=om;have bp:rows.length<=900000:=by have:=o.len;omega
  obtain⟨s1,s2⟩:=o.step aW om;rw[aA.out]at s1 s2;have aq:=zow n (k+1);rw[zf1 aW]at aq;have aT:=fun F=>zin (n:=p.n) (K:=K) o.sz om F (zex (n.getD k ([],false)).1) (fun ad hm=>aj.out ad om)
  have aB:=zi (And.intro s1 s2);have b5:=zi aT;have bx:=zi aq;have aZ:za8 n k=true->∀bt∈(qg (n.getD k ([],false)).1).drop 1,T.QG bt=true:=fun ht=>by
   unfold za8 Je at ht;simp only[ZQ]at ht;exact qR.1 ht.2.2
  have ba:=zi aZ;have bo:(((qg (n.getD k ([],false)).1).drop 1).map jx).length<=1000000:=by
   have h8:∀ws:List (List UInt8),ws.length<=Jn ws:=fun ws=>by
    induction ws with
    |nil=>simp[Jn]
    |cons ae ws ih=>
     have e:Jn (ae::ws)=ae.length+1+Jn ws:=by simp[Jn]
     rw[e,Zo];omega
   rw[zo];have:=h8 ((qg (n.getD k ([],false)).1).drop 1);have:=zex (n.getD k ([],false)).1;omega
  clear s1 s2 aT aq aZ;generalize ((qg (n.getD k ([],false)).1).drop 1).map jx=ps at *;obtain⟨v,de,pa,pl,pc⟩:=aE;simp only[DL.val,DL.pv]at ah⊢;have aR:v=((k+1:Nat):Int):=aQ;have ax:=zi aR;clear aQ aR;unfold Qr;gi_wp2;refine⟨Wr.of_below ((Ext.refl A).alloc _),fun r aV=>?_⟩;have xA:=(zw.alloc s.heap.size A (cl #[it .i64 v,G de,V pa pl pc] 259)).trans aV;have e0:=aV.block _ _ (zq A (cl #[it .i64 v,G de,V pa pl pc] 259)) (.inr rfl);have d0:=c_ 0 e0;have d1:=c_ 1 e0;have d2:=c_ 2 e0;have a6:=d.keep xA;obtain⟨q0,q1,J,L,q4⟩:=HB.out r a6;have c0:=c_ 0 q0;have c1:=c_ 0 q1;have c2:=c_ 0 J;have c3:=c_ 0 L;have f2:r.frozen? ⟨w.heap.size+1+1,0,O⟩=false:=T.ZX J;have f3:r.frozen? ⟨w.heap.size+1+1+1,0,O⟩=false:=T.ZX L;have bm:=(zf.1 e0).1;have bJ:=d.size;have a4:=xA.block _ _ i (.inr rfl);have a5:=j.keep xA;have aa:=P.keep xA;have af:=(Wr.of_below R).trans a6;cases hok:za8 n k with
  |false=>
   obtain⟨Y,Z,I⟩:=zlk om J L (it .i64 5) (it .i64 v);have HF:Hid (Qs a3 (CkI w s B a p.n (jM p kind z) n u f (fun A=>zaY A l m p kind z)) (fun M _ A=>CkX w a f a0 M A) k A r .ret { tmps:=#[],defers:= [] } ((r.setCell ⟨w.heap.size+1+1,0,O⟩ (it .i64 5)).setCell ⟨w.heap.size+1+1+1,0,O⟩ (it .i64 v)).drew):=by
    refine⟨(I.mono (fun x g=>(t x).2 (g.elim (fun h=> .inr (.inr (.inl h))) (fun h=> .inr (.inr (.inr h)))))).trans (Wr.drew _ _),rfl,zcB af (I.trans (Wr.drew _ _)) (fun x g hp=>by rcases hp with h|h<;>omega),5,k+1,aB.out.1 hok,Y,?_⟩;rw[<-ax.out];exact Z
   have ay:Hid (∀W,Wr (fun b=>b=w.heap.size+1+1\/b=w.heap.size+1+1+1) r.drew W->(fun W=>W.cell? ⟨A.heap.size,0,O⟩=E (it .i64 v)) W):=fun W hW=>hW.cell (p:=⟨A.heap.size,0,O⟩) (by rintro(h|h)<;>(simp at h;omega)) d0
   clear Y Z I e0 i j d q P a4 a5 aa ah a6 af;gi_wp2;refine(show(Code.region _ _ _).wpIn _ _ _ _ _ _ from zan (S:=fun W=>W.cell? ⟨A.heap.size,0,O⟩=E (it .i64 v)) hm (by rfl) (fun⟨ae,w,h⟩=>h) d0 (fun a8=>?_));refine tkv 0 (h:=?_);refine tkv 1 (h:=?_);refine rd1 2 (h:=fun K D=>?_);go_simp;refine D.out _ _ (by exact ay.out _ (qS (U:=fun b=>b=w.heap.size+1+1\/b=w.heap.size+1+1+1) (.inl rfl) _)) (h:=fun a8=>?_);clear D K;refine rd1 3 (h:=fun K D=>?_);go_simp;refine D.out _ _ (by exact ay.out _ ((qS (U:=fun b=>b=w.heap.size+1+1\/b=w.heap.size+1+1+1) (.inl rfl) _).trans (qS (.inr rfl) _))) (h:=fun a8=>?_);clear D K;refine QB kr ?_ _;gi_wp2;exact HF.out
  |true=>
   obtain⟨aO,b0⟩:=ah hok;have a9:=b5.out (ba.out hok);have ar:=aB.out.2 hok;have aP:=aO;rw[<-aP]at ar;have aD:=zi (take_any K bh p.n om B r a ⟨v,de,(pa,pl,pc)⟩ vR rows ps (jM p kind z) (FitsR p.n K) l m (zov om om b6.out aa) a4 a5 om bp (b0.keep xA) bo a9.1 a9.2.1 a9.2.2.1 (fun bg row ha hf=>(a9.2.2.2 bg row ha hf).1));simp only[DL.val,DL.pv]at aD;have aY:∀b,b=a\/vR.ownBlock=E b->¬QI r b 101/\qU r b:=by
    rintro b (rfl|hb)
    ·refine⟨fun ht=>absurd (ht.one ⟨_,_,a4⟩) dc,qj a4 ?_⟩;intro bL hu;simp at hu;obtain⟨rs,_,C,_⟩:=a5;obtain⟨_,_,bs⟩:=C.shape;rcases hu with rfl|rfl
     ·intro bu e;cases e
     ·rw[bs];intro bu e;cases e
    ·obtain⟨rs,_,C,_⟩:=a5;exact⟨fun ht=>absurd (ht.one (C.type b hb).1) dc,C.dig b hb⟩
   generalize bq:zbD p.n (jM p kind z) de rows ps=TK at *;obtain⟨N,bv⟩:=TK;have aC:=zi ar;have b8:=zi aY;have be:Hid (∀ak,Wr (fun b=>b=a\/vR.ownBlock=E b) r ak->Wr (fun b=>b=a\/f.ownBlock=E b) s ak):=fun ak hX=>zcB a6 hX (fun x g hp=>by
    rcases hp with h|h
    ·exact .inl h
    ·rcases q x h with h|h
     ·exact .inr h
     ·omega)
   clear ar a9 aY b0 ah bq e0 aO aP hok;gi_wp2;with_reducible refine(Zr l2 (zS.2 aD.out)).mono ?_
   rintro e X ⟨rfl,a2,b4,e3,ap,ai⟩;have ab:=be.out X a2;obtain⟨p0,p1,p2,p3,p4⟩:=HB.out X ab;have g2:=c_ 0 p2;have g3:=c_ 0 p3;have z2:X.frozen? ⟨w.heap.size+1+1,0,O⟩=false:=T.ZX p2;have z3:X.frozen? ⟨w.heap.size+1+1+1,0,O⟩=false:=T.ZX p3;have bE:=(zf.1 i).1;have bn:¬(A.heap.size=a\/vR.ownBlock=E A.heap.size):=by
    rintro(h|h);·omega
    ·obtain⟨rs,_,C,_⟩:=j;have:=(C.type _ h).1.lt;omega
   have aF:=a2.cell (p:=⟨A.heap.size,0,O⟩) bn d0;by_cases aS:N=0
   ·subst aS;have HF:Hid (Qs a3 (CkI w s B a p.n (jM p kind z) n u f (fun A=>zaY A l m p kind z)) (fun M _ A=>CkX w a f a0 M A) k A r .normal { tmps:=#[],defers:= [] } X):=by
     refine⟨a2.mono (fun x g=>(t x).2 (g.elim .inl (fun h=> .inr (.inl h)))),fun x=>x=a\/b4.ownBlock=E x\/x=w.heap.size+1+1\/x=w.heap.size+1+1+1,⟨bv,b4,e3,ap,aC.out.2 rfl,ab,fun y hg=>?_,aa.wr a2 b8.out,fun x=>Ql⟩,fun x g=>?_⟩
     ·rcases ai y hg with h|h
      ·exact q y h
      ·exact .inr om
     ·rcases g with h|h|h
      ·exact .inl ((t x).2 (.inl h))
      ·rcases ai x h with h|h
       ·exact .inl ((t x).2 (.inr (.inl h)))
       ·exact .inr om
      ·exact .inl ((t x).2 (.inr (.inr h)))
    clear i j d q P a4 a5 aa a6 af a2 e3 ap ai ab p0 p1 p2 p3 p4;gi_wp2;exact HF.out
   ·have bD:¬((N:Int)=0):=om;have b2:=aC.out.1 aS;obtain⟨Y,Z,I⟩:=zlk om p2 p3 (it .i64 (N:Nat)) (it .i64 v);have aH:=(Wr.of_below R).trans ab;have HF:Hid (Qs a3 (CkI w s B a p.n (jM p kind z) n u f (fun A=>zaY A l m p kind z)) (fun M _ A=>CkX w a f a0 M A) k A r .ret { tmps:=#[],defers:= [] } ((X.setCell ⟨w.heap.size+1+1,0,O⟩ (it .i64 (N:Nat))).setCell ⟨w.heap.size+1+1+1,0,O⟩ (it .i64 v)).drew):=by
     refine⟨((a2.mono (fun x g=>(t x).2 (g.elim .inl (fun h=> .inr (.inl h))))).trans (I.mono (fun x g=>(t x).2 (g.elim (fun h=> .inr (.inr (.inl h))) (fun h=> .inr (.inr (.inr h))))))).trans (Wr.drew _ _),rfl,zcB aH (I.trans (Wr.drew _ _)) (fun x g hp=>by rcases hp with h|h<;>omega),N,k+1,b2,Y,?_⟩;rw[<-ax.out];exact Z
    have az:Hid (∀W,Wr (fun b=>b=w.heap.size+1+1\/b=w.heap.size+1+1+1) X.drew W->(fun W=>W.cell? ⟨A.heap.size,0,O⟩=E (it .i64 v)) W):=fun W hW=>hW.cell (p:=⟨A.heap.size,0,O⟩) (by rintro(h|h)<;>(simp at h;omega)) aF
    clear Y Z I i j d q P a4 a5 aa a6 af a2 e3 ap ai ab p0 p1 p2 p3 p4 aH b2;gi_wp2;refine(show(Code.region _ _ _).wpIn _ _ _ _ _ _ from zan (S:=fun W=>W.cell? ⟨A.heap.size,0,O⟩=E (it .i64 v)) hm (by rfl) (fun⟨ae,w,h⟩=>h) aF (fun a8=>?_));refine tkv 0 (h:=?_);refine tkv 1 (h:=?_);refine tkv 2 (h:=?_);refine rd1 3 (h:=fun K D=>?_);go_simp;refine D.out _ _ (by exact az.out _ (qS (U:=fun b=>b=w.heap.size+1+1\/b=w.heap.size+1+1+1) (.inl rfl) _)) (h:=fun a8=>?_);clear D K;refine rd1 4 (h:=fun K D=>?_);go_simp;refine D.out _ _ (by exact az.out _ ((qS (U:=fun b=>b=w.heap.size+1+1\/b=w.heap.size+1+1+1) (.inl rfl) _).trans (qS (.inr rfl) _))) (h:=fun a8=>?_);clear D K;refine QB kr ?_ _;gi_wp2;exact HF.out
 case done=>
  rintro a7 a3 A hD ⟨rows,vR,i,j,o,d,q,P,t⟩ hd;have bc:Hid (a0=(0,0)):=by
   rw[Hid,<-aA.out];exact o.fin (b9.out o.ok)
  obtain⟨q0,q1,J,L,q4⟩:=HB.out A d;have g2:=c_ 0 J;have g3:=c_ 0 L;have z2:A.frozen? ⟨w.heap.size+1+1,0,O⟩=false:=T.ZX J;have z3:A.frozen? ⟨w.heap.size+1+1+1,0,O⟩=false:=T.ZX L;obtain⟨Y,Z,I⟩:=zlk om J L (it .i64 0) (it .i64 0);have HU:=zi (And.intro Y (And.intro Z I));have bf:Hid (Wr (fun b=>b=a\/f.ownBlock=E b) w ((A.setCell ⟨w.heap.size+1+1,0,O⟩ (it .i64 0)).setCell ⟨w.heap.size+1+1+1,0,O⟩ (it .i64 0))):=zcB ((Wr.of_below R).trans d) I (fun x g hp=>by rcases hp with h|h<;>omega);have bm:=d.size;clear Y Z I i j o d q P t q0 q1 J L q4;gi_wp2;have aN:=(HU.out.2.2.block a7 (zf.1 hd).1 (by rintro(h|h)<;>omega)).trans hd;refine qt aN ?_;have a1:zw s.heap.size ((A.setCell ⟨w.heap.size+1+1,0,O⟩ (it .i64 0)).setCell ⟨w.heap.size+1+1+1,0,O⟩ (it .i64 0)) (((A.setCell ⟨w.heap.size+1+1,0,O⟩ (it .i64 0)).setCell ⟨w.heap.size+1+1+1,0,O⟩ (it .i64 0)).putObj a7 (.deferred O)):=zw.putObj _ hD aN rfl;have d0:=a1.cell (c_ 0 HU.out.1);have d1:=a1.cell (c_ 0 HU.out.2.1);refine⟨tp #[it .i64 0,it .i64 0],by simp[results,results94,go_sem,d0,d1],?_,bf.out.keep (a1.mono R.size)⟩;rw[bc.out];rfl
 case stop=>
  rintro a7 M k A hD F ⟨rfl,j,N,ln,o,d,q⟩ hd;subst o;gi_wp2;refine qt hd ?_;have a1:zw s.heap.size A (A.putObj a7 (.deferred O)):=zw.putObj _ hD hd rfl;have d0:=a1.cell (c_ 0 d);have d1:=a1.cell (c_ 0 q);exact⟨tp #[it .i64 (N:Nat),it .i64 (ln:Nat)],by simp[results,results94,go_sem,d0,d1],rfl,j.keep (a1.mono R.size)⟩
end Go.Proofs.YtnhfdcfnojnofaaGreatDoor
namespace Go.Proofs.YtnhfdcfnojnofaaGreatDoor
open Go.RowKit
def zej (p:qo)(kind:Int)(pt:List (List UInt8))(v log:List UInt8):Nat×Nat:=
 match ZH p kind pt v with
 |.error e=>(e,0)
 |.ok z=>if 20000<log.length then(4,0)else QR p.n (jM p kind z) 0 (T.zaV p) (qE log)
theorem zmI {L:Nat}(p:qo)(cs:List JB)(rs:List RwV)(A J:Nat)(c d:Option Addr)(cap i:Nat)(w:H)(f:ji L p)(s:2+p.n<=L)(h:PM p cs rs A J c d w)(kind:Int)(pa:Option Addr)(j:Nat)(a:List ByteArray)(val:ByteArray)(b:List UInt8)(hv:T.Sv w (V pa a.length j) a)(a3:∀l∈a,l.size<=9223372036854775807)(aq:val.size<=9223372036854775807)(an:a.length<=9223372036854775807)(au:b.length<=9223372036854775807):
 Calls pg 61 #[ag #[V c p.n cap,V d p.rows.length i],ag #[it .i64 kind,V pa a.length j,gS val],gS ⟨b.toArray⟩] w fun e w'=>e= .returned (tp #[it .i64 ((zej p kind (a.map fun l=>l.data.toList) val.data.toList b).1:Nat),it .i64 ((zej p kind (a.map fun l=>l.data.toList) val.data.toList b).2:Nat)])/\Below w.heap.size w w':=by
 obtain⟨_,al⟩:=f.n om;have ak:=f.m om;obtain⟨q,N⟩:∃q,zej p kind (a.map fun l=>l.data.toList) val.data.toList b=q:=⟨_,rfl⟩;rw[N];have X:=zi N;clear N;have ad:=zi (fun(W:H) (t:Ext w W)=>zhq p cs rs A J c d cap i W f s (h.ext t) kind pa j a val (hv.below t) a3 aq an);have ab:=zi (fun(W:H) (t:Ext w W)=>ziJ p cs rs A J c d cap i W f s (h.ext t));have af:=zeH f s;have U:=zi (fun(z:Int) P hlog (a6:Nat) (W:H) r C D y v hR hBw n=>zhP p kind z al ak f.bm P a6 W r C D y (T.zaV p) b hlog v hR hBw af (zeV f s) n);have Z:Ext w ((w.alloc (cl #[V c p.n cap,V d p.rows.length i] 109)).alloc (cl #[it .i64 kind,V pa a.length j,gS val] 46)):=((Ext.refl w).alloc _).alloc _;have a2:(⟨b.toArray⟩:ByteArray).size=b.length:=rfl;have o:=zi a2;obtain⟨x,hlg⟩:∃x,(⟨b.toArray⟩:ByteArray)=x:=⟨_,rfl⟩;rw[hlg]at o U⊢;obtain⟨M,ae⟩:=T.zbs w (cl #[V c p.n cap,V d p.rows.length i] 109) (cl #[it .i64 kind,V pa a.length j,gS val] 46);clear h hv a3 a2 hlg;go_enter func61,ntmps61
 go_wp2_with fail
 generalize (w.alloc (cl #[V c p.n cap,V d p.rows.length i] 109)).alloc (cl #[it .i64 kind,V pa a.length j,gS val] 46)=w0 at *;refine(ad.out w0 Z).mono ?_;rintro e R ⟨F,I,Y⟩;have S:Ext w0 R:=Y;have k:=Z.trans S;have c0:=S.cell (c_ 0 M);have c1:=S.cell (c_ 1 M);clear M ae Y;cases hvs:ZH p kind (a.map fun l=>l.data.toList) val.data.toList with
 |error B=>
  have K:=F B hvs;subst K;have ah:=zfZ hvs;have av:¬((B:Int)=0):=om;have g:Hid (q=(B,0)):=by rw[Hid,<-X.out];unfold zej;rw[hvs]
  clear F I hvs ah;go_wp2;go_ret2;rw[g.out];exact⟨rfl,k⟩
 |ok z=>
  obtain⟨C,D,K,n⟩:=I z hvs;subst K;have P:=zgt hvs;have g:Hid (q=if 20000<b.length then(4,0)else QR p.n (jM p kind z) 0 (T.zaV p) (qE b)):=by rw[Hid,<-X.out];unfold zej;rw[hvs]
  clear F I hvs;by_cases a1:20000<b.length
  ·have aj:(20000:Int)<(x.size:Int):=by rw[o.out];omega
   rw[z8 a1]at g;have ar:=o.out;clear n;go_wp2;go_ret2;rw[g.out];exact⟨rfl,k⟩
  ·have aj:¬(20000:Int)<(x.size:Int):=by rw[o.out];omega
   rw[zW a1]at g;have aa:=zi n;clear n;go_wp2_with fail
   refine(ab.out R k).mono ?_;rintro e w2 ⟨r,y,rfl,v,Q,ai,u⟩;have a8:=zi (U.out z P om R.heap.size w2 r C D y v Q u.size (aa.out.ext (Ext.of u)));have a0:∀m,m=r\/y.ownBlock=E m->w.heap.size<=m:=by
    rintro m (rfl|hb);·exact zL k.size ai
    ·obtain⟨_,_,hG,_⟩:=Q;exact zL k.size (hG.type m hb).2
   have a9:=zi a0;have a5:=k.trans (Ext.of u);clear Q v u a0;go_wp2_with fail
   refine a8.out.mono ?_;rintro e w3 ⟨rfl,a4⟩;have a7:=zi (ZA a5 (a4.below a5.size a9.out));rw[<-g.out];clear a4;go_wp2;go_ret2;exact⟨rfl,a7.out⟩
theorem zmJ (s:List UInt8)(kind:Int)(pa:Option Addr)(j:Nat)(a:List ByteArray)(val:ByteArray)(b:List UInt8)(w:H)(F:T.Sv w (V pa a.length j) a)(D:∀l∈a,l.size<=9223372036854775807)(q:val.size<=9223372036854775807)(o:a.length<=9223372036854775807)(m:b.length<=9223372036854775807):
 Calls pg 45 #[gS ⟨s.toArray⟩,ag #[it .i64 kind,V pa a.length j,gS val],gS ⟨b.toArray⟩] w fun e w'=>e= .returned (tp #[it .i64 ((zat s kind (a.map fun l=>l.data.toList) val.data.toList b).1:Nat),it .i64 ((zat s kind (a.map fun l=>l.data.toList) val.data.toList b).2:Nat)])/\Below w.heap.size w w':=by
 obtain⟨k,c⟩:∃k,zat s kind (a.map fun l=>l.data.toList) val.data.toList b=k:=⟨_,rfl⟩;rw[c];have z:=zi c;clear c;have B:Ext w (w.alloc (cl #[it .i64 kind,V pa a.length j,gS val] 46)):=(Ext.refl w).alloc _;have n:=zq w (cl #[it .i64 kind,V pa a.length j,gS val] 46);have y:=zi (fun(L:Nat) p t x r u d f g i (W:H) (c:Ext w W) hp hL h=>zmI (L:=L) p t x r u d f g i W hp hL h kind pa j a val b (F.below c) D q o m);have o:Hid (∀W,Calls pg 59 #[gS ⟨s.toArray⟩] W fun e w'=>Below W.heap.size W w'/\((∃c m:Nat,jj s= .error (c,m)/\0<c/\e= .returned (tp #[ag #[V O 0 0,V O 0 0],it .i64 (c:Nat),it .i64 (m:Nat)]))\/∃p A q v,jj s= .ok p/\e= .returned (tp #[ag #[q,v],it .i64 0,it .i64 0])/\DQ w' A p q v/\ji (qE s).length p/\2+p.n<=(qE s).length)):=by
  intro W;by_cases C:2000<s.length
  ·refine(zmn s C W).mono ?_;rintro e w' ⟨rfl,I⟩;refine⟨I,.inl ⟨4,0,?_,om,rfl⟩⟩;unfold jj;rw[z8 C]
  ·exact read_any s om W
 obtain⟨C,hss⟩:∃C,(⟨s.toArray⟩:ByteArray)=C:=⟨_,rfl⟩;obtain⟨C,hlg⟩:∃C,(⟨b.toArray⟩:ByteArray)=C:=⟨_,rfl⟩;rw[hss]at o⊢;rw[hlg]at y⊢;clear hss hlg F D;go_enter func45,ntmps45
 go_wp2_with fail
 generalize w.alloc (cl #[it .i64 kind,V pa a.length j,gS val] 46)=D at *;refine(o.out D).mono ?_;rintro e F ⟨o,⟨c,m,j,I,rfl⟩|⟨p,A,q,v,j,rfl,A,v,C⟩⟩
 ·have q:Hid (k=(c,m)):=by rw[Hid,<-z.out];unfold zat;rw[j]
  have m:¬((c:Int)=0):=om;have c:=zi (B.trans ((Ext.of o).alloc (cl #[V O 0 0,V O 0 0] 109)));clear j I o n;go_wp2;go_ret2;rw[q.out];exact⟨rfl,c.out⟩
 ·have q:Hid (k=zej p kind (a.map fun l=>l.data.toList) val.data.toList b):=by rw[Hid,<-z.out];unfold zat zej;rw[j];rfl
  obtain⟨t,x,r,u,d,f,g,i,rfl,rfl,k⟩:=znW A v C;have m:=Ext.of o;have b:=zi (B.trans (m.alloc (cl #[V d p.n g,V f p.rows.length i] 109)));have c:=zi (y.out _ p t x r u d f g i _ b.out v C (k.ext ((Ext.refl F).alloc (cl #[V d p.n g,V f p.rows.length i] 109))));have a:=((m.alloc (cl #[V d p.n g,V f p.rows.length i] 109)).block _ (zf.1 n).1).trans n;have d:=c_ 0 a;have d:=c_ 1 a;have d:=c_ 2 a;rw[<-q.out]at c;clear j A v k o n a;go_wp2_with fail
  refine c.out.mono ?_;rintro e a ⟨rfl,a⟩;have c:=zi (ZA b.out (a.mono (Ext.size b.out)));clear a;go_wp2;go_ret2;exact⟨rfl,c.out⟩
theorem zhr (s:List UInt8)(kind:Int)(pa:Option Addr)(c:Nat)(a:List ByteArray)(val:ByteArray)(b:List UInt8)(w:H)(j:T.Sv w (V pa a.length c) a)(i:∀l∈a,l.size<=9223372036854775807)(m:val.size<=9223372036854775807)(k:a.length<=9223372036854775807)(g:b.length<=9223372036854775807):
 Calls pg 28 #[gS ⟨s.toArray⟩,ag #[it .i64 kind,V pa a.length c,gS val],gS ⟨b.toArray⟩] w fun e w'=>e= .returned (tp #[it .i64 ((zat s kind (a.map fun l=>l.data.toList) val.data.toList b).1:Nat),it .i64 ((zat s kind (a.map fun l=>l.data.toList) val.data.toList b).2:Nat)])/\Below w.heap.size w w':=by
 have h:Ext w (w.alloc (cl #[it .i64 kind,V pa a.length c,gS val] 46)):=(Ext.refl w).alloc _;have d:=zi (fun(W:H) (f:Ext w W)=>zmJ s kind pa c a val b W (j.below f) i m k g);have c:=zi h;obtain⟨f,hss⟩:∃f,(⟨s.toArray⟩:ByteArray)=f:=⟨_,rfl⟩;obtain⟨f,hlg⟩:∃f,(⟨b.toArray⟩:ByteArray)=f:=⟨_,rfl⟩;obtain⟨f,g⟩:∃f,zat s kind (a.map fun l=>l.data.toList) val.data.toList b=f:=⟨_,rfl⟩;rw[hss,hlg,g]at d⊢;clear hss hlg g j i h;go_enter func28,ntmps28
 go_wp2_with fail
 refine(d.out _ c.out).mono ?_;rintro e a ⟨rfl,a⟩;have b:=zi (ZA c.out (a.mono (Ext.size c.out)));clear a;go_wp2;go_ret2;exact⟨rfl,b.out⟩
end Go.Proofs.YtnhfdcfnojnofaaGreatDoor
