import Derived.Test.YthnopjedhcapmaaGreatDoorMvr1Z10
import Derived.Test.YthnopjedhcapmaaGreatDoorMvr1Z9
open Option renaming none->O,some->E
open Go.Value renaming slice->V,bool->G,string->gS,pointer->pn,int->it,agg->ag
open Go.Obj renaming cells->cl
open Go renaming World->H
open Go.Proofs.Tryz renaming prog->pg
open Go.Proofs.Tryz
open Go.Ending renaming returned->Xa
open Go.IntKind renaming i64->Xb
open Go.Addr renaming mk->Xd
set_option linter.unusedSimpArgs false
set_option linter.unusedVariables false
set_option maxHeartbeats 4000000
set_option maxRecDepth 100000
namespace Go.Proofs.YthnopjedhcapmaaGreatDoor
section
variable {B K:Nat}{a ts:List (U_)}{w:H}{zs:L_}
structure Fine (p:qF):Prop where
 n1:0<p.n
 n4:p.n<=4
 m:p.mx.length=p.n
 g:p.rg.length=p.n
 l:p.rows.length<=6
 c:∀x∈p.rows,x.1.length=p.n/\jO x.2.1=true
 bm:∀z∈p.mx,z.natAbs<10^40
 bg:∀r∈p.rg,r.1.natAbs<10^40/\r.2.natAbs<10^40
 br:∀x∈p.rows,(∀z∈x.1,z.natAbs<10^40)/\x.2.2.natAbs<10^40
 w:∀r∈p.rg,r.2-r.1<=7
def NumT (z:Int)(t:U_):Prop:=dOk t=true/\T.wZ t=z/\∀c∈t,c≠32/\c≠10
theorem NumT.itoa(z:Int)(h:z.natAbs<10^40):NumT z (Lib.itoa z):=⟨zqI z h,zrP z,zgG z⟩
def J7 (ts:List (U_)):U_:=ts.flatMap fun t=>32::t
theorem zfc(zs:L_):J7 (zs.map Lib.itoa)=QF zs:=by
 unfold J7 QF;rw[List.flatMap_map]
theorem zgQ(w:U_)(ts:List (U_))(h:∀x∈w,x≠32)(a:∀t∈ts,∀c∈t,c≠32):Zb (w++J7 ts)=w::ts:=by
 induction ts generalizing w with
 |nil=>simp only[J7,JP,ZR];exact zkA w h
 |cons t ts b=>
  have e:w++J7 (t::ts)=w++32::(t++J7 ts):=by simp[J7]
  rw[e,zjj w _ h,b t (a t sp) (fun u b=>a u (by simp[b]))]
theorem zgR{ts:List (U_)}(e:∀t∈ts,∀c∈t,c≠10):∀c∈J7 ts,c≠10:=by
 intro c d;have⟨t,b,a⟩:=jj.1 d;rcases zI.1 a with rfl|a
 ·decide
 ·exact e t b c a
def JN (zs:L_)(ts:List (U_)):Prop:=ts.length=zs.length/\(∀t∈ts,dOk t=true/\∀c∈t,c≠32/\c≠10)/\ts.map T.wZ=zs
theorem JN.nil:JN [] []:=⟨rfl,fun t h=>by simp at h,rfl⟩
theorem JN.cons{z:Int}{t:U_}(h:NumT z t)(k:JN zs ts):JN (z::zs) (t::ts):=by
 refine⟨by simp[k.1],?_,by rw[Zk,h.2.1,k.2.2]⟩;intro u a;rcases zI.1 a with rfl|a
 ·exact⟨h.1,h.2.2⟩
 ·exact k.2.1 u a
theorem JN.itoa(zs:L_)(h:∀z∈zs,z.natAbs<10^40):JN zs (zs.map Lib.itoa):=by
 induction zs with
 |nil=>exact JN.nil
 |cons z zs a=>exact JN.cons (NumT.itoa z (h z sp)) (a fun y a=>h y (by simp[a]))
theorem JN.all(h:JN zs ts):ts.all dOk=true:=Zi.2 fun t a=>(h.2.1 t a).1
theorem take_vars(n:Nat)(h1:0<n)(a:n<=4):jD 0 qF.none (Zb (zan++32::Lib.itoa (n:Int)))=E ⟨n,[],[],[]⟩:=by
 rw[zjj _ _ dc,zkA _ (fun x a=>(zgG _ x a).1)];have e:T.varsN [zan,Lib.itoa n]=n:=by
  have:n=1\/n=2\/n=3\/n=4:=om;rcases this with rfl|rfl|rfl|rfl<;>decide +kernel
 unfold jD;rw[zQ rfl,e,zO om]
theorem take_max(p:qF)(zs:L_)(ts:List (U_))(h:JN zs ts)(b:zs.length=p.n):jD 1 p (Zb (zbB++J7 ts))=E { p with mx:=zs }:=by
 rw[zgQ _ _ dc (fun t d c a=>((h.2.1 t d).2 c a).1)];unfold jD;rw[zO om,zQ rfl,zQ ⟨by rw[qi,h.1,b],rfl,by simpa using h.all⟩];simp[h.2.2]
theorem znV(i:Nat)(p:qF)(r:Int×Int)(ts:List (U_))(h:JN [r.1,r.2] ts)(h2:2<=i)(hi:i<=1+p.n):jD i p (Zb (Je++J7 ts))=E { p with rg:=p.rg ++ [r] }:=by
 rw[zgQ _ _ dc (fun t b c a=>((h.2.1 t b).2 c a).1)];unfold jD;obtain⟨c,b,a⟩:=h;match ts,c,b,a with
 |[c,d],_,b,a=>
  simp only[Zk,zdJ,za5,zel]at a;rw[zO om,zO om,zQ hi,zQ ⟨rfl,rfl,by simp[(b c sp).1,(b d sp).1]⟩];simp[a.1,a.2]
theorem zq4(i:Nat)(p:qF)(r:L_×U_×Int)(ts:List (U_))(t:U_)(h:JN r.1 ts)(d:NumT r.2.2 t)(hs:jO r.2.1=true)(j:∀c∈r.2.1,c≠32)(f:r.1.length=p.n)(k:p.rows.length<6)(h2:2<=i)(hi:1+p.n<i):
 jD i p (Zb (JX++J7 (ts ++ [r.2.1,t])))=E { p with rows:=p.rows ++ [r] }:=by
 have e:∀u∈ts ++ [r.2.1,t],∀c∈u,c≠32:=by
  intro u a c b;rcases zU.1 a with a|a
  ·exact((h.2.1 u a).2 c b).1
  ·rcases zI.1 a with rfl|a
   ·exact j c b
   ·rw[qg.1 a]at b;exact(d.2.2 c b).1
 rw[zgQ _ _ dc e];have a:ts.length=p.n:=by rw[h.1,f]
 have b:(JX::_).drop 1=ts ++ [r.2.1,t]:=rfl;have e:(ts ++ [r.2.1,t]).take p.n=ts:=by rw[<-a];simp
 have f:(JX::(ts ++ [r.2.1,t])).getD (p.n+1) []=r.2.1:=by rw[<-a];simp[zk]
 have j:(JX::(ts ++ [r.2.1,t])).getD (p.n+2) []=t:=by
  rw[<-a,zk,jg,zG om];simp
 unfold jD;rw[b,e,f,j];rw[zO om,zO om,zO om,zQ ⟨k,by simp[a],rfl,h.all,hs,d.1⟩,h.2.2,d.2.1]
def zd3 (ls:List (U_)):U_:=ls.flatMap fun l=>l ++ [10]
theorem zhJ(l:U_)(a:List (U_)):zd3 (l::a)=l++10::zd3 a:=by simp[zd3]
theorem zmL(a b:List (U_)):zd3 (a++b)=zd3 a++zd3 b:=by simp[zd3]
theorem znW(a:List (U_))(r:U_)(h:∀l∈a,∀c∈l,c≠10):QW (zd3 a++r)=a.map (fun l=>(l,true))++QW r:=by
 induction a with
 |nil=>simp[zd3]
 |cons l a a=>rw[zhJ,Zl,ZZ,znI _ _ (h l sp),a (fun k a=>h k (by simp[a]))];rfl
structure zeq (p:qF)(ls:List (U_)):Prop where
 ex:∃(tm:List (U_)) (tg:List (List (U_))) (tr:List (List (U_)×U_)),
  ls=(zan++32::Lib.itoa (p.n:Int))::(zbB++J7 tm)::(tg.map (fun ts=>Je++J7 ts)++(p.rows.zip tr).map (fun x=>JX++J7 (x.2.1 ++ [x.1.2.1,x.2.2])))/\
  JN p.mx tm/\tg.length=p.rg.length/\tr.length=p.rows.length/\(∀(i:Nat) (r:Int×Int) (ts:List (U_)),p.rg[i]? =E r->tg[i]? =E ts->JN [r.1,r.2] ts)/\
  (∀(i:Nat) (r:L_×U_×Int) (t:List (U_)×U_),p.rows[i]? =E r->tr[i]? =E t->JN r.1 t.1/\NumT r.2.2 t.2)
theorem zjw{l:U_}(h:jO l=true):∀c∈l,c≠32/\c≠10:=by
 unfold jO at h;simp at h;rcases h with h|h|h<;>rw[h]<;>decide
theorem zio(n:Nat)(mx:L_):∀(a:List (Int×Int)) (b:List (List (U_))) (done:List (Int×Int)) (rest:List (U_×Bool)),b.length=a.length->
 (∀(i:Nat) (r:Int×Int) (ts:List (U_)),a[i]? =E r->b[i]? =E ts->JN [r.1,r.2] ts)->done.length+a.length<=n->
 ju (2+done.length) ⟨n,mx,done,[]⟩ ((b.map (fun ts=>Je++J7 ts)).map (fun l=>(l,true))++rest)=ju (2+(done.length+a.length)) ⟨n,mx,done++a,[]⟩ rest
 |[],b,done,rest,c,_,_=>by
  have:b= []:=Qk.1 c;subst this;simp
 |r::a,[],done,rest,c,_,_=>by simp at c
 |r::a,ts::b,done,rest,c,d,e=>by
  simp only[Zk,ZZ];rw[ju];simp only[zcG,zaK];rw[qi]at e;rw[znV (2+done.length) ⟨n,mx,done,[]⟩ r ts (d 0 r ts rfl rfl) om (by show 2+done.length<=1+n;omega)];have h:=zio n mx a b (done ++ [r]) rest (by simpa using c) (fun i a b c e=>d (i+1) a b (by simpa using c) (by simpa using e)) so;simp only[zM,qi,QK,Zl,ZZ,Q7]at h⊢;rw[show 2+done.length+1=2+(done.length+(0+1))by omega,h];congr 1
  omega
theorem zkL(n:Nat)(mx:L_)(rg:List (Int×Int)):∀(a:List (L_×U_×Int)) (b:List (List (U_)×U_)) (done:List (L_×U_×Int)) (i:Nat) (rest:List (U_×Bool)),b.length=a.length->
 (∀(i:Nat) (r:L_×U_×Int) (t:List (U_)×U_),a[i]? =E r->b[i]? =E t->JN r.1 t.1/\NumT r.2.2 t.2)->(∀r∈a,r.1.length=n/\jO r.2.1=true)->done.length+a.length<=6->2<=i->1+n<i->
 ju i ⟨n,mx,rg,done⟩ (((a.zip b).map (fun x=>JX++J7 (x.2.1 ++ [x.1.2.1,x.2.2]))).map (fun l=>(l,true))++rest)=ju (i+a.length) ⟨n,mx,rg,done++a⟩ rest
 |[],b,done,i,rest,c,_,_,_,_,_=>by
  have:b= []:=Qk.1 c;subst this;simp
 |r::a,[],done,i,rest,c,_,_,_,_,_=>by simp at c
 |r::a,t::b,done,i,rest,c,j,f,d,k,m=>by
  simp only[List.zip_cons_cons,Zk,ZZ];rw[ju];simp only[zcG,zaK];rw[qi]at d;have e:=j 0 r t rfl rfl;have d:=f r sp;rw[zq4 i ⟨n,mx,rg,done⟩ r t.1 t.2 e.1 e.2 d.2 (fun h e=>(zjw d.2 h e).1) d.1 (by show done.length<6;omega) k m];have h:=zkL n mx rg a b (done ++ [r]) (i+1) rest (by simpa using c) (fun k a b c d=>j (k+1) a b (by simpa using c) (by simpa using d)) (fun x e=>f x (by simp[e])) so om om;simp only[Zl,ZZ,Q7]at h⊢;rw[h,qi];congr 1
  omega
theorem zo6{p:qF}{b:List (U_)}(a:Fine p)(h:zeq p b)(rest:List (U_×Bool)):ju 0 qF.none (b.map (fun l=>(l,true))++rest)=ju (2+p.n+p.rows.length) p rest:=by
 obtain⟨b,j,c,rfl,hm,d,f,e,i⟩:=h.ex;simp only[Zk,Z6,ZZ,Zl];rw[ju];simp only[zcG,zaK];rw[take_vars p.n a.n1 a.n4];simp only;rw[ju];simp only[zcG,zaK];rw[take_max ⟨p.n,[],[],[]⟩ p.mx b hm a.m];simp only;have b:=zio p.n p.mx p.rg j [] (((p.rows.zip c).map (fun x=>JX++J7 (x.2.1 ++ [x.1.2.1,x.2.2]))).map (fun l=>(l,true))++rest) d e (by rw[a.g];simp);simp only[QK,qV,Q7,qt,a.g]at b;rw[show(0+1+1:Nat)=2 from rfl,b];have b:=zkL p.n p.mx p.rg p.rows c [] (2+p.n) rest f i a.c (by simp;exact a.l) om om;simp only[Q7]at b;rw[b]
theorem zo7:QW []= []:=rfl
theorem zeq.len{p:qF}(b:Fine p)(h:zeq p a):a.length=2+p.n+p.rows.length:=by
 obtain⟨_,_,_,rfl,hm,a,c,_⟩:=h.ex;simp only[qi,zM,zm,QO,a,c,b.g];omega
theorem zeq.chars{p:qF}{a:List (U_)}(m:Fine p)(h:zeq p a):∀l∈a,∀c∈l,c≠10:=by
 obtain⟨_,_,_,rfl,hm,_,_,f,o⟩:=h.ex;intro l d c a;rcases zI.1 d with rfl|d
 ·rcases zU.1 a with a|a
  ·exact(by decide:∀c∈zan,c≠10) c a
  ·rcases zI.1 a with rfl|a
   ·decide
   ·exact(zgG _ c a).2
 ·rcases zI.1 d with rfl|d
  ·rcases zU.1 a with a|a
   ·exact(by decide:∀c∈zbB,c≠10) c a
   ·exact zgR (fun t b c a=>((hm.2.1 t b).2 c a).2) c a
  ·rcases zU.1 d with d|d
   ·obtain⟨q,j,rfl⟩:=qP.1 d;rcases zU.1 a with a|a
    ·exact(by decide:∀c∈Je,c≠10) c a
    ·have⟨i,e⟩:=Jq.1 j;have j:i<p.rg.length:=by have:=(zo.1 e).1;omega
     have k:=f i _ q (zg j) e;exact zgR (fun t b c a=>((k.2.1 t b).2 c a).2) c a
   ·obtain⟨_,f,rfl⟩:=qP.1 d;rcases zU.1 a with a|a
    ·exact(by decide:∀c∈JX,c≠10) c a
    ·have⟨i,e⟩:=Jq.1 f;rw[Zf]at e;have k:=o i _ _ e.1 e.2;have d:=m.c _ (zx e.1);refine zgR (fun t b c a=>?_) c a;rcases zU.1 b with b|b
     ·exact((k.1.2.1 t b).2 c a).2
     ·rcases zI.1 b with rfl|b
      ·exact(zjw d.2 c a).2
      ·rw[qg.1 b]at a;exact(k.2.2.2 c a).2
theorem zo8{rg:List (Int×Int)}(h:∀r∈rg,r.2-r.1<=7)(i:Nat):zao i rg=O:=by
 induction rg generalizing i with
 |nil=>rfl
 |cons r rg a=>
  rw[zao,zO (by have:=h r sp;omega)];exact a (fun x a=>h x (by simp[a])) _
theorem znX{p:qF}(b:Fine p)(h:zeq p a)(hs:(zd3 a).length<=2000):JY (zd3 a)= .ok p:=by
 have c:QW (zd3 a)=a.map fun l=>(l,true):=by
  have:=znW a [] (h.chars b);rwa [ZR,zo7,ZR]at this
 have a:=zo6 b h [];rw[ZR]at a;unfold JY;rw[zO om,c,a];simp only[ju];rw[zO (by rw[zm,h.len b];omega),zo8 b.w]
def zjx (p:qF):List (U_):=
 (zan++32::Lib.itoa (p.n:Int))::(zbB++QF p.mx)::(p.rg.map (fun r=>Je++QF [r.1,r.2])++p.rows.map (fun r=>JX++QF r.1++32::r.2.1++QF [r.2.2]))
theorem zmM(p:qF):zd3 (zjx p)=ze4 p:=by
 unfold zjx ze4;rw[zhJ,zhJ,zmL];simp only[zd3,List.flatMap_map];have a:za1=fun r=>Je++QF [r.1,r.2] ++ [10]:=rfl
 have b:rowS=fun r=>JX++QF r.1++32::r.2.1++QF [r.2.2] ++ [10]:=rfl
 rw[a,b];simp
theorem zq5{a b:Type}(f:a->b)(l:List a):l.zip (l.map f)=l.map fun x=>(x,f x):=by
 induction l with
 |nil=>rfl
 |cons x l a=>rw[Zk,List.zip_cons_cons,a,Zk]
theorem zo9{p:qF}(d:Fine p):zeq p (zjx p):=by
 refine⟨p.mx.map Lib.itoa,p.rg.map (fun r=> [r.1,r.2].map Lib.itoa),p.rows.map (fun r=>(r.1.map Lib.itoa,Lib.itoa r.2.2)),?_,JN.itoa _ d.bm,sp,sp,?_,?_⟩
 ·unfold zjx;rw[zfc,zcA];rw[zq5,zcA];refine qm (fun l=>_::_::l) (congr (qm HAppend.hAppend ?_) ?_)
  ·apply zeb;intro r _;show Je++QF [r.1,r.2]=Je++J7 ([r.1,r.2].map Lib.itoa)
   rw[zfc]
  ·apply zeb;intro r _;show JX++QF r.1++32::r.2.1++QF [r.2.2]=JX++J7 (r.1.map Lib.itoa ++ [r.2.1,Lib.itoa r.2.2])
   rw[<-zfc,<-zfc];simp[J7]
 ·intro i r c a b;rw[zR,a]at b;have:c= [r.1,r.2].map Lib.itoa:=(Q8 b).symm;rw[this];refine JN.itoa _ fun z e=>?_
  have c:=d.bg r (zx a);rcases zI.1 e with rfl|e
  ·exact c.1
  ·rw[qg.1 e];exact c.2
 ·intro i r t a b;rw[zR,a]at b;have:t=(r.1.map Lib.itoa,Lib.itoa r.2.2):=(Q8 b).symm;rw[this];have c:=d.br r (zx a);exact⟨JN.itoa _ c.1,NumT.itoa _ c.2⟩
open Go.RowKit
def zh6 (over:Nat)(q:Nat×Int):U_:=Lib.decDigits q.1++(58::jL (q.2/(Nat.gcd q.2.natAbs over:Int)) (over/Nat.gcd q.2.natAbs over))
def partB (over:Nat)(q:Nat×Int):ByteArray:=⟨(zh6 over q).toArray⟩
theorem zhK{p:Int}{q:Nat}(a:p.natAbs<4294967296^K)(b:q<4294967296^K):(jL p q).length<=20*K+10:=by
 have c:=zku a;have a:=zbg b;unfold jL;split
 ·omega
 ·simp only[zM,qi,QK];omega
theorem zkf(K:Nat)(hK:K<=1000000)(w:H)(d:DP)(n:Nat)(p:Int)(q:Nat)(hn:NatV w d.rv n)(hf:Qa w d.f.val p q)(hnK:n<4294967296^K)(hpK:p.natAbs<4294967296^K)(hqK:q<4294967296^K)(htab:Tab w):
 C_ 257 #[d.val] w fun e w'=>e=Xa (gS ⟨(Lib.decDigits n++(58::jL p q)).toArray⟩)/\b_ w w':=by
 have⟨⟨ra,rl,rc⟩,⟨fb,⟨ua,ul,uc⟩,⟨da,dl,dc⟩⟩⟩:=d;simp only[DP.val,DP.rv,T.Tri.val,T.Tri.up,T.Tri.down]at *;have⟨n0,x0⟩:=new1 w (cl #[V ra rl rc,G fb,V ua ul uc,V da dl dc] 322);have HNS:=zf (fun W (hx:Ext w W)=>zcK K hK W _ n (hn.below hx) hnK (htab.below hx));have HFS:=zf (fun W (hx:Ext w W)=>zja K hK W _ p q (hf.below hx) hpK hqK (htab.below hx));have hl1:=zbg hnK;have hl2:=zhK hpK hqK;have E1:Hid (ByteArray.mk (Lib.decDigits n).toArray++ByteArray.mk #[58]++ByteArray.mk (jL p q).toArray=ByteArray.mk (Lib.decDigits n++(58::jL p q)).toArray):=by
  have e1:ByteArray.mk (Lib.decDigits n).toArray++ByteArray.mk #[58]=ByteArray.mk (Lib.decDigits n ++ [58]).toArray:=JW _ [58];rw[Hid,e1,JW,Zl];rfl
 have z1:=zdo (Lib.decDigits n);have z2:=zdo (jL p q);have z3:(ByteArray.mk (Lib.decDigits n).toArray++ByteArray.mk #[58]).size=(Lib.decDigits n).length+1:=by
  have e1:ByteArray.mk (Lib.decDigits n).toArray++ByteArray.mk #[58]=ByteArray.mk (Lib.decDigits n ++ [58]).toArray:=JW _ [58];rw[e1,zdo];simp
 rw[<-E1.out];generalize ByteArray.mk (Lib.decDigits n).toArray=s1 at *;generalize ByteArray.mk (jL p q).toArray=s2 at *
 have c1:¬9223372036854775807<s1.size+1:=by omega
 have c4:¬9223372036854775807<s1.size+1+s2.size:=by omega
 clear hn hf E1 hl1 hl2 z1 z2 z3 htab;go_enter Tryz.func257,Tryz.ntmps257
 go_wp2_with fail
 generalize World.alloc _ _=w0 at *;have HK:=zf (fun W (hW:Ext w0 W)=>
  have q0:=(hW.block _ (zd.1 n0).1).trans n0;Xc (ze _ _ 0 _ _ _ q0) (Xc (ze _ _ 1 _ _ _ q0) (Xc (ze _ _ 2 _ _ _ q0) (ze _ _ 3 _ _ _ q0))))
 refine ZO (S:=fun W=>W.cell? (y_ w 0)=E (V ra rl rc)/\W.cell? (y_ w 1)=E (G fb)/\W.cell? (y_ w 2)=E (V ua ul uc)/\W.cell? (y_ w 3)=E (V da dl dc)) (by kernel_rfl) (HK.out w0 (Xe _)) (fun hHeld=>?_);apply tkl [0,1,4,5];apply rcl 2 (HNS.out _ x0.drew);rintro e w1 ⟨rfl,hb1⟩;have x1:=ZG hb1;refine bk (HK.out w1 x1) fun hHeld=>?_
 apply tkv 3;apply rcl 6 (HFS.out _ (x0.trans x1));rintro e w2 ⟨rfl,hb2⟩;have x2:=x1.trans (Xf hb2);refine bk (HK.out w2 x2) fun hHeld=>?_
 apply tkl [7,8];refine zV (by kernel_rfl) ?_ _;go_wp2;go_ret;exact⟨rfl,x0.trans x2⟩
attribute [local go_sem] zD zW qJ
def LpV (W:H)(over:Nat)(d:DP)(q:Nat×Int):Prop:=NatV W d.rv q.1/\Qa W d.f.val (q.2/(Nat.gcd q.2.natAbs over:Int)) (over/Nat.gcd q.2.natAbs over)
theorem zgo(t:LT)(w:H):C_ 182 #[t.val] w fun e w'=>e=Xa (.func (.func 234) #[] #[p_ w.heap.size 0])/\w'=w.alloc (cl #[t.ov,t.pv] 109):=by
 have⟨⟨_,_,_⟩,⟨_,_,_⟩⟩:=t;simp only[LT.val,LT.ov,LT.pv];go_enter func182,ntmps182
 go_wp2;go_ret;exact⟨rfl,rfl⟩
def LwC (t:LT)(l:Zy)(ps:List PT)(bl:Nat)(W:H):Prop:=
 (W.cell? (Xd bl 0 O)=E t.ov/\W.cell? (Xd bl 1 O)=E t.pv)/\NatV W t.ov l.over/\ZS W 260 t.pv 3 (ps.map PT.cells)/\∀(i:Nat) (p:PT) (q:Nat×Int),ps[i]? =E p->l.parts[i]? =E q->p.num=(q.1:Int)/\zy W p.t.val q.2
theorem zpa(a:K+K<=1073741800)(W:H)(x y:Value)(z:Int)(over:Nat)(c:Qa W x z 1)(d:Qa W y (over:Int) 1)(ho:over≠0)(i:z.natAbs<4294967296^K)(b:over<4294967296^K):
 C_ 61 #[x,y] W fun e w'=>∃f:T.Tri,e=Xa f.val/\Qa w' f.val (z/(Nat.gcd z.natAbs over:Int)) (over/Nat.gcd z.natAbs over)/\b_ W w':=by
 have a:1<4294967296^K:=by
  rcases Qd K with h|h
  ·subst h;simp at b;omega
  ·exact Nat.one_lt_pow om dc
 apply(zos K om (zbV (K+K) om) W x y z over 1 1 c d om i (by simpa using b) a a).mono;rintro e w' ⟨_,rfl,a,i⟩;have b:z*((1:Nat):Int)*(over:Int).sign=z:=by
  rw[Qs om];omega
 rw[b,Q9,Jv]at a;obtain⟨d,b,l,cap,c,j,h,rfl,_⟩:=a.parts;exact⟨⟨d,(b,l,cap),(c,j,h)⟩,rfl,a,i⟩
theorem zld(w:H)(a:A_)(l c:Nat):
 C_ 116 #[V a l c] w fun e w'=>e=Xa (ag #[G false,V a l c])/\b_ w w':=by
 have b:Hid (∀W,C_ 66 #[G false,V a l c] W fun e w'=>e=Xa (ag #[G false,V a l c])/\b_ W w'):=fun W=>by
  go_enter func66,ntmps66
  go_wp2;exact zH (by simp[results,results66,go_sem]) rfl ⟨rfl,(qf _ _).alloc (zh _) _⟩
 go_enter func116,ntmps116
 go_wp2_with fail
 apply(b.out _).mono;rintro e w' ⟨rfl,b⟩;have⟨d,f⟩:=znh b;have h:=b.size;have h:w'.cell? (y_ w 0)=E (G false):=by rw[d _ _ sp];simp
 have i:w'.cell? (y_ w 1)=E (V_):=by rw[d _ _ sp];simp
 have j:w'.frozen? (y_ w 0)=false:=by rw[f _ _ sp];simp
 simp
 have d:Hid (b_ w ((w'.setCell (y_ w 0) (G false)).setCell (y_ w 1) (V a l c))):=((((Xe w).alloc _).trans (Xf b)).setCell (zh _) _).setCell (zh _) _;go_wp2;exact zH (by simp[results,results116,go_sem,h,i]) rfl ⟨rfl,d.out⟩
theorem zrW(w:H)(b:Bool)(a:A_)(l c:Nat):
 C_ 36 #[ag #[G b,V a l c]] w fun e w'=>e=Xa (ag #[G b,V a l c,V_])/\b_ w w':=by
 go_enter func36,ntmps36
 go_wp2;exact zH (by simp[results,results36,go_sem]) rfl ⟨rfl,zaA w _ _⟩
theorem zq6{a:A_}{l c n:Nat}(h:NatV w (V a l c) n):Qa w (ag #[G false,V a l c,V_]) (n:Int) 1:=
 ⟨false,_,_,rfl,by rw[Q9];exact h,by rw[Hid];simp,Xo _ _ _,om,Nat.gcd_one_right _⟩
theorem zrX(W:H)(x:Value)(z:Int)(h:zy W x z):
 C_ 36 #[x] W fun e w'=>∃f:T.Tri,e=Xa f.val/\Qa w' f.val z 1/\b_ W w':=by
 apply(zjQ W x z h).mono;rintro e w' ⟨_,rfl,a,j⟩;obtain⟨d,b,l,cap,c,k,i,rfl,_⟩:=a.parts;exact⟨⟨d,(b,l,cap),(c,k,i)⟩,rfl,a,j⟩
theorem ziP{U:Nat->Prop}{w1 A:H}(a:Ext w w1)(h:Wr U w1 A)(c:∀b,U b->w.heap.size<=b):Ext w A:=Qg a (h.below a.size c)
theorem zl5{B:H}{a:Nat}(c:B.heap[a]? =E (cl #[G false,V_,V_] 66))(b:Bool)(u d:Value):
 (((B.setCell (Xd a 0 O) (G b)).setCell (Xd a 1 O) u).setCell (Xd a 2 O) d).heap[a]? =E (cl #[G b,u,d] 66)/\Wr (fun k=>k=a) B (((B.setCell (Xd a 0 O) (G b)).setCell (Xd a 1 O) u).setCell (Xd a 2 O) d)/\qK B a/\
 (B.cell? (Xd a 0 O)=E (G false)/\B.cell? (Xd a 1 O)=E (V_)/\B.cell? (Xd a 2 O)=E (V_))/\B.frozen? (Xd a 0 O)=false/\B.frozen? (Xd a 1 O)=false/\B.frozen? (Xd a 2 O)=false:=
 ⟨Xl (Xl (Xl c)),((zv (U:=fun k=>k=a) rfl _).trans (zv (U:=fun k=>k=a) rfl _)).trans (zv (U:=fun k=>k=a) rfl _),zE c (by intro u a;simp at a;rcases a with rfl|rfl<;>(intro n e;cases e)),⟨c_ 0 c,c_ 1 c,c_ 2 c⟩,Xh c,Xh c,Xh c⟩
def LwI (W:H)(lp b3 bv:Nat)(t:LT)(J:Nat->(Nat->Prop)->H->Prop)(k:Nat)(M:Nat->Prop)(A:H):Prop:=
 J k M A/\A.cell? (Xd W.heap.size 0 O)=E (.func (.yield lp) #[] #[])/\A.heap[b3]? =E (cl #[G false,t.ov,V_] 66)/\A.cell? (Xd bv 0 O)=E t.pv/\¬M W.heap.size/\¬M b3/\¬M bv
def LwX (Jx:Nat->H->Prop)(c:Code)(k:Nat)(A:H):Prop:=c= .ret/\Jx k A
theorem zjy(a:K+K<=1073741800)(t:LT)(l:Zy)(X:List PT)(o:X.length=l.parts.length)(c:X.length<=1000)(ho:l.over≠0)(a0:l.over<4294967296^K)(u:∀q∈l.parts,q.2.natAbs<4294967296^K/\q.1<9223372036854775808)(b:Nat):
 Ja pg 234 #[p_ b 0] l.parts.length (fun k v W=>∃(d:DP) (q:Nat×Int),l.parts[k]? =E q/\v=#[d.val]/\LpV W l.over d q) (LwC t l X b):=by
 intro lp ai Jx f W hJ aj hC i h0;obtain⟨⟨c,z⟩,A,m,-⟩:=(hC 0 f W h0).1;have j:=zf hC;have F:=zf i;have ab:=zf o;have I:=zf u;have e:b<W.heap.size:=zw c;obtain⟨⟨N,Q,P⟩,⟨pa,_,pc⟩⟩:=t;obtain⟨Z,cap,e⟩:=m.shape;rw[zm]at e;simp only[LT.pv,qp]at e;obtain⟨rfl,rfl,rfl⟩:=e;simp only[LT.ov,LT.pv]at *;have L:¬f W.heap.size:=fun h=>by have:=(j.out 0 f W h0).2 _ h;omega
 have y:=(j.out 0 f W h0).2;obtain⟨s,x⟩:=new1 W (cl #[.func (.yield lp) #[] #[]] 317);have D:=x.cell c;have r:=x.cell z;have C:=zf (fun B (c:zn W.heap.size W B)=>hJ _ _ _ _ h0 c);clear i hC o u A m h0;refine Q0 func234 ntmps234 (h:=?_);gi_wp2;generalize H.alloc _ _=i at *;refine(zq.2 (zld i N Q P)).mono ?_;rintro e b ⟨rfl,z⟩;have xB:=Xf z;gi_wp2;refine(zq.2 (zrW b false N Q P)).mono ?_;rintro e b ⟨rfl,A⟩;have m:=xB.trans (Xf A);have J:=(m.alloc (cl #[G false,V N Q P,V_] 66)).cell r;have o:=zC b (cl #[G false,V N Q P,V_] 66);have u:Ext i (b.alloc (cl #[G false,V N Q P,V_] 66)):=m.alloc _;have M:=m.size;clear z A xB D r;gi_wp2;generalize H.alloc _ _=R at *;generalize b.heap.size=b3 at *;clear m;refine(zq.2 (zlO pa X.length pc R)).mono ?_;rintro e m ⟨rfl,a3⟩;have b:Ext R m:=by rw[a3];exact(Xe R).alloc _
 have z:m.cell? (y_ R 0)=E (V pa X.length pc):=by rw[a3];exact c_ 0 (zC _ _)
 have i:=(zd.1 o).1;have U:=(b.block _ i).trans o;have i:=(zd.1 s).1;have i:=u.size;have i:=b.size;have r:=x.trans (u.trans b);have i:=(u.trans b).cell (c_ 0 s);clear a3 o s J;gi_wp2;refine zdG (zk6 X pa pc R.heap.size om) rfl (qW func259 kr rfl) (fun k v W=>by rintro⟨t,_,rfl⟩;rfl)
  (LwI W lp b3 R.heap.size ⟨(N,Q,P),(pa,X.length,pc)⟩ ai) (LwX Jx) f ?hI ?hIx ?hC ?h0 ?round ?done ?stop
 case hI=>
  rintro k M A B ⟨D,h2,h3,h4,h6⟩ c;exact⟨hJ _ _ _ _ D (c.mono r.size),c.cell h2,c.block _ _ h3 (.inr rfl),c.cell h4,h6⟩
 case hIx=>exact fun ad k A B h c=>⟨h.1,aj _ _ _ h.2 (c.mono r.size)⟩
 case hC=>
  rintro k M A ⟨D,h2,h3,h4,h6⟩;have b:=j.out k M A D;exact⟨⟨h4,b.1.2.2.1.recs⟩,b.2⟩
 case h0=>exact⟨C.out _ (zn.of_below r),i,U,z,L,fun h=>by have:=y _ h;omega,fun h=>by have:=y _ h;omega⟩
 case round=>
  rintro b k v M A b ⟨x,u,rfl⟩ ⟨D,h2,h3,h4,h6,h7,h8⟩;have b:k<l.parts.length:=by have:=ab.out;omega
  have f:=zg b;have y:=I.out _ (zJ b);obtain⟨s,o⟩:=(j.out k M A D).1.2.2.2 k x _ u f;have al:=zf (fun(d:DP) (i:H) hv hj=>F.out k #[d.val] M i b ⟨d,_,f,rfl,hv⟩ hj);generalize l.parts[k]=q at *;obtain⟨i,z⟩:=q;obtain⟨_,⟨I,F,U,J⟩⟩:=x;simp only[PT.val,WT.sv,WT.val]at s o⊢;subst s;simp only at y o;clear f u;unfold zdj;gi_wp2;refine⟨Xg ((Xe A).alloc _),fun b u=>?_⟩;have f:=(zn.alloc m.heap.size A (cl #[i_ (i:Int),G I,V F U J] 260)).trans u;have s:=u.block _ _ (zC A (cl #[i_ (i:Int),G I,V F U J] 260)) (.inr rfl);have m:=f.block _ _ h3 (.inr rfl);have g2:=f.cell h2;have g4:=f.cell h4;have x:R.heap.size<b.heap.size:=zw g4;have x:W.heap.size<b.heap.size:=zw g2;have x:=u.size;simp only[zL]at x;have u:=zq6 ((j.out k M A D).1.2.1.keep f);have E3:=zf m;have x:=o.keep f;have an:=hJ _ _ _ _ D (f.mono r.size);simp only[LT.ov]at u m E3;have ak:=(zd.1 m).1;have C:=zf (fun W (f:Ext b W)=>
   have q0:=(f.block _ (zd.1 s).1).trans s;have j:=(f.block _ ak).trans m;Xc (c_ 0 q0) (Xc (c_ 1 q0) (Xc (c_ 2 q0) (Xc (c_ 0 j) (Xc (c_ 1 j) (c_ 2 j))))))
  have j:IntKind.u64.wrap (i:Int)=(i:Int):=by
   have h2:=y.2;have e:∀n:Int,IntKind.u64.wrap n=n%18446744073709551616:=fun n=>by simp[IntKind.wrap,IntKind.signed,IntKind.bits]
   rw[e];omega
  have Y:=zf (fun W=>ziX W i om);have j:=zf (fun W (f:Ext b W)=>zrX W _ z (x.below f));have r:=zf (fun W (f:Ext b W) x (L:Qa W x z 1)=>zpa a W x _ z l.over L (u.below f) ho y.1 a0);simp only[T.Tri.val,T.Tri.up,T.Tri.down]at j r;clear s m D h2 h3 h4 o;refine ZW (zcE ?_);refine jK (S:=fun W=>W.cell? (y_ A 0)=E (i_ (i:Int))/\W.cell? (y_ A 1)=E (G I)/\W.cell? (y_ A 2)=E (V F U J)/\W.cell? (Xd b3 0 O)=E (G false)/\W.cell? (Xd b3 1 O)=E (V N Q P)/\W.cell? (Xd b3 2 O)=E (V_)) hm (by rfl) (fun⟨i,w,h⟩=>h) (C.out b (Xe _)) (fun F=>?_);refine tkl [0,1,2,4,5,7] ?_;have y0:=(Xe b).drew;refine rd2 3 9 (h:=fun K a=>?_) (h1:=fun K a=>?_);rotate_left;go_simp;refine a.out _ _ (C.out _ (y0.alloc _)) (h:=fun F=>?_);clear a K;have a0:b.heap.size<=b.heap.size:=zh _;have m:(b.drew.alloc (cl #[G false,V_,V_] 66)).heap[b.heap.size]? =E (cl #[G false,V_,V_] 66):=zC b.drew (cl #[G false,V_,V_] 66);have y0:Ext b (b.drew.alloc (cl #[G false,V_,V_] 66)):=y0.alloc _;refine rd1 3 fun K a=>?_;all_goals
   go_simp;go_at_call 128
   with_reducible refine(Y.out _).mono ?_
   rintro e u ⟨o,rfl,af,ae⟩;have Y:=y0.trans (Xf ae);try have f:=((Xf ae).block _ (zd.1 m).1).trans m
   obtain⟨va,vl,vc,rfl⟩:∃i l ad,o=V i l ad:=by obtain⟨_,⟨Z,cap,h,_⟩,_⟩:=af;exact⟨Z,_,cap,h⟩
   go_wp2_with fail
   refine a.out _ _ (C.out _ Y) (h:=fun F=>?_);clear a K;have z1:Ext u u:=Xe _
  refine rd1 6 fun K a=>?_;rotate_left;refine rd2 6 9 (h:=fun K a=>?_) (h1:=fun K a=>?_);rotate_left;go_simp;refine a.out _ _ (C.out _ (Y.alloc _)) (h:=fun F=>?_);clear a K;have a0:=Y.size;obtain⟨f,z1⟩:=new1 u (cl #[G false,V_,V_] 66);have Y:Ext b (u.alloc (cl #[G false,V_,V_] 66)):=Y.alloc _;refine rd1 6 fun K a=>?_;all_goals
   go_simp;refine(j.out _ Y).mono ?_;rintro e y ⟨⟨_,⟨_,_,_⟩,⟨_,_,_⟩⟩,rfl,ah,a7⟩;have Z:=Y.trans (Xf a7);try have s:=((Xf a7).block _ (zd.1 f).1).trans f
   have a3:=af.below (z1.trans (Xf a7));simp only[T.Tri.val,T.Tri.up,T.Tri.down]at ah⊢;go_wp2_with fail
   refine a.out _ _ (C.out _ Z) (h:=fun F=>?_);clear a K;have z2:Ext y y:=Xe _
  refine rd1 8 fun K a=>?_;rotate_left;refine rd1 8 fun K a=>?_;rotate_left;refine rd2 8 9 (h:=fun K a=>?_) (h1:=fun K a=>?_);rotate_left;go_simp;refine a.out _ _ (C.out _ (Z.alloc _)) (h:=fun F=>?_);clear a K;have a0:=Z.size;obtain⟨s,z2⟩:=new1 y (cl #[G false,V_,V_] 66);have Z:Ext b (y.alloc (cl #[G false,V_,V_] 66)):=Z.alloc _;refine rd1 8 fun K a=>?_;all_goals
   go_simp;refine(r.out _ Z _ (ah.below z2)).mono ?_;rintro e r ⟨⟨m,⟨j,sl,o⟩,⟨e,i,f⟩⟩,rfl,a2,a8⟩;have U:=Z.trans (Xf a8);try have a1:=((Xf a8).block _ (zd.1 s).1).trans s
   have a5:=a3.below (z2.trans (Xf a8));simp only[T.Tri.val,T.Tri.up,T.Tri.down]at a2⊢;go_wp2_with fail
   refine a.out _ _ (C.out _ U) (h:=fun F=>?_);clear a K
  refine tkv 10 ?_;refine rd1 11 fun K a=>?_;obtain⟨J,s,I,⟨k0,k1,k2⟩,f0,f1,f2⟩:=zl5 a1 m (V j sl o) (V e i f);have z:=ziP U s (fun k c=>by rw[c];exact a0);have a9:=a2.wr s (fun k c=>by rw[c];exact I);have aa:=a5.wr s (fun k c=>by rw[c];exact I);go_simp;refine a.out _ _ (C.out _ z) (h:=fun F=>?_);clear a K;generalize H.setCell _ _ _=a6 at *;generalize a4:y.heap.size=y at J⊢;clear s I k0 k1 k2 f0 f1 f2 a1 a4;rotate_left;refine tkv 10 ?_;refine rd1 11 fun K a=>?_;obtain⟨J,s,I,⟨k0,k1,k2⟩,f0,f1,f2⟩:=zl5 a1 m (V j sl o) (V e i f);have z:=ziP U s (fun k c=>by rw[c];exact a0);have a9:=a2.wr s (fun k c=>by rw[c];exact I);have aa:=a5.wr s (fun k c=>by rw[c];exact I);go_simp;refine a.out _ _ (C.out _ z) (h:=fun F=>?_);clear a K;generalize H.setCell _ _ _=a6 at *;generalize a4:u.heap.size=y at J⊢;clear s I k0 k1 k2 f0 f1 f2 a1 a4;rotate_left;refine tkv 10 ?_;refine rd1 11 fun K a=>?_;obtain⟨J,s,I,⟨k0,k1,k2⟩,f0,f1,f2⟩:=zl5 a1 m (V j sl o) (V e i f);have z:=ziP U s (fun k c=>by rw[c];exact a0);have a9:=a2.wr s (fun k c=>by rw[c];exact I);have aa:=a5.wr s (fun k c=>by rw[c];exact I);go_simp;refine a.out _ _ (C.out _ z) (h:=fun F=>?_);clear a K;generalize H.setCell _ _ _=a6 at *;generalize a4:b.heap.size=y at J⊢;clear s I k0 k1 k2 f0 f1 f2 a1 a4;rotate_left;refine rd1 9 fun K a=>?_;go_simp;refine a.out _ _ (C.out _ (U.alloc _)) (h:=fun F=>?_);clear a K;refine tkv 10 ?_;refine rd1 11 fun K a=>?_;go_simp;refine a.out _ _ (C.out _ (U.alloc _)) (h:=fun F=>?_);clear a K;have J:=zC r (cl #[G m,V j sl o,V e i f] 66);have z:Ext b (r.alloc (cl #[G m,V j sl o,V e i f] 66)):=U.alloc _;have a9:=a2.below ((Xe r).alloc (cl #[G m,V j sl o,V e i f] 66));have aa:=a5.below ((Xe r).alloc (cl #[G m,V j sl o,V e i f] 66));have a0:=U.size;generalize r.alloc (cl #[G m,V j sl o,V e i f] 66)=a6 at *;generalize r.heap.size=y at *;all_goals
   refine zV kr ?_ _;clear F;have q0:=c_ 0 J;have s:=c_ 1 J;have u:=c_ 2 J;have r:=z.cell g2;have a:=z.size;have a:=zf (al.out ⟨(va,vl,vc),⟨m,(j,sl,o),(e,i,f)⟩⟩ a6 ⟨aa,a9⟩ (hJ _ _ _ _ an (zn.of_below z)));simp only[DP.val,DP.rv,T.Tri.up,T.Tri.down]at a;clear af ah a2 a3 a5 ae a7 a8 y0 Y Z U z1 z2 J;gi_wp2;refine JS a.out ?_ ?_
   ·rintro e ⟨a,i,m,f⟩;have j:Hid (Wr (fun x=>M x\/A.heap.size<=x) b e/\∃i,LwI W lp b3 R.heap.size ⟨(N,Q,P),(pa,X.length,pc)⟩ ai (k+1) i e/\∀x,i x->M x\/A.heap.size<=x):=by
     refine⟨(Xg z).trans (a.mono fun x L=> .inl L),i,⟨m,a.cell (p:=(y_ W 0)) h6 r,a.some ((z.block _ ak).trans E3.out) h7,a.cell (p:=(y_ R 0)) h8 (z.cell g4),fun h=>?_,fun h=>?_,fun h=>?_⟩,fun x L=>?_⟩
     ·rcases f _ h with h|h
      ·exact h6 h
      ·omega
     ·rcases f _ h with h|h
      ·exact h7 h
      ·omega
     ·rcases f _ h with h|h
      ·exact h8 h
      ·omega
     ·rcases f x L with h|h
      ·exact .inl h
      ·exact .inr om
    clear a m f q0 s u r;gi_wp2;exact j.out
   ·rintro e ⟨a,L⟩;have j:Hid (Wr (fun x=>M x\/A.heap.size<=x) b e/\LwX Jx .ret k e):=⟨(Xg z).trans (a.mono fun x L=> .inl L),rfl,L⟩;clear a L q0 s u r;gi_wp2;exact j.out
 case done=>
  rintro b M A e ⟨D,h2,h3,h4,h6⟩ a;gi_wp2;refine qh a ?_;refine⟨_,qI rfl _ _ _,⟨_,rfl⟩,.inl ⟨M,?_⟩⟩;rw[<-ab.out];exact hJ _ _ _ _ D (zn.putObj _ om a rfl)
 case stop=>
  rintro b ad k A e c ⟨rfl,D⟩ a;gi_wp2;refine qh a ?_;exact⟨_,qI rfl _ _ _,⟨_,rfl⟩,.inr ⟨k,by have:=ab.out;omega,aj _ _ _ D (zn.putObj _ om a rfl)⟩⟩
theorem zjz(w:H):zy w (ag #[G false,V_]) 0:=⟨false,_,rfl,Xo _ _ _,rfl⟩
theorem zjA{a n:Nat}(f:w.heap[a]? =E (cl (madeCells #[G false,V_] (n*2)) 64)):Zo w (V (E (Xd a 0 O)) n n) (List.replicate n 0):=by
 refine⟨List.replicate n ⟨false,O,0,0⟩,sp,Or.inr ⟨a,0,n,sp,sp,⟨_,_,f⟩,fun i cs b j u a=>?_⟩,fun i t z d e=>?_⟩
 ·rw[zR,zcS]at b;by_cases c:i<n
  ·rw[zQ c]at b;simp only[qY,qN,WT.cells,WT.sv]at b;subst b;rw[qt];apply(ze _ _ _ _ _ _ f).trans;match j,a with
   |0,a=>
    apply(zei om).trans;show E (#[G false,V_][(i*2+0)%2]!)=_
    rw[show(i*2+0)%2=0 by omega];simpa using a
   |1,a=>
    apply(zei om).trans;show E (#[G false,V_][(i*2+1)%2]!)=_
    rw[show(i*2+1)%2=1 by omega];simpa using a
   |j+2,a=>simp at a
  ·rw[zO c]at b;cases b
 ·rw[zcS]at d e;by_cases c:i<n
  ·rw[zQ c]at d e;have a:=Q8 d;have b:=Q8 e;subst a;subst b;exact zjz _
  ·rw[zO c]at d;cases d
theorem zpb(n:Nat)(a:n<=100000)(w:H):
 C_ 170 #[i_ (n:Nat)] w fun e w'=>∃r:RW,e=Xa r.val/\QG w' r (List.replicate n 0,0)/\b_ w w':=by
 obtain⟨f,a,b,c,d⟩:=Zn zbW;have h:∀W:H,(Instr.makeSlice 100 (i_ (n:Nat)) (i_ (n:Nat))).run pg W= .ok (V (E (Xd W.heap.size 0 O)) n n) (W.alloc (cl (madeCells #[G false,V_] (n*2)) 64)):=by
  intro W;have:=run_make (P:=pg) W 100 64 f _ underlying100 a b Xb Xb (n:Int) (n:Int) om om (by rw[d];omega) om;rw[c,jT]at this;exact this
 obtain⟨_,_⟩:=new1 w (cl #[V_,G false,V_] 104);have f:(w.alloc (cl #[V_,G false,V_] 104)).heap.size=w.heap.size+1:=sp;clear a b c d;go_enter func170,ntmps170
 go_wp2_with fail
 obtain⟨a,f⟩:=Xk w (cl #[V (E ⟨w.heap.size+1,0,O⟩) n n,G false,V_] 104) (cl (madeCells #[G false,V_] (n*2)) 64);have b:=c_ 0 a;have c:=c_ 1 a;have d:=c_ 2 a;exact⟨rfl,ag #[V (E ⟨w.heap.size+1,0,O⟩) n n,G false,V_],by simp[results,results170,go_sem,b,c,d],⟨(E ⟨w.heap.size+1,0,O⟩,n,n),⟨false,O,0,0⟩⟩,rfl,⟨zjA f,zjz _⟩,((qf _ _).alloc (zh _) _).alloc sp _⟩
theorem zfz{g:Nat}{t:TypeId}{u v:Value}(h:w.heap[g]? =E (cl #[u] t)):(w.setCell (Xd g 0 O) v).heap[g]? =E (cl #[v] t):=Xl h
theorem zq7{k:Nat}{z:Int}(h:zs[k]? =E z):zeV (zs.take (k+1))=Nat.gcd (zeV (zs.take k)) z.natAbs:=by
 unfold zeV;rw[ZB,h,List.foldl_append];rfl
theorem zpc:∀(zs:L_) (d:Nat),Zu B zs->d<=B->zs.foldl (fun d z=>Nat.gcd d z.natAbs) d<=B
 |[],d,_,h=>h
 |z::zs,d,a,h=>by
  apply zpc zs _ (fun y b=>a y (qq _ b));have c:=a z qA;by_cases a:d=0
  ·subst a;show Nat.gcd 0 z.natAbs<=B
   rw[Nat.gcd_zero_left];exact zd1.1 c
  ·exact zF (Nat.gcd_le_left _ om) h
theorem zrY(h:Zu B zs):zeV zs<=B:=zpc zs 0 h (qo _)
def GdI (w1:H)(g:Nat)(zs:L_)(k:Nat)(M:Nat->Prop)(A:H):Prop:=
 Wr (fun b=>b=g) w1 A/\(∀b,M b↔b=g)/\∃f:S_,A.heap[g]? =E (cl #[sl3 f] 62)/\NatV A (sl3 f) (zeV (zs.take k))
theorem znY(K:Nat)(X:K<=1073741800)(w:H)(fv:Value)(zs:L_)(h:Zo w fv zs)(a:zs.length<=100000)(u:Zu B zs)(hb:B<4294967296^K):
 C_ 173 #[ag #[fv]] w fun e w'=>∃f:S_,e=Xa (sl3 f)/\NatV w' (sl3 f) (zeV zs)/\b_ w w':=by
 obtain⟨b,a,c,d⟩:=h;obtain⟨fa,i,rfl⟩:=c.shape;rw[zm]at c⊢;obtain⟨y,l⟩:=Xk w (cl #[V fa b.length i] 102) (cl #[V_] 62);have r:Ext w ((w.alloc (cl #[V fa b.length i] 102)).alloc (cl #[V_] 62)):=((Xe w).alloc _).alloc _;have N:=zf a;have q:=zf c;have v:=zf d;have j:b.length<=100000:=om;clear a c d;refine Q0 func173 ntmps173 (h:=?_);gi_wp2;generalize World.alloc _ _=j at *;refine(zq.2 (zde fa b.length i j)).mono ?_;rintro e o ⟨rfl,k⟩;have m:Ext j o:=by rw[k];exact((Xe j).alloc _).alloc _
 have s:o.cell? (x_ j 0)=E (V fa b.length i):=by rw[k];exact c_ 0 (Xk _ _ _).2
 have J:=r.trans m;have r:=(zd.1 l).1;have x:=(m.block _ r).trans l;have r:=m.size;clear k y l;gi_wp2;refine ZT (JO b fa i (j.heap.size+1) om) rfl (qW func179 kr rfl) (fun k I W=>by rintro⟨t,_,rfl⟩;rfl)
  (GdI o (w.heap.size+1) zs) (fun _ _ _=>False) (fun b=>b=w.heap.size+1) ?hI ?hIx ?hC ?h0 ?round ?done ?stop
 case hI=>
  rintro k M A B ⟨a,c,f,d,i⟩ l;exact⟨a.keep l,c,f,l.block _ _ d (.inr rfl),i.keep l⟩
 case hIx=>exact fun _ _ _ _ h _=>h
 case hC=>
  rintro k M A ⟨a,c,f,d,i⟩;refine⟨⟨a.cell (p:=(x_ j 0)) so s,((q.out.ext (qk J a (fun b hb=>om))).recs)⟩,fun b hb=>?_⟩;rw[(c b).1 hb];exact(zd.1 d).1
 case h0=>exact⟨Xj _ _,fun b=>Qb,(O,0,0),x,Xo _ _ _⟩
 case round=>
  rintro j k I M A j ⟨m,x,rfl⟩ ⟨a,c,⟨r,sl,s⟩,d,i⟩;have l:k<zs.length:=by have:=N.out;omega
  have j:=zg l;have z:=qk J a (fun b hb=>om);have y:=(v.out k m _ x j).below z;have a1:=u _ (zJ l);have l:=zq7 j;have Y:=zrY (B:=B) (zs:=zs.take k) (ziH u k);generalize zs[k]=L at *;have Q:=zf l;have q:=zf c;obtain⟨C,z,F,D⟩:=m;simp only[WT.val,WT.sv,sl3]at y d i⊢;clear l j c;unfold Zz;gi_wp2;refine⟨Xg ((Xe A).alloc _),fun j l=>?_⟩;have u:=(zn.alloc o.heap.size A (cl #[G C,V z F D] 64)).trans l;have x:=l.block _ _ (zC A (cl #[G C,V z F D] 64)) (.inr rfl);have m:=u.block _ _ d (.inr rfl);have a0:=a.keep u;have v:=zf (fun W (l:Ext j W)=>
   have P:=(l.block _ (zd.1 x).1).trans x;have R:=(l.block _ (zd.1 m).1).trans m;Xc (c_ 0 R) (Xc (c_ 0 P) (c_ 1 P)))
  have R:=zf (fun W (l:Ext j W)=>zfk W _ L ((y.keep u).below l));have P:=zf (fun W I (l:Ext j W) (Z:NatV W I L.natAbs)=>zmZ K om (zbV K X) W _ _ _ L.natAbs ((i.keep u).below l) Z (qu Y hb) (a1.lt hb));have I:=zf (fun W (l:Ext j W)=>((l.block _ (zd.1 m).1).trans m));clear d i y x m a;refine ZW ?_;refine zav 4 (S:=fun W=>W.cell? (x_ w 0)=E (V r sl s)/\W.cell? (y_ A 0)=E (G C)/\W.cell? (y_ A 1)=E (V z F D)) hm (by rfl) (fun⟨_,w,h⟩=>h) (v.out j (Xe _)) (h:=fun F=>?_);refine tkv 0 ?_;refine tkv 1 ?_;refine rcl 2 (R.out _ (Xe j).drew) ?_;rintro e l ⟨_,rfl,x,u⟩;have m:=ZG u;refine bk (v.out _ m) fun F=>?_
  refine rcl 3 (P.out _ _ m x) ?_;rintro e l ⟨_,rfl,x,y⟩;have u:=m.trans (Xf y);obtain⟨⟨z,D,C⟩,rfl⟩:=x.sl;have m:=I.out l u;have y:=c_ 0 m;have y:=Xh (j:=0) m;simp only[sl3]at x⊢;have y:Wr (fun b=>b=w.heap.size+1) l (l.setCell (x_ w 0) (V z D C)):=zv (U:=fun b=>b=w.heap.size+1) rfl _;have I:Hid (ZL M (GdI o (w.heap.size+1) zs) (fun _ _ _=>False) k A j .normal { tmps:=#[],defers:= [] } (l.setCell (x_ w 0) (V z D C))):=by
   refine⟨((Xg u).trans y).mono (fun b hb=>(q.out b).2 hb),M,⟨a0.trans ((Xg u).trans y),q.out,(z,D,C),zfz m,?_⟩,fun j j=> .inl j⟩;rw[Q.out];exact x.wr y (fun b hb=>by rw[hb];exact zE m n1)
  refine bk (v.out _ u) fun F=>?_
  refine zV kr (zbP (h:=?_)) _;go_simp;exact I.out
 case done=>
  rintro D M A j ⟨a,c,⟨r,sl,s⟩,d,i⟩ k;rw[N.out,Zx]at i;have m:=c_ 0 d;have j:=zf i;have l:Hid (b_ w A):=qk J a (fun b hb=>om);simp only[sl3]at m j⊢;clear a c d i;gi_wp2;refine qh k ?_;have a:zn w.heap.size A (A.putObj D (.deferred O)):=zn.putObj (.deferred O) om k rfl;exact⟨V r sl s,by simp[results,results173,go_sem],(r,sl,s),rfl,j.out.keep a,a.below l.out (zh _) (zh _)⟩
 case stop=>exact fun _ _ _ _ _ _ h _=>h.elim
end

section
open Go.RowKit
theorem flat_get {a:Type}{size:Nat}(hs:0<size):∀{css:List (List a)},(∀cs∈css,cs.length=size)->∀p,css.flatten[p]? =css[p/size]?.bind (fun cs=>cs[p%size]?)
 |[],_,p=>sp
 |c::css,h,p=>by
  have b:=h c qA;rw[zcY];by_cases a:p<size
  ·rw[zS om,jH a,Jk a];rfl
  ·rw[zG om,b,flat_get hs (fun x a=>h x (qq _ a)) (p-size)];have a:p/size=(p-size)/size+1:=by
    rw[Nat.div_eq_sub_div hs om]
   have b:p%size=(p-size)%size:=by rw[Nat.mod_eq_sub_mod om]
   rw[a,b,jg]
theorem zpd {a:Type}{size:Nat}(hs:0<size){css:List (List a)}(h:∀cs∈css,cs.length=size)(m:Nat):(css.take m).flatten=css.flatten.take (m*size):=by
 refine zbn fun p=>?_
 rw[flat_get hs (fun x a=>h x (ZY a)),jG,jG,flat_get hs h];by_cases a:p<m*size
 ·rw[zQ a,zQ ((QC hs).2 a)]
 ·rw[zO a,zO (fun e=>a ((QC hs).1 e))];rfl
section

variable {B:Nat} {t:TypeId} {size:Nat} {w:World} {g n cap:Nat} {css:List (List Value)}
theorem Grw.parts (h:Grw B t size w (V (E (Xd g 0 O)) n cap) css):css.length=n/\B<=g/\∃a,w.heap[g]? =E (cl a t (0,0))/\n<=cap/\cap<=maxLen/\a.size=cap*size/\a.toList.take (n*size)=css.flatten/\∀x∈a.toList,ZM x:=by
 obtain⟨_,d|⟨_,_,a,c,j,b,k,e,f,i⟩⟩:=h.own;·cases d.1
 ·simp only[qp,qN,Jg,zel]at c;obtain⟨rfl,rfl,rfl⟩:=c;refine⟨rfl,j,a,b,k,e,f,i,fun x c=>?_⟩;obtain⟨i,a,rfl⟩:=qM c;apply(h.dig g rfl).2 i _;rw[ze _ _ i _ _ _ b];simp only[js]at a;rw[qD a];simp
theorem Grw.of {a:W_}(hg:w.heap[g]? =E (cl a t (0,0)))(d:B<=g)(e:css.length=n)(b:n<=cap)(hm:cap<=maxLen)(hs:a.size=cap*size)(c:a.toList.take (n*size)=css.flatten)(h:∀cs∈css,cs.length=size)(f:∀x∈a.toList,ZM x):Grw B t size w (V (E (Xd g 0 O)) n cap) css:=by
 subst e;refine⟨⟨?_,Or.inr ⟨g,cap,a,rfl,d,hg,b,hm,hs,c⟩⟩,fun k d=>?_,h⟩
 ·have e:a.toList.length=cap*size:=by rw[js];exact hs
  rw[<-c,zX,e];exact Qw (zZ _ b)
 ·have e:g=k:=by simpa[Value.ownBlock]using d
  rw[<-e];exact zE hg f
theorem Grw.put (hs:0<size)(h:Grw B t size w (V (E (Xd g 0 O)) n cap) css){i j:Nat}{x:List Value}(e:css[i]? =E x)(s:j<size){v:Value}(z:ZM v):Grw B t size (w.setCell ⟨g,i*size+j,O⟩ v) (V (E (Xd g 0 O)) n cap) (css.set i (x.set j v)):=by
 obtain⟨d,l,f,o,m,hm,k,c,r⟩:=h.parts;have a:i<n:=by rw[<-d];exact(zo.1 e).1
 have p:=h.siz x (zx e);have y:i*size+j<n*size:=by
  have:(i+1)*size<=n*size:=zZ _ a;rw[Zg]at this;omega
 have b:∀cs∈css.set i (x.set j v),cs.length=size:=fun cs a=>by
  rcases zcp a with a|a
  ·exact h.siz cs a
  ·rw[a,qX,p]
 refine Grw.of (Xl o) l (by rw[qX,d]) m hm (by rw[zaF,k]) ?_ b (fun A q=>?_)
 ·refine zbn fun p=>?_
  rw[flat_get hs b,jG];have l:∀p,p<n*size->f.toList[p]? =css[p/size]?.bind (fun cs=>cs[p%size]?):=fun p b=>by
   have:=flat_get hs h.siz p;rw[<-c,jG,zQ b]at this;exact this
  by_cases b:p<n*size
  ·rw[zQ b,Array.toList_setIfInBounds,zc0,zc0];have o:i<css.length:=om;by_cases c:i=p/size
   ·rw[zQ c,zQ o];simp only[Option.bind_some];rw[zc0];have o:=Jz p size;rw[Z5,<-c]at o;by_cases o:j=p%size
    ·have u:i*size+j<f.toList.length:=by
      rw[js,k];exact zK y (zZ _ m)
     rw[zQ om,zQ u,zQ o,zQ om]
    ·rw[zO om,zO o,l p b,<-c,e];rfl
   ·rw[zO c,zO,l p b];intro e;apply c;rw[<-e,Z5,Nat.mul_add_div hs,jH s,qV]
  ·rw[zO b,qL];·rfl
   ·rw[qX,d];exact zdq (fun e=>b ((QC hs).1 e))
 ·rw[Array.toList_setIfInBounds]at q;rcases zcp q with a|a
  ·exact r A a
  ·rw[a];exact z
theorem zpe (w:H)(g:Nat)(cs:W_):Wr (fun b=>b=g) w (w.setRow g cs):=⟨rfl,rfl,rfl,sp,fun k _ a=>setRow_other w g k cs a⟩
theorem Grw.cleared (hs:0<size)(h:Grw B t size w (V (E (Xd g 0 O)) n cap) css){m:Nat}(hm:m<=n)(zs:List Value)(o:zs.length=(n-m)*size)(p:∀v∈zs,v.oneCell'=true)(q:∀v∈zs,ZM v){P:Program}:
 ∃w',(storeCells ⟨g,m*size,O⟩ zs).run P w= .ok () w'/\Wr (fun b=>b=g) w w'/\Grw B t size w' (V (E (Xd g 0 O)) m cap) (css.take m):=by
 have⟨j,i,a,d,l,k,e,f,c⟩:=h.parts;have r:m*size+zs.length=n*size:=by rw[o,<-Zg,Nat.add_sub_cancel' hm]
 have o:n*size<=a.size:=by rw[e];exact zZ _ l
 have e:m*size<=n*size:=zZ _ hm;refine⟨_,run_storeCells_at P g (m*size) t zs 0 a w d om p,zpe _ _ _,?_⟩;rw[qV];refine Grw.of (setRow_heap w g a _ t _ d) i (by rw[zX,j];omega) om k ?_ ?_ (fun cs d=>h.siz cs (ZY d)) (fun x d=>?_)
 ·simp only[List.size_toArray,zM,zX,Za,js];omega
 ·rw[zpd hs h.siz,<-f,zed,Qw e,Zl];show List.take (m*size) (a.toList.take (m*size)++_)=_
  rw[Qq (by rw[zX,js];omega),zed,zbG]
 ·have e:x∈a.toList.take (m*size)++zs++a.toList.drop (m*size+zs.length):=by simpa using d
  rcases zU.1 e with a|a
  ·rcases zU.1 a with a|a
   ·exact c x (ZY a)
   ·exact q x a
  ·exact c x (zak a)
end

end

section
variable {B a:Nat}
theorem zq8(b:B<=2^a):JL B<=2^(4*a+5):=by
 unfold JL;have c:B*B<=2^(a+a):=by rw[Q6];exact Z7 b b
 have d:B*(B*B)<=2^(a+(a+a)):=by rw[Q6];exact Z7 b c
 have c:B*(B*(B*B))<=2^(a+(a+(a+a))):=by rw[Q6];exact Z7 b d
 have e:2^(4*a+5)=32*2^(a+(a+(a+a))):=by
  rw[show 4*a+5=5+(a+(a+(a+a)))by omega,Q6]
 rw[e];generalize 2^(a+(a+(a+a)))=P at *;omega
theorem zq9{D b:Nat}(a:D<=2^b):256*(D*(D*(D*(D*D))))<=2^(5*b+8):=by
 have c:D*D<=2^(b+b):=by rw[Q6];exact Z7 a a
 have d:D*(D*D)<=2^(b+(b+b)):=by rw[Q6];exact Z7 a c
 have c:D*(D*(D*D))<=2^(b+(b+(b+b))):=by rw[Q6];exact Z7 a d
 have d:D*(D*(D*(D*D)))<=2^(b+(b+(b+(b+b)))):=by rw[Q6];exact Z7 a c
 have e:2^(5*b+8)=256*2^(b+(b+(b+(b+b)))):=by
  rw[show 5*b+8=8+(b+(b+(b+(b+b))))by omega,Q6]
 rw[e];exact Zr _ d
theorem zrZ{K:Nat}(b:1<=B)(c:B<=2^a)(d:K+K<=1073741800)(h:20*a+33<32*K):jN (JL B) K:=by
 refine⟨d,?_,?_⟩
 ·unfold JL;have:1<=B*(B*(B*B)):=QE b (QE b (QE b b));omega
 ·have b:=zq9 (zq8 c);have e:(4294967296:Nat)^K=2^(32*K):=by
   rw[zew]
  rw[e];exact qu b (Nat.pow_lt_pow_right om om)
theorem zra{R m k:Nat}(b:R<=2^m)(c:2*k+m<=a):4^k*R<=2^a:=by
 have e:(4:Nat)^k=2^(2*k):=by rw[zew]
 rw[e];apply zF (Zr _ b);rw[<-Q6];exact ZD om c
theorem zdA(a:1<=B):B<=JL B:=by
 unfold JL;have b:B<=B*_:=JM _ (QE a (QE a a));omega
theorem Jm.mono{A:Nat}{r:L_×Int}(h:Jm A r)(hb:A<=B):Jm B r:=⟨h.1.mono hb,h.2.mono hb⟩
theorem zpf{n:Nat}{aims:L_}{c:Cor}(h:Qy n aims c)(a:1<=B)(b:Zu B aims)(f:∀e∈c.edges,Jm B e.row):Fit (JL B) n aims c:=by
 have d:=cor_bd h a f;exact⟨h.n4,h.aim,b.mono (zdA a),h.plen,d.point,by have:=h.pos;omega,d.over,h.len,fun e b=>⟨h.elen e b,(f e b).mono (zdA a),(d.edges e b).2⟩⟩
open Go.RowKit
def overSeq {w:H}{K:Nat}(hK:K<=1073741800){fa:A_}{fc:Nat}{zs:L_}{ts:List WT}{bs bf bd d:Nat}{f:S_}(hn:zs.length<=1000000)(hd0:d≠0)(hdk:d<4294967296^K)(hz:∀z∈zs,z.natAbs<4294967296^K)(h1:ts.length=zs.length)(h2:ZS w 64 (V fa ts.length fc) 2 (ts.map WT.cells))(h3:∀(i:Nat) (t:WT) (z:Int),ts[i]? =E t->zs[i]? =E z->zy w t.val z)
 (hs:w.cell? (Xd bs 0 O)=E (V fa ts.length fc)) (hf:w.cell? (Xd bf 0 O)=E (.func (.func 228) #[] #[p_ bd 0])) (hb:w.cell? (Xd bd 0 O)=E (sl3 f)) (hd:NatV w (sl3 f) d):zdT w 256 #[p_ bs 0,p_ bf 0] (zs.map fun z=>z/(d:Int)) where
 Y:=OvrY zs d
 C:=OvrC fa fc zs ts bs bf bd d f
 seq:=by
  rw[zm];exact zlb K hK fa fc zs ts h1 bs bf bd d f hn hd0 hdk hz
 ent:=qW Tryz.func256 (by kernel_rfl) rfl
 val:=by
  rintro k v W x hx ⟨t,z,hz,rfl,ht⟩;rw[zR,hz]at hx;simp only[qY,qN]at hx;subst hx;exact⟨t,rfl,ht⟩
 one:=by
  rintro k v W ⟨t,z,hz,rfl,ht⟩;rfl
 now:=⟨hs,hf,hb,hd,h2,h3⟩
 old:=Jp (JV (zw hs)) (Jp (JV (zw hf)) (Jp (JV (zw hb)) (Jp (zkz hd) (Jp (zf5 h2) (za2 fun i=>za2 fun t=>za2 fun z=>fun A B hA hh ht hz=>zaw (h3 i t z ht hz) A B (hA ht hz) hh)))))
theorem ziq(K:Nat)(hK:K<=1073741800)(w:H)(r:RW)(x:L_×Int)(h:QG w r x)(hn:x.1.length<=100000)(f:S_)(d:Nat)(hd:NatV w (sl3 f) d)(hd0:d≠0)(hdk:d<4294967296^K)(hz:∀z∈x.1,z.natAbs<4294967296^K)(hx2:x.2.natAbs<4294967296^K):
 C_ 172 #[r.val,sl3 f] w fun e w'=>∃r':RW,e=Xa r'.val/\QG w' r' (Qu x d)/\b_ w w':=by
 obtain⟨⟨fa,fl,fc⟩,tb,ta,tl,tc⟩:=r;obtain⟨da,dl,dc⟩:=f;obtain⟨⟨ts,h1,h2,h3⟩,hm⟩:=h;obtain⟨ao,cap,e⟩:=h2.shape;rw[zm]at e;simp only[RW.fv,qp]at e;obtain⟨rfl,rfl,rfl⟩:=e;simp only[RW.val,RW.fv,WT.sv,WT.val,sl3]at h2 hm hd⊢;have H1:=zf h1;have H2:=zf h2;have H3:=zf h3;clear h1 h2 h3;obtain⟨n0,n1,n2,hX⟩:=zax w (cl #[V fa ts.length fc,G tb,V ta tl tc] 104) (cl #[V da dl dc] 62) (cl #[V_,G false,V_] 104);have hmf:=jR;go_enter Tryz.func172,Tryz.ntmps172
 go_wp2_with fail
 generalize World.alloc _ _=w0 at *;have HK:=zf (fun W (hW:Wr (fun k=>k=w.heap.size+1+1) w0 W)=>
  have q0:=zlZ hW n0 (by omega);Xc (ze _ _ 0 _ _ _ q0) (Xc (ze _ _ 1 _ _ _ q0) (ze _ _ 2 _ _ _ q0)))
 have HB:=zf (fun W (hW:Ext w0 W)=>(hW.block _ (zd.1 n1).1).trans n1);have HOV:=zf (fun W (hW:Ext w0 W)=>zkH K hK W ⟨tb,ta,tl,tc⟩ (w.heap.size+1) (da,dl,dc) x.2 d (ze _ _ 0 _ _ _ (HB.out W hW)) (hm.below (hX.trans hW)) (hd.below (hX.trans hW)) hd0 hx2 hdk);have HOF:Hid (∀(W:H) (b:Nat) (t:WT),Ext w0 W->zy W t.val (x.2/(d:Int))->W.cell? (Xd b 0 O)=E (V fa ts.length fc)->W.cell? ⟨b+1,0,O⟩=E (.func (.func 228) #[] #[p_ (w.heap.size+1) 0])->C_ 218 #[.func (.func 256) #[] #[p_ b 0,p_ (b+1) 0],ag #[G t.b,V t.s.1 t.s.2.1 t.s.2.2]] W fun e w'=>∃r:RW,e=Xa r.val/\QG w' r (Qu x d)/\(∀g,r.fv.ownBlock=E g->W.heap.size<=g)/\b_ W w'):=by
  intro W b t hW ht hb hf;exact zfO W _ _ (x.1.map fun z=>z/(d:Int)) (overSeq hK (by omega) hd0 hdk hz H1.out (H2.out.ext (hX.trans hW)) (fun i t z hti hzi=>(H3.out i t z hti hzi).below (hX.trans hW)) hb hf (f:=(da,dl,dc)) (ze _ _ 0 _ _ _ (HB.out W hW)) (hd.below (hX.trans hW))) (by rw[zm];exact hn) t (x.2/(d:Int)) ht
 simp only[WT.val,WT.sv]at HOV;refine ZO (S:=fun W=>W.cell? (y_ w 0)=E (V fa ts.length fc)/\W.cell? (y_ w 1)=E (G tb)/\W.cell? (y_ w 2)=E (V ta tl tc)) (by kernel_rfl) (HK.out w0 (Xj _ _)) (fun hHeld=>?_);refine tkl [0,1,2,4,5,6] ?_;refine rcl 3 (zq1 fa ts.length fc _ _ _) ?_;rintro e wA ⟨rfl,hwA⟩;have xA:Ext w0 wA:=by rw[hwA];exact((Xe w0).drew.alloc _).alloc _
 have k0:wA.cell? (y_ w0 0)=E (V fa ts.length fc):=by rw[hwA];exact ze _ _ 0 _ _ _ (Xk w0.drew _ _).1
 have k1:wA.cell? (x_ w0 0)=E (.func (.func 228) #[] #[p_ (w.heap.size+1) 0]):=by rw[hwA];exact ze _ _ 0 _ _ _ (Xk w0.drew _ _).2
 clear hwA;refine bk (HK.out _ (Xg xA)) fun hHeld=>?_
 refine rcl 7 (HOV.out wA xA) ?_;rintro e wB ⟨⟨ub,ua,ul,uc⟩,rfl,hu,hbB⟩;have xB:=xA.trans (Xf hbB);have HOA:=zf (HOF.out wB w0.heap.size ⟨ub,ua,ul,uc⟩ xB hu ((Xf hbB).cell k0) ((Xf hbB).cell k1));simp only[WT.val,WT.sv]at HOA⊢;refine bk (HK.out _ (Xg xB)) fun hHeld=>?_
 refine rcl 8 HOA.out ?_;rintro e wC ⟨⟨⟨ga,gl,gc⟩,vb,va,vl,vc⟩,rfl,hrow,hfr,hbC⟩;have xC:=xB.trans (Xf hbC);have q2:=(xC.block _ (zd.1 n2).1).trans n2;have c0:=ze _ _ 0 _ _ _ q2;have c1:=ze _ _ 1 _ _ _ q2;have c2:=ze _ _ 2 _ _ _ q2;have f0:=Xh (j:=0) q2;have f1:=Xh (j:=1) q2;have f2:=Xh (j:=2) q2;have hw:Wr (fun b=>b=w.heap.size+1+1) wC (((wC.setCell (w_ w 0) (V ga gl gc)).setCell (w_ w 1) (G vb)).setCell (w_ w 2) (V va vl vc)):=zce rfl _ _ _;have HR:Hid (QG (((wC.setCell (w_ w 0) (V ga gl gc)).setCell (w_ w 1) (G vb)).setCell (w_ w 2) (V va vl vc)) ⟨(ga,gl,gc),vb,va,vl,vc⟩ (Qu x d)):=by
  refine QG.wr hrow hw (fun b hb=>?_);rw[hb];exact⟨fun ht=>absurd (ht.one ⟨_,_,q2⟩) (by decide),zE q2 (by intro u hu;simp at hu;rcases hu with rfl|rfl|rfl<;>(intro n e;cases e))⟩
 have HBL:=zf (qk (hX.trans xC) hw (fun b hb=>by omega));have HWK:=zf (HK.out _ ((Xg xC).trans hw));simp only[RW.val,RW.fv,WT.sv];clear hrow hfr;refine bk (HK.out _ (Xg xC)) fun hHeld=>?_
 refine rd1 9 fun K hK=>?_;go_simp;refine hK.out _ _ HWK.out (h:=fun hHeld=>?_);clear hK K;refine zV (by kernel_rfl) ?_ _;clear hHeld;go_wp2;exact zH (v:=ag #[V ga gl gc,G vb,V va vl vc]) (by simp[results,Tryz.results172,go_sem,c0,c1,c2]) rfl ⟨⟨(ga,gl,gc),vb,va,vl,vc⟩,rfl,HR.out,HBL.out⟩
attribute [local go_sem] zD zW qJ
end

section
open Go.RowKit
theorem zl6 (rs:List Jl)(i j:Nat)(r:Jl)(h:rs[i]? =E r)(a:j<4):(zaH rs)[i*4+j]? =r.cells[j]?:=by
 induction rs generalizing i with
 |nil=>simp at h
 |cons t a b=>
  rw[show zaH (t::a)=t.cells++zaH a by simp[zaH]];cases i with
  |zero=>
   simp at h;subst h;rw[zS (by simp[Jl.cells];omega),Nat.zero_mul,qt]
  |succ i=>
   rw[zG (by simp[Jl.cells];omega),show(i+1)*4+j-t.cells.length=i*4+j by simp[Jl.cells];omega];exact b i (by simpa using h)
theorem zgS {a:Type}{l:List a}{k:Nat}(d:a)(h:k<l.length):l[k]? =E (l.getD k d):=by
 rw[zk,zg h];rfl
