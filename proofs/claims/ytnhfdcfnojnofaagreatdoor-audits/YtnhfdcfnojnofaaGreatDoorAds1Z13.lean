import Derived.Test.YtnhfdcfnojnofaaGreatDoorAds1Z9
import Derived.Test.YtnhfdcfnojnofaaGreatDoorAds1Z10
import Derived.Test.YtnhfdcfnojnofaaGreatDoorAds1Z12
open Option renaming none->O,some->E
open Go.Value renaming slice->V,bool->G,string->gS,tuple->tp,int->it,agg->ag
open Go.Obj renaming cells->cl
open Go renaming World->H
open Go.Proofs.Tryz renaming prog->pg
open Go.Proofs.Tryz
set_option linter.unusedSimpArgs false
set_option linter.unusedVariables false
set_option maxHeartbeats 1000000
set_option maxRecDepth 100000
namespace Go.Proofs.YtnhfdcfnojnofaaGreatDoor
open Go.RowKit
def Tab (w:H):Prop:=Lib.TabIs pg w "internal/strconv.uint64pow10" .u64 Lib.pow10Tab
theorem Tab.below {w w':H}(h:Tab w)(b:Below w.heap.size w w'):Tab w':=by
 unfold Tab Lib.TabIs World.var? at *;cases hg:Tryz.prog.globalNamed "internal/strconv.uint64pow10" with
 |none=>rw[hg]at h;simp at h
 |some g=>
  rw[hg]at h;simp only[Option.bind_some]at h⊢;have c:g<w.heap.size:=by
   rcases Z8 g w.heap.size with a|a
   ·exact a
   ·rw[Array.getElem?_eq_none a]at h;simp at h
  rw[b.block g c];exact h
def Cap:Nat:=4294967296^10
def padL:Nat->Nat->List UInt8
 |0,_=> []
 |k+1,r=>padL k (r/10) ++ [UInt8.ofNat (48+r%10)]
def dtext (l:List Nat):List UInt8:=if l= []then []else Lib.decDigits (pval l)
def fracText (p:Int)(q:Nat):List UInt8:=if q=1 then Lib.itoa p else Lib.itoa p++([47]++Lib.decDigits q)
theorem Jc (l:List UInt8):(ByteArray.mk l.toArray).size=l.length:=by simp[ByteArray.size]
theorem zeR (s:ByteArray)(m:Nat)(w:H)(l:m<=1000000000)(j:0<(Lib.trimPrefix s.data.toList [45]).length)(h1:(Lib.trimPrefix s.data.toList [45]).length<=m)(k:qZ (Lib.trimPrefix s.data.toList [45])=true):
 Calls pg 74 #[gS s,it .i64 (m:Nat)] w fun e w'=>∃x,e= .returned (tp #[x,G true])/\zY w' x (sg (Lib.hasPrefix s.data.toList [45]) (qd (Lib.trimPrefix s.data.toList [45])))/\Below w.heap.size w w':=by
 have g:qX (w.alloc (cl #[G false,V O 0 0] 101)) w.heap.size (G false) (V O 0 0):=qX.new _ _ _ _;have f:Below w.heap.size w (w.alloc (cl #[G false,V O 0 0] 101)):=(zR _ _).alloc (zh _) _;have a:=Tryz.strings_CutPrefix s ⟨#[45]⟩ (w.alloc (cl #[G false,V O 0 0] 101));have c:(ByteArray.mk #[45]).data.toList= [45]:=rfl;rw[c]at a;generalize Lib.trimPrefix s.data.toList [45]=d at *;generalize Lib.hasPrefix s.data.toList [45]=b at *;have i:=zi a;have h:=Jc d;have b:=zi h;clear a c h;go_enter func74,ntmps74
 go_wp2_with fail
 refine i.out.mono ?_;rintro e a ⟨rfl,rfl⟩;go_wp2_with fail
 refine(ziU ⟨d.toArray⟩ m _ l (by rw[b.out];exact j) (by rw[b.out];exact h1) (by simpa using k)).mono ?_;rintro e h ⟨v,rfl,c,a⟩;have i:NatV h v (qd d):=by simpa using c
 have d:=g.below a;have b:=f.trans (a.mono f.size);clear c a;go_wp2_with fail
 refine(jw _ _ _ _ i).mono ?_;rintro e p ⟨x,rfl,c,a⟩;obtain⟨h,f,o,n,rfl,l,i⟩:=c.parts;have k:=d.below a;have j:=b.trans (a.mono b.size);obtain⟨b,c,_,_,_⟩:=k;clear d a g;go_wp2;exact zH (v:=tp #[ag #[G h,V f o n],G true]) (by simp[results,results74,go_sem,b,c]) rfl ⟨_,rfl,Qv l i b c,
  (j.setCell sp _).setCell sp _⟩
def fnV (n:Nat):Value:= .func (.func n) #[] #[]
open Go
theorem zl1:∀(x:Nat),0<x->x<2^64->1<=Lib.bitLen x/\2^Lib.bitLen x<=2*x/\x<2^Lib.bitLen x:=by
 intro x;induction x using Nat.strongRecOn with
 |_ x b=>
  intro a h;rw[Lib.bitLen_half x om h];by_cases a:x/2=0
  ·rw[a,show Lib.bitLen 0=0 by decide];have:x=1:=om;subst this;decide
  ·obtain⟨_,_,_⟩:=b (x/2) om om om;generalize Lib.bitLen (x/2)=b at *;rw[za0 1 b,ZK];omega
theorem zkP {x:Nat}(h0:0<x)(h:x<4294967296):∃s:Nat,s<=31/\(32-(Lib.bitLen x:Int))=(s:Int)/\2147483648<=2^s*x/\2^s*(x+1)<=4294967296:=by
 obtain⟨h1,h2,h3⟩:=zl1 x h0 om;have h4:Lib.bitLen x<=32:=by
  rcases Z8 32 (Lib.bitLen x)with h5|h5
  ·have:=qz (n:=2) dc (show 33<=Lib.bitLen x by omega);omega
  ·exact h5
 generalize Lib.bitLen x=b at *;obtain⟨s,rfl⟩:∃s,b=32-s:=⟨32-b,om⟩;have hs:s<=31:=om;have hp:2^s*2^(32-s)=4294967296:=by rw[<-ZI,show s+(32-s)=32 by omega]
 refine⟨s,hs,om,?_,?_⟩
 ·have:2^s*2^(32-s)<=2^s*(2*x):=qK _ h2;have e:2^s*(2*x)=2*(2^s*x):=by ac_rfl
  omega
 ·have:2^s*(x+1)<=2^s*2^(32-s):=qK _ h3;omega
theorem by_bd {a:List Nat}{t S:Nat}(d:Dig a)(b:a.length=t+2)(h1:2147483648<=S*a.getD (t+1) 0)(c:S*(a.getD (t+1) 0+1)<=4294967296):
 2147483648*4294967296^(t+1)<=S*val a/\S*val a<4294967296^(t+2):=by
 have e:=val_take_succ a (t+1) om;rw[zy om]at e;have b:=val_lt (d.take (t+1));rw[zU,show min (t+1) a.length=t+1 by omega]at b;generalize a.getD (t+1) 0=x at *;generalize val (a.take (t+1))=r at *;rw[e,ZK 4294967296 (t+1)];generalize 4294967296^(t+1)=P at *;rw[qI];have a:2147483648*P<=S*x*P:=qM _ h1;have a:S*(x+1)*P<=4294967296*P:=qM _ c;have a:S*(P*x)=S*x*P:=by ac_rfl
 have a:S*(x+1)*P=S*x*P+S*P:=by rw[qI,Qe,ZO]
 have a:0<S:=by
  rcases Qc S with h|h
  ·subst h;omega
  ·exact h
 have c:=Nat.mul_lt_mul_of_pos_left b a;omega
theorem zl2 {F:List Nat}{t v:Nat}(a:Dig F)(d:Top F)(b:val F=v)(h1:2147483648*4294967296^(t+1)<=v)(c:v<4294967296^(t+2)):
 F.length=t+2/\2147483648<=F.getD (t+1) 0:=by
 have e:=d.len (k:=t+2) (by rw[b];exact c);have c:=val_lt a;have c:t+1<F.length:=by
  rcases Z8 (t+1) F.length with h|h
  ·exact h
  ·have:=pow_mono h;have d:=pow_pos (t+1);generalize 4294967296^(t+1)=P at *;omega
 have d:F.length=t+2:=om;refine⟨d,?_⟩;have e:=val_take_succ F (t+1) c;rw[zy om,b]at e;have b:=val_lt (a.take (t+1));rw[zU,show min (t+1) F.length=t+1 by omega]at b;rcases Z8 (F.getD (t+1) 0) 2147483648 with h|h
 ·exfalso
  generalize F.getD (t+1) 0=x at *;generalize val (F.take (t+1))=r at *;generalize 4294967296^(t+1)=P at *;have:P*x<=P*2147483647:=qK _ om;omega
 ·exact h
theorem zkQ {L:List Nat}{M t S m v:Nat}(f:L.length=M+1)(e:t+2<=M)(a:val L=S*m)(d:m<4294967296^M)(b:0<S)(c:S<=2147483648)(h1:2147483648*4294967296^(t+1)<=v):
 val (L.drop (M-t-1))<v:=by
 have e:=val_take_drop L (M-t-1) om;rw[a]at e;have e:4294967296^M=4294967296^(M-t-1)*4294967296^(t+1):=by rw[<-ZI];congr 1;omega
 have a:=Nat.mul_lt_mul_of_pos_left d b;rw[e]at a;have a:=pow_pos (M-t-1);generalize val (L.drop (M-t-1))=D at *;generalize 4294967296^(M-t-1)=P at *;generalize 4294967296^(t+1)=R at *;have a:P*D<P*(S*R):=by
  have:S*(P*R)=P*(S*R):=by ac_rfl
  omega
 have b:=zbB a;have a:S*R<=2147483648*R:=qM _ c;omega
theorem znh {S m n r q:Nat}(d:0<S)(h:S*m=r+S*n*q)(g:r<S*n):q=m/n/\r/S=m%n:=by
 have f:0<n:=by
  rcases Qc n with a|a
  ·subst a;omega
  ·exact a
 have e:S ∣ r:=by
  have a:S ∣ S*m:=Nat.dvd_mul_right _ _;have b:S ∣ S*n*q:=Nat.dvd_trans (Nat.dvd_mul_right S n) (Nat.dvd_mul_right _ _);rw[h]at a;exact(Nat.dvd_add_left b).1 a
 obtain⟨c,rfl⟩:=e;have a:m=c+n*q:=by
  have:S*m=S*(c+n*q):=by rw[h,qI,ZD]
  exact Nat.eq_of_mul_eq_mul_left d this
 have b:=zbB g;subst a;rw[Nat.mul_div_cancel_left _ d,zcL _ _ f,zal b,qi,zaa,zam b];exact⟨rfl,rfl⟩
theorem zkR {ds F:List Nat}{t u v g high lead a b:Nat}(T:ds.length=t+3)(S:F.length=t+2)(i:Dig ds)(q:Dig F)(A:val ds=u)(D:val F=v)(z:2147483648<=F.getD (t+1) 0)(C:u<v*4294967296)
 (x:high=ds.getD (t+1) 0+4294967296*ds.getD (t+2) 0) (j:lead=F.getD (t+1) 0) (s:a=high*4294967296+ds.getD t 0) (h:b=lead*4294967296+F.getD t 0)
 (r:∀Q,Q<=high/lead->(∀k,a<k*b->Q<k)->Q<4294967296->Q<=g) (U:g<4294967296) (w:g*b<=a):u/v<=g/\g<=u/v+1:=by
 have e:=val_take_succ F (t+1) om;rw[zy om,val_take_succ F t om,D,<-j]at e;have c:=val_take_succ ds (t+2) om;rw[zy om,val_take_succ ds (t+1) om,val_take_succ ds t om,A]at c;have J:=val_lt (q.take t);rw[zU,show min t F.length=t by omega]at J;have K:=val_lt (i.take t);rw[zU,show min t ds.length=t by omega]at K;have W:=i.get t;rw[<-j]at z;have I:=pow_pos t;rw[ZK]at e c;rw[show t+2=t+1+1 by omega,ZK,ZK]at c;generalize 4294967296^t=P at *;generalize val (F.take t)=m at *;generalize val (ds.take t)=n at *;generalize ds.getD t 0=Z at *;generalize ds.getD (t+1) 0=Y at *;generalize ds.getD (t+2) 0=X at *;generalize F.getD t 0=l at *;have f:v=m+b*P:=by
  rw[e,h,ZO];have:P*4294967296*lead=lead*4294967296*P:=by ac_rfl
  have:P*l=l*P:=Qg _ _;omega
 have R:u=n+a*P:=by
  rw[c,s,x,ZO,ZO,ZO];have L:P*4294967296*Y=Y*4294967296*P:=by ac_rfl
  have M:P*4294967296*4294967296*X=4294967296*X*4294967296*P:=by ac_rfl
  have N:P*Z=Z*P:=Qg _ _;omega
 have d:0<v:=by
  have:2147483648*4294967296<=b:=om;have:1*1<=b*P:=Z0 om I;omega
 have B:u<(a+1)*P:=by rw[ZO];omega
 constructor
 ·refine r _ ?_ (fun k y=>zkD om d B y rfl) ((j9 d).2 (by rw[Qg];exact C));refine zjO (P:=4294967296*P) om ?_ d ?_ om rfl
  ·rw[f,h,ZO];have:lead*(4294967296*P)=lead*4294967296*P:=by ac_rfl
   omega
  ·have o:a+1<=(high+1)*4294967296:=om;have p:(a+1)*P<=(high+1)*4294967296*P:=qM _ o;rw[ZD]at p;omega
 ·exact zjP (P:=P) (by rw[f,ZO];omega) d om w om rfl
theorem top_le {ds F:List Nat}{t u v:Nat}(e:ds.length=t+3)(a:F.length=t+2)(b:Dig F)(c:val ds=u)(d:val F=v)(f:u<v*4294967296):ds.getD (t+2) 0<=F.getD (t+1) 0:=by
 have a:=val_take_succ F (t+1) om;rw[zy om,d]at a;have a:=val_take_succ ds (t+2) om;rw[zy om,c]at a;have c:=val_lt (b.take (t+1));rw[zU,show min (t+1) F.length=t+1 by omega]at c;rw[show t+2=t+1+1 by omega,ZK]at a;have a:=pow_pos (t+1);generalize 4294967296^(t+1)=P at *;generalize val (F.take (t+1))=a at *;generalize val (ds.take (t+1+1))=c at *;generalize ds.getD (t+1+1) 0=X at *;generalize F.getD (t+1) 0=y at *;have a:4294967296*P*X<4294967296*P*(y+1):=by
  have b:P*4294967296*X=4294967296*P*X:=by ac_rfl
  have b:4294967296*P*(y+1)=4294967296*(P*y)+4294967296*P:=by rw[qI,Qe,ZD]
  omega
 have:=zbB a;omega
theorem zni {a c W X:Nat}(d:a<W)(h:a+W*c=W+X)(b:X<W):a=X:=by
 rcases Z8 c 2 with b|b
 ·rcases Qc c with d|d
  ·subst d;omega
  ·have:c=1:=om;subst this;omega
 ·have:W*2<=W*c:=qK _ b;omega
theorem zl3 {u b g a r W:Nat}(e:0<b)(h1:u/b<=g)(c:g<=u/b)(f:a<W)(h:a+g*b=u+W*r)(j:u<W):r=0/\u=g*b+a/\a<b:=by
 have d:=Nat.le_antisymm c h1;have c:=zc7 u b;rw[<-d]at c;obtain⟨i,_⟩:=zkE f h c j;have b:=Nat.lt_div_mul_add e (a:=u);rw[<-d]at b;exact⟨i,om,om⟩
theorem zh2 {u d g a r c b W:Nat}(e:0<d)(h1:g=u/d+1)(l:a<W)(h:a+g*d=u+W*r)(i:u<W)(j:d<W):0<r/\1<=g/\(b<W->b+W*c=a+d->u=(g-1)*d+b/\b<d):=by
 have i:=Nat.lt_div_mul_add e (a:=u);have e:=zc7 u d;obtain⟨k,hk⟩:∃k,u/d=k:=⟨_,rfl⟩;rw[hk]at i e h1;subst h1;rw[ZO,Qy]at h;obtain⟨e,i⟩:=zkF (f:=k+1) (v:=d) l (by rw[ZO,Qy];exact h) (by rw[ZO,Qy];omega) (by rw[ZO,Qy];omega) j;rw[ZO,Qy]at i;refine⟨e,om,fun e i=>?_⟩;have i:=zni (c:=c) (X:=u-k*d) e om om;rw[zbI];omega
end Go.Proofs.YtnhfdcfnojnofaaGreatDoor
namespace Go.Proofs.YtnhfdcfnojnofaaGreatDoor.T
open Go.RowKit
theorem zaD (w:H):Calls pg 69 #[it .i64 0] w fun e w'=>∃t,e= .returned t/\qe w' t 0 1/\Below w.heap.size w w':=by
 have a:=zg0 (w.alloc (cl #[G false,V O 0 0,V (E ⟨w.heap.size+1,0,O⟩) 1 1] 118)) 1 om om;go_enter func69,ntmps69
 go_wp2;go_loop [0,3] (fun v l=>v=it .i64 0/\l=V O 0 0) (fun v _=>(intOf v).toNat)
 case atStart=>exact⟨rfl,rfl⟩
 case round=>
  obtain⟨rfl,rfl⟩:=hrel;go_wp2;exact zH (v:=ag #[G false,V O 0 0,V (E ⟨w.heap.size+1,0,O⟩) 1 1]) (by simp[results,results69,go_sem]) rfl ⟨_,rfl,⟨_,_,_,rfl,NV.zero _,by rw[Hid];rfl,by simpa using a,om⟩,J3 w _ _⟩
theorem of_one (w:H):Calls pg 69 #[it .i64 1] w fun e w'=>∃t,e= .returned t/\qe w' t 1 1/\Below w.heap.size w w':=by
 obtain⟨r,i,j,n,o⟩:=qL Tryz.infoInt;have s:qk (w.alloc (cl #[G false,V O 0 0,V O 0 0] 118)) w.heap.size (G false) (V O 0 0) (V O 0 0):=qk.new _ _ _ _ _;have k:Below w.heap.size w (w.alloc (cl #[G false,V O 0 0,V O 0 0] 118)):=(zR _ _).alloc (zh _) _;generalize d:w.alloc (cl #[G false,V O 0 0,V O 0 0] 118)=c at *;go_enter func69,ntmps69
 go_wp2;clear d;go_loopw [0,3] (fun g h wr=>(g=it .i64 1/\h=V O 0 0/\c=wr)\/∃d l f,g=it .i64 0/\h=V d l f/\NV wr (V d l f) 1/\Below c.heap.size c wr) (fun g _ _=>(intOf g).toNat)
 case atStart=>exact Or.inl ⟨rfl,rfl,rfl⟩
 case round=>
  rcases hrel with ⟨rfl,rfl,rfl⟩|⟨d,l,f,rfl,rfl,q,m⟩
  ·go_wp2_with (at_builtin;refine qQ _ rfl _ _ 35 rfl c.heap.size 3 r (it .i64 0) 1 8 underlying35 i j n o rfl dc (V O 0 0) 0 [] rfl (Ze _ _ _ _) ⟨c.heap.size,0,O⟩ 1 1 [it .i64 1] rfl rfl (Z4 _ _ _) ?c2 mo om sp ?_)
   case c2=>first|rfl|(intro u g;simp at g;subst g;rfl)
   intro g h g n o;obtain⟨j,i,r,_⟩:=owns_parts (ds:= [1]) g o;subst r;have r:=((zR _ _).alloc (zh _) _).grown n sp (fun c c=>by simp[Value.ownBlock]at c);have u:Sl h (V (E ⟨j,0,O⟩) 1 i) [1]:=JC (os:= [1]) g;have c:NV h (V (E ⟨j,0,O⟩) 1 i) 1:=⟨[1],u,zf6 om,zf5 om,zbY 1⟩;clear n o g;go_wp2;go_roundw
   case rel=>exact Or.inr ⟨_,_,_,rfl,rfl,c,r⟩
   case measure=>simp[intOf]
  ·have c:=s.below m;have g:=k.trans (m.mono k.size);have h:=c;obtain⟨_,_,_,_,_,_,_⟩:=h;have j:=(qk.stored (b:=false) (a:=d) (l:=l) (k:=f) (a2:=E ⟨wr.heap.size,0,O⟩) (l2:=1) (k2:=1) c).alloc (cl #[it .i64 1] 3);obtain⟨h,i,c2,_,_,_,_⟩:=j;go_wp2;exact zH (v:=ag #[G false,V d l f,V (E ⟨wr.heap.size,0,O⟩) 1 1]) (by simp[results,results69,go_sem,h,i,c2]) rfl ⟨_,rfl,zcQ (p:=1) q (by rw[Hid];rfl) c,
    (Z9 g (zh _) _ _ _).alloc (by have:=g.size;simp;omega) _⟩
end Go.Proofs.YtnhfdcfnojnofaaGreatDoor.T
