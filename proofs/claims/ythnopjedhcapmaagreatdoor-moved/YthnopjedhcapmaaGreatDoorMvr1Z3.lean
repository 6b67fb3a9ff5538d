import Derived.Test.YthnopjedhcapmaaGreatDoorMvr1Z1
open Option renaming none->O,some->E
open Go.Value renaming slice->V,bool->G,string->gS,pointer->pn,int->it
open Go.Obj renaming cells->cl
open Go renaming World->H
open Go.Proofs.Tryz renaming prog->pg
open Go.Proofs.Tryz
open Go.Ending renaming returned->Xa
open Go.IntKind renaming i64->Xb
open Go.Addr renaming mk->Xd
set_option linter.unusedSimpArgs false
set_option linter.unusedVariables false
set_option maxHeartbeats 1000000
set_option maxRecDepth 100000
namespace Go.Proofs.YthnopjedhcapmaaGreatDoor
section
theorem zi1 (l:U_)(c:UInt8):Lib.indexByte l c=Lib.index l [c]:=by
 induction l with
 |nil=>rfl
 |cons x r a=>
  simp only[Lib.indexByte,Lib.index,a];by_cases h:x=c
  ·subst h;simp
  ·have a:([c]:U_).isPrefixOf (x::r)=false:=by simp[List.isPrefixOf,Qr h]
   simp[h,a]
theorem zqf (c:UInt8):Lib.cut [] [c]=([],[],false):=rfl
theorem zix (c:UInt8)(r:U_):Lib.cut (c::r) [c]=([],r,true):=by
 have h:Lib.index (c::r) [c]=0:=by simp[Lib.index,List.isPrefixOf]
 simp[Lib.cut,h]
theorem zfJ {c x:UInt8}(a:x≠c)(r:U_):Lib.cut (x::r) [c]=(x::(Lib.cut r [c]).1,(Lib.cut r [c]).2.1,(Lib.cut r [c]).2.2):=by
 have h:Lib.index (x::r) [c]=if Lib.index r [c]=-1 then -1 else Lib.index r [c]+1:=by
  simp only[Lib.index];have b:([c]:U_).isPrefixOf (x::r)=false:=by simp[List.isPrefixOf,Qr a]
  simp[b]
 by_cases a:Lib.index r [c]=-1
 ·rw[zQ a]at h;simp[Lib.cut,h,a]
 ·rw[zO a]at h;have a:=Lib.index_ge r [c];have b:0<=Lib.index r [c]:=om;obtain⟨k,hk⟩:∃k:Nat,Lib.index r [c]=k:=⟨(Lib.index r [c]).toNat,om⟩;rw[hk]at h b;have a:Lib.index (x::r) [c]=((k+1:Nat):Int):=by rw[h];rfl
  simp[Lib.cut,a,hk];omega
theorem zdk (c:UInt8)(l:U_):(Lib.cut l [c]).1.length+(Lib.cut l [c]).2.1.length+(if (Lib.cut l [c]).2.2=true then 1 else 0)=l.length:=by
 induction l with
 |nil=>rfl
 |cons x r a=>
  by_cases h:x=c
  ·subst h;rw[zix];simp
  ·rw[zfJ h];simp only[qi];omega
theorem zjU {c:UInt8}{l:U_}(h:(Lib.cut l [c]).2.2=false):Lib.cut l [c]=(l,[],false):=by
 induction l with
 |nil=>rfl
 |cons x r b=>
  by_cases a:x=c
  ·subst a;rw[zix]at h;cases h
  ·rw[zfJ a]at h⊢;rw[b h]
namespace T

end T
variable {F:N_}{S W a b g r t u v:Nat}{l:U_}
def jO (l:U_):Bool:=decide (l= [60,61])||(decide (l= [62,61])||decide (l= [61]))
def zaD:Nat->U_->List (U_)
 |0,_=> []
 |f+1,l=>(Lib.cut l [32]).1::(if (Lib.cut l [32]).2.2=true then zaD f (Lib.cut l [32]).2.1 else [])
def Zb (l:U_):List (U_):=zaD (l.length+1) l
theorem znt(f:Nat):∀l:U_,(zaD f l).length<=l.length+1/\∀x∈zaD f l,x.length<=l.length:=by
 induction f with
 |zero=>intro l;simp[zaD]
 |succ f d=>
  intro l;rw[zaD];have a:=zdk 32 l;by_cases b:(Lib.cut l [32]).2.2=true
  ·rw[zQ b]at a⊢;have⟨_,c⟩:=d (Lib.cut l [32]).2.1;refine⟨by rw[qi];omega,fun x a=>?_⟩;rcases zI.1 a with h|h
   ·rw[h];omega
   ·have:=c x h;omega
  ·rw[zO b];refine⟨sp,fun x a=>?_⟩;rw[qg.1 a];omega
def JA:Nat->U_->List (U_×Bool)
 |0,_=> []
 |f+1,l=>if l= []then []else((Lib.cut l [10]).1,(Lib.cut l [10]).2.2)::JA f (Lib.cut l [10]).2.1
def QW (l:U_):List (U_×Bool):=JA l.length l
theorem zbN(f:Nat):JA f []= []:=by cases f<;>simp[JA]
theorem zgA(f:Nat):∀l:U_,(JA f l).length<=l.length/\∀x∈JA f l,x.1.length<=l.length:=by
 induction f with
 |zero=>intro l;simp[JA]
 |succ f e=>
  intro l;rw[JA];by_cases a:l= []
  ·subst a;simp
  ·rw[zO a];have d:=zdk 10 l;have b:=ZC.2 a;have⟨_,b⟩:=e (Lib.cut l [10]).2.1;have a:(Lib.cut l [10]).2.1.length+1<=l.length:=by
    by_cases a:(Lib.cut l [10]).2.2=true
    ·rw[zQ a]at d;omega
    ·rw[zjU (by simpa using a)];simp;omega
   refine⟨by rw[qi];omega,fun x a=>?_⟩;rcases zI.1 a with h|h
   ·rw[h];show(Lib.cut l [10]).1.length<=_;omega
   ·have:=b x h;omega
open Go.RowKit
def zhV (c:UInt8):Bool:=decide (48<=c.toNat)&&decide (c.toNat<=57)
def Qm (l:U_):Bool:=l.all zhV
def ZE (l:U_):Nat:=l.foldl (fun a c=>a*10+(c.toNat-48)) 0
theorem zf3(l:U_)(c:UInt8):ZE (l ++ [c])=ZE l*10+(c.toNat-48):=by simp[ZE,List.foldl_append]
theorem zgB{c:UInt8}(h:zhV c=true):48<=c.toNat/\c.toNat<=57:=by
 unfold zhV at h;simpa using h
theorem zgC(h:Qm l=true)(i:Nat)(hi:i<l.length):48<=l[i].toNat/\l[i].toNat<=57:=by
 unfold Qm at h;rw[Zi]at h;exact zgB (h _ (zJ hi))
theorem zfl(l:U_)(k:Nat)(h:k<l.length):ZE (l.take (k+1))=ZE (l.take k)*10+(l[k].toNat-48):=by
 rw[ZQ h,zf3]
theorem zge(h:Qm l=true)(k:Nat)(d:k<=l.length):ZE (l.take k)<10^k:=by
 induction k with
 |zero=>simp[ZE]
 |succ k a=>
  have c:=zgC h k om;rw[zfl l k om,Zv];generalize 10^k=p at *;omega
theorem zkp(h:Qm l=true):ZE l<10^l.length:=by
 have:=zge h l.length (zh _);rwa [Zx]at this
theorem zqg(x:Nat)(b:U_):b.foldl (fun a c=>a*10+(c.toNat-48)) x=x*10^b.length+ZE b:=by
 induction b generalizing x with
 |nil=>simp[ZE]
 |cons c b d=>
  have e:ZE (c::b)=b.foldl (fun a c=>a*10+(c.toNat-48)) (c.toNat-48):=by simp[ZE]
  rw[zaZ,d,e,d (c.toNat-48),qi,Zv,Zg,Zt,Z5 10 (10^b.length)];omega
theorem zkX(a b:U_):ZE (a++b)=ZE a*10^b.length+ZE b:=by
 have e:ZE (a++b)=b.foldl (fun a c=>a*10+(c.toNat-48)) (ZE a):=by simp[ZE,List.foldl_append]
 rw[e,zqg]
theorem zkY(s:ByteArray)(w:H)(hs:s.size<=1099511627776)(h:Qm s.data.toList=true):
 C_ 67 #[gS s] w fun e w'=>e=Xa (G true)/\w'=w:=by
 have a:∀i (b:i<s.size),48<=s[i].toNat/\s[i].toNat<=57:=fun i b=>zgC h i (by simpa using b)
 go_enter func67,ntmps67
 go_wp2;go_loop [6] (fun i=>∃k:Nat,k<=s.size/\i=i_ k) (fun i=>s.size-(intOf i).toNat)
 case atStart=>exact⟨0,qo _,rfl⟩
 case round=>
  obtain⟨k,_,rfl⟩:=hrel;by_cases b:k<s.size
  ·have c:=(a k b).1;have c:=(a k b).2;go_wp2;go_round
   case rel=>exact⟨k+1,om,by go_num⟩
   case measure=>simp[intOf];omega
  ·go_wp2;go_ret;exact⟨rfl,rfl⟩
theorem zol{l:U_}(h:Qm l=false):∃k,∃b:k<l.length,(l[k].toNat<48\/57<l[k].toNat)/\∀i (hi:i<k),48<=(l[i]' om).toNat/\(l[i]' om).toNat<=57:=by
 induction l with
 |nil=>simp[Qm]at h
 |cons c l f=>
  by_cases a:zhV c=true
  ·have c:Qm l=false:=by
    unfold Qm at h⊢;rw[List.all_cons,a,zaT]at h;exact h
   have⟨k,b,d,e⟩:=f c;refine⟨k+1,by simpa using b,by simpa using d,?_⟩;intro i hi;cases i with
   |zero=>exact zgB a
   |succ i=>have:=e i om;simpa using this
  ·refine⟨0,sp,?_,fun i hi=>om⟩;unfold zhV at a;simp at a⊢;omega
theorem zlz(s:ByteArray)(w:H)(hs:s.size<=1099511627776)(h:Qm s.data.toList=false):
 C_ 67 #[gS s] w fun e w'=>e=Xa (G false)/\w'=w:=by
 have⟨n,a,b,c⟩:=zol h;have d:n<s.size:=by simpa using a
 have f:s[n].toNat<48\/57<s[n].toNat:=b;have a:∀i (d:i<n),48<=(s[i]' om).toNat/\(s[i]' om).toNat<=57:=fun i d=>c i d
 go_enter func67,ntmps67
 go_wp2;go_loop [6] (fun i=>∃k:Nat,k<=n/\i=i_ k) (fun i=>n-(intOf i).toNat)
 case atStart=>exact⟨0,qo _,rfl⟩
 case round=>
  obtain⟨k,_,rfl⟩:=hrel;by_cases b:k<n
  ·have c:k<s.size:=om;have c:=(a k b).1;have c:=(a k b).2;have a:(48:Int)<=(s[k].toNat:Int):=om;have a:(s[k].toNat:Int)<=57:=om;go_wp2;go_round
   case rel=>exact⟨k+1,om,by go_num⟩
   case measure=>simp[intOf];omega
  ·have a:k=n:=om;subst a;rcases f with a|a
   ·have a:(s[k].toNat:Int)<48:=om;go_wp2;go_ret;exact⟨rfl,rfl⟩
   ·go_wp2;go_ret;exact⟨rfl,rfl⟩
theorem zom(s:ByteArray)(w:H)(hs:s.size<=9)(h:Qm s.data.toList=true):
 C_ 70 #[gS s] w fun e w'=>e=Xa (it .u32 (ZE s.data.toList:Nat))/\w'=w:=by
 have b:∀i (a:i<s.size),48<=s[i].toNat/\s[i].toNat<=57:=fun i a=>zgC h i (by simpa using a)
 have f:∀k (a:k<s.size),ZE _=ZE _*10+(s[k].toNat-48):=fun k a=>zfl _ k (by simpa using a)
 have c:=zf b;have g:=zf (fun k a=>zge h k (by simpa using a));go_enter func70,ntmps70
 go_wp2;go_loop [3,7] (fun v i=>∃k:Nat,k<=s.size/\i=i_ k/\v=it .u32 (ZE (s.data.toList.take k):Nat)) (fun _ i=>s.size-(intOf i).toNat)
 case atStart=>exact⟨0,qo _,rfl,rfl⟩
 case round=>
  obtain⟨k,a,rfl,rfl⟩:=hrel;by_cases b:k<s.size
  ·have d:=(c.out k b).1;have d:=(c.out k b).2;have c:(48:Int)<=(s[k].toNat:Int):=om;have c:(s[k].toNat:Int)<=57:=om;have c:=g.out k a;have d:10^k<=10^8:=ZD om om;have a:ZE (s.data.toList.take k)<100000000:=om;have a:=zf ((zf f).out k b);generalize ZE (s.data.toList.take k)=x at *;go_wp2;go_round
   case rel=>exact⟨k+1,om,by go_num,by rw[a.out];exact qm (it .u32) om⟩
   case measure=>simp[intOf];omega
  ·have b:k=s.size:=om;have a:Hid (ZE (s.data.toList.take k)=ZE s.data.toList):=by rw[Hid,zP so]
   clear b;go_wp2;go_ret;exact⟨zaQ (by rw[a.out]),rfl⟩
open Go
theorem zon:∀(x:Nat),0<x->x<2^64->1<=Lib.bitLen x/\2^Lib.bitLen x<=2*x/\x<2^Lib.bitLen x:=by
 intro x;induction x using Nat.strongRecOn with
 |_ x b=>
  intro a h;rw[Lib.bitLen_half x om h];by_cases a:x/2=0
  ·rw[a,show Lib.bitLen 0=0 by decide];have:x=1:=om;subst this;decide
  ·have⟨_,_,_⟩:=b (x/2) om om om;generalize Lib.bitLen (x/2)=b at *;rw[Nat.add_comm 1 b,Zv];omega
theorem znu{x:Nat}(h0:0<x)(h:x<4294967296):∃s:Nat,s<=31/\(32-(Lib.bitLen x:Int))=(s:Int)/\2147483648<=2^s*x/\2^s*(x+1)<=4294967296:=by
 have⟨h1,h2,h3⟩:=zon x h0 om;have h4:Lib.bitLen x<=32:=by
  rcases Qc 32 (Lib.bitLen x)with h5|h5
  ·have:=ZD (n:=2) dc (show 33<=Lib.bitLen x by omega);omega
  ·exact h5
 generalize Lib.bitLen x=b at *;obtain⟨s,rfl⟩:∃s,b=32-s:=⟨32-b,om⟩;have hp:2^s*2^(32-s)=4294967296:=by rw[<-Q6,show s+(32-s)=32 by omega]
 refine⟨s,om,om,?_,?_⟩
 ·have:2^s*2^(32-s)<=2^s*(2*x):=Zr _ h2;have e:2^s*(2*x)=2*(2^s*x):=by ac_rfl
  omega
 ·have:2^s*(x+1)<=2^s*2^(32-s):=Zr _ h3;omega
theorem by_bd{es:N_}(b:Dig es)(a:es.length=t+2)(h1:2147483648<=S*es.getD (t+1) 0)(h2:S*(es.getD (t+1) 0+1)<=4294967296):
 2147483648*4294967296^(t+1)<=S*val es/\S*val es<4294967296^(t+2):=by
 have e:=val_take_succ es (t+1) om;rw[zP om]at e;have a:=val_lt (b.take (t+1));rw[zX,show min (t+1) es.length=t+1 by omega]at a;generalize es.getD (t+1) 0=x at *;generalize val (es.take (t+1))=r at *;rw[e,Zv 4294967296 (t+1)];generalize 4294967296^(t+1)=P at *;rw[Zs];have b:2147483648*P<=S*x*P:=zZ _ h1;have b:S*(x+1)*P<=4294967296*P:=zZ _ h2;have b:S*(P*x)=S*x*P:=by ac_rfl
 have b:S*(x+1)*P=S*x*P+S*P:=by rw[Zs,jM,Zg]
 have b:0<S:=by
  rcases Qd S with h|h
  ·subst h;omega
  ·exact h
 have c:=Nat.mul_lt_mul_of_pos_left a b;omega
theorem zoo(a:Dig F)(c:Top F)(b:val F=v)(h1:2147483648*4294967296^(t+1)<=v)(h2:v<4294967296^(t+2)):
 F.length=t+2/\2147483648<=F.getD (t+1) 0:=by
 have d:=c.len (by rw[b];exact h2);have c:=val_lt a;have c:t+1<F.length:=by
  rcases Qc (t+1) F.length with h|h
  ·exact h
  ·have:=pow_mono h;have d:=pow_pos (t+1);generalize 4294967296^(t+1)=P at *;omega
 refine⟨om,?_⟩;have e:=val_take_succ F (t+1) c;rw[zP om,b]at e;have b:=val_lt (a.take (t+1));rw[zX,show min (t+1) F.length=t+1 by omega]at b;rcases Qc (F.getD (t+1) 0) 2147483648 with h|h
 ·exfalso
  generalize F.getD (t+1) 0=x at *;generalize val (F.take (t+1))=r at *;generalize 4294967296^(t+1)=P at *;have:P*x<=P*2147483647:=Zr _ om;omega
 ·exact h
theorem znv{L:N_}{M m:Nat}(e:L.length=M+1)(d:t+2<=M)(a:val L=S*m)(hm:m<4294967296^M)(b:0<S)(c:S<=2147483648)(h1:2147483648*4294967296^(t+1)<=v):
 val (L.drop (M-t-1))<v:=by
 have e:=val_take_drop L (M-t-1) om;rw[a]at e;have d:4294967296^M=4294967296^(M-t-1)*4294967296^(t+1):=by rw[<-Q6];congr 1;omega
 have a:=Nat.mul_lt_mul_of_pos_left hm b;rw[d]at a;have a:=pow_pos (M-t-1);generalize val (L.drop (M-t-1))=D at *;generalize 4294967296^(M-t-1)=P at *;generalize 4294967296^(t+1)=R at *;have a:P*D<P*(S*R):=by
  have:S*(P*R)=P*(S*R):=by ac_rfl
  omega
 have b:=zcq a;have a:S*R<=2147483648*R:=zZ _ c;omega
theorem zqh{m n q:Nat}(d:0<S)(h:S*m=r+S*n*q)(g:r<S*n):q=m/n/\r/S=m%n:=by
 have f:0<n:=by
  rcases Qd n with a|a
  ·subst a;omega
  ·exact a
 have e:S ∣ r:=by
  have a:S ∣ S*m:=Nat.dvd_mul_right _ _;rw[h]at a;exact(Nat.dvd_add_left (Nat.dvd_trans (Nat.dvd_mul_right S n) (Nat.dvd_mul_right _ _))).1 a
 obtain⟨c,rfl⟩:=e;have a:m=c+n*q:=by
  have:S*m=S*(c+n*q):=by rw[h,Zs,Zt]
  exact Nat.eq_of_mul_eq_mul_left d this
 have b:=zcq g;subst a;rw[Nat.mul_div_cancel_left _ d,zbO _ _ f,jH b,qt,Js,Jk b];exact⟨rfl,rfl⟩
theorem znw{ds:N_}{high lead:Nat}(a0:ds.length=t+3)(W:F.length=t+2)(i:Dig ds)(r:Dig F)(C:val ds=u)(J:val F=v)(B:2147483648<=F.getD (t+1) 0)(I:u<v*4294967296)(z:high=ds.getD (t+1) 0+4294967296*ds.getD (t+2) 0)(j:lead=F.getD (t+1) 0)(x:a=high*4294967296+ds.getD t 0)(h:b=lead*4294967296+F.getD t 0)(s:∀Q,Q<=high/lead->(∀k,a<k*b->Q<k)->Q<4294967296->Q<=g)(hg:g<4294967296)(y:g*b<=a):u/v<=g/\g<=u/v+1:=by
 have e:=val_take_succ F (t+1) om;rw[zP om,val_take_succ F t om,J,<-j]at e;have c:=val_take_succ ds (t+2) om;rw[zP om,val_take_succ ds (t+1) om,val_take_succ ds t om,C]at c;have M:=val_lt (r.take t);rw[zX,show min t F.length=t by omega]at M;have N:=val_lt (i.take t);rw[zX,show min t ds.length=t by omega]at N;have y0:=i.get t;rw[<-j]at B;have K:=pow_pos t;rw[Zv]at e c;rw[show t+2=t+1+1 by omega,Zv,Zv]at c;generalize 4294967296^t=P at *;generalize val (F.take t)=m at *;generalize val (ds.take t)=o at *;generalize ds.getD t 0=Z at *;generalize ds.getD (t+1) 0=Y at *;generalize ds.getD (t+2) 0=X at *;generalize F.getD t 0=l at *;have f:v=m+b*P:=by
  rw[e,h,Zg];have:P*4294967296*lead=lead*4294967296*P:=by ac_rfl
  have:P*l=l*P:=Z5 _ _;omega
 have U:u=o+a*P:=by
  rw[c,x,z,Zg,Zg,Zg];have R:P*4294967296*Y=Y*4294967296*P:=by ac_rfl
  have S:P*4294967296*4294967296*X=4294967296*X*4294967296*P:=by ac_rfl
  have T:P*Z=Z*P:=Z5 _ _;omega
 have d:0<v:=by
  have:2147483648*4294967296<=b:=om;have:1*1<=b*P:=Z7 om K;omega
 have D:u<(a+1)*P:=by rw[Zg];omega
 constructor
 ·refine s _ ?_ (fun k A=>znm om d D A rfl) ((QC d).2 (by rw[Z5];exact I));refine zmn (P:=4294967296*P) om ?_ d ?_ om rfl
  ·rw[f,h,Zg];have:lead*(4294967296*P)=lead*4294967296*P:=by ac_rfl
   omega
  ·have p:a+1<=(high+1)*4294967296:=om;have q:(a+1)*P<=_*4294967296*P:=zZ _ p;rw[Zt]at q;omega
 ·exact zmo (P:=P) (by rw[f,Zg];omega) d om y om rfl
theorem top_le{ds:N_}(e:ds.length=t+3)(a:F.length=t+2)(b:Dig F)(c:val ds=u)(d:val F=v)(f:u<v*4294967296):ds.getD (t+2) 0<=F.getD (t+1) 0:=by
 have a:=val_take_succ F (t+1) om;rw[zP om,d]at a;have a:=val_take_succ ds (t+2) om;rw[zP om,c]at a;have c:=val_lt (b.take (t+1));rw[zX,show min (t+1) F.length=t+1 by omega]at c;rw[show t+2=t+1+1 by omega,Zv]at a;have a:=pow_pos (t+1);generalize 4294967296^(t+1)=P at *;generalize val (F.take (t+1))=a at *;generalize val (ds.take (t+1+1))=c at *;generalize ds.getD (t+1+1) 0=X at *;generalize F.getD (t+1) 0=y at *;have a:4294967296*P*X<4294967296*P*(y+1):=by
  have b:P*4294967296*X=4294967296*P*X:=by ac_rfl
  have b:4294967296*P*(y+1)=4294967296*(P*y)+4294967296*P:=by rw[Zs,jM,Zt]
  omega
 have:=zcq a;omega
theorem zqi{c X:Nat}(d:a<W)(h:a+W*c=W+X)(b:X<W):a=X:=by
 rcases Qc c 2 with b|b
 ·rcases Qd c with d|d
  ·subst d;omega
  ·have:c=1:=om;subst this;omega
 ·have:W*2<=W*c:=Zr _ b;omega
theorem zop(e:0<b)(h1:u/b<=g)(h2:g<=u/b)(f:a<W)(h:a+g*b=u+W*r)(j:u<W):r=0/\u=g*b+a/\a<b:=by
 have d:=Nat.le_antisymm h2 h1;have c:=zd9 u b;rw[<-d]at c;have⟨i,_⟩:=znn f h c j;have b:=Nat.lt_div_mul_add e (a:=u);rw[<-d]at b;exact⟨i,om,om⟩
theorem zkq{d c:Nat}(e:0<d)(h1:g=u/d+1)(l:a<W)(h:a+g*d=u+W*r)(i:u<W)(j:d<W):0<r/\1<=g/\(b<W->b+W*c=a+d->u=(g-1)*d+b/\b<d):=by
 have i:=Nat.lt_div_mul_add e (a:=u);have e:=zd9 u d;obtain⟨k,hk⟩:∃k,u/d=k:=⟨_,rfl⟩;rw[hk]at i e h1;subst h1;rw[Zg,Jv]at h;obtain⟨e,i⟩:=zno (f:=k+1) l (by rw[Zg,Jv];exact h) (by rw[Zg,Jv];omega) (by rw[Zg,Jv];omega) j;rw[Zg,Jv]at i;refine⟨e,om,fun e i=>?_⟩;have i:=zqi (c:=c) (X:=u-k*d) e om om;rw[zeH];omega
end

section
open Go.RowKit
theorem ze2 (s:ByteArray)(w:H):
 C_ 209 #[gS s] w fun e w'=>e=Xa (.func (.func 246) #[] #[p_ w.heap.size 0])/\w'=w.alloc (cl #[gS s] 9):=by
 go_enter func209,ntmps209
 go_wp2;go_ret;exact⟨rfl,rfl⟩
theorem zfm (s t:U_)(q:Nat)(w:H)(h:w.cell? (Xd q 0 O)=E (gS ⟨t.toArray⟩)):
 C_ 246 #[gS ⟨s.toArray⟩,p_ q 0] w fun e w'=>e=Xa (G (decide (s=t)))/\w'=w:=by
 go_enter func246,ntmps246
 go_wp2;go_ret;refine⟨zlp ?_,rfl⟩;rw[zcr];simp
theorem zlA (a:Addr)(w:H):
 C_ 210 #[pn (E a)] w fun e w'=>e=Xa (.func (.func 247) #[] #[p_ w.heap.size 0])/\w'=w.alloc (cl #[pn (E a)] 292):=by
 go_enter func210,ntmps210
 go_wp2;go_ret;exact⟨rfl,rfl⟩
def zcX (s:U_):Nat:=if s.length=1 then(if 49<=(s.getD 0 0).toNat/\(s.getD 0 0).toNat<=52 then(s.getD 0 0).toNat-48 else 0)else 0
theorem zjV (s:U_)(q c:Nat)(z:Int)(w:H)(h:w.cell? (Xd q 0 O)=E (p_ c 0))(g:w.cell? (Xd c 0 O)=E (i_ z))(a:w.frozen? (Xd c 0 O)=false)(hs:s.length<=1000000):
 C_ 247 #[gS ⟨s.toArray⟩,p_ q 0] w fun e w'=>e=Xa (G (decide (zcX s≠0)))/\(w'=w\/w'=w.drew.setCell (Xd c 0 O) (i_ (zcX s:Int)))/\(zcX s≠0->w'.cell? (Xd c 0 O)=E (i_ (zcX s:Int))):=by
 by_cases d:s.length=1
 ·obtain⟨x,rfl⟩:∃x,s= [x]:=List.length_eq_one_iff.1 d;by_cases b:49<=x.toNat/\x.toNat<=52
  ·have a:zcX [x]=x.toNat-48:=by simp[zcX,b]
   have f:({ data:=#[x] }:ByteArray)[0]'(by simp[ByteArray.size])=x:=rfl;rw[a];obtain⟨n,hn⟩:∃n,x.toNat=n:=⟨_,rfl⟩;rw[hn]at b⊢;have i:IntKind.u8.wrap (n-48)=((n-48:Nat):Int):=by
    obtain rfl|rfl|rfl|rfl:n=49\/n=50\/n=51\/n=52:=om
    all_goals rfl
   go_enter func247,ntmps247
   go_wp2;go_region
   all_goals go_wp2
   all_goals go_ret
   all_goals refine⟨zlp so,.inr rfl,fun _=>zN _ _ _ g⟩
  ·have a:zcX [x]=0:=by simp[zcX,b]
   rw[a];have f:({ data:=#[x] }:ByteArray)[0]'(by simp[ByteArray.size])=x:=rfl;go_enter func247,ntmps247
   go_wp2;all_goals first
    |(exfalso;omega)
    |(go_ret;first|exact⟨rfl,.inl rfl,fun h=>absurd rfl h⟩|exact⟨rfl,.inl rfl⟩|exact .inl rfl)
 ·have a:zcX s=0:=by simp[zcX,d]
  rw[a];go_enter func247,ntmps247
  go_wp2;go_ret;exact⟨rfl,.inl rfl,fun h=>absurd rfl h⟩
theorem jn (a:Addr)(w:H):
 C_ 212 #[pn (E a)] w fun e w'=>e=Xa (.func (.func 249) #[] #[p_ w.heap.size 0])/\w'=w.alloc (cl #[pn (E a)] 299):=by
 go_enter func212,ntmps212
 go_wp2;go_ret;exact⟨rfl,rfl⟩
theorem zfK (a:Addr)(w:H):
 C_ 214 #[pn (E a)] w fun e w'=>e=Xa (.func (.func 251) #[] #[p_ w.heap.size 0])/\w'=w.alloc (cl #[pn (E a)] 304):=by
 go_enter func214,ntmps214
 go_wp2;go_ret;exact⟨rfl,rfl⟩
theorem zh9 (s:U_)(q c:Nat)(z:ByteArray)(w:H)(h:w.cell? (Xd q 0 O)=E (p_ c 0))(b:w.cell? (Xd c 0 O)=E (gS z))(f:w.frozen? (Xd c 0 O)=false):
 C_ 251 #[gS ⟨s.toArray⟩,p_ q 0] w fun e w'=>e=Xa (G (jO s))/\Wr (fun k=>k=c) w w'/\(jO s=true->∃w1,b_ w w1/\w'=w1.setCell (Xd c 0 O) (gS ⟨s.toArray⟩)):=by
 go_enter func251,ntmps251
 go_wp2;obtain⟨a,hw0⟩:∃a,w.alloc (cl #[gS ⟨#[60,61]⟩,gS ⟨#[62,61]⟩,gS ⟨#[61]⟩] 232)=a:=⟨_,rfl⟩;have g:b_ w a:=by rw[<-hw0];exact(qf _ _).alloc (zh _) _
 have d:a.cell? (y_ w 0)=E (gS ⟨#[60,61]⟩):=by rw[<-hw0];simp
 have d:a.cell? (y_ w 1)=E (gS ⟨#[62,61]⟩):=by rw[<-hw0];simp
 have d:a.cell? (y_ w 2)=E (gS ⟨#[61]⟩):=by rw[<-hw0];simp
 have d:c<w.heap.size:=zw b;have i:q<w.heap.size:=zw h;have j:=(g.cell i).trans h;have i:=(g.cell d).trans b;have b:=(g.frozen d).trans f;try rw[hw0]
 have b:∀x:U_,s=x->jO x=true->Wr (fun k=>k=c) w (a.setCell (Xd c 0 O) (gS ⟨x.toArray⟩))/\(jO s=true->∃w1,b_ w w1/\a.setCell (Xd c 0 O) (gS ⟨x.toArray⟩)=w1.setCell (Xd c 0 O) (gS ⟨s.toArray⟩)):=by
  intro x d _;subst d;exact⟨(Xg (T:=fun k=>k=c) g).setCell rfl _,fun _=>⟨a,g,rfl⟩⟩
 have i:=zf b;go_loopw [8] (fun b wr=>∃k:Nat,k<=3/\b=i_ k/\wr=a/\Hid ((0<k->s≠ [60,61])/\(1<k->s≠ [62,61])/\(2<k->s≠ [61]))) (fun b _=>3-(intOf b).toNat)
 case atStart=>exact⟨0,om,rfl,rfl,om,om,om⟩
 case round=>
  obtain⟨k,_,rfl,rfl,f⟩:=hrel;obtain rfl|rfl|rfl|rfl:k=0\/k=1\/k=2\/k=3:=om
  ·go_wp2
   ·rename_i b
    have a:s= [60,61]:=by simpa using b
    have d:jO s=true:=by rw[a];rfl
    go_ret;exact⟨by rw[d];rfl,i.out [60,61] a rfl⟩
   ·rename_i b
    have a:s≠ [60,61]:=by simpa using b
    refine⟨⟨1,om,rfl,trivial,?_⟩,by simp[intOf]⟩;exact⟨fun _=>a,om,om⟩
  ·go_wp2
   ·rename_i b
    have a:s= [62,61]:=by simpa using b
    have d:jO s=true:=by rw[a];rfl
    go_ret;exact⟨by rw[d];rfl,i.out [62,61] a rfl⟩
   ·rename_i b
    have a:s≠ [62,61]:=by simpa using b
    refine⟨⟨2,om,rfl,trivial,?_⟩,by simp[intOf]⟩;exact⟨fun _=>f.out.1 om,fun _=>a,om⟩
  ·go_wp2
   ·rename_i b
    have a:s= [61]:=by simpa using b
    have d:jO s=true:=by rw[a];rfl
    go_ret;exact⟨by rw[d];rfl,i.out [61] a rfl⟩
   ·rename_i b
    have a:s≠ [61]:=by simpa using b
    refine⟨⟨3,om,rfl,trivial,?_⟩,by simp[intOf]⟩;exact⟨fun _=>f.out.1 om,fun _=>f.out.2.1 om,fun _=>a⟩
  ·have d:jO s=false:=by simp[jO,f.out.1 om,f.out.2.1 om,f.out.2.2 om]
   go_wp2;go_ret;exact⟨by rw[d];rfl,Xg g,fun h=>by rw[d]at h;cases h⟩
def ZM (v:Value):Prop:=∀n,v≠it .u32 n
def qK (w:H)(k:Nat):Prop:=(∃o:Obj,w.heap[k]? =E o/\o.isCells=true)/\∀o v,w.cell? (Xd k o O)=E v->∀n,v≠it .u32 n
theorem zE {w:H}{g:Nat}{cs:W_}{t:TypeId}{a:Nat×Nat}(h:w.heap[g]? =E (cl cs t a))(c:∀v∈cs.toList,ZM v):qK w g:=by
 refine⟨⟨_,h,rfl⟩,fun o v b n=>?_⟩;rw[ze w g o cs t a h]at b;exact c v (by simpa using Array.mem_of_getElem? b) n
theorem qK.block {w:H}{g:Nat}{cs:W_}{t:TypeId}{a:Nat×Nat}(c:qK w g)(h:w.heap[g]? =E (cl cs t a)):∀v∈cs.toList,ZM v:=by
 intro v d;obtain⟨j,b,rfl⟩:=Array.mem_iff_getElem.1 (by simpa using d:v∈cs);apply c.2 j _;rw[ze w g j cs t a h,qD b]
theorem zgW {z:W_}{k:Nat}(c:∀u∈z.toList,ZM u):∀u∈(Builtin.zeroCells z k).toList,ZM u:=by
 intro u a;simp[Builtin.zeroCells]at a;obtain⟨j,b,rfl⟩:=a;have a:0<z.size:=by
  rcases Qd z.size with h|h
  ·rw[h]at b;omega
  ·exact h
 apply c _;rw[getElem!_pos z (j%z.size) (Z0 _ a)];simp
section

variable {P:Program} (w:World)
theorem zlB (t q:TypeId)(base:Nat)(e:TypeId)(i:TypeInfo)(z:Value)(size bytes:Nat)(C:P.underlying t=E (.slice e))(hi:P.info? e=E i)(I:i.zero=E z)
 (l:i.size=size) (h:i.bytes=bytes) (r:z.cells.size=size) (o:0<size)
 (v:Value) (n:Nat) (xs:List Value) (B:w.ownsRow base e size v n xs)
 (k:Addr) (m c:Nat) (d:List Value) (p:d.length=m*size) (y:∀j u,d[j]? =E u->w.cell? (k.add j)=E u) (h1:∀u∈d,u.oneCell'=true)
 (hm:0<m) (f:n+m<=maxLen) (D:(n+m)*bytes<=140737488355328)
 (J:∀u∈z.cells.toList,ZM u) (A:∀u∈d,ZM u) (M:∀g,v.ownBlock=E g->qK w g) {b:Value} {w':H}
 (a:(Builtin.append_ #[t,t] q #[v,V (E k) m c]).run P w= .ok b w'):∀g,b.ownBlock=E g->qK w' g:=by
 subst l;subst h;have b:n+m<=9223372036854775807:=by simp only[maxLen]at f;omega
 rcases B.2 with ⟨rfl,rfl⟩|⟨g,r,s,rfl,_,f,_,_,K,N⟩
 ·rw[(run_append_nil (P:=P) w t q e i z C hi I k m c d p y om om (by have b:=D;simp only[qt]at b;omega))]at a;simp only[J1]at a;obtain⟨rfl,rfl⟩:=a;intro g f;simp[Value.ownBlock]at f;subst f;apply zE (zC w.drew _);intro u b;rw[zea,zU]at b;rcases b with h|h
  ·exact A u (by simpa using h)
  ·exact zgW J u h
 ·have x:=(M g rfl).block f;by_cases l:n+m<=r
  ·have M:n*i.size+d.length<=s.size:=by rw[p,K,<-Zg];exact zZ _ l
   rw[(run_append_room (P:=P) w t q e i C hi g n r s f k m c d p y h1 l M)]at a;simp only[J1]at a;obtain⟨rfl,rfl⟩:=a;intro K l;simp[Value.ownBlock]at l;subst l;apply zE (setRow_heap w g s _ e _ f);intro u b;simp only[zU]at b;rcases b with (h|h)|h
   ·exact x u (ZY h)
   ·exact A u h
   ·exact x u (zak h)
  ·have o:=run_append_grow w t q e i z C hi I ⟨g,0,O⟩ n r xs B.1 (B.cells (g:=g) rfl) k m c d p y om om (growslice_fits om D);rw[o]at a;simp only[J1]at a;obtain⟨rfl,rfl⟩:=a;intro K l;simp[Value.ownBlock]at l;subst l;apply zE (zC w.drew _);intro u b;rw[zea,zea,zU,zU]at b;rcases b with (h|h)|h
   ·exact x u (ZY (by rw[N];simpa using h))
   ·exact A u (by simpa using h)
   ·exact zgW J u h
theorem zgX {o:Oper}{a:Act}{K:Act->H->Prop}{Q:Exit->Act->H->Prop}(s x:Operand)(t:TypeId)
 (ho:o.op= .call { callee:= .builtin .append,args:=#[s,x],argTypes:=#[t,t] })
 (base:Nat) (e:TypeId) (i:TypeInfo) (z:Value) (size bytes:Nat) (D:P.underlying t=E (.slice e)) (hi:P.info? e=E i) (I:i.zero=E z)
 (B:i.size=size) (l:i.bytes=bytes) (J:z.cells.size=size) (C:0<size)
 (v:Value) (n:Nat) (xs:List Value) (hs:a.eval s=v) (y:w.ownsRow base e size v n xs)
 (d:Addr) (m c:Nat) (b:List Value) (Y:a.eval x=V (E d) m c) (q:b.length=m*size) (r:∀j u,b[j]? =E u->w.cell? (d.add j)=E u) (h1:∀u∈b,u.oneCell'=true)
 (hm:0<m) (k:n+m<=maxLen) (p:(n+m)*bytes<=140737488355328) (U:base<=w.heap.size) (f:Nat) (T:w.heap.size=f)
 (Z:∀u∈z.cells.toList,ZM u) (W:∀u∈b,ZM u) (X:∀g,v.ownBlock=E g->qK w g)
 (h:∀g cap w',w'.ownsRow base e size (V (E (Xd g 0 O)) (n+m) cap) (n+m) (xs++b)->w.grownBy w' v.ownBlock->(v.ownBlock=E g\/g=f)->g<w'.heap.size->qK w' g->K (a.put o.dst (V (E (Xd g 0 O)) (n+m) cap)) w'):o.wp P a w K Q:=by
 have⟨g,cap,w',A,M,N,R,S⟩:=run_append_lies w t o.type base e i z size bytes D hi I B l J C v n xs y d m c b q r h1 hm k p U f T;unfold Oper.wp execOp;simp only[ho,resolve,invoke,builtin,Sem.run_bind,Sem.run_pure,Result.andThen_ok,List.map_toArray,Zk,zdJ,hs,Y,A];exact h g cap w' M N R S (zlB (P:=P) w t o.type base e i z size bytes D hi I B l J C v n xs y d m c b q r h1 hm k p Z W X A g rfl)
theorem JI {ops:Array Oper}{rest:List Oper}{o:Oper}{a:Act}{Q:Exit->Act->H->Prop}(p:o.guard=O)(s x:Operand)(t:TypeId)
 (ho:o.op= .call { callee:= .builtin .append,args:=#[s,x],argTypes:=#[t,t] })
 (base:Nat) (e:TypeId) (i:TypeInfo) (z:Value) (size bytes:Nat) (K:P.underlying t=E (.slice e)) (hi:P.info? e=E i) (R:i.zero=E z)
 (I:i.size=size) (r:i.bytes=bytes) (T:z.cells.size=size) (J:0<size)
 (v:Value) (n:Nat) (xs:List Value) (hs:a.eval s=v) (D:w.ownsRow base e size v n xs)
 (f:Addr) (m c:Nat) (b:List Value) (N:a.eval x=V (E f) m c) (A:b.length=m*size) (B:∀j u,b[j]? =E u->w.cell? (f.add j)=E u) (h1:∀u∈b,u.oneCell'=true)
 (hm:0<m) (k:n+m<=maxLen) (y:(n+m)*bytes<=140737488355328) (q:base<=w.heap.size) (d:Nat) (l:w.heap.size=d)
 (S:∀u∈z.cells.toList,ZM u) (C:∀u∈b,ZM u) (M:∀g,v.ownBlock=E g->qK w g)
 (h:∀g cap w',w'.ownsRow base e size (V (E (Xd g 0 O)) (n+m) cap) (n+m) (xs++b)->w.grownBy w' v.ownBlock->(v.ownBlock=E g\/g=d)->g<w'.heap.size->qK w' g->wpList P ops Q rest (a.put o.dst (V (E (Xd g 0 O)) (n+m) cap)) w'):wpList P ops Q (o::rest) a w:=
 wpList_plain p fun _ p=>zgX w s x t ho base e i z size bytes K hi R I r T J v n xs hs D f m c b N A B h1 hm k y q d l S C M fun g cap w' b d f k l=>p _ _ (h g cap w' b d f k l)
theorem QM {ops:Array Oper}{o:Oper}{a:Act}{K:Act->H->Prop}{Q:Exit->Act->H->Prop}{k:Prop}(A:o.guard=O)(s x:Operand)(t:TypeId)
 (ho:o.op= .call { callee:= .builtin .append,args:=#[s,x],argTypes:=#[t,t] })
 (base:Nat) (e:TypeId) (i:TypeInfo) (z:Value) (size bytes:Nat) (N:P.underlying t=E (.slice e)) (hi:P.info? e=E i) (T:i.zero=E z)
 (J:i.size=size) (r:i.bytes=bytes) (W:z.cells.size=size) (M:0<size)
 (v:Value) (n:Nat) (xs:List Value) (hs:a.eval s=v) (I:w.ownsRow base e size v n xs)
 (f:Addr) (m c:Nat) (b:List Value) (S:a.eval x=V (E f) m c) (B:b.length=m*size) (C:∀j u,b[j]? =E u->w.cell? (f.add j)=E u) (h1:∀u∈b,u.oneCell'=true)
 (hm:0<m) (l:n+m<=maxLen) (y:(n+m)*bytes<=140737488355328) (q:base<=w.heap.size) (d:Nat) (p:w.heap.size=d)
 (U:∀u∈z.cells.toList,ZM u) (D:∀u∈b,ZM u) (R:∀g,v.ownBlock=E g->qK w g)
 (h:∀g cap w',w'.ownsRow base e size (V (E (Xd g 0 O)) (n+m) cap) (n+m) (xs++b)->w.grownBy w' v.ownBlock->(v.ownBlock=E g\/g=d)->g<w'.heap.size->qK w' g->K (a.put o.dst (V (E (Xd g 0 O)) (n+m) cap)) w'):
 if Region.wanted o (yielded ops a.tmps)=true then Oper.wp P o a w K Q else k:=by
 have k:Region.wanted o (yielded ops a.tmps)=true:=by simp[Region.wanted,A]
 rw[zQ k];exact zgX w s x t ho base e i z size bytes N hi T J r W M v n xs hs I f m c b S B C h1 hm l y q d p U D R h
end

end

section
open Go.RowKit
attribute [local go_sem] zD zW qJ
variable {k n:Nat}{x:Nat->Nat->Value}
def ptrs (b sz n:Nat):List (W_):=(List.range n).map fun i=>#[p_ b (i*sz)]
theorem zcx{b a:Nat}(h:k<n):(ptrs b a n)[k]? =E #[p_ b (k*a)]:=by
 simp[ptrs,h]
theorem ji(b a n:Nat):(ptrs b a n).length=n:=by simp[ptrs]
theorem qW{f:Nat}{a:Func}{c:Code}(h:Tryz.prog.funcs[f]? =E a)(b:(a.name == "runtime.NumGoroutine")=false)(hb:a.body=E c):∀args w,(callFunc f args).run pg w= .ok (.enter f args) w:=Go.Proofs.enters_of h b hb
def zfn (x:Nat->Nat->Value)(n:Nat):List (W_):=(List.range n).map fun i=>#[Value.agg #[x i 0,x i 1,x i 2,x i 3,x i 4,x i 5]]
theorem zbx(h:k<n):(zfn x n)[k]? =E #[Value.agg #[x k 0,x k 1,x k 2,x k 3,x k 4,x k 5]]:=by
 simp[zfn,h]
theorem jJ(x:Nat->Nat->Value)(n:Nat):(zfn x n).length=n:=by simp[zfn]
theorem zeY(a:A_)(b n cap c:Nat)(d:n<=1000000)(j:0<n->a=E (Xd b 0 O)):
 SeqL pg 248 #[p_ c 0] (ptrs b 6 n) (fun W=>W.cell? (Xd c 0 O)=E (V a n cap)):=by
 intro l J a c W a a a e d;have f:=(a 0 c W d).1;have f:=zf a;have g:=zf e;clear e a;refine zcW func248 ntmps248 (h:=?_);gi_wp2;gi_loopw [6] (fun i wr=>∃(k:Nat) (M:Nat->Prop),i=i_ k/\k<=n/\J k M wr) (fun i _=>n-(intOf i).toNat)
 case atStart=>exact⟨0,c,rfl,qo _,d⟩
 case round=>
  obtain⟨k,M,rfl,_,a⟩:=hrel;have c:=(f.out k M wr a).1;by_cases d:k<n
  ·obtain rfl:=j om;gi_wp2;refine jr (g.out k _ _ _ (zcx d) a) ?_ ?_
   ·rintro f ⟨_,e,c,_⟩;gi_wp2;go_roundw
    case rel=>exact⟨k+1,e,sp,d,c⟩
    case measure=>simp[intOf];omega
   ·intro f c;gi_wp2;apply zH (qI rfl _ _ _) rfl;exact⟨⟨_,rfl⟩,.inr ⟨k,by rw[ji];exact d,c.2⟩⟩
  ·gi_wp2;go_end0
   have c:k=n:=om;subst c;rw[ji];exact⟨⟨_,rfl⟩,.inl ⟨M,a⟩⟩
theorem zfo(v:Value)(a:A_)(l c:Nat)(b:v=V a l c)(w:H):
 C_ 211 #[v] w fun e w'=>e=Xa (.func (.func 248) #[] #[p_ w.heap.size 0])/\w'=w.alloc (cl #[v] 70):=by
 subst b;go_enter func211,ntmps211
 go_wp2;go_ret;exact⟨rfl,rfl⟩
theorem zdK(x:Nat->Nat->Value)(c:A_)(b n cap a:Nat)(k:n<=1000000)(g:0<n->c=E (Xd b 0 O)):
 SeqL pg 215 #[p_ a 0] (zfn x n) (fun W=>W.cell? (Xd a 0 O)=E (V c n cap)/\∀i j,i<n->j<6->W.cell? ⟨b,i*6+j,O⟩=E (x i j)):=by
 intro h J f q W r y hC d h0;have e:=(hC 0 q W h0).1.1;have o:=zf hC;have z:=zf d;have hm:Tryz.prog.follows .mixedOrders=true:=kr;clear d hC;refine Q0 func215 ntmps215 (h:=?_);have d:a<W.heap.size:=zw e;gi_wp2;refine(zq.2 (zfo _ _ _ _ rfl _)).mono ?_;rintro C l ⟨rfl,rfl⟩;gi_wp2;have d:a<W.heap.size:=zw e;refine zaW (zeY c b n cap (W.heap.size+1) k g) rfl (qW func248 kr rfl) (fun v g=>?_)
  (fun k M A=>J k M A/\A.cell? (y_ W 0)=E (.func (.yield h) #[] #[])/\A.cell? (x_ W 0)=E (V c n cap)/\¬M W.heap.size/\¬M (W.heap.size+1)) (fun s k A=>s= .ret/\f k A) q ?hI ?hIx ?hC ?h0 ?round ?done ?stop
 case hI=>
  rintro k M A B ⟨a,d,e,l,m⟩ f;exact⟨r _ _ _ _ a (f.mono so),f.cell d,f.cell e,l,m⟩
 case hIx=>
  rintro s k A B ⟨a,d⟩ f;exact⟨a,y _ _ _ d (f.mono so)⟩
 case hC=>
  rintro k M A ⟨a,d,e,l,m⟩;exact⟨e,(o.out k M A a).2⟩
 case h0=>
  refine⟨r _ _ _ _ h0 ((zn.alloc _ _ _).trans (zn.alloc _ _ _)),?_,?_,?_,?_⟩;·exact((ZU W 305 (.func (.yield h) #[] #[])).alloc _).cell
  ·have:=(ZU (W.alloc (cl #[.func (.yield h) #[] #[]] 305)) 70 (V c n cap)).cell;rwa [zL]at this
  ·intro h;have:=(o.out 0 q W h0).2 _ h;omega
  ·intro h;have:=(o.out 0 q W h0).2 _ h;omega
 case round=>
  rintro D k v M A g ⟨a,d,e,l,m⟩;have t:k<n:=by
   have:=(zo.1 g).1;rwa [ji]at this
  rw[zcx t]at g;injection g with g
  subst g;have u:=zf (fun i j=>((o.out k M A a).1.2 i j));unfold Zz;gi_wp2;refine⟨Xj _ _,fun c q=>?_⟩;have B:=q.cell d;have o:=fun j v=>q.cell (u.out k j t v)
  have u:c.cell? ⟨b,k*6,O⟩=E (x k 0):=o 0 om;have u:=o 1 om;have u:=o 2 om;have u:=o 3 om;have u:=o 4 om;have u:=o 5 om;have u:=r _ _ _ _ a ((q.trans (zn.drew _ _)).mono so);obtain⟨_,_,_,_,v,o⟩:=zgw D 0 (z.out k _ M c.drew (zbx t) u);gi_wp2;gi_region_with_o (refine o.mono ?_;rintro C t ⟨u,rfl,t⟩)
  all_goals clear o v
  all_goals gi_wp2
  all_goals (rename_i o;cases u<;>simp at o)
  all_goals first
   |exact⟨(Xp _ _).trans (t.out.2 rfl).1,rfl,(t.out.2 rfl).2⟩
   |(
    obtain⟨u,z,C,o⟩:=t.out.1 rfl;have t:W.heap.size+1<c.heap.size:=zw (q.cell e);have t:=q.size;refine⟨(Xp _ _).trans u,z,⟨C,u.cell (p:=(y_ W 0)) l B,u.cell (p:=(x_ W 0)) m (q.cell e),fun h=>?_,fun h=>?_⟩,fun q v=>?_⟩
    ·rcases o _ h with h|h
     ·exact l h
     ·have:c.heap.size<=W.heap.size:=h;omega
    ·rcases o _ h with h|h
     ·exact m h
     ·have:c.heap.size<=W.heap.size+1:=h;omega
    ·rcases o q v with h|h
     ·exact .inl h
     ·exact .inr (zF t h))
 case done=>
  rintro D M A h ⟨a,d,e,l,m⟩ c;gi_wp2;refine qh c ?_;refine⟨_,qI rfl _ _ _,⟨_,rfl⟩,.inl ⟨M,?_⟩⟩;rw[jJ];rw[ji]at a;exact r _ _ _ _ a (zn.putObj _ (by simp at h;omega) c rfl)
 case stop=>
  rintro D s k A h f ⟨rfl,a⟩ c;gi_wp2;refine qh c ?_;refine⟨_,qI rfl _ _ _,⟨_,rfl⟩,.inr ⟨k,?_,y _ _ _ a (zn.putObj _ (by simp at h;omega) c rfl)⟩⟩;rw[jJ];rwa [ji]at f
 ·obtain⟨i,_,rfl⟩:=qP.1 g;rfl
def rowVs (x:Nat->Nat->Value)(n:Nat):List (W_):=(List.range n).map fun i=>#[Value.agg #[x i 0,x i 1,x i 2,x i 3]]
theorem zhi(h:k<n):(rowVs x n)[k]? =E #[Value.agg #[x k 0,x k 1,x k 2,x k 3]]:=by
 simp[rowVs,h]
theorem zeI(x:Nat->Nat->Value)(n:Nat):(rowVs x n).length=n:=by simp[rowVs]
theorem zjW(a:A_)(b n cap c:Nat)(d:n<=1000000)(j:0<n->a=E (Xd b 0 O)):
 SeqL pg 263 #[p_ c 0] (ptrs b 4 n) (fun W=>W.cell? (Xd c 0 O)=E (V a n cap)):=by
 intro l J a c W a a a e d;have f:=(a 0 c W d).1;have f:=zf a;have g:=zf e;clear e a;refine zcW func263 ntmps263 (h:=?_);gi_wp2;gi_loopw [6] (fun i wr=>∃(k:Nat) (M:Nat->Prop),i=i_ k/\k<=n/\J k M wr) (fun i _=>n-(intOf i).toNat)
 case atStart=>exact⟨0,c,rfl,qo _,d⟩
 case round=>
  obtain⟨k,M,rfl,_,a⟩:=hrel;have c:=(f.out k M wr a).1;by_cases d:k<n
  ·obtain rfl:=j om;gi_wp2;refine jr (g.out k _ _ _ (zcx d) a) ?_ ?_
   ·rintro f ⟨_,e,c,_⟩;gi_wp2;go_roundw
    case rel=>exact⟨k+1,e,sp,d,c⟩
    case measure=>simp[intOf];omega
   ·intro f c;gi_wp2;apply zH (qI rfl _ _ _) rfl;exact⟨⟨_,rfl⟩,.inr ⟨k,by rw[ji];exact d,c.2⟩⟩
  ·gi_wp2;go_end0
   have c:k=n:=om;subst c;rw[ji];exact⟨⟨_,rfl⟩,.inl ⟨M,a⟩⟩
theorem zkZ(v:Value)(a:A_)(l c:Nat)(b:v=V a l c)(w:H):
 C_ 253 #[v] w fun e w'=>e=Xa (.func (.func 263) #[] #[p_ w.heap.size 0])/\w'=w.alloc (cl #[v] 71):=by
 subst b;go_enter func253,ntmps253
 go_wp2;go_ret;exact⟨rfl,rfl⟩
theorem zlC(x:Nat->Nat->Value)(c:A_)(b n cap a:Nat)(k:n<=1000000)(g:0<n->c=E (Xd b 0 O)):
 SeqL pg 252 #[p_ a 0] (rowVs x n) (fun W=>W.cell? (Xd a 0 O)=E (V c n cap)/\∀i j,i<n->j<4->W.cell? ⟨b,i*4+j,O⟩=E (x i j)):=by
 intro h J f q W r y hC d h0;have e:=(hC 0 q W h0).1.1;have o:=zf hC;have z:=zf d;have hm:Tryz.prog.follows .mixedOrders=true:=kr;clear d hC;refine Q0 func252 ntmps252 (h:=?_);have d:a<W.heap.size:=zw e;gi_wp2;refine(zq.2 (zkZ _ _ _ _ rfl _)).mono ?_;rintro C l ⟨rfl,rfl⟩;gi_wp2;have d:a<W.heap.size:=zw e;refine zaW (zjW c b n cap (W.heap.size+1) k g) rfl (qW func263 kr rfl) (fun v g=>?_)
  (fun k M A=>J k M A/\A.cell? (y_ W 0)=E (.func (.yield h) #[] #[])/\A.cell? (x_ W 0)=E (V c n cap)/\¬M W.heap.size/\¬M (W.heap.size+1)) (fun s k A=>s= .ret/\f k A) q ?hI ?hIx ?hC ?h0 ?round ?done ?stop
 case hI=>
  rintro k M A B ⟨a,d,e,l,m⟩ f;exact⟨r _ _ _ _ a (f.mono so),f.cell d,f.cell e,l,m⟩
 case hIx=>
  rintro s k A B ⟨a,d⟩ f;exact⟨a,y _ _ _ d (f.mono so)⟩
 case hC=>
  rintro k M A ⟨a,d,e,l,m⟩;exact⟨e,(o.out k M A a).2⟩
 case h0=>
  refine⟨r _ _ _ _ h0 ((zn.alloc _ _ _).trans (zn.alloc _ _ _)),?_,?_,?_,?_⟩;·exact((ZU W 334 (.func (.yield h) #[] #[])).alloc _).cell
  ·have:=(ZU (W.alloc (cl #[.func (.yield h) #[] #[]] 334)) 71 (V c n cap)).cell;rwa [zL]at this
  ·intro h;have:=(o.out 0 q W h0).2 _ h;omega
  ·intro h;have:=(o.out 0 q W h0).2 _ h;omega
 case round=>
  rintro D k v M A g ⟨a,d,e,l,m⟩;have t:k<n:=by
   have:=(zo.1 g).1;rwa [ji]at this
  rw[zcx t]at g;injection g with g
  subst g;have u:=zf (fun i j=>((o.out k M A a).1.2 i j));unfold Zz;gi_wp2;refine⟨Xj _ _,fun c o=>?_⟩;have B:=o.cell d;have q:=fun j v=>o.cell (u.out k j t v)
  have u:c.cell? ⟨b,k*4,O⟩=E (x k 0):=q 0 om;have u:=q 1 om;have u:=q 2 om;have u:=q 3 om;have u:=r _ _ _ _ a ((o.trans (zn.drew _ _)).mono so);obtain⟨_,_,_,_,v,q⟩:=zgw D 0 (z.out k _ M c.drew (zhi t) u);gi_wp2;gi_region_with_o (refine q.mono ?_;rintro C t ⟨u,rfl,t⟩)
  all_goals clear q v
  all_goals gi_wp2
  all_goals (rename_i q;cases u<;>simp at q)
  all_goals first
   |exact⟨(Xp _ _).trans (t.out.2 rfl).1,rfl,(t.out.2 rfl).2⟩
   |(
    obtain⟨u,z,C,q⟩:=t.out.1 rfl;have t:W.heap.size+1<c.heap.size:=zw (o.cell e);have t:=o.size;refine⟨(Xp _ _).trans u,z,⟨C,u.cell (p:=(y_ W 0)) l B,u.cell (p:=(x_ W 0)) m (o.cell e),fun h=>?_,fun h=>?_⟩,fun o v=>?_⟩
    ·rcases q _ h with h|h
     ·exact l h
     ·have:c.heap.size<=W.heap.size:=h;omega
    ·rcases q _ h with h|h
     ·exact m h
     ·have:c.heap.size<=W.heap.size+1:=h;omega
    ·rcases q o v with h|h
     ·exact .inl h
     ·exact .inr (zF t h))
 case done=>
  rintro D M A h ⟨a,d,e,l,m⟩ c;gi_wp2;refine qh c ?_;refine⟨_,qI rfl _ _ _,⟨_,rfl⟩,.inl ⟨M,?_⟩⟩;rw[zeI];rw[ji]at a;exact r _ _ _ _ a (zn.putObj _ (by simp at h;omega) c rfl)
 case stop=>
  rintro D s k A h f ⟨rfl,a⟩ c;gi_wp2;refine qh c ?_;refine⟨_,qI rfl _ _ _,⟨_,rfl⟩,.inr ⟨k,?_,y _ _ _ a (zn.putObj _ (by simp at h;omega) c rfl)⟩⟩;rw[zeI];rwa [ji]at f
 ·obtain⟨i,_,rfl⟩:=qP.1 g;rfl
def zff (x:Nat->Nat->Value)(n:Nat):List (W_):=(List.range n).map fun i=>#[Value.agg #[x i 0,x i 1]]
theorem zf4(h:k<n):(zff x n)[k]? =E #[Value.agg #[x k 0,x k 1]]:=by
 simp[zff,h]
theorem zc3(x:Nat->Nat->Value)(n:Nat):(zff x n).length=n:=by simp[zff]
theorem zfp(a:A_)(b n cap c:Nat)(d:n<=1000000)(j:0<n->a=E (Xd b 0 O)):
 SeqL pg 250 #[p_ c 0] (ptrs b 2 n) (fun W=>W.cell? (Xd c 0 O)=E (V a n cap)):=by
 intro l J a c W a a a e d;have f:=(a 0 c W d).1;have f:=zf a;have g:=zf e;clear e a;refine zcW func250 ntmps250 (h:=?_);gi_wp2;gi_loopw [6] (fun i wr=>∃(k:Nat) (M:Nat->Prop),i=i_ k/\k<=n/\J k M wr) (fun i _=>n-(intOf i).toNat)
 case atStart=>exact⟨0,c,rfl,qo _,d⟩
 case round=>
  obtain⟨k,M,rfl,_,a⟩:=hrel;have c:=(f.out k M wr a).1;by_cases d:k<n
  ·obtain rfl:=j om;gi_wp2;refine jr (g.out k _ _ _ (zcx d) a) ?_ ?_
   ·rintro f ⟨_,e,c,_⟩;gi_wp2;go_roundw
    case rel=>exact⟨k+1,e,sp,d,c⟩
    case measure=>simp[intOf];omega
   ·intro f c;gi_wp2;apply zH (qI rfl _ _ _) rfl;exact⟨⟨_,rfl⟩,.inr ⟨k,by rw[ji];exact d,c.2⟩⟩
  ·gi_wp2;go_end0
   have c:k=n:=om;subst c;rw[ji];exact⟨⟨_,rfl⟩,.inl ⟨M,a⟩⟩
theorem zfL(v:Value)(a:A_)(l c:Nat)(b:v=V a l c)(w:H):
 C_ 213 #[v] w fun e w'=>e=Xa (.func (.func 250) #[] #[p_ w.heap.size 0])/\w'=w.alloc (cl #[v] 100):=by
 subst b;go_enter func213,ntmps213
 go_wp2;go_ret;exact⟨rfl,rfl⟩
theorem zjX(x:Nat->Nat->Value)(c:A_)(b n cap a:Nat)(k:n<=1000000)(g:0<n->c=E (Xd b 0 O)):
 SeqL pg 264 #[p_ a 0] (zff x n) (fun W=>W.cell? (Xd a 0 O)=E (V c n cap)/\∀i j,i<n->j<2->W.cell? ⟨b,i*2+j,O⟩=E (x i j)):=by
 intro h J f q W r y hC d h0;have e:=(hC 0 q W h0).1.1;have o:=zf hC;have z:=zf d;have hm:Tryz.prog.follows .mixedOrders=true:=kr;clear d hC;refine Q0 func264 ntmps264 (h:=?_);have d:a<W.heap.size:=zw e;gi_wp2;refine(zq.2 (zfL _ _ _ _ rfl _)).mono ?_;rintro C l ⟨rfl,rfl⟩;gi_wp2;have d:a<W.heap.size:=zw e;refine zaW (zfp c b n cap (W.heap.size+1) k g) rfl (qW func250 kr rfl) (fun v g=>?_)
  (fun k M A=>J k M A/\A.cell? (y_ W 0)=E (.func (.yield h) #[] #[])/\A.cell? (x_ W 0)=E (V c n cap)/\¬M W.heap.size/\¬M (W.heap.size+1)) (fun s k A=>s= .ret/\f k A) q ?hI ?hIx ?hC ?h0 ?round ?done ?stop
 case hI=>
  rintro k M A B ⟨a,d,e,l,m⟩ f;exact⟨r _ _ _ _ a (f.mono so),f.cell d,f.cell e,l,m⟩
 case hIx=>
  rintro s k A B ⟨a,d⟩ f;exact⟨a,y _ _ _ d (f.mono so)⟩
 case hC=>
  rintro k M A ⟨a,d,e,l,m⟩;exact⟨e,(o.out k M A a).2⟩
 case h0=>
  refine⟨r _ _ _ _ h0 ((zn.alloc _ _ _).trans (zn.alloc _ _ _)),?_,?_,?_,?_⟩;·exact((ZU W 227 (.func (.yield h) #[] #[])).alloc _).cell
  ·have:=(ZU (W.alloc (cl #[.func (.yield h) #[] #[]] 227)) 100 (V c n cap)).cell;rwa [zL]at this
  ·intro h;have:=(o.out 0 q W h0).2 _ h;omega
  ·intro h;have:=(o.out 0 q W h0).2 _ h;omega
 case round=>
  rintro D k v M A g ⟨a,d,e,l,m⟩;have q:k<n:=by
   have:=(zo.1 g).1;rwa [ji]at this
  rw[zcx q]at g;injection g with g
  subst g;have u:=zf (fun i j=>((o.out k M A a).1.2 i j));unfold Zz;gi_wp2;refine⟨Xj _ _,fun c o=>?_⟩;have B:=o.cell d;have t:=fun j v=>o.cell (u.out k j q v)
  have u:c.cell? ⟨b,k*2,O⟩=E (x k 0):=t 0 om;have u:=t 1 om;have t:=r _ _ _ _ a ((o.trans (zn.drew _ _)).mono so);obtain⟨_,_,_,_,v,u⟩:=zgw D 0 (z.out k _ M c.drew (zf4 q) t);gi_wp2;gi_region_with_o (refine u.mono ?_;rintro C q ⟨z,rfl,t⟩)
  all_goals clear u v
  all_goals gi_wp2
  all_goals (rename_i q;cases z<;>simp at q)
  all_goals first
   |exact⟨(Xp _ _).trans (t.out.2 rfl).1,rfl,(t.out.2 rfl).2⟩
   |(
    obtain⟨u,z,C,q⟩:=t.out.1 rfl;have t:W.heap.size+1<c.heap.size:=zw (o.cell e);have t:=o.size;refine⟨(Xp _ _).trans u,z,⟨C,u.cell (p:=(y_ W 0)) l B,u.cell (p:=(x_ W 0)) m (o.cell e),fun h=>?_,fun h=>?_⟩,fun o v=>?_⟩
    ·rcases q _ h with h|h
     ·exact l h
     ·have:c.heap.size<=W.heap.size:=h;omega
    ·rcases q _ h with h|h
     ·exact m h
     ·have:c.heap.size<=W.heap.size+1:=h;omega
    ·rcases q o v with h|h
     ·exact .inl h
     ·exact .inr (zF t h))
 case done=>
  rintro D M A h ⟨a,d,e,l,m⟩ c;gi_wp2;refine qh c ?_;refine⟨_,qI rfl _ _ _,⟨_,rfl⟩,.inl ⟨M,?_⟩⟩;rw[zc3];rw[ji]at a;exact r _ _ _ _ a (zn.putObj _ (by simp at h;omega) c rfl)
 case stop=>
  rintro D s k A h f ⟨rfl,a⟩ c;gi_wp2;refine qh c ?_;refine⟨_,qI rfl _ _ _,⟨_,rfl⟩,.inr ⟨k,?_,y _ _ _ a (zn.putObj _ (by simp at h;omega) c rfl)⟩⟩;rw[zc3];rwa [ji]at f
 ·obtain⟨i,_,rfl⟩:=qP.1 g;rfl
end

section
open Go.RowKit
variable {P:Program}{Q:Exit->Act->H->Prop}{a:Act}{l n:Nat}{ops:Array Oper}{w:H}
theorem zlD{row:String}{args:W_}{w:H}{R a:Value->H->Prop}(h:Rows P row args w R)(b:∀v w,R v w->a v w):RowsIn (Fence.wide.inRound l) n P row args w a:=by
 intro c cs _;have⟨v,a,r,s⟩:=h c cs;exact⟨v,a,b v a r,stepsIn_wide.2 s⟩
theorem zhj{o:Oper}{a:Act}{K K':Act->H->Prop}(hK:∀a w,K a w->K' a w){r:Result Next}(h:o.upon P a K Q r):o.uponIn (Fence.wide.inRound l) n P a K' Q r:=by
 unfold Oper.upon at h;split at h
 ·exact hK _ _ h
 ·exact hK _ _ h
 ·exact hK _ _ h
 ·refine⟨(fun h=>by cases h),Zq l (zq.2 (h.mono ?_))⟩;rintro e w' he;cases e with
  |returned v=>exact hK _ _ he
  |panicked c=>exact he
  |outgrown=>exact he
 ·exact⟨(fun h=>by cases h),zlD h (fun _ _ h=>hK _ _ h)⟩
 ·exact h
 ·exact h.elim
theorem zlE{ops:Array Oper}{i:Nat}{K d:Act->H->Prop}{a:Act}{w:H}(f:∀o∈ops.toList,∀c,o.op≠ .defer c)(e:¬LetsOut Q)(b:∀a w,K a w->d a w)(h:wpOp P ops Q i K a w):wpOpIn (Fence.wide.inRound l) n P ops Q i d a w:=by
 unfold wpOp at h;unfold wpOpIn;cases ho:ops[i]? with
 |none=>rw[ho]at h;exact b _ _ h
 |some o=>
  rw[ho]at h;simp only at h⊢;have hm:o∈ops.toList:=by
   rw[<-jz]at ho;exact zx ho
  split
  ·rename_i d
   rw[zQ d]at h;rcases h with h|h
   ·refine⟨fun _ _=>trivial,?_⟩;rw[Oper.semAt_eq _ _ _ (f o hm)];exact zhj b h
   ·exact absurd h.2 e
  ·rename_i d
   rw[zO d]at h;exact⟨fun _ _=>trivial,b _ _ h⟩
theorem zdc{md:Region.Mode}{ops:Array Oper}(e:∀o∈ops.toList,∀c,o.op≠ .defer c)(d:¬LetsOut Q):∀(b:Nat) (f:Array Bool) (a:Act) (w:H),wpAny P md ops Q b f a w->wpAnyIn (Fence.wide.inRound l) n P md ops Q b f a w
 |0,_,_,_,h=>h
 |b+1,_,_,_,h=>⟨h.1,fun i hi=>zlE e d (fun a w h=>zdc e d b _ a w h) (h.2 i hi)⟩
theorem jK{id:Nat}{S:H->Prop}(hm:P.follows .mixedOrders=true)(e:ops.toList.all (fun o=>match o.op with|.defer _=>false|_=>true)=true)(b:¬LetsOut Q)(c:S w.drew)(h:S w.drew->wpAnyH P .any ops Q S ops.size (Array.replicate ops.size false) a w.drew):(Code.region id ops true).wpIn (Fence.wide.inRound l) n P Q a w:=by
 refine jX hm (zdc (fun o f d d=>?_) b _ _ _ _ (zb5 _ _ _ _ (h c)));have:=Zi.1 e o f;rw[d]at this;cases this
theorem zn.fresh{B:Nat}{A X:H}(h:zn B A X){g:Nat}(hg:A.heap.size<=g)(i:Nat)(v:Value):zn B A (X.setCell (Xd g i O) v):=
 ⟨h.os,h.tape,h.output,by simpa using h.size,fun k o a b=>by
  have c:=(zd.1 a).1;rw[qC _ _ _ _ so];exact h.block k o a b⟩
def zeg (md:Region.Mode)(ops:Array Oper)(L:Nat):Bool:=
 (L+1 == ops.size)&&((List.range ops.size).all fun i=>((ops[i]?).map fun o=>o.after.all fun e=>decide (e.on<i)).getD false) &&
  (List.range L).all fun j=>((ops[L]?).map fun o=>o.after.any fun e=>Region.binds md e&&e.on == j).getD false
def zhW (P:Program)(ops:Array Oper)(Q:Exit->Act->H->Prop)(L:Nat):Exit->Act->H->Prop
 |.normal,a,w=>wpOp P ops Q L (fun a w=>Q .normal a w) a w
 |e,a,w=>Q e a w
section

variable {P:Program} {ops:Array Oper} {Q:Exit->Act->World->Prop} {md:Region.Mode} {L:Nat}
theorem zb6 (h:zeg md ops L=true):L+1=ops.size/\(∀(i:Nat) (o:Oper),ops[i]? =E o->∀e∈o.after.toList,e.on<i)/\(∀o:Oper,ops[L]? =E o->∀j,j<L->∃e∈o.after.toList,Region.binds md e=true/\e.on=j):=by
 unfold zeg at h;rw[Qj,Qj]at h;have⟨⟨a,c⟩,d⟩:=h;refine⟨by simpa using a,fun i o a e b=>?_,fun o a j g=>?_⟩
 ·have f:=(zd.1 a).1;have:=Zi.1 c i (Z8.2 f);rw[a]at this;simp only[qY,qB]at this;rw[<-zdl]at this;simpa using Zi.1 this e b
 ·have:=Zi.1 d j (Z8.2 g);rw[a]at this;simp only[qY,qB]at this;rw[<-Array.any_toList]at this;have⟨e,b,a⟩:=QR.1 this;rw[Qj]at a;exact⟨e,b,a.1,by simpa using a.2⟩
theorem zaE {a:Array Bool}{i j:Nat}(d:Bool)(h:i≠j):(a.setIfInBounds i true).getD j d=a.getD j d:=by
 simp only[Zw,Array.getElem?_setIfInBounds_ne h]
theorem zfM {a:Array Bool}{i:Nat}(hi:i<a.size)(d:Bool):(a.setIfInBounds i true).getD i d=true:=by
 simp[Zw,Array.getElem?_setIfInBounds_self_of_lt hi]
theorem mem_ready {a:Array Bool}{i:Nat}:i∈Region.ready md ops a↔i<ops.size/\a.getD i true=false/\∃o,ops[i]? =E o/\∀e∈o.after.toList,Region.binds md e=true->a.getD e.on false=true:=by
 unfold Region.ready;rw[ZF,Z8];constructor
 ·rintro⟨b,c⟩;rw[Qj]at c;refine⟨b,by simpa using c.1,ops[i],qD b,fun e f d=>?_⟩;have a:=c.2;rw[qD b]at a;simp only[qY,qB]at a;rw[<-zdl]at a;have:=Zi.1 a e f;rw[d]at this;simpa using this
 ·rintro⟨b,c,o,g,a⟩;refine⟨b,?_⟩;rw[c,g];simp only[qY,qB,Bool.not_false,zaT];rw[<-zdl,Zi];intro e f;cases d:Region.binds md e with
  |false=>rfl
  |true=>rw[a e f d];rfl
theorem zgf {a:Array Bool}{j:Nat}(h:a.getD j true=false):a.getD j false=false:=by
 rw[Zw]at *;cases hj:a[j]? with
 |none=>rw[hj]at h;cases h
 |some b=>rw[hj]at h;exact h
theorem zhX {a:Array Bool}{j:Nat}(b:j<a.size)(h:¬a.getD j true=false):a.getD j false=true:=by
 rw[Zw,qD b]at *;simpa using h
theorem zkr {a:Array Bool}(b:zeg md ops L=true)(hs:a.size=ops.size){j:Nat}(g:j<L)(p:a.getD j true=false):Region.ready md ops (a.setIfInBounds L true)=Region.ready md ops a:=by
 have⟨_,k,f⟩:=zb6 b;have l:∀i,i∈Region.ready md ops (a.setIfInBounds L true)↔i∈Region.ready md ops a:=by
  intro i;rw[mem_ready,mem_ready];by_cases d:i=L
  ·subst d;constructor
   ·rintro⟨_,h,_⟩;rw[zfM om]at h;cases h
   ·rintro⟨_,_,o,a,h⟩;have⟨e,b,c,m⟩:=f o a j g;have:=h e b c;rw[m,zgf p]at this;cases this
  ·constructor
   ·rintro⟨g,f,o,a,h⟩;rw[zaE _ (Qr d)]at f;refine⟨g,f,o,a,fun e b c=>?_⟩;have:=h e b c;rwa [zaE _ (by have:=k i o a e b;have:=(zd.1 a).1;omega)]at this
   ·rintro⟨g,f,o,a,h⟩;refine⟨g,by rw[zaE _ (Qr d)];exact f,o,a,fun e b c=>?_⟩;rw[zaE _ (by have:=k i o a e b;have:=(zd.1 a).1;omega)];exact h e b c
 unfold Region.ready at l⊢;refine List.filter_congr fun i d=>?_
 have:=l i;rw[ZF,ZF]at this;simp only[d,true_and]at this;exact zcr.2 this
theorem ze3 {listed:Array Bool}(hc:zeg md ops L=true)(hs:listed.size=ops.size):∀(j:Nat),j<ops.size->listed.getD j true=false->Region.ready md ops listed≠ []:=by
 have⟨c1,c2,c3⟩:=zb6 hc;intro j;induction j using Nat.strongRecOn with
 |ind j ih=>
  intro hj hu;by_cases hex:∃i,i<j/\listed.getD i true=false
  ·have⟨i,hi,hiu⟩:=hex;exact ih i hi om hiu
  ·refine zeJ (mem_ready.2 ⟨hj,hu,ops[j],qD hj,fun e he _=>?_⟩);have hlt:=c2 j _ (qD hj) e he;exact zhX om (fun h=>hex ⟨e.on,hlt,h⟩)
theorem upon_q {o:Oper}{a:Act}{K K':Act->H->Prop}(hK:∀a w,K a w->K' a w){r:Result Next}(h:o.upon P a K (zhW P ops Q L) r):o.upon P a K' Q r:=by
 unfold Oper.upon at h⊢;split at h
 ·exact hK _ _ h
 ·exact hK _ _ h
 ·exact hK _ _ h
 ·apply h.mono;rintro e w' he;cases e with
  |returned v=>exact hK _ _ he
  |panicked c=>exact he
  |outgrown=>exact he
 ·exact h.mono (fun _ _ h=>hK _ _ h)
 ·exact h
 ·exact h.elim
theorem wpOp_q {i:Nat}{a:Act}{w:H}{K c:Act->H->Prop}(b:∀a w,K a w->c a w)(h:wpOp P ops (zhW P ops Q L) i K a w):wpOp P ops Q i c a w:=by
 unfold wpOp at h⊢;cases ho:ops[i]? with
 |none=>rw[ho]at h;exact b _ _ h
 |some o=>
  rw[ho]at h;simp only at h⊢;split
  ·rename_i c
   rw[zQ c]at h;rcases h with h|⟨d,a,w,e⟩
   ·exact .inl (upon_q b h)
   ·exact .inr ⟨d,a,w,e⟩
  ·rename_i c
   rw[zO c]at h;exact b _ _ h
theorem zi2 (f:zeg md ops L=true):∀(l:Nat) (b:Array Bool) (a:Act) (w:H),b.size=ops.size->b.getD L true=false->wpAny P md ops (zhW P ops Q L) l (b.setIfInBounds L true) a w->wpAny P md ops Q (l+1) b a w:=by
 have⟨_,_,_⟩:=zb6 f;intro l;induction l with
 |zero=>
  intro b a w e p h;by_cases k:∃j,j<L/\b.getD j true=false
  ·have⟨j,s,o⟩:=k;exact absurd (by rw[<-zkr f e s o];exact h.1) (ze3 f e j om o)
  ·have r:=h.1;have t:wpOp P ops Q L _ a w:=h.2;refine⟨fun m=>absurd m (ze3 f e L om p),fun i g=>?_⟩;have⟨u,d,A,y,v⟩:=mem_ready.1 g;have c:i=L:=Ze fun x=>k ⟨i,om,d⟩
   subst c;exact wpOp_mono (fun a w q=>⟨r,q⟩) t
 |succ l z=>
  intro b a w e p h;by_cases k:∃j,j<L/\b.getD j true=false
  ·have⟨j,s,o⟩:=k;have l:=zkr f e s o;refine⟨fun m=>absurd m (ze3 f e j om o),fun i g=>?_⟩;have j:i∈Region.ready md ops (b.setIfInBounds L true):=by rw[l];exact g
   have c:i≠L:=by
    rintro rfl;have:=(mem_ready.1 j).2.1;rw[zfM om]at this;cases this
   refine wpOp_q (fun a w q=>z _ a w (by rw[zaF];exact e) (by rw[zaE _ c];exact p) ?_) (h.2 i j);rw[Array.setIfInBounds_comm true true c];exact q
  ·have j:∀i,i∈Region.ready md ops (b.setIfInBounds L true)->False:=by
    intro i g;have⟨u,d,_⟩:=mem_ready.1 g;by_cases c:i=L
    ·subst c;rw[zfM om]at d;cases d
    ·rw[zaE _ (Qr c)]at d;exact k ⟨i,om,d⟩
   have r:=za0.2 j;have t:wpOp P ops Q L _ a w:=h.1 r;refine⟨fun m=>absurd m (ze3 f e L om p),fun i g=>?_⟩;have⟨u,d,A,y,v⟩:=mem_ready.1 g;have c:i=L:=Ze fun x=>k ⟨i,om,d⟩
   subst c;refine wpOp_mono (fun a w q=>⟨fun _=>q,fun k b=>?_⟩) t;rw[r]at b;cases b
theorem zbP {a:Act}{w:H}{o:Oper}(ho:ops.toList[L]? =E o:=by rfl)(hg:Region.wanted o (yielded ops a.tmps)=true:=by rfl)(h:o.wp P a w (fun a w=>Q .normal a w) Q):zhW P ops Q L .normal a w:=by
 show wpOp P ops Q L (fun a w=>Q .normal a w) a w
 unfold wpOp;rw[<-jz,ho];simp only;rw[zQ hg];exact .inl h
theorem zav {n l id:Nat}{S:World->Prop}{a:Act}{w:World}(L:Nat)(hm:P.follows .mixedOrders=true)(hnd:ops.toList.all (fun o=>match o.op with|.defer _=>false|_=>true)=true)(hQ:¬LetsOut Q)
 (hS:S w.drew) (hcl:zeg .any ops L=true:=by kernel_rfl) (h:S w.drew->wpAnyH P .any ops (zhW P ops Q L) S L ((Array.replicate ops.size false).setIfInBounds L true) a w.drew):(Code.region id ops true).wpIn (Fence.wide.inRound l) n P Q a w:=by
 refine jX hm (zdc (fun o ho c hc=>?_) hQ _ _ _ _ ?_)
 ·have:=Zi.1 hnd o ho;rw[hc]at this;cases this
 ·have e:=(zb6 hcl).1;rw[<-e];apply zi2 hcl L _ _ _ (by rw[JB,e]) (by simp[Zw]);have:=zb5 _ _ _ _ (h hS);rwa [<-e]at this
end

end

section
open Go.RowKit
def zdt (md:Region.Mode)(ops:Array Oper)(L:Nat):Bool:=
 decide (L<ops.size)&&((List.range ops.size).all fun i=>((ops[i]?).map fun o=>o.after.all fun e=>decide (e.on<i)).getD false) &&
  ((List.range L).all fun j=>(List.range (L+1)).any fun c=>((ops[c]?).map fun o=>o.after.any fun e=>Region.binds md e&&e.on == j).getD false) &&
  (List.range ops.size).all fun i=>decide (i<=L)||((ops[i]?).map fun o=>o.after.any fun e=>Region.binds md e&&e.on+1 == i).getD false
def zdL (F:Fence)(n:Nat)(P:Program)(ops:Array Oper)(Q:Exit->Act->H->Prop)(L:Nat):Exit->Act->H->Prop
 |.normal,a,w=>wpOpsIn F n P ops Q (List.range' L (ops.size-L)) a w
 |e,a,w=>Q e a w
section

variable {F:Fence} {n:Nat} {P:Program} {ops:Array Oper} {Q:Exit->Act->World->Prop} {md:Region.Mode} {L:Nat}
theorem zks {o:Oper}{p:Edge->Bool}(h:o.after.any p=true):∃e∈o.after.toList,p e=true:=by
 rw[<-Array.any_toList]at h;exact QR.1 h
theorem zaU (h:zdt md ops L=true):L<ops.size/\(∀(i:Nat) (o:Oper),ops[i]? =E o->∀e∈o.after.toList,e.on<i)/\(∀j,j<L->∃c o,c<=L/\ops[c]? =E o/\∃e∈o.after.toList,Region.binds md e=true/\e.on=j)/\(∀(i:Nat) (o:Oper),ops[i]? =E o->L<i->∃e∈o.after.toList,Region.binds md e=true/\e.on+1=i):=by
 unfold zdt at h;rw[Qj,Qj,Qj]at h;have⟨⟨⟨a,b⟩,k⟩,l⟩:=h;refine⟨by simpa using a,fun i o a e f=>?_,fun j p=>?_,fun i o a g=>?_⟩
 ·have g:=(zd.1 a).1;have:=Zi.1 b i (Z8.2 g);rw[a]at this;simp only[qY,qB]at this;rw[<-zdl]at this;simpa using Zi.1 this e f
 ·have⟨c,m,d⟩:=QR.1 (Zi.1 k j (Z8.2 p));cases a:ops[c]? with
  |none=>rw[a]at d;cases d
  |some o=>
   rw[a]at d;simp only[qY,qB]at d;have⟨e,f,b⟩:=zks d;rw[Qj]at b;exact⟨c,o,by have:=Z8.1 m;omega,a,e,f,b.1,by simpa using b.2⟩
 ·have d:=(zd.1 a).1;have:=Zi.1 l i (Z8.2 d);rw[Bool.or_eq_true,a]at this;rcases this with h|h
  ·exact absurd (by simpa using h) (Nat.not_le.2 g)
  ·simp only[qY,qB]at h;have⟨e,f,b⟩:=zks h;rw[Qj]at b;exact⟨e,f,b.1,by simpa using b.2⟩
def Shut (md:Region.Mode)(ops:Array Oper)(listed:Array Bool):Prop:=∀(i:Nat) (o:Oper),ops[i]? =E o->listed.getD i false=true->∀e∈o.after.toList,Region.binds md e=true->listed.getD e.on false=true
theorem zqj {b:Array Bool}(h:Shut md ops b){i:Nat}(hi:i∈Region.ready md ops b):Shut md ops (b.setIfInBounds i true):=by
 obtain⟨_,k,_,m,l⟩:=mem_ready.1 hi;intro j o c g e f d;have a:b.getD e.on false=true:=by
  by_cases b:j=i
  ·subst b;rw[m]at c;cases c;exact l e f d
  ·rw[zaE _ (Qr b)]at g;exact h j o c g e f d
 by_cases b:e.on=i
 ·rw[b]at a;rw[zgf k]at a;cases a
 ·rw[zaE _ (Qr b)];exact a
def zbQ (L:Nat)(listed:Array Bool):Array Bool:=listed.mapIdx fun i b=>b||decide (L<=i)
theorem zfq {a:Array Bool}{i:Nat}(hi:i<L)(d:Bool):(zbQ L a).getD i d=a.getD i d:=by
 unfold zbQ;simp only[Zw,zdu];cases a[i]? with
 |none=>rfl
 |some b=>simp[Nat.not_le.2 hi]
theorem ziy {a:Array Bool}{i:Nat}(hi:L<=i)(hs:i<a.size)(d:Bool):(zbQ L a).getD i d=true:=by
 unfold zbQ;simp only[Zw,zdu,qD hs];simp[hi]
theorem zoq {a:Array Bool}{i:Nat}(hi:i<L):(zbQ L a).setIfInBounds i true=zbQ L (a.setIfInBounds i true):=by
 unfold zbQ;refine Array.ext_getElem? fun j=>?_
 simp only[zdu,Array.getElem?_setIfInBounds];by_cases b:i=j
 ·subst b;by_cases c:i<a.size
  ·simp[c]
  ·simp[c]
 ·simp[b]
theorem zor (hc:zdt md ops L=true){listed:Array Bool}(hsh:Shut md ops listed){o:Oper}(ho:ops[L]? =E o)(hr:∀e∈o.after.toList,Region.binds md e=true->listed.getD e.on false=true):∀(d j:Nat),L-j=d->j<L->listed.getD j false=true:=by
 have⟨c1,c2,c3,c4⟩:=zaU hc;intro d;induction d using Nat.strongRecOn with
 |ind d ih=>
  intro j hd hj;have⟨c,oc,hcL,hoc,e,he,hb,hon⟩:=c3 j hj;have hlt:=c2 c oc hoc e he;by_cases hce:c=L
  ·subst hce;rw[ho]at hoc;cases hoc;rw[<-hon];exact hr e he hb
  ·rw[<-hon];exact hsh c oc hoc (ih (L-c) om c rfl om) e he hb
theorem zi3 (b:zdt md ops L=true){a:Array Bool}(hs:a.size=ops.size)(l:Shut md ops a)(f:∀j,L<=j->j<ops.size->a.getD j true=false){j:Nat}(e:j<L)(p:a.getD j true=false):Region.ready md ops (zbQ L a)=Region.ready md ops a:=by
 have⟨_,k,_,d⟩:=zaU b;have m:∀i,i∈Region.ready md ops (zbQ L a)↔i∈Region.ready md ops a:=by
  intro i;rw[mem_ready,mem_ready];by_cases g:L<=i
  ·constructor
   ·rintro⟨a,h,_⟩;rw[ziy g om]at h;cases h
   ·rintro⟨a,_,o,a,h⟩;by_cases c:i=L
    ·subst c;have:=zor b l a h _ j rfl e;rw[zgf p]at this;cases this
    ·have⟨e,b,c,_⟩:=d i o a om;have:=h e b c;rw[zgf (f e.on om om)]at this;cases this
  ·have l:i<L:=om;constructor
   ·rintro⟨f,d,o,a,h⟩;rw[zfq l]at d;refine⟨f,d,o,a,fun e b c=>?_⟩;have:=h e b c;rwa [zfq (by have:=k i o a e b;omega)]at this
   ·rintro⟨f,d,o,a,h⟩;refine⟨f,by rw[zfq l];exact d,o,a,fun e b c=>?_⟩;rw[zfq (by have:=k i o a e b;omega)];exact h e b c
 unfold Region.ready at m⊢;refine List.filter_congr fun i g=>?_
 have:=m i;rw[ZF,ZF]at this;simp only[g,true_and]at this;exact zcr.2 this
theorem zqk {o:Oper}{a:Act}{K K':Act->H->Prop}(hK:∀a w,K a w->K' a w){r:Result Next}(h:o.uponIn F n P a K (zdL F n P ops Q L) r):o.uponIn F n P a K' Q r:=by
 unfold Oper.uponIn at h⊢;split at h
 ·exact hK _ _ h
 ·exact hK _ _ h
 ·exact hK _ _ h
 ·refine⟨h.1,h.2.mono ?_⟩;rintro e w' he;cases e with
  |returned v=>exact hK _ _ he
  |panicked c=>exact he
  |outgrown=>exact he
 ·exact⟨h.1,h.2.mono (fun _ _ h=>hK _ _ h)⟩
 ·refine⟨h.1,h.2.mono ?_⟩;rintro e w' he;cases e with
  |returned v=>exact hK _ _ he
  |panicked c=>exact he
  |outgrown=>exact he
 ·exact h
 ·exact h.elim
theorem zql {i:Nat}{a:Act}{w:H}{K c:Act->H->Prop}(b:∀a w,K a w->c a w)(h:wpOpIn F n P ops (zdL F n P ops Q L) i K a w):wpOpIn F n P ops Q i c a w:=by
 unfold wpOpIn at h⊢;cases ho:ops[i]? with
 |none=>rw[ho]at h;exact b _ _ h
 |some o=>
  rw[ho]at h;simp only at h⊢;split
  ·rename_i c
   rw[zQ c]at h;exact⟨h.1,zqk b h.2⟩
  ·rename_i c
   rw[zO c]at h;exact⟨h.1,b _ _ h.2⟩
theorem zqm (e:zdt md ops L=true):∀(d m c:Nat) (b:Array Bool) (a:Act) (w:H),ops.size-m=d->L<=m->m<=ops.size->b.size=ops.size->(∀j,j<m->b.getD j true=true)->(∀j,m<=j->j<ops.size->b.getD j true=false)->wpOpsIn F n P ops Q (List.range' m (ops.size-m)) a w->wpAnyIn F n P md ops Q (c+d) b a w:=by
 have⟨_,r,_,s⟩:=zaU e;intro d;induction d with
 |zero=>
  intro m c b a w o p hm q f k h;have l:Region.ready md ops b= []:=za0.2 fun i e=>by
   have⟨u,g,_⟩:=mem_ready.1 e;rw[f i om]at g;cases g
  rw[o]at h;cases c with
  |zero=>exact⟨l,h⟩
  |succ c=>exact⟨fun _=>h,fun i e=>by rw[l]at e;cases e⟩
 |succ d t=>
  intro m c b a w o p hm q f k h;have l:m<ops.size:=om;rw[o,List.range'_succ,wpOpsIn_cons]at h;refine⟨fun p=>?_,fun i e=>?_⟩
  ·have:m∈Region.ready md ops b:=mem_ready.2 ⟨l,k m (zh _) l,ops[m],qD l,fun b o _=>?_⟩
   ·rw[p]at this;cases this
   ·have p:=r m _ (qD l) b o;exact zhX om (by rw[f _ p];simp)
  ·obtain⟨u,g,v,r,u⟩:=mem_ready.1 e;have l:i=m:=by
    refine Ze fun e=>?_
    by_cases p:i<m
    ·rw[f i p]at g;cases g
    ·have⟨b,o,e,_⟩:=s i v r om;have:=u b o e;rw[zgf (k b.on om om)]at this;cases this
   subst l;have b:ops.size-(i+1)=d:=om;refine wpOpIn_mono (fun a w g=>t (i+1) c _ a w b om om (by rw[zaF];exact q) (fun j c=>?_) (fun j c e=>?_) ?_) h
   ·by_cases c:j=i
    ·subst c;exact zfM om _
    ·rw[zaE _ (Qr c)];exact f j om
   ·rw[zaE _ om];exact k j om e
   ·rw[b];exact g
theorem zhk (hc:zdt md ops L=true):∀(fuel:Nat) (listed:Array Bool) (a:Act) (w:H),listed.size=ops.size->Shut md ops listed->(∀j,L<=j->j<ops.size->listed.getD j true=false)->wpAnyIn F n P md ops (zdL F n P ops Q L) fuel (zbQ L listed) a w->wpAnyIn F n P md ops Q (fuel+(ops.size-L)) listed a w:=by
 have⟨c1,c2,c3,c4⟩:=zaU hc;have hend:∀fuel (listed:Array Bool) (a:Act) (w:H),listed.size=ops.size->(∀j,L<=j->j<ops.size->listed.getD j true=false)->(¬∃j,j<L/\listed.getD j true=false)->wpAnyIn F n P md ops (zdL F n P ops Q L) fuel (zbQ L listed) a w->wpAnyIn F n P md ops Q (fuel+(ops.size-L)) listed a w:=by
  intro fuel listed a w hs hL hu h;have hr:Region.ready md ops (zbQ L listed)= []:=za0.2 fun i hi=>by
   have⟨k1,k2,_⟩:=mem_ready.1 hi;by_cases hi2:L<=i
   ·rw[ziy hi2 om]at k2;cases k2
   ·rw[zfq om]at k2;exact hu ⟨i,om,k2⟩
  have hq:zdL F n P ops Q L .normal a w:=by
   cases fuel with
   |zero=>exact h.2
   |succ fuel=>exact h.1 hr
  refine zqm hc _ L fuel listed a w rfl (zh _) om hs (fun j hj=>?_) hL hq;cases hj2:listed.getD j true with
  |false=>exact absurd ⟨j,hj,hj2⟩ hu
  |true=>rfl
 intro fuel;induction fuel with
 |zero=>
  intro listed a w hs hsh hL h;by_cases hu:∃j,j<L/\listed.getD j true=false
  ·have⟨j,hj,hju⟩:=hu;have hr0:Region.ready md ops listed= []:=by rw[<-zi3 hc hs hsh hL hj hju];exact h.1
   exfalso
   have hsome:∀j,j<ops.size->listed.getD j true=false->Region.ready md ops listed≠ []:=by
    intro j;induction j using Nat.strongRecOn with
    |ind j ih=>
     intro hj hu;by_cases hex:∃i,i<j/\listed.getD i true=false
     ·have⟨i,hi,hiu⟩:=hex;exact ih i hi om hiu
     ·refine zeJ (mem_ready.2 ⟨hj,hu,ops[j],qD hj,fun e he _=>?_⟩);have hlt:=c2 j _ (qD hj) e he;exact zhX om (fun h=>hex ⟨e.on,hlt,h⟩)
   exact hsome j om hju hr0
  ·exact hend 0 listed a w hs hL hu h
 |succ fuel ih=>
  intro listed a w hs hsh hL h;by_cases hu:∃j,j<L/\listed.getD j true=false
  ·have⟨j,hj,hju⟩:=hu;have hr:=zi3 hc hs hsh hL hj hju;have hsome:∀j,j<ops.size->listed.getD j true=false->Region.ready md ops listed≠ []:=by
    intro j;induction j using Nat.strongRecOn with
    |ind j ih=>
     intro hj hu;by_cases hex:∃i,i<j/\listed.getD i true=false
     ·have⟨i,hi,hiu⟩:=hex;exact ih i hi om hiu
     ·refine zeJ (mem_ready.2 ⟨hj,hu,ops[j],qD hj,fun e he _=>?_⟩);have hlt:=c2 j _ (qD hj) e he;exact zhX om (fun h=>hex ⟨e.on,hlt,h⟩)
   have e2:fuel+1+(ops.size-L)=fuel+(ops.size-L)+1:=om;rw[e2];refine⟨fun h0=>absurd h0 (hsome j om hju),fun i hi=>?_⟩;have hi':i∈Region.ready md ops (zbQ L listed):=by rw[hr];exact hi
   have hiL:i<L:=by
    refine Ze fun hne=>?_
    have:=(mem_ready.1 hi').2.1;rw[ziy om (by have:=(mem_ready.1 hi').1;omega)]at this;cases this
   refine zql (fun a w q=>ih _ a w (by rw[zaF];exact hs) (zqj hsh hi) (fun j hj hjs=>by rw[zaE _ om];exact hL j hj hjs) ?_) (h.2 i hi');rw[<-zoq hiL];exact q
  ·exact hend (fuel+1) listed a w hs hL hu h
theorem zdM {n l id:Nat}{S:World->Prop}{a:Act}{w:World}(L:Nat)(hm:P.follows .mixedOrders=true)(hnd:ops.toList.all (fun o=>match o.op with|.defer _=>false|_=>true)=true)(hQ:¬LetsOut Q)
 (hS:S w.drew) (hcl:zdt .any ops L=true:=by kernel_rfl) (h:S w.drew->wpAnyH P .any ops (zdL (Fence.wide.inRound l) n P ops Q L) S L (zbQ L (Array.replicate ops.size false)) a w.drew):(Code.region id ops true).wpIn (Fence.wide.inRound l) n P Q a w:=by
 have e:=(zaU hcl).1;have e2:L+(ops.size-L)=ops.size:=by omega
 apply jX hm;rw[<-e2];have hall:∀j,L<=j->j<ops.size->(Array.replicate ops.size false).getD j true=false:=fun j _ hj=>by simp[Zw,hj]
 have:=zhk hcl L (Array.replicate ops.size false) a w.drew (by simp) (fun i o ho hl=>?_) hall (zdc (fun o ho c hc=>?_) ?_ _ _ _ _ (zb5 _ _ _ _ (h hS)))
 ·rw[e2]at this⊢;exact this
 ·have hi:=(zd.1 ho).1;simp[Zw,hi]at hl
 ·have:=Zi.1 hnd o ho;rw[hc]at this;cases this
 ·rintro⟨a,w,h⟩;exact hQ ⟨a,w,h⟩
end

end

section
open Go.RowKit
variable {P:Program}{Q:Exit->Act->H->Prop}{n:Nat}
theorem zmr{o:Oper}{a:Act}{K K':Act->H->Prop}(hK:∀a w,K a w->K' a w){r:Result Next}(h:o.upon P a K Q r):o.uponIn Fence.wide n P a K' Q r:=by
 unfold Oper.upon at h;split at h
 ·exact hK _ _ h
 ·exact hK _ _ h
 ·exact hK _ _ h
 ·refine⟨(fun h=>by cases h),zq.2 (h.mono ?_)⟩;rintro e w' he;cases e with
  |returned v=>exact hK _ _ he
  |panicked c=>exact he
  |outgrown=>exact he
 ·refine⟨(fun h=>by cases h),fun c cs _=>?_⟩;have⟨v,w',r,s⟩:=h c cs;exact⟨v,w',hK _ _ r,stepsIn_wide.2 s⟩
 ·exact h
 ·exact h.elim
theorem zms{ops:Array Oper}{i:Nat}{K c:Act->H->Prop}{a:Act}{w:H}(d:¬LetsOut Q)(b:∀a w,K a w->c a w)(h:wpOp P ops Q i K a w):wpOpIn Fence.wide n P ops Q i c a w:=by
 unfold wpOp at h;unfold wpOpIn;cases ho:ops[i]? with
 |none=>rw[ho]at h;exact b _ _ h
 |some o=>
  rw[ho]at h;simp only at h⊢;split
  ·rename_i c
   rw[zQ c]at h;rcases h with h|h
   ·refine⟨fun _ _=>trivial,?_⟩;rw[show Fence.wide.round=O from rfl,Oper.semAt_none];exact zmr b h
   ·exact absurd h.2 d
  ·rename_i c
   rw[zO c]at h;exact⟨fun _ _=>trivial,b _ _ h⟩
theorem zdN{md:Region.Mode}{ops:Array Oper}(c:¬LetsOut Q):∀(b:Nat) (d:Array Bool) (a:Act) (w:H),wpAny P md ops Q b d a w->wpAnyIn Fence.wide n P md ops Q b d a w
 |0,_,_,_,h=>h
 |b+1,_,_,_,h=>⟨h.1,fun i hi=>zms c (fun a w h=>zdN c b _ a w h) (h.2 i hi)⟩
section

variable {P:Program} {ops:Array Oper} {Q:Exit->Act->World->Prop}
theorem onlyN:¬LetsOut (fun e a w=>e=Exit.normal/\Q .normal a w):=by
 rintro⟨a,w,h,-⟩;cases h
theorem Jc {n id:Nat}{S:H->Prop}{a:Act}{w:H}(hm:P.follows .mixedOrders=true)
 (b:S w.drew) (h:S w.drew->wpAnyH P .any ops (fun e a w=>e= .normal/\Q .normal a w) S ops.size (Array.replicate ops.size false) a w.drew):(Code.region id ops true).wpIn Fence.wide n P Q a w:=by
 apply zbI (jX hm (zdN onlyN _ _ _ _ (zb5 _ _ _ _ (h b))));rintro e b b ⟨rfl,h⟩;exact h
theorem zlF {n id:Nat}{S:World->Prop}{a:Act}{w:World}(L:Nat)(hm:P.follows .mixedOrders=true)
 (hS:S w.drew) (hcl:zeg .any ops L=true:=by kernel_rfl) (h:S w.drew->wpAnyH P .any ops (zhW P ops (fun e a w=>e= .normal/\Q .normal a w) L) S L ((Array.replicate ops.size false).setIfInBounds L true) a w.drew):(Code.region id ops true).wpIn Fence.wide n P Q a w:=by
 refine zbI (jX (Q:=fun e a w=>e= .normal/\Q .normal a w) hm (zdN onlyN _ _ _ _ ?_)) ?_
 ·have e:=(zb6 hcl).1;rw[<-e];apply zi2 hcl L _ _ _ (by rw[JB,e]) (by simp[Zw]);have:=zb5 _ _ _ _ (h hS);rwa [<-e]at this
 ·rintro e a' w' ⟨rfl,h⟩;exact h
