import Derived.Test.YtfbkaflfnjinaaaGreatDoorSor1Z0
import Derived.Test.YtfbkaflfnjinaaaGreatDoorSor1ZS
open Option renaming none->O,some->E
open Go.Value renaming slice->V,bool->G,string->gS,tuple->tp,int->it
open Go.Obj renaming cells->cl
open Go renaming World->H
open Go.Proofs.Tryz renaming prog->pg
open Go.Proofs.Tryz
open Go.Ending renaming returned->Xa
open Go.IntKind renaming i64->Xb
open Go.Addr renaming mk->Xd
set_option linter.unusedSimpArgs false
set_option linter.unusedVariables false
set_option maxHeartbeats 2000000
set_option maxRecDepth 100000
open List renaming replicate->kaf
open Go.Fence renaming wide->kak
open Go.Region renaming wanted->kao,ready->kan
namespace Go.Proofs.YtfbkaflfnjinaaaGreatDoor
open Go.RowKit
section
variable {B D Z b base c cap d e f g high j k l lead m n off q r u z:Nat}{C:H->Prop}{L a ds es:N_}{P:Program}{Q:Exit->Act->H->Prop}{W w w':H}{Y:Nat->W_->H->Prop}{h i:Code}{o:Oper}{ops:Array Oper}{p:Addr}{rest:List Oper}{v:Value}
def val:N_->Nat
 |[]=>0
 |d::ds=>d+4294967296*val ds
def gT (ds:N_):Prop:=∀d∈ds,d<4294967296
def nJ (ds:N_):Prop:=∀k,ds.length=k+1->ds.getD k 0≠0
theorem gT.cons(h:gT (d::ds)):d<4294967296/\gT ds:=⟨h d<|qA ..,λx a=>h x<|qq _ a⟩
theorem gT.get(h:gT ds)(i):ds.getD i 0<4294967296:=by by_cases a:i<ds.length;{rw[zk,zg a,qB];exact h _<|zJ a};grind
theorem gT.set(h:gT ds)(i x)(a:x<4294967296):gT (ds.set i x):=by intro d a;rcases Nj a with a|a;{exact h d a};omega
theorem gT.take(h:gT ds)(n):gT (ds.take n):=λd a=>h d (ZY a)
theorem gT.drop(h:gT ds)(n):gT (ds.drop n):=λd a=>h d (My a)
theorem gT.append{b}(h:gT a)(k:gT b):gT (a++b):=λd c=>by rcases zU.1 c with c|c;{exact h d c};exact k d c
theorem fU(a b):val (a++b)=val a+4294967296^a.length*val b:=by induction a with |nil=>simp[val] |cons d c d=>simp only[ZZ,val,qi,d,Zv,Zs];grind
theorem gg(h:gT ds):val ds<4294967296^ds.length:=by induction ds with |nil=>simp[val] |cons d ds a=>have b:=h.cons.1;have b:=a h.cons.2;simp only[val,qi,Zv];omega
theorem rq(n):val (kaf n 0)=0:=by induction n with |zero=>rfl |succ n a=>simp[List.replicate_succ,val,a]
def Jr (ds:N_):Nat->Nat
 |0=>0
 |k+1=>if ds.getD k 0=0 then Jr ds k else k+1
theorem Rd(ds)(n):Jr ds n<=n:=by induction n with |zero=>exact zh _ |succ n a=>unfold Jr;grind
theorem J_(ds:N_)(k)(h:k<ds.length):ds.take (k+1)=ds.take k ++ [ds.getD k 0]:=by rw[ZQ h,zk,zg h,qB]
theorem nF(ds:N_)(n)(h:n<=ds.length):val (ds.take (Jr ds n))=val (ds.take n):=by induction n with |zero=>rfl |succ n b=>unfold Jr;split;{rename_i a;rw[b om,J_ _ n om,fU,a];rfl};rfl
theorem Pa(ds:N_)(n)(h:n<=ds.length):nJ (ds.take (Jr ds n)):=by
 intro k b;have c:=Rd ds n;rw[zX]at b;have a:Jr ds n=k+1:=om;have:ds.getD k 0≠0:=by clear b c;induction n with |zero=>simp[Jr]at a |succ n e=>unfold Jr at a;grind
 grind
theorem nJ.nil:nJ []:=λ_ h=>by simp at h
theorem nJ.le(h:nJ ds)(k)(a:ds.length=k+1):4294967296^k<=val ds:=by
 have b:=h k a;have e:=J_ ds k om;rw[zP om]at e;rw[e,fU,zX,Qw om];simp only[val,Ql,qV];have:1<=ds.getD k 0:=om;calc 4294967296^k=4294967296^k*1:=by rw[jM]
  _<=4294967296^k*ds.getD k 0:=Zr _ this
  _<=_:=Nat.le_add_left _ _
theorem gI{a}(h:a<=b):4294967296^a<=4294967296^b:=ZD dc h
theorem pow_pos(a):0<4294967296^a:=Dc dc
theorem nJ.len(h:nJ ds)(a:val ds<4294967296^k):ds.length<=k:=by cases hl:ds.length with |zero=>omega |succ j=>have:=h.le j hl;(have:¬k<=j:=λa=>by have:=gI a;omega);omega
theorem nJ.zero(h:nJ ds):val ds=0↔ds= []:=by constructor;{intro a;cases hl:ds.length with |zero=>grind |succ j=>have:=h.le j hl;grind};rintro rfl;rfl
theorem nJ.kH{b}(c:gT a)(hb:nJ b)(h:a.length<b.length):val a<val b:=by have d:=gg c;cases hl:b.length with |zero=>omega |succ j=>have:=hb.le j hl;have:=gI (show a.length<=j by omega);omega
theorem fG(ds)(k)(h:k<=ds.length):val ds=val (ds.take k)+4294967296^k*val (ds.drop k):=by have:=fU (ds.take k)<|ds.drop k;simp_all
theorem fH(ds:N_)(k)(h:k<ds.length):val (ds.take (k+1))=val (ds.take k)+4294967296^k*ds.getD k 0:=by rw[J_ ds k h,fU,zX,Qw om];simp[val]
theorem iq(ds:N_)(k)(h:k<ds.length):val (ds.drop k)=ds.getD k 0+4294967296*val (ds.drop (k+1)):=by rw[jt h,val,zk,zg h,qB]
theorem K9(ds:N_)(i x)(h:i<ds.length):(ds.set i x).getD i 0=x:=by rw[zk,jZ h,qB]
theorem zjO(ds:N_)(i j x)(h:i≠j):(ds.set i x).getD j 0=ds.getD j 0:=by rw[zk,MQ h,<-zk]
theorem Rw(ds:N_)(k x)(h:k<ds.length):(ds.set k x).take (k+1)=ds.take k ++ [x]:=by rw[J_ _ k g_,K9 _ k x h,Ov<|zh _]
theorem QH(ds:N_)(k x):(ds.set k x).drop (k+1)=ds.drop (k+1):=by rw[List.drop_set_of_lt om]
theorem Di{b:N_}(h:a.drop k=b.drop k):a.drop (k+1)=b.drop (k+1):=by rw[<-Jn,<-Jn,h]
theorem H9{b:N_}(h:a.drop k=b.drop k):a.getD k 0=b.getD k 0:=by have c:(a.drop k)[0]? =a[k]?:=g_;grind
theorem gd(ds:N_)(k):val (ds.take (k+1))=val (ds.take k)+4294967296^k*ds.getD k 0:=by by_cases h:k<ds.length;{exact fH _ k h};rw[zP om,zP om,zk,qL om];simp
theorem mL(ds:N_)(k x)(h:k<ds.length):val ((ds.set k (x%4294967296)).take (k+1))+4294967296^(k+1)*(x/4294967296)=val (ds.take k)+4294967296^k*x:=by rw[Rw _ k _ h,fU,zX,Qw om,Zv,Zt];simp only[val,Ql,qV];rw[Gs,<-Zs,Nat.mod_add_div]
theorem uX(b:k<a.length)(d:val (a.take k)+4294967296^k*c=val (ds.take k)+val (es.take k)):
 val ((a.set k ((c+ds.getD k 0+es.getD k 0)%4294967296)).take (k+1))+4294967296^(k+1)*((c+ds.getD k 0+es.getD k 0)/4294967296)=val (ds.take (k+1))+val (es.take (k+1)):=by rw[mL a k _ b,gd _ k,gd _ k,Zs,Zs];omega
theorem Wx(e:k<=a.length)(f:a.length=ds.length)(c:es.length<=k)(b:a.drop k=ds.drop k)(d:val (a.take k)+4294967296^k*0=val (ds.take k)+val (es.take k)):
 val a+4294967296^ds.length*0=val ds+val es:=by rw[zP c]at d;rw[fG a k e,fG ds k om,b];omega
theorem getD_none(es:N_)(k)(h:es.length<=k):es.getD k 0=0:=by rw[zk,qL h];rfl
theorem O1(f y:Nat)(a:f<4294967296)(b:y<4294967296):0<=(f)*(y:Int)/\(f)*(y:Int)<=18446744065119617025:=by have a:f*y<=4294967295*4294967295:=Z7 om om;omega
theorem Sx{c' bw'}(e:k<a.length)(d:val (a.take k)+f*val (es.take k)=val (ds.take k)+4294967296^k*(c+b))(g:c+f*es.getD k 0+b+z=ds.getD k 0+4294967296*(c'+bw')):
 val ((a.set k z).take (k+1))+f*val (es.take (k+1))=val (ds.take (k+1))+4294967296^(k+1)*(c'+bw'):=by rw[Rw a k _ e,fU,zX,Qw om,gd ds k,gd _ k,Zv,Zt];simp only[val,Ql,qV];grind
theorem zoh(e:k<=a.length)(g:a.length=ds.length)(c:es.length<=k)(b:a.drop k=ds.drop k)(d:val (a.take k)+f*val (es.take k)=val (ds.take k)+4294967296^k*(0+0)):
 val a+f*val es=val ds+4294967296^ds.length*0:=by rw[zP c]at d;rw[fG a k e,fG ds k om,b];omega
def Jy (a b:Nat):Int:=if a<b then -1 else if b<a then 1 else 0
theorem Dj{a}(h:a<b):Jy a b=-1:=zQ h
theorem Db{a}(h:b<a):Jy a b=1:=by unfold Jy;rw[zO om,zQ h]
theorem Gm{a}(h:a=b):Jy a b=0:=by unfold Jy;rw[zO om,zO om]
theorem sw{b}(d:gT a)(f:a.length=b.length)(k)(e:k<a.length)(c:a.drop (k+1)=b.drop (k+1))(g:a.getD k 0<b.getD k 0):val a<val b:=by rw[fG a k om,fG b k om,iq a k e,iq b k om,c];have c:=gg<|d.take k;rw[zX,Qw om]at c;generalize val (b.drop<|k+1)=x;generalize 4294967296^k=p at *;have c:p*(a.getD k 0+4294967296*x+1)<=p*(b.getD k 0+4294967296*x):=Zr _ om;grind
theorem zng{b:N_}(f:a.length=b.length)(k)(d:k<a.length)(e:a.drop (k+1)=b.drop (k+1))(c:a.getD k 0=b.getD k 0):a.drop k=b.drop k:=by rw[jt d,jt<|show k<b.length by omega,e];grind
def Row (w:H)(b off:Nat)(ds:N_):Prop:=
 ∀i,i<ds.length->w.cell? ⟨b,off+i,O⟩=E (it .u32 ((ds.getD i 0)))
def t_ (w:H)(b off n:Nat):Prop:=∀i,i<n->w.frozen? ⟨b,off+i,O⟩=false
def kR (w:H)(v:Value)(ds:N_):Prop:=
 ∃ao cap,v=V ao ds.length cap/\ds.length<=cap/\(ds≠ []->∃b off,ao=E (Xd b off O)/\b<w.heap.size/\Row w b off ds)
def fe (w:H)(v:Value)(n:Nat):Prop:=∃ds,kR w v ds/\gT ds/\nJ ds/\val ds=n
theorem Row.below(h:Row w b off ds)(hb:Below B w w')(a:b<B):Row w' b off ds:=λi c=>(hb.cell a).trans (h i c)
theorem kR.below(h:kR w v ds)(hb:Below w.heap.size w w'):kR w' v ds:=by have⟨a,b,d,c,e⟩:=h;refine⟨a,b,d,c,λd=>?_⟩;have⟨b,off,c,a,f⟩:=e d;exact⟨b,_,c,zK a hb.size,f.below hb a⟩
theorem fe.below(h:fe w v n)(hb:Below w.heap.size w w'):fe w' v n:=by have⟨a,b,c⟩:=h;exact⟨a,b.below hb,c⟩
theorem fe.alloc(h:fe w v n)(o):fe (w.alloc o) v n:=h.below ((qf _ _).alloc (zh _) o)
theorem fe.drew(h:fe w v n):fe w.drew v n:=h
theorem fe.zero(w)(a:A_)(cap):fe w (V a 0 cap) 0:=⟨_,⟨a,_,rfl,qo _,λh=>absurd rfl h⟩,(λ_ h=>g_),nJ.nil,rfl⟩
abbrev Xo:=@fe.zero
structure kV (b off n:Nat)(w w':H):Prop where
 os:w'.os=w.os
 tape:w'.tape=w.tape
 output:w'.output=w.output
 size:w'.heap.size=w.heap.size
 block:∀k,k≠b->w'.heap[k]? =w.heap[k]?
 cell:∀j,(j<off\/off+n<=j)->w'.cell? (Xd b j O)=w.cell? (Xd b j O)
 frozen:∀j,w'.frozen? (Xd b j O)=w.frozen? (Xd b j O)
theorem kV.refl(b off n)(w):kV b off n w w:=⟨rfl,rfl,rfl,rfl,λ_ _=>rfl,λ_ _=>rfl,λ_=>rfl⟩
abbrev Xx:=@kV.refl
theorem kV.trans{u v}(h:kV b off n u v)(k:kV b off n v w):kV b off n u w:=⟨k.os.trans h.os,k.tape.trans h.tape,k.output.trans h.output,k.size.trans h.size,λi a=>(k.block i a).trans<|h.block i a,λj a=>(k.cell j a).trans<|h.cell j a,λj=>(k.frozen j).trans<|h.frozen j⟩
theorem kV.setCell{u}(h:kV b off n u w)(i)(a:i<n)(x):kV b off n u (w.setCell ⟨b,off+i,O⟩ x):=h.trans ⟨rfl,rfl,rfl,sp,λk a=>qC _ _ _ _ a,λj a=>zA _ _ _ _ (by intro a;injection a with _ a;omega),λj=>sp⟩
theorem kV.below(h:kV b off n w w')(a:B<=b):Below B w w':=⟨h.os,h.tape,h.output,jm h.size.symm,λk a=>h.block k om⟩
theorem kV.other(h:kV b off n w w'){o}(a:c≠b)(e:Row w c o ds):Row w' c o ds:=λi d=>(Zj<|h.block c a).trans (e i d)
theorem kV.free(h:kV b off n w w'){o}(a:t_ w b o m):t_ w' b o m:=λi c=>(h.frozen _).trans (a i c)
theorem Row.setCell(h:Row w b off ds)(i x:Nat)(a:i<ds.length):
 Row (w.setCell ⟨b,off+i,O⟩ (it .u32 (x))) b off (ds.set i x):=by intro j d;rw[qX]at d;by_cases c:i=j;{subst c;rw[zN _ _ _<|h i a,K9 _ i x a]};rw[zA _ _ _ _ g_,zjO _ i j x c];exact h j d
theorem Row.take(h:Row w b off ds)(n):Row w b off (ds.take n):=by intro i a;rw[zX]at a;rw[h i om,zk,zk,jG,zQ om]
theorem Row.drop(h:Row w b off ds)(n):Row w b (off+n) (ds.drop n):=by intro i a;rw[Za]at a;rw[show off+n+i=off+(n+i)by omega,h _ om,zk,zk,Jo]
theorem Row.append{xs ys}(h:Row w b off xs)(k:Row w b (off+xs.length) ys):Row w b off (xs++ys):=by intro i a;rw[zM]at a;by_cases a:i<xs.length;{rw[h i a,zk,zk,zS a]};have:=k (i-xs.length) om;grind
theorem tF(h:Row w b off ds)(c:ds≠ []):b<w.heap.size:=by exact zw (h 0<|ZC.2 c)
theorem kR.mk(h:Row w b off ds)(hb:b<w.heap.size)(a:ds.length<=cap):kR w (V (E (Xd b off O)) ds.length cap) ds:=⟨_,cap,rfl,a,λ_=>⟨b,off,rfl,hb,h⟩⟩
theorem iu(h:Row w b off ds)(a:gT ds)(hb:b<w.heap.size)(d:ds.length=n)(c:n<=cap):
 fe w (V (E (Xd b off O)) (Jr ds n) cap) (val ds):=by have c:=Rd ds n;have c:(ds.take<|Jr ds n).length=Jr ds n:=g_;refine⟨_,⟨_,_,by rw[c],om,λ_=>⟨b,_,rfl,hb,h.take _⟩⟩,a.take _,Pa _ n om,?_⟩;rw[nF _ n om,zP om]
def AU (w:H)(b:Nat)(v:Value)(ds:N_):Prop:=
 ∃ao cap,v=V ao ds.length cap/\ds.length<=cap/\(ds≠ []->∃b' off,ao=E (Xd b' off O)/\b'<w.heap.size/\b'≠b/\Row w b' off ds)
theorem kR.GI(h:kR w v ds)(hb:Below w.heap.size w w')(b)(a:w.heap.size<=b):AU w' b v ds:=by have⟨a,c,e,d,f⟩:=h;refine⟨a,c,e,d,λe=>?_⟩;have⟨c,off,d,a,g⟩:=f e;exact⟨c,_,d,zK a hb.size,om,g.below hb a⟩
theorem AU.TU(h:AU w b v ds)(c:kV b off n w w'):AU w' b v ds:=by have⟨a,d,f,e,i⟩:=h;refine⟨a,d,f,e,λg=>?_⟩;have⟨d,off,e,f,a,j⟩:=i g;exact⟨d,_,e,by rw[c.size];omega,a,c.other a j⟩
theorem PZ{w1}(hb:Below W.heap.size W w1):(∀b o,b<W.heap.size->w1.cell? (Xd b o O)=W.cell? (Xd b o O))/\(∀b o,b<W.heap.size->w1.frozen? (Xd b o O)=W.frozen? (Xd b o O)):=⟨λb o h=>hb.cell h,λb o h=>hb.frozen h⟩
theorem zf{p}(h:p):Hid p:=h
theorem I0{p}(h:Hid p):p:=h
theorem AH{k}{a b}(h:a=b):Ending.returned (it k a)=Xa (it k b):=by rw[h]
theorem T8{a b}(h:a=b):Ending.returned (G a)=Xa (G b):=by rw[h]
theorem Mk{a:A_}(h:m=n):Ending.returned (V a m c)=Xa (V a n c):=by rw[h]
def lenOf:Value->Nat|V _ k _=>k|_=>0
theorem KA(x d:Nat)(b:x<4294967296)(a:d<4294967296):bits .or .u64 ((x)*4294967296) (d)=((d+4294967296*x:Nat)):=by have e:(x*4294967296)=((x*4294967296:Nat):Int):=om;rw[e,u64_or_nat _ _ om om,nat_join 32 _ d om om];omega
theorem JR(w)(v)(h:fe w v 0):
 C_ 129 #[v] w λe w'=>e=Xa (G true)/\w'=w:=by obtain⟨_,⟨_,_,rfl,_,f⟩,c,a,b⟩:=h;have d:=a.zero.1 b;subst d;go_enter func129,ntmps129;go_wp2;go_ret;simp
theorem jW(w)(v)(n)(h:fe w v n)(c:n≠0):
 C_ 129 #[v] w λe w'=>e=Xa (G false)/\w'=w:=by obtain⟨a,⟨_,_,rfl,_,j⟩,f,k,d⟩:=h;have b:a≠ []:=λe=>c (by rw[<-d,e];rfl);have g:=ZC.2 b;have i:((a.length:Int) == 0)=false:=ZN.2 om;generalize a.length=len at g i⊢;go_enter func129,ntmps129;go_wp2;go_ret;simp
theorem LW(w)(v)(h:fe w v 1):
 C_ 283 #[v] w λe w'=>e=Xa (G true)/\w'=w:=by obtain⟨d,⟨_,_,rfl,_,b⟩,f,c,a⟩:=h;match d,(c.len (k:=1)<|by omega) with |[],_=>simp[val]at a |[d],_=>simp[val]at a;subst a;obtain⟨_,off,rfl,_,a⟩:=b sp;have d:=a 0 sp;simp at d;go_enter func283,ntmps283;go_wp2;go_ret;simp
theorem LR(w)(v)(n)(h:fe w v n)(a:n≠1):
 C_ 283 #[v] w λe w'=>e=Xa (G false)/\w'=w:=by obtain⟨a,⟨_,_,rfl,_,f⟩,_,_,b⟩:=h;by_cases c:a.length=1;{match a,c with |[d],_=>simp[val]at b;subst b;obtain⟨_,off,rfl,_,c⟩:=f sp;have b:=c 0 sp;simp at b;have c:((d:Int) == 1)=false:=ZN.2 om;generalize d=x at b c;go_enter func283,ntmps283;go_wp2;go_ret;simp};have b:((a.length:Int) == 1)=false:=ZN.2 om;generalize a.length=len at b;go_enter func283,ntmps283;go_wp2;go_ret;simp
theorem ij(w)(b off cap n)(ds)(c:n<=cap)(hm:n<=140737488355328)(d:n<=ds.length)(a:Row w b off ds):
 C_ 165 #[V (E (Xd b off O)) n cap] w λe w'=>e=Xa (V (E (Xd b off O)) (Jr ds n) cap)/\w'=w:=by
 go_enter func165,ntmps165;go_wp2;go_loop [0] (λv=>∃k:Nat,k<=n/\Hid (Jr ds n=Jr ds k)/\v=V (E<|Xd b off O) k cap) lenOf;case atStart=>exact⟨n,zh _,rfl,rfl⟩
 case round=>obtain⟨k,_,c,rfl⟩:=hrel;cases k with |zero=>go_wp2;go_ret;exact⟨Mk c.out.symm,rfl⟩ |succ k=>have f:=a k om;by_cases d:ds.getD k 0=0;{rw[d]at f;have a:Hid _:=d;go_wp2;go_round;(case rel=>exact⟨k,om,by rw[Hid,c.out,Jr,zQ a.out],rfl⟩);case measure=>simp[lenOf]};have g:((ds.getD k 0):Int)≠0:=om;generalize h:((ds.getD k 0:Nat):Int)=x at f g;have a:Hid _:=d;go_wp2;go_ret;exact⟨Mk<|by rw[c.out,Jr,zO a.out],rfl⟩
theorem zg7(w)(a b)(c:a<18446744073709551616)(hb:b<18446744073709551616):
 C_ 245 #[it .u64 (a:Nat),it .u64 (b:Nat)] w λe w'=>e=Xa (it .u64 (Nat.gcd a b))/\∃n,w'=w.drewN n:=by
 go_enter func245,ntmps245;go_wp2;go_loopw [0,1] (λu v wr=>∃x y:Nat,x<18446744073709551616/\y<18446744073709551616/\u=it .u64 x/\v=it .u64 y/\Hid (Nat.gcd x y=Nat.gcd a b)/\∃n,wr=w.drewN n) (λ_ v _=>(intOf v).toNat);case atStart=>exact⟨a,b,c,hb,rfl,rfl,rfl,0,rfl⟩
 case round=>obtain⟨x,y,_,f,rfl,rfl,d,n,rfl⟩:=hrel;by_cases c:0<y;{go_wp2;go_region;(all_goals go_wp2);go_roundw;(case rel=>exact⟨y,_,f,EZ (Z0 _ c) f,rfl,rfl,by rw[Hid,<-d.out,F6 y _,<-Nat.gcd_rec,F6],n+1,rfl⟩);case measure=>have:=Z0 x c;simp[intOf];omega};have:y=0:=om;subst this;go_wp2;go_ret;exact⟨AH<|by rw[<-d.out,Nat.gcd_zero_right],n,rfl⟩
theorem KG(w)(v)(n)(h:fe w v n)(q:n<18446744073709551616):
 C_ 241 #[v] w λe w'=>e=Xa (it .u64 (n))/\w'=w:=by
 obtain⟨a,⟨_,_,rfl,_,r⟩,c,d,b⟩:=h;have C:=d.len (k:=2) om;have A:((min (a.length:Int) 2))=a.length:=om;have f:Hid _:=b;have p:1<=a.length->val (a.drop 1)<4294967296:=by intro u;have y:=gg<|c.drop 1;have j:(a.drop 1).length<=1:=so;have z:=gI j;omega
 clear b d;go_enter func241,ntmps241;go_wp2;go_loop [3,4] (λx i=>∃k:Nat,k<=a.length/\i=i_ (k-1)/\x=it .u64 (val (a.drop k):Nat)) (λ_ i=>(intOf i+1).toNat);case atStart=>exact⟨_,zh _,rfl,by simp[val]⟩
 case round=>obtain⟨k,m,rfl,rfl⟩:=hrel;cases k with |zero=>go_wp2;go_ret;exact⟨AH<|by rw[f.out],rfl⟩ |succ k=>(have o:val (a.drop<|k+1)<4294967296:=by cases k with |zero=>grind |succ k=>rw[QP om];decide);have l:=c.get k;obtain⟨_,off,rfl,_,s⟩:=r g_;have B:=s k om;have t:Hid _:=iq a k om;generalize a.getD k 0=g at *;generalize val (a.drop<|k+1)=x at *;go_wp2;go_round;(case rel=>exact⟨k,om,g_,by rw[t.out,KA x g o l]⟩);case measure=>simp[intOf]
theorem Lj(w)(n)(a:n<18446744073709551616):
 C_ 90 #[it .u64 (n:Nat)] w λe w'=>∃v,e=Xa v/\fe w' v n/\Below w.heap.size w w':=by
 have a:Row (w.alloc<|Obj.cells #[it IntKind.u32<|n%4294967296,it IntKind.u32<|n/4294967296] 214) w.heap.size 0 [n%4294967296,n/4294967296]:=by intro i b;match i,b with |0,_=>simp |1,_=>simp
 go_enter func90,ntmps90;go_wp2_with fail;refine(ij _ _ 0 2 2 _ om om sp a).mono<|fB ?_;go_wp2;go_ret;refine⟨_,rfl,?_,(qf _ _).alloc (zh _) _⟩;have:=iu (cap:=2) (n:=2) a (by intro d a;grind) sp rfl om;have e:val [n%4294967296,n/4294967296]=n:=by simp[val];omega
 rw[e]at this;exact this
theorem zni(w)(a b)(c:a<=140737488355328)(hb:b<=140737488355328):
 C_ 163 #[i_ (a:Nat),i_ (b:Nat)] w λe w'=>e=Xa (i_ (Jy a b))/\w'=w:=by rcases Mt a b with h|h|h;{rw[Dj h];go_enter func163,ntmps163;go_wp2;go_ret;simp};{rw[Gm h];subst h;go_enter func163,ntmps163;go_wp2;go_ret;simp};rw[Db h];go_enter func163,ntmps163;go_wp2;go_ret;simp
theorem znj(w)(a b)(c:a<4294967296)(hb:b<4294967296):
 C_ 164 #[it .u32 (a:Nat),it .u32 (b:Nat)] w λe w'=>e=Xa (i_ (Jy a b))/\w'=w:=by rcases Mt a b with h|h|h;{rw[Dj h];go_enter func164,ntmps164;go_wp2;go_ret;simp};{rw[Gm h];subst h;go_enter func164,ntmps164;go_wp2;go_ret;simp};rw[Db h];go_enter func164,ntmps164;go_wp2;go_ret;simp
theorem fX(w)(u v)(m n K)(b:fe w u m)(c:fe w v n)(hm:m<4294967296^K)(t:n<4294967296^K)(a:K<=1073741824):
 C_ 88 #[u,v] w λe w'=>e=Xa (i_ (Jy m n))/\∃q,w'=w.drewN q:=by obtain⟨a,⟨_,_,rfl,_,z⟩,d,i,rfl⟩:=b;obtain⟨b,⟨_,_,rfl,_,A⟩,f,j,rfl⟩:=c;have c:=i.len hm;have c:=j.len t;by_cases s:a.length=b.length;{have c:(a.length != b.length)=false:=g_;have c:Hid _:=s;clear hm t i j s;go_enter func88,ntmps88;go_wp2;go_loopw [5] (λg wr=>∃k:Nat,k<=a.length/\g=i_ (k-1)/\Hid (a.drop k=b.drop k)/\∃q,wr=w.drewN q) (λg _=>(intOf g+1).toNat);(case atStart=>exact⟨_,zh _,rfl,g_,0,rfl⟩);case round=>obtain⟨k,h,rfl,g,q,rfl⟩:=hrel;cases k with |zero=>go_wp2;go_ret;refine⟨AH ?_,q,rfl⟩;rw[Gm<|by rw[<-Q2 (l:=a),g.out,Q2]] |succ k=>obtain⟨_,off,rfl,_,C⟩:=z g_;obtain⟨_,_,rfl,_,D⟩:=A g_;have h:k<b.length:=g_;have o:=C k om;have o:=D k h;have F:=d.get k;have I:=f.get k;have h:(0:Int)<=k:=om;have h:((k:Int)).toNat=k:=om;have h:k<a.length:=om;have h:k<b.length:=om;have y:=λh=>sw d c.out k om g.out h;have B:=λh=>sw f c.out.symm k om g.out.symm h;have x:=λh=>zng c.out k om g.out h;have o:Hid _:=y;have p:Hid _:=B;have r:Hid _:=x;clear y B x z A C D;generalize a.getD k 0=x at *;generalize b.getD k 0=y at *;by_cases g:x=y;{have c:=r.out g;have B:Hid _:=c;have C:(x != y)=false:=g_;go_wp2;go_region;(all_goals go_wp2);go_roundw;(case rel=>grind);case measure=>simp[intOf]};have C:(x != y)=true:=g_;(have c:Hid (Jy x y=Jy (val a) (val b)):=by rcases NK g with h|h;{rw[Hid,Dj h,Dj<|o.out h]};rw[Hid,Db h,Db<|p.out h]);go_wp2;go_region;(all_goals go_wp2);go_quiet ((go_at_call 164;exact(znj _ _ _ F I).mono λ_ _ h=>⟨h.1,_,h.2⟩));go_wp2;go_ret;exact⟨AH c.out,q+1+nq,by simp⟩};have g:(a.length != b.length)=true:=g_;(have g:Jy a.length b.length=Jy (val a) (val b):=by rcases NK s with h|h;{rw[Dj h,Dj<|j.kH d h]};rw[Db h,Db<|i.kH f h]);have c:=g;rw[<-c];clear g c hm t i j d f z A;generalize a.length=a at *;generalize b.length=a at *;go_enter func88,ntmps88;go_wp2_with fail;refine(zni _ _ _ om om).mono<|fB ?_;go_wp2;go_ret;exact⟨rfl,0,rfl⟩
theorem OH(w)(b off cap)(ds es)(v)(g:ds.length<=cap)(i:ds.length<=1073741824)(h:es.length<=ds.length)(f:Row w b off ds)(A:t_ w b off ds.length)(u:gT ds)(d:AU w b v es)(o:gT es):
 C_ 218 #[V (E (Xd b off O)) ds.length cap,v] w λe w'=>e=Xa (tp #[])/\
  ∃a c,a.length=ds.length/\gT a/\Row w' b off a/\kV b off ds.length w w'/\val a+4294967296^ds.length*c=val ds+val es:=by
 have r:=d;obtain⟨_,_,rfl,_,_⟩:=d;go_enter func218,ntmps218;go_wp2;go_loopw [4,8] (λa i wr=>∃(k c:Nat) (d:N_),k<=ds.length/\c<=1/\i=i_ (k:Nat)/\a=it .u64 (c:Nat)/\Hid (d.length=ds.length)/\gT d/\Row wr b off d/\kV b off ds.length w wr/\ Hid (d.drop k=ds.drop k)/\Hid (val (d.take k)+4294967296^k*c=val (ds.take k)+val (es.take k))) (λ_ i _=>ds.length-(intOf i).toNat);case atStart=>exact⟨0,0,_,qo _,om,rfl,rfl,rfl,u,f,Xx _ _ _ _,rfl,rfl⟩
 case round=>obtain⟨k,c,d,_,_,rfl,rfl,a,m,h,g,i,p⟩:=hrel;by_cases f:k<ds.length;{by_cases l:k<es.length;{obtain⟨_,_,j,_,q⟩:=r.TU g;simp only[qp]at j;obtain⟨rfl,_,rfl⟩:=j;obtain⟨_,_,rfl,_,_,j⟩:=q g_;have z:=h k (by rw[a.out];omega);rw[H9 i.out]at z;have q:=j k l;have D:=u.get k;have j:=o.get k;have C:=g.free A k f;have o:=uX (by rw[a.out];omega) p.out;have j:=h.setCell k ((c+ds.getD k 0+es.getD k 0)%4294967296) (by rw[a.out];omega);have l:=g.setCell k f<|it .u32<|((c+ds.getD k 0+es.getD k 0)%4294967296:Nat);have r:Hid _:=o;generalize ds.getD k 0=x at *;generalize es.getD k 0=y at *;have s:(((c+x+y)%4294967296:Nat))=((c:Int)+x+y)%4294967296:=om;have t:(((c+x+y)/4294967296:Nat))=((c:Int)+x+y)/4294967296:=om;rw[s]at j l;have q:Hid _:=t;go_wp2;go_roundw;(case rel=>exact⟨_,_,_,om,om,g_,g_,g_,m.set _ _<|Z0 _ dc,j,l,by rw[Hid,QH];exact Di i.out,r⟩);case measure=>simp[intOf];omega};by_cases y:c=0;{subst y;have B:=Wx (by rw[a.out];omega) a.out om i.out p.out;have y:Hid _:=B;have B:es.length<=k:=om;go_wp2;refine zH (qI rfl _ _ _) rfl ?_;exact⟨rfl,d,0,a.out,m,h,g,y.out⟩};have z:=h k (by rw[a.out];omega);rw[H9 i.out]at z;have D:=u.get k;have C:=g.free A k f;have o:=uX (by rw[a.out];omega) p.out;rw[getD_none es k om,qV]at o;have j:=h.setCell k ((c+ds.getD k 0)%4294967296) (by rw[a.out];omega);have l:=g.setCell k f<|it .u32<|((c+ds.getD k 0)%4294967296:Nat);have r:Hid (val ((d.set k<|(c+ds.getD k 0)%4294967296).take _)+4294967296^(k+1)*((c+ds.getD k 0)/4294967296)=val _+val _):=o;generalize ds.getD k 0=x at *;have s:(((c+x)%4294967296:Nat))=((c:Int)+x)%4294967296:=om;have t:(((c+x)/4294967296:Nat))=((c:Int)+x)/4294967296:=om;rw[s]at j l;have q:Hid _:=t;have f:((c:Int) == 0)=false:=ZN.2 om;have B:es.length<=k:=om;go_wp2;go_roundw;(case rel=>exact⟨_,_,_,om,om,g_,g_,g_,m.set _ _<|Z0 _ dc,j,l,by rw[Hid,QH];exact Di i.out,r⟩);case measure=>simp[intOf];omega};have i:k=ds.length:=om;(have f:Hid (val d+4294967296^ds.length*c=val ds+val es):=by have:=p.out;rw[zP (by rw[a.out];omega),zP om,zP om,i]at this;exact this);go_wp2;go_end0;exact⟨rfl,d,c,a.out,m,h,g,f.out⟩
theorem Tj(x u a)(e:0<=x)(f:x<4294967296)(c:0<=u)(d:u<4294967296)(hb:0<=a)(b:a<=1)(h:x<u+a):
 IntKind.u64.wrap (IntKind.u64.wrap (x-u)-a)%4294967296=x-u-a+4294967296/\IntKind.u64.wrap (IntKind.u64.wrap (x-u)-a)/9223372036854775808=1:=by have e:∀n,IntKind.u64.wrap n=n%18446744073709551616:=λn=>rfl;grind
theorem Y_(x a)(c:0<=x)(b:a<=1)(h:x<a):
 IntKind.u64.wrap (x-a)%4294967296=x-a+4294967296/\IntKind.u64.wrap (x-a)/9223372036854775808=1:=by have e:∀n,IntKind.u64.wrap n=n%18446744073709551616:=λn=>rfl;grind
theorem RT(w)(b off cap f)(ds es)(v)(d:ds.length<=cap)(i:ds.length<=1073741824)(g:es.length<=ds.length)(m:f<4294967296)(h:Row w b off ds)(W:t_ w b off ds.length)(T:gT ds)(c:AU w b v es)(l:gT es):
 C_ 220 #[V (E (Xd b off O)) ds.length cap,v,it .u32 (f:Nat)] w λe w'=>
  ∃a r,e=Xa (it .u64 (r:Nat))/\r<=4294967296/\a.length=ds.length/\gT a/\Row w' b off a/\kV b off ds.length w w'/\val a+f*val es=val ds+4294967296^ds.length*r:=by
 have o:=c;obtain⟨_,_,rfl,_,_⟩:=c;go_enter func220,ntmps220;go_wp2;go_loopw [7,8,13] (λg d i wr=>∃(k c a:Nat) (p:N_),k<=ds.length/\c<4294967296/\a<=1/\i=i_ (k:Nat)/\g=it .u64 (c:Nat)/\d=it .u64 (a:Nat)/\Hid (p.length=ds.length)/\gT p/\Row wr b off p/\kV b off ds.length w wr/\ Hid (p.drop k=ds.drop k)/\Hid (val (p.take k)+f*val (es.take k)=val (ds.take k)+4294967296^k*(c+a))) (λ_ _ i _=>ds.length-(intOf i).toNat);case atStart=>exact⟨0,0,0,_,qo _,om,om,rfl,rfl,rfl,rfl,T,h,Xx _ _ _ _,rfl,rfl⟩
 case round=>obtain⟨k,c,a,p,_,_,_,rfl,rfl,rfl,j,u,I,D,q,B⟩:=hrel;by_cases A:k<ds.length;{by_cases g:k<es.length;{obtain⟨_,_,d,_,h⟩:=o.TU D;simp only[qp]at d;obtain⟨rfl,_,rfl⟩:=d;obtain⟨_,_,rfl,_,_,d⟩:=h g_;have U:=I k (by rw[j.out];omega);rw[H9 q.out]at U;have i:=d k g;have Z:=T.get k;have i:=l.get k;have Y:=D.free W k A;(have K:k<p.length:=by rw[j.out];exact A);have d:=λz=>I.setCell k z K;have g:=λz=>D.setCell k A z;have l:=λz N M=>Sx (z:=z) (c':=N) (bw':=M) K B.out;clear h B;generalize ds.getD k 0=x at *;generalize es.getD k 0=y at *;obtain⟨_,_⟩:=O1 f y m i;have X:((f*y:Nat))=(f)*(y:Int):=sp;by_cases C:x<(c+f*y)%4294967296+a;{have J:(x)<((c)+(f)*(y:Int))%4294967296+a:=om;obtain⟨s,t⟩:=Tj x _ a om om om om om om J;have i:=l (x+4294967296-(c+f*y)%4294967296-a) ((c+f*y)/4294967296) 1 om;have d:=d<|x+4294967296-(c+f*y)%4294967296-a;have g:=g<|it .u32<|(x+4294967296-(c+f*y)%4294967296-a:Nat);have h:((x+4294967296-(c+f*y)%4294967296-a:Nat):Int)=IntKind.u64.wrap (IntKind.u64.wrap (↑x-(↑c + ↑f * ↑y)%4294967296) - ↑a)%4294967296:=om;rw[h]at d g;have F:Hid ((((c+f*y)/4294967296:Nat):Int)=((c:Int)+f*y)/4294967296):=rfl;have L:x+4294967296-(c+f*y)%4294967296-a<4294967296:=om;have R:(c+f*y)/4294967296<4294967296:=om;have i:=zf i;have m:=zf t;have o:=zf L;clear l h s t X C J L;go_wp2;go_roundw;(case rel=>exact⟨_,_,1,_,om,R,om,g_,g_,by rw[I0 m];rfl,g_,u.set _ _<|I0 o,d,g,by rw[Hid,QH];exact Di q.out,I0 i⟩);case measure=>simp[intOf];omega};have J:((c)+(f)*(y))%4294967296+a<=(x:Int):=om;have i:=l (x-(c+f*y)%4294967296-a) ((c+f*y)/4294967296) 0 om;have d:=d<|x-(c+f*y)%4294967296-a;have g:=g<|it .u32<|(x-(c+f*y)%4294967296-a:Nat);have h:((x-(c+f*y)%4294967296-a:Nat):Int)=(↑x-(↑c + ↑f * ↑y)%4294967296) - ↑a:=om;rw[h]at d g;have F:Hid ((((c+f*y)/4294967296:Nat):Int)=((c:Int)+f*y)/4294967296):=rfl;have L:x-(c+f*y)%4294967296-a<4294967296:=om;have R:(c+f*y)/4294967296<4294967296:=om;(have m:Hid ((↑x-(↑c + ↑f * ↑y)%4294967296 - ↑a:Int)/9223372036854775808=0):=by rw[Hid];omega);have i:=zf i;have o:=zf L;clear l h X C L;go_wp2;go_roundw;(case rel=>exact⟨_,_,0,_,om,R,om,g_,g_,g_,g_,u.set _ _<|I0 o,d,g,by rw[Hid,QH];exact Di q.out,I0 i⟩);case measure=>simp[intOf];omega};have L:es.length<=k:=om;by_cases y:c=0/\a=0;{obtain⟨rfl,rfl⟩:=y;have R:=zf (zoh (by rw[j.out];omega) j.out L q.out B.out);clear B;go_wp2;go_ret;exact⟨p,0,rfl,om,j.out,u,I,D,R.out⟩};have U:=I k (by rw[j.out];omega);rw[H9 q.out]at U;have Z:=T.get k;have Y:=D.free W k A;(have K:k<p.length:=by rw[j.out];exact A);have d:=λz=>I.setCell k z K;have g:=λz=>D.setCell k A z;have l:=λz N M=>Sx (z:=z) (c':=N) (bw':=M) K B.out;rw[getD_none _ k L]at l;clear B;generalize ds.getD k 0=x at *;by_cases z:c=0;{subst z;have A:((a:Int) == 0)=false:=ZN.2 om;by_cases C:x<a;{obtain⟨s,t⟩:=Y_ x a om om om;have i:=zf<|l (x+4294967296-a) 0 1 om;have d:=d<|x+4294967296-a;have g:=g<|it .u32<|(x+4294967296-a:Nat);have h:((x+4294967296-a:Nat):Int)=IntKind.u64.wrap (↑x - ↑a)%4294967296:=om;rw[h]at d g;have o:=zf (show x+4294967296-a<4294967296 by omega);have m:=zf t;clear l h s t y;go_wp2;go_roundw;(case rel=>exact⟨_,0,1,_,om,om,om,g_,rfl,by rw[m.out];rfl,g_,u.set _ _ o.out,d,g,by rw[Hid,QH];exact Di q.out,i.out⟩);case measure=>simp[intOf];omega};have i:=zf<|l (x-a) 0 0 om;have d:=d<|x-a;have g:=g<|it .u32<|(x-a:Nat);have h:((x-a:Nat):Int)=↑x - ↑a:=om;rw[h]at d g;have o:=zf (show x-a<4294967296 by omega);have m:=zf (show((x:Int)-a)/9223372036854775808=0 by omega);have A:(a:Int)<=x:=om;clear l h y C;go_wp2;go_roundw;(case rel=>exact⟨_,0,0,_,om,om,om,g_,rfl,g_,g_,u.set _ _ o.out,d,g,by rw[Hid,QH];exact Di q.out,i.out⟩);case measure=>simp[intOf];omega};have K:((c:Int) == 0)=false:=ZN.2 om;have F:=zf (show(c:Int)/4294967296=0 by omega);by_cases C:x<c+a;{have J:(x)<(c:Int)+a:=om;obtain⟨s,t⟩:=Tj x c a om om om om om om J;have i:=zf<|l (x+4294967296-c-a) 0 1 om;have d:=d<|x+4294967296-c-a;have g:=g<|it .u32<|(x+4294967296-c-a:Nat);have h:((x+4294967296-c-a:Nat):Int)=IntKind.u64.wrap (IntKind.u64.wrap (↑x - ↑c) - ↑a)%4294967296:=om;rw[h]at d g;have o:=zf (show x+4294967296-c-a<4294967296 by omega);have m:=zf t;clear l h s t C J y z;go_wp2;go_roundw;(case rel=>exact⟨_,0,1,_,om,om,om,g_,g_,by rw[m.out];rfl,g_,u.set _ _ o.out,d,g,by rw[Hid,QH];exact Di q.out,i.out⟩);case measure=>simp[intOf];omega};have i:=zf<|l (x-c-a) 0 0 om;have d:=d<|x-c-a;have g:=g<|it .u32 ((x-c-a:Nat):Int);have h:((x-c-a:Nat):Int)=↑x - ↑c - ↑a:=om;rw[h]at d g;have o:=zf (show x-c-a<4294967296 by omega);have m:=zf (show((x:Int)-c-a)/9223372036854775808=0 by omega);have A:(c:Int)+a<=x:=om;clear l h y C z;go_wp2;go_roundw;(case rel=>exact⟨k+1,0,0,_,om,om,om,by go_num,by rw[F.out];rfl,by rw[m.out];rfl,by rw[Hid,qX,j.out],u.set _ _ o.out,d,g,by rw[Hid,QH];exact Di q.out,i.out⟩);case measure=>simp[intOf];omega};have d:k=ds.length:=om;(have g:Hid (val p+f*val es=val ds+4294967296^ds.length*(c+a)):=by have:=B.out;rw[zP (by rw[j.out];omega),zP om,zP om,d]at this;exact this);clear B d;go_wp2;go_ret;exact⟨p,c+a,by go_num,om,j.out,u,I,D,g.out⟩
theorem UU(ds:N_)(k x):(ds.set k x).take k=ds.take k:=Ov (zh _)
theorem Va{b:N_}(h:a.take (k+1)=b.take (k+1)):a.getD k 0=b.getD k 0:=by have c:(a.take<|k+1)[k]? =a[k]?:=g_;grind
theorem TR{b:N_}(h:a.take (k+1)=b.take (k+1)):a.take k=b.take k:=by have c:(a.take<|k+1).take k=a.take k:=g_;grind
theorem V5(b:k<a.length)(d:a.length=ds.length)(c:val (ds.drop (k+1))=D*val (a.drop (k+1))+r):
 val (ds.drop k)=D*val ((a.set k ((ds.getD k 0+4294967296*r)/D)).drop k)+(ds.getD k 0+4294967296*r)%D:=by rw[iq _ k om,iq _ k g_,K9 a k _ b,QH,c];generalize ds.getD k 0=x;generalize val (a.drop<|k+1)=Q;have a:=Jz (x+4294967296*r) D;grind
theorem FM{x}(b:x<4294967296)(a:r<D):(x+4294967296*r)/D<4294967296:=by rw[QC om];omega
theorem Yq{b:N_}(f:k+j<b.length)(g:b.drop (k+j)=a.drop (k+j))(e:val (b.take (k+j))+4294967296^(k+j)*c=val (a.take (k+j))+4294967296^k*(d*val (es.take j))):
 val ((b.set (k+j) ((c+(d*es.getD j 0+a.getD (k+j) 0))%4294967296)).take (k+(j+1)))+4294967296^(k+(j+1))*((c+(d*es.getD j 0+a.getD (k+j) 0))/4294967296)=
  val (a.take (k+(j+1)))+4294967296^k*(d*val (es.take (j+1))):=by have h:=mL b _ (c+(d*es.getD j 0+a.getD (k+j) 0)) f;rw[<-Gs,h,gd a _,gd _ j];grind
theorem zrC{b:N_}(g:k+es.length<a.length)(e:d=ds.getD k 0)(f:val (a.take (k+es.length))+4294967296^(k+es.length)*c=val (b.take (k+es.length))+4294967296^k*(d*val es))(ho:val (b.take (k+es.length))=val (ds.take k)*val es):
 val ((a.set (k+es.length) c).take (k+1+es.length))=val (ds.take (k+1))*val es:=by rw[show k+1+es.length=k+es.length+1 by omega,Rw a _ c g,fU,zX,Qw om,gd _ k,<-e];simp only[val,Ql,qV];grind
theorem zrD(a:c<4294967296)(b:d<4294967296)(f:e<4294967296)(g:z<4294967296):c+(d*e+z)<18446744073709551616/\(c+(d*e+z))/4294967296<4294967296:=by have a:d*e<=4294967295*4294967295:=Z7 om om;omega
theorem U9{b s}(d:gT a)(hb:gT b)(e:b.length<=a.length)(h:val s+4294967296^(a.length+1)*c=val a+val b):val s=val a+val b:=by have f:=gg d;have d:=zK (gg hb)<|gI e;rw[Zv]at h;generalize 4294967296^a.length=p at *;have d:p*2<=p*4294967296:=Zr p om;generalize p*4294967296=r at *;cases c with |zero=>rw[Ql,qV]at h;exact h |succ c=>exfalso;rw[Nat.mul_succ r c]at h;generalize r*c=q at *;omega
theorem BI{b s}{L}(hs:gT s)(d:s.length=L)(c:val b<=val a)(h:val s+1*val b=val a+4294967296^L*r):val s=val a-val b:=by have c:=gg hs;rw[d]at c;generalize 4294967296^L=p at *;cases r with |zero=>omega |succ r=>grind
theorem St(w)(b off cap D)(ds)(f:ds.length<=cap)(g:ds.length<=1073741824)(j:0<D)(d:D<4294967296)(c:Row w b off ds)(p:t_ w b off ds.length)(l:gT ds):
 C_ 242 #[V (E (Xd b off O)) ds.length cap,it .u32 (D:Nat)] w λe w'=>
  ∃a r,e=Xa (it .u32 (r:Nat))/\r<D/\a.length=ds.length/\gT a/\Row w' b off a/\kV b off ds.length w w'/\val ds=D*val a+r:=by
 go_enter func242,ntmps242;go_wp2;go_loopw [5,6] (λlv i wr=>∃(k r:Nat) (a:N_),k<=ds.length/\r<D/\i=i_ ((k:Int)-1)/\lv=it .u64 (r:Nat)/\Hid (a.length=ds.length)/\gT a/\Row wr b off a/\kV b off ds.length w wr/\ Hid (a.take k=ds.take k)/\Hid (val (ds.drop k)=D*val (a.drop k)+r)) (λ_ i _=>(intOf i+1).toNat);case atStart=>exact⟨_,0,_,zh _,j,rfl,rfl,rfl,l,c,Xx _ _ _ _,rfl,by simp[Hid,val]⟩
 case round=>obtain⟨k,r,a,_,m,rfl,rfl,c,i,f,h,o,d⟩:=hrel;cases k with |zero=>have g:=zf d.out;simp only[Q2]at g;clear d;go_wp2;go_ret;exact⟨a,r,sp,m,c.out,i,f,h,g.out⟩ |succ k=>(have g:k<a.length:=by rw[c.out];omega);have a:=f k g;rw[Va o.out]at a;have a:=l.get k;have l:=h.free p k om;have l:=zf<|V5 g c.out d.out;have p:=FM a m;have m:=f.setCell k ((ds.getD k 0+4294967296*r)/D) g;have g:=h.setCell k (by omega)<|it .u32<|((ds.getD k 0+4294967296*r)/D:Nat);have f:=KA r _ om a;have a:=Z0 (ds.getD k 0+4294967296*r) j;have f:ds.getD k 0+4294967296*r<18446744073709551616:=om;generalize ds.getD k 0=x at *;have f:((x+4294967296*r:Nat))/(D)=(((x+4294967296*r)/D:Nat):Int):=sp;have f:((x+4294967296*r:Nat))%(D)=(((x+4294967296*r)%D:Nat):Int):=sp;generalize (x+4294967296*r)/D=q at *;generalize (x+4294967296*r)%D=h at *;generalize x+4294967296*r=y at *;clear d;go_wp2;go_roundw;(case rel=>exact⟨k,h,_,om,a,g_,g_,g_,i.set _ _ p,m,g,by rw[Hid,UU];exact TR o.out,l.out⟩);case measure=>simp[intOf]
theorem ki(h:w.ownsRow base e 1 (V (E (Xd g 0 O)) n cap) n (ds.map λd:Nat=>it .u32 (d)))(a:ds.length=n):Row w g 0 ds:=by intro i a;have:=h.cellAt i om;grind
theorem Ui{xs}(h:w.ownsRow base e 1 (V (E (Xd g 0 O)) n cap) n xs)(m):t_ w g 0 m:=by intro i _;rw[qt];exact h.frozenAt i
theorem LS{xs}(h:w.ownsRow base e 1 (V (E (Xd g 0 O)) n cap) n xs):base<=g/\g<w.heap.size:=h.lt g rfl
def gZ (d:Nat):Value:=it .u32 (d)
theorem j_(h:w.ownsRow base e 1 v n (ds.map gZ))(i:v≠V_):
 ∃g cap,v=V (E (Xd g 0 O)) n cap/\n<=cap/\base<=g/\g<w.heap.size/\Row w g 0 ds/\∀m,t_ w g 0 m:=by have a:=h;obtain⟨b,c|⟨g,cap,_,j,d,_,f,_,_,_⟩⟩:=h;{grind};subst j;rw[zm,jM]at b;exact⟨g,_,rfl,f,d,(LS a).2,ki a b,λm=>Ui a m⟩
theorem vf(ds:N_):∀u∈ds.map gZ,u.oneCell'=true:=by intro u a;obtain⟨_,_,rfl⟩:=qP.1 a;rfl
theorem uy(h:Row w b off ds):∀j u,(ds.map gZ)[j]? =E u->w.cell? ((⟨b,off,O⟩:Addr).add j)=E u:=by intro j u a;rw[zR]at a;cases hd:ds[j]? with |none=>grind |some d=>rw[hd,qY,qN]at a;have:=h j<|(zo.1 hd).1;rw[zk,hd,qB]at this;subst a;by_cases a:j=0;{subst a;simpa[Addr.add,gZ]using this};simpa[Addr.add,gZ,a]using this
theorem O6(w){a}(hg:o.guard=O)(l c)(t)(r:o.op=Op.makeSlice t l c)(e)(i)(h1:P.underlying t=E (.slice e))(h2:P.info? e=E i)(f:i.zero=E (it .u32 0))(g:i.size=1)(h:i.bytes=4)(d b)(L C)(n:Nat)(q:a.eval l=it d L)(p:a.eval c=it b C)(m:L=(n))(j:C=(n))(s:n<=4294967296)(k:∀w',Row w' w.heap.size 0 (kaf n 0)->t_ w' w.heap.size 0 n->Below w.heap.size w w'->w.heap.size<w'.heap.size->
  wpList P ops Q rest (a.put o.dst (V (E (Xd w.heap.size 0 O)) n n)) w'):
 wpList P ops Q (o::rest) a w:=by
 apply wpList_make_full w hg l c t r _ e i _ 1 h1 h2 f g d b L C n q p m j g_ mo<|zh _;intro w' b g;have f:(madeCells (it IntKind.u32 0).cells<|n*1).toList=(kaf n 0).map λd:Nat=>it .u32 d:=by rw[jM,List.map_replicate];exact toList_madeCells_one _ _
 rw[f]at b;exact k _ (ki b sp) (Ui b n) ((qf _ _).grown g (zh _) λk h=>g_) (LS b).2
theorem mW(h:w.heap[g]? =E (cl (ds.map gZ).toArray e (0,0))):Row w g 0 ds/\(∀m,t_ w g 0 m)/\g<w.heap.size:=by refine⟨λi a=>?_,λm i _=>ZK w g _ _ e h,Jw h⟩;rw[qt,ze w g i _ e _ h,List.getElem?_toArray,zR,zg a,zk,zg a];rfl
theorem UD(w){a}(hg:o.guard=O)(l c)(t)(r:o.op=Op.makeSlice t l c)(e)(i)(h1:P.underlying t=E (.slice e))(h2:P.info? e=E i)(f:i.zero=E (it .u32 0))(g:i.size=1)(h:i.bytes=4)(d b)(L C)(n:Nat)(q:a.eval l=it d L)(p:a.eval c=it b C)(m:L=(n))(j:C=(n))(s:n<=4294967296)(k:∀w',Hid (w'.heap[w.heap.size]? =E (cl ((kaf n 0).map gZ).toArray e (0,0)))->Below w.heap.size w w'->
  wpList P ops Q rest (a.put o.dst (V (E (Xd w.heap.size 0 O)) n n)) w'):
 wpList P ops Q (o::rest) a w:=by
 apply wpList_make_full w hg l c t r _ e i _ 1 h1 h2 f g d b L C n q p m j g_ mo<|zh _;intro w' b f;have d:(madeCells (it IntKind.u32 0).cells<|n*1).toList=(kaf n 0).map gZ:=by rw[jM,List.map_replicate];exact toList_madeCells_one _ _
 rw[d]at b;refine k _ ?_<|(qf _ _).grown f (zh _) λk h=>g_;obtain⟨_,h1|⟨_,_,_,f,_,g,_,_,_,d⟩⟩:=b;{exact absurd h1.1 sp};simp only[qp,qN,Jg]at f;obtain⟨⟨rfl,_,_⟩,_,rfl⟩:=f;rw[zP so]at d;rw[Hid,g,<-d]
theorem Vu{a}(q:o.guard=O)(d s)(c j)(ho:o.op= .call { callee:= .builtin .copy,args:=#[d,s],argTypes:=#[c,j] })(e)(u:P.underlying c=E (.slice e))(t:(P.info? e).map (·.size)=E 1)(g b i)(v)(ds es:N_)(p:a.eval d=V (E (Xd g 0 O)) b i)(k:ds.length=b)(hs:a.eval s=v)(f:kR w v es)(hg:w.heap[g]? =E (cl (ds.map gZ).toArray e (0,0)))(l:es.length<=ds.length)(B)(w0)(hb:Below B w0 w)(m:B<=g)(h:∀w',Hid (w'.heap[g]? =E (cl ((es++ds.drop es.length).map gZ).toArray e (0,0)))->Below B w0 w'->wpList P ops Q rest (a.put o.dst (goInt es.length)) w'):
 wpList P ops Q (o::rest) a w:=by have⟨k,l,f,_,r⟩:=f;refine wpList_copy_splice q d s c j ho e u t _ k b i _ l p (hs.trans f) g 0 _ e hg _ g_ ?_ so (vf es) B _ hb m ?_;{intro b;rw[zm]at b;obtain⟨_,off,rfl,_,c⟩:=r<|ZC.1 b;exact⟨rfl,_,rfl,uy c⟩};intro w' b c;rw[zm];refine h _ ?_ c;(have c:splice (ds.map gZ) 0 (es.map gZ)=(es++ds.drop es.length).map gZ:=by simp[splice]);rw[c]at b;exact b
theorem Tryz.DY:(Tryz.prog.info? 214).map (λi=>(i.zero,i.size,i.bytes))=E (E (it .u32 0),1,4):=kr
abbrev Xu:=@Tryz.DY
theorem iK(w)(u v)(m n J K)(D:fe w u m)(W:fe w v n)(hm:m<4294967296^J)(hn:n<4294967296^K)(hK:J+K<=1073741824):
 Calls pg 134 #[u,v] w λe w'=>∃x,e=Xa x/\fe w' x (m*n)/\Below w.heap.size w w':=by by_cases C:m=0;{subst C;go_enter func134,ntmps134;go_wp2_with (go_at_call 129;refine(JR _ _ D).mono ?_;rintro e w' ⟨rfl,rfl⟩);go_ret;exact⟨_,rfl,by rw[Nat.zero_mul];exact Xo _ _ _,qf _ _⟩};by_cases U:n=0;{subst U;go_enter func134,ntmps134;go_wp2_with fail;refine(jW _ _ _ D C).mono ?_;rintro e w' ⟨rfl,rfl⟩;go_wp2_with fail;refine(JR _ _ W).mono ?_;rintro e w' ⟨rfl,rfl⟩;go_wp2;go_ret;exact⟨_,rfl,by rw[Ql];exact Xo _ _ _,qf _ _⟩};have ay:=D;have aA:=W;obtain⟨b,⟨_,_,rfl,L,hr⟩,R,ht,rfl⟩:=D;obtain⟨a,⟨_,_,rfl,_,an⟩,ad,ax,rfl⟩:=W;have hl:=ht.len hm;have aK:=ax.len hn;obtain⟨a0,off,rfl,hb,ar⟩:=hr (λe=>C (by rw[e];rfl));obtain⟨b',aG,rfl,a8,au⟩:=an (λe=>U (by rw[e];rfl));obtain⟨i0,hi,aC,aD,aE⟩:=Zn Xu;go_enter func134,ntmps134;go_wp2_with fail;refine(jW _ _ _ ay C).mono ?_;rintro e w' ⟨rfl,rfl⟩;go_wp2_with fail;refine(jW _ _ _ aA U).mono ?_;rintro e w' ⟨rfl,rfl⟩;go_wp2_with (at_make;refine O6 _ rfl _ _ _ rfl _ _ underlying86 hi aC aD aE _ _ _ _ (b.length+a.length) rfl rfl sp sp om ?_;intro r av a2 s aw);have aJ:=s.size;have az:=Xx w'.heap.size 0 (b.length+a.length) r;have ap:=ar.below s hb;have aq:=au.below s a8;have aa:a0≠w'.heap.size:=om;have ab:b'≠w'.heap.size:=om;generalize af:w'.heap.size=h at *;have HG:=zf af;go_loopw [25] (λY wr=>∃(k:Nat) (f:List Nat),k<=b.length/\Y=it Xb (k:Nat)/\Hid (f.length=b.length+a.length)/\gT f/\Row wr h 0 f/\kV h 0 (b.length+a.length) r wr/\ Hid (val (f.take<|k+a.length)=val (b.take k)*val a)) (λY _=>b.length-(intOf Y).toNat);(case atStart=>refine⟨0,_,qo _,rfl,g_,?_,av,az,?_⟩;{intro d R;grind};rw[Hid,List.take_replicate,rq];simp[val]);case round=>obtain⟨k,f,_,rfl,t,M,N,F,a3⟩:=hrel;by_cases al:k<b.length;{have hx:=F.other aa ap k al;have a5:=R.get k;generalize aB:b.getD k 0=d at *;have a7:=zf aB;go_wp2;go_loopw [8,32] (λcv Z wq=>∃(j c:Nat) (g:List Nat),j<=a.length/\c<4294967296/\Z=it Xb (j:Nat)/\cv=it .u64 (c:Nat)/\Hid (g.length=b.length+a.length)/\gT g/\Row wq h 0 g/\kV h 0 (b.length+a.length) r wq/\ Hid (g.drop (k+j)=f.drop (k+j))/\Hid (val (g.take<|k+j)+4294967296^(k+j)*c=val (f.take<|k+j)+4294967296^k*(d*val (a.take j)))) (λ_ Z _=>a.length-(intOf Z).toNat);(case atStart=>exact⟨0,0,f,qo _,om,rfl,rfl,t,M,N,F,rfl,rfl⟩);case round=>obtain⟨j,c,g,_,L,rfl,rfl,A,a1,B,p,T,a4⟩:=hrel;by_cases ak:j<a.length;{(have i:k+j<g.length:=by rw[A.out];omega);have hy:=p.other ab aq j ak;have a6:=ad.get j;have X:=B _ i;rw[H9 T.out,qt]at X;have aF:=M.get<|k+j;(have ae:wr.frozen? ⟨h,k+j,O⟩=false:=by have:=p.free a2 (k+j) om;rwa [qt]at this);have I:=zf<|Yq i T.out a4.out;have l:=B.setCell _ ((c+(d*a.getD j 0+f.getD (k+j) 0))%4294967296) i;have o:=p.setCell _ (show k+j<b.length+a.length by omega)<|it .u32 (((c+(d*a.getD j 0+f.getD (k+j) 0))%4294967296:Nat):Int);obtain⟨_,a9⟩:=zrD L a5 a6 aF;generalize a.getD j 0=y at *;generalize f.getD (k+j) 0=z at *;rw[qt]at l o;obtain⟨_,_⟩:=O1 d y a5 a6;have aI:((d*y:Nat))=(d)*(y:Int):=sp;have e1:(((c+(d*y+z))%4294967296:Nat))=((c:Int)+(d*y+z))%4294967296:=om;have e2:(((c+(d*y+z))/4294967296:Nat))=((c:Int)+(d*y+z))/4294967296:=om;rw[e1]at l o;have E2:=zf e2;have aH:(c:Int)+(d*y+z)<18446744073709551616:=om;go_wp2;go_roundw;(case rel=>exact⟨j+1,(c+(d*y+z))/4294967296,_,om,a9,by go_num,by grind,by rw[Hid,qX,A.out],a1.set _ _<|Z0 _ dc,l,o,by rw[Hid,<-Gs,QH];exact Di T.out,I.out⟩);case measure=>simp[intOf];omega};have ai:j=a.length:=om;have q:=a4.out;rw[ai,zP<|zh _]at q;(have i:k+a.length<g.length:=by rw[A.out];omega);have I:=zf<|zrC i a7.out.symm q a3.out;have X:=B _ i;have l:=B.setCell _ c i;have o:=p.setCell _ (show k+a.length<b.length+a.length by omega)<|it .u32 (c:Int);(have ae:wr.frozen? ⟨h,k+a.length,O⟩=false:=by have:=p.free a2 (k+a.length) om;rwa [qt]at this);rw[qt]at X l o;generalize ((g.getD (k+a.length) 0:Nat):Int)=zz at *;go_wp2;go_roundw;(case rel=>exact⟨_,_,om,sp,by rw[Hid,qX,A.out],a1.set _ _ L,l,o,I.out⟩);case measure=>simp[intOf];omega};have aj:k=b.length:=om;have q:=a3.out;rw[aj,zP (by rw[t.out];omega),zP<|zh _]at q;have HV:=zf q;(have ah:h<wr.heap.size:=by rw[F.size];exact aw);go_wp2_with fail;refine(ij _ h 0 _ _ f om om (by rw[t.out];omega) N).mono<|fB ?_;go_wp2;go_ret;refine⟨_,rfl,?_,?_⟩;{rw[<-HV.out];exact iu N M ah t.out<|zh _};rw[HG.out];exact s.trans (F.below<|zh _)
def Kg (w w':H)(v:Value)(ds:N_):Prop:=
 ∃ao cap,v=V ao ds.length cap/\ds.length<=cap/\(ds≠ []->∃g,ao=E (Xd g 0 O)/\w.heap.size<=g/\g<w'.heap.size/\Row w' g 0 ds/\t_ w' g 0 ds.length)
theorem L1(w)(v)(ds)(a:kR w v ds)(N:ds.length<=1073741824):
 C_ 219 #[v] w λe w'=>∃x,e=Xa x/\Kg w w' x ds/\Below w.heap.size w w':=by obtain⟨u,b,rfl,_,l⟩:=a;have c:=λw=>Ly w 86 _ u ds.length b 0 0 underlying86;by_cases A:ds= [];{subst A;cases u with |none=>have c:=λw=>Ly w 86 _ O 0 b 0 0 underlying86;go_enter func219,ntmps219;go_wp2;go_ret;exact⟨_,rfl,⟨O,0,rfl,zh _,λh=>absurd rfl h⟩,qf _ _⟩ |some t=>have c:=λw=>Ly w 86 _ (E t) 0 b 0 0 underlying86;have⟨r,j,o,p,q⟩:=Zn Xu;go_enter func219,ntmps219;go_wp2_with (at_builtin;apply MV _ rfl _ _ _ rfl _ 214 r _ 1 4 underlying86 j o p q rfl dc (V (E<|y_ w 0) 0 0) 0 [] rfl (World.ownsRow_lit w #[] 0 (zh _) mo rfl) t 0 b [] rfl rfl sp sp mo om sp;intro s M d i k);go_ret;have m:s≠V_:=λe=>g_;have⟨z,f,a,g,B,C,D,F⟩:=j_ (ds:= []) d m;exact⟨_,rfl,⟨_,f,a,sp,λh=>absurd rfl h⟩,((qf _ _).alloc (zh _) _).grown i sp λL h=>by simp[Value.ownBlock]at h;omega⟩};obtain⟨y,off,rfl,I,J⟩:=l A;have⟨r,j,o,p,q⟩:=Zn Xu;go_enter func219,ntmps219;go_wp2_with (at_builtin;apply MV _ rfl _ _ _ rfl _ 214 r _ 1 4 underlying86 j o p q rfl dc (V (E<|y_ w 0) 0 0) 0 [] rfl (World.ownsRow_lit w #[] 0 (zh _) mo rfl) ⟨y,_,O⟩ _ b _ rfl sp (uy<|J.below ((qf _ _).alloc (zh _) _) I) (vf _) mo om sp;intro s M d i k);go_ret;have m:s≠V_:=λe=>g_;rw[Q7]at d;have⟨z,f,a,g,B,C,D,F⟩:=j_ d m;rw[qt]at a g;exact⟨_,rfl,⟨_,f,a,g,λ_=>⟨z,rfl,B,C,D,F _⟩⟩,((qf _ _).alloc (zh _) _).grown i sp λL h=>by simp[Value.ownBlock]at h;omega⟩
theorem Tryz.yg:(Tryz.prog.info? 214).map (·.size)=E 1:=kr
theorem J9(h:fe w v n){K}(e:n<4294967296^K):∃ds,kR w v ds/\gT ds/\nJ ds/\val ds=n/\ds.length<=K:=by have⟨ds,c,d,a,b⟩:=h;exact⟨_,c,d,a,b,a.len om⟩
theorem uD(w)(u v)(m n K)(hu:fe w u m)(hv:fe w v n)(hm:m<4294967296^K)(hn:n<4294967296^K)(hK:K<=1073741823):
 C_ 161 #[u,v] w λe w'=>∃x,e=Xa x/\fe w' x (m+n)/\Below w.heap.size w w':=by obtain⟨c,T,f,_,rfl,_⟩:=J9 hu hm;obtain⟨d,W,q,_,rfl,_⟩:=J9 hv hn;have U:=T;have X:=W;obtain⟨_,_,rfl,_,_⟩:=T;obtain⟨_,_,rfl,_,_⟩:=W;have⟨i0,R,Y,Z,a0⟩:=Zn Xu;by_cases a3:c.length<d.length;{go_enter func161,ntmps161;go_wp2_with (first|(at_make;apply UD _ rfl _ _ _ rfl 214 _ underlying86 R Y Z a0 _ _ _ _ (d.length+1) rfl rfl sp sp om;intro w1 t h)|(apply Vu rfl _ _ _ _ rfl 214 underlying86 Tryz.yg _ _ _ _ _ d rfl sp rfl (X.below h) t.out sp _ w h<|zh _;intro N j i));have A:d++(kaf (d.length+1) 0).drop d.length=d ++ [0]:=sp;rw[A]at j;have⟨F,B,I⟩:=mW j.out;have D:(d ++ [0]).length=d.length+1:=sp;have g:=OH N _ 0 (d.length+1) _ c _ om om om F (B _) (gT.append q (by intro a2 f;grind)) (U.GI i _<|zh _) f;rw[D]at g;refine g.mono<|eU λp ⟨r,a1,C,y,l,o,L⟩=>?_;(have J:w.heap.size<p.heap.size:=by rw[o.size];exact I);go_wp2_with fail;apply(ij _ _ 0 _ _ r om om om l).mono;rintro e w4 ⟨rfl,rfl⟩;go_wp2;go_ret;refine⟨_,rfl,?_,i.trans<|o.below<|zh _⟩;have k:=iu l y J C<|zh _;rw[(U9 q f om<|L.trans (by rw[fU];rfl)),Nat.add_comm _<|val c]at k;exact k};go_enter func161,ntmps161;go_wp2_with (first|(at_make;apply UD _ rfl _ _ _ rfl 214 _ underlying86 R Y Z a0 _ _ _ _ (c.length+1) rfl rfl sp sp om;intro w1 t h)|(apply Vu rfl _ _ _ _ rfl 214 underlying86 Tryz.yg _ _ _ _ _ c rfl sp rfl (U.below h) t.out sp _ w h<|zh _;intro N j i));have A:c++(kaf (c.length+1) 0).drop c.length=c ++ [0]:=sp;rw[A]at j;have⟨F,B,I⟩:=mW j.out;have D:(c ++ [0]).length=c.length+1:=sp;have g:=OH N _ 0 (c.length+1) _ d _ om om om F (B _) (gT.append f (by intro a2 f;grind)) (X.GI i _<|zh _) q;rw[D]at g;refine g.mono<|eU λp ⟨r,a1,C,y,l,o,L⟩=>?_;(have J:w.heap.size<p.heap.size:=by rw[o.size];exact I);go_wp2_with fail;refine(ij _ _ 0 _ _ r om om om l).mono<|fB ?_;go_wp2;go_ret;refine⟨_,rfl,?_,i.trans<|o.below<|zh _⟩;have k:=iu l y J C<|zh _;rw[(U9 f q om<|L.trans (by rw[fU];rfl))]at k;exact k
theorem kR.drewN(h:kR w v ds)(q):kR (w.drewN q) v ds:=h
theorem fe.drewN(h:fe w v n)(q):fe (w.drewN q) v n:=h
theorem JJ(h:Below B (w.drewN q) w'):Below B w w':=⟨h.os,h.tape,h.output,h.size,h.block⟩
theorem Ld(h:Below B w w'):Below B w (w'.drewN q):=⟨h.os,h.tape,h.output,h.size,h.block⟩
theorem zqd(w)(a:A_)(cap):
 C_ 165 #[V a 0 cap] w λe w'=>e=Xa (V a 0 cap)/\w'=w:=by
 go_enter func165,ntmps165;go_wp2;go_loop [0] (λv=>v=V a 0 cap) lenOf;case atStart=>rfl
 case round=>subst hrel;go_wp2;go_ret;simp
theorem zkW(w)(a b:A_)(cap c n)(f):
 C_ 220 #[V a 0 cap,V b n c,it .u32 f] w λe w'=>e=Xa (it .u64 0)/\w'=w:=by
 go_enter func220,ntmps220;go_wp2;go_loop [7,8,13] (λc b i=>c=it .u64 0/\b=it .u64 0/\i=i_ 0) (λ_ _ _=>0);case atStart=>grind
 case round=>obtain⟨rfl,rfl,rfl⟩:=hrel;go_wp2;go_ret;exact⟨rfl,rfl⟩
theorem UI{w1}{x}(j:Kg w w1 x ds)(f:Below w.heap.size w w1)(u:ds.length<=1073741824)(p:gT ds)(q:gT es)(m:kR w v es)(k:es.length<=ds.length)(t:val es<=val ds):
 C_ 220 #[x,v,it .u32 1] w1 λe c=>(∃r,e=Xa (it .u64 (r:Nat)))/\Below w.heap.size w c/\
  C_ 165 #[x] c λe g=>∃y,e=Xa y/\fe g y (val ds-val es)/\Below w.heap.size w g:=by obtain⟨h,d,rfl,i,z⟩:=j;by_cases j:ds= [];{subst j;have l:=Qk.1 (by simpa using k);subst l;obtain⟨l,o,rfl,_,_⟩:=m;apply(zkW _ h l d o 0 1).mono;rintro e c ⟨rfl,rfl⟩;refine⟨⟨0,rfl⟩,f,?_⟩;apply(zqd _ h d).mono;rintro e g ⟨rfl,rfl⟩;exact⟨_,rfl,Xo _ _ _,f⟩};obtain⟨h,rfl,l,s,A,o⟩:=z j;apply(RT _ h 0 d 1 _ _ v i u k om A o p (m.GI f h l) q).mono;rintro e c ⟨q,r,rfl,_,m,k,o,p,u⟩;have j:=f.trans<|p.below l;refine⟨⟨r,rfl⟩,j,?_⟩;refine(ij c h 0 d _ q i om om o).mono<|fB ?_;refine⟨_,rfl,?_,j⟩;have c:=iu o k (by rw[p.size];omega) m i;rw[BI k m t u]at c;exact c
theorem OW(w)(u v)(m n K)(r:fe w u m)(s:fe w v n)(hm:m<4294967296^K)(o:n<4294967296^K)(a:K<=1073741823):
 C_ 162 #[u,v] w λe w'=>∃x,e=Xa x/\fe w' x ((m-n)+(n-m))/\Below w.heap.size w w':=by have⟨a,z,j,d,_,_⟩:=J9 r hm;have⟨b,A,k,C,_,_⟩:=J9 s o;by_cases c:m<n;{(have l:a.length<=b.length:=by rcases Qc b.length a.length with h|h;{have:=d.kH k h;omega};omega);go_enter func162,ntmps162;go_wp2_with fail;apply(fX w u v m n K r s hm o om).mono;rintro e y ⟨rfl,q,rfl⟩;rw[Dj c];go_wp2_with fail;refine(L1 (w.drewN q) v b A om).mono<|eP λy x p f=>?_;go_wp2_with fail;apply (UI p f om k j (z.drewN q) l om).mono;rintro e F ⟨⟨D,rfl⟩,B,i⟩;go_wp2_with fail;refine i.mono<|eP λI J t d=>?_;go_wp2;go_ret;refine⟨_,rfl,?_,JJ d⟩;have c:(m-n)+(n-m)=val b-val a:=om;rw[c];exact t};(have l:b.length<=a.length:=by rcases Qc a.length b.length with h|h;{have:=C.kH j h;omega};omega);(have C:0<=Jy m n:=by rcases Qc n m with h|h;{rw[Db h];omega};rw[Gm om];omega);go_enter func162,ntmps162;go_wp2_with fail;apply(fX w u v m n K r s hm o om).mono;rintro e y ⟨rfl,q,rfl⟩;generalize Jy m n=h at *;go_wp2_with fail;refine(L1 (w.drewN q) u a z om).mono<|eP λy x p f=>?_;go_wp2_with fail;apply (UI p f om j k (A.drewN q) l om).mono;rintro e F ⟨⟨D,rfl⟩,B,i⟩;go_wp2_with fail;refine i.mono<|eP λI J t d=>?_;go_wp2;go_ret;refine⟨_,rfl,?_,JJ d⟩;have c:(m-n)+(n-m)=val a-val b:=om;rw[c];exact t
def Bh (K:Nat):Prop:=∀w u v m n,fe w u m->fe w v n->m<4294967296^K->n<4294967296^K->
 C_ 194 #[u,v] w λe w'=>∃x y,e=Xa (tp #[x,y])/\fe w' x (m/n)/\fe w' y (m%n)/\b_ w w'
def CK (K:Nat):Prop:=∀w u v m n,fe w u m->fe w v n->m<4294967296^K->n<=m->4294967296^2<=m->4294967296<=n->
 C_ 243 #[u,v] w λe w'=>∃x y,e=Xa (tp #[x,y])/\fe w' x (m/n)/\fe w' y (m%n)/\b_ w w'
theorem nJ.ge(a:gT ds)(b:4294967296^k<=val ds):k<ds.length:=by rcases Qc k ds.length with h|h;{omega};have b:=gg a;have a:=gI h;omega
theorem Hq(w)(x)(n:Nat)(b:x=(n:Int))(a:n<18446744073709551616):
 C_ 90 #[it .u64 x] w λe w'=>∃v,e=Xa v/\fe w' v n/\Below w.heap.size w w':=by subst b;exact Lj w n a
theorem zqe(K)(hK:K<=1073741823)(hL:CK K):Bh K:=by intro ar aq Z m n b a hm k;by_cases i:n=0;{subst i;go_enter func194,ntmps194;go_wp2_with fail;refine(JR _ _ a).mono ?_;rintro e c ⟨rfl,rfl⟩;go_wp2;go_ret2;exact⟨_,_,rfl,by rw[Nat.div_zero];exact Xo _ _ _,by rw[Nat.mod_zero];exact b,qf _ _⟩};by_cases w:m<n;{go_enter func194,ntmps194;go_wp2_with fail;refine(jW _ _ _ a i).mono ?_;rintro e c ⟨rfl,rfl⟩;go_wp2_with fail;refine(fX c _ Z m n K b a hm k om).mono ?_;rintro e f ⟨rfl,q,rfl⟩;rw[Dj w];go_wp2;go_ret2;exact⟨_,_,rfl,by rw[jH w];exact Xo _ _ _,by rw[Jk w];exact b.drewN q,Ld<|qf _ _⟩};(have av:0<=Jy m n:=by rcases Qc n m with I|I;{rw[Db I];omega};rw[Gm om];omega);by_cases J:m<4294967296^2;{obtain⟨h,r,v,ht,y,hl⟩:=J9 b J;obtain⟨ao,a2,rfl,hc,hr⟩:=r;have x:m<18446744073709551616:=J;have ae:n<18446744073709551616:=om;go_enter func194,ntmps194;go_wp2_with fail;refine(jW _ _ _ a i).mono ?_;rintro e c ⟨rfl,rfl⟩;go_wp2_with fail;refine(fX c _ Z m n K b a hm k om).mono ?_;rintro e f ⟨rfl,q,rfl⟩;generalize Jy m n=C at *;go_wp2_with fail;refine(KG _ _ m (b.drewN q) x).mono ?_;rintro e f ⟨rfl,rfl⟩;go_wp2_with fail;refine(KG _ _ n (a.drewN q) ae).mono ?_;rintro e f ⟨rfl,rfl⟩;go_wp2;have N:m/n<18446744073709551616:=qu (xR _ _) x;have ah:m%n<18446744073709551616:=qu (Nat.mod_le _ _) x;(have W1:Hid (IntKind.u64.wrap ((m:Int)/(n:Int))=((m/n:Nat):Int)):=by (have e:∀n:Int,IntKind.u64.wrap n=n%18446744073709551616:=λn=>by rfl);rw[Hid,e,<-Int.natCast_ediv];generalize m/n=q0 at N;omega);have W2:Hid ((m:Int).tmod (n:Int)=((m%n:Nat):Int)):=rfl;go_region_with (first|(go_at_call_of 90 (IntKind.u64.wrap<|(m:Int)/(n:Int));refine(Hq _ _ _ W1.out N).mono<|eP λwA a0 A M=>?_)|(go_at_call_of 90 ((m:Int).tmod (n:Int));refine(Hq _ _ _ W2.out ah).mono<|eP λwB a1 l j=>?_));go_wp2;go_ret2;exact⟨_,_,rfl,A.below j,l,JJ<|M.trans<|j.mono M.size⟩};obtain⟨h,r,v,ht,y,hl⟩:=J9 b hm;obtain⟨g,W,a3,an,z,_⟩:=J9 a k;have ab:2<h.length:=nJ.ge v om;have ap:=r;obtain⟨ao,a2,rfl,hc,hr⟩:=r;have ay:=W;obtain⟨_,_,rfl,_,ai⟩:=W;by_cases h1:g.length=1;{match g,h1 with |[d],_=>simp only[val,Ql,qV]at z;subst z;obtain⟨t,off,rfl,hb,ak⟩:=ai sp;(have a4:ar.cell? (Xd t off O)=E (it .u32 (d:Nat)):=by have:=ak 0 sp;simpa using this);have a6:=a3 d sp;go_enter func194,ntmps194;go_wp2_with fail;refine(jW _ _ _ a i).mono ?_;rintro e c ⟨rfl,rfl⟩;go_wp2_with fail;refine(fX c _ _ m d K b a hm k om).mono ?_;rintro e f ⟨rfl,q,rfl⟩;generalize Jy m d=C at *;go_wp2_with fail;refine(L1 _ _ h (ap.drewN q) om).mono ?_;rintro e f ⟨a0,rfl,⟨_,B,rfl,u,aj⟩,o⟩;obtain⟨F,rfl,hg,a9,al,a8⟩:=aj g_;have aw:=(o.cell am).trans a4;go_wp2_with fail;refine(St f F 0 B d h u om om a6 al a8 v).mono ?_;rintro e w2 ⟨D,Y,rfl,R,aa,a5,T,U,X⟩;go_wp2_with fail;refine(ij _ F 0 B _ D u om om T).mono<|fB ?_;go_wp2_with fail;refine(Hq _ _ Y sp om).mono<|eP λw4 a1 l j=>?_;go_wp2;go_ret2;have hq:=iu T a5 (by rw[U.size];omega) aa u;(have a7:m/d=val D:=by rw[<-y,X];rw[Nat.mul_add_div om,jH R,qV]);(have ad:m%d=Y:=by rw[<-y,X];rw[Nat.mul_add_mod,Jk R]);have L:Below c.heap.size c _:=JJ<|o.trans<|U.below hg;exact⟨_,_,rfl,by rw[a7];exact hq.below j,by rw[ad];exact l,L.trans<|j.mono L.size⟩};have au:((g.length:Int) == 1)=false:=ZN.2 om;(have af:4294967296<=n:=by (have ax:1<g.length:=by have:g.length≠0:=λe=>i (by rw[<-z,Qk.1 e];rfl);omega);obtain⟨s,hj⟩:∃s,g.length=s+1:=⟨g.length-1,om⟩;have h3:=an.le s hj;have h4:=gI (show 1<=s by omega);omega);go_enter func194,ntmps194;go_wp2_with fail;refine(jW _ _ _ a i).mono ?_;rintro e c ⟨rfl,rfl⟩;go_wp2_with fail;refine(fX c _ _ m n K b a hm k om).mono ?_;rintro e f ⟨rfl,q,rfl⟩;generalize Jy m n=C at *;go_wp2_with fail;refine(hL _ _ _ m n (b.drewN q) (a.drewN q) hm om om af).mono ?_;rintro e w2 ⟨a0,a1,rfl,A,l,o⟩;go_wp2;go_ret2;exact⟨_,_,rfl,A,l,JJ o⟩
structure zn (B:Nat)(W W':H):Prop where
 os:W'.os=W.os
 tape:W'.tape=W.tape
 output:W'.output=W.output
 size:W.heap.size<=W'.heap.size
 block:∀(k:Nat) (o:Obj),W.heap[k]? =E o->(k<B\/o.isCells=true)->W'.heap[k]? =E o
theorem zn.refl(B)(W):zn B W W:=⟨rfl,rfl,rfl,zh _,λ_ _ h _=>h⟩
theorem zn.trans{X Y Z}(h:zn B X Y)(k:zn B Y Z):zn B X Z:=⟨k.os.trans h.os,k.tape.trans h.tape,k.output.trans h.output,zF h.size k.size,λi o b a=>k.block i o (h.block i o b a) a⟩
theorem zn.mono{B'}{a}(h:zn B W a)(b:B'<=B):zn B' W a:=⟨h.os,h.tape,h.output,h.size,λk o a c=>h.block k o a<|c.imp (λh=>zK h b) id⟩
theorem zn.eX{a}(h:Below W.heap.size W a):zn B W a:=⟨h.os,h.tape,h.output,h.size,λk _ a _=>(h.block k (zd.1 a).1).trans a⟩
theorem zn.alloc(B)(W)(o):zn B W (W.alloc o):=zn.eX ((qf _ _).alloc (zh _) o)
theorem zn.putObj{o}(a)(c:B<=l)(b:W.heap[l]? =E o)(ho:o.isCells=false):zn B W (W.putObj l a):=⟨rfl,rfl,rfl,sp,λk x a d=>by have c:k≠l:=g_;exact(Z4 c).trans a⟩
theorem zn.below{a}{b}(h:zn B W b)(hb:Below a w W)(c:a<=B)(d:a<=w.heap.size):Below a w b:=⟨h.os.trans hb.os,h.tape.trans hb.tape,h.output.trans hb.output,zF hb.size h.size,λk b=>by (have a:k<W.heap.size:=by have:=hb.size;omega);rw[<-hb.block k b,qD a];exact h.block k _ (qD a)<|.inl om⟩
theorem cells_of_cell(h:W.cell? p=E v):∃o,W.heap[p.block]? =E o/\o.isCells=true:=by unfold World.cell? at h;cases ho:W.heap[p.block]? with |none=>grind |some o=>exact⟨o,rfl,by cases o<;>simp_all[Obj.isCells]⟩
theorem zn.cell{a}(h:zn B W a)(b:W.cell? p=E v):a.cell? p=E v:=by have⟨o,a,c⟩:=cells_of_cell b;exact(Zj<|(h.block _ o a<|.inr c).trans a.symm).trans b
theorem zn.frozen{a}(h:zn B W a)(b:W.cell? p=E v):a.frozen? p=W.frozen? p:=by have⟨o,a,c⟩:=cells_of_cell b;exact qw ((h.block _ o a<|.inr c).trans a.symm)
theorem zn.drewN(B)(W)(q):zn B W (W.drewN q):=⟨rfl,rfl,rfl,zh _,λ_ _ h _=>h⟩
theorem Below.drawn{a}(h:Below B a w)(q):Below B a (w.drewN q):=h.trans ⟨rfl,rfl,rfl,zh _,λ_ _=>rfl⟩
structure Wr (T:Nat->Prop)(w w':H):Prop where
 os:w'.os=w.os
 tape:w'.tape=w.tape
 output:w'.output=w.output
 size:w.heap.size<=w'.heap.size
 block:∀k,k<w.heap.size->¬T k->w'.heap[k]? =w.heap[k]?
theorem Wr.refl(T)(w):Wr T w w:=⟨rfl,rfl,rfl,zh _,λ_ _ _=>rfl⟩
abbrev Xk:=@Wr.refl
theorem Wr.trans{T}{a b c}(h:Wr T a b)(k:Wr T b c):Wr T a c:=⟨k.os.trans h.os,k.tape.trans h.tape,k.output.trans h.output,zF h.size k.size,λi d e=>(k.block i (zK d h.size) e).trans<|h.block i d e⟩
theorem Wr.eX{T}(h:Below w.heap.size w w'):Wr T w w':=⟨h.os,h.tape,h.output,h.size,λk a _=>h.block k a⟩
abbrev Xh:=@Wr.eX
theorem Wr.setCell{T}{a}(h:Wr T a w)(c:T p.block)(u):Wr T a (w.setCell p u):=h.trans ⟨rfl,rfl,rfl,by simp[World.setCell],λk _ b=>qC _ _ _ _ λe=>b<|e▸c⟩
abbrev Xs:=@Wr.setCell
theorem Wr.mono{T a}(h:Wr T w w')(c:∀k,T k->a k):Wr a w w':=⟨h.os,h.tape,h.output,h.size,λk a b=>h.block k a λe=>b<|c k e⟩
theorem Wr.below{T}(h:Wr T w w')(b:B<=w.heap.size)(a:∀k,T k->B<=k):Below B w w':=⟨h.os,h.tape,h.output,h.size,λk b=>h.block k om λe=>g_⟩
theorem Wr.cell{T}(h:Wr T w w')(b:¬T p.block)(a:w.cell? p=E v):w'.cell? p=E v:=(Zj<|h.block p.block (zw a) b).trans a
theorem YieldAt.any(m){args:W_}{R}(h:YieldAt kak n P l args W R):YieldAt kak m P l args W R:=by have⟨d,f,b,c,e,a⟩:=h;exact⟨d,f,b,c,e,a.1,λc cs _=>a.2 c cs<|room_wide _⟩
abbrev XB:=@YieldAt.any
def oW (P:Program)(g:Nat)(lb:W_)(vs:List (W_))(C:H->Prop):Prop:=
 ∀l (J:Nat->(Nat->Prop)->H->Prop) (Jx:Nat->H->Prop) M0 W,
  (∀k M A B,J k M A->zn W.heap.size A B->J k M B)->(∀k A B,Jx k A->zn W.heap.size A B->Jx k B)->
  (∀k M A,J k M A->C A/\∀x,M x->x<A.heap.size)->
  (∀k v M W1,vs[k]? =E v->J k M W1->YieldAt kak 0 P l v W1 λe W'=>
   (e=Xa (G true)/\Wr M W1 W'/\∃M',J (k+1) M' W'/\∀x,M' x->M x\/W1.heap.size<=x)\/(e=Xa (G false)/\Wr M W1 W'/\Jx k W'))->
  J 0 M0 W->
  Calls P g (#[.func (.yield l) #[] #[]]++lb) W λe W'=>(∃v,e=Xa v)/\((∃M,J vs.length M W')\/∃k,k<vs.length/\Jx k W')
def ZL (M:Nat->Prop)(I:Nat->(Nat->Prop)->H->Prop)(Ix:Code->Nat->H->Prop)(k:Nat)(W W2:H):Exit->Act->H->Prop
 |.normal,_,W'=>Wr M W2 W'/\∃M',I (k+1) M' W'/\∀x,M' x->M x\/W.heap.size<=x
 |.ret,_,W'=>Wr M W2 W'/\Ix .ret k W'
 |.exit id,_,W'=>Wr M W2 W'/\Ix (.exit id) k W'
 |.goto t,_,W'=>Wr M W2 W'/\Ix (.goto t) k W'
 |.panic _,_,_=>False
 |.outgrown,_,_=>False
def Zz (P:Program)(n B:Nat)(M:Nat->Prop)(I:Nat->(Nat->Prop)->H->Prop)(Ix:Code->Nat->H->Prop)(ps:Array Tmp)(assign body:Code)(a:Act)(l k:Nat)(v:W_)(W:H):Prop:=
 assign.wpIn (Fence.wide.inRound l) n P
  (Exit.then (λa' W'=>Wr M W W'/\∀W2,zn B W' W2->body.wpIn (Fence.wide.inRound l) n P (ZL M I Ix k W W2) a' W2) (λ_ _ _=>False))
  { tmps:=(ps.zip v).foldl (λt (p,u)=>t.setIfInBounds p u) a.tmps,defers:= [] } W
theorem Wr.putObj{T}(b:T l)(o):Wr T w (w.putObj l o):=⟨rfl,rfl,rfl,sp,λk _ a=>Z4 λe=>a<|e▸b⟩
theorem Wr.some{T}(h:Wr T w w'){o}(ho:w.heap[k]? =Option.some o)(a:¬T k):w'.heap[k]? =Option.some o:=(h.block k (zd.1 ho).1 a).trans ho
def LK (M:Nat->Prop)(I:Nat->(Nat->Prop)->H->Prop)(Ix:Code->Nat->H->Prop)(k:Nat)(W W2:H):Exit->Act->H->Prop
 |.normal,_,W'=>Wr (λx=>M x\/W.heap.size<=x) W2 W'/\∃M',I (k+1) M' W'/\∀x,M' x->M x\/W.heap.size<=x
 |.ret,_,W'=>Wr (λx=>M x\/W.heap.size<=x) W2 W'/\Ix .ret k W'
 |.exit id,_,W'=>Wr (λx=>M x\/W.heap.size<=x) W2 W'/\Ix (.exit id) k W'
 |.goto t,_,W'=>Wr (λx=>M x\/W.heap.size<=x) W2 W'/\Ix (.goto t) k W'
 |.panic _,_,_=>False
 |.outgrown,_,_=>False
def F7 (P:Program)(n B:Nat)(M:Nat->Prop)(I:Nat->(Nat->Prop)->H->Prop)(Ix:Code->Nat->H->Prop)(ps:Array Tmp)(assign body:Code)(a:Act)(l k:Nat)(v:W_)(W:H):Prop:=
 assign.wpIn (Fence.wide.inRound l) n P
  (Exit.then (λa' W'=>Wr M W W'/\∀W2,zn B W' W2->body.wpIn (Fence.wide.inRound l) n P (LK M I Ix k W W2) a' W2) (λ_ _ _=>False))
  { tmps:=(ps.zip v).foldl (λt (p,u)=>t.setIfInBounds p u) a.tmps,defers:= [] } W
theorem VL{M N:Nat->Prop}{X Y}(h:Wr M W X)(k:Wr (λx=>N x\/W.heap.size<=x) X Y)(d:∀x,N x->M x):Wr M W Y:=⟨k.os.trans h.os,k.tape.trans h.tape,k.output.trans h.output,zF h.size k.size,λb a c=>(k.block b (zK a h.size) λe=>e.elim (λe=>c<|d b e) λe=>om).trans<|h.block b a c⟩
theorem Zz.wk{M}{I}{b}{e}{c d}{a}{v}(h:Zz P n B M I b e c d a l k v W):F7 P n B M I b e c d a l k v W:=by
 refine De h λe a w b=>?_
 cases e with
 |normal=>
  refine⟨b.1,λc d=>De (b.2 c d) λe a w h=>?_⟩;cases e<;>first|exact⟨h.1.mono λ_=> .inl,h.2⟩|exact h
 |_=>exact b
theorem Vv{A B}(h:Wr (λ_=>False) A B):zn m A B:=zn.eX (h.below (zh _) λ_ e=>e.elim)
def IF (F:Nat->H->Nat->Prop)(NN:H->Nat->Prop)(P:Program)(g:Nat)(lb:W_)(n:Nat)(Y:Nat->W_->H->Prop)(C:H->Prop):Prop:=
 ∀l (J:Nat->(Nat->Prop)->H->Prop) (Jx:Nat->H->Prop) M0 W,
  (∀k M A B,J k M A->zn W.heap.size A B->J k M B)->(∀k A B,Jx k A->zn W.heap.size A B->Jx k B)->
  (∀k M A B,J k M A->Wr (F W.heap.size A) A B->J k M B)->(∀k A B,Jx k A->Wr (F W.heap.size A) A B->Jx k B)->
  (∀k M A,J k M A->C A/\∀x,M x->x<A.heap.size/\NN A x)->
  (∀k v M W1,k<n->Y k v W1->J k M W1->YieldAt kak 0 P l v W1 λe W'=>
   (e=Xa (G true)/\Wr M W1 W'/\∃M',J (k+1) M' W'/\∀x,M' x->M x\/W1.heap.size<=x)\/(e=Xa (G false)/\Wr M W1 W'/\Jx k W'))->
  J 0 M0 W->
  Calls P g (#[.func (.yield l) #[] #[]]++lb) W λe W'=>(∃v,e=Xa v)/\((∃M,J n M W')\/∃k,k<n/\Jx k W')
theorem Vd{g}{h}{t u}{a}{w}{f}{j}{F}{NN}(z:∀B W b,F B W b->B<=b)(R:∀B B' W b,B<=B'->F B' W b->F B W b)(a0:∀W b o,W.heap[b]? =E o->o.isCells=false->NN W b)(y:IF F NN P f j e Y C)(hg:a.eval g= .func (.func f) #[] j)(p:∀args w,(callFunc f args).run P w= .ok (.enter f args) w)(a2:∀k v W,Y k v W->v.size=h.size)(I)(d)(M0)(U:∀k M A B,I k M A->zn w.heap.size A B->I k M B)(K:∀c k A B,d c k A->zn w.heap.size A B->d c k B)(X:∀k M A B,I k M A->Wr (F w.heap.size A) A B->I k M B)(Z:∀c k A B,d c k A->Wr (F w.heap.size A) A B->d c k B)(L:∀k M A,I k M A->C A/\∀x,M x->x<A.heap.size/\NN A x)(m:I 0 M0 w)(a4:∀(l k:Nat) (v:W_) (M:Nat->Prop) (W:H),k<e->Y k v W->I k M W->F7 P n w.heap.size M I d h t u a l k v W)(a1:∀(D:Nat) (M:Nat->Prop) (W:H),D=w.heap.size->(∀x,M x->x<D\/D+2<=x)->I e M W->W.heap[D]? =E (.deferred (E []))->Q .normal { a with defers:={ target:= .collected D,args:=#[] } :: a.defers } W)(a5:∀(D:Nat) (c:Code) (k:Nat) (W:H),w.heap.size<=D->k<e->d c k W->W.heap[D]? =E (.deferred (E []))->c.wpIn kak n P Q { a with defers:={ target:= .collected D,args:=#[] } :: a.defers } W):
 (Code.rangeFunc g h t u).wpIn kak n P Q a w:=by
 refine wpIn_rangeFunc λT _=>?_
 obtain⟨i,hrc⟩:∃i:LoopState->Option _->Loop,i=λq e=>⟨q,e,T,a.tmps,h,t,u,w.heap.size⟩:=⟨_,rfl⟩
 obtain⟨e,hW0⟩:∃e,(w.alloc<|.deferred<|E []).alloc (.loop<|i .ready O)=e:=⟨_,rfl⟩;obtain⟨l,hl⟩:∃l,w.heap.size+1=l:=⟨_,rfl⟩;have s:e.heap[l]? =E (.loop<|i .ready O):=by
  rw[<-hW0,<-hl];have h:=qR (w.alloc<|.deferred<|E [])<|.loop<|i .ready O;rwa [zL]at h
 have q:e.heap[w.heap.size]? =E (.deferred<|E []):=by
  rw[<-hW0];exact(qH _ _ _ sp).trans (qR w _)
 have r:I 0 _ e:=U _ _ _ _ m (by rw[<-hW0];exact(zn.alloc _ _ _).trans<|zn.alloc _ _ _);have J:e.heap.size=w.heap.size+2:=by rw[<-hW0];simp
 have J:w.heap.size<=e.heap.size:=om;refine⟨l,[{ target:= .collected w.heap.size,args:=#[] }],e,{ target:= .fn (.func f) j,args:=#[.func (.yield l) #[] #[]] },e,f,
  #[.func (.yield l) #[] #[]]++j,e,?_,?_,λ_ _=>trivial,?_,(λh=>by cases h),zq.2 ?_⟩
 ·rw[<-hW0,<-hl,hrc];exact run_enterLoop_outer _ _ _ _ _
 ·simp only[resolve,hg];simp[go_sem]
 ·simp[invoke,go_sem,p]
 ·refine(y l
   (λk M W=>∃N,(∀x,M x↔N x\/x=l)/\I k N W/\(∀x,N x->x<w.heap.size\/e.heap.size<=x)/\W.heap[l]? =E (.loop _)/\W.heap[w.heap.size]? =E (.deferred _))
   (λk W=>∃c,d c k W/\W.heap[l]? =E (.loop<|i .done<|E c)/\W.heap[w.heap.size]? =E (.deferred<|E []))
   _ e ?_ ?_ ?_ ?_ ?_ ?_ ⟨_,λ_=>Qb,r,λx f=> .inl ((L _ _ _ m).2 x f).1,s,q⟩).mono ?_
  ·rintro k M A B ⟨N,p,m,r,s,y⟩ d;exact⟨N,p,U _ _ _ _ m<|d.mono J,r,d.block _ _ s<|.inl om,d.block _ _ y<|.inl om⟩
  ·rintro k A B ⟨c,p,m,r⟩ d;exact⟨c,K _ _ _ _ p<|d.mono J,d.block _ _ m<|.inl om,d.block _ _ r<|.inl om⟩
  ·rintro k M A B ⟨N,p,m,r,s,y⟩ d;exact⟨N,p,X _ _ _ _ m<|d.mono λk q=>R _ _ _ _ J q,r,d.some s λj=>g_,d.some y λj=>g_⟩
  ·rintro k A B ⟨c,p,m,r⟩ d;exact⟨c,Z _ _ _ _ p<|d.mono λk q=>R _ _ _ _ J q,d.some m λj=>g_,d.some r λj=>g_⟩
  ·rintro k M A ⟨N,p,m,r,s,y⟩;refine⟨(L _ _ _ m).1,λx f=>?_⟩;rcases(p x).1 f with h|h
   ·grind
   ·rw[h];exact⟨(zd.1 s).1,a0 _ _ _ s rfl⟩
  ·rintro k v M W J p ⟨N,y,R,L,m,z⟩;have r:=run_yield (P:=P) m (by rw[hrc];exact a2 k v W p);rw[hrc]at r;have Z:¬N l:=λh=>g_
   have s:¬N w.heap.size:=λh=>g_
   have X:e.heap.size<=W.heap.size:=g_
   have up:∀{X Y:H},Wr N X Y->Wr M X Y:=λh=>h.mono λx f=>(y x).2 (.inl f)
   refine XB 0 ⟨T,_,t,u,r,roundIn_of_wpIn trivial<|De (a4 l k v N W J p R) ?_⟩;rintro j e e J;cases j with
   |normal=>
    obtain⟨q,d⟩:=J;have p:=q.some m Z;have r:=q.some z s;refine⟨_,run_beginRound p g_,?_⟩;have u:(e.putObj l<|.loop _).heap[l]? =E (.loop { i .ready O with state:= .busy }):=World.putObj_heap_same (zd.1 p).1;have t:(e.putObj l<|.loop { i .ready O with state:= .busy }).heap[w.heap.size]? =E (.deferred _):=(Z4 om).trans r;have X:Wr M W (e.putObj l<|.loop { i .ready O with state:= .busy }):=(up q).trans<|Wr.putObj ((y l).2<|.inr rfl) _;refine De (d _<|zn.putObj _ om p rfl) ?_;have T:∀p d,Wr (λx=>N x\/W.heap.size<=x) _ d->
     ∃e,(Instr.endRound l p).run P d= .ok (G p.isNone) e/\zn w.heap.size d e/\Wr M W e/\
      e.heap[l]? =E (.loop<|i (if p.isNone then .ready else .done) p)/\e.heap[w.heap.size]? =E (.deferred _):=λp d i=>by
     have r:=i.some u λh=>h.elim Z λh=>om;have u:=i.some t λh=>h.elim s λh=>om;refine⟨_,run_endRound p r,zn.putObj _ om r rfl,(VL X i λx f=>(y x).2<|.inl f).trans<|Wr.putObj ((y l).2<|.inr rfl) _,?_,(Z4 om).trans u⟩;rw[World.putObj_heap_same (zd.1 r).1,hrc]
    rintro j i d i;cases j with
    |normal=>
     obtain⟨Z,X,a0,Y⟩:=i;obtain⟨e,t,r,u,s,p⟩:=T O d Z;refine⟨_,_,t,.inl ⟨rfl,u,λx=>X x\/x=l,⟨X,λ_=>Qb,U _ _ _ _ a0 r,λx f=>?_,s,p⟩,λx f=>?_⟩⟩
     ·grind
     grind
    |ret=>
     obtain⟨e,t,r,u,s,p⟩:=T (E .ret) d i.1;exact⟨_,_,t,.inr ⟨rfl,u,.ret,K _ _ _ _ i.2 r,s,p⟩⟩
    |exit id=>
     obtain⟨e,t,r,u,s,p⟩:=T (E<|.exit id) d i.1;exact⟨_,_,t,.inr ⟨rfl,u,.exit id,K _ _ _ _ i.2 r,s,p⟩⟩
    |goto y=>
     obtain⟨e,t,r,u,s,p⟩:=T (E<|.goto y) d i.1;exact⟨_,_,t,.inr ⟨rfl,u,.goto y,K _ _ _ _ i.2 r,s,p⟩⟩
    |panic d=>exact i.elim
    |outgrown=>exact i.elim
   |ret=>exact J.elim
   |exit id=>exact J.elim
   |goto y=>exact J.elim
   |panic d=>exact J.elim
   |outgrown=>exact J.elim
  ·rintro j d ⟨⟨v,rfl⟩,(⟨M,N,_,R,L,m,z⟩|⟨k,q,c,R,m,z⟩)⟩
   ·refine⟨O,_,(by have h:=run_endLoop (P:=P) m (by rw[hrc];simp);rw[hrc]at h;exact h),?_⟩;exact a1 _ N _ rfl (λx f=>(L x f).imp id λh=>om) (U _ _ _ _ R<|zn.putObj _ om m rfl) ((Z4 om).trans z)
   ·refine⟨E c,_,(by have h:=run_endLoop (P:=P) m (by rw[hrc];simp);rw[hrc]at h;exact h),?_⟩;exact a5 _ c k _ (zh _) q (K _ _ _ _ R<|zn.putObj _ om m rfl) ((Z4 om).trans z)
def Ja (P:Program)(g:Nat)(lb:W_)(n:Nat)(Y:Nat->W_->H->Prop)(C:H->Prop):Prop:=
 ∀l (J:Nat->(Nat->Prop)->H->Prop) (Jx:Nat->H->Prop) M0 W,
  (∀k M A B,J k M A->zn W.heap.size A B->J k M B)->(∀k A B,Jx k A->zn W.heap.size A B->Jx k B)->
  (∀k M A,J k M A->C A/\∀x,M x->x<A.heap.size)->
  (∀k v M W1,k<n->Y k v W1->J k M W1->YieldAt kak 0 P l v W1 λe W'=>
   (e=Xa (G true)/\Wr M W1 W'/\∃M',J (k+1) M' W'/\∀x,M' x->M x\/W1.heap.size<=x)\/(e=Xa (G false)/\Wr M W1 W'/\Jx k W'))->
  J 0 M0 W->
  Calls P g (#[.func (.yield l) #[] #[]]++lb) W λe W'=>(∃v,e=Xa v)/\((∃M,J n M W')\/∃k,k<n/\Jx k W')
theorem Ja.gen{F}{NN}{a}(h:Ja P g a n Y C):IF F NN P g a n Y C:=λl J b c W d e _ _ a f i=>h l J b c W d e (λk M A e=>⟨(a k M A e).1,λx b=>((a k M A e).2 x b).1⟩) f i
theorem oW.seq{b}{a:List (W_)}(h:oW P g b a C):Ja P g b a.length (λk v _=>a[k]? =E v) C:=λl J a b W c d e f i=>h l J a b W c d e (λk v M b a c=>f k v M b (zo.1 a).1 a c) i
theorem Ke{g}{f}{a}{w}{e}{p}(y:Ja P e p d Y C)(hg:a.eval g= .func (.func e) #[] p)(q:∀args w,(callFunc e args).run P w= .ok (.enter e args) w)(t:∀k v W,Y k v W->v.size=f.size)(I)(b)(M0)(m:∀k M A B,I k M A->zn w.heap.size A B->I k M B)(o:∀c k A B,b c k A->zn w.heap.size A B->b c k B)(j:∀k M A,I k M A->C A/\∀x,M x->x<A.heap.size)(r:I 0 M0 w)(u:∀l k v M W,k<d->Y k v W->I k M W->F7 P n w.heap.size M I b f h i a l k v W)(s:∀D M W,w.heap.size<=D->I d M W->W.heap[D]? =E (.deferred (E []))->Q .normal { a with defers:={ target:= .collected D,args:=#[] } :: a.defers } W)(z:∀D c k W,w.heap.size<=D->k<d->b c k W->W.heap[D]? =E (.deferred (E []))->c.wpIn kak n P Q { a with defers:={ target:= .collected D,args:=#[] } :: a.defers } W):
 (Code.rangeFunc g f h i).wpIn kak n P Q a w:=Vd (F:=λ_ _ _=>False) (λ_ _ _ h=>h.elim) (λ_ _ _ _ _ h=>h) (λ_ _ _ _ _=>trivial) y.gen hg q t I b M0 m o (λk M A B h b=>m k M A B h<|Vv b) (λc k A B h b=>o c k A B h<|Vv b) (λk M A h=>⟨(j k M A h).1,λx b=>⟨(j k M A h).2 x b,trivial⟩⟩) r u (λD M W e _=>s D M W<|jm e.symm) z
theorem ZT{g}{f}{a}{w}{e}{j}(y:Ja P e j d Y C)(hg:a.eval g= .func (.func e) #[] j)(m:∀args w,(callFunc e args).run P w= .ok (.enter e args) w)(t:∀k v W,Y k v W->v.size=f.size)(I)(b)(M0)(q:∀k M A B,I k M A->zn w.heap.size A B->I k M B)(r:∀c k A B,b c k A->zn w.heap.size A B->b c k B)(p:∀k M A,I k M A->C A/\∀x,M x->x<A.heap.size)(o:I 0 M0 w)(u:∀l k v M W,k<d->Y k v W->I k M W->Zz P n w.heap.size M I b f h i a l k v W)(s:∀D M W,w.heap.size<=D->I d M W->W.heap[D]? =E (.deferred (E []))->Q .normal { a with defers:={ target:= .collected D,args:=#[] } :: a.defers } W)(z:∀D c k W,w.heap.size<=D->k<d->b c k W->W.heap[D]? =E (.deferred (E []))->c.wpIn kak n P Q { a with defers:={ target:= .collected D,args:=#[] } :: a.defers } W):
 (Code.rangeFunc g f h i).wpIn kak n P Q a w:=Ke y hg m t I b M0 q r p o (λl k v M W a b c=>(u l k v M W a b c).wk) s z
theorem Fs{g}{f}{a}{w}{e}{j}{d}(y:oW P e j d C)(hg:a.eval g= .func (.func e) #[] j)(m:∀args w,(callFunc e args).run P w= .ok (.enter e args) w)(t:∀v∈d,v.size=f.size)(I)(b)(M0)(q:∀k M A B,I k M A->zn w.heap.size A B->I k M B)(r:∀c k A B,b c k A->zn w.heap.size A B->b c k B)(p:∀k M A,I k M A->C A/\∀x,M x->x<A.heap.size)(o:I 0 M0 w)(u:∀l k v M W,d[k]? =E v->I k M W->Zz P n w.heap.size M I b f h i a l k v W)(s:∀D M W,w.heap.size<=D->I d.length M W->W.heap[D]? =E (.deferred (E []))->Q .normal { a with defers:={ target:= .collected D,args:=#[] } :: a.defers } W)(z:∀D c k W,w.heap.size<=D->k<d.length->b c k W->W.heap[D]? =E (.deferred (E []))->c.wpIn kak n P Q { a with defers:={ target:= .collected D,args:=#[] } :: a.defers } W):
 (Code.rangeFunc g f h i).wpIn kak n P Q a w:=ZT y.seq hg m (λk v W h=>t v<|zx h) I b M0 q r p o (λl k v M W _ b c=>u l k v M W b c) s z
theorem qh{a}{tmps:W_}{R}{ds}(b:W.heap[D]? =E (.deferred (E [])))(h:LeavesInM kak n P a tmps R ds .returning (W.putObj D (.deferred O))):
 LeavesInM kak n P a tmps R ({ target:= .collected D,args:=#[] } :: ds) .returning W:=⟨sp,.inl ⟨_,_,rfl,run_takeDeferred b,h⟩⟩
theorem jr{a}{next}{v:W_}{R1 R2:H->Prop}(h:YieldAt kak 0 P l v W λe W'=>(e=Xa (G true)/\R1 W')\/(e=Xa (G false)/\R2 W'))(h1:∀W',R1 W'->next (a.put o.dst (G true)) W')(h2:∀W',R2 W'->next (a.put o.dst (G false)) W'):
 Oper.uponIn kak n P o a next Q ((Instr.yield l v).run P W):=by obtain⟨fn,tmps,assign,body,hy,hR⟩:=XB (n-1) h;rw[hy];refine⟨(λh=>by cases h),hR.mono ?_⟩;grind
theorem JS{a}{next}{v:W_}{R1 R2:H->Prop}(h:YieldAt kak 0 P l v W λe W'=>(e=Xa (G true)/\R1 W')\/(e=Xa (G false)/\R2 W'))(h1:∀W',R1 W'->next (a.put o.dst (G true)) W')(h2:∀W',R2 W'->next (a.put o.dst (G false)) W'):
 Oper.uponIn (Fence.wide.inRound m) n P o a next Q ((Instr.yield l v).run P W):=by obtain⟨fn,tmps,assign,body,hy,hR⟩:=XB (n-1) h;rw[hy];refine⟨(λh=>by cases h),RoundIn.mono hR ?_⟩;grind
theorem IA(m n){v:W_}{f g:H->Prop}(h:YieldAt kak 0 P l v W λe a=>(e=Xa (G true)/\f a)\/(e=Xa (G false)/\g a)):
 ∃d tmps b c,(Instr.yield l v).run P W= .ok (.round l d tmps b c) W/\
  RoundIn (Fence.wide.inRound m) n P l d tmps b c W λe a=>∃t,e=Xa (G t)/\Hid ((t=true->f a)/\(t=false->g a)):=by obtain⟨d,tmps,b,c,g,f⟩:=XB n h;refine⟨d,_,b,c,g,RoundIn.mono f ?_⟩;rintro e a (⟨rfl,a⟩|⟨rfl,a⟩);{exact⟨_,rfl,λ_=>a,λh=>g_⟩};exact⟨_,rfl,(λh=>g_),λ_=>a⟩
theorem zn.drew(B)(W):zn B W W.drew:=⟨rfl,rfl,rfl,zh _,λ_ _ h _=>h⟩
theorem Wr.drew(T)(W):Wr T W W.drew:=⟨rfl,rfl,rfl,zh _,λ_ _ _=>rfl⟩
abbrev Xp:=@Wr.drew
theorem zW:(Fence.wide.depth=O)=True:=by simp[kak]
theorem qJ(f:Nat):Fence.wide.fn f=True:=rfl
def lV (c n:Int):Int:=(if c<0 then -(c+1)else c)%n
theorem uW(c){n}(a:0<n):0<=lV c n/\lV c n<n:=by unfold lV;exact⟨J3 _ om,IP _ a⟩
theorem tH{a b:Int}(c:0<=a):Int.tmod a b=a%b:=Int.tmod_eq_emod_of_nonneg c
theorem BS(c n)(b:-9223372036854775808<=c)(h1:c<=9223372036854775807)(a:0<n)(d:n<=9223372036854775807)(w):
 C_ 9 #[i_ c,i_ n] w λe w'=>e=Xa (i_ (lV c n))/\w'=w:=by have d:=uW c a;by_cases b:c<0;{(have e:lV c n=Int.tmod (-(c+1)) n:=by rw[lV,zQ b,tH om]);have a:=zf e;rw[e]at d;clear e;go_enter func9,ntmps9;go_wp2;go_ret;exact⟨AH<|by rw[a.out,Int.neg_tmod],rfl⟩};(have e:lV c n=Int.tmod c n:=by rw[lV,zO b,tH om]);have a:=zf e;rw[e]at d;clear e;go_enter func9,ntmps9;go_wp2;go_ret;exact⟨AH<|by rw[a.out,tH b],rfl⟩
theorem FU(z)(a:-9223372036854775808<=z)(h1:z<=9223372036854775807)(w)(b:Lib.TabIs pg w "internal/strconv.uint64pow10" .u64 Lib.pow10Tab):
 C_ 12 #[i_ z] w λe w'=>e=Xa (gS ⟨(Lib.itoa z).toArray⟩)/\Below w.heap.size w w':=by go_enter func12,ntmps12;go_wp2_with fail;apply(Tryz.strconv_Itoa z a h1 w b).mono;rintro e a ⟨rfl,k,a,rfl⟩;go_wp2;go_ret;exact⟨rfl,Go.Lib.below_grow _ w (zh _) k a⟩
theorem Fq(b:n<18446744073709551616):(Lib.decDigits n).length<=20:=by by_cases a:n=0;{subst a;rw[Lib.decDigits_one om];simp};rw[Lib.decDigits_length];have a:=Lib.numDigits_eq n om b;grind
theorem IM{z:Int}(a:z.natAbs<18446744073709551616):(Lib.itoa z).length<=21:=by unfold Lib.itoa;split;{have:=Fq a;grind};have:=Fq (n:=z.toNat) om;omega
theorem zmn{v P Q}(d:0<P)(c:lead*P<=v)(f:0<v)(e:u<(high+1)*P)(b:0<lead)(a:Q=u/v):Q<=high/lead:=by subst a;rw[Nat.le_div_iff_mul_le b];have a:=PS u v;have a:u/v*_<=u/v*v:=Zr _ c;have a:(u/v*lead)*P<(high+1)*P:=g_;exact Nat.lt_succ_iff.1 (PR a)
theorem znm{v P a Q}(d:a*P<=v)(e:0<v)(f:u<(b+1)*P)(hg:b<g*a)(c:Q=u/v):Q<g:=by subst c;rw[QC e];have c:(b+1)*P<=g*a*P:=zZ _ hg;have b:g*(a*P)<=g*v:=Zr _ d;grind
theorem zmo{v P a Q}(d:v<(a+1)*P)(e:0<v)(h:b*P<=u)(hg:g*a<=b)(f:g<=a)(c:Q=u/v):g<=Q+1:=by have f:u<(Q+1)*v:=(QC e).1 om;rcases Qc (Q+1) g with h|h;{exfalso;obtain⟨k,rfl⟩:∃k,g=k+1:=⟨g-1,om⟩;have c:(Q+1)*v<=k*v:=zZ _ om;have c:k*v<=k*_:=Zr _<|vK d;have c:(k+1)*a*P<=b*P:=zZ _ hg;have b:k*((a+1)*P)=(k*a+k)*P:=g_;have b:(k+1)*a*P=(k*a+a)*P:=g_;have b:(k*a+a)*P<(k*a+k)*P:=om;have a:=PR b;omega};omega
theorem Wq{a v W}(b:a<W)(h:a+f*v=u+W*r)(c:f*v<=u)(d:u<W):r=0/\a=u-f*v:=by rcases Qd r with b|b;{grind};have:W*1<=W*r:=Zr _ b;omega
theorem zno{a v W}(b:a<W)(h:a+f*v=u+W*r)(c:u<f*v)(d:f*v<=u+v)(e:v<W):0<r/\a+v=u+W+v-f*v:=by rcases Qd r with b|b;{grind};rcases Qc 1 r with b|b;{have:W*2<=W*r:=Zr _ b;omega};grind
def splice (L W:N_)(j:Nat):N_:=L.take j++(W++L.drop (j+W.length))
theorem PO{W}(h:j+W.length<=L.length):(splice L W j).length=L.length:=by simp[splice];omega
theorem UN{W}(a:gT L)(b:gT W):gT (splice L W j):=(a.take _).append (b.append<|a.drop _)
theorem Yx{W}(h:j<=L.length):(splice L W j).drop j=W++L.drop (j+W.length):=by rw[splice,jC so,QP so,Q7]
theorem Xv{W}(h:j<=L.length):(splice L W j).take j=L.take j:=by rw[splice,Qq so,zP so]
theorem Wa{t v}(e:gT L)(a:j+t+1<=L.length)(f:val (L.drop (j+1))<v)(b:v<4294967296^t):
 val ((L.drop j).take (t+1))=val (L.drop j)/\val (L.drop (j+(t+1)))=0/\val (L.drop j)<v*4294967296:=by
 have a:=fG (L.drop<|j+1) t so;rw[Jn]at a;have d:val (L.drop<|j+1+t)=0:=by rcases Qd (val<|L.drop<|j+1+t)with h|h;{omega};have:4294967296^t*1<=4294967296^t*val _:=Zr _ h;omega
 have a:=fG (L.drop j) (t+1) so;rw[Jn]at a;have b:val (L.drop<|j+(t+1))=0:=g_;rw[b,Ql,qV]at a;refine⟨a.symm,b,?_⟩;have:=e.get j;rw[(iq L j om)];omega
theorem UT{W Q:N_}{t v N}(a:j+t+1<=L.length)(c:W.length=t+1)(d:j<Q.length)(e:val ((L.drop j).take (t+1))=val (L.drop j))(b:val (L.drop (j+(t+1)))=0)(g:val (L.drop j)=q*v+val W)(f:N=val L+v*(4294967296^(j+1)*val (Q.drop (j+1)))):
 N=val (splice L W j)+v*(4294967296^j*val ((Q.set j q).drop j))/\val ((splice L W j).drop j)=val W:=by
 have a:val ((splice L W j).drop j)=val W:=by rw[Yx om,fU,c,b,Ql,qV]
 have b:=fG (splice L W j) j (by rw[PO om];omega);rw[Xv om,a]at b;have c:=iq (Q.set j q) j g_;rw[K9 Q j q d,QH]at c;refine⟨?_,a⟩;rw[f,fG L j om,g,b,c,Zv];grind
def FW (high lead U3 V2 g:Nat):Prop:=∀Q,Q<=high/lead->(∀k,U3<k*V2->Q<k)->Q<4294967296->Q<=g
theorem znq{a}(h:FW high lead a b g)(hg:4294967296<=g):FW high lead a b (g-1):=λQ a a a=>om
theorem Ry(g lead l a Z b:Nat):(g*lead+l)*a+Z+g*b=g*(lead*a+b)+(l*a+Z):=by grind
theorem znr{a}(h:FW high lead a b g)(d:a=high*4294967296+Z)(e:b=lead*4294967296+c)(f:g*lead+l=high)(hg:l*4294967296+Z<g*c):FW high lead a b (g-1):=by intro Q a a b;have b:=Ry g lead l 4294967296 Z c;rw[f,<-d,<-e]at b;have:=a g om;omega
theorem VJ{a}(d:b=high*4294967296+Z)(e:c=lead*4294967296+a)(f:g*lead+l=high)(hg:g*a<=l*4294967296+Z):g*c<=b:=by have b:=Ry g lead l 4294967296 Z a;grind
theorem WN{X Y a}(e:high=Y+4294967296*X)(b:X<=lead)(c:Y<4294967296)(hs:a<4294967296)(d:g*lead+l=high)(f:4294967296<=l):g<4294967296/\g*a<=l*4294967296+Z:=by have b:g*lead<4294967296*lead:=om;have c:=PR b;refine⟨c,?_⟩;have b:g*a<=4294967296*4294967296:=Z7 om om;omega
theorem We(b:high<18446744073709551616)(a:2147483648<=lead):high/lead<=8589934592:=by have b:high/lead<=high/2147483648:=Nat.div_le_div_left a om;omega
theorem zjR(w)(b off cap b' R F t)(ds es)(M:ds.length=t+3)(a7:es.length=t+2)(a9:t+3<=cap)(aa:t+2<=F)(ht:t<=1073741800)(v:Row w b off ds)(D:Row w b' R es)(s:gT ds)(B:gT es)(N:2147483648<=es.getD (t+1) 0)(J:ds.getD (t+2) 0<=es.getD (t+1) 0)(high lead j k)(C:high=ds.getD (t+1) 0+4294967296*ds.getD (t+2) 0)(f:lead=es.getD (t+1) 0)(a:j=high*4294967296+ds.getD t 0)(c:k=lead*4294967296+es.getD t 0):
 C_ 276 #[V (E (Xd b off O)) (t+3) cap,V (E (Xd b' R O)) (t+2) F] w λe w'=>∃g,e=Xa (it .u32 (g:Nat))/\g<4294967296/\FW high lead j k g/\g*k<=j/\∃n,w'=w.drewN n:=by
 have c0:=v t om;have c1:=v (t+1) om;have c2:=v (t+2) om;have d0:=D t om;have d1:=D (t+1) om;have z0:=s.get t;have U:=s.get<|t+1;have z2:=s.get<|t+2;have T:=B.get t;have y1:=B.get<|t+1;rw[<-f]at d1 y1 N J;clear f v D s B M a7;generalize ds.getD t 0=Z at *;generalize ds.getD (t+1) 0=a3 at *;generalize ds.getD (t+2) 0=a2 at *;generalize es.getD t 0=i at *;have p:=KA _ _ z2 U;have a6:high<18446744073709551616:=om;rw[<-C]at p;have u:high/lead=((high/lead:Nat):Int):=sp;have q:high%lead=((high%lead:Nat):Int):=sp;have a5:=We a6 N;have ad:high%lead<lead:=Z0 _ om;have L:high/lead*lead+high%lead=high:=by have:=Jz high lead;rw[Z5]at this;exact this
 have I:FW _ _ j k (high/lead):=λQ A _ _=>A;have Y:=zf C;clear C;generalize hG:high/lead=W at *;generalize hR:high%lead=a1 at *;clear hG hR;have X:=zf L;clear L;have a0:=zf I;clear I;go_enter func276,ntmps276;go_wp2_with fail;go_quiet (fail);go_wp2_with fail;go_quiet (fail);go_wp2_with fail;go_quiet (fail);go_wp2_with fail;go_loopw [9,10] (λgv lv wr=>∃g l:Nat,g<=8589934592/\l<8589934592/\gv=it .u64 g/\lv=it .u64 l/\Hid (g*lead+l=high)/\Hid (FW high lead j k g)/\∃n,wr=w.drewN n) (λgv _ _=>(intOf gv).toNat);case atStart=>exact⟨W,_,a5,om,rfl,g_,X,a0,_,(World.drewN_drewN _ _ _).trans<|World.drewN_drewN _ _ _⟩
 case round=>obtain⟨g,l,_,M,rfl,rfl,h,f,n,rfl⟩:=hrel;by_cases A:l<4294967296;{have i1:(l:Int)<4294967296:=om;by_cases m:g<4294967296;{have i2:¬(4294967296<=(g:Int)):=om;have a8:=KA l Z A z0;obtain⟨y,hy⟩:∃y,Z+4294967296*l=y:=⟨_,rfl⟩;rw[hy]at a8;obtain⟨_,_⟩:=O1 g i m T;have K:((g*i:Nat):Int)=g*i:=sp;by_cases o:y<g*i;{have h4:y<(g)*(i:Int):=om;have ab:1<=g:=g_;have d:=zf<|znr f.out a c h.out om;(have x:Hid ((g-1)*lead+(l+lead)=high):=by rw[Hid,<-h.out];obtain⟨r,rfl⟩:∃r,g=r+1:=⟨g-1,om⟩;rw[Tz,Zg];omega);have H7:=zf a;have H8:=zf c;clear a c o K p u q hy;go_wp2_with fail;go_roundw;(case rel=>exact⟨_,_,om,om,g_,g_,x,d,n,rfl⟩);case measure=>simp[intOf];omega};have h4:¬((y)<(g)*(i:Int)):=om;have d:=zf<|VJ a c h.out om;clear a c o K p u q hy;go_wp2_with fail;go_ret;exact⟨g,sp,m,f.out,d.out,n,rfl⟩};have a4:4294967296<=g:=om;have i2:4294967296<=(g:Int):=om;have d:=zf<|znq f.out a4;(have x:Hid ((g-1)*lead+(l+lead)=high):=by rw[Hid,<-h.out];obtain⟨r,rfl⟩:∃r,g=r+1:=⟨g-1,om⟩;rw[Tz,Zg];omega);clear a c p u q m;go_wp2_with fail;go_roundw;(case rel=>exact⟨_,_,om,om,g_,g_,x,d,n,rfl⟩);case measure=>simp[intOf];omega};obtain⟨m,o⟩:=WN (Z:=Z) Y.out J U T h.out om;have d:=zf<|VJ a c h.out o;clear a c p u q o;have i1:¬((l:Int)<4294967296):=om;go_wp2_with fail;go_ret;exact⟨g,sp,m,f.out,d.out,n,rfl⟩
theorem zrF{S}(d:k<a.length)(e:k<ds.length)(b:val (a.take k)+4294967296^k*c=S*val (ds.take k)):
 val ((a.set k ((c+ds.getD k 0*S)%4294967296)).take (k+1))+4294967296^(k+1)*((c+ds.getD k 0*S)/4294967296)=S*val (ds.take (k+1)):=by rw[mL _ _ _ d,fH _ k e,Zs S,<-b,Zs];grind
theorem II{S}(b:c<S)(e:d<4294967296)(a:S<=2147483648):c+d*S<18446744073709551616/\(c+d*S)/4294967296<S:=by have a:d*S<=4294967295*S:=zZ _ om;omega
theorem zlw(h:z<18446744073709551616):IntKind.u64.wrap (z)=(z):=by have e:∀n,IntKind.u64.wrap n=n%18446744073709551616:=λn=>rfl;grind
theorem Tl(w)(v)(ds:List _)(s)(hs:s<=31)(hv:kR w v ds)(T:ds≠ [])(t:gT ds)(ah:ds.length<=1073741823):
 Calls pg 275 #[v,it Xb (s:Nat)] w λe w'=>∃(g:Nat) (l:List _),e=Xa (V (E (Xd g 0 O)) (ds.length+1) (ds.length+1))/\l.length=ds.length+1/\gT l/\Row w' g 0 l/\t_ w' g 0 (ds.length+1)/\val l=2^s*val ds/\Below w.heap.size w w'/\w.heap.size<=g/\g<w'.heap.size:=by
 obtain⟨_,_,rfl,_,hr⟩:=hv;obtain⟨p,off,rfl,hb,a4⟩:=hr T;have aj:=ZC.2 T;obtain⟨i0,hi,aa,ab,ad⟩:=Zn Xu;have J:0<2^s:=Dc dc;have K:2^s<=2147483648:=ZD dc hs;go_enter func275,ntmps275;go_wp2_with (at_make;refine O6 _ rfl _ _ _ rfl _ _ underlying85 hi aa ab ad _ _ _ _ (ds.length+1) rfl rfl sp sp om ?_;intro D a5 u L a7);have a8:=Xx w.heap.size 0 (ds.length+1) D;have a3:=a4.below L hb;have a0:p≠w.heap.size:=om;generalize a2:w.heap.size=g at *;have F:=zf a2;obtain⟨S,hS⟩:∃S,2^s=S:=⟨_,rfl⟩;rw[hS]at J K;have j:=zf hS;go_loopw [6,15] (λcv C wr=>∃(k c:Nat) (a:List Nat),k<=ds.length/\c<S/\C=it Xb (k:Nat)/\cv=it .u64 (c:Nat)/\Hid (a.length=ds.length+1)/\gT a/\Row wr g 0 a/\kV g 0 (ds.length+1) D wr/\ Hid (val (a.take k)+4294967296^k*c=S*val (ds.take k))) (λ_ C _=>ds.length-(intOf C).toNat);case atStart=>exact⟨0,0,_,qo _,J,rfl,rfl,g_,(λae t=>g_),a5,a8,rfl⟩
 case round=>obtain⟨k,c,a,_,M,rfl,rfl,h,N,m,i,W⟩:=hrel;by_cases R:k<ds.length;{have a6:=i.other a0 a3;have hx:=a6 k R;have a9:=t.get k;(have d:k<a.length:=by rw[h.out];omega);have A:=i.free u k om;have U:=zrF d R W.out;have q:=II M a9 K;have f:=m.setCell k ((c+ds.getD k 0*S)%4294967296) d;have b:=i.setCell k (by omega)<|it .u32<|((c+ds.getD k 0*S)%4294967296:Nat);generalize ds.getD k 0=x at *;obtain⟨y,hy⟩:∃y,c+x*S=y:=⟨_,rfl⟩;obtain⟨z,hz⟩:∃z,x*S=z:=⟨_,rfl⟩;(have hw:IntKind.u64.wrap ((x:Int)*2^s)=(z:Int):=by rw[show(x:Int)*2^s=((x*S:Nat):Int)by grind,hz];exact zlw om);(have ai:bits .or .u64 (c:Int) (z:Int)=(y:Int):=by rw[u64_or_nat _ _ om om,Nat.or_comm,nat_join s z c (by rw[<-hz,<-j.out];simp)<|by omega];omega);(have a1:wr.cell? (Xd g k O)=E (it .u32 ((a.getD k 0:Nat):Int)):=by have:=m k d;rwa [qt]at this);rw[hy]at U q f b;simp only[qt]at f b A;have e1:((y%4294967296:Nat))=(y:Int)%4294967296:=om;have X:Hid (((y/4294967296:Nat):Int)=(y:Int)/4294967296):=g_;rw[e1]at f b;have Z:=zf U;have af:=q.1;have Y:=zf q.2;go_wp2;go_roundw;(case rel=>exact⟨_,_,_,om,Y.out,g_,g_,g_,N.set _ _<|Z0 _ dc,f,b,Z.out⟩);case measure=>simp[intOf];omega};have o:k=ds.length:=om;(have d:k<a.length:=by rw[h.out];omega);have A:=i.free u k om;(have a1:wr.cell? (Xd g k O)=E (it .u32 ((a.getD k 0:Nat):Int)):=by have:=m k d;rwa [qt]at this);have f:=m.setCell k c d;have b:=i.setCell k (by omega)<|it .u32<|c;simp only[qt]at f b A;have r:c<4294967296:=om;have B:=mL a k c d;(have HV:Hid (val (a.set k c)=S*val ds):=by rw[Hid];have I:=W.out;rw[o,Zx]at I;rw[o]at B;rw[zP (by rw[qX,h.out];omega),jH r,Jk r,Ql,qV,I]at B;rw[o];exact B);subst o;go_wp2;go_ret;exact⟨g,_,rfl,by rw[qX,h.out],N.set _ _ r,f,b.free u,by rw[HV.out,j.out],by rw[F.out];exact L.trans<|b.below<|zh _,om,by rw[b.size];omega⟩
theorem hm:Tryz.prog.follows .mixedOrders=true:=by kernel_rfl
section
variable {P:Program} {ops:Array Oper} {Q:Exit->Act->World->Prop} {md:Region.Mode} {S:World->Prop}
theorem iX (i){oi}{v}{fuel}{listed}{a b}{w}(h:wpAnyH P md ops Q S fuel (listed.setIfInBounds i true) b w)(hi:ops.toList[i]? =some oi:=by rfl)
 (hs:Region.noSelect ops=true:=by kernel_rfl) (hf:Region.free md ops listed i=true:=by kernel_rfl) (hr:(kan md ops listed).contains i=true:=by kernel_rfl)
 (hw:kao oi (yielded ops a.tmps)=true:=by rfl) (hv:∀w,S w->(execOp a.eval oi).run P w= .ok (.value v) w:=by(intro w hSw;(try dsimp only at hSw);go_simp;try with_reducible rfl))
 (hQ:∀c a w,Q (.panic c) (a.put oi.dst v) w->Q (.panic c) a w:=by first|exact λ_ _ _ h=>h|exact λ_ _ _ h=>absurd h.1 (by simp))
 (hS:S w:=by assumption) (hb:a.put oi.dst v=b:=by((try simp only[Act.put,Ji,IY,KF]);rfl)):wpAnyH P md ops Q S (fuel+1) listed a w:=wpAnyH_take (by simpa using hi) hs hf hr hQ (Or.inl ⟨hw,hv⟩) hS (by rw[hb];exact h)
def tP (P:Program)(ops:Array Oper)(Q:Exit->Act->H->Prop)(md:Region.Mode)(S:H->Prop)(fuel:Nat)(listed:Array Bool)(K:Act->H->Prop):Prop:=
 ∀a w (_:S w) {b:Act} (_:a=b:=by((try simp only[Act.put,Ji,IY,KF]);rfl)) (_:S w->wpAnyH P md ops Q S fuel listed b w),K a w
theorem tP.out {c}{d}{K}(e:tP P ops Q md S c d K)(a)(w)(f:S w){b}(hb:a=b:=by((try simp only[Act.put,Ji,IY,KF]);rfl))(h:S w->wpAnyH P md ops Q S c d b w):K a w:=e a w f hb h
theorem Is {c}{d}{a}{w}{i}{o}{rs:N_}(ho:ops.toList[i]? =E o:=by rfl)
 (h:∀b,tP P ops Q md S c (d.setIfInBounds i true) b->if kao o (yielded ops a.tmps)=true then Oper.wp P o a w b Q else b (a.put o.dst undef) w)
 (hs:AllReadyH P md ops Q S c d a w rs):AllReadyH P md ops Q S c d a w (i::rs):=AllReadyH.cons (by simpa using ho) (λK c=>h K λa w b d e d=>c.out a w b λb=>by rw[e];exact d b) hs
theorem fR (i){fuel}{listed}{a}{w}{o}(h:∀K',tP P ops Q md S fuel (listed.setIfInBounds i true) K'->if kao o (yielded ops a.tmps)=true then Oper.wp P o a w K' Q else K' (a.put o.dst undef) w)(hr:kan md ops listed= [i]:=by kernel_rfl)(ho:ops.toList[i]? =some o:=by rfl):wpAnyH P md ops Q S (fuel+1) listed a w:=wpAnyH_ready hr (by simp) (Is (ho:=ho) (h:=h) (hs:=AllReadyH.nil))
def VV (P:Program)(ops:Array Oper)(Q:Exit->Act->H->Prop)(md:Region.Mode)(S:H->Prop)(fuel:Nat)(listed:Array Bool)(a:Act)(d:Option Tmp):Ending->H->Prop
 |Xa v,w=>S w/\wpAnyH P md ops Q S fuel listed (a.put d v) w
 |_,_=>False
theorem fV (i){f}{args:W_}{R}{fuel}{listed}{a}{w}{o}(hc:Calls P f args w R)
 (h:∀e w',R e w'->VV P ops Q md S fuel (listed.setIfInBounds i true) a o.dst e w') (hr:kan md ops listed= [i]:=by kernel_rfl) (ho:ops.toList[i]? =some o:=by rfl)
 (hx:∀K',(Calls P f args w λe w'=>∃v,e=Xa v/\K' (a.put o.dst v) w')->if kao o (yielded ops a.tmps)=true then Oper.wp P o a w K' Q else K' (a.put o.dst undef) w:=by
  (intro K' hK;go_simp;refine hK.mono<|gP λw' v h=>?_;go_wp2_with fail;exact h)):wpAnyH P md ops Q S (fuel+1) listed a w:=fR i (λK' hB=>hx K'<|hc.mono λe w' hR=>by have hq:=h e w' hR;cases e with |returned v=>exact⟨v,rfl,hB.out _ _ hq.1 (hb:=rfl) λ_=>hq.2⟩ |_=>exact hq.elim) hr ho
theorem bk {c}{f}{a b}{d}{v}{w}(e:S w)(h:S w->wpAnyH P md ops Q S c f b w)
 (hb:a.put d v=b:=by((try simp only[Act.put,Ji,IY,KF]);rfl)):VV P ops Q md S c f a d (Xa v) w:=⟨e,by rw[hb];exact h e⟩
end
end
section
variable {P:Program} {ops:Array Oper} {Q:Exit->Act->World->Prop} {md:Region.Mode} {S:World->Prop}
def mT (P:Program)(ops:Array Oper)(Q:Exit->Act->H->Prop)(md:Region.Mode)(S:H->Prop):N_->Nat->Array Bool->Act->Nat->Array Bool->Act->Prop
 |[],n,l,a,n',l',c=>n=n'/\l=l'/\a=c
 |i::is,n,l,a,n',l',c=>∃(m:Nat) (b:Act) (o:Oper) (v:Value),n=m+1/\ops.toList[i]? =E o/\Region.free md ops l i=true/\(kan md ops l).contains i=true/\(kao o (yielded ops a.tmps)=true/\(∀w,S w->(execOp a.eval o).run P w= .ok (.value v) w)\/kao o (yielded ops a.tmps)=false/\v=undef)
  /\(∀c a w,Q (.panic c) (a.put o.dst v) w->Q (.panic c) a w)/\a.put o.dst v=b/\mT P ops Q md S is m (l.setIfInBounds i true) b n' l' c
theorem mT.nil {P}{ops}{Q}{md}{S}{n}{l}{a}:mT P ops Q md S [] n l a n l a:=⟨rfl,rfl,rfl⟩
theorem mT.cons {P}{ops}{Q}{md}{S}{i}{is}{n n'}{l l'}{a b c}{o}{v}(hi:ops.toList[i]? =some o)(hf:Region.free md ops l i=true)(hr:(kan md ops l).contains i=true)(hv:kao o (yielded ops a.tmps)=true/\(∀w,S w->(execOp a.eval o).run P w= .ok (.value v) w)\/kao o (yielded ops a.tmps)=false/\v=undef)
 (hQ:∀c a w,Q (.panic c) (a.put o.dst v) w->Q (.panic c) a w) (hb:a.put o.dst v=b) (h:mT P ops Q md S is n (l.setIfInBounds i true) b n' l' c):mT P ops Q md S (i::is) (n+1) l a n' l' c:=⟨n,b,o,v,rfl,hi,hf,hr,hv,hQ,hb,h⟩
theorem fO (is){n n'}{l l'}{a b}{w}(h:wpAnyH P md ops Q S n' l' b w)(hs:Region.noSelect ops=true:=by kernel_rfl)
 (hT:mT P ops Q md S is n l a n' l' b:=by(repeat(apply mT.cons;(case hi=>rfl);(case hf=>kernel_rfl);(case hr=>kernel_rfl);(case hv=>first|(refine .inl ⟨by rfl,?_⟩;intro w hSw;(try dsimp only at hSw);go_simp;try with_reducible rfl)|exact .inr ⟨by rfl,rfl⟩);(case hQ=>first|exact λ_ _ _ h=>h|exact λ_ _ _ h=>absurd h.1 (by simp));(case hb=>((try simp only[Act.put,Ji,IY,KF]);rfl))));exact mT.nil)
 (hS:S w:=by assumption):wpAnyH P md ops Q S n l a w:=by induction is generalizing n l a with |nil=>obtain⟨rfl,rfl,rfl⟩:=hT;exact h |cons i is ih=>obtain⟨m,b',o,v,rfl,hi,hf,hr,hv,hQ,hb,hT⟩:=hT;exact wpAnyH_take g_ hs hf hr hQ hv hS g_
end
section
theorem jR:∀a (first cap:W_) w,(Instr.makeFunc a first cap).run pg w= .ok (.func a first cap) w:=λ_ _ _ _=>rfl
theorem Q0 {f}{a}{c}{args b:W_}{w}{R}{k}(e:Tryz.prog.funcs[f]? =E a)(g:a.ntmps=k)(hb:a.body=E c:=by rfl)
 (d:args++Array.replicate (k-args.size) undef=b:=by((try simp only[List.size_toArray,qi,QK,Nat.reduceAdd,Nat.reduceSub,Array.replicate_succ,Array.replicate_zero,List.push_toArray,List.append_toArray,Q7,ZZ]);rfl))
 (h:c.wpIn .wide 0 pg (bodyPostM .wide 0 pg a R) { tmps:=b,defers:= [] } w):C_ f args w R:=(zq).1 (callsIn_of_wp_marks e hb trivial (by rw[g,d];exact h) rfl)
theorem sF {f}{a}{c}{args b:W_}{w}{R}{k}(e:Tryz.prog.funcs[f]? =E a)(g:a.ntmps=k)(hb:a.body=E c:=by rfl)
 (d:args++Array.replicate (k-args.size) undef=b:=by((try simp only[List.size_toArray,qi,QK,Nat.reduceAdd,Nat.reduceSub,Array.replicate_succ,Array.replicate_zero,List.push_toArray,List.append_toArray,Q7,ZZ]);rfl))
 (h:c.wpIn .wide 0 pg (bodyPost pg a R) { tmps:=b,defers:= [] } w):C_ f args w R:=(zq).1 (callsIn_of_wp e hb trivial (by rw[g,d];exact h) rfl)
structure V4 where
 a:Int
 b:Int
 c:Int
 d:Int
namespace V4
def dot (x y:V4):Int:=x.a*y.a+x.b*y.b+x.c*y.c+x.d*y.d
def add (x y:V4):V4:=⟨x.a+y.a,x.b+y.b,x.c+y.c,x.d+y.d⟩
def smul (t:Int)(x:V4):V4:=⟨t*x.a,t*x.b,t*x.c,t*x.d⟩
def zero:V4:=⟨0,0,0,0⟩
theorem ext' {x y:V4}(h1:x.a=y.a)(h2:x.b=y.b)(a:x.c=y.c)(b:x.d=y.d):x=y:=by cases x;cases y;simp_all
theorem CH (x y:V4):x.dot y=y.dot x:=by unfold dot;grind
theorem lO (x y z:V4):x.dot (y.add z)=x.dot y+x.dot z:=by unfold dot add;grind
theorem fA (x y:V4)(t):x.dot (y.smul t)=t*x.dot y:=by unfold dot smul;grind
theorem iF (x y:V4)(t):(x.smul t).dot y=t*x.dot y:=by unfold dot smul;grind
theorem iY (x:V4)(s t):(x.smul t).smul s=x.smul (s*t):=by unfold smul;grind
theorem mM (x:V4):x.dot zero=0:=by unfold dot zero;grind
def DZ (u v w:V4):V4:=
 ⟨u.b*(v.c*w.d-v.d*w.c)-u.c*(v.b*w.d-v.d*w.b)+u.d*(v.b*w.c-v.c*w.b),
  -(u.a*(v.c*w.d-v.d*w.c)-u.c*(v.a*w.d-v.d*w.a)+u.d*(v.a*w.c-v.c*w.a)),
  u.a*(v.b*w.d-v.d*w.b)-u.b*(v.a*w.d-v.d*w.a)+u.d*(v.a*w.b-v.b*w.a),
  -(u.a*(v.b*w.c-v.c*w.b)-u.b*(v.a*w.c-v.c*w.a)+u.c*(v.a*w.b-v.b*w.a))⟩
def Cb (x u v w:V4):Int:=x.dot (DZ u v w)
end V4
open V4
def Jb (R:Nat->V4):Int:=Cb (R 0) (R 1) (R 2) (R 3)
def QL (R:Nat->V4)(j:Nat):V4:=
 match j with
 |0=>DZ (R 1) (R 2) (R 3)
 |1=>(DZ (R 0) (R 2) (R 3)).smul (-1)
 |2=>DZ (R 0) (R 1) (R 3)
 |_=>(DZ (R 0) (R 1) (R 2)).smul (-1)
theorem nt {i}(h:i<4):i=0\/i=1\/i=2\/i=3:=om
theorem Bb (R)(i j)(a:i<4)(b:j<4):(R i).dot (QL R j)=if i=j then Jb R else 0:=by rcases nt a with rfl|rfl|rfl|rfl<;>rcases nt b with rfl|rfl|rfl|rfl<;>(first|rw[zQ rfl]|rw[zO dc])<;>simp only[QL,Jb,Cb,DZ,dot,smul]<;>grind
theorem OT (R)(x):x.smul (Jb R)=((((QL R 0).smul ((R 0).dot x)).add ((QL R 1).smul ((R 1).dot x))).add ((QL R 2).smul ((R 2).dot x))).add ((QL R 3).smul ((R 3).dot x)):=by apply ext'<;>simp only[QL,Jb,Cb,DZ,dot,smul,add]<;>grind
theorem LU {R}(a:Jb R≠0){x y}(h:∀i,i<4->(R i).dot x=(R i).dot y):x=y:=by have b:=OT R x;rw[h 0 om,h 1 om,h 2 om,h 3 om,<-OT R y]at b;simp only[smul,V4.mk.injEq]at b;have⟨c,d,e,f⟩:=b;exact ext' (QU a c) (QU a d) (QU a e) (QU a f)
def xI (R:Nat->V4)(j:Nat)(g:V4):Nat->V4:=λi=>if i=j then g else R i
theorem Mo (R)(j)(g):xI R j g j=g:=zQ rfl
theorem Oc (R){i j}(g)(h:i≠j):xI R j g i=R i:=zO h
theorem Tc (R)(j)(a:j<4)(g):QL (xI R j g) j=QL R j:=by rcases nt a with rfl|rfl|rfl|rfl<;>rfl
theorem Iz (R)(j)(a:j<4)(g):Jb (xI R j g)=g.dot (QL R j):=by have h:=Bb (xI R j g) j j a a;rw[zQ rfl,Mo,Tc R j a]at h;omega
theorem zlx (R)(j k)(c:j<4)(d:k<4)(a:k≠j)(g)(b:g.dot (QL R j)≠0):
 (QL (xI R j g) k).smul (Jb R)=((QL R k).smul (g.dot (QL R j))).add ((QL R j).smul (-(g.dot (QL R k)))):=by
 have a:Jb (xI R j g)≠0:=by rw[Iz R j c];exact b
 refine LU a λi a=>?_;rw[fA,lO,fA,fA,Bb _ _ _ a d];by_cases b:i=j;{subst b;rw[Mo,zO om];grind};rw[Oc R g b,Bb R i k a d,Bb R i j a c,zO b,Iz R j c];grind
def Bo (L:Nat->V4)(m:Nat->Int):V4:=((((L 0).smul (m 0)).add ((L 1).smul (m 1))).add ((L 2).smul (m 2))).add ((L 3).smul (m 3))
theorem TZ (x:V4)(L)(m):x.dot (Bo L m)=m 0*x.dot (L 0)+m 1*x.dot (L 1)+m 2*x.dot (L 2)+m 3*x.dot (L 3):=by simp only[Bo,lO,fA]
theorem MO (R)(m)(i)(a:i<4):(R i).dot (Bo (QL R) m)=m i*Jb R:=by rw[TZ,Bb R i 0 a om,Bb R i 1 a om,Bb R i 2 a om,Bb R i 3 a om];grind
theorem zjT (R)(m)(j)(d:j<4)(g)(b)(c:g.dot (QL R j)≠0):
 (Bo (QL (xI R j g)) (λi=>if i=j then b else m i)).smul (Jb R)=((Bo (QL R) m).smul (g.dot (QL R j))).add ((QL R j).smul (b*Jb R-g.dot (Bo (QL R) m))):=by
 have a:Jb (xI R j g)≠0:=by rw[Iz R j d];exact c
 refine LU a λi c=>?_;rw[fA,lO,fA,fA,MO _ _ i c,Iz R j d];by_cases a:i=j;{subst a;rw[Mo,zQ rfl];grind};rw[Oc R g a,zO a,MO R m i c,Bb R i j c d,zO a];grind
end
section
open V4
variable {f:Nat->Int}
def JK (f:Nat->Int):Prop:=∃k,k<5/\(∀i,i<k->f i=0)/\0<f k
def qz (f:Nat->Int):Prop:=(∀i,i<5->f i=0)\/JK f
theorem JK.n(h:JK f):qz f:= .inr h
theorem Po(f):JK f\/qz (λi=>- f i):=by by_cases h:∃k,k<5/\f k≠0;{have:∃k,k<5/\f k≠0/\∀i,i<k->f i=0:=g_;have⟨k,b,j,c⟩:=this;by_cases d:0<f k;{exact .inl ⟨k,b,c,d⟩};exact .inr<|.inr ⟨k,b,λi a=>g_,g_⟩};refine .inr<|.inl λi a=>?_;grind
theorem JK.not_neg(h:JK f):¬qz (λi=>- f i):=by have⟨k,c,d,_⟩:=h;rintro(b|⟨j,_,e,a⟩);{grind};grind
theorem JK.comb{g h}{p q r}(A:JK f)(hg:qz g)(B:0<p)(D:0<q)(c:0<=r)(e:∀i,i<5->p*h i=q*f i+r*g i):JK h:=by
 have zero:∀x,p*x=0->x=0:=λx u=>by rcases Int.mul_eq_zero.1 u with h|h;{omega};omega
 have v:∀x,0<p*x->0<x:=λx u=>by rcases Int.lt_or_le 0 x with h|h;{omega};have:=Nf (Lp B) h;omega
 have m:∀k,k<5->(∀i,i<k->f i=0)->(∀i,i<k->g i=0)->0<q*f k+r*g k->JK h:=λk a w y z=>⟨k,a,λi b=>zero _ g_,v _ g_⟩;have⟨k,a,d,C⟩:=A;have o:=Int.mul_pos D C;rcases hg with hg|⟨l,s,j,t⟩;{exact m k a d (λi b=>hg i om) g_};rcases Mt l k with h|h|h;{rcases jd c with c|c;{exact m l s (λi b=>d i om) j (by rw[d l h];simpa using Int.mul_pos c t)};subst c;exact⟨k,a,λi b=>zero _ g_,v _ g_⟩};{subst h;exact m l s d j (by have:=Gc c<|Lp t;omega)};exact m k a d (λi b=>j i om) g_
theorem qz.comb{g h}{p q r}(c:qz f)(hg:qz g)(j:0<p)(d:0<=q)(b:0<=r)(e:∀i,i<5->p*h i=q*f i+r*g i):qz h:=by
 have zero:∀x,p*x=0->x=0:=λx a=>by rcases Int.mul_eq_zero.1 a with h|h;{omega};omega
 rcases jd d with d|d;{rcases c with c|c;{rcases jd b with b|b;{rcases hg with hg|hg;{exact .inl λi a=>zero _ g_};exact .inr<|hg.comb (.inl c) j b (Lp d) λi a=>g_};subst b;exact .inl λi a=>zero _ g_};exact .inr<|c.comb hg j d b e};subst d;rcases jd b with b|b;{rcases hg with hg|hg;{exact .inl λi a=>zero _ g_};exact .inr<|hg.comb c j b (Int.le_refl 0) λi a=>g_};subst b;exact .inl λi a=>zero _ g_
def fm (l:L_):V4:=⟨l.getD 0 0,l.getD 1 0,l.getD 2 0,l.getD 3 0⟩
def QV (i:Nat):V4:=⟨if i=0 then 1 else 0,if i=1 then 1 else 0,if i=2 then 1 else 0,if i=3 then 1 else 0⟩
def z6 (a_:L_)(i:Nat):V4:=
 match i with
 |0=>fm a_
 |i+1=>if a_.getD i 0<=0 then(QV i).smul (-1)else QV i
def rk (a_:L_)(x:V4)(i:Nat):Int:=(z6 a_ i).dot x
theorem KH(a_)(x y)(i):rk a_ (x.add y) i=rk a_ x i+rk a_ y i:=lO _ _ _
theorem JH(a_)(x)(t)(i):rk a_ (x.smul t) i=t*rk a_ x i:=fA _ _ _
theorem DE(x):(QV 0).dot x=x.a/\(QV 1).dot x=x.b/\(QV 2).dot x=x.c/\(QV 3).dot x=x.d:=by simp[QV,dot]
theorem XJ{a_}{x}(h:∀i,i<5->rk a_ x i=0):x=V4.zero:=by
 have b:∀i,i<4->(QV i).dot x=0:=by intro i a;have:=h (i+1) om;have a:(if a_.getD i 0<=0 then(QV i).smul (-1)else QV i).dot x=0:=this;split at a;{rw[iF]at a;omega};omega
 have⟨g,j,a,k⟩:=DE x;exact ext' (by rw[<-g,(b 0 om)];rfl) (by rw[<-j,(b 1 om)];rfl) (by rw[<-a,(b 2 om)];rfl) (by rw[<-k,(b 3 om)];rfl)
