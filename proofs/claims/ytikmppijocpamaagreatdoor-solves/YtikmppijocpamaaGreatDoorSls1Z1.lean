import Derived.Test.YtikmppijocpamaaGreatDoorSls1Z0
import Derived.Test.YtikmppijocpamaaGreatDoorSls1ZS
open Option renaming none->O,some->E
open Go.Value renaming slice->V,bool->G,tuple->tp,int->it
open Go.Obj renaming cells->cl
open Go renaming World->H
open Go.Proofs.Tryz renaming prog->pg
open Go.Proofs.Tryz
open Go.Ending renaming returned->Xa
open Go.IntKind renaming i64->Xb
open Go.Addr renaming mk->Xd
set_option linter.unusedSimpArgs false
set_option linter.unusedVariables false
set_option maxHeartbeats 2000000
set_option maxRecDepth 100000
open List renaming replicate->kah
open Go.Fence renaming wide->kak
open Go.Region renaming wanted->kan,ready->kam
open List renaming length->Y,toArray->BY
open Go.World renaming alloc->AI,setCell->AS,cell?->AT,heap->IT
open Array renaming size->IS
namespace Go.Proofs.YtikmppijocpamaaGreatDoor
open Go.RowKit
section
variable {B D Z b base c cap d e f g high j k l lead m n off q r u z:Nat}{C:H->Prop}{L a ds es:N_}{P:Program}{Q:Exit->Act->H->Prop}{W W' w w':H}{q1:Nat->W_->H->Prop}{h i:Code}{o:Oper}{ops:Array Oper}{p:Addr}{rest:List Oper}{v:Value}
def val:N_->Nat
 |[]=>0
 |d::ds=>d+4294967296*val ds
def fT (ds:N_):Prop:=∀d∈ds,d<4294967296
def lC (ds:N_):Prop:=∀k,Y ds=k+1->ds.getD k 0≠0
theorem fT.cons(h:fT (d::ds)):d<4294967296/\fT ds:=⟨h d<|qA ..,λx a=>h x<|qq _ a⟩
theorem fT.get(h:fT ds)(i):ds.getD i 0<4294967296:=by by_cases a:i<Y ds;{rw[zk,zg a,qB];exact h _<|zJ a};grind
theorem fT.set(h:fT ds)(i x)(a:x<4294967296):fT (ds.set i x):=by intro d a;rcases MA a with a|a;{exact h d a};omega
theorem fT.take(h:fT ds)(n):fT (ds.take n):=λd a=>h d (ZY a)
theorem fT.drop(h:fT ds)(n):fT (ds.drop n):=λd a=>h d (I1 a)
theorem fT.append{b}(h:fT a)(k:fT b):fT (a++b):=λd c=>by rcases zU.1 c with c|c;{exact h d c};exact k d c
theorem fA(a b):val (a++b)=val a+4294967296^Y a*val b:=by induction a with |nil=>simp[val] |cons d c d=>simp only[ZZ,val,qi,d,Zv,Zs];grind
theorem gd(h:fT ds):val ds<4294967296^Y ds:=by induction ds with |nil=>simp[val] |cons d ds a=>have b:=h.cons.1;have b:=a h.cons.2;simp only[val,qi,Zv];omega
theorem sj(n):val (kah n 0)=0:=by induction n with |zero=>rfl |succ n a=>simp[List.replicate_succ,val,a]
def Jr (ds:N_):Nat->Nat
 |0=>0
 |k+1=>if ds.getD k 0=0 then Jr ds k else k+1
theorem OA(ds)(n):Jr ds n<=n:=by induction n with |zero=>exact zh _ |succ n a=>unfold Jr;grind
theorem FO(ds:N_)(k)(h:k<Y ds):ds.take (k+1)=ds.take k ++ [ds.getD k 0]:=by rw[ZQ h,zk,zg h,qB]
theorem lP(ds:N_)(n)(h:n<=Y ds):val (ds.take (Jr ds n))=val (ds.take n):=by induction n with |zero=>rfl |succ n b=>unfold Jr;split;{rename_i a;rw[b om,FO _ n om,fA,a];rfl};rfl
theorem MZ(ds:N_)(n)(h:n<=Y ds):lC (ds.take (Jr ds n)):=by
 intro k b;have c:=OA ds n;rw[zX]at b;have a:Jr ds n=k+1:=om;have:ds.getD k 0≠0:=by clear b c;induction n with |zero=>simp[Jr]at a |succ n e=>unfold Jr at a;grind
 grind
theorem lC.nil:lC []:=λ_ h=>by simp at h
theorem lC.le(h:lC ds)(k)(a:Y ds=k+1):4294967296^k<=val ds:=by
 have b:=h k a;have e:=FO ds k om;rw[zP om]at e;rw[e,fA,zX,Qw om];simp only[val,Ql,qV];have:1<=ds.getD k 0:=om;calc 4294967296^k=4294967296^k*1:=by rw[jM]
  _<=4294967296^k*ds.getD k 0:=Zr _ this
  _<=_:=Nat.le_add_left _ _
theorem gK{a}(h:a<=b):4294967296^a<=4294967296^b:=ZD dc h
theorem pow_pos(a):0<4294967296^a:=At dc
theorem lC.len(h:lC ds)(a:val ds<4294967296^k):Y ds<=k:=by cases hl:Y ds with |zero=>omega |succ j=>have:=h.le j hl;(have:¬k<=j:=λa=>by have:=gK a;omega);omega
theorem lC.zero(h:lC ds):val ds=0↔ds= []:=by constructor;{intro a;cases hl:Y ds with |zero=>grind |succ j=>have:=h.le j hl;grind};rintro rfl;rfl
theorem mu{b}(d:fT a)(hb:fT b)(c:Y a=Y b)(i:val a=val b):a=b:=by induction a generalizing b with |nil=>grind |cons e f j=>cases b with |nil=>grind |cons g h=>simp only[val]at i;have i:=d.cons.1;have i:=hb.cons.1;have i:e=g:=om;have e:val f=val h:=om;rw[i,j d.cons.2 hb.cons.2 g_ e]
theorem lC.kH{b}(c:fT a)(hb:lC b)(h:Y a<Y b):val a<val b:=by have d:=gd c;cases hl:Y b with |zero=>omega |succ j=>have:=hb.le j hl;have:=gK (show Y a<=j by omega);omega
theorem lC.inj{b}(c:fT a)(hb:fT b)(e:lC a)(f:lC b)(d:val a=val b):a=b:=by rcases Gd (Y a) (Y b) with h|h|h;{have:=f.kH c h;omega};{exact mu c hb h d};have:=e.kH hb h;omega
theorem fy(ds)(k)(h:k<=Y ds):val ds=val (ds.take k)+4294967296^k*val (ds.drop k):=by have:=fA (ds.take k)<|ds.drop k;simp_all
theorem fI(ds:N_)(k)(h:k<Y ds):val (ds.take (k+1))=val (ds.take k)+4294967296^k*ds.getD k 0:=by rw[FO ds k h,fA,zX,Qw om];simp[val]
theorem gJ(ds:N_)(k)(h:k<Y ds):val (ds.drop k)=ds.getD k 0+4294967296*val (ds.drop (k+1)):=by rw[jt h,val,zk,zg h,qB]
theorem L8(ds:N_)(i x)(h:i<Y ds):(ds.set i x).getD i 0=x:=by rw[zk,jZ h,qB]
theorem YV(ds:N_)(i j x)(h:i≠j):(ds.set i x).getD j 0=ds.getD j 0:=by rw[zk,Pw h,<-zk]
theorem P_(ds:N_)(k x)(h:k<Y ds):(ds.set k x).take (k+1)=ds.take k ++ [x]:=by rw[FO _ k g_,L8 _ k x h,Re<|zh _]
theorem QH(ds:N_)(k x):(ds.set k x).drop (k+1)=ds.drop (k+1):=by rw[List.drop_set_of_lt om]
theorem DH{b:N_}(h:a.drop k=b.drop k):a.drop (k+1)=b.drop (k+1):=by rw[<-Jn,<-Jn,h]
theorem Kw{b:N_}(h:a.drop k=b.drop k):a.getD k 0=b.getD k 0:=by have c:(a.drop k)[0]? =a[k]?:=g_;grind
theorem fF(ds:N_)(k):val (ds.take (k+1))=val (ds.take k)+4294967296^k*ds.getD k 0:=by by_cases h:k<Y ds;{exact fI _ k h};rw[zP om,zP om,zk,qL om];simp
theorem nT(ds:N_)(k x)(h:k<Y ds):val ((ds.set k (x%4294967296)).take (k+1))+4294967296^(k+1)*(x/4294967296)=val (ds.take k)+4294967296^k*x:=by rw[P_ _ k _ h,fA,zX,Qw om,Zv,Zt];simp only[val,Ql,qV];rw[I8,<-Zs,Nat.mod_add_div]
theorem vA(b:k<Y a)(d:val (a.take k)+4294967296^k*c=val (ds.take k)+val (es.take k)):
 val ((a.set k ((c+ds.getD k 0+es.getD k 0)%4294967296)).take (k+1))+4294967296^(k+1)*((c+ds.getD k 0+es.getD k 0)/4294967296)=val (ds.take (k+1))+val (es.take (k+1)):=by rw[nT a k _ b,fF _ k,fF _ k,Zs,Zs];omega
theorem Y0(e:k<=Y a)(f:Y a=Y ds)(c:Y es<=k)(b:a.drop k=ds.drop k)(d:val (a.take k)+4294967296^k*0=val (ds.take k)+val (es.take k)):
 val a+4294967296^Y ds*0=val ds+val es:=by rw[zP c]at d;rw[fy a k e,fy ds k om,b];omega
theorem getD_none(es:N_)(k)(h:Y es<=k):es.getD k 0=0:=by rw[zk,qL h];rfl
theorem PR(f y:Nat)(a:f<4294967296)(b:y<4294967296):0<=(f)*(y:Int)/\(f)*(y:Int)<=18446744065119617025:=by have a:f*y<=4294967295*4294967295:=Z7 om om;omega
theorem V0{c' bw'}(e:k<Y a)(d:val (a.take k)+f*val (es.take k)=val (ds.take k)+4294967296^k*(c+b))(g:c+f*es.getD k 0+b+z=ds.getD k 0+4294967296*(c'+bw')):
 val ((a.set k z).take (k+1))+f*val (es.take (k+1))=val (ds.take (k+1))+4294967296^(k+1)*(c'+bw'):=by rw[P_ a k _ e,fA,zX,Qw om,fF ds k,fF _ k,Zv,Zt];simp only[val,Ql,qV];grind
theorem zoh(e:k<=Y a)(g:Y a=Y ds)(c:Y es<=k)(b:a.drop k=ds.drop k)(d:val (a.take k)+f*val (es.take k)=val (ds.take k)+4294967296^k*(0+0)):
 val a+f*val es=val ds+4294967296^Y ds*0:=by rw[zP c]at d;rw[fy a k e,fy ds k om,b];omega
def Jy (a b:Nat):Int:=if a<b then -1 else if b<a then 1 else 0
theorem B9{a}(h:a<b):Jy a b=-1:=zQ h
theorem Cb{a}(h:b<a):Jy a b=1:=by unfold Jy;rw[zO om,zQ h]
theorem F7{a}(h:a=b):Jy a b=0:=by unfold Jy;rw[zO om,zO om]
theorem lW{b}(d:fT a)(f:Y a=Y b)(k)(e:k<Y a)(c:a.drop (k+1)=b.drop (k+1))(g:a.getD k 0<b.getD k 0):val a<val b:=by rw[fy a k om,fy b k om,gJ a k e,gJ b k om,c];have c:=gd<|d.take k;rw[zX,Qw om]at c;generalize val (b.drop<|k+1)=x;generalize 4294967296^k=p at *;have c:p*(a.getD k 0+4294967296*x+1)<=p*(b.getD k 0+4294967296*x):=Zr _ om;grind
theorem Tx{b:N_}(f:Y a=Y b)(k)(d:k<Y a)(e:a.drop (k+1)=b.drop (k+1))(c:a.getD k 0=b.getD k 0):a.drop k=b.drop k:=by rw[jt d,jt<|show k<Y b by omega,e];grind
def Row (w:H)(b off:Nat)(ds:N_):Prop:=
 ∀i,i<Y ds->AT w ⟨b,off+i,O⟩=E (it .u32 ((ds.getD i 0)))
def uy (w:H)(b off n:Nat):Prop:=∀i,i<n->w.frozen? ⟨b,off+i,O⟩=false
def kS (w:H)(v:Value)(ds:N_):Prop:=
 ∃ao cap,v=V ao (Y ds) cap/\Y ds<=cap/\(ds≠ []->∃b off,ao=E (Xd b off O)/\b<IS (IT w)/\Row w b off ds)
def fj (w:H)(v:Value)(n:Nat):Prop:=∃ds,kS w v ds/\fT ds/\lC ds/\val ds=n
theorem Row.J(h:Row w b off ds)(hb:Below B w w')(a:b<B):Row w' b off ds:=λi c=>(hb.cell a).trans (h i c)
theorem kS.J(h:kS w v ds)(hb:Below w.heap.size w w'):kS w' v ds:=by have⟨a,b,d,c,e⟩:=h;refine⟨a,b,d,c,λd=>?_⟩;have⟨b,off,c,a,f⟩:=e d;exact⟨b,_,c,zK a hb.size,f.J hb a⟩
theorem fj.J(h:fj w v n)(hb:Below w.heap.size w w'):fj w' v n:=by have⟨a,b,c⟩:=h;exact⟨a,b.J hb,c⟩
theorem fj.alloc(h:fj w v n)(o):fj (AI w o) v n:=h.J ((qf _ _).alloc (zh _) o)
theorem fj.drew(h:fj w v n):fj w.drew v n:=h
abbrev XH:=@fj.drew
theorem fj.zero(w)(a:A_)(cap):fj w (V a 0 cap) 0:=⟨_,⟨a,_,rfl,qo _,λh=>absurd rfl h⟩,(λ_ h=>g_),lC.nil,rfl⟩
abbrev Xo:=@fj.zero
structure l_ (b off n:Nat)(w w':H):Prop where
 os:w'.os=w.os
 tape:w'.tape=w.tape
 output:w'.output=w.output
 size:IS (IT w')=IS (IT w)
 block:∀k,k≠b->w'.heap[k]? =w.heap[k]?
 cell:∀j,(j<off\/off+n<=j)->AT w' (Xd b j O)=AT w (Xd b j O)
 frozen:∀j,w'.frozen? (Xd b j O)=w.frozen? (Xd b j O)
theorem l_.refl(b off n)(w):l_ b off n w w:=⟨rfl,rfl,rfl,rfl,λ_ _=>rfl,λ_ _=>rfl,λ_=>rfl⟩
abbrev Xx:=@l_.refl
theorem l_.trans{u v}(h:l_ b off n u v)(k:l_ b off n v w):l_ b off n u w:=⟨k.os.trans h.os,k.tape.trans h.tape,k.output.trans h.output,k.size.trans h.size,λi a=>(k.block i a).trans<|h.block i a,λj a=>(k.cell j a).trans<|h.cell j a,λj=>(k.frozen j).trans<|h.frozen j⟩
theorem l_.drew{u:H}(h:l_ b off n u w):l_ b off n u w.drew:=⟨h.os,h.tape,h.output,h.size,h.block,h.cell,h.frozen⟩
theorem l_.setCell{u}(h:l_ b off n u w)(i)(a:i<n)(x):l_ b off n u (AS w ⟨b,off+i,O⟩ x):=h.trans ⟨rfl,rfl,rfl,sp,λk a=>qC _ _ _ _ a,λj a=>zA _ _ _ _ (by intro a;injection a with _ a;omega),λj=>sp⟩
theorem l_.J(h:l_ b off n w w')(a:B<=b):Below B w w':=⟨h.os,h.tape,h.output,jm h.size.symm,λk a=>h.block k om⟩
theorem l_.other(h:l_ b off n w w'){o}(a:c≠b)(e:Row w c o ds):Row w' c o ds:=λi d=>(Zj<|h.block c a).trans (e i d)
theorem l_.free(h:l_ b off n w w'){o}(a:uy w b o m):uy w' b o m:=λi c=>(h.frozen _).trans (a i c)
theorem Row.setCell(h:Row w b off ds)(i x:Nat)(a:i<Y ds):
 Row (AS w ⟨b,off+i,O⟩ (it .u32 (x))) b off (ds.set i x):=by intro j d;rw[qX]at d;by_cases c:i=j;{subst c;rw[zN _ _ _<|h i a,L8 _ i x a]};rw[zA _ _ _ _ g_,YV _ i j x c];exact h j d
theorem Row.take(h:Row w b off ds)(n):Row w b off (ds.take n):=by intro i a;rw[zX]at a;rw[h i om,zk,zk,jG,zQ om]
theorem Row.drop(h:Row w b off ds)(n):Row w b (off+n) (ds.drop n):=by intro i a;rw[Za]at a;rw[show off+n+i=off+(n+i)by omega,h _ om,zk,zk,Jo]
theorem Row.append{xs ys}(h:Row w b off xs)(k:Row w b (off+Y xs) ys):Row w b off (xs++ys):=by intro i a;rw[zM]at a;by_cases a:i<Y xs;{rw[h i a,zk,zk,zS a]};have:=k (i-Y xs) om;grind
theorem ud(h:Row w b off ds)(c:ds≠ []):b<IS (IT w):=by exact zw (h 0<|ZC.2 c)
theorem kS.mk(h:Row w b off ds)(hb:b<IS (IT w))(a:Y ds<=cap):kS w (V (E (Xd b off O)) (Y ds) cap) ds:=⟨_,cap,rfl,a,λ_=>⟨b,off,rfl,hb,h⟩⟩
theorem j_(h:Row w b off ds)(a:fT ds)(hb:b<IS (IT w))(d:Y ds=n)(c:n<=cap):
 fj w (V (E (Xd b off O)) (Jr ds n) cap) (val ds):=by have c:=OA ds n;have c:Y (ds.take<|Jr ds n)=Jr ds n:=g_;refine⟨_,⟨_,_,by rw[c],om,λ_=>⟨b,_,rfl,hb,h.take _⟩⟩,a.take _,MZ _ n om,?_⟩;rw[lP _ n om,zP om]
def Bo (w:H)(b:Nat)(v:Value)(ds:N_):Prop:=
 ∃ao cap,v=V ao (Y ds) cap/\Y ds<=cap/\(ds≠ []->∃b' off,ao=E (Xd b' off O)/\b'<IS (IT w)/\b'≠b/\Row w b' off ds)
theorem kS.Gs(h:kS w v ds)(hb:Below w.heap.size w w')(b)(a:IS (IT w)<=b):Bo w' b v ds:=by have⟨a,c,e,d,f⟩:=h;refine⟨a,c,e,d,λe=>?_⟩;have⟨c,off,d,a,g⟩:=f e;exact⟨c,_,d,zK a hb.size,om,g.J hb a⟩
theorem Bo.U6(h:Bo w b v ds)(c:l_ b off n w w'):Bo w' b v ds:=by have⟨a,d,f,e,i⟩:=h;refine⟨a,d,f,e,λg=>?_⟩;have⟨d,off,e,f,a,j⟩:=i g;exact⟨d,_,e,by rw[c.size];omega,a,c.other a j⟩
theorem PN{w1}(hb:Below W.heap.size W w1):(∀b o,b<IS (IT W)->AT w1 (Xd b o O)=AT W (Xd b o O))/\(∀b o,b<IS (IT W)->w1.frozen? (Xd b o O)=W.frozen? (Xd b o O)):=⟨λb o h=>hb.cell h,λb o h=>hb.frozen h⟩
theorem zf{p}(h:p):Hid p:=h
theorem KJ{p}(h:Hid p):p:=h
theorem sZ{k}{a b}(h:a=b):Ending.returned (it k a)=Xa (it k b):=by rw[h]
theorem RL{a b}(h:a=b):Ending.returned (G a)=Xa (G b):=by rw[h]
theorem M4{a:A_}(h:m=n):Ending.returned (V a m c)=Xa (V a n c):=by rw[h]
def lenOf:Value->Nat|V _ k _=>k|_=>0
theorem KX(x d:Nat)(b:x<4294967296)(a:d<4294967296):bits .or .u64 ((x)*4294967296) (d)=((d+4294967296*x:Nat)):=by have e:(x*4294967296)=((x*4294967296:Nat):Int):=om;rw[e,u64_or_nat _ _ om om,nat_join 32 _ d om om];omega
theorem JR(w)(v)(h:fj w v 0):
 C_ 79 #[v] w λe w'=>e=Xa (G true)/\w'=w:=by obtain⟨_,⟨_,_,rfl,_,f⟩,c,a,b⟩:=h;have d:=a.zero.1 b;subst d;go_enter func79,ntmps79;go_wp2;go_ret;simp
theorem jW(w)(v)(n)(h:fj w v n)(c:n≠0):
 C_ 79 #[v] w λe w'=>e=Xa (G false)/\w'=w:=by obtain⟨a,⟨_,_,rfl,_,j⟩,f,k,d⟩:=h;have b:a≠ []:=λe=>c (by rw[<-d,e];rfl);have g:=ZC.2 b;have i:((Y a:Int) == 0)=false:=ZN.2 om;generalize Y a=len at g i⊢;go_enter func79,ntmps79;go_wp2;go_ret;simp
theorem Pu(w)(v)(h:fj w v 1):
 C_ 123 #[v] w λe w'=>e=Xa (G true)/\w'=w:=by obtain⟨d,⟨_,_,rfl,_,b⟩,f,c,a⟩:=h;match d,(c.len (k:=1)<|by omega) with |[],_=>simp[val]at a |[d],_=>simp[val]at a;subst a;obtain⟨_,off,rfl,_,a⟩:=b sp;have d:=a 0 sp;simp at d;go_enter func123,ntmps123;go_wp2;go_ret;simp
theorem RM(w)(v)(n)(h:fj w v n)(a:n≠1):
 C_ 123 #[v] w λe w'=>e=Xa (G false)/\w'=w:=by obtain⟨a,⟨_,_,rfl,_,f⟩,_,_,b⟩:=h;by_cases c:Y a=1;{match a,c with |[d],_=>simp[val]at b;subst b;obtain⟨_,off,rfl,_,c⟩:=f sp;have b:=c 0 sp;simp at b;have c:((d:Int) == 1)=false:=ZN.2 om;generalize d=x at b c;go_enter func123,ntmps123;go_wp2;go_ret;simp};have b:((Y a:Int) == 1)=false:=ZN.2 om;generalize Y a=len at b;go_enter func123,ntmps123;go_wp2;go_ret;simp
theorem gq(w)(b off cap n)(ds)(c:n<=cap)(hm:n<=140737488355328)(d:n<=Y ds)(a:Row w b off ds):
 C_ 195 #[V (E (Xd b off O)) n cap] w λe w'=>e=Xa (V (E (Xd b off O)) (Jr ds n) cap)/\w'=w:=by
 go_enter func195,ntmps195;go_wp2;go_loop [0] (λv=>∃k:Nat,k<=n/\Hid (Jr ds n=Jr ds k)/\v=V (E<|Xd b off O) k cap) lenOf;case atStart=>exact⟨n,zh _,rfl,rfl⟩
 case round=>obtain⟨k,_,c,rfl⟩:=hrel;cases k with |zero=>go_wp2;go_ret;exact⟨M4 c.out.symm,rfl⟩ |succ k=>have f:=a k om;by_cases d:ds.getD k 0=0;{rw[d]at f;have a:Hid _:=d;go_wp2;go_round;(case rel=>exact⟨k,om,by rw[Hid,c.out,Jr,zQ a.out],rfl⟩);case measure=>simp[lenOf]};have g:((ds.getD k 0):Int)≠0:=om;generalize h:((ds.getD k 0:Nat):Int)=x at f g;have a:Hid _:=d;go_wp2;go_ret;exact⟨M4<|by rw[c.out,Jr,zO a.out],rfl⟩
theorem zg7(w)(a b)(c:a<18446744073709551616)(hb:b<18446744073709551616):
 C_ 189 #[it .u64 (a:Nat),it .u64 (b:Nat)] w λe w'=>e=Xa (it .u64 (Nat.gcd a b))/\∃n,w'=w.drewN n:=by
 go_enter func189,ntmps189;go_wp2;go_loopw [0,1] (λu v wr=>∃x y:Nat,x<18446744073709551616/\y<18446744073709551616/\u=it .u64 x/\v=it .u64 y/\Hid (Nat.gcd x y=Nat.gcd a b)/\∃n,wr=w.drewN n) (λ_ v _=>(intOf v).toNat);case atStart=>exact⟨a,b,c,hb,rfl,rfl,rfl,0,rfl⟩
 case round=>obtain⟨x,y,_,f,rfl,rfl,d,n,rfl⟩:=hrel;by_cases c:0<y;{go_wp2;go_region;(all_goals go_wp2);go_roundw;(case rel=>exact⟨y,_,f,tJ (Z0 _ c) f,rfl,rfl,by rw[Hid,<-d.out,FP y _,<-Nat.gcd_rec,FP],n+1,rfl⟩);case measure=>have:=Z0 x c;simp[intOf];omega};have:y=0:=om;subst this;go_wp2;go_ret;exact⟨sZ<|by rw[<-d.out,Nat.gcd_zero_right],n,rfl⟩
theorem MD(w)(v)(n)(h:fj w v n)(q:n<18446744073709551616):
 C_ 190 #[v] w λe w'=>e=Xa (it .u64 (n))/\w'=w:=by
 obtain⟨a,⟨_,_,rfl,_,r⟩,c,d,b⟩:=h;have C:=d.len (k:=2) om;have A:((min (Y a:Int) 2))=Y a:=om;have f:Hid _:=b;have p:1<=Y a->val (a.drop 1)<4294967296:=by intro u;have y:=gd<|c.drop 1;have j:Y (a.drop 1)<=1:=so;have z:=gK j;omega
 clear b d;go_enter func190,ntmps190;go_wp2;go_loop [3,4] (λx i=>∃k:Nat,k<=Y a/\i=i_ (k-1)/\x=it .u64 (val (a.drop k):Nat)) (λ_ i=>(intOf i+1).toNat);case atStart=>exact⟨_,zh _,rfl,by simp[val]⟩
 case round=>obtain⟨k,m,rfl,rfl⟩:=hrel;cases k with |zero=>go_wp2;go_ret;exact⟨sZ<|by rw[f.out],rfl⟩ |succ k=>(have o:val (a.drop<|k+1)<4294967296:=by cases k with |zero=>grind |succ k=>rw[QP om];decide);have l:=c.get k;obtain⟨_,off,rfl,_,s⟩:=r g_;have B:=s k om;have t:Hid _:=gJ a k om;generalize a.getD k 0=g at *;generalize val (a.drop<|k+1)=x at *;go_wp2;go_round;(case rel=>exact⟨k,om,g_,by rw[t.out,KX x g o l]⟩);case measure=>simp[intOf]
theorem DT(w)(n)(a:n<18446744073709551616):
 C_ 188 #[it .u64 (n:Nat)] w λe w'=>∃v,e=Xa v/\fj w' v n/\Below w.heap.size w w':=by
 have a:Row (AI w<|Obj.cells #[it IntKind.u32<|n%4294967296,it IntKind.u32<|n/4294967296] 226) w.heap.size 0 [n%4294967296,n/4294967296]:=by intro i b;match i,b with |0,_=>simp |1,_=>simp
 go_enter func188,ntmps188;go_wp2_with fail;refine(gq _ _ 0 2 2 _ om om sp a).mono<|fK ?_;go_wp2;go_ret;refine⟨_,rfl,?_,(qf _ _).alloc (zh _) _⟩;have:=j_ (cap:=2) (n:=2) a (by intro d a;grind) sp rfl om;have e:val [n%4294967296,n/4294967296]=n:=by simp[val];omega
 rw[e]at this;exact this
theorem zni(w)(a b)(c:a<=140737488355328)(hb:b<=140737488355328):
 C_ 273 #[i_ (a:Nat),i_ (b:Nat)] w λe w'=>e=Xa (i_ (Jy a b))/\w'=w:=by rcases Gd a b with h|h|h;{rw[B9 h];go_enter func273,ntmps273;go_wp2;go_ret;simp};{rw[F7 h];subst h;go_enter func273,ntmps273;go_wp2;go_ret;simp};rw[Cb h];go_enter func273,ntmps273;go_wp2;go_ret;simp
theorem Yr(w)(a b)(c:a<4294967296)(hb:b<4294967296):
 C_ 274 #[it .u32 (a:Nat),it .u32 (b:Nat)] w λe w'=>e=Xa (i_ (Jy a b))/\w'=w:=by rcases Gd a b with h|h|h;{rw[B9 h];go_enter func274,ntmps274;go_wp2;go_ret;simp};{rw[F7 h];subst h;go_enter func274,ntmps274;go_wp2;go_ret;simp};rw[Cb h];go_enter func274,ntmps274;go_wp2;go_ret;simp
theorem fR(w)(u v)(m n K)(b:fj w u m)(c:fj w v n)(hm:m<4294967296^K)(t:n<4294967296^K)(a:K<=1073741824):
 C_ 192 #[u,v] w λe w'=>e=Xa (i_ (Jy m n))/\∃q,w'=w.drewN q:=by obtain⟨a,⟨_,_,rfl,_,z⟩,d,i,rfl⟩:=b;obtain⟨b,⟨_,_,rfl,_,A⟩,f,j,rfl⟩:=c;have c:=i.len hm;have c:=j.len t;by_cases s:Y a=Y b;{have c:(Y a != Y b)=false:=g_;have c:Hid _:=s;clear hm t i j s;go_enter func192,ntmps192;go_wp2;go_loopw [5] (λg wr=>∃k:Nat,k<=Y a/\g=i_ (k-1)/\Hid (a.drop k=b.drop k)/\∃q,wr=w.drewN q) (λg _=>(intOf g+1).toNat);(case atStart=>exact⟨_,zh _,rfl,g_,0,rfl⟩);case round=>obtain⟨k,h,rfl,g,q,rfl⟩:=hrel;cases k with |zero=>go_wp2;go_ret;refine⟨sZ ?_,q,rfl⟩;rw[F7<|by rw[<-Q2 (l:=a),g.out,Q2]] |succ k=>obtain⟨_,off,rfl,_,C⟩:=z g_;obtain⟨_,_,rfl,_,D⟩:=A g_;have h:k<Y b:=g_;have o:=C k om;have o:=D k h;have F:=d.get k;have I:=f.get k;have h:(0:Int)<=k:=om;have h:((k:Int)).toNat=k:=om;have h:k<Y a:=om;have h:k<Y b:=om;have y:=λh=>lW d c.out k om g.out h;have B:=λh=>lW f c.out.symm k om g.out.symm h;have x:=λh=>Tx c.out k om g.out h;have o:Hid _:=y;have p:Hid _:=B;have r:Hid _:=x;clear y B x z A C D;generalize a.getD k 0=x at *;generalize b.getD k 0=y at *;by_cases g:x=y;{have c:=r.out g;have B:Hid _:=c;have C:(x != y)=false:=g_;go_wp2;go_region;(all_goals go_wp2);go_roundw;(case rel=>grind);case measure=>simp[intOf]};have C:(x != y)=true:=g_;(have c:Hid (Jy x y=Jy (val a) (val b)):=by rcases Oi g with h|h;{rw[Hid,B9 h,B9<|o.out h]};rw[Hid,Cb h,Cb<|p.out h]);go_wp2;go_region;(all_goals go_wp2);go_quiet ((go_at_call 274;exact(Yr _ _ _ F I).mono λ_ _ h=>⟨h.1,_,h.2⟩));go_wp2;go_ret;exact⟨sZ c.out,q+1+nq,by simp⟩};have g:(Y a != Y b)=true:=g_;(have g:Jy (Y a) (Y b)=Jy (val a) (val b):=by rcases Oi s with h|h;{rw[B9 h,B9<|j.kH d h]};rw[Cb h,Cb<|i.kH f h]);have c:=g;rw[<-c];clear g c hm t i j d f z A;generalize Y a=a at *;generalize Y b=a at *;go_enter func192,ntmps192;go_wp2_with fail;refine(zni _ _ _ om om).mono<|fK ?_;go_wp2;go_ret;exact⟨rfl,0,rfl⟩
theorem OL(w)(b off cap)(ds es)(v)(g:Y ds<=cap)(i:Y ds<=1073741824)(h:Y es<=Y ds)(f:Row w b off ds)(A:uy w b off (Y ds))(u:fT ds)(d:Bo w b v es)(o:fT es):
 C_ 272 #[V (E (Xd b off O)) (Y ds) cap,v] w λe w'=>e=Xa (tp #[])/\
  ∃a c,Y a=Y ds/\fT a/\Row w' b off a/\l_ b off (Y ds) w w'/\val a+4294967296^Y ds*c=val ds+val es:=by
 have r:=d;obtain⟨_,_,rfl,_,_⟩:=d;go_enter func272,ntmps272;go_wp2;go_loopw [4,8] (λa i wr=>∃(k c:Nat) (d:N_),k<=Y ds/\c<=1/\i=i_ (k:Nat)/\a=it .u64 (c:Nat)/\Hid (Y d=Y ds)/\fT d/\Row wr b off d/\l_ b off (Y ds) w wr/\ Hid (d.drop k=ds.drop k)/\Hid (val (d.take k)+4294967296^k*c=val (ds.take k)+val (es.take k))) (λ_ i _=>Y ds-(intOf i).toNat);case atStart=>exact⟨0,0,_,qo _,om,rfl,rfl,rfl,u,f,Xx _ _ _ _,rfl,rfl⟩
 case round=>obtain⟨k,c,d,_,_,rfl,rfl,a,m,h,g,i,p⟩:=hrel;by_cases f:k<Y ds;{by_cases l:k<Y es;{obtain⟨_,_,j,_,q⟩:=r.U6 g;simp only[qp]at j;obtain⟨rfl,_,rfl⟩:=j;obtain⟨_,_,rfl,_,_,j⟩:=q g_;have z:=h k (by rw[a.out];omega);rw[Kw i.out]at z;have q:=j k l;have D:=u.get k;have j:=o.get k;have C:=g.free A k f;have o:=vA (by rw[a.out];omega) p.out;have j:=h.setCell k ((c+ds.getD k 0+es.getD k 0)%4294967296) (by rw[a.out];omega);have l:=g.setCell k f<|it .u32<|((c+ds.getD k 0+es.getD k 0)%4294967296:Nat);have r:Hid _:=o;generalize ds.getD k 0=x at *;generalize es.getD k 0=y at *;have s:(((c+x+y)%4294967296:Nat))=((c:Int)+x+y)%4294967296:=om;have t:(((c+x+y)/4294967296:Nat))=((c:Int)+x+y)/4294967296:=om;rw[s]at j l;have q:Hid _:=t;go_wp2;go_roundw;(case rel=>exact⟨_,_,_,om,om,g_,g_,g_,m.set _ _<|Z0 _ dc,j,l,by rw[Hid,QH];exact DH i.out,r⟩);case measure=>simp[intOf];omega};by_cases y:c=0;{subst y;have B:=Y0 (by rw[a.out];omega) a.out om i.out p.out;have y:Hid _:=B;have B:Y es<=k:=om;go_wp2;refine zH (qI rfl _ _ _) rfl ?_;exact⟨rfl,d,0,a.out,m,h,g,y.out⟩};have z:=h k (by rw[a.out];omega);rw[Kw i.out]at z;have D:=u.get k;have C:=g.free A k f;have o:=vA (by rw[a.out];omega) p.out;rw[getD_none es k om,qV]at o;have j:=h.setCell k ((c+ds.getD k 0)%4294967296) (by rw[a.out];omega);have l:=g.setCell k f<|it .u32<|((c+ds.getD k 0)%4294967296:Nat);have r:Hid (val ((d.set k<|(c+ds.getD k 0)%4294967296).take _)+4294967296^(k+1)*((c+ds.getD k 0)/4294967296)=val _+val _):=o;generalize ds.getD k 0=x at *;have s:(((c+x)%4294967296:Nat))=((c:Int)+x)%4294967296:=om;have t:(((c+x)/4294967296:Nat))=((c:Int)+x)/4294967296:=om;rw[s]at j l;have q:Hid _:=t;have f:((c:Int) == 0)=false:=ZN.2 om;have B:Y es<=k:=om;go_wp2;go_roundw;(case rel=>exact⟨_,_,_,om,om,g_,g_,g_,m.set _ _<|Z0 _ dc,j,l,by rw[Hid,QH];exact DH i.out,r⟩);case measure=>simp[intOf];omega};have i:k=Y ds:=om;(have f:Hid (val d+4294967296^Y ds*c=val ds+val es):=by have:=p.out;rw[zP (by rw[a.out];omega),zP om,zP om,i]at this;exact this);go_wp2;go_end0;exact⟨rfl,d,c,a.out,m,h,g,f.out⟩
theorem SO(x u a)(e:0<=x)(f:x<4294967296)(c:0<=u)(d:u<4294967296)(hb:0<=a)(b:a<=1)(h:x<u+a):
 IntKind.u64.wrap (IntKind.u64.wrap (x-u)-a)%4294967296=x-u-a+4294967296/\IntKind.u64.wrap (IntKind.u64.wrap (x-u)-a)/9223372036854775808=1:=by have e:∀n,IntKind.u64.wrap n=n%18446744073709551616:=λn=>rfl;grind
theorem zqa(x a)(c:0<=x)(b:a<=1)(h:x<a):
 IntKind.u64.wrap (x-a)%4294967296=x-a+4294967296/\IntKind.u64.wrap (x-a)/9223372036854775808=1:=by have e:∀n,IntKind.u64.wrap n=n%18446744073709551616:=λn=>rfl;grind
theorem Vk(w)(b off cap f)(ds es)(v)(d:Y ds<=cap)(i:Y ds<=1073741824)(g:Y es<=Y ds)(m:f<4294967296)(h:Row w b off ds)(W:uy w b off (Y ds))(T:fT ds)(c:Bo w b v es)(l:fT es):
 C_ 278 #[V (E (Xd b off O)) (Y ds) cap,v,it .u32 (f:Nat)] w λe w'=>
  ∃a r,e=Xa (it .u64 (r:Nat))/\r<=4294967296/\Y a=Y ds/\fT a/\Row w' b off a/\l_ b off (Y ds) w w'/\val a+f*val es=val ds+4294967296^Y ds*r:=by
 have o:=c;obtain⟨_,_,rfl,_,_⟩:=c;go_enter func278,ntmps278;go_wp2;go_loopw [7,8,13] (λg d i wr=>∃(k c a:Nat) (p:N_),k<=Y ds/\c<4294967296/\a<=1/\i=i_ (k:Nat)/\g=it .u64 (c:Nat)/\d=it .u64 (a:Nat)/\Hid (Y p=Y ds)/\fT p/\Row wr b off p/\l_ b off (Y ds) w wr/\ Hid (p.drop k=ds.drop k)/\Hid (val (p.take k)+f*val (es.take k)=val (ds.take k)+4294967296^k*(c+a))) (λ_ _ i _=>Y ds-(intOf i).toNat);case atStart=>exact⟨0,0,0,_,qo _,om,om,rfl,rfl,rfl,rfl,T,h,Xx _ _ _ _,rfl,rfl⟩
 case round=>obtain⟨k,c,a,p,_,_,_,rfl,rfl,rfl,j,u,I,D,q,B⟩:=hrel;by_cases A:k<Y ds;{by_cases g:k<Y es;{obtain⟨_,_,d,_,h⟩:=o.U6 D;simp only[qp]at d;obtain⟨rfl,_,rfl⟩:=d;obtain⟨_,_,rfl,_,_,d⟩:=h g_;have U:=I k (by rw[j.out];omega);rw[Kw q.out]at U;have i:=d k g;have Z:=T.get k;have i:=l.get k;have q1:=D.free W k A;(have K:k<Y p:=by rw[j.out];exact A);have d:=λz=>I.setCell k z K;have g:=λz=>D.setCell k A z;have l:=λz N M=>V0 (z:=z) (c':=N) (bw':=M) K B.out;clear h B;generalize ds.getD k 0=x at *;generalize es.getD k 0=y at *;obtain⟨_,_⟩:=PR f y m i;have X:((f*y:Nat))=(f)*(y:Int):=sp;by_cases C:x<(c+f*y)%4294967296+a;{have J:(x)<((c)+(f)*(y:Int))%4294967296+a:=om;obtain⟨s,t⟩:=SO x _ a om om om om om om J;have i:=l (x+4294967296-(c+f*y)%4294967296-a) ((c+f*y)/4294967296) 1 om;have d:=d<|x+4294967296-(c+f*y)%4294967296-a;have g:=g<|it .u32<|(x+4294967296-(c+f*y)%4294967296-a:Nat);have h:((x+4294967296-(c+f*y)%4294967296-a:Nat):Int)=IntKind.u64.wrap (IntKind.u64.wrap (↑x-(↑c + ↑f * ↑y)%4294967296) - ↑a)%4294967296:=om;rw[h]at d g;have F:Hid ((((c+f*y)/4294967296:Nat):Int)=((c:Int)+f*y)/4294967296):=rfl;have L:x+4294967296-(c+f*y)%4294967296-a<4294967296:=om;have R:(c+f*y)/4294967296<4294967296:=om;have i:=zf i;have m:=zf t;have o:=zf L;clear l h s t X C J L;go_wp2;go_roundw;(case rel=>exact⟨_,_,1,_,om,R,om,g_,g_,by rw[KJ m];rfl,g_,u.set _ _<|KJ o,d,g,by rw[Hid,QH];exact DH q.out,KJ i⟩);case measure=>simp[intOf];omega};have J:((c)+(f)*(y))%4294967296+a<=(x:Int):=om;have i:=l (x-(c+f*y)%4294967296-a) ((c+f*y)/4294967296) 0 om;have d:=d<|x-(c+f*y)%4294967296-a;have g:=g<|it .u32<|(x-(c+f*y)%4294967296-a:Nat);have h:((x-(c+f*y)%4294967296-a:Nat):Int)=(↑x-(↑c + ↑f * ↑y)%4294967296) - ↑a:=om;rw[h]at d g;have F:Hid ((((c+f*y)/4294967296:Nat):Int)=((c:Int)+f*y)/4294967296):=rfl;have L:x-(c+f*y)%4294967296-a<4294967296:=om;have R:(c+f*y)/4294967296<4294967296:=om;(have m:Hid ((↑x-(↑c + ↑f * ↑y)%4294967296 - ↑a:Int)/9223372036854775808=0):=by rw[Hid];omega);have i:=zf i;have o:=zf L;clear l h X C L;go_wp2;go_roundw;(case rel=>exact⟨_,_,0,_,om,R,om,g_,g_,g_,g_,u.set _ _<|KJ o,d,g,by rw[Hid,QH];exact DH q.out,KJ i⟩);case measure=>simp[intOf];omega};have L:Y es<=k:=om;by_cases y:c=0/\a=0;{obtain⟨rfl,rfl⟩:=y;have R:=zf (zoh (by rw[j.out];omega) j.out L q.out B.out);clear B;go_wp2;go_ret;exact⟨p,0,rfl,om,j.out,u,I,D,R.out⟩};have U:=I k (by rw[j.out];omega);rw[Kw q.out]at U;have Z:=T.get k;have q1:=D.free W k A;(have K:k<Y p:=by rw[j.out];exact A);have d:=λz=>I.setCell k z K;have g:=λz=>D.setCell k A z;have l:=λz N M=>V0 (z:=z) (c':=N) (bw':=M) K B.out;rw[getD_none _ k L]at l;clear B;generalize ds.getD k 0=x at *;by_cases z:c=0;{subst z;have A:((a:Int) == 0)=false:=ZN.2 om;by_cases C:x<a;{obtain⟨s,t⟩:=zqa x a om om om;have i:=zf<|l (x+4294967296-a) 0 1 om;have d:=d<|x+4294967296-a;have g:=g<|it .u32<|(x+4294967296-a:Nat);have h:((x+4294967296-a:Nat):Int)=IntKind.u64.wrap (↑x - ↑a)%4294967296:=om;rw[h]at d g;have o:=zf (show x+4294967296-a<4294967296 by omega);have m:=zf t;clear l h s t y;go_wp2;go_roundw;(case rel=>exact⟨_,0,1,_,om,om,om,g_,rfl,by rw[m.out];rfl,g_,u.set _ _ o.out,d,g,by rw[Hid,QH];exact DH q.out,i.out⟩);case measure=>simp[intOf];omega};have i:=zf<|l (x-a) 0 0 om;have d:=d<|x-a;have g:=g<|it .u32<|(x-a:Nat);have h:((x-a:Nat):Int)=↑x - ↑a:=om;rw[h]at d g;have o:=zf (show x-a<4294967296 by omega);have m:=zf (show((x:Int)-a)/9223372036854775808=0 by omega);have A:(a:Int)<=x:=om;clear l h y C;go_wp2;go_roundw;(case rel=>exact⟨_,0,0,_,om,om,om,g_,rfl,g_,g_,u.set _ _ o.out,d,g,by rw[Hid,QH];exact DH q.out,i.out⟩);case measure=>simp[intOf];omega};have K:((c:Int) == 0)=false:=ZN.2 om;have F:=zf (show(c:Int)/4294967296=0 by omega);by_cases C:x<c+a;{have J:(x)<(c:Int)+a:=om;obtain⟨s,t⟩:=SO x c a om om om om om om J;have i:=zf<|l (x+4294967296-c-a) 0 1 om;have d:=d<|x+4294967296-c-a;have g:=g<|it .u32<|(x+4294967296-c-a:Nat);have h:((x+4294967296-c-a:Nat):Int)=IntKind.u64.wrap (IntKind.u64.wrap (↑x - ↑c) - ↑a)%4294967296:=om;rw[h]at d g;have o:=zf (show x+4294967296-c-a<4294967296 by omega);have m:=zf t;clear l h s t C J y z;go_wp2;go_roundw;(case rel=>exact⟨_,0,1,_,om,om,om,g_,g_,by rw[m.out];rfl,g_,u.set _ _ o.out,d,g,by rw[Hid,QH];exact DH q.out,i.out⟩);case measure=>simp[intOf];omega};have i:=zf<|l (x-c-a) 0 0 om;have d:=d<|x-c-a;have g:=g<|it .u32 ((x-c-a:Nat):Int);have h:((x-c-a:Nat):Int)=↑x - ↑c - ↑a:=om;rw[h]at d g;have o:=zf (show x-c-a<4294967296 by omega);have m:=zf (show((x:Int)-c-a)/9223372036854775808=0 by omega);have A:(c:Int)+a<=x:=om;clear l h y C z;go_wp2;go_roundw;(case rel=>exact⟨k+1,0,0,_,om,om,om,by go_num,by rw[F.out];rfl,by rw[m.out];rfl,by rw[Hid,qX,j.out],u.set _ _ o.out,d,g,by rw[Hid,QH];exact DH q.out,i.out⟩);case measure=>simp[intOf];omega};have d:k=Y ds:=om;(have g:Hid (val p+f*val es=val ds+4294967296^Y ds*(c+a)):=by have:=B.out;rw[zP (by rw[j.out];omega),zP om,zP om,d]at this;exact this);clear B d;go_wp2;go_ret;exact⟨p,c+a,by go_num,om,j.out,u,I,D,g.out⟩
theorem SS(ds:N_)(k x):(ds.set k x).take k=ds.take k:=Re (zh _)
theorem Vp{b:N_}(h:a.take (k+1)=b.take (k+1)):a.getD k 0=b.getD k 0:=by have c:(a.take<|k+1)[k]? =a[k]?:=g_;grind
theorem U8{b:N_}(h:a.take (k+1)=b.take (k+1)):a.take k=b.take k:=by have c:(a.take<|k+1).take k=a.take k:=g_;grind
theorem zqb(b:k<Y a)(d:Y a=Y ds)(c:val (ds.drop (k+1))=D*val (a.drop (k+1))+r):
 val (ds.drop k)=D*val ((a.set k ((ds.getD k 0+4294967296*r)/D)).drop k)+(ds.getD k 0+4294967296*r)%D:=by rw[gJ _ k om,gJ _ k g_,L8 a k _ b,QH,c];generalize ds.getD k 0=x;generalize val (a.drop<|k+1)=Q;have a:=Jz (x+4294967296*r) D;grind
theorem GF{x}(b:x<4294967296)(a:r<D):(x+4294967296*r)/D<4294967296:=by rw[QC om];omega
theorem zqc{b:N_}(f:k+j<Y b)(g:b.drop (k+j)=a.drop (k+j))(e:val (b.take (k+j))+4294967296^(k+j)*c=val (a.take (k+j))+4294967296^k*(d*val (es.take j))):
 val ((b.set (k+j) ((c+(d*es.getD j 0+a.getD (k+j) 0))%4294967296)).take (k+(j+1)))+4294967296^(k+(j+1))*((c+(d*es.getD j 0+a.getD (k+j) 0))/4294967296)=
  val (a.take (k+(j+1)))+4294967296^k*(d*val (es.take (j+1))):=by have h:=nT b _ (c+(d*es.getD j 0+a.getD (k+j) 0)) f;rw[<-I8,h,fF a _,fF _ j];grind
theorem zrC{b:N_}(g:k+Y es<Y a)(e:d=ds.getD k 0)(f:val (a.take (k+Y es))+4294967296^(k+Y es)*c=val (b.take (k+Y es))+4294967296^k*(d*val es))(ho:val (b.take (k+Y es))=val (ds.take k)*val es):
 val ((a.set (k+Y es) c).take (k+1+Y es))=val (ds.take (k+1))*val es:=by rw[show k+1+Y es=k+Y es+1 by omega,P_ a _ c g,fA,zX,Qw om,fF _ k,<-e];simp only[val,Ql,qV];grind
theorem zrD(a:c<4294967296)(b:d<4294967296)(f:e<4294967296)(g:z<4294967296):c+(d*e+z)<18446744073709551616/\(c+(d*e+z))/4294967296<4294967296:=by have a:d*e<=4294967295*4294967295:=Z7 om om;omega
theorem Ui{b s}(d:fT a)(hb:fT b)(e:Y b<=Y a)(h:val s+4294967296^(Y a+1)*c=val a+val b):val s=val a+val b:=by have f:=gd d;have d:=zK (gd hb)<|gK e;rw[Zv]at h;generalize 4294967296^Y a=p at *;have d:p*2<=p*4294967296:=Zr p om;generalize p*4294967296=r at *;cases c with |zero=>rw[Ql,qV]at h;exact h |succ c=>exfalso;rw[Nat.mul_succ r c]at h;generalize r*c=q at *;omega
theorem Cf{b s}{L}(hs:fT s)(d:Y s=L)(c:val b<=val a)(h:val s+1*val b=val a+4294967296^L*r):val s=val a-val b:=by have c:=gd hs;rw[d]at c;generalize 4294967296^L=p at *;cases r with |zero=>omega |succ r=>grind
theorem VH(w)(b off cap D)(ds)(f:Y ds<=cap)(g:Y ds<=1073741824)(j:0<D)(d:D<4294967296)(c:Row w b off ds)(p:uy w b off (Y ds))(l:fT ds):
 C_ 194 #[V (E (Xd b off O)) (Y ds) cap,it .u32 (D:Nat)] w λe w'=>
  ∃a r,e=Xa (it .u32 (r:Nat))/\r<D/\Y a=Y ds/\fT a/\Row w' b off a/\l_ b off (Y ds) w w'/\val ds=D*val a+r:=by
 go_enter func194,ntmps194;go_wp2;go_loopw [5,6] (λlv i wr=>∃(k r:Nat) (a:N_),k<=Y ds/\r<D/\i=i_ ((k:Int)-1)/\lv=it .u64 (r:Nat)/\Hid (Y a=Y ds)/\fT a/\Row wr b off a/\l_ b off (Y ds) w wr/\ Hid (a.take k=ds.take k)/\Hid (val (ds.drop k)=D*val (a.drop k)+r)) (λ_ i _=>(intOf i+1).toNat);case atStart=>exact⟨_,0,_,zh _,j,rfl,rfl,rfl,l,c,Xx _ _ _ _,rfl,by simp[Hid,val]⟩
 case round=>obtain⟨k,r,a,_,m,rfl,rfl,c,i,f,h,o,d⟩:=hrel;cases k with |zero=>have g:=zf d.out;simp only[Q2]at g;clear d;go_wp2;go_ret;exact⟨a,r,sp,m,c.out,i,f,h,g.out⟩ |succ k=>(have g:k<Y a:=by rw[c.out];omega);have a:=f k g;rw[Vp o.out]at a;have a:=l.get k;have l:=h.free p k om;have l:=zf<|zqb g c.out d.out;have p:=GF a m;have m:=f.setCell k ((ds.getD k 0+4294967296*r)/D) g;have g:=h.setCell k (by omega)<|it .u32<|((ds.getD k 0+4294967296*r)/D:Nat);have f:=KX r _ om a;have a:=Z0 (ds.getD k 0+4294967296*r) j;have f:ds.getD k 0+4294967296*r<18446744073709551616:=om;generalize ds.getD k 0=x at *;have f:((x+4294967296*r:Nat))/(D)=(((x+4294967296*r)/D:Nat):Int):=sp;have f:((x+4294967296*r:Nat))%(D)=(((x+4294967296*r)%D:Nat):Int):=sp;generalize (x+4294967296*r)/D=q at *;generalize (x+4294967296*r)%D=h at *;generalize x+4294967296*r=y at *;clear d;go_wp2;go_roundw;(case rel=>exact⟨k,h,_,om,a,g_,g_,g_,i.set _ _ p,m,g,by rw[Hid,SS];exact U8 o.out,l.out⟩);case measure=>simp[intOf]
theorem iW(h:w.ownsRow base e 1 (V (E (Xd g 0 O)) n cap) n (ds.map λd:Nat=>it .u32 (d)))(a:Y ds=n):Row w g 0 ds:=by intro i a;have:=h.cellAt i om;grind
theorem Pp{xs}(h:w.ownsRow base e 1 (V (E (Xd g 0 O)) n cap) n xs)(m):uy w g 0 m:=by intro i _;rw[qt];exact h.frozenAt i
theorem I7{xs}(h:w.ownsRow base e 1 (V (E (Xd g 0 O)) n cap) n xs):base<=g/\g<IS (IT w):=h.lt g rfl
def fW (d:Nat):Value:=it .u32 (d)
theorem gz(h:w.ownsRow base e 1 v n (ds.map fW))(i:v≠V_):
 ∃g cap,v=V (E (Xd g 0 O)) n cap/\n<=cap/\base<=g/\g<IS (IT w)/\Row w g 0 ds/\∀m,uy w g 0 m:=by have a:=h;obtain⟨b,c|⟨g,cap,_,j,d,_,f,_,_,_⟩⟩:=h;{grind};subst j;rw[zm,jM]at b;exact⟨g,_,rfl,f,d,(I7 a).2,iW a b,λm=>Pp a m⟩
theorem nX(ds:N_):∀u∈ds.map fW,u.oneCell'=true:=by intro u a;obtain⟨_,_,rfl⟩:=qP.1 a;rfl
theorem nR(h:Row w b off ds):∀j u,(ds.map fW)[j]? =E u->AT w ((⟨b,off,O⟩:Addr).add j)=E u:=by intro j u a;rw[zR]at a;cases hd:ds[j]? with |none=>grind |some d=>rw[hd,qY,qN]at a;have:=h j<|(zo.1 hd).1;rw[zk,hd,qB]at this;subst a;by_cases a:j=0;{subst a;simpa[Addr.add,fW]using this};simpa[Addr.add,fW,a]using this
theorem Px(w){a}(hg:o.guard=O)(l c)(t)(r:o.op=Op.makeSlice t l c)(e)(i)(h1:P.underlying t=E (.slice e))(h2:P.info? e=E i)(f:i.zero=E (it .u32 0))(g:i.size=1)(h:i.bytes=4)(d b)(L C)(n:Nat)(q:a.eval l=it d L)(p:a.eval c=it b C)(m:L=(n))(j:C=(n))(s:n<=4294967296)(k:∀w',Row w' w.heap.size 0 (kah n 0)->uy w' w.heap.size 0 n->Below w.heap.size w w'->IS (IT w)<IS (IT w')->
  wpList P ops Q rest (a.put o.dst (V (E (Xd w.heap.size 0 O)) n n)) w'):
 wpList P ops Q (o::rest) a w:=by
 apply wpList_make_full w hg l c t r _ e i _ 1 h1 h2 f g d b L C n q p m j g_ mo<|zh _;intro w' b g;have f:(madeCells (it IntKind.u32 0).cells<|n*1).toList=(kah n 0).map λd:Nat=>it .u32 d:=by rw[jM,List.map_replicate];exact toList_madeCells_one _ _
 rw[f]at b;exact k _ (iW b sp) (Pp b n) ((qf _ _).grown g (zh _) λk h=>g_) (I7 b).2
theorem nL(h:w.heap[g]? =E (cl (BY (ds.map fW)) e (0,0))):Row w g 0 ds/\(∀m,uy w g 0 m)/\g<IS (IT w):=by refine⟨λi a=>?_,λm i _=>ZK w g _ _ e h,Jw h⟩;rw[qt,ze w g i _ e _ h,List.getElem?_toArray,zR,zg a,zk,zg a];rfl
theorem T3(w){a}(hg:o.guard=O)(l c)(t)(r:o.op=Op.makeSlice t l c)(e)(i)(h1:P.underlying t=E (.slice e))(h2:P.info? e=E i)(f:i.zero=E (it .u32 0))(g:i.size=1)(h:i.bytes=4)(d b)(L C)(n:Nat)(q:a.eval l=it d L)(p:a.eval c=it b C)(m:L=(n))(j:C=(n))(s:n<=4294967296)(k:∀w',Hid (w'.heap[IS (IT w)]? =E (cl (BY ((kah n 0).map fW)) e (0,0)))->Below w.heap.size w w'->
  wpList P ops Q rest (a.put o.dst (V (E (Xd w.heap.size 0 O)) n n)) w'):
 wpList P ops Q (o::rest) a w:=by
 apply wpList_make_full w hg l c t r _ e i _ 1 h1 h2 f g d b L C n q p m j g_ mo<|zh _;intro w' b f;have d:(madeCells (it IntKind.u32 0).cells<|n*1).toList=(kah n 0).map fW:=by rw[jM,List.map_replicate];exact toList_madeCells_one _ _
 rw[d]at b;refine k _ ?_<|(qf _ _).grown f (zh _) λk h=>g_;obtain⟨_,h1|⟨_,_,_,f,_,g,_,_,_,d⟩⟩:=b;{exact absurd h1.1 sp};simp only[qp,qN,Jg]at f;obtain⟨⟨rfl,_,_⟩,_,rfl⟩:=f;rw[zP so]at d;rw[Hid,g,<-d]
theorem SL{a}(q:o.guard=O)(d s)(c j)(ho:o.op= .call { callee:= .builtin .copy,args:=#[d,s],argTypes:=#[c,j] })(e)(u:P.underlying c=E (.slice e))(t:(P.info? e).map (·.size)=E 1)(g b i)(v)(ds es:N_)(p:a.eval d=V (E (Xd g 0 O)) b i)(k:Y ds=b)(hs:a.eval s=v)(f:kS w v es)(hg:w.heap[g]? =E (cl (BY (ds.map fW)) e (0,0)))(l:Y es<=Y ds)(B)(w0)(hb:Below B w0 w)(m:B<=g)(h:∀w',Hid (w'.heap[g]? =E (cl (BY ((es++ds.drop (Y es)).map fW)) e (0,0)))->Below B w0 w'->wpList P ops Q rest (a.put o.dst (goInt (Y es))) w'):
 wpList P ops Q (o::rest) a w:=by have⟨k,l,f,_,r⟩:=f;refine wpList_copy_splice q d s c j ho e u t _ k b i _ l p (hs.trans f) g 0 _ e hg _ g_ ?_ so (nX es) B _ hb m ?_;{intro b;rw[zm]at b;obtain⟨_,off,rfl,_,c⟩:=r<|ZC.1 b;exact⟨rfl,_,rfl,nR c⟩};intro w' b c;rw[zm];refine h _ ?_ c;(have c:splice (ds.map fW) 0 (es.map fW)=(es++ds.drop (Y es)).map fW:=by simp[splice]);rw[c]at b;exact b
theorem Tryz.ED:(Tryz.prog.info? 226).map (λi=>(i.zero,i.size,i.bytes))=E (E (it .u32 0),1,4):=kr
abbrev Xu:=@Tryz.ED
theorem iV(w)(u v)(m n J K)(D:fj w u m)(W:fj w v n)(hm:m<4294967296^J)(hn:n<4294967296^K)(hK:J+K<=1073741824):
 Calls pg 174 #[u,v] w λe w'=>∃x,e=Xa x/\fj w' x (m*n)/\Below w.heap.size w w':=by by_cases C:m=0;{subst C;go_enter func174,ntmps174;go_wp2_with (go_at_call 79;refine(JR _ _ D).mono ?_;rintro e w' ⟨rfl,rfl⟩);go_ret;exact⟨_,rfl,by rw[Nat.zero_mul];exact Xo _ _ _,qf _ _⟩};by_cases U:n=0;{subst U;go_enter func174,ntmps174;go_wp2_with fail;refine(jW _ _ _ D C).mono ?_;rintro e w' ⟨rfl,rfl⟩;go_wp2_with fail;refine(JR _ _ W).mono ?_;rintro e w' ⟨rfl,rfl⟩;go_wp2;go_ret;exact⟨_,rfl,by rw[Ql];exact Xo _ _ _,qf _ _⟩};have ay:=D;have aA:=W;obtain⟨b,⟨_,_,rfl,L,hr⟩,R,ht,rfl⟩:=D;obtain⟨a,⟨_,_,rfl,_,an⟩,ad,ax,rfl⟩:=W;have hl:=ht.len hm;have aK:=ax.len hn;obtain⟨a0,off,rfl,hb,ar⟩:=hr (λe=>C (by rw[e];rfl));obtain⟨b',aG,rfl,a8,au⟩:=an (λe=>U (by rw[e];rfl));obtain⟨i0,hi,aC,aD,aE⟩:=Zn Xu;go_enter func174,ntmps174;go_wp2_with fail;refine(jW _ _ _ ay C).mono ?_;rintro e w' ⟨rfl,rfl⟩;go_wp2_with fail;refine(jW _ _ _ aA U).mono ?_;rintro e w' ⟨rfl,rfl⟩;go_wp2_with (at_make;refine Px _ rfl _ _ _ rfl _ _ underlying100 hi aC aD aE _ _ _ _ (Y b+Y a) rfl rfl sp sp om ?_;intro r av a2 s aw);have aJ:=s.size;have az:=Xx w'.heap.size 0 (Y b+Y a) r;have ap:=ar.J s hb;have aq:=au.J s a8;have aa:a0≠IS (IT w'):=om;have ab:b'≠IS (IT w'):=om;generalize af:IS (IT w')=h at *;have HG:=zf af;go_loopw [25] (λq1 wr=>∃(k:Nat) (f:List Nat),k<=Y b/\q1=it Xb (k:Nat)/\Hid (Y f=Y b+Y a)/\fT f/\Row wr h 0 f/\l_ h 0 (Y b+Y a) r wr/\ Hid (val (f.take<|k+Y a)=val (b.take k)*val a)) (λq1 _=>Y b-(intOf q1).toNat);(case atStart=>refine⟨0,_,qo _,rfl,g_,?_,av,az,?_⟩;{intro d R;grind};rw[Hid,List.take_replicate,sj];simp[val]);case round=>obtain⟨k,f,_,rfl,t,M,N,F,a3⟩:=hrel;by_cases al:k<Y b;{have hx:=F.other aa ap k al;have a5:=R.get k;generalize aB:b.getD k 0=d at *;have a7:=zf aB;go_wp2;go_loopw [8,32] (λcv Z wq=>∃(j c:Nat) (g:List Nat),j<=Y a/\c<4294967296/\Z=it Xb (j:Nat)/\cv=it .u64 (c:Nat)/\Hid (Y g=Y b+Y a)/\fT g/\Row wq h 0 g/\l_ h 0 (Y b+Y a) r wq/\ Hid (g.drop (k+j)=f.drop (k+j))/\Hid (val (g.take<|k+j)+4294967296^(k+j)*c=val (f.take<|k+j)+4294967296^k*(d*val (a.take j)))) (λ_ Z _=>Y a-(intOf Z).toNat);(case atStart=>exact⟨0,0,f,qo _,om,rfl,rfl,t,M,N,F,rfl,rfl⟩);case round=>obtain⟨j,c,g,_,L,rfl,rfl,A,a1,B,p,T,a4⟩:=hrel;by_cases ak:j<Y a;{(have i:k+j<Y g:=by rw[A.out];omega);have hy:=p.other ab aq j ak;have a6:=ad.get j;have X:=B _ i;rw[Kw T.out,qt]at X;have aF:=M.get<|k+j;(have ae:wr.frozen? ⟨h,k+j,O⟩=false:=by have:=p.free a2 (k+j) om;rwa [qt]at this);have I:=zf<|zqc i T.out a4.out;have l:=B.setCell _ ((c+(d*a.getD j 0+f.getD (k+j) 0))%4294967296) i;have o:=p.setCell _ (show k+j<Y b+Y a by omega)<|it .u32 (((c+(d*a.getD j 0+f.getD (k+j) 0))%4294967296:Nat):Int);obtain⟨_,a9⟩:=zrD L a5 a6 aF;generalize a.getD j 0=y at *;generalize f.getD (k+j) 0=z at *;rw[qt]at l o;obtain⟨_,_⟩:=PR d y a5 a6;have aI:((d*y:Nat))=(d)*(y:Int):=sp;have e1:(((c+(d*y+z))%4294967296:Nat))=((c:Int)+(d*y+z))%4294967296:=om;have e2:(((c+(d*y+z))/4294967296:Nat))=((c:Int)+(d*y+z))/4294967296:=om;rw[e1]at l o;have E2:=zf e2;have aH:(c:Int)+(d*y+z)<18446744073709551616:=om;go_wp2;go_roundw;(case rel=>exact⟨j+1,(c+(d*y+z))/4294967296,_,om,a9,by go_num,by grind,by rw[Hid,qX,A.out],a1.set _ _<|Z0 _ dc,l,o,by rw[Hid,<-I8,QH];exact DH T.out,I.out⟩);case measure=>simp[intOf];omega};have ai:j=Y a:=om;have q:=a4.out;rw[ai,zP<|zh _]at q;(have i:k+Y a<Y g:=by rw[A.out];omega);have I:=zf<|zrC i a7.out.symm q a3.out;have X:=B _ i;have l:=B.setCell _ c i;have o:=p.setCell _ (show k+Y a<Y b+Y a by omega)<|it .u32 (c:Int);(have ae:wr.frozen? ⟨h,k+Y a,O⟩=false:=by have:=p.free a2 (k+Y a) om;rwa [qt]at this);rw[qt]at X l o;generalize ((g.getD (k+Y a) 0:Nat):Int)=zz at *;go_wp2;go_roundw;(case rel=>exact⟨_,_,om,sp,by rw[Hid,qX,A.out],a1.set _ _ L,l,o,I.out⟩);case measure=>simp[intOf];omega};have aj:k=Y b:=om;have q:=a3.out;rw[aj,zP (by rw[t.out];omega),zP<|zh _]at q;have HV:=zf q;(have ah:h<IS (IT wr):=by rw[F.size];exact aw);go_wp2_with fail;refine(gq _ h 0 _ _ f om om (by rw[t.out];omega) N).mono<|fK ?_;go_wp2;go_ret;refine⟨_,rfl,?_,?_⟩;{rw[<-HV.out];exact j_ N M ah t.out<|zh _};rw[HG.out];exact s.trans (F.J<|zh _)
def KK (w w':H)(v:Value)(ds:N_):Prop:=
 ∃ao cap,v=V ao (Y ds) cap/\Y ds<=cap/\(ds≠ []->∃g,ao=E (Xd g 0 O)/\IS (IT w)<=g/\g<IS (IT w')/\Row w' g 0 ds/\uy w' g 0 (Y ds))
theorem MG(w)(v)(ds)(a:kS w v ds)(N:Y ds<=1073741824):
 C_ 193 #[v] w λe w'=>∃x,e=Xa x/\KK w w' x ds/\Below w.heap.size w w':=by obtain⟨u,b,rfl,_,l⟩:=a;have c:=λw=>MJ w 100 _ u (Y ds) b 0 0 underlying100;by_cases A:ds= [];{subst A;cases u with |none=>have c:=λw=>MJ w 100 _ O 0 b 0 0 underlying100;go_enter func193,ntmps193;go_wp2;go_ret;exact⟨_,rfl,⟨O,0,rfl,zh _,λh=>absurd rfl h⟩,qf _ _⟩ |some t=>have c:=λw=>MJ w 100 _ (E t) 0 b 0 0 underlying100;have⟨r,j,o,p,q⟩:=Zn Xu;go_enter func193,ntmps193;go_wp2_with (at_builtin;apply pR _ rfl _ _ _ rfl _ 226 r _ 1 4 underlying100 j o p q rfl dc (V (E<|y_ w 0) 0 0) 0 [] rfl (World.ownsRow_lit w #[] 0 (zh _) mo rfl) t 0 b [] rfl rfl sp sp mo om sp;intro s M d i k);go_ret;have m:s≠V_:=λe=>g_;have⟨z,f,a,g,B,C,D,F⟩:=gz (ds:= []) d m;exact⟨_,rfl,⟨_,f,a,sp,λh=>absurd rfl h⟩,((qf _ _).alloc (zh _) _).grown i sp λL h=>by simp[Value.ownBlock]at h;omega⟩};obtain⟨y,off,rfl,I,J⟩:=l A;have⟨r,j,o,p,q⟩:=Zn Xu;go_enter func193,ntmps193;go_wp2_with (at_builtin;apply pR _ rfl _ _ _ rfl _ 226 r _ 1 4 underlying100 j o p q rfl dc (V (E<|y_ w 0) 0 0) 0 [] rfl (World.ownsRow_lit w #[] 0 (zh _) mo rfl) ⟨y,_,O⟩ _ b _ rfl sp (nR<|J.J ((qf _ _).alloc (zh _) _) I) (nX _) mo om sp;intro s M d i k);go_ret;have m:s≠V_:=λe=>g_;rw[Q7]at d;have⟨z,f,a,g,B,C,D,F⟩:=gz d m;rw[qt]at a g;exact⟨_,rfl,⟨_,f,a,g,λ_=>⟨z,rfl,B,C,D,F _⟩⟩,((qf _ _).alloc (zh _) _).grown i sp λL h=>by simp[Value.ownBlock]at h;omega⟩
theorem Tryz.Au:(Tryz.prog.info? 226).map (·.size)=E 1:=kr
theorem J9(h:fj w v n){K}(e:n<4294967296^K):∃ds,kS w v ds/\fT ds/\lC ds/\val ds=n/\Y ds<=K:=by have⟨ds,c,d,a,b⟩:=h;exact⟨_,c,d,a,b,a.len om⟩
theorem lA(w)(u v)(m n K)(hu:fj w u m)(hv:fj w v n)(hm:m<4294967296^K)(hn:n<4294967296^K)(hK:K<=1073741823):
 C_ 191 #[u,v] w λe w'=>∃x,e=Xa x/\fj w' x (m+n)/\Below w.heap.size w w':=by obtain⟨c,T,f,_,rfl,_⟩:=J9 hu hm;obtain⟨d,W,q,_,rfl,_⟩:=J9 hv hn;have U:=T;have X:=W;obtain⟨_,_,rfl,_,_⟩:=T;obtain⟨_,_,rfl,_,_⟩:=W;have⟨i0,R,q1,Z,a0⟩:=Zn Xu;by_cases a3:Y c<Y d;{go_enter func191,ntmps191;go_wp2_with (first|(at_make;apply T3 _ rfl _ _ _ rfl 226 _ underlying100 R q1 Z a0 _ _ _ _ (Y d+1) rfl rfl sp sp om;intro w1 t h)|(apply SL rfl _ _ _ _ rfl 226 underlying100 Tryz.Au _ _ _ _ _ d rfl sp rfl (X.J h) t.out sp _ w h<|zh _;intro N j i));have A:d++(kah (Y d+1) 0).drop (Y d)=d ++ [0]:=sp;rw[A]at j;have⟨F,B,I⟩:=nL j.out;have D:Y (d ++ [0])=Y d+1:=sp;have g:=OL N _ 0 (Y d+1) _ c _ om om om F (B _) (fT.append q (by intro a2 f;grind)) (U.Gs i _<|zh _) f;rw[D]at g;refine g.mono<|eV λp ⟨r,a1,C,y,l,o,L⟩=>?_;(have J:IS (IT w)<IS (IT p):=by rw[o.size];exact I);go_wp2_with fail;apply(gq _ _ 0 _ _ r om om om l).mono;rintro e w4 ⟨rfl,rfl⟩;go_wp2;go_ret;refine⟨_,rfl,?_,i.trans<|o.J<|zh _⟩;have k:=j_ l y J C<|zh _;rw[(Ui q f om<|L.trans (by rw[fA];rfl)),Nat.add_comm _<|val c]at k;exact k};go_enter func191,ntmps191;go_wp2_with (first|(at_make;apply T3 _ rfl _ _ _ rfl 226 _ underlying100 R q1 Z a0 _ _ _ _ (Y c+1) rfl rfl sp sp om;intro w1 t h)|(apply SL rfl _ _ _ _ rfl 226 underlying100 Tryz.Au _ _ _ _ _ c rfl sp rfl (U.J h) t.out sp _ w h<|zh _;intro N j i));have A:c++(kah (Y c+1) 0).drop (Y c)=c ++ [0]:=sp;rw[A]at j;have⟨F,B,I⟩:=nL j.out;have D:Y (c ++ [0])=Y c+1:=sp;have g:=OL N _ 0 (Y c+1) _ d _ om om om F (B _) (fT.append f (by intro a2 f;grind)) (X.Gs i _<|zh _) q;rw[D]at g;refine g.mono<|eV λp ⟨r,a1,C,y,l,o,L⟩=>?_;(have J:IS (IT w)<IS (IT p):=by rw[o.size];exact I);go_wp2_with fail;refine(gq _ _ 0 _ _ r om om om l).mono<|fK ?_;go_wp2;go_ret;refine⟨_,rfl,?_,i.trans<|o.J<|zh _⟩;have k:=j_ l y J C<|zh _;rw[(Ui f q om<|L.trans (by rw[fA];rfl))]at k;exact k
theorem kS.drewN(h:kS w v ds)(q):kS (w.drewN q) v ds:=h
theorem fj.drewN(h:fj w v n)(q):fj (w.drewN q) v n:=h
theorem JJ(h:Below B (w.drewN q) w'):Below B w w':=⟨h.os,h.tape,h.output,h.size,h.block⟩
theorem Nd(h:Below B w w'):Below B w (w'.drewN q):=⟨h.os,h.tape,h.output,h.size,h.block⟩
theorem zqd(w)(a:A_)(cap):
 C_ 195 #[V a 0 cap] w λe w'=>e=Xa (V a 0 cap)/\w'=w:=by
 go_enter func195,ntmps195;go_wp2;go_loop [0] (λv=>v=V a 0 cap) lenOf;case atStart=>rfl
 case round=>subst hrel;go_wp2;go_ret;simp
theorem zkW(w)(a b:A_)(cap c n)(f):
 C_ 278 #[V a 0 cap,V b n c,it .u32 f] w λe w'=>e=Xa (it .u64 0)/\w'=w:=by
 go_enter func278,ntmps278;go_wp2;go_loop [7,8,13] (λc b i=>c=it .u64 0/\b=it .u64 0/\i=i_ 0) (λ_ _ _=>0);case atStart=>grind
 case round=>obtain⟨rfl,rfl,rfl⟩:=hrel;go_wp2;go_ret;exact⟨rfl,rfl⟩
theorem VK{w1}{x}(j:KK w w1 x ds)(f:Below w.heap.size w w1)(u:Y ds<=1073741824)(p:fT ds)(q:fT es)(m:kS w v es)(k:Y es<=Y ds)(t:val es<=val ds):
 C_ 278 #[x,v,it .u32 1] w1 λe c=>(∃r,e=Xa (it .u64 (r:Nat)))/\Below w.heap.size w c/\
  C_ 195 #[x] c λe g=>∃y,e=Xa y/\fj g y (val ds-val es)/\Below w.heap.size w g:=by obtain⟨h,d,rfl,i,z⟩:=j;by_cases j:ds= [];{subst j;have l:=Qk.1 (by simpa using k);subst l;obtain⟨l,o,rfl,_,_⟩:=m;apply(zkW _ h l d o 0 1).mono;rintro e c ⟨rfl,rfl⟩;refine⟨⟨0,rfl⟩,f,?_⟩;apply(zqd _ h d).mono;rintro e g ⟨rfl,rfl⟩;exact⟨_,rfl,Xo _ _ _,f⟩};obtain⟨h,rfl,l,s,A,o⟩:=z j;apply(Vk _ h 0 d 1 _ _ v i u k om A o p (m.Gs f h l) q).mono;rintro e c ⟨q,r,rfl,_,m,k,o,p,u⟩;have j:=f.trans<|p.J l;refine⟨⟨r,rfl⟩,j,?_⟩;refine(gq c h 0 d _ q i om om o).mono<|fK ?_;refine⟨_,rfl,?_,j⟩;have c:=j_ o k (by rw[p.size];omega) m i;rw[Cf k m t u]at c;exact c
theorem Su(w)(u v)(m n K)(r:fj w u m)(s:fj w v n)(hm:m<4294967296^K)(o:n<4294967296^K)(a:K<=1073741823):
 C_ 263 #[u,v] w λe w'=>∃x,e=Xa x/\fj w' x ((m-n)+(n-m))/\Below w.heap.size w w':=by have⟨a,z,j,d,_,_⟩:=J9 r hm;have⟨b,A,k,C,_,_⟩:=J9 s o;by_cases c:m<n;{(have l:Y a<=Y b:=by rcases Qc (Y b) (Y a) with h|h;{have:=d.kH k h;omega};omega);go_enter func263,ntmps263;go_wp2_with fail;apply(fR w u v m n K r s hm o om).mono;rintro e y ⟨rfl,q,rfl⟩;rw[B9 c];go_wp2_with fail;refine(MG (w.drewN q) v b A om).mono<|eO λy x p f=>?_;go_wp2_with fail;apply (VK p f om k j (z.drewN q) l om).mono;rintro e F ⟨⟨D,rfl⟩,B,i⟩;go_wp2_with fail;refine i.mono<|eO λI J t d=>?_;go_wp2;go_ret;refine⟨_,rfl,?_,JJ d⟩;have c:(m-n)+(n-m)=val b-val a:=om;rw[c];exact t};(have l:Y b<=Y a:=by rcases Qc (Y a) (Y b) with h|h;{have:=C.kH j h;omega};omega);(have C:0<=Jy m n:=by rcases Qc n m with h|h;{rw[Cb h];omega};rw[F7 om];omega);go_enter func263,ntmps263;go_wp2_with fail;apply(fR w u v m n K r s hm o om).mono;rintro e y ⟨rfl,q,rfl⟩;generalize Jy m n=h at *;go_wp2_with fail;refine(MG (w.drewN q) u a z om).mono<|eO λy x p f=>?_;go_wp2_with fail;apply (VK p f om j k (A.drewN q) l om).mono;rintro e F ⟨⟨D,rfl⟩,B,i⟩;go_wp2_with fail;refine i.mono<|eO λI J t d=>?_;go_wp2;go_ret;refine⟨_,rfl,?_,JJ d⟩;have c:(m-n)+(n-m)=val a-val b:=om;rw[c];exact t
def F6 (K:Nat):Prop:=∀w u v m n,fj w u m->fj w v n->m<4294967296^K->n<4294967296^K->
 C_ 127 #[u,v] w λe w'=>∃x y,e=Xa (tp #[x,y])/\fj w' x (m/n)/\fj w' y (m%n)/\b_ w w'
def C4 (K:Nat):Prop:=∀w u v m n,fj w u m->fj w v n->m<4294967296^K->n<=m->4294967296^2<=m->4294967296<=n->
 C_ 196 #[u,v] w λe w'=>∃x y,e=Xa (tp #[x,y])/\fj w' x (m/n)/\fj w' y (m%n)/\b_ w w'
theorem lC.ge(a:fT ds)(b:4294967296^k<=val ds):k<Y ds:=by rcases Qc k (Y ds) with h|h;{omega};have b:=gd a;have a:=gK h;omega
theorem J_(w)(x)(n:Nat)(b:x=(n:Int))(a:n<18446744073709551616):
 C_ 188 #[it .u64 x] w λe w'=>∃v,e=Xa v/\fj w' v n/\Below w.heap.size w w':=by subst b;exact DT w n a
theorem zqe(K)(hK:K<=1073741823)(hL:C4 K):F6 K:=by intro ar aq Z m n b a hm k;by_cases i:n=0;{subst i;go_enter func127,ntmps127;go_wp2_with fail;refine(JR _ _ a).mono ?_;rintro e c ⟨rfl,rfl⟩;go_wp2;go_ret2;exact⟨_,_,rfl,by rw[Nat.div_zero];exact Xo _ _ _,by rw[Nat.mod_zero];exact b,qf _ _⟩};by_cases w:m<n;{go_enter func127,ntmps127;go_wp2_with fail;refine(jW _ _ _ a i).mono ?_;rintro e c ⟨rfl,rfl⟩;go_wp2_with fail;refine(fR c _ Z m n K b a hm k om).mono ?_;rintro e f ⟨rfl,q,rfl⟩;rw[B9 w];go_wp2;go_ret2;exact⟨_,_,rfl,by rw[jH w];exact Xo _ _ _,by rw[Jk w];exact b.drewN q,Nd<|qf _ _⟩};(have av:0<=Jy m n:=by rcases Qc n m with I|I;{rw[Cb I];omega};rw[F7 om];omega);by_cases J:m<4294967296^2;{obtain⟨h,r,v,ht,y,hl⟩:=J9 b J;obtain⟨ao,a2,rfl,hc,hr⟩:=r;have x:m<18446744073709551616:=J;have ae:n<18446744073709551616:=om;go_enter func127,ntmps127;go_wp2_with fail;refine(jW _ _ _ a i).mono ?_;rintro e c ⟨rfl,rfl⟩;go_wp2_with fail;refine(fR c _ Z m n K b a hm k om).mono ?_;rintro e f ⟨rfl,q,rfl⟩;generalize Jy m n=C at *;go_wp2_with fail;refine(MD _ _ m (b.drewN q) x).mono ?_;rintro e f ⟨rfl,rfl⟩;go_wp2_with fail;refine(MD _ _ n (a.drewN q) ae).mono ?_;rintro e f ⟨rfl,rfl⟩;go_wp2;have N:m/n<18446744073709551616:=qu (DE _ _) x;have ah:m%n<18446744073709551616:=qu (Nat.mod_le _ _) x;(have W1:Hid (IntKind.u64.wrap ((m:Int)/(n:Int))=((m/n:Nat):Int)):=by (have e:∀n:Int,IntKind.u64.wrap n=n%18446744073709551616:=λn=>by rfl);rw[Hid,e,<-Int.natCast_ediv];generalize m/n=q0 at N;omega);have W2:Hid ((m:Int).tmod (n:Int)=((m%n:Nat):Int)):=rfl;go_region_with (first|(go_at_call_of 188 (IntKind.u64.wrap<|(m:Int)/(n:Int));refine(J_ _ _ _ W1.out N).mono<|eO λwA a0 A M=>?_)|(go_at_call_of 188 ((m:Int).tmod (n:Int));refine(J_ _ _ _ W2.out ah).mono<|eO λwB a1 l j=>?_));go_wp2;go_ret2;exact⟨_,_,rfl,A.J j,l,JJ<|M.trans<|j.mono M.size⟩};obtain⟨h,r,v,ht,y,hl⟩:=J9 b hm;obtain⟨g,W,a3,an,z,_⟩:=J9 a k;have ab:2<Y h:=lC.ge v om;have ap:=r;obtain⟨ao,a2,rfl,hc,hr⟩:=r;have ay:=W;obtain⟨_,_,rfl,_,ai⟩:=W;by_cases h1:Y g=1;{match g,h1 with |[d],_=>simp only[val,Ql,qV]at z;subst z;obtain⟨t,off,rfl,hb,ak⟩:=ai sp;(have a4:AT ar (Xd t off O)=E (it .u32 (d:Nat)):=by have:=ak 0 sp;simpa using this);have a6:=a3 d sp;go_enter func127,ntmps127;go_wp2_with fail;refine(jW _ _ _ a i).mono ?_;rintro e c ⟨rfl,rfl⟩;go_wp2_with fail;refine(fR c _ _ m d K b a hm k om).mono ?_;rintro e f ⟨rfl,q,rfl⟩;generalize Jy m d=C at *;go_wp2_with fail;refine(MG _ _ h (ap.drewN q) om).mono ?_;rintro e f ⟨a0,rfl,⟨_,B,rfl,u,aj⟩,o⟩;obtain⟨F,rfl,hg,a9,al,a8⟩:=aj g_;have aw:=(o.cell am).trans a4;go_wp2_with fail;refine(VH f F 0 B d h u om om a6 al a8 v).mono ?_;rintro e w2 ⟨D,q1,rfl,R,aa,a5,T,U,X⟩;go_wp2_with fail;refine(gq _ F 0 B _ D u om om T).mono<|fK ?_;go_wp2_with fail;refine(J_ _ _ q1 sp om).mono<|eO λw4 a1 l j=>?_;go_wp2;go_ret2;have hq:=j_ T a5 (by rw[U.size];omega) aa u;(have a7:m/d=val D:=by rw[<-y,X];rw[Nat.mul_add_div om,jH R,qV]);(have ad:m%d=q1:=by rw[<-y,X];rw[Nat.mul_add_mod,Jk R]);have L:Below c.heap.size c _:=JJ<|o.trans<|U.J hg;exact⟨_,_,rfl,by rw[a7];exact hq.J j,by rw[ad];exact l,L.trans<|j.mono L.size⟩};have au:((Y g:Int) == 1)=false:=ZN.2 om;(have af:4294967296<=n:=by (have ax:1<Y g:=by have:Y g≠0:=λe=>i (by rw[<-z,Qk.1 e];rfl);omega);obtain⟨s,hj⟩:∃s,Y g=s+1:=⟨Y g-1,om⟩;have h3:=an.le s hj;have h4:=gK (show 1<=s by omega);omega);go_enter func127,ntmps127;go_wp2_with fail;refine(jW _ _ _ a i).mono ?_;rintro e c ⟨rfl,rfl⟩;go_wp2_with fail;refine(fR c _ _ m n K b a hm k om).mono ?_;rintro e f ⟨rfl,q,rfl⟩;generalize Jy m n=C at *;go_wp2_with fail;refine(hL _ _ _ m n (b.drewN q) (a.drewN q) hm om om af).mono ?_;rintro e w2 ⟨a0,a1,rfl,A,l,o⟩;go_wp2;go_ret2;exact⟨_,_,rfl,A,l,JJ o⟩
structure zn (B:Nat)(W W':H):Prop where
 os:W'.os=W.os
 tape:W'.tape=W.tape
 output:W'.output=W.output
 size:IS (IT W)<=IS (IT W')
 block:∀(k:Nat) (o:Obj),W.heap[k]? =E o->(k<B\/o.isCells=true)->W'.heap[k]? =E o
theorem zn.refl(B)(W):zn B W W:=⟨rfl,rfl,rfl,zh _,λ_ _ h _=>h⟩
theorem zn.trans{X q1 Z}(h:zn B X q1)(k:zn B q1 Z):zn B X Z:=⟨k.os.trans h.os,k.tape.trans h.tape,k.output.trans h.output,zF h.size k.size,λi o b a=>k.block i o (h.block i o b a) a⟩
theorem zn.mono{B':Nat}(h:zn B W W')(a:B'<=B):zn B' W W':=⟨h.os,h.tape,h.output,h.size,λk o b c=>h.block k o b<|c.imp (λh=>zK h a) id⟩
theorem zn.eX(h:Below W.heap.size W W'):zn B W W':=⟨h.os,h.tape,h.output,h.size,λk _ a _=>(h.block k (zd.1 a).1).trans a⟩
theorem zn.alloc(B)(W)(o):zn B W (AI W o):=zn.eX ((qf _ _).alloc (zh _) o)
theorem zn.putObj{o}(a)(c:B<=l)(b:W.heap[l]? =E o)(ho:o.isCells=false):zn B W (W.putObj l a):=⟨rfl,rfl,rfl,sp,λk x a d=>by have c:k≠l:=g_;exact(Z4 c).trans a⟩
theorem zn.J{a:Nat}(h:zn B W W')(hb:Below a w W)(b:a<=B)(c:a<=IS (IT w)):Below a w W':=⟨h.os.trans hb.os,h.tape.trans hb.tape,h.output.trans hb.output,zF hb.size h.size,λk b=>by (have a:k<IS (IT W):=by have:=hb.size;omega);rw[<-hb.block k b,qD a];exact h.block k _ (qD a)<|.inl om⟩
theorem cells_of_cell(h:AT W p=E v):∃o,W.heap[p.block]? =E o/\o.isCells=true:=by unfold World.cell? at h;cases ho:W.heap[p.block]? with |none=>grind |some o=>exact⟨o,rfl,by cases o<;>simp_all[Obj.isCells]⟩
theorem zn.cell(h:zn B W W')(a:AT W p=E v):AT W' p=E v:=by obtain⟨o,b,c⟩:=cells_of_cell a;exact(Zj<|(h.block _ o b<|.inr c).trans b.symm).trans a
theorem zn.frozen(h:zn B W W')(b:AT W p=E v):W'.frozen? p=W.frozen? p:=by have⟨o,a,c⟩:=cells_of_cell b;exact qw ((h.block _ o a<|.inr c).trans a.symm)
theorem zn.drewN(B)(W)(q):zn B W (W.drewN q):=⟨rfl,rfl,rfl,zh _,λ_ _ h _=>h⟩
theorem Below.drawn{a}(h:Below B a w)(q):Below B a (w.drewN q):=h.trans ⟨rfl,rfl,rfl,zh _,λ_ _=>rfl⟩
structure Wr (T:Nat->Prop)(w w':H):Prop where
 os:w'.os=w.os
 tape:w'.tape=w.tape
 output:w'.output=w.output
 size:IS (IT w)<=IS (IT w')
 block:∀k,k<IS (IT w)->¬T k->w'.heap[k]? =w.heap[k]?
theorem Wr.refl(T)(w):Wr T w w:=⟨rfl,rfl,rfl,zh _,λ_ _ _=>rfl⟩
abbrev Xk:=@Wr.refl
theorem Wr.trans{T}{a b c}(h:Wr T a b)(k:Wr T b c):Wr T a c:=⟨k.os.trans h.os,k.tape.trans h.tape,k.output.trans h.output,zF h.size k.size,λi d e=>(k.block i (zK d h.size) e).trans<|h.block i d e⟩
theorem Wr.eX{T}(h:Below w.heap.size w w'):Wr T w w':=⟨h.os,h.tape,h.output,h.size,λk a _=>h.block k a⟩
abbrev Xh:=@Wr.eX
theorem Wr.setCell{T:Nat->Prop}{a:H}(h:Wr T a w)(hp:T p.block)(u:Value):Wr T a (AS w p u):=h.trans ⟨rfl,rfl,rfl,by simp[World.setCell],λk _ b=>qC _ _ _ _ λe=>b<|e▸hp⟩
abbrev Xs:=@Wr.setCell
theorem Wr.mono{T a}(h:Wr T w w')(c:∀k,T k->a k):Wr a w w':=⟨h.os,h.tape,h.output,h.size,λk a b=>h.block k a λe=>b<|c k e⟩
theorem Wr.J{T}(h:Wr T w w')(b:B<=IS (IT w))(a:∀k,T k->B<=k):Below B w w':=⟨h.os,h.tape,h.output,h.size,λk b=>h.block k om λe=>g_⟩
theorem Wr.cell{T}(h:Wr T w w')(b:¬T p.block)(a:AT w p=E v):AT w' p=E v:=(Zj<|h.block p.block (zw a) b).trans a
theorem Wr.from{T}(h:Wr T w w')(b:∀k,T k->k<B):KeepsFrom B w w':=⟨h.size,λk o a a _=>(h.block k (zd.1 a).1 λe=>g_).trans a⟩
theorem YieldAt.any(m){args:W_}{R}(h:YieldAt kak n P l args W R):YieldAt kak m P l args W R:=by have⟨d,f,b,c,e,a⟩:=h;exact⟨d,f,b,c,e,a.1,λc cs _=>a.2 c cs<|room_wide _⟩
abbrev XB:=@YieldAt.any
def rG (P:Program)(g:Nat)(lb:W_)(vs:List (W_))(C:H->Prop):Prop:=
 ∀l (J:Nat->(Nat->Prop)->H->Prop) (Jx:Nat->H->Prop) M0 W,
  (∀k M A B,J k M A->zn W.heap.size A B->J k M B)->(∀k A B,Jx k A->zn W.heap.size A B->Jx k B)->
  (∀k M A,J k M A->C A/\∀x,M x->x<IS (IT A))->
  (∀k v M W1,vs[k]? =E v->J k M W1->YieldAt kak 0 P l v W1 λe W'=>
   (e=Xa (G true)/\Wr M W1 W'/\∃M',J (k+1) M' W'/\∀x,M' x->M x\/IS (IT W1)<=x)\/(e=Xa (G false)/\Wr M W1 W'/\Jx k W'))->
  J 0 M0 W->
  Calls P g (#[.func (.yield l) #[] #[]]++lb) W λe W'=>(∃v,e=Xa v)/\((∃M,J (Y vs) M W')\/∃k,k<Y vs/\Jx k W')
def ZL (M:Nat->Prop)(I:Nat->(Nat->Prop)->H->Prop)(Ix:Code->Nat->H->Prop)(k:Nat)(W W2:H):Exit->Act->H->Prop
 |.normal,_,W'=>Wr M W2 W'/\∃M',I (k+1) M' W'/\∀x,M' x->M x\/IS (IT W)<=x
 |.ret,_,W'=>Wr M W2 W'/\Ix .ret k W'
 |.exit id,_,W'=>Wr M W2 W'/\Ix (.exit id) k W'
 |.goto t,_,W'=>Wr M W2 W'/\Ix (.goto t) k W'
 |.panic _,_,_=>False
 |.outgrown,_,_=>False
def Zz (P:Program)(n B:Nat)(M:Nat->Prop)(I:Nat->(Nat->Prop)->H->Prop)(Ix:Code->Nat->H->Prop)(ps:Array Tmp)(assign body:Code)(a:Act)(l k:Nat)(v:W_)(W:H):Prop:=
 assign.wpIn (Fence.wide.inRound l) n P
  (Exit.then (λa' W'=>Wr M W W'/\∀W2,zn B W' W2->body.wpIn (Fence.wide.inRound l) n P (ZL M I Ix k W W2) a' W2) (λ_ _ _=>False))
  { tmps:=(ps.zip v).foldl (λt (p,u)=>t.setIfInBounds p u) a.tmps,defers:= [] } W
theorem Wr.putObj{T}(b:T l)(o):Wr T w (w.putObj l o):=⟨rfl,rfl,rfl,sp,λk _ a=>Z4 λe=>a<|e▸b⟩
theorem Wr.some{T}(h:Wr T w w'){o}(ho:w.heap[k]? =Option.some o)(a:¬T k):w'.heap[k]? =Option.some o:=(h.block k (zd.1 ho).1 a).trans ho
def Mm (M:Nat->Prop)(I:Nat->(Nat->Prop)->H->Prop)(Ix:Code->Nat->H->Prop)(k:Nat)(W W2:H):Exit->Act->H->Prop
 |.normal,_,W'=>Wr (λx=>M x\/IS (IT W)<=x) W2 W'/\∃M',I (k+1) M' W'/\∀x,M' x->M x\/IS (IT W)<=x
 |.ret,_,W'=>Wr (λx=>M x\/IS (IT W)<=x) W2 W'/\Ix .ret k W'
 |.exit id,_,W'=>Wr (λx=>M x\/IS (IT W)<=x) W2 W'/\Ix (.exit id) k W'
 |.goto t,_,W'=>Wr (λx=>M x\/IS (IT W)<=x) W2 W'/\Ix (.goto t) k W'
 |.panic _,_,_=>False
 |.outgrown,_,_=>False
def Ie (P:Program)(n B:Nat)(M:Nat->Prop)(I:Nat->(Nat->Prop)->H->Prop)(Ix:Code->Nat->H->Prop)(ps:Array Tmp)(assign body:Code)(a:Act)(l k:Nat)(v:W_)(W:H):Prop:=
 assign.wpIn (Fence.wide.inRound l) n P
  (Exit.then (λa' W'=>Wr M W W'/\∀W2,zn B W' W2->body.wpIn (Fence.wide.inRound l) n P (Mm M I Ix k W W2) a' W2) (λ_ _ _=>False))
  { tmps:=(ps.zip v).foldl (λt (p,u)=>t.setIfInBounds p u) a.tmps,defers:= [] } W
theorem SK{M N:Nat->Prop}{X q1}(h:Wr M W X)(k:Wr (λx=>N x\/IS (IT W)<=x) X q1)(d:∀x,N x->M x):Wr M W q1:=⟨k.os.trans h.os,k.tape.trans h.tape,k.output.trans h.output,zF h.size k.size,λb a c=>(k.block b (zK a h.size) λe=>e.elim (λe=>c<|d b e) λe=>om).trans<|h.block b a c⟩
theorem Zz.wk{M}{I}{b}{e}{c d}{a}{v}(h:Zz P n B M I b e c d a l k v W):Ie P n B M I b e c d a l k v W:=by
 refine Ex h λe a w b=>?_
 cases e with
 |normal=>
  refine⟨b.1,λc d=>Ex (b.2 c d) λe a w h=>?_⟩;cases e<;>first|exact⟨h.1.mono λ_=> .inl,h.2⟩|exact h
 |_=>exact b
theorem T6{A B}(h:Wr (λ_=>False) A B):zn m A B:=zn.eX (h.J (zh _) λ_ e=>e.elim)
def KG (F:Nat->H->Nat->Prop)(NN:H->Nat->Prop)(P:Program)(g:Nat)(lb:W_)(n:Nat)(q1:Nat->W_->H->Prop)(C:H->Prop):Prop:=
 ∀l (J:Nat->(Nat->Prop)->H->Prop) (Jx:Nat->H->Prop) M0 W,
  (∀k M A B,J k M A->zn W.heap.size A B->J k M B)->(∀k A B,Jx k A->zn W.heap.size A B->Jx k B)->
  (∀k M A B,J k M A->Wr (F W.heap.size A) A B->J k M B)->(∀k A B,Jx k A->Wr (F W.heap.size A) A B->Jx k B)->
  (∀k M A,J k M A->C A/\∀x,M x->x<IS (IT A)/\NN A x)->
  (∀k v M W1,k<n->q1 k v W1->J k M W1->YieldAt kak 0 P l v W1 λe W'=>
   (e=Xa (G true)/\Wr M W1 W'/\∃M',J (k+1) M' W'/\∀x,M' x->M x\/IS (IT W1)<=x)\/(e=Xa (G false)/\Wr M W1 W'/\Jx k W'))->
  J 0 M0 W->
  Calls P g (#[.func (.yield l) #[] #[]]++lb) W λe W'=>(∃v,e=Xa v)/\((∃M,J n M W')\/∃k,k<n/\Jx k W')
theorem Tk{g:Operand}{h:Array Tmp}{t z:Code}{a:Act}{w:H}{f:Nat}{j:W_}{F:Nat->H->Nat->Prop}{NN:H->Nat->Prop}(y:∀B W b,F B W b->B<=b)(U:∀B B' W b,B<=B'->F B' W b->F B W b)(a0:∀W b o,W.heap[b]? =E o->o.isCells=false->NN W b)(u:KG F NN P f j e q1 C)(hg:a.eval g= .func (.func f) #[] j)(p:∀args w,(callFunc f args).run P w= .ok (.enter f args) w)(a2:∀k v W,q1 k v W->v.size=h.size)(I:Nat->(Nat->Prop)->H->Prop)(d:Code->Nat->H->Prop)(M0:Nat->Prop)(T:∀k M A B,I k M A->zn w.heap.size A B->I k M B)(J:∀c k A B,d c k A->zn w.heap.size A B->d c k B)(X:∀k M A B,I k M A->Wr (F w.heap.size A) A B->I k M B)(Z:∀c k A B,d c k A->Wr (F w.heap.size A) A B->d c k B)(L:∀k M A,I k M A->C A/\∀x,M x->x<IS (IT A)/\NN A x)(m:I 0 M0 w)(a4:∀(l k:Nat) (v:W_) (M:Nat->Prop) (W:H),k<e->q1 k v W->I k M W->Ie P n w.heap.size M I d h t z a l k v W)(a1:∀(D:Nat) (M:Nat->Prop) (W:H),D=IS (IT w)->(∀x,M x->x<D\/D+2<=x)->I e M W->W.heap[D]? =E (.deferred (E []))->Q .normal { a with defers:={ target:= .collected D,args:=#[] } :: a.defers } W)(a5:∀(D:Nat) (c:Code) (k:Nat) (W:H),IS (IT w)<=D->k<e->d c k W->W.heap[D]? =E (.deferred (E []))->c.wpIn kak n P Q { a with defers:={ target:= .collected D,args:=#[] } :: a.defers } W):
 (Code.rangeFunc g h t z).wpIn kak n P Q a w:=by
 refine wpIn_rangeFunc λR _=>?_
 obtain⟨i,hrc⟩:∃i:LoopState->Option _->Loop,i=λq e=>⟨q,e,R,a.tmps,h,t,z,IS (IT w)⟩:=⟨_,rfl⟩
 obtain⟨e,hW0⟩:∃e,AI (AI w<|.deferred<|E []) (.loop<|i .ready O)=e:=⟨_,rfl⟩;obtain⟨l,hl⟩:∃l,IS (IT w)+1=l:=⟨_,rfl⟩;have s:e.heap[l]? =E (.loop<|i .ready O):=by
  rw[<-hW0,<-hl];have h:=qR (AI w<|.deferred<|E [])<|.loop<|i .ready O;rwa [zL]at h
 have q:e.heap[IS (IT w)]? =E (.deferred<|E []):=by
  rw[<-hW0];exact(qH _ _ _ sp).trans (qR w _)
 have r:I 0 _ e:=T _ _ _ _ m (by rw[<-hW0];exact(zn.alloc _ _ _).trans<|zn.alloc _ _ _);have K:IS (IT e)=IS (IT w)+2:=by rw[<-hW0];simp
 have K:IS (IT w)<=IS (IT e):=om;refine⟨l,[{ target:= .collected w.heap.size,args:=#[] }],e,{ target:= .fn (.func f) j,args:=#[.func (.yield l) #[] #[]] },e,f,
  #[.func (.yield l) #[] #[]]++j,e,?_,?_,λ_ _=>trivial,?_,(λh=>by cases h),zq.2 ?_⟩
 ·rw[<-hW0,<-hl,hrc];exact run_enterLoop_outer _ _ _ _ _
 ·simp only[resolve,hg];simp[go_sem]
 ·simp[invoke,go_sem,p]
 ·refine(u l
   (λk M W=>∃N,(∀x,M x↔N x\/x=l)/\I k N W/\(∀x,N x->x<IS (IT w)\/IS (IT e)<=x)/\W.heap[l]? =E (.loop _)/\W.heap[IS (IT w)]? =E (.deferred _))
   (λk W=>∃c,d c k W/\W.heap[l]? =E (.loop<|i .done<|E c)/\W.heap[IS (IT w)]? =E (.deferred<|E []))
   _ e ?_ ?_ ?_ ?_ ?_ ?_ ⟨_,λ_=>Qb,r,λx f=> .inl ((L _ _ _ m).2 x f).1,s,q⟩).mono ?_
  ·rintro k M A B ⟨N,p,m,r,s,u⟩ d;exact⟨N,p,T _ _ _ _ m<|d.mono K,r,d.block _ _ s<|.inl om,d.block _ _ u<|.inl om⟩
  ·rintro k A B ⟨c,p,m,r⟩ d;exact⟨c,J _ _ _ _ p<|d.mono K,d.block _ _ m<|.inl om,d.block _ _ r<|.inl om⟩
  ·rintro k M A B ⟨N,p,m,r,s,u⟩ d;exact⟨N,p,X _ _ _ _ m<|d.mono λk q=>U _ _ _ _ K q,r,d.some s λj=>g_,d.some u λj=>g_⟩
  ·rintro k A B ⟨c,p,m,r⟩ d;exact⟨c,Z _ _ _ _ p<|d.mono λk q=>U _ _ _ _ K q,d.some m λj=>g_,d.some r λj=>g_⟩
  ·rintro k M A ⟨N,p,m,r,s,u⟩;refine⟨(L _ _ _ m).1,λx f=>?_⟩;rcases(p x).1 f with h|h
   ·grind
   ·rw[h];exact⟨(zd.1 s).1,a0 _ _ _ s rfl⟩
  ·rintro k v M W Z p ⟨N,u,L,K,m,y⟩;have r:=run_yield (P:=P) m (by rw[hrc];exact a2 k v W p);rw[hrc]at r;have U:¬N l:=λh=>g_
   have s:¬N w.heap.size:=λh=>g_
   have X:IS (IT e)<=IS (IT W):=g_
   have up:∀{X q1:H},Wr N X q1->Wr M X q1:=λh=>h.mono λx f=>(u x).2 (.inl f)
   refine XB 0 ⟨R,_,t,z,r,roundIn_of_wpIn trivial<|Ex (a4 l k v N W Z p L) ?_⟩;rintro j e e z;cases j with
   |normal=>
    obtain⟨q,d⟩:=z;have p:=q.some m U;have r:=q.some y s;refine⟨_,run_beginRound p g_,?_⟩;have X:(e.putObj l<|.loop _).heap[l]? =E (.loop { i .ready O with state:= .busy }):=World.putObj_heap_same (zd.1 p).1;have t:(e.putObj l<|.loop { i .ready O with state:= .busy }).heap[IS (IT w)]? =E (.deferred _):=(Z4 om).trans r;have q1:Wr M W (e.putObj l<|.loop { i .ready O with state:= .busy }):=(up q).trans<|Wr.putObj ((u l).2<|.inr rfl) _;refine Ex (d _<|zn.putObj _ om p rfl) ?_;have R:∀p d,Wr (λx=>N x\/IS (IT W)<=x) _ d->
     ∃e,(Instr.endRound l p).run P d= .ok (G p.isNone) e/\zn w.heap.size d e/\Wr M W e/\
      e.heap[l]? =E (.loop<|i (if p.isNone then .ready else .done) p)/\e.heap[IS (IT w)]? =E (.deferred _):=λp d i=>by
     have r:=i.some X λh=>h.elim U λh=>om;have U:=i.some t λh=>h.elim s λh=>om;refine⟨_,run_endRound p r,zn.putObj _ om r rfl,(SK q1 i λx f=>(u x).2<|.inl f).trans<|Wr.putObj ((u l).2<|.inr rfl) _,?_,(Z4 om).trans U⟩;rw[World.putObj_heap_same (zd.1 r).1,hrc]
    rintro j i d hp;cases j with
    |normal=>
     obtain⟨q1,U,Z,X⟩:=hp;obtain⟨e,s,p,t,r,i⟩:=R O d q1;refine⟨_,_,s,.inl ⟨rfl,t,λx=>U x\/x=l,⟨U,λ_=>Qb,T _ _ _ _ Z p,λx f=>?_,r,i⟩,λx f=>?_⟩⟩
     ·rcases X x f with h|h
      ·exact K x h
      ·exact .inr om
     ·rcases f with h|h
      ·rcases X x h with h|h
       ·exact .inl ((u x).2<|.inl h)
       ·exact .inr h
      ·exact .inl ((u x).2<|.inr h)
    |ret=>
     obtain⟨e,s,p,t,r,i⟩:=R (E .ret) d hp.1;exact⟨_,_,s,.inr ⟨rfl,t,.ret,J _ _ _ _ hp.2 p,r,i⟩⟩
    |exit id=>
     obtain⟨e,s,p,t,r,i⟩:=R (E<|.exit id) d hp.1;exact⟨_,_,s,.inr ⟨rfl,t,.exit id,J _ _ _ _ hp.2 p,r,i⟩⟩
    |goto u=>
     obtain⟨e,s,p,t,r,i⟩:=R (E<|.goto u) d hp.1;exact⟨_,_,s,.inr ⟨rfl,t,.goto u,J _ _ _ _ hp.2 p,r,i⟩⟩
    |panic d=>exact hp.elim
    |outgrown=>exact hp.elim
   |ret=>exact z.elim
   |exit id=>exact z.elim
   |goto u=>exact z.elim
   |panic d=>exact z.elim
   |outgrown=>exact z.elim
  ·rintro j d ⟨⟨v,rfl⟩,(⟨M,N,_,L,K,m,y⟩|⟨k,q,c,L,m,y⟩)⟩
   ·refine⟨O,_,(by have h:=run_endLoop (P:=P) m (by rw[hrc];simp);rw[hrc]at h;exact h),?_⟩;exact a1 _ N _ rfl (λx f=>(K x f).imp id λh=>om) (T _ _ _ _ L<|zn.putObj _ om m rfl) ((Z4 om).trans y)
   ·refine⟨E c,_,(by have h:=run_endLoop (P:=P) m (by rw[hrc];simp);rw[hrc]at h;exact h),?_⟩;exact a5 _ c k _ (zh _) q (J _ _ _ _ L<|zn.putObj _ om m rfl) ((Z4 om).trans y)
def Ja (P:Program)(g:Nat)(lb:W_)(n:Nat)(q1:Nat->W_->H->Prop)(C:H->Prop):Prop:=
 ∀l (J:Nat->(Nat->Prop)->H->Prop) (Jx:Nat->H->Prop) M0 W,
  (∀k M A B,J k M A->zn W.heap.size A B->J k M B)->(∀k A B,Jx k A->zn W.heap.size A B->Jx k B)->
  (∀k M A,J k M A->C A/\∀x,M x->x<IS (IT A))->
  (∀k v M W1,k<n->q1 k v W1->J k M W1->YieldAt kak 0 P l v W1 λe W'=>
   (e=Xa (G true)/\Wr M W1 W'/\∃M',J (k+1) M' W'/\∀x,M' x->M x\/IS (IT W1)<=x)\/(e=Xa (G false)/\Wr M W1 W'/\Jx k W'))->
  J 0 M0 W->
  Calls P g (#[.func (.yield l) #[] #[]]++lb) W λe W'=>(∃v,e=Xa v)/\((∃M,J n M W')\/∃k,k<n/\Jx k W')
theorem Ja.gen{F}{NN}{a}(h:Ja P g a n q1 C):KG F NN P g a n q1 C:=λl J b c W d e _ _ a f i=>h l J b c W d e (λk M A e=>⟨(a k M A e).1,λx b=>((a k M A e).2 x b).1⟩) f i
theorem rG.seq{b}{a:List (W_)}(h:rG P g b a C):Ja P g b (Y a) (λk v _=>a[k]? =E v) C:=λl J a b W c d e f i=>h l J a b W c d e (λk v M b a c=>f k v M b (zo.1 a).1 a c) i
theorem Lu{g}{f}{a}{w}{e}{p}(y:Ja P e p d q1 C)(hg:a.eval g= .func (.func e) #[] p)(q:∀args w,(callFunc e args).run P w= .ok (.enter e args) w)(t:∀k v W,q1 k v W->v.size=f.size)(I)(b)(M0)(m:∀k M A B,I k M A->zn w.heap.size A B->I k M B)(o:∀c k A B,b c k A->zn w.heap.size A B->b c k B)(j:∀k M A,I k M A->C A/\∀x,M x->x<IS (IT A))(r:I 0 M0 w)(u:∀l k v M W,k<d->q1 k v W->I k M W->Ie P n w.heap.size M I b f h i a l k v W)(s:∀D M W,IS (IT w)<=D->I d M W->W.heap[D]? =E (.deferred (E []))->Q .normal { a with defers:={ target:= .collected D,args:=#[] } :: a.defers } W)(z:∀D c k W,IS (IT w)<=D->k<d->b c k W->W.heap[D]? =E (.deferred (E []))->c.wpIn kak n P Q { a with defers:={ target:= .collected D,args:=#[] } :: a.defers } W):
 (Code.rangeFunc g f h i).wpIn kak n P Q a w:=Tk (F:=λ_ _ _=>False) (λ_ _ _ h=>h.elim) (λ_ _ _ _ _ h=>h) (λ_ _ _ _ _=>trivial) y.gen hg q t I b M0 m o (λk M A B h b=>m k M A B h<|T6 b) (λc k A B h b=>o c k A B h<|T6 b) (λk M A h=>⟨(j k M A h).1,λx b=>⟨(j k M A h).2 x b,trivial⟩⟩) r u (λD M W e _=>s D M W<|jm e.symm) z
theorem ZT{g}{f}{a}{w}{e}{j}(y:Ja P e j d q1 C)(hg:a.eval g= .func (.func e) #[] j)(m:∀args w,(callFunc e args).run P w= .ok (.enter e args) w)(t:∀k v W,q1 k v W->v.size=f.size)(I)(b)(M0)(q:∀k M A B,I k M A->zn w.heap.size A B->I k M B)(r:∀c k A B,b c k A->zn w.heap.size A B->b c k B)(p:∀k M A,I k M A->C A/\∀x,M x->x<IS (IT A))(o:I 0 M0 w)(u:∀l k v M W,k<d->q1 k v W->I k M W->Zz P n w.heap.size M I b f h i a l k v W)(s:∀D M W,IS (IT w)<=D->I d M W->W.heap[D]? =E (.deferred (E []))->Q .normal { a with defers:={ target:= .collected D,args:=#[] } :: a.defers } W)(z:∀D c k W,IS (IT w)<=D->k<d->b c k W->W.heap[D]? =E (.deferred (E []))->c.wpIn kak n P Q { a with defers:={ target:= .collected D,args:=#[] } :: a.defers } W):
 (Code.rangeFunc g f h i).wpIn kak n P Q a w:=Lu y hg m t I b M0 q r p o (λl k v M W a b c=>(u l k v M W a b c).wk) s z
theorem FD{g}{f}{a}{w}{e}{j}{d}(y:rG P e j d C)(hg:a.eval g= .func (.func e) #[] j)(m:∀args w,(callFunc e args).run P w= .ok (.enter e args) w)(t:∀v∈d,v.size=f.size)(I)(b)(M0)(q:∀k M A B,I k M A->zn w.heap.size A B->I k M B)(r:∀c k A B,b c k A->zn w.heap.size A B->b c k B)(p:∀k M A,I k M A->C A/\∀x,M x->x<IS (IT A))(o:I 0 M0 w)(u:∀l k v M W,d[k]? =E v->I k M W->Zz P n w.heap.size M I b f h i a l k v W)(s:∀D M W,IS (IT w)<=D->I (Y d) M W->W.heap[D]? =E (.deferred (E []))->Q .normal { a with defers:={ target:= .collected D,args:=#[] } :: a.defers } W)(z:∀D c k W,IS (IT w)<=D->k<Y d->b c k W->W.heap[D]? =E (.deferred (E []))->c.wpIn kak n P Q { a with defers:={ target:= .collected D,args:=#[] } :: a.defers } W):
 (Code.rangeFunc g f h i).wpIn kak n P Q a w:=ZT y.seq hg m (λk v W h=>t v<|zx h) I b M0 q r p o (λl k v M W _ b c=>u l k v M W b c) s z
theorem qh{a}{tmps:W_}{R}{ds}(b:W.heap[D]? =E (.deferred (E [])))(h:LeavesInM kak n P a tmps R ds .returning (W.putObj D (.deferred O))):
 LeavesInM kak n P a tmps R ({ target:= .collected D,args:=#[] } :: ds) .returning W:=⟨sp,.inl ⟨_,_,rfl,run_takeDeferred b,h⟩⟩
theorem jr{a}{next}{v:W_}{R1 R2:H->Prop}(h:YieldAt kak 0 P l v W λe W'=>(e=Xa (G true)/\R1 W')\/(e=Xa (G false)/\R2 W'))(h1:∀W',R1 W'->next (a.put o.dst (G true)) W')(h2:∀W',R2 W'->next (a.put o.dst (G false)) W'):
 Oper.uponIn kak n P o a next Q ((Instr.yield l v).run P W):=by obtain⟨fn,tmps,assign,body,hy,hR⟩:=XB (n-1) h;rw[hy];refine⟨(λh=>by cases h),hR.mono ?_⟩;grind
theorem JS{a}{next}{v:W_}{R1 R2:H->Prop}(h:YieldAt kak 0 P l v W λe W'=>(e=Xa (G true)/\R1 W')\/(e=Xa (G false)/\R2 W'))(h1:∀W',R1 W'->next (a.put o.dst (G true)) W')(h2:∀W',R2 W'->next (a.put o.dst (G false)) W'):
 Oper.uponIn (Fence.wide.inRound m) n P o a next Q ((Instr.yield l v).run P W):=by obtain⟨fn,tmps,assign,body,hy,hR⟩:=XB (n-1) h;rw[hy];refine⟨(λh=>by cases h),RoundIn.mono hR ?_⟩;grind
theorem N1(m n:Nat){v:W_}{d f:H->Prop}(h:YieldAt kak 0 P l v W λe W'=>(e=Xa (G true)/\d W')\/(e=Xa (G false)/\f W')):
 ∃c tmps a b,(Instr.yield l v).run P W= .ok (.round l c tmps a b) W/\
  RoundIn (Fence.wide.inRound m) n P l c tmps a b W λe W'=>∃t,e=Xa (G t)/\Hid ((t=true->d W')/\(t=false->f W')):=by obtain⟨c,tmps,a,b,f,d⟩:=XB n h;refine⟨c,_,a,b,f,RoundIn.mono d ?_⟩;rintro e W' (⟨rfl,a⟩|⟨rfl,a⟩);{exact⟨_,rfl,λ_=>a,λh=>g_⟩};exact⟨_,rfl,(λh=>g_),λ_=>a⟩
theorem zn.drew(B)(W):zn B W W.drew:=⟨rfl,rfl,rfl,zh _,λ_ _ h _=>h⟩
theorem Wr.drew(T)(W):Wr T W W.drew:=⟨rfl,rfl,rfl,zh _,λ_ _ _=>rfl⟩
abbrev Xp:=@Wr.drew
theorem zW:(Fence.wide.depth=O)=True:=by simp[kak]
theorem qJ(f:Nat):Fence.wide.fn f=True:=rfl
theorem zmn{v P Q}(d:0<P)(c:lead*P<=v)(f:0<v)(e:u<(high+1)*P)(b:0<lead)(a:Q=u/v):Q<=high/lead:=by subst a;rw[Nat.le_div_iff_mul_le b];have a:=Rx u v;have a:u/v*_<=u/v*v:=Zr _ c;have a:(u/v*lead)*P<(high+1)*P:=g_;exact Nat.lt_succ_iff.1 (OE a)
theorem WU{v P a Q}(d:a*P<=v)(e:0<v)(f:u<(b+1)*P)(hg:b<g*a)(c:Q=u/v):Q<g:=by subst c;rw[QC e];have c:(b+1)*P<=g*a*P:=zZ _ hg;have b:g*(a*P)<=g*v:=Zr _ d;grind
theorem zmo{v P a Q}(d:v<(a+1)*P)(e:0<v)(h:b*P<=u)(hg:g*a<=b)(f:g<=a)(c:Q=u/v):g<=Q+1:=by have f:u<(Q+1)*v:=(QC e).1 om;rcases Qc (Q+1) g with h|h;{exfalso;obtain⟨k,rfl⟩:∃k,g=k+1:=⟨g-1,om⟩;have c:(Q+1)*v<=k*v:=zZ _ om;have c:k*v<=k*_:=Zr _<|wW d;have c:(k+1)*a*P<=b*P:=zZ _ hg;have b:k*((a+1)*P)=(k*a+k)*P:=g_;have b:(k+1)*a*P=(k*a+a)*P:=g_;have b:(k*a+a)*P<(k*a+k)*P:=om;have a:=OE b;omega};omega
theorem znn{a v W}(b:a<W)(h:a+f*v=u+W*r)(c:f*v<=u)(d:u<W):r=0/\a=u-f*v:=by rcases Qd r with b|b;{grind};have:W*1<=W*r:=Zr _ b;omega
theorem XO{a v W}(b:a<W)(h:a+f*v=u+W*r)(c:u<f*v)(d:f*v<=u+v)(e:v<W):0<r/\a+v=u+W+v-f*v:=by rcases Qd r with b|b;{grind};rcases Qc 1 r with b|b;{have:W*2<=W*r:=Zr _ b;omega};grind
def splice (L W:N_)(j:Nat):N_:=L.take j++(W++L.drop (j+Y W))
theorem Sg{W}(h:j+Y W<=Y L):Y (splice L W j)=Y L:=by simp[splice];omega
theorem Ta{W}(a:fT L)(b:fT W):fT (splice L W j):=(a.take _).append (b.append<|a.drop _)
theorem zmp{W}(h:j<=Y L):(splice L W j).drop j=W++L.drop (j+Y W):=by rw[splice,jC so,QP so,Q7]
theorem zmq{W}(h:j<=Y L):(splice L W j).take j=L.take j:=by rw[splice,Qq so,zP so]
theorem znp{t v}(e:fT L)(a:j+t+1<=Y L)(f:val (L.drop (j+1))<v)(b:v<4294967296^t):
 val ((L.drop j).take (t+1))=val (L.drop j)/\val (L.drop (j+(t+1)))=0/\val (L.drop j)<v*4294967296:=by
 have a:=fy (L.drop<|j+1) t so;rw[Jn]at a;have d:val (L.drop<|j+1+t)=0:=by rcases Qd (val<|L.drop<|j+1+t)with h|h;{omega};have:4294967296^t*1<=4294967296^t*val _:=Zr _ h;omega
 have a:=fy (L.drop j) (t+1) so;rw[Jn]at a;have b:val (L.drop<|j+(t+1))=0:=g_;rw[b,Ql,qV]at a;refine⟨a.symm,b,?_⟩;have:=e.get j;rw[(gJ L j om)];omega
theorem Vn{W Q:N_}{t v N}(a:j+t+1<=Y L)(c:Y W=t+1)(d:j<Y Q)(e:val ((L.drop j).take (t+1))=val (L.drop j))(b:val (L.drop (j+(t+1)))=0)(g:val (L.drop j)=q*v+val W)(f:N=val L+v*(4294967296^(j+1)*val (Q.drop (j+1)))):
 N=val (splice L W j)+v*(4294967296^j*val ((Q.set j q).drop j))/\val ((splice L W j).drop j)=val W:=by
 have a:val ((splice L W j).drop j)=val W:=by rw[zmp om,fA,c,b,Ql,qV]
 have b:=fy (splice L W j) j (by rw[Sg om];omega);rw[zmq om,a]at b;have c:=gJ (Q.set j q) j g_;rw[L8 Q j q d,QH]at c;refine⟨?_,a⟩;rw[f,fy L j om,g,b,c,Zv];grind
def Hu (high lead U3 V2 g:Nat):Prop:=∀Q,Q<=high/lead->(∀k,U3<k*V2->Q<k)->Q<4294967296->Q<=g
theorem znq{a}(h:Hu high lead a b g)(hg:4294967296<=g):Hu high lead a b (g-1):=λQ a a a=>om
theorem UA(g lead l a Z b:Nat):(g*lead+l)*a+Z+g*b=g*(lead*a+b)+(l*a+Z):=by grind
theorem znr{a}(h:Hu high lead a b g)(d:a=high*4294967296+Z)(e:b=lead*4294967296+c)(f:g*lead+l=high)(hg:l*4294967296+Z<g*c):Hu high lead a b (g-1):=by intro Q a a b;have b:=UA g lead l 4294967296 Z c;rw[f,<-d,<-e]at b;have:=a g om;omega
theorem VL{a}(d:b=high*4294967296+Z)(e:c=lead*4294967296+a)(f:g*lead+l=high)(hg:g*a<=l*4294967296+Z):g*c<=b:=by have b:=UA g lead l 4294967296 Z a;grind
theorem zns{X q1 a}(e:high=q1+4294967296*X)(b:X<=lead)(c:q1<4294967296)(hs:a<4294967296)(d:g*lead+l=high)(f:4294967296<=l):g<4294967296/\g*a<=l*4294967296+Z:=by have b:g*lead<4294967296*lead:=om;have c:=OE b;refine⟨c,?_⟩;have b:g*a<=4294967296*4294967296:=Z7 om om;omega
theorem zok(b:high<18446744073709551616)(a:2147483648<=lead):high/lead<=8589934592:=by have b:high/lead<=high/2147483648:=Nat.div_le_div_left a om;omega
theorem WR(w)(b off cap b' R F t)(ds es)(M:Y ds=t+3)(a7:Y es=t+2)(a9:t+3<=cap)(aa:t+2<=F)(ht:t<=1073741800)(v:Row w b off ds)(D:Row w b' R es)(s:fT ds)(B:fT es)(N:2147483648<=es.getD (t+1) 0)(J:ds.getD (t+2) 0<=es.getD (t+1) 0)(high lead j k)(C:high=ds.getD (t+1) 0+4294967296*ds.getD (t+2) 0)(f:lead=es.getD (t+1) 0)(a:j=high*4294967296+ds.getD t 0)(c:k=lead*4294967296+es.getD t 0):
 C_ 277 #[V (E (Xd b off O)) (t+3) cap,V (E (Xd b' R O)) (t+2) F] w λe w'=>∃g,e=Xa (it .u32 (g:Nat))/\g<4294967296/\Hu high lead j k g/\g*k<=j/\∃n,w'=w.drewN n:=by
 have c0:=v t om;have c1:=v (t+1) om;have c2:=v (t+2) om;have d0:=D t om;have d1:=D (t+1) om;have z0:=s.get t;have U:=s.get<|t+1;have z2:=s.get<|t+2;have T:=B.get t;have y1:=B.get<|t+1;rw[<-f]at d1 y1 N J;clear f v D s B M a7;generalize ds.getD t 0=Z at *;generalize ds.getD (t+1) 0=a3 at *;generalize ds.getD (t+2) 0=a2 at *;generalize es.getD t 0=i at *;have p:=KX _ _ z2 U;have a6:high<18446744073709551616:=om;rw[<-C]at p;have u:high/lead=((high/lead:Nat):Int):=sp;have q:high%lead=((high%lead:Nat):Int):=sp;have a5:=zok a6 N;have ad:high%lead<lead:=Z0 _ om;have L:high/lead*lead+high%lead=high:=by have:=Jz high lead;rw[Z5]at this;exact this
 have I:Hu _ _ j k (high/lead):=λQ A _ _=>A;have q1:=zf C;clear C;generalize hG:high/lead=W at *;generalize hR:high%lead=a1 at *;clear hG hR;have X:=zf L;clear L;have a0:=zf I;clear I;go_enter func277,ntmps277;go_wp2_with fail;go_quiet (fail);go_wp2_with fail;go_quiet (fail);go_wp2_with fail;go_quiet (fail);go_wp2_with fail;go_loopw [9,10] (λgv lv wr=>∃g l:Nat,g<=8589934592/\l<8589934592/\gv=it .u64 g/\lv=it .u64 l/\Hid (g*lead+l=high)/\Hid (Hu high lead j k g)/\∃n,wr=w.drewN n) (λgv _ _=>(intOf gv).toNat);case atStart=>exact⟨W,_,a5,om,rfl,g_,X,a0,_,(World.drewN_drewN _ _ _).trans<|World.drewN_drewN _ _ _⟩
 case round=>obtain⟨g,l,_,M,rfl,rfl,h,f,n,rfl⟩:=hrel;by_cases A:l<4294967296;{have i1:(l:Int)<4294967296:=om;by_cases m:g<4294967296;{have i2:¬(4294967296<=(g:Int)):=om;have a8:=KX l Z A z0;obtain⟨y,hy⟩:∃y,Z+4294967296*l=y:=⟨_,rfl⟩;rw[hy]at a8;obtain⟨_,_⟩:=PR g i m T;have K:((g*i:Nat):Int)=g*i:=sp;by_cases o:y<g*i;{have h4:y<(g)*(i:Int):=om;have ab:1<=g:=g_;have d:=zf<|znr f.out a c h.out om;(have x:Hid ((g-1)*lead+(l+lead)=high):=by rw[Hid,<-h.out];obtain⟨r,rfl⟩:∃r,g=r+1:=⟨g-1,om⟩;rw[Mq,Zg];omega);have H7:=zf a;have H8:=zf c;clear a c o K p u q hy;go_wp2_with fail;go_roundw;(case rel=>exact⟨_,_,om,om,g_,g_,x,d,n,rfl⟩);case measure=>simp[intOf];omega};have h4:¬((y)<(g)*(i:Int)):=om;have d:=zf<|VL a c h.out om;clear a c o K p u q hy;go_wp2_with fail;go_ret;exact⟨g,sp,m,f.out,d.out,n,rfl⟩};have a4:4294967296<=g:=om;have i2:4294967296<=(g:Int):=om;have d:=zf<|znq f.out a4;(have x:Hid ((g-1)*lead+(l+lead)=high):=by rw[Hid,<-h.out];obtain⟨r,rfl⟩:∃r,g=r+1:=⟨g-1,om⟩;rw[Mq,Zg];omega);clear a c p u q m;go_wp2_with fail;go_roundw;(case rel=>exact⟨_,_,om,om,g_,g_,x,d,n,rfl⟩);case measure=>simp[intOf];omega};obtain⟨m,o⟩:=zns (Z:=Z) q1.out J U T h.out om;have d:=zf<|VL a c h.out o;clear a c p u q o;have i1:¬((l:Int)<4294967296):=om;go_wp2_with fail;go_ret;exact⟨g,sp,m,f.out,d.out,n,rfl⟩
theorem zrF{S}(d:k<Y a)(e:k<Y ds)(b:val (a.take k)+4294967296^k*c=S*val (ds.take k)):
 val ((a.set k ((c+ds.getD k 0*S)%4294967296)).take (k+1))+4294967296^(k+1)*((c+ds.getD k 0*S)/4294967296)=S*val (ds.take (k+1)):=by rw[nT _ _ _ d,fI _ k e,Zs S,<-b,Zs];grind
theorem LD{S}(b:c<S)(e:d<4294967296)(a:S<=2147483648):c+d*S<18446744073709551616/\(c+d*S)/4294967296<S:=by have a:d*S<=4294967295*S:=zZ _ om;omega
theorem zlw(h:z<18446744073709551616):IntKind.u64.wrap (z)=(z):=by have e:∀n,IntKind.u64.wrap n=n%18446744073709551616:=λn=>rfl;grind
theorem T9(w)(v)(ds:List _)(s)(hs:s<=31)(hv:kS w v ds)(T:ds≠ [])(t:fT ds)(ah:Y ds<=1073741823):
 Calls pg 276 #[v,it Xb (s:Nat)] w λe w'=>∃(g:Nat) (l:List _),e=Xa (V (E (Xd g 0 O)) (Y ds+1) (Y ds+1))/\Y l=Y ds+1/\fT l/\Row w' g 0 l/\uy w' g 0 (Y ds+1)/\val l=2^s*val ds/\Below w.heap.size w w'/\IS (IT w)<=g/\g<IS (IT w'):=by
 obtain⟨_,_,rfl,_,hr⟩:=hv;obtain⟨p,off,rfl,hb,a4⟩:=hr T;have aj:=ZC.2 T;obtain⟨i0,hi,aa,ab,ad⟩:=Zn Xu;have J:0<2^s:=At dc;have K:2^s<=2147483648:=ZD dc hs;go_enter func276,ntmps276;go_wp2_with (at_make;refine Px _ rfl _ _ _ rfl _ _ underlying99 hi aa ab ad _ _ _ _ (Y ds+1) rfl rfl sp sp om ?_;intro D a5 u L a7);have a8:=Xx w.heap.size 0 (Y ds+1) D;have a3:=a4.J L hb;have a0:p≠IS (IT w):=om;generalize a2:IS (IT w)=g at *;have F:=zf a2;obtain⟨S,hS⟩:∃S,2^s=S:=⟨_,rfl⟩;rw[hS]at J K;have j:=zf hS;go_loopw [6,15] (λcv C wr=>∃(k c:Nat) (a:List Nat),k<=Y ds/\c<S/\C=it Xb (k:Nat)/\cv=it .u64 (c:Nat)/\Hid (Y a=Y ds+1)/\fT a/\Row wr g 0 a/\l_ g 0 (Y ds+1) D wr/\ Hid (val (a.take k)+4294967296^k*c=S*val (ds.take k))) (λ_ C _=>Y ds-(intOf C).toNat);case atStart=>exact⟨0,0,_,qo _,J,rfl,rfl,g_,(λae t=>g_),a5,a8,rfl⟩
 case round=>obtain⟨k,c,a,_,M,rfl,rfl,h,N,m,i,W⟩:=hrel;by_cases R:k<Y ds;{have a6:=i.other a0 a3;have hx:=a6 k R;have a9:=t.get k;(have d:k<Y a:=by rw[h.out];omega);have A:=i.free u k om;have U:=zrF d R W.out;have q:=LD M a9 K;have f:=m.setCell k ((c+ds.getD k 0*S)%4294967296) d;have b:=i.setCell k (by omega)<|it .u32<|((c+ds.getD k 0*S)%4294967296:Nat);generalize ds.getD k 0=x at *;obtain⟨y,hy⟩:∃y,c+x*S=y:=⟨_,rfl⟩;obtain⟨z,hz⟩:∃z,x*S=z:=⟨_,rfl⟩;(have hw:IntKind.u64.wrap ((x:Int)*2^s)=(z:Int):=by rw[show(x:Int)*2^s=((x*S:Nat):Int)by grind,hz];exact zlw om);(have ai:bits .or .u64 (c:Int) (z:Int)=(y:Int):=by rw[u64_or_nat _ _ om om,Nat.or_comm,nat_join s z c (by rw[<-hz,<-j.out];simp)<|by omega];omega);(have a1:AT wr (Xd g k O)=E (it .u32 ((a.getD k 0:Nat):Int)):=by have:=m k d;rwa [qt]at this);rw[hy]at U q f b;simp only[qt]at f b A;have e1:((y%4294967296:Nat))=(y:Int)%4294967296:=om;have X:Hid (((y/4294967296:Nat):Int)=(y:Int)/4294967296):=g_;rw[e1]at f b;have Z:=zf U;have af:=q.1;have q1:=zf q.2;go_wp2;go_roundw;(case rel=>exact⟨_,_,_,om,q1.out,g_,g_,g_,N.set _ _<|Z0 _ dc,f,b,Z.out⟩);case measure=>simp[intOf];omega};have o:k=Y ds:=om;(have d:k<Y a:=by rw[h.out];omega);have A:=i.free u k om;(have a1:AT wr (Xd g k O)=E (it .u32 ((a.getD k 0:Nat):Int)):=by have:=m k d;rwa [qt]at this);have f:=m.setCell k c d;have b:=i.setCell k (by omega)<|it .u32<|c;simp only[qt]at f b A;have r:c<4294967296:=om;have B:=nT a k c d;(have HV:Hid (val (a.set k c)=S*val ds):=by rw[Hid];have I:=W.out;rw[o,Zx]at I;rw[o]at B;rw[zP (by rw[qX,h.out];omega),jH r,Jk r,Ql,qV,I]at B;rw[o];exact B);subst o;go_wp2;go_ret;exact⟨g,_,rfl,by rw[qX,h.out],N.set _ _ r,f,b.free u,by rw[HV.out,j.out],by rw[F.out];exact L.trans<|b.J<|zh _,om,by rw[b.size];omega⟩
theorem hm:Tryz.prog.follows .mixedOrders=true:=by kernel_rfl
section
variable {P:Program} {ops:Array Oper} {Q:Exit->Act->World->Prop} {md:Region.Mode} {S:World->Prop}
theorem lM (i){oi}{v}{fuel}{listed}{a b}{w}(h:wpAnyH P md ops Q S fuel (listed.setIfInBounds i true) b w)(hi:ops.toList[i]? =some oi:=by rfl)
 (hs:Region.noSelect ops=true:=by kernel_rfl) (hf:Region.free md ops listed i=true:=by kernel_rfl) (hr:(kam md ops listed).contains i=true:=by kernel_rfl)
 (hw:kan oi (yielded ops a.tmps)=true:=by rfl) (hv:∀w,S w->(execOp a.eval oi).run P w= .ok (.value v) w:=by(intro w hSw;(try dsimp only at hSw);go_simp;try with_reducible rfl))
 (hQ:∀c a w,Q (.panic c) (a.put oi.dst v) w->Q (.panic c) a w:=by first|exact λ_ _ _ h=>h|exact λ_ _ _ h=>absurd h.1 (by simp))
 (hS:S w:=by assumption) (hb:a.put oi.dst v=b:=by((try simp only[Act.put,Ji,I0,L9]);rfl)):wpAnyH P md ops Q S (fuel+1) listed a w:=wpAnyH_take (by simpa using hi) hs hf hr hQ (Or.inl ⟨hw,hv⟩) hS (by rw[hb];exact h)
def t_ (P:Program)(ops:Array Oper)(Q:Exit->Act->H->Prop)(md:Region.Mode)(S:H->Prop)(fuel:Nat)(listed:Array Bool)(K:Act->H->Prop):Prop:=
 ∀a w (_:S w) {b:Act} (_:a=b:=by((try simp only[Act.put,Ji,I0,L9]);rfl)) (_:S w->wpAnyH P md ops Q S fuel listed b w),K a w
theorem t_.out {c}{d}{K}(e:t_ P ops Q md S c d K)(a)(w)(f:S w){b}(hb:a=b:=by((try simp only[Act.put,Ji,I0,L9]);rfl))(h:S w->wpAnyH P md ops Q S c d b w):K a w:=e a w f hb h
theorem IF {c}{d}{a}{w}{i}{o}{rs:N_}(ho:ops.toList[i]? =E o:=by rfl)
 (h:∀b,t_ P ops Q md S c (d.setIfInBounds i true) b->if kan o (yielded ops a.tmps)=true then Oper.wp P o a w b Q else b (a.put o.dst undef) w)
 (hs:AllReadyH P md ops Q S c d a w rs):AllReadyH P md ops Q S c d a w (i::rs):=AllReadyH.cons (by simpa using ho) (λK c=>h K λa w b d e d=>c.out a w b λb=>by rw[e];exact d b) hs
theorem fZ (i){fuel}{listed}{a}{w}{o}(h:∀K',t_ P ops Q md S fuel (listed.setIfInBounds i true) K'->if kan o (yielded ops a.tmps)=true then Oper.wp P o a w K' Q else K' (a.put o.dst undef) w)(hr:kam md ops listed= [i]:=by kernel_rfl)(ho:ops.toList[i]? =some o:=by rfl):wpAnyH P md ops Q S (fuel+1) listed a w:=wpAnyH_ready hr (by simp) (IF (ho:=ho) (h:=h) (hs:=AllReadyH.nil))
def Uj (P:Program)(ops:Array Oper)(Q:Exit->Act->H->Prop)(md:Region.Mode)(S:H->Prop)(fuel:Nat)(listed:Array Bool)(a:Act)(d:Option Tmp):Ending->H->Prop
 |Xa v,w=>S w/\wpAnyH P md ops Q S fuel listed (a.put d v) w
 |_,_=>False
theorem iq (i){f}{args:W_}{R}{fuel}{listed}{a}{w}{o}(hc:Calls P f args w R)
 (h:∀e w',R e w'->Uj P ops Q md S fuel (listed.setIfInBounds i true) a o.dst e w') (hr:kam md ops listed= [i]:=by kernel_rfl) (ho:ops.toList[i]? =some o:=by rfl)
 (hx:∀K',(Calls P f args w λe w'=>∃v,e=Xa v/\K' (a.put o.dst v) w')->if kan o (yielded ops a.tmps)=true then Oper.wp P o a w K' Q else K' (a.put o.dst undef) w:=by
  (intro K' hK;go_simp;refine hK.mono<|ij λw' v h=>?_;go_wp2_with fail;exact h)):wpAnyH P md ops Q S (fuel+1) listed a w:=fZ i (λK' hB=>hx K'<|hc.mono λe w' hR=>by have hq:=h e w' hR;cases e with |returned v=>exact⟨v,rfl,hB.out _ _ hq.1 (hb:=rfl) λ_=>hq.2⟩ |_=>exact hq.elim) hr ho
theorem bk {c}{f}{a b}{d}{v}{w}(e:S w)(h:S w->wpAnyH P md ops Q S c f b w)
 (hb:a.put d v=b:=by((try simp only[Act.put,Ji,I0,L9]);rfl)):Uj P ops Q md S c f a d (Xa v) w:=⟨e,by rw[hb];exact h e⟩
end
end
section
variable {P:Program} {ops:Array Oper} {Q:Exit->Act->World->Prop} {md:Region.Mode} {S:World->Prop}
def nJ (P:Program)(ops:Array Oper)(Q:Exit->Act->H->Prop)(md:Region.Mode)(S:H->Prop):N_->Nat->Array Bool->Act->Nat->Array Bool->Act->Prop
 |[],n,l,a,n',l',c=>n=n'/\l=l'/\a=c
 |i::is,n,l,a,n',l',c=>∃(m:Nat) (b:Act) (o:Oper) (v:Value),n=m+1/\ops.toList[i]? =E o/\Region.free md ops l i=true/\(kam md ops l).contains i=true/\(kan o (yielded ops a.tmps)=true/\(∀w,S w->(execOp a.eval o).run P w= .ok (.value v) w)\/kan o (yielded ops a.tmps)=false/\v=undef)
  /\(∀c a w,Q (.panic c) (a.put o.dst v) w->Q (.panic c) a w)/\a.put o.dst v=b/\nJ P ops Q md S is m (l.setIfInBounds i true) b n' l' c
theorem nJ.nil {P}{ops}{Q}{md}{S}{n}{l}{a}:nJ P ops Q md S [] n l a n l a:=⟨rfl,rfl,rfl⟩
theorem nJ.cons {P}{ops}{Q}{md}{S}{i}{is}{n n'}{l l'}{a b c}{o}{v}(hi:ops.toList[i]? =some o)(hf:Region.free md ops l i=true)(hr:(kam md ops l).contains i=true)(hv:kan o (yielded ops a.tmps)=true/\(∀w,S w->(execOp a.eval o).run P w= .ok (.value v) w)\/kan o (yielded ops a.tmps)=false/\v=undef)
 (hQ:∀c a w,Q (.panic c) (a.put o.dst v) w->Q (.panic c) a w) (hb:a.put o.dst v=b) (h:nJ P ops Q md S is n (l.setIfInBounds i true) b n' l' c):nJ P ops Q md S (i::is) (n+1) l a n' l' c:=⟨n,b,o,v,rfl,hi,hf,hr,hv,hQ,hb,h⟩
theorem gX (is){n n'}{l l'}{a b}{w}(h:wpAnyH P md ops Q S n' l' b w)(hs:Region.noSelect ops=true:=by kernel_rfl)
 (hT:nJ P ops Q md S is n l a n' l' b:=by(repeat(apply nJ.cons;(case hi=>rfl);(case hf=>kernel_rfl);(case hr=>kernel_rfl);(case hv=>first|(refine .inl ⟨by rfl,?_⟩;intro w hSw;(try dsimp only at hSw);go_simp;try with_reducible rfl)|exact .inr ⟨by rfl,rfl⟩);(case hQ=>first|exact λ_ _ _ h=>h|exact λ_ _ _ h=>absurd h.1 (by simp));(case hb=>((try simp only[Act.put,Ji,I0,L9]);rfl))));exact nJ.nil)
 (hS:S w:=by assumption):wpAnyH P md ops Q S n l a w:=by induction is generalizing n l a with |nil=>obtain⟨rfl,rfl,rfl⟩:=hT;exact h |cons i is ih=>obtain⟨m,b',o,v,rfl,hi,hf,hr,hv,hQ,hb,hT⟩:=hT;exact wpAnyH_take g_ hs hf hr hQ hv hS g_
end
section
theorem jR:∀a (first cap:W_) w,(Instr.makeFunc a first cap).run pg w= .ok (.func a first cap) w:=λ_ _ _ _=>rfl
theorem Q0 {f}{a}{c}{args b:W_}{w}{R}{k}(e:Tryz.prog.funcs[f]? =E a)(g:a.ntmps=k)(hb:a.body=E c:=by rfl)
 (d:args++Array.replicate (k-args.size) undef=b:=by((try simp only[List.size_toArray,qi,QK,Nat.reduceAdd,Nat.reduceSub,Array.replicate_succ,Array.replicate_zero,List.push_toArray,List.append_toArray,Q7,ZZ]);rfl))
 (h:c.wpIn .wide 0 pg (bodyPostM .wide 0 pg a R) { tmps:=b,defers:= [] } w):C_ f args w R:=(zq).1 (callsIn_of_wp_marks e hb trivial (by rw[g,d];exact h) rfl)
theorem tN {f}{a}{c}{args b:W_}{w}{R}{k}(e:Tryz.prog.funcs[f]? =E a)(g:a.ntmps=k)(hb:a.body=E c:=by rfl)
 (d:args++Array.replicate (k-args.size) undef=b:=by((try simp only[List.size_toArray,qi,QK,Nat.reduceAdd,Nat.reduceSub,Array.replicate_succ,Array.replicate_zero,List.push_toArray,List.append_toArray,Q7,ZZ]);rfl))
 (h:c.wpIn .wide 0 pg (bodyPost pg a R) { tmps:=b,defers:= [] } w):C_ f args w R:=(zq).1 (callsIn_of_wp e hb trivial (by rw[g,d];exact h) rfl)
structure V4 where
 a:Int
 b:Int
 c:Int
 d:Int
namespace V4
def dot (x y:V4):Int:=x.a*y.a+x.b*y.b+x.c*y.c+x.d*y.d
def add (x y:V4):V4:=⟨x.a+y.a,x.b+y.b,x.c+y.c,x.d+y.d⟩
def smul (t:Int)(x:V4):V4:=⟨t*x.a,t*x.b,t*x.c,t*x.d⟩
def zero:V4:=⟨0,0,0,0⟩
theorem ext' {x y:V4}(h1:x.a=y.a)(h2:x.b=y.b)(a:x.c=y.c)(b:x.d=y.d):x=y:=by cases x;cases y;simp_all
theorem C5 (x y:V4):x.dot y=y.dot x:=by unfold dot;grind
theorem mH (x y z:V4):x.dot (y.add z)=x.dot y+x.dot z:=by unfold dot add;grind
theorem fD (x y:V4)(t):x.dot (y.smul t)=t*x.dot y:=by unfold dot smul;grind
theorem kj (x y:V4)(t):(x.smul t).dot y=t*x.dot y:=by unfold dot smul;grind
theorem ld (x:V4)(s t):(x.smul t).smul s=x.smul (s*t):=by unfold smul;grind
theorem nM (x:V4):x.dot zero=0:=by unfold dot zero;grind
def E7 (u v w:V4):V4:=
 ⟨u.b*(v.c*w.d-v.d*w.c)-u.c*(v.b*w.d-v.d*w.b)+u.d*(v.b*w.c-v.c*w.b),
  -(u.a*(v.c*w.d-v.d*w.c)-u.c*(v.a*w.d-v.d*w.a)+u.d*(v.a*w.c-v.c*w.a)),
  u.a*(v.b*w.d-v.d*w.b)-u.b*(v.a*w.d-v.d*w.a)+u.d*(v.a*w.b-v.b*w.a),
  -(u.a*(v.b*w.c-v.c*w.b)-u.b*(v.a*w.c-v.c*w.a)+u.c*(v.a*w.b-v.b*w.a))⟩
def C2 (x u v w:V4):Int:=x.dot (E7 u v w)
end V4
open V4
def Jb (R:Nat->V4):Int:=C2 (R 0) (R 1) (R 2) (R 3)
def QL (R:Nat->V4)(j:Nat):V4:=
 match j with
 |0=>E7 (R 1) (R 2) (R 3)
 |1=>(E7 (R 0) (R 2) (R 3)).smul (-1)
 |2=>E7 (R 0) (R 1) (R 3)
 |_=>(E7 (R 0) (R 1) (R 2)).smul (-1)
theorem uq {i}(h:i<4):i=0\/i=1\/i=2\/i=3:=om
theorem BV (R)(i j)(a:i<4)(b:j<4):(R i).dot (QL R j)=if i=j then Jb R else 0:=by rcases uq a with rfl|rfl|rfl|rfl<;>rcases uq b with rfl|rfl|rfl|rfl<;>(first|rw[zQ rfl]|rw[zO dc])<;>simp only[QL,Jb,C2,E7,dot,smul]<;>grind
theorem QA (R)(x):x.smul (Jb R)=((((QL R 0).smul ((R 0).dot x)).add ((QL R 1).smul ((R 1).dot x))).add ((QL R 2).smul ((R 2).dot x))).add ((QL R 3).smul ((R 3).dot x)):=by apply ext'<;>simp only[QL,Jb,C2,E7,dot,smul,add]<;>grind
theorem NJ {R}(a:Jb R≠0){x y}(h:∀i,i<4->(R i).dot x=(R i).dot y):x=y:=by have b:=QA R x;rw[h 0 om,h 1 om,h 2 om,h 3 om,<-QA R y]at b;simp only[smul,V4.mk.injEq]at b;have⟨c,d,e,f⟩:=b;exact ext' (QU a c) (QU a d) (QU a e) (QU a f)
def y8 (R:Nat->V4)(j:Nat)(g:V4):Nat->V4:=λi=>if i=j then g else R i
theorem MH (R)(j)(g):y8 R j g j=g:=zQ rfl
theorem OO (R){i j}(g)(h:i≠j):y8 R j g i=R i:=zO h
theorem TJ (R)(j)(a:j<4)(g):QL (y8 R j g) j=QL R j:=by rcases uq a with rfl|rfl|rfl|rfl<;>rfl
theorem Lv (R)(j)(a:j<4)(g):Jb (y8 R j g)=g.dot (QL R j):=by have h:=BV (y8 R j g) j j a a;rw[zQ rfl,MH,TJ R j a]at h;omega
theorem zlx (R:Nat->V4)(j k:Nat)(c:j<4)(d:k<4)(a:k≠j)(g:V4)(hp:g.dot (QL R j)≠0):
 (QL (y8 R j g) k).smul (Jb R)=((QL R k).smul (g.dot (QL R j))).add ((QL R j).smul (-(g.dot (QL R k)))):=by
 have a:Jb (y8 R j g)≠0:=by rw[Lv R j c];exact hp
 refine NJ a λi a=>?_;rw[fD,mH,fD,fD,BV _ _ _ a d];by_cases b:i=j;{subst b;rw[MH,zO om];grind};rw[OO R g b,BV R i k a d,BV R i j a c,zO b,Lv R j c];grind
def Cc (L:Nat->V4)(m:Nat->Int):V4:=((((L 0).smul (m 0)).add ((L 1).smul (m 1))).add ((L 2).smul (m 2))).add ((L 3).smul (m 3))
theorem TX (x:V4)(L)(m):x.dot (Cc L m)=m 0*x.dot (L 0)+m 1*x.dot (L 1)+m 2*x.dot (L 2)+m 3*x.dot (L 3):=by simp only[Cc,mH,fD]
theorem Ns (R)(m)(i)(a:i<4):(R i).dot (Cc (QL R) m)=m i*Jb R:=by rw[TX,BV R i 0 a om,BV R i 1 a om,BV R i 2 a om,BV R i 3 a om];grind
theorem zjT (R:Nat->V4)(m:Nat->Int)(j:Nat)(d:j<4)(g:V4)(b:Int)(hp:g.dot (QL R j)≠0):
 (Cc (QL (y8 R j g)) (λi=>if i=j then b else m i)).smul (Jb R)=((Cc (QL R) m).smul (g.dot (QL R j))).add ((QL R j).smul (b*Jb R-g.dot (Cc (QL R) m))):=by
 have a:Jb (y8 R j g)≠0:=by rw[Lv R j d];exact hp
 refine NJ a λi c=>?_;rw[fD,mH,fD,fD,Ns _ _ i c,Lv R j d];by_cases a:i=j;{subst a;rw[MH,zQ rfl];grind};rw[OO R g a,zO a,Ns R m i c,BV R i j c d,zO a];grind
end
section
open V4
variable {f:Nat->Int}
def JK (f:Nat->Int):Prop:=∃k,k<5/\(∀i,i<k->f i=0)/\0<f k
def qz (f:Nat->Int):Prop:=(∀i,i<5->f i=0)\/JK f
theorem JK.n(h:JK f):qz f:= .inr h
theorem RZ(f):JK f\/qz (λi=>- f i):=by by_cases h:∃k,k<5/\f k≠0;{have:∃k,k<5/\f k≠0/\∀i,i<k->f i=0:=g_;obtain⟨k,b,j,c⟩:=this;by_cases hp:0<f k;{exact .inl ⟨k,b,c,hp⟩};exact .inr<|.inr ⟨k,b,λi a=>g_,g_⟩};refine .inr<|.inl λi a=>?_;grind
theorem JK.not_neg(h:JK f):¬qz (λi=>- f i):=by obtain⟨k,c,d,hp⟩:=h;rintro(b|⟨j,_,e,a⟩);{grind};grind
theorem JK.comb{g h:Nat->Int}{p q r:Int}(A:JK f)(hg:qz g)(hp:0<p)(C:0<q)(c:0<=r)(e:∀i,i<5->p*h i=q*f i+r*g i):JK h:=by
 have zero:∀x,p*x=0->x=0:=λx u=>by rcases Int.mul_eq_zero.1 u with h|h;{omega};omega
 have v:∀x,0<p*x->0<x:=λx u=>by rcases Int.lt_or_le 0 x with h|h;{omega};have:=NW (ND hp) h;omega
 have m:∀k,k<5->(∀i,i<k->f i=0)->(∀i,i<k->g i=0)->0<q*f k+r*g k->JK h:=λk a w y z=>⟨k,a,λi b=>zero _ g_,v _ g_⟩;obtain⟨k,a,d,B⟩:=A;have o:=Int.mul_pos C B;rcases hg with hg|⟨l,s,j,t⟩;{exact m k a d (λi b=>hg i om) g_};rcases Gd l k with h|h|h;{rcases jd c with c|c;{exact m l s (λi b=>d i om) j (by rw[d l h];simpa using Int.mul_pos c t)};subst c;exact⟨k,a,λi b=>zero _ g_,v _ g_⟩};{subst h;exact m l s d j (by have:=GL c<|ND t;omega)};exact m k a d (λi b=>j i om) g_
theorem qz.comb{g h:Nat->Int}{p q r:Int}(c:qz f)(hg:qz g)(hp:0<p)(d:0<=q)(b:0<=r)(e:∀i,i<5->p*h i=q*f i+r*g i):qz h:=by
 have zero:∀x,p*x=0->x=0:=λx a=>by rcases Int.mul_eq_zero.1 a with h|h;{omega};omega
 rcases jd d with d|d;{rcases c with c|c;{rcases jd b with b|b;{rcases hg with hg|hg;{exact .inl λi a=>zero _ g_};exact .inr<|hg.comb (.inl c) hp b (ND d) λi a=>g_};subst b;exact .inl λi a=>zero _ g_};exact .inr<|c.comb hg hp d b e};subst d;rcases jd b with b|b;{rcases hg with hg|hg;{exact .inl λi a=>zero _ g_};exact .inr<|hg.comb c hp b (Int.le_refl 0) λi a=>g_};subst b;exact .inl λi a=>zero _ g_
def fm (l:L_):V4:=⟨l.getD 0 0,l.getD 1 0,l.getD 2 0,l.getD 3 0⟩
def QV (i:Nat):V4:=⟨if i=0 then 1 else 0,if i=1 then 1 else 0,if i=2 then 1 else 0,if i=3 then 1 else 0⟩
def AR (a_:L_)(i:Nat):V4:=
 match i with
 |0=>fm a_
 |i+1=>if a_.getD i 0<=0 then(QV i).smul (-1)else QV i
def rk (a_:L_)(x:V4)(i:Nat):Int:=(AR a_ i).dot x
theorem KD(a_)(x y)(i):rk a_ (x.add y) i=rk a_ x i+rk a_ y i:=mH _ _ _
theorem JH(a_)(x)(t)(i):rk a_ (x.smul t) i=t*rk a_ x i:=fD _ _ _
theorem D9(x):(QV 0).dot x=x.a/\(QV 1).dot x=x.b/\(QV 2).dot x=x.c/\(QV 3).dot x=x.d:=by simp[QV,dot]
theorem zrG{a_}{x}(h:∀i,i<5->rk a_ x i=0):x=V4.zero:=by
 have b:∀i,i<4->(QV i).dot x=0:=by intro i a;have:=h (i+1) om;have a:(if a_.getD i 0<=0 then(QV i).smul (-1)else QV i).dot x=0:=this;split at a;{rw[kj]at a;omega};omega
 have⟨g,j,a,k⟩:=D9 x;exact ext' (by rw[<-g,(b 0 om)];rfl) (by rw[<-j,(b 1 om)];rfl) (by rw[<-a,(b 2 om)];rfl) (by rw[<-k,(b 3 om)];rfl)
end
namespace T
variable {a ds:N_}{b cap g n off:Nat}{v:Value}{w w':H}
def val:N_->Nat
 |[]=>0
 |d::ds=>d+10000*val ds
def fT (ds:N_):Prop:=∀d∈ds,d<10000
theorem fT.cons{d:Nat}(h:fT (d::ds)):d<10000/\fT ds:=⟨h d<|qA ..,λx a=>h x<|qq _ a⟩
theorem fT.get(h:fT ds)(i):ds.getD i 0<10000:=by by_cases a:i<Y ds;{rw[zk,zg a,qB];exact h _<|zJ a};grind
theorem fT.set(h:fT ds)(i x)(a:x<10000):fT (ds.set i x):=by intro d a;rcases MA a with a|a;{exact h d a};omega
theorem fT.take(h:fT ds)(n):fT (ds.take n):=λd a=>h d (ZY a)
theorem fT.drop(h:fT ds)(n):fT (ds.drop n):=λd a=>h d (I1 a)
theorem fT.append{b}(h:fT a)(k:fT b):fT (a++b):=λd c=>by rcases zU.1 c with c|c;{exact h d c};exact k d c
theorem fA(a b):val (a++b)=val a+10000^Y a*val b:=by induction a with |nil=>simp[val] |cons d c d=>simp only[ZZ,val,qi,d,Zv,Zs];grind
theorem gd(h:fT ds):val ds<10000^Y ds:=by induction ds with |nil=>simp[val] |cons d ds a=>have b:=h.cons.1;have b:=a h.cons.2;simp only[val,qi,Zv];omega
theorem lP(ds:N_)(n)(h:n<=Y ds):val (ds.take (Jr ds n))=val (ds.take n):=by induction n with |zero=>rfl |succ n b=>unfold Jr;split;{rename_i a;rw[b om,FO _ n om,fA,a];rfl};rfl
theorem oG(h:lC ds)(k:Nat)(a:Y ds=k+1):10000^k<=val ds:=by
 have b:=h k a;have e:=FO ds k om;rw[zP om]at e;rw[e,fA,zX,Qw om];simp only[val,Ql,qV];have:1<=ds.getD k 0:=om;calc 10000^k=10000^k*1:=by rw[jM]
  _<=10000^k*ds.getD k 0:=Zr _ this
  _<=_:=Nat.le_add_left _ _
theorem gK{a}(h:a<=b):10000^a<=10000^b:=ZD dc h
theorem pow_pos(a):0<10000^a:=At dc
theorem iN(h:lC ds){k:Nat}(a:val ds<10000^k):Y ds<=k:=by cases hl:Y ds with |zero=>omega |succ j=>have:=oG h j hl;(have:¬k<=j:=λa=>by have:=gK a;omega);omega
theorem C8(h:lC ds):val ds=0↔ds= []:=by constructor;{intro a;cases hl:Y ds with |zero=>grind |succ j=>have:=oG h j hl;grind};rintro rfl;rfl
theorem mu{b}(d:fT a)(hb:fT b)(c:Y a=Y b)(i:val a=val b):a=b:=by induction a generalizing b with |nil=>grind |cons e f j=>cases b with |nil=>grind |cons g h=>simp only[val]at i;have i:=d.cons.1;have i:=hb.cons.1;have i:e=g:=om;have e:val f=val h:=om;rw[i,j d.cons.2 hb.cons.2 g_ e]
theorem iP{b:N_}(c:fT a)(hb:lC b)(h:Y a<Y b):val a<val b:=by have d:=gd c;cases hl:Y b with |zero=>omega |succ j=>have:=oG hb j hl;have:=gK (show Y a<=j by omega);omega
theorem EO{b:N_}(c:fT a)(hb:fT b)(e:lC a)(f:lC b)(d:val a=val b):a=b:=by rcases Gd (Y a) (Y b) with h|h|h;{have:=iP c f h;omega};{exact mu c hb h d};have:=iP hb e h;omega
theorem fy(ds)(k)(h:k<=Y ds):val ds=val (ds.take k)+10000^k*val (ds.drop k):=by have:=fA (ds.take k)<|ds.drop k;simp_all
theorem fI(ds:N_)(k)(h:k<Y ds):val (ds.take (k+1))=val (ds.take k)+10000^k*ds.getD k 0:=by rw[FO ds k h,fA,zX,Qw om];simp[val]
theorem gJ(ds:N_)(k)(h:k<Y ds):val (ds.drop k)=ds.getD k 0+10000*val (ds.drop (k+1)):=by rw[jt h,val,zk,zg h,qB]
theorem fF(ds:N_)(k):val (ds.take (k+1))=val (ds.take k)+10000^k*ds.getD k 0:=by by_cases h:k<Y ds;{exact fI _ k h};rw[zP om,zP om,zk,qL om];simp
theorem lW{b}(d:fT a)(f:Y a=Y b)(k)(e:k<Y a)(c:a.drop (k+1)=b.drop (k+1))(g:a.getD k 0<b.getD k 0):val a<val b:=by rw[fy a k om,fy b k om,gJ a k e,gJ b k om,c];have c:=gd<|d.take k;rw[zX,Qw om]at c;generalize val (b.drop<|k+1)=x;generalize 10000^k=p at *;have c:p*(a.getD k 0+10000*x+1)<=p*(b.getD k 0+10000*x):=Zr _ om;grind
def Row (w:H)(b off:Nat)(ds:N_):Prop:=
 ∀i,i<Y ds->AT w ⟨b,off+i,O⟩=E (i_ ((ds.getD i 0:Nat):Int))
def kS (w:H)(v:Value)(ds:N_):Prop:=
 ∃ao cap,v=V ao (Y ds) cap/\Y ds<=cap/\(ds≠ []->∃b off,ao=E (Xd b off O)/\b<IS (IT w)/\Row w b off ds)
def fj (w:H)(v:Value)(n:Nat):Prop:=∃ds,kS w v ds/\fT ds/\lC ds/\val ds=n
theorem Row.J{B:Nat}(h:Row w b off ds)(hb:Below B w w')(a:b<B):Row w' b off ds:=λi c=>(hb.cell a).trans (h i c)
theorem kS.J(h:kS w v ds)(hb:Below w.heap.size w w'):kS w' v ds:=by have⟨a,b,d,c,e⟩:=h;refine⟨a,b,d,c,λd=>?_⟩;have⟨b,off,c,a,f⟩:=e d;exact⟨b,_,c,zK a hb.size,f.J hb a⟩
theorem fj.J(h:fj w v n)(hb:Below w.heap.size w w'):fj w' v n:=by have⟨a,b,c⟩:=h;exact⟨a,b.J hb,c⟩
theorem fj.alloc(h:fj w v n)(o):fj (AI w o) v n:=h.J ((qf _ _).alloc (zh _) o)
theorem fj.drew(h:fj w v n):fj w.drew v n:=h
theorem fj.zero(w)(a:A_)(cap):fj w (V a 0 cap) 0:=⟨_,⟨a,_,rfl,qo _,λh=>absurd rfl h⟩,(λ_ h=>g_),lC.nil,rfl⟩
theorem Row.take(h:Row w b off ds)(n):Row w b off (ds.take n):=by intro i a;rw[zX]at a;rw[h i om,zk,zk,jG,zQ om]
theorem Row.drop(h:Row w b off ds)(n):Row w b (off+n) (ds.drop n):=by intro i a;rw[Za]at a;rw[show off+n+i=off+(n+i)by omega,h _ om,zk,zk,Jo]
theorem Row.append{xs ys}(h:Row w b off xs)(k:Row w b (off+Y xs) ys):Row w b off (xs++ys):=by intro i a;rw[zM]at a;by_cases a:i<Y xs;{rw[h i a,zk,zk,zS a]};have:=k (i-Y xs) om;grind
theorem kS.mk(h:Row w b off ds)(hb:b<IS (IT w))(a:Y ds<=cap):kS w (V (E (Xd b off O)) (Y ds) cap) ds:=⟨_,cap,rfl,a,λ_=>⟨b,off,rfl,hb,h⟩⟩
theorem iW{base e:Nat}(h:w.ownsRow base e 1 (V (E (Xd g 0 O)) n cap) n (ds.map λd:Nat=>i_ (d:Int)))(a:Y ds=n):Row w g 0 ds:=by intro i a;have:=h.cellAt i om;grind
def fW (d:Nat):Value:=i_ (d:Int)
theorem gz{base e:Nat}(h:w.ownsRow base e 1 v n (ds.map fW))(i:v≠V_):
 ∃g cap,v=V (E (Xd g 0 O)) n cap/\n<=cap/\base<=g/\g<IS (IT w)/\Row w g 0 ds/\∀m,uy w g 0 m:=by have a:=h;obtain⟨b,c|⟨g,cap,_,j,d,_,f,_,_,_⟩⟩:=h;{grind};subst j;rw[zm,jM]at b;exact⟨g,_,rfl,f,d,(I7 a).2,iW a b,λm=>Pp a m⟩
theorem nX(ds:N_):∀u∈ds.map fW,u.oneCell'=true:=by intro u a;obtain⟨_,_,rfl⟩:=qP.1 a;rfl
theorem nR(h:Row w b off ds):∀j u,(ds.map fW)[j]? =E u->AT w ((⟨b,off,O⟩:Addr).add j)=E u:=by intro j u a;rw[zR]at a;cases hd:ds[j]? with |none=>grind |some d=>rw[hd,qY,qN]at a;have:=h j<|(zo.1 hd).1;rw[zk,hd,qB]at this;subst a;by_cases a:j=0;{subst a;simpa[Addr.add,fW]using this};simpa[Addr.add,fW,a]using this
def Kind (w:H)(g:Nat):Prop:=∃c fr,w.heap[g]? =E (cl c 3 fr)
theorem Kind.J{B:Nat}(h:Kind w g)(hb:Below B w w')(b:g<B):Kind w' g:=by obtain⟨c,a,h⟩:=h;exact⟨c,a,(hb.block g b).trans h⟩
theorem Kind.setCell(h:Kind w g)(a:Addr)(x:Value):Kind (AS w a x) g:=by obtain⟨c,d,h⟩:=h;by_cases b:g=a.block;{subst b;unfold Kind World.setCell;grind};exact⟨c,d,(qC w a x g b).trans h⟩
def Sl (w:H)(v:Value)(ds:N_):Prop:=
 (v=V_/\ds= [])\/∃g off cap,v=V (E (Xd g off O)) (Y ds) cap/\Y ds<=cap/\g<IS (IT w)/\Row w g off ds/\Kind w g
def NV (w:H)(v:Value)(n:Nat):Prop:=∃ds,Sl w v ds/\fT ds/\lC ds/\val ds=n
theorem Sl.J(h:Sl w v ds)(hb:b_ w w'):Sl w' v ds:=by rcases h with h|⟨g,off,b,c,d,a,e,f⟩;{exact Or.inl h};exact Or.inr ⟨g,_,b,c,d,zK a hb.size,e.J hb a,f.J hb a⟩
theorem NV.J(h:NV w v n)(hb:b_ w w'):NV w' v n:=by have⟨a,b,c⟩:=h;exact⟨a,b.J hb,c⟩
theorem Sl.alloc(h:Sl w v ds)(o:Obj):Sl (AI w o) v ds:=h.J ((qf _ _).alloc (zh _) _)
theorem NV.alloc(h:NV w v n)(o:Obj):NV (AI w o) v n:=h.J ((qf _ _).alloc (zh _) _)
theorem Sl.drew(h:Sl w v ds):Sl w.drew v ds:=h
theorem NV.drew(h:NV w v n):NV w.drew v n:=h
theorem NV.drewN(h:NV w v n)(q:Nat):NV (w.drewN q) v n:=h
theorem Sl.shape(h:Sl w v ds):∃a cap,v=V a (Y ds) cap/\Y ds<=cap:=by rcases h with ⟨rfl,rfl⟩|⟨_,off,cap,rfl,a,_⟩;{simp};grind
theorem Sl.row{a:A_}{l:Nat}(h:Sl w (V a l cap) ds)(d:ds≠ []):∃g off,a=E (Xd g off O)/\g<IS (IT w)/\Row w g off ds:=by rcases h with ⟨h,rfl⟩|⟨g,off,_,a,_,b,c,_⟩;{grind};grind
theorem gq(w:H)(v:Value)(ds:N_)(a:Sl w v ds)(hm:Y ds<=140737488355328):
 C_ 84 #[v] w λe w'=>(∃x,e=Xa x/\Sl w' x (ds.take (Jr ds (Y ds))))/\w'=w:=by rcases a with ⟨rfl,rfl⟩|⟨b,off,a,rfl,_,i,g,m⟩;{go_enter func84,ntmps84;go_wp2;go_loop [3] (λv=>v=i_ 0) (λv=>(intOf v).toNat);(case atStart=>rfl);case round=>subst hrel;go_wp2;go_ret;exact⟨⟨_,rfl,Or.inl ⟨rfl,rfl⟩⟩,rfl⟩};go_enter func84,ntmps84;go_wp2;go_loop [3] (λv=>∃k:Nat,k<=Y ds/\Hid (Jr ds (Y ds)=Jr ds k)/\v=i_ (k:Nat)) (λv=>(intOf v).toNat);(case atStart=>exact⟨_,zh _,rfl,rfl⟩);case round=>obtain⟨k,l,d,rfl⟩:=hrel;(have c:∀j,Jr ds (Y ds)=j->j=k->Sl w (V (E<|Xd b off O) k a) (ds.take<|Jr ds (Y ds)):=by intro j f h;subst h;rw[f];exact Or.inr ⟨b,off,a,by grind,by grind,i,g.take _,m⟩);have b:=zf c;clear c;cases k with |zero=>go_wp2;go_ret;exact⟨⟨_,rfl,b.out 0 d.out rfl⟩,rfl⟩ |succ k=>have f:=g k om;by_cases a:ds.getD k 0=0;{rw[a]at f;have c:Hid _:=a;clear a b;go_wp2;go_round;(case rel=>exact⟨k,om,by rw[Hid,d.out,Jr,zQ c.out],g_⟩);case measure=>simp[intOf]};have h:((ds.getD k 0):Int)≠0:=om;generalize g:((ds.getD k 0:Nat):Int)=x at f h;clear g;have c:Hid (¬ds.getD k 0=0):=a;clear a;go_wp2;go_ret;exact⟨⟨_,rfl,b.out _ (by rw[d.out,Jr,zO c.out]) rfl⟩,rfl⟩
theorem mL(h:Sl w v (ds.take (Jr ds (Y ds))))(a:fT ds)(b:val ds=n):NV w v n:=⟨_,h,a.take _,MZ _ _<|zh _,by rw[lP _ _<|zh _,zP<|zh _,b]⟩
theorem fR(w:H)(u v:Value)(m n K:Nat)(U:NV w u m)(W:NV w v n)(hm:m<10000^K)(F:n<10000^K)(P:K<=1073741824):
 C_ 54 #[u,v] w λe w'=>e=Xa (i_ (Jy m n))/\∃q,w'=w.drewN q:=by obtain⟨a,t,r,y,rfl⟩:=U;obtain⟨b,x,s,z,rfl⟩:=W;have hl:=iN y hm;have T:=iN z F;obtain⟨_,_,rfl,_⟩:=t.shape;obtain⟨_,_,rfl,M⟩:=x.shape;rcases Gd (Y a) (Y b) with f|f|f;{have d:Hid _:=B9<|iP r z f;have N:(Y a)<(Y b:Int):=om;go_enter func54,ntmps54;go_wp2;go_ret;exact⟨sZ d.out.symm,0,rfl⟩};{have c:Hid _:=f;clear hm F y z;rw[<-f];rw[<-f]at M T;go_enter func54,ntmps54;go_wp2;go_loopw [5] (λA wr=>∃k:Nat,k<=Y a/\A=i_ ((k:Int)-1)/\Hid (a.drop k=b.drop k)/\∃q,wr=w.drewN q) (λA _=>(intOf A+1).toNat);(case atStart=>exact⟨_,zh _,g_,g_,0,rfl⟩);case round=>obtain⟨k,D,rfl,p,q,rfl⟩:=hrel;cases k with |zero=>go_wp2;go_ret;refine⟨sZ ?_,q,rfl⟩;rw[F7<|by rw[<-Q2 (l:=a),p.out,Q2]] |succ k=>obtain⟨_,off,rfl,_,I⟩:=t.row g_;obtain⟨_,_,rfl,_,J⟩:=x.row g_;have R:k<Y b:=om;have Z:=I k om;have a0:=J k R;have a1:=r.get k;have a2:=s.get k;have a3:(0)<=(k:Int):=om;have a4:((k:Int)).toNat=k:=om;have a5:(k)<(Y a:Int):=om;have i:Hid _:=λh=>lW r c.out k om p.out h;have j:Hid _:=λh=>lW s c.out.symm k om p.out.symm h;have o:Hid _:=λh=>Tx c.out k om p.out h;clear I J t x;generalize a.getD k 0=B at *;generalize b.getD k 0=C at *;rcases Gd B C with g|g|g;{have d:Hid _:=B9<|i.out g;have X:(B)<(C:Int):=om;clear i j o;go_wp2;go_region;(all_goals go_wp2);go_ret;exact⟨sZ d.out.symm,_,rfl⟩};{have L:Hid _:=o.out g;subst g;clear i j o;go_wp2;go_region;(all_goals go_wp2);go_region;(all_goals go_wp2);go_roundw;(case rel=>grind);case measure=>simp[intOf]};have d:Hid _:=Cb<|j.out g;have X:(C)<(B:Int):=om;clear i j o;go_wp2;go_region;(all_goals go_wp2);go_region;(all_goals go_wp2);go_ret;exact⟨sZ d.out.symm,_,rfl⟩};have d:Hid _:=Cb<|iP s y f;have N:(Y b)<(Y a:Int):=om;go_enter func54,ntmps54;go_wp2;go_ret;exact⟨sZ d.out.symm,0,rfl⟩
