import Derived.Test.YthnopjedhcapmaaGreatDoorMvr1Z0
import Derived.Test.YthnopjedhcapmaaGreatDoorMvr1ZS
open Option renaming none->O,some->E
open Go.Value renaming slice->V,bool->G,string->gS,tuple->tp,int->it
open Go.Obj renaming cells->cl
open Go renaming World->H
open Go.Proofs.Tryz renaming prog->pg
open Go.Proofs.Tryz
open Go.Ending renaming returned->Xa
open Go.IntKind renaming i64->Xb
open Go.Addr renaming mk->Xd
set_option linter.unusedSimpArgs false
set_option linter.unusedVariables false
set_option maxHeartbeats 2000000
set_option maxRecDepth 100000
namespace Go.Proofs.YthnopjedhcapmaaGreatDoor
section
variable {B D Z b base c cap d e f g high j k l lead m n off q r u z:Nat}{C:H->Prop}{L a ds es:N_}{P:Program}{Q:Exit->Act->H->Prop}{W w w':H}{Y:Nat->W_->H->Prop}{h i:Code}{o:Oper}{ops:Array Oper}{p:Addr}{rest:List Oper}{v:Value}
def val:N_->Nat
 |[]=>0
 |d::ds=>d+4294967296*val ds
def Dig (ds:N_):Prop:=∀d∈ds,d<4294967296
def Top (ds:N_):Prop:=∀k,ds.length=k+1->ds.getD k 0≠0
theorem Dig.cons(h:Dig (d::ds)):d<4294967296/\Dig ds:=
 ⟨h d (qA ..),fun x a=>h x (qq _ a)⟩
theorem Dig.get(h:Dig ds)(i:Nat):ds.getD i 0<4294967296:=by
 by_cases a:i<ds.length
 ·rw[zk,zg a,qB];exact h _ (zJ a)
 ·rw[zk,qL om];simp
theorem Dig.set(h:Dig ds)(i x:Nat)(a:x<4294967296):Dig (ds.set i x):=by
 intro d a;rcases zcp a with a|a
 ·exact h d a
 ·omega
theorem Dig.take(h:Dig ds)(n:Nat):Dig (ds.take n):=fun d a=>h d (ZY a)
theorem Dig.drop(h:Dig ds)(n:Nat):Dig (ds.drop n):=fun d a=>h d (zak a)
theorem Dig.append{b:N_}(h:Dig a)(k:Dig b):Dig (a++b):=fun d c=>by
 rcases zU.1 c with c|c
 ·exact h d c
 ·exact k d c
theorem val_append(a b:N_):val (a++b)=val a+4294967296^a.length*val b:=by
 induction a with
 |nil=>simp[val]
 |cons d c d=>
  simp only[ZZ,val,qi,d,Zv,Zs];rw[Z5 (4294967296^c.length) 4294967296,Zt];omega
theorem val_lt(h:Dig ds):val ds<4294967296^ds.length:=by
 induction ds with
 |nil=>simp[val]
 |cons d ds a=>
  have b:=h.cons.1;have b:=a h.cons.2;simp only[val,qi,Zv];generalize 4294967296^ds.length=p at *;omega
theorem val_replicate(n:Nat):val (List.replicate n 0)=0:=by
 induction n with
 |zero=>rfl
 |succ n a=>simp[List.replicate_succ,val,a]
def Jr (ds:N_):Nat->Nat
 |0=>0
 |k+1=>if ds.getD k 0=0 then Jr ds k else k+1
theorem zgu(ds:N_)(n:Nat):Jr ds n<=n:=by
 induction n with
 |zero=>exact zh _
 |succ n a=>unfold Jr;split<;>omega
theorem zbo(ds:N_)(k:Nat)(h:k<ds.length):ds.take (k+1)=ds.take k ++ [ds.getD k 0]:=by
 rw[ZQ h,zk,zg h,qB]
theorem val_trimL(ds:N_)(n:Nat)(h:n<=ds.length):val (ds.take (Jr ds n))=val (ds.take n):=by
 induction n with
 |zero=>rfl
 |succ n b=>
  unfold Jr;split
  ·rename_i a
   rw[b om,zbo ds n om,val_append,a];simp[val]
  ·rfl
theorem zg8(ds:N_)(n:Nat)(h:n<=ds.length):Top (ds.take (Jr ds n)):=by
 intro k b;have c:=zgu ds n;rw[zX]at b;have a:Jr ds n=k+1:=om;have:ds.getD k 0≠0:=by
  clear b c;induction n with
  |zero=>simp[Jr]at a
  |succ n e=>
   unfold Jr at a;split at a
   ·exact e om a
   ·rename_i d
    have:n=k:=om;subst this;exact d
 rw[zk,jG,zQ om,<-zk];exact this
theorem Top.nil:Top []:=fun _ h=>by simp at h
theorem Top.le(h:Top ds)(k:Nat)(a:ds.length=k+1):4294967296^k<=val ds:=by
 have b:=h k a;have e:=zbo ds k om;rw[zP om]at e;rw[e,val_append,zX,Qw om];simp only[val,Ql,qV];have:1<=ds.getD k 0:=om;calc 4294967296^k=4294967296^k*1:=by rw[jM]
  _<=4294967296^k*ds.getD k 0:=Zr _ this
  _<=_:=Nat.le_add_left _ _
theorem pow_mono{a:Nat}(h:a<=b):4294967296^a<=4294967296^b:=ZD dc h
theorem pow_pos(a:Nat):0<4294967296^a:=zbb dc
theorem Top.len(h:Top ds)(a:val ds<4294967296^k):ds.length<=k:=by
 cases hl:ds.length with
 |zero=>omega
 |succ j=>
  have:=h.le j hl;have:¬k<=j:=fun a=>by have:=pow_mono a;omega
  omega
theorem Top.zero(h:Top ds):val ds=0↔ds= []:=by
 constructor
 ·intro a;cases hl:ds.length with
  |zero=>exact Qk.1 hl
  |succ j=>have:=h.le j hl;have:=pow_pos j;omega
 ·rintro rfl;rfl
theorem Top.lt_of_len{b:N_}(c:Dig a)(hb:Top b)(h:a.length<b.length):val a<val b:=by
 have d:=val_lt c;cases hl:b.length with
 |zero=>omega
 |succ j=>
  have:=hb.le j hl;have:=pow_mono (show a.length<=j by omega);omega
theorem val_take_drop(ds:N_)(k:Nat)(h:k<=ds.length):val ds=val (ds.take k)+4294967296^k*val (ds.drop k):=by
 have:=val_append (ds.take k) (ds.drop k);rw[zbp,zX,Qw h]at this;exact this
theorem val_take_succ(ds:N_)(k:Nat)(h:k<ds.length):val (ds.take (k+1))=val (ds.take k)+4294967296^k*ds.getD k 0:=by
 rw[zbo ds k h,val_append,zX,Qw om];simp[val]
theorem val_drop(ds:N_)(k:Nat)(h:k<ds.length):val (ds.drop k)=ds.getD k 0+4294967296*val (ds.drop (k+1)):=by
 rw[jt h,val,zk,zg h,qB]
theorem zb2(ds:N_)(i x:Nat)(h:i<ds.length):(ds.set i x).getD i 0=x:=by
 rw[zk,jZ h,qB]
theorem zjO(ds:N_)(i j x:Nat)(h:i≠j):(ds.set i x).getD j 0=ds.getD j 0:=by
 rw[zk,zal h,<-zk]
theorem zeR(ds:N_)(k x:Nat)(h:k<ds.length):(ds.set k x).take (k+1)=ds.take k ++ [x]:=by
 rw[zbo _ k (by simpa using h),zb2 ds k x h,zd8 (zh _)]
theorem QH(ds:N_)(k x:Nat):(ds.set k x).drop (k+1)=ds.drop (k+1):=by
 rw[List.drop_set_of_lt om]
theorem zat{b:N_}(h:a.drop k=b.drop k):a.drop (k+1)=b.drop (k+1):=by
 rw[<-Jn,<-Jn,h]
theorem zbq{b:N_}(h:a.drop k=b.drop k):a.getD k 0=b.getD k 0:=by
 have c:(a.drop k)[0]? =a[k]?:=by rw[Jo,qV]
 have d:(b.drop k)[0]? =b[k]?:=by rw[Jo,qV]
 rw[zk,zk,<-c,<-d,h]
theorem val_take_any(ds:N_)(k:Nat):val (ds.take (k+1))=val (ds.take k)+4294967296^k*ds.getD k 0:=by
 by_cases h:k<ds.length
 ·exact val_take_succ ds k h
 ·rw[zP om,zP om,zk,qL om];simp
theorem val_lay(ds:N_)(k x:Nat)(h:k<ds.length):val ((ds.set k (x%4294967296)).take (k+1))+4294967296^(k+1)*(x/4294967296)=val (ds.take k)+4294967296^k*x:=by
 rw[zeR ds k _ h,val_append,zX,Qw om,Zv,Zt];simp only[val,Ql,qV];rw[zb3,<-Zs,Nat.mod_add_div]
theorem add_step(b:k<a.length)(hi:val (a.take k)+4294967296^k*c=val (ds.take k)+val (es.take k)):
 val ((a.set k ((c+ds.getD k 0+es.getD k 0)%4294967296)).take (k+1))+4294967296^(k+1)*((c+ds.getD k 0+es.getD k 0)/4294967296)=val (ds.take (k+1))+val (es.take (k+1)):=by
 rw[val_lay a k _ b,val_take_any ds k,val_take_any es k,Zs,Zs];omega
theorem zp9(d:k<=a.length)(e:a.length=ds.length)(c:es.length<=k)(b:a.drop k=ds.drop k)(hi:val (a.take k)+4294967296^k*0=val (ds.take k)+val (es.take k)):
 val a+4294967296^ds.length*0=val ds+val es:=by
 rw[zP c]at hi;rw[val_take_drop a k d,val_take_drop ds k om,b];omega
theorem getD_none(es:N_)(k:Nat)(h:es.length<=k):es.getD k 0=0:=by
 rw[zk,qL h];rfl
theorem zlo(f y:Nat)(a:f<4294967296)(b:y<4294967296):0<=(f:Int)*(y:Int)/\(f:Int)*(y:Int)<=18446744065119617025:=by
 have a:f*y<=4294967295*4294967295:=Z7 om om;omega
theorem zkj{c' bw':Nat}(d:k<a.length)(hi:val (a.take k)+f*val (es.take k)=val (ds.take k)+4294967296^k*(c+b))(e:c+f*es.getD k 0+b+z=ds.getD k 0+4294967296*(c'+bw')):
 val ((a.set k z).take (k+1))+f*val (es.take (k+1))=val (ds.take (k+1))+4294967296^(k+1)*(c'+bw'):=by
 rw[zeR a k _ d,val_append,zX,Qw om,val_take_any ds k,val_take_any es k,Zv,Zt];simp only[val,Ql,qV];generalize val (a.take k)=A at *;generalize val (ds.take k)=D at *;generalize val (es.take k)=a at *;generalize 4294967296^k=p at *;generalize ds.getD k 0=x at *;generalize es.getD k 0=y at *;have a:p*(c+f*y+b+z)=p*(x+4294967296*(c'+bw')):=by rw[e]
 rw[Zs p x,Zs,Zs,Zs]at a;rw[Zs p c b]at hi;rw[Zs f,jq f p y];omega
theorem zoh(d:k<=a.length)(e:a.length=ds.length)(c:es.length<=k)(b:a.drop k=ds.drop k)(hi:val (a.take k)+f*val (es.take k)=val (ds.take k)+4294967296^k*(0+0)):
 val a+f*val es=val ds+4294967296^ds.length*0:=by
 rw[zP c]at hi;rw[val_take_drop a k d,val_take_drop ds k om,b];omega
def Jy (a b:Nat):Int:=if a<b then -1 else if b<a then 1 else 0
theorem zcc{a:Nat}(h:a<b):Jy a b=-1:=zQ h
theorem zcd{a:Nat}(h:b<a):Jy a b=1:=by unfold Jy;rw[zO om,zQ h]
theorem zec{a:Nat}(h:a=b):Jy a b=0:=by unfold Jy;rw[zO om,zO om]
theorem val_lt_at{b:N_}(d:Dig a)(f:a.length=b.length)(k:Nat)(e:k<a.length)(c:a.drop (k+1)=b.drop (k+1))(g:a.getD k 0<b.getD k 0):val a<val b:=by
 rw[val_take_drop a k om,val_take_drop b k om,val_drop a k e,val_drop b k om,c];have c:=val_lt (d.take k);rw[zX,Qw om]at c;generalize val (b.drop (k+1))=x;generalize 4294967296^k=p at *;have c:p*(a.getD k 0+4294967296*x+1)<=p*(b.getD k 0+4294967296*x):=Zr _ om;rw[Zs,jM]at c;omega
theorem zng{b:N_}(f:a.length=b.length)(k:Nat)(d:k<a.length)(e:a.drop (k+1)=b.drop (k+1))(c:a.getD k 0=b.getD k 0):a.drop k=b.drop k:=by
 rw[jt d,jt (show k<b.length by omega),e];rw[zk,zk,zg d,zg (show k<b.length by omega),qB,qB]at c;rw[c]
open Go.RowKit
def Row (w:H)(b off:Nat)(ds:N_):Prop:=
 ∀i,i<ds.length->w.cell? ⟨b,off+i,O⟩=E (it .u32 ((ds.getD i 0:Nat):Int))
def zcj (w:H)(b off n:Nat):Prop:=∀i,i<n->w.frozen? ⟨b,off+i,O⟩=false
def U32s (w:H)(v:Value)(ds:N_):Prop:=
 ∃ao cap,v=V ao ds.length cap/\ds.length<=cap/\(ds≠ []->∃b off,ao=E (Xd b off O)/\b<w.heap.size/\Row w b off ds)
def NatV (w:H)(v:Value)(n:Nat):Prop:=∃ds,U32s w v ds/\Dig ds/\Top ds/\val ds=n
theorem Row.below(h:Row w b off ds)(hb:Below B w w')(a:b<B):Row w' b off ds:=
 fun i c=>(hb.cell a).trans (h i c)
theorem U32s.below(h:U32s w v ds)(hb:Below w.heap.size w w'):U32s w' v ds:=by
 have⟨a,b,d,c,e⟩:=h;refine⟨a,b,d,c,fun d=>?_⟩;have⟨b,off,c,a,f⟩:=e d;exact⟨b,off,c,zK a hb.size,f.below hb a⟩
theorem NatV.below(h:NatV w v n)(hb:Below w.heap.size w w'):NatV w' v n:=by
 have⟨a,b,c⟩:=h;exact⟨a,b.below hb,c⟩
theorem NatV.alloc(h:NatV w v n)(o:Obj):NatV (w.alloc o) v n:=
 h.below ((qf _ _).alloc (zh _) o)
theorem NatV.drew(h:NatV w v n):NatV w.drew v n:=h
theorem NatV.zero(w:H)(a:A_)(cap:Nat):NatV w (V a 0 cap) 0:=
 ⟨[],⟨a,cap,rfl,qo _,fun h=>absurd rfl h⟩,(fun _ h=>by simp at h),Top.nil,rfl⟩
abbrev Xo:=@NatV.zero
structure Upd (b off n:Nat)(w w':H):Prop where
 os:w'.os=w.os
 tape:w'.tape=w.tape
 output:w'.output=w.output
 size:w'.heap.size=w.heap.size
 block:∀k,k≠b->w'.heap[k]? =w.heap[k]?
 cell:∀j,(j<off\/off+n<=j)->w'.cell? (Xd b j O)=w.cell? (Xd b j O)
 frozen:∀j,w'.frozen? (Xd b j O)=w.frozen? (Xd b j O)
theorem Upd.refl(b off n:Nat)(w:H):Upd b off n w w:=⟨rfl,rfl,rfl,rfl,fun _ _=>rfl,fun _ _=>rfl,fun _=>rfl⟩
abbrev Xw:=@Upd.refl
theorem Upd.trans{u v:H}(h:Upd b off n u v)(k:Upd b off n v w):Upd b off n u w:=
 ⟨k.os.trans h.os,k.tape.trans h.tape,k.output.trans h.output,k.size.trans h.size,fun i a=>(k.block i a).trans (h.block i a),
  fun j a=>(k.cell j a).trans (h.cell j a),fun j=>(k.frozen j).trans (h.frozen j)⟩
theorem Upd.setCell{u:H}(h:Upd b off n u w)(i:Nat)(hi:i<n)(x:Value):Upd b off n u (w.setCell ⟨b,off+i,O⟩ x):=
 h.trans ⟨rfl,rfl,rfl,sp,fun k a=>qC _ _ _ _ a,
  fun j a=>zA _ _ _ _ (by intro a;injection a with _ a;omega),fun j=>sp⟩
theorem Upd.below(h:Upd b off n w w')(a:B<=b):Below B w w':=
 ⟨h.os,h.tape,h.output,jm h.size.symm,fun k a=>h.block k om⟩
theorem Upd.other(h:Upd b off n w w'){o:Nat}(a:c≠b)(e:Row w c o ds):Row w' c o ds:=
 fun i d=>(Zj (h.block c a)).trans (e i d)
theorem Upd.free(h:Upd b off n w w'){o:Nat}(a:zcj w b o m):zcj w' b o m:=fun i c=>(h.frozen _).trans (a i c)
theorem Row.setCell(h:Row w b off ds)(i x:Nat)(hi:i<ds.length):
 Row (w.setCell ⟨b,off+i,O⟩ (it .u32 (x:Int))) b off (ds.set i x):=by
 intro j c;rw[qX]at c;by_cases a:i=j
 ·subst a;rw[zN _ _ _ (h i hi),zb2 ds i x hi]
 ·rw[zA _ _ _ _ (by intro d;injection d with _ d;omega),zjO ds i j x a];exact h j c
theorem Row.take(h:Row w b off ds)(n:Nat):Row w b off (ds.take n):=by
 intro i a;rw[zX]at a;rw[h i om,zk,zk,jG,zQ om]
theorem Row.drop(h:Row w b off ds)(n:Nat):Row w b (off+n) (ds.drop n):=by
 intro i a;rw[Za]at a;rw[show off+n+i=off+(n+i)by omega,h (n+i) om,zk,zk,Jo]
theorem Row.append{xs ys:N_}(h:Row w b off xs)(k:Row w b (off+xs.length) ys):Row w b off (xs++ys):=by
 intro i a;rw[zM]at a;by_cases a:i<xs.length
 ·rw[h i a,zk,zk,zS a]
 ·have:=k (i-xs.length) om;rw[show off+xs.length+(i-xs.length)=off+i by omega]at this;rw[this,zk,zk,zG om]
theorem block_of_row(h:Row w b off ds)(c:ds≠ []):b<w.heap.size:=by
 exact zw (h 0 (ZC.2 c))
theorem U32s.mk(h:Row w b off ds)(hb:b<w.heap.size)(a:ds.length<=cap):U32s w (V (E (Xd b off O)) ds.length cap) ds:=
 ⟨_,cap,rfl,a,fun _=>⟨b,off,rfl,hb,h⟩⟩
theorem natV_trim(h:Row w b off ds)(a:Dig ds)(hb:b<w.heap.size)(d:ds.length=n)(c:n<=cap):
 NatV w (V (E (Xd b off O)) (Jr ds n) cap) (val ds):=by
 have c:=zgu ds n;have c:(ds.take (Jr ds n)).length=Jr ds n:=by rw[zX];omega
 refine⟨ds.take (Jr ds n),⟨_,cap,by rw[c],om,fun _=>⟨b,off,rfl,hb,h.take _⟩⟩,a.take _,zg8 ds n om,?_⟩;rw[val_trimL ds n om,zP om]
def U32b (w:H)(b:Nat)(v:Value)(ds:N_):Prop:=
 ∃ao cap,v=V ao ds.length cap/\ds.length<=cap/\(ds≠ []->∃b' off,ao=E (Xd b' off O)/\b'<w.heap.size/\b'≠b/\Row w b' off ds)
theorem U32s.away(h:U32s w v ds)(hb:Below w.heap.size w w')(b:Nat)(a:w.heap.size<=b):U32b w' b v ds:=by
 have⟨a,c,e,d,f⟩:=h;refine⟨a,c,e,d,fun e=>?_⟩;have⟨c,off,d,a,g⟩:=f e;exact⟨c,off,d,zK a hb.size,om,g.below hb a⟩
theorem U32b.upd(h:U32b w b v ds)(c:Upd b off n w w'):U32b w' b v ds:=by
 have⟨a,d,f,e,i⟩:=h;refine⟨a,d,f,e,fun g=>?_⟩;have⟨d,off,e,f,a,j⟩:=i g;exact⟨d,off,e,by rw[c.size];exact f,a,c.other a j⟩
theorem znh{w1:H}(hb:Below W.heap.size W w1):(∀b o,b<W.heap.size->w1.cell? (Xd b o O)=W.cell? (Xd b o O))/\(∀b o,b<W.heap.size->w1.frozen? (Xd b o O)=W.frozen? (Xd b o O)):=
 ⟨fun b o h=>hb.cell h,fun b o h=>hb.frozen h⟩
theorem zf{p:Prop}(h:p):Hid p:=h
theorem zg9{p:Prop}(h:Hid p):p:=h
theorem zaQ{k:IntKind}{a b:Int}(h:a=b):Ending.returned (it k a)=Xa (it k b):=by rw[h]
theorem zlp{a b:Bool}(h:a=b):Ending.returned (G a)=Xa (G b):=by rw[h]
theorem zfD{a:A_}(h:m=n):Ending.returned (V a m c)=Xa (V a n c):=by rw[h]
def lenOf:Value->Nat|V _ k _=>k|_=>0
theorem zga(x d:Nat)(b:x<4294967296)(a:d<4294967296):bits .or .u64 ((x:Int)*4294967296) (d:Int)=((d+4294967296*x:Nat):Int):=by
 have e:(x*4294967296)=((x*4294967296:Nat):Int):=om;rw[e,u64_or_nat _ _ om om,nat_join 32 (x*4294967296) d om om];omega
theorem JR(w:H)(v:Value)(h:NatV w v 0):
 C_ 38 #[v] w fun e w'=>e=Xa (G true)/\w'=w:=by
 obtain⟨_,⟨_,_,rfl,_,f⟩,c,a,b⟩:=h;have d:=a.zero.1 b;subst d;go_enter func38,ntmps38
 go_wp2;go_ret;exact⟨rfl,rfl⟩
theorem jW(w:H)(v:Value)(n:Nat)(h:NatV w v n)(c:n≠0):
 C_ 38 #[v] w fun e w'=>e=Xa (G false)/\w'=w:=by
 obtain⟨a,⟨_,_,rfl,_,j⟩,f,k,d⟩:=h;have b:a≠ []:=fun e=>c (by rw[<-d,e];rfl)
 have g:=ZC.2 b;have i:((a.length:Int) == 0)=false:=ZN.2 om;generalize a.length=len at g i⊢;go_enter func38,ntmps38
 go_wp2;go_ret;exact⟨rfl,rfl⟩
theorem zha(w:H)(v:Value)(h:NatV w v 1):
 C_ 71 #[v] w fun e w'=>e=Xa (G true)/\w'=w:=by
 obtain⟨d,⟨_,_,rfl,_,b⟩,f,c,a⟩:=h;match d,(c.len (k:=1) (by rw[a];decide)) with
 |[],_=>simp[val]at a
 |[d],_=>
  simp[val]at a;subst a;obtain⟨_,off,rfl,_,a⟩:=b sp;have d:=a 0 sp;simp at d;go_enter func71,ntmps71
  go_wp2;go_ret;exact⟨rfl,rfl⟩
theorem ziv(w:H)(v:Value)(n:Nat)(h:NatV w v n)(a:n≠1):
 C_ 71 #[v] w fun e w'=>e=Xa (G false)/\w'=w:=by
 obtain⟨a,⟨_,_,rfl,_,f⟩,_,_,b⟩:=h;by_cases c:a.length=1
 ·match a,c with
  |[d],_=>
   simp[val]at b;subst b;obtain⟨_,off,rfl,_,c⟩:=f sp;have b:=c 0 sp;simp at b;have c:((d:Int) == 1)=false:=ZN.2 om;generalize d=x at b c;go_enter func71,ntmps71
   go_wp2;go_ret;exact⟨rfl,rfl⟩
 ·have b:((a.length:Int) == 1)=false:=ZN.2 om;generalize a.length=len at b;go_enter func71,ntmps71
  go_wp2;go_ret;exact⟨rfl,rfl⟩
theorem trim_any(w:H)(b off cap n:Nat)(ds:N_)(c:n<=cap)(hm:n<=140737488355328)(d:n<=ds.length)(a:Row w b off ds):
 C_ 135 #[V (E (Xd b off O)) n cap] w fun e w'=>e=Xa (V (E (Xd b off O)) (Jr ds n) cap)/\w'=w:=by
 go_enter func135,ntmps135
 go_wp2;go_loop [0] (fun v=>∃k:Nat,k<=n/\Hid (Jr ds n=Jr ds k)/\v=V (E (Xd b off O)) k cap) lenOf
 case atStart=>exact⟨n,zh _,rfl,rfl⟩
 case round=>
  obtain⟨k,_,c,rfl⟩:=hrel;cases k with
  |zero=>
   go_wp2;go_ret;exact⟨zfD c.out.symm,rfl⟩
  |succ k=>
   have f:=a k om;by_cases d:ds.getD k 0=0
   ·rw[d]at f;have a:Hid _:=d;go_wp2;go_round
    case rel=>exact⟨k,om,by rw[Hid,c.out,Jr,zQ a.out],rfl⟩
    case measure=>simp[lenOf]
   ·have g:((ds.getD k 0:Nat):Int)≠0:=om;generalize h:((ds.getD k 0:Nat):Int)=x at f g;have a:Hid _:=d;go_wp2;go_ret;exact⟨zfD (by rw[c.out,Jr,zO a.out]),rfl⟩
theorem zg7(w:H)(a b:Nat)(c:a<18446744073709551616)(hb:b<18446744073709551616):
 C_ 129 #[it .u64 (a:Nat),it .u64 (b:Nat)] w fun e w'=>e=Xa (it .u64 (Nat.gcd a b:Nat))/\∃n,w'=w.drewN n:=by
 go_enter func129,ntmps129
 go_wp2;go_loopw [0,1] (fun u v wr=>∃x y:Nat,x<18446744073709551616/\y<18446744073709551616/\u=it .u64 x/\v=it .u64 y/\Hid (Nat.gcd x y=Nat.gcd a b)/\∃n,wr=w.drewN n) (fun _ v _=>(intOf v).toNat)
 case atStart=>exact⟨a,b,c,hb,rfl,rfl,rfl,0,rfl⟩
 case round=>
  obtain⟨x,y,_,f,rfl,rfl,d,n,rfl⟩:=hrel;by_cases c:0<y
  ·go_wp2;go_region
   all_goals go_wp2
   go_roundw
   case rel=>exact⟨y,x%y,f,zbr (Z0 _ c) f,rfl,by go_num,by rw[Hid,<-d.out,zcv y (x%y),<-Nat.gcd_rec,zcv],n+1,rfl⟩
   case measure=>have:=Z0 x c;simp[intOf];omega
  ·have:y=0:=om;subst this;go_wp2;go_ret;exact⟨zaQ (by rw[<-d.out,Nat.gcd_zero_right]),n,rfl⟩
theorem zfE(w:H)(v:Value)(n:Nat)(h:NatV w v n)(q:n<18446744073709551616):
 C_ 130 #[v] w fun e w'=>e=Xa (it .u64 (n:Nat))/\w'=w:=by
 obtain⟨a,⟨_,_,rfl,_,r⟩,c,d,b⟩:=h;have C:=d.len (k:=2) (by rw[b];exact q);have A:((min (a.length:Int) 2))=a.length:=om;have f:Hid _:=b;have p:1<=a.length->val (a.drop 1)<4294967296:=by
  intro u;have y:=val_lt (c.drop 1);have j:(a.drop 1).length<=1:=so;have z:=pow_mono j;omega
 clear b d;go_enter func130,ntmps130
 go_wp2;go_loop [3,4] (fun x i=>∃k:Nat,k<=a.length/\i=i_ (k-1)/\x=it .u64 (val (a.drop k):Nat)) (fun _ i=>(intOf i+1).toNat)
 case atStart=>exact⟨a.length,zh _,rfl,by simp[val]⟩
 case round=>
  obtain⟨k,m,rfl,rfl⟩:=hrel;cases k with
  |zero=>
   go_wp2;go_ret;exact⟨zaQ (by rw[f.out]),rfl⟩
  |succ k=>
   have o:val (a.drop (k+1))<4294967296:=by
    cases k with
    |zero=>exact p om
    |succ k=>rw[QP om];decide
   have l:=c.get k;obtain⟨_,off,rfl,_,s⟩:=r (by intro e;simp[e]at m);have B:=s k om;have t:Hid _:=val_drop a k om;generalize a.getD k 0=g at *;generalize val (a.drop (k+1))=x at *;go_wp2;go_round
   case rel=>exact⟨k,om,by go_num,by rw[t.out,zga x g o l]⟩
   case measure=>simp[intOf]
theorem ziX(w:H)(n:Nat)(a:n<18446744073709551616):
 C_ 128 #[it .u64 (n:Nat)] w fun e w'=>∃v,e=Xa v/\NatV w' v n/\Below w.heap.size w w':=by
 have a:Row (w.alloc (Obj.cells #[it IntKind.u32 (n%4294967296),it IntKind.u32 (n/4294967296)] 127)) w.heap.size 0 [n%4294967296,n/4294967296]:=by
  intro i b;match i,b with
  |0,_=>simp
  |1,_=>simp
 go_enter func128,ntmps128
 go_wp2_with fail
 apply(trim_any _ _ 0 2 2 [n%4294967296,n/4294967296] om om sp a).mono;rintro e w' ⟨rfl,rfl⟩;go_wp2;go_ret;refine⟨_,rfl,?_,(qf _ _).alloc (zh _) _⟩;have:=natV_trim (cap:=2) (n:=2) a (by intro d a;simp at a;rcases a with rfl|rfl<;>omega) sp rfl om;have e:val [n%4294967296,n/4294967296]=n:=by simp[val];omega
 rw[e]at this;exact this
theorem zni(w:H)(a b:Nat)(c:a<=140737488355328)(hb:b<=140737488355328):
 C_ 197 #[i_ (a:Nat),i_ (b:Nat)] w fun e w'=>e=Xa (i_ (Jy a b))/\w'=w:=by
 rcases zbl a b with h|h|h
 ·rw[zcc h];go_enter func197,ntmps197
  go_wp2;go_ret;exact⟨rfl,rfl⟩
 ·rw[zec h];subst h;go_enter func197,ntmps197
  go_wp2;go_ret;exact⟨rfl,rfl⟩
 ·rw[zcd h];go_enter func197,ntmps197
  go_wp2;go_ret;exact⟨rfl,rfl⟩
theorem znj(w:H)(a b:Nat)(c:a<4294967296)(hb:b<4294967296):
 C_ 198 #[it .u32 (a:Nat),it .u32 (b:Nat)] w fun e w'=>e=Xa (i_ (Jy a b))/\w'=w:=by
 rcases zbl a b with h|h|h
 ·rw[zcc h];go_enter func198,ntmps198
  go_wp2;go_ret;exact⟨rfl,rfl⟩
 ·rw[zec h];subst h;go_enter func198,ntmps198
  go_wp2;go_ret;exact⟨rfl,rfl⟩
 ·rw[zcd h];go_enter func198,ntmps198
  go_wp2;go_ret;exact⟨rfl,rfl⟩
theorem compare_any(w:H)(u v:Value)(m n K:Nat)(b:NatV w u m)(c:NatV w v n)(hm:m<4294967296^K)(t:n<4294967296^K)(a:K<=1073741824):
 C_ 132 #[u,v] w fun e w'=>e=Xa (i_ (Jy m n))/\∃q,w'=w.drewN q:=by
 obtain⟨a,⟨_,_,rfl,_,z⟩,d,i,rfl⟩:=b;obtain⟨b,⟨_,_,rfl,_,A⟩,f,j,rfl⟩:=c;have c:=i.len hm;have c:=j.len t;by_cases s:a.length=b.length
 ·have c:(a.length != b.length)=false:=by rw[bne_eq_false_iff_eq];omega
  have c:Hid (a.length=b.length):=s;clear hm t i j s;go_enter func132,ntmps132
  go_wp2;go_loopw [5] (fun g wr=>∃k:Nat,k<=a.length/\g=i_ (k-1)/\Hid (a.drop k=b.drop k)/\∃q,wr=w.drewN q) (fun g _=>(intOf g+1).toNat)
  case atStart=>exact⟨a.length,zh _,rfl,by rw[Hid,QP (zh _),QP (by rw[c.out];exact zh _)],0,rfl⟩
  case round=>
   obtain⟨k,h,rfl,g,q,rfl⟩:=hrel;cases k with
   |zero=>
    go_wp2;go_ret;refine⟨zaQ ?_,q,rfl⟩;rw[zec (by rw[<-Q2 (l:=a),g.out,Q2])]
   |succ k=>
    obtain⟨_,off,rfl,_,C⟩:=z (by intro e;simp[e]at h);obtain⟨_,_,rfl,_,D⟩:=A (by intro e;rw[Hid,e]at c;simp at c;simp[c]at h);have h:k<b.length:=by have:=c.out;omega
    have o:=C k om;have o:=D k h;have F:=d.get k;have I:=f.get k;have h:(0:Int)<=k:=om;have h:((k:Int)).toNat=k:=om;have h:k<a.length:=om;have h:k<b.length:=om;have y:=fun h=>val_lt_at d c.out k om g.out h
    have B:=fun h=>val_lt_at f c.out.symm k om g.out.symm h
    have x:=fun h=>zng c.out k om g.out h
    have o:Hid (a.getD k 0<b.getD k 0->val a<val b):=y;have p:Hid (b.getD k 0<a.getD k 0->val b<val a):=B;have r:Hid (a.getD k 0=b.getD k 0->a.drop k=b.drop k):=x;clear y B x z A C D;generalize a.getD k 0=x at *;generalize b.getD k 0=y at *;by_cases g:x=y
    ·have c:=r.out g;have B:Hid (a.drop k=b.drop k):=c;have C:(x != y)=false:=by rw[bne_eq_false_iff_eq];omega
     go_wp2;go_region
     all_goals go_wp2
     go_roundw
     case rel=>exact⟨k,om,by go_num,B,q+1,rfl⟩
     case measure=>simp[intOf]
    ·have C:(x != y)=true:=by rw[bne_iff_ne];omega
     have c:Hid (Jy x y=Jy (val a) (val b)):=by
      rcases zeE g with h|h
      ·rw[Hid,zcc h,zcc (o.out h)]
      ·rw[Hid,zcd h,zcd (p.out h)]
     go_wp2;go_region
     all_goals go_wp2
     go_quiet ((go_at_call 198;exact(znj _ _ _ F I).mono fun _ _ h=>⟨h.1,_,h.2⟩))
     go_wp2;go_ret;exact⟨zaQ c.out,q+1+nq,by rw[World.drewN_drewN]⟩
 ·have g:(a.length != b.length)=true:=by rw[bne_iff_ne];omega
  have g:Jy a.length b.length=Jy (val a) (val b):=by
   rcases zeE s with h|h
   ·rw[zcc h,zcc (j.lt_of_len d h)]
   ·rw[zcd h,zcd (i.lt_of_len f h)]
  have c:=g;rw[<-c];clear g c hm t i j d f z A;generalize a.length=a at *;generalize b.length=a at *;go_enter func132,ntmps132
  go_wp2_with fail
  apply(zni _ _ _ om om).mono;rintro e w' ⟨rfl,rfl⟩;go_wp2;go_ret;exact⟨rfl,0,rfl⟩
theorem zf1(w:H)(b off cap:Nat)(ds es:N_)(v:Value)(g:ds.length<=cap)(i:ds.length<=1073741824)(h:es.length<=ds.length)(f:Row w b off ds)(A:zcj w b off ds.length)(u:Dig ds)(d:U32b w b v es)(o:Dig es):
 C_ 196 #[V (E (Xd b off O)) ds.length cap,v] w fun e w'=>e=Xa (tp #[])/\
  ∃a c,a.length=ds.length/\Dig a/\Row w' b off a/\Upd b off ds.length w w'/\val a+4294967296^ds.length*c=val ds+val es:=by
 have r:=d;obtain⟨_,_,rfl,_,_⟩:=d;go_enter func196,ntmps196
 go_wp2;go_loopw [4,8] (fun a i wr=>∃(k c:Nat) (d:N_),k<=ds.length/\c<=1/\i=i_ (k:Nat)/\a=it .u64 (c:Nat)/\Hid (d.length=ds.length)/\Dig d/\Row wr b off d/\Upd b off ds.length w wr/\
  Hid (d.drop k=ds.drop k)/\Hid (val (d.take k)+4294967296^k*c=val (ds.take k)+val (es.take k))) (fun _ i _=>ds.length-(intOf i).toNat)
 case atStart=>exact⟨0,0,ds,qo _,om,rfl,rfl,rfl,u,f,Xw _ _ _ _,rfl,by simp[Hid,val]⟩
 case round=>
  obtain⟨k,c,d,_,_,rfl,rfl,a,m,h,g,i,p⟩:=hrel;by_cases f:k<ds.length
  ·by_cases l:k<es.length
   ·obtain⟨_,_,j,_,q⟩:=r.upd g;simp only[qp]at j;obtain⟨rfl,_,rfl⟩:=j;obtain⟨_,_,rfl,_,_,j⟩:=q (by intro e;simp[e]at l);have z:=h k (by rw[a.out];exact f);rw[zbq i.out]at z;have q:=j k l;have D:=u.get k;have j:=o.get k;have C:=g.free A k f;have o:=add_step (by rw[a.out];exact f) p.out;have j:=h.setCell k ((c+ds.getD k 0+es.getD k 0)%4294967296) (by rw[a.out];exact f);have l:=g.setCell k f (it .u32 (((c+ds.getD k 0+es.getD k 0)%4294967296:Nat):Int));have r:Hid (val ((d.set k ((c+ds.getD k 0+es.getD k 0)%4294967296)).take (k+1))+4294967296^(k+1)*((c+ds.getD k 0+es.getD k 0)/4294967296)=val (ds.take (k+1))+val (es.take (k+1))):=o;generalize ds.getD k 0=x at *;generalize es.getD k 0=y at *;have s:(((c+x+y)%4294967296:Nat):Int)=((c:Int)+x+y)%4294967296:=om;have t:(((c+x+y)/4294967296:Nat):Int)=((c:Int)+x+y)/4294967296:=om;rw[s]at j l;have q:Hid ((((c+x+y)/4294967296:Nat):Int)=((c:Int)+x+y)/4294967296):=t;go_wp2;go_roundw
    case rel=>exact⟨k+1,(c+x+y)/4294967296,_,om,om,by go_num,by rw[q.out],by rw[Hid,qX,a.out],m.set _ _ (Z0 _ dc),j,l,by rw[Hid,QH];exact zat i.out,r⟩
    case measure=>simp[intOf];omega
   ·by_cases y:c=0
    ·subst y;have B:=zp9 (by rw[a.out];omega) a.out om i.out p.out;have y:Hid (val d+4294967296^ds.length*0=val ds+val es):=B;have B:es.length<=k:=om;go_wp2;refine zH (qI rfl _ _ _) rfl ?_;exact⟨rfl,d,0,a.out,m,h,g,y.out⟩
    ·have z:=h k (by rw[a.out];exact f);rw[zbq i.out]at z;have D:=u.get k;have C:=g.free A k f;have o:=add_step (by rw[a.out];exact f) p.out;rw[getD_none es k om,qV]at o;have j:=h.setCell k ((c+ds.getD k 0)%4294967296) (by rw[a.out];exact f);have l:=g.setCell k f (it .u32 (((c+ds.getD k 0)%4294967296:Nat):Int));have r:Hid (val ((d.set k ((c+ds.getD k 0)%4294967296)).take (k+1))+4294967296^(k+1)*((c+ds.getD k 0)/4294967296)=val (ds.take (k+1))+val (es.take (k+1))):=o;generalize ds.getD k 0=x at *;have s:(((c+x)%4294967296:Nat):Int)=((c:Int)+x)%4294967296:=om;have t:(((c+x)/4294967296:Nat):Int)=((c:Int)+x)/4294967296:=om;rw[s]at j l;have q:Hid ((((c+x)/4294967296:Nat):Int)=((c:Int)+x)/4294967296):=t;have f:((c:Int) == 0)=false:=ZN.2 om;have B:es.length<=k:=om;go_wp2;go_roundw
     case rel=>exact⟨k+1,(c+x)/4294967296,_,om,om,by go_num,by rw[q.out],by rw[Hid,qX,a.out],m.set _ _ (Z0 _ dc),j,l,by rw[Hid,QH];exact zat i.out,r⟩
     case measure=>simp[intOf];omega
  ·have i:k=ds.length:=om;have f:Hid (val d+4294967296^ds.length*c=val ds+val es):=by
    have:=p.out;rw[zP (by rw[a.out];omega),zP om,zP om,i]at this;exact this
   go_wp2;go_end0
   exact⟨rfl,d,c,a.out,m,h,g,f.out⟩
theorem zmY(x u a:Int)(e:0<=x)(f:x<4294967296)(c:0<=u)(d:u<4294967296)(hb:0<=a)(b:a<=1)(h:x<u+a):
 IntKind.u64.wrap (IntKind.u64.wrap (x-u)-a)%4294967296=x-u-a+4294967296/\IntKind.u64.wrap (IntKind.u64.wrap (x-u)-a)/9223372036854775808=1:=by
 have e:∀n:Int,IntKind.u64.wrap n=n%18446744073709551616:=fun n=>by simp[IntKind.wrap,IntKind.signed,IntKind.bits]
 rw[e,e];omega
theorem zqa(x a:Int)(c:0<=x)(b:a<=1)(h:x<a):
 IntKind.u64.wrap (x-a)%4294967296=x-a+4294967296/\IntKind.u64.wrap (x-a)/9223372036854775808=1:=by
 have e:∀n:Int,IntKind.u64.wrap n=n%18446744073709551616:=fun n=>by simp[IntKind.wrap,IntKind.signed,IntKind.bits]
 rw[e];omega
theorem zgV(w:H)(b off cap f:Nat)(ds es:N_)(v:Value)(d:ds.length<=cap)(i:ds.length<=1073741824)(g:es.length<=ds.length)(m:f<4294967296)(h:Row w b off ds)(W:zcj w b off ds.length)(T:Dig ds)(c:U32b w b v es)(l:Dig es):
 C_ 202 #[V (E (Xd b off O)) ds.length cap,v,it .u32 (f:Nat)] w fun e w'=>
  ∃a r,e=Xa (it .u64 (r:Nat))/\r<=4294967296/\a.length=ds.length/\Dig a/\Row w' b off a/\Upd b off ds.length w w'/\val a+f*val es=val ds+4294967296^ds.length*r:=by
 have o:=c;obtain⟨_,_,rfl,_,_⟩:=c;go_enter func202,ntmps202
 go_wp2;go_loopw [7,8,13] (fun g d i wr=>∃(k c a:Nat) (p:N_),k<=ds.length/\c<4294967296/\a<=1/\i=i_ (k:Nat)/\g=it .u64 (c:Nat)/\d=it .u64 (a:Nat)/\Hid (p.length=ds.length)/\Dig p/\Row wr b off p/\Upd b off ds.length w wr/\
  Hid (p.drop k=ds.drop k)/\Hid (val (p.take k)+f*val (es.take k)=val (ds.take k)+4294967296^k*(c+a))) (fun _ _ i _=>ds.length-(intOf i).toNat)
 case atStart=>exact⟨0,0,0,ds,qo _,om,om,rfl,rfl,rfl,rfl,T,h,Xw _ _ _ _,rfl,by simp[Hid,val]⟩
 case round=>
  obtain⟨k,c,a,p,_,_,_,rfl,rfl,rfl,j,u,I,D,q,B⟩:=hrel;by_cases A:k<ds.length
  ·by_cases g:k<es.length
   ·obtain⟨_,_,d,_,h⟩:=o.upd D;simp only[qp]at d;obtain⟨rfl,_,rfl⟩:=d;obtain⟨_,_,rfl,_,_,d⟩:=h (by intro e;simp[e]at g);have U:=I k (by rw[j.out];exact A);rw[zbq q.out]at U;have i:=d k g;have Z:=T.get k;have i:=l.get k;have Y:=D.free W k A;have K:k<p.length:=by rw[j.out];exact A
    have d:=fun z=>I.setCell k z K
    have g:=fun z=>D.setCell k A z
    have l:=fun z N M=>zkj (z:=z) (c':=N) (bw':=M) K B.out
    clear h B;generalize ds.getD k 0=x at *;generalize es.getD k 0=y at *;obtain⟨_,_⟩:=zlo f y m i;have X:((f*y:Nat):Int)=(f:Int)*(y:Int):=sp;by_cases C:x<(c+f*y)%4294967296+a
    ·have J:(x:Int)<((c:Int)+(f:Int)*(y:Int))%4294967296+a:=om;obtain⟨s,t⟩:=zmY x (((c:Int)+(f:Int)*(y:Int))%4294967296) a om om om om om om J;have i:=l (x+4294967296-(c+f*y)%4294967296-a) ((c+f*y)/4294967296) 1 om;have d:=d (x+4294967296-(c+f*y)%4294967296-a);have g:=g (it .u32 ((x+4294967296-(c+f*y)%4294967296-a:Nat):Int));have h:((x+4294967296-(c+f*y)%4294967296-a:Nat):Int)=IntKind.u64.wrap (IntKind.u64.wrap (↑x-(↑c + ↑f * ↑y)%4294967296) - ↑a)%4294967296:=by rw[s];omega
     rw[h]at d g;have F:Hid ((((c+f*y)/4294967296:Nat):Int)=((c:Int)+f*y)/4294967296):=by rw[Hid];omega
     have L:x+4294967296-(c+f*y)%4294967296-a<4294967296:=om;have R:(c+f*y)/4294967296<4294967296:=om;have i:=zf i;have m:=zf t;have o:=zf L;clear l h s t X C J L;go_wp2;go_roundw
     case rel=>exact⟨k+1,(c+f*y)/4294967296,1,_,om,R,om,by go_num,by rw[F.out],by rw[zg9 m];rfl,by rw[Hid,qX,j.out],u.set _ _ (zg9 o),d,g,by rw[Hid,QH];exact zat q.out,zg9 i⟩
     case measure=>simp[intOf];omega
    ·have J:((c:Int)+(f:Int)*(y:Int))%4294967296+a<=(x:Int):=om;have i:=l (x-(c+f*y)%4294967296-a) ((c+f*y)/4294967296) 0 om;have d:=d (x-(c+f*y)%4294967296-a);have g:=g (it .u32 ((x-(c+f*y)%4294967296-a:Nat):Int));have h:((x-(c+f*y)%4294967296-a:Nat):Int)=(↑x-(↑c + ↑f * ↑y)%4294967296) - ↑a:=om;rw[h]at d g;have F:Hid ((((c+f*y)/4294967296:Nat):Int)=((c:Int)+f*y)/4294967296):=by rw[Hid];omega
     have L:x-(c+f*y)%4294967296-a<4294967296:=om;have R:(c+f*y)/4294967296<4294967296:=om;have m:Hid ((↑x-(↑c + ↑f * ↑y)%4294967296 - ↑a:Int)/9223372036854775808=0):=by rw[Hid];omega
     have i:=zf i;have o:=zf L;clear l h X C L;go_wp2;go_roundw
     case rel=>exact⟨k+1,(c+f*y)/4294967296,0,_,om,R,om,by go_num,by rw[F.out],by rw[m.out];rfl,by rw[Hid,qX,j.out],u.set _ _ (zg9 o),d,g,by rw[Hid,QH];exact zat q.out,zg9 i⟩
     case measure=>simp[intOf];omega
   ·have L:es.length<=k:=om;by_cases y:c=0/\a=0
    ·obtain⟨rfl,rfl⟩:=y;have R:=zf (zoh (by rw[j.out];omega) j.out L q.out B.out);clear B;go_wp2;go_ret;exact⟨p,0,rfl,om,j.out,u,I,D,R.out⟩
    ·have U:=I k (by rw[j.out];exact A);rw[zbq q.out]at U;have Z:=T.get k;have Y:=D.free W k A;have K:k<p.length:=by rw[j.out];exact A
     have d:=fun z=>I.setCell k z K
     have g:=fun z=>D.setCell k A z
     have l:=fun z N M=>zkj (z:=z) (c':=N) (bw':=M) K B.out
     rw[getD_none es k L]at l;clear B;generalize ds.getD k 0=x at *;by_cases z:c=0
     ·subst z;have A:((a:Int) == 0)=false:=ZN.2 om;by_cases C:x<a
      ·obtain⟨s,t⟩:=zqa x a om om om;have i:=zf (l (x+4294967296-a) 0 1 om);have d:=d (x+4294967296-a);have g:=g (it .u32 ((x+4294967296-a:Nat):Int));have h:((x+4294967296-a:Nat):Int)=IntKind.u64.wrap (↑x - ↑a)%4294967296:=by rw[s];omega
       rw[h]at d g;have o:=zf (show x+4294967296-a<4294967296 by omega);have m:=zf t;clear l h s t y;go_wp2;go_roundw
       case rel=>exact⟨k+1,0,1,_,om,om,om,by go_num,rfl,by rw[m.out];rfl,by rw[Hid,qX,j.out],u.set _ _ o.out,d,g,by rw[Hid,QH];exact zat q.out,i.out⟩
       case measure=>simp[intOf];omega
      ·have i:=zf (l (x-a) 0 0 om);have d:=d (x-a);have g:=g (it .u32 ((x-a:Nat):Int));have h:((x-a:Nat):Int)=↑x - ↑a:=om;rw[h]at d g;have o:=zf (show x-a<4294967296 by omega);have m:=zf (show((x:Int)-a)/9223372036854775808=0 by omega);have A:(a:Int)<=x:=om;clear l h y C;go_wp2;go_roundw
       case rel=>exact⟨k+1,0,0,_,om,om,om,by go_num,rfl,by rw[m.out];rfl,by rw[Hid,qX,j.out],u.set _ _ o.out,d,g,by rw[Hid,QH];exact zat q.out,i.out⟩
       case measure=>simp[intOf];omega
     ·have K:((c:Int) == 0)=false:=ZN.2 om;have F:=zf (show(c:Int)/4294967296=0 by omega);by_cases C:x<c+a
      ·have J:(x:Int)<(c:Int)+a:=om;obtain⟨s,t⟩:=zmY x c a om om om om om om J;have i:=zf (l (x+4294967296-c-a) 0 1 om);have d:=d (x+4294967296-c-a);have g:=g (it .u32 ((x+4294967296-c-a:Nat):Int));have h:((x+4294967296-c-a:Nat):Int)=IntKind.u64.wrap (IntKind.u64.wrap (↑x - ↑c) - ↑a)%4294967296:=by rw[s];omega
       rw[h]at d g;have o:=zf (show x+4294967296-c-a<4294967296 by omega);have m:=zf t;clear l h s t C J y z;go_wp2;go_roundw
       case rel=>exact⟨k+1,0,1,_,om,om,om,by go_num,by rw[F.out];rfl,by rw[m.out];rfl,by rw[Hid,qX,j.out],u.set _ _ o.out,d,g,by rw[Hid,QH];exact zat q.out,i.out⟩
       case measure=>simp[intOf];omega
      ·have i:=zf (l (x-c-a) 0 0 om);have d:=d (x-c-a);have g:=g (it .u32 ((x-c-a:Nat):Int));have h:((x-c-a:Nat):Int)=↑x - ↑c - ↑a:=om;rw[h]at d g;have o:=zf (show x-c-a<4294967296 by omega);have m:=zf (show((x:Int)-c-a)/9223372036854775808=0 by omega);have A:(c:Int)+a<=x:=om;clear l h y C z;go_wp2;go_roundw
       case rel=>exact⟨k+1,0,0,_,om,om,om,by go_num,by rw[F.out];rfl,by rw[m.out];rfl,by rw[Hid,qX,j.out],u.set _ _ o.out,d,g,by rw[Hid,QH];exact zat q.out,i.out⟩
       case measure=>simp[intOf];omega
  ·have d:k=ds.length:=om;have g:Hid (val p+f*val es=val ds+4294967296^ds.length*(c+a)):=by
    have:=B.out;rw[zP (by rw[j.out];omega),zP om,zP om,d]at this;exact this
   clear B d;go_wp2;go_ret;exact⟨p,c+a,by go_num,om,j.out,u,I,D,g.out⟩
theorem zib(ds:N_)(k x:Nat):(ds.set k x).take k=ds.take k:=zd8 (zh _)
theorem zhb{b:N_}(h:a.take (k+1)=b.take (k+1)):a.getD k 0=b.getD k 0:=by
 have c:(a.take (k+1))[k]? =a[k]?:=by rw[jG,zQ om]
 have d:(b.take (k+1))[k]? =b[k]?:=by rw[jG,zQ om]
 rw[zk,zk,<-c,<-d,h]
theorem zkk{b:N_}(h:a.take (k+1)=b.take (k+1)):a.take k=b.take k:=by
 have c:(a.take (k+1)).take k=a.take k:=by rw[zed,Qw om]
 have d:(b.take (k+1)).take k=b.take k:=by rw[zed,Qw om]
 rw[<-c,<-d,h]
theorem zqb(b:k<a.length)(c:a.length=ds.length)(hi:val (ds.drop (k+1))=D*val (a.drop (k+1))+r):
 val (ds.drop k)=D*val ((a.set k ((ds.getD k 0+4294967296*r)/D)).drop k)+(ds.getD k 0+4294967296*r)%D:=by
 rw[val_drop ds k om,val_drop _ k (by simpa using b),zb2 a k _ b,QH,hi];generalize ds.getD k 0=x;generalize val (a.drop (k+1))=Q;have a:=Jz (x+4294967296*r) D;rw[Zs D,jq D 4294967296 Q,Zs 4294967296];omega
theorem div_bd{x:Nat}(b:x<4294967296)(a:r<D):(x+4294967296*r)/D<4294967296:=by
 rw[QC om];have:4294967296*(r+1)<=4294967296*D:=Zr _ a;omega
theorem zqc{b:N_}(e:k+j<b.length)(f:b.drop (k+j)=a.drop (k+j))(hi:val (b.take (k+j))+4294967296^(k+j)*c=val (a.take (k+j))+4294967296^k*(d*val (es.take j))):
 val ((b.set (k+j) ((c+(d*es.getD j 0+a.getD (k+j) 0))%4294967296)).take (k+(j+1)))+4294967296^(k+(j+1))*((c+(d*es.getD j 0+a.getD (k+j) 0))/4294967296)=
  val (a.take (k+(j+1)))+4294967296^k*(d*val (es.take (j+1))):=by
 rw[<-zb3,val_lay b (k+j) (c+(d*es.getD j 0+a.getD (k+j) 0)) e,val_take_any a (k+j),val_take_any es j];generalize val (b.take (k+j))=A at *;generalize val (a.take (k+j))=C at *;generalize val (es.take j)=b at *;generalize es.getD j 0=y;generalize a.getD (k+j) 0=z;rw[Q6]at hi⊢;generalize 4294967296^k=p at *;generalize 4294967296^j=q at *;have a:p*q*(c+(d*y+z))=p*q*c+p*q*(d*y)+p*q*z:=by rw[Zs,Zs,zb3]
 have e:p*(d*(b+q*y))=p*(d*b)+p*q*(d*y):=by
  rw[Zs,Zs,Zt p q,jq d q y]
 rw[a,e];omega
theorem zrC{b:N_}(f:k+es.length<a.length)(e:d=ds.getD k 0)(hi:val (a.take (k+es.length))+4294967296^(k+es.length)*c=val (b.take (k+es.length))+4294967296^k*(d*val es))(ho:val (b.take (k+es.length))=val (ds.take k)*val es):
 val ((a.set (k+es.length) c).take (k+1+es.length))=val (ds.take (k+1))*val es:=by
 rw[show k+1+es.length=k+es.length+1 by omega,zeR a _ c f,val_append,zX,Qw om,val_take_any ds k,<-e];simp only[val,Ql,qV];rw[hi,ho,Zg,Zt]
theorem zrD(a:c<4294967296)(b:d<4294967296)(f:e<4294967296)(g:z<4294967296):c+(d*e+z)<18446744073709551616/\(c+(d*e+z))/4294967296<4294967296:=by
 have a:d*e<=4294967295*4294967295:=Z7 om om;omega
theorem zlq{b s:N_}(d:Dig a)(hb:Dig b)(e:b.length<=a.length)(h:val s+4294967296^(a.length+1)*c=val a+val b):val s=val a+val b:=by
 have f:=val_lt d;have d:=zK (val_lt hb) (pow_mono e);rw[Zv]at h;generalize 4294967296^a.length=p at *;have d:p*2<=p*4294967296:=Zr p om;generalize p*4294967296=r at *;cases c with
 |zero=>rw[Ql,qV]at h;exact h
 |succ c=>
  exfalso
  rw[Nat.mul_succ r c]at h;generalize r*c=q at *;omega
theorem sub_fits{b s:N_}{L:Nat}(hs:Dig s)(d:s.length=L)(c:val b<=val a)(h:val s+1*val b=val a+4294967296^L*r):val s=val a-val b:=by
 have c:=val_lt hs;rw[d]at c;generalize 4294967296^L=p at *;cases r with
 |zero=>rw[Ql,qV,Jv]at h;omega
 |succ r=>
  exfalso
  rw[Nat.mul_succ p r]at h;generalize p*r=q at *;omega
theorem zfF(w:H)(b off cap D:Nat)(ds:N_)(f:ds.length<=cap)(g:ds.length<=1073741824)(j:0<D)(d:D<4294967296)(c:Row w b off ds)(p:zcj w b off ds.length)(l:Dig ds):
 C_ 134 #[V (E (Xd b off O)) ds.length cap,it .u32 (D:Nat)] w fun e w'=>
  ∃a r,e=Xa (it .u32 (r:Nat))/\r<D/\a.length=ds.length/\Dig a/\Row w' b off a/\Upd b off ds.length w w'/\val ds=D*val a+r:=by
 go_enter func134,ntmps134
 go_wp2;go_loopw [5,6] (fun lv i wr=>∃(k r:Nat) (a:N_),k<=ds.length/\r<D/\i=i_ ((k:Int)-1)/\lv=it .u64 (r:Nat)/\Hid (a.length=ds.length)/\Dig a/\Row wr b off a/\Upd b off ds.length w wr/\
  Hid (a.take k=ds.take k)/\Hid (val (ds.drop k)=D*val (a.drop k)+r)) (fun _ i _=>(intOf i+1).toNat)
 case atStart=>exact⟨ds.length,0,ds,zh _,j,rfl,rfl,rfl,l,c,Xw _ _ _ _,rfl,by simp[Hid,val]⟩
 case round=>
  obtain⟨k,r,a,_,m,rfl,rfl,c,i,f,h,o,d⟩:=hrel;cases k with
  |zero=>
   have g:=zf d.out;simp only[Q2]at g;clear d;go_wp2;go_ret;exact⟨a,r,by go_num,m,c.out,i,f,h,g.out⟩
  |succ k=>
   have g:k<a.length:=by rw[c.out];omega
   have a:=f k g;rw[zhb o.out]at a;have a:=l.get k;have l:=h.free p k om;have l:=zf (zqb g c.out d.out);have p:=div_bd a m;have m:=f.setCell k ((ds.getD k 0+4294967296*r)/D) g;have g:=h.setCell k (show k<ds.length by omega) (it .u32 (((ds.getD k 0+4294967296*r)/D:Nat):Int));have f:=zga r (ds.getD k 0) om a;have a:=Z0 (ds.getD k 0+4294967296*r) j;have f:ds.getD k 0+4294967296*r<18446744073709551616:=om;generalize ds.getD k 0=x at *;have f:((x+4294967296*r:Nat):Int)/(D:Int)=(((x+4294967296*r)/D:Nat):Int):=sp;have f:((x+4294967296*r:Nat):Int)%(D:Int)=(((x+4294967296*r)%D:Nat):Int):=sp;generalize (x+4294967296*r)/D=q at *;generalize (x+4294967296*r)%D=h at *;generalize x+4294967296*r=y at *;clear d;go_wp2;go_roundw
   case rel=>exact⟨k,h,_,om,a,by go_num,by rw[f],by rw[Hid,qX,c.out],i.set _ _ p,m,g,by rw[Hid,zib];exact zkk o.out,l.out⟩
   case measure=>simp[intOf]
theorem row_of_owns(h:w.ownsRow base e 1 (V (E (Xd g 0 O)) n cap) n (ds.map fun d:Nat=>it .u32 (d:Int)))(a:ds.length=n):Row w g 0 ds:=by
 intro i a;have:=h.cellAt i om;rw[qt,this,zR,zg a,zk,zg a];rfl
theorem zhc{xs:List Value}(h:w.ownsRow base e 1 (V (E (Xd g 0 O)) n cap) n xs)(m:Nat):zcj w g 0 m:=by
 intro i _;rw[qt];exact h.frozenAt i
theorem ze0{xs:List Value}(h:w.ownsRow base e 1 (V (E (Xd g 0 O)) n cap) n xs):base<=g/\g<w.heap.size:=h.lt g rfl
def encD (d:Nat):Value:=it .u32 (d:Int)
theorem owns_parts(h:w.ownsRow base e 1 v n (ds.map encD))(i:v≠V_):
 ∃g cap,v=V (E (Xd g 0 O)) n cap/\n<=cap/\base<=g/\g<w.heap.size/\Row w g 0 ds/\∀m,zcj w g 0 m:=by
 have a:=h;obtain⟨b,c|⟨g,cap,_,j,d,_,f,_,_,_⟩⟩:=h;·exact absurd c.1 i
 ·subst j;rw[zm,jM]at b;exact⟨g,cap,rfl,f,d,(ze0 a).2,row_of_owns a b,fun m=>zhc a m⟩
theorem encD_one(ds:N_):∀u∈ds.map encD,u.oneCell'=true:=by
 intro u a;obtain⟨_,_,rfl⟩:=qP.1 a;rfl
theorem row_news(h:Row w b off ds):∀j u,(ds.map encD)[j]? =E u->w.cell? ((⟨b,off,O⟩:Addr).add j)=E u:=by
 intro j u a;rw[zR]at a;cases hd:ds[j]? with
 |none=>rw[hd]at a;simp at a
 |some d=>
  rw[hd,qY,qN]at a;have:=h j ((zo.1 hd).1);rw[zk,hd,qB]at this;subst a;by_cases a:j=0
  ·subst a;simpa[Addr.add,encD]using this
  ·simpa[Addr.add,encD,a]using this
theorem ziw(w:H){a:Act}(hg:o.guard=O)(l c:Operand)(t:TypeId)(r:o.op=Op.makeSlice t l c)(e:TypeId)(i:TypeInfo)(h1:P.underlying t=E (.slice e))(h2:P.info? e=E i)(f:i.zero=E (it .u32 0))(g:i.size=1)(h:i.bytes=4)(d b:IntKind)(L C:Int)(n:Nat)(q:a.eval l=it d L)(p:a.eval c=it b C)(m:L=(n:Int))(j:C=(n:Int))(s:n<=4294967296)(k:∀w',Row w' w.heap.size 0 (List.replicate n 0)->zcj w' w.heap.size 0 n->Below w.heap.size w w'->w.heap.size<w'.heap.size->
  wpList P ops Q rest (a.put o.dst (V (E (Xd w.heap.size 0 O)) n n)) w'):
 wpList P ops Q (o::rest) a w:=by
 apply wpList_make_full w hg l c t r w.heap.size e i (it .u32 0) 1 h1 h2 f g d b L C n q p m j (by rw[h];omega) mo (zh _);intro w' b g;have f:(madeCells (it IntKind.u32 0).cells (n*1)).toList=(List.replicate n 0).map fun d:Nat=>it .u32 d:=by
  rw[jM,List.map_replicate];exact toList_madeCells_one _ _
 rw[f]at b;exact k w' (row_of_owns b sp) (zhc b n) ((qf _ _).grown g (zh _) (fun k h=>by simp at h)) (ze0 b).2
theorem row_of_block(h:w.heap[g]? =E (cl (ds.map encD).toArray e (0,0))):Row w g 0 ds/\(∀m,zcj w g 0 m)/\g<w.heap.size:=by
 refine⟨fun i a=>?_,fun m i _=>ZK w g _ _ e h,Jw h⟩;rw[qt,ze w g i _ e (0,0) h,List.getElem?_toArray,zR,zg a,zk,zg a];rfl
theorem zkl(w:H){a:Act}(hg:o.guard=O)(l c:Operand)(t:TypeId)(r:o.op=Op.makeSlice t l c)(e:TypeId)(i:TypeInfo)(h1:P.underlying t=E (.slice e))(h2:P.info? e=E i)(f:i.zero=E (it .u32 0))(g:i.size=1)(h:i.bytes=4)(d b:IntKind)(L C:Int)(n:Nat)(q:a.eval l=it d L)(p:a.eval c=it b C)(m:L=(n:Int))(j:C=(n:Int))(s:n<=4294967296)(k:∀w',Hid (w'.heap[w.heap.size]? =E (cl ((List.replicate n 0).map encD).toArray e (0,0)))->Below w.heap.size w w'->
  wpList P ops Q rest (a.put o.dst (V (E (Xd w.heap.size 0 O)) n n)) w'):
 wpList P ops Q (o::rest) a w:=by
 apply wpList_make_full w hg l c t r w.heap.size e i (it .u32 0) 1 h1 h2 f g d b L C n q p m j (by rw[h];omega) mo (zh _);intro w' b f;have d:(madeCells (it IntKind.u32 0).cells (n*1)).toList=(List.replicate n 0).map encD:=by
  rw[jM,List.map_replicate];exact toList_madeCells_one _ _
 rw[d]at b;refine k w' ?_ ((qf _ _).grown f (zh _) (fun k h=>by simp at h));obtain⟨_,h1|⟨_,_,_,f,_,g,_,_,_,d⟩⟩:=b;·exact absurd h1.1 sp
 ·simp only[qp,qN,Jg]at f;obtain⟨⟨rfl,_,_⟩,_,rfl⟩:=f;rw[zP so]at d;rw[Hid,g,<-d]
theorem zlr{a:Act}(q:o.guard=O)(d s:Operand)(c j:TypeId)(ho:o.op= .call { callee:= .builtin .copy,args:=#[d,s],argTypes:=#[c,j] })(e:TypeId)(u:P.underlying c=E (.slice e))(t:(P.info? e).map (·.size)=E 1)(g b i:Nat)(v:Value)(ds es:N_)(p:a.eval d=V (E (Xd g 0 O)) b i)(k:ds.length=b)(hs:a.eval s=v)(f:U32s w v es)(hg:w.heap[g]? =E (cl (ds.map encD).toArray e (0,0)))(l:es.length<=ds.length)(B:Nat)(w0:H)(hb:Below B w0 w)(m:B<=g)(h:∀w',Hid (w'.heap[g]? =E (cl ((es++ds.drop es.length).map encD).toArray e (0,0)))->Below B w0 w'->wpList P ops Q rest (a.put o.dst (goInt es.length)) w'):
 wpList P ops Q (o::rest) a w:=by
 have⟨k,l,f,_,r⟩:=f;refine wpList_copy_splice q d s c j ho e u t (E (Xd g 0 O)) k b i es.length l p (hs.trans f) g 0 (ds.map encD) e hg (es.map encD) (by rw[zm];exact(Qw om).symm) ?_ so (encD_one es) B w0 hb m ?_
 ·intro b;rw[zm]at b;obtain⟨_,off,rfl,_,c⟩:=r (ZC.1 b);exact⟨rfl,_,rfl,row_news c⟩
 ·intro w' b c;rw[zm];refine h w' ?_ c;have c:splice (ds.map encD) 0 (es.map encD)=(es++ds.drop es.length).map encD:=by simp[splice]
  rw[c]at b;exact b
theorem Tryz.info131:(Tryz.prog.info? 127).map (fun i=>(i.zero,i.size,i.bytes))=E (E (it .u32 0),1,4):=kr
abbrev Xu:=@Tryz.info131
theorem times_any(w:H)(u v:Value)(m n J K:Nat)(D:NatV w u m)(W:NatV w v n)(hm:m<4294967296^J)(hn:n<4294967296^K)(hK:J+K<=1073741824):
 Calls pg 114 #[u,v] w fun e w'=>∃x,e=Xa x/\NatV w' x (m*n)/\Below w.heap.size w w':=by
 by_cases C:m=0
 ·subst C;go_enter func114,ntmps114
  go_wp2_with (go_at_call 38;refine(JR _ _ D).mono ?_;rintro e w' ⟨rfl,rfl⟩)
  go_ret;exact⟨_,rfl,by rw[Nat.zero_mul];exact Xo _ _ _,qf _ _⟩
 ·by_cases U:n=0
  ·subst U;go_enter func114,ntmps114
   go_wp2_with fail
   refine(jW _ _ _ D C).mono ?_;rintro e w' ⟨rfl,rfl⟩;go_wp2_with fail
   refine(JR _ _ W).mono ?_;rintro e w' ⟨rfl,rfl⟩;go_wp2;go_ret;exact⟨_,rfl,by rw[Ql];exact Xo _ _ _,qf _ _⟩
  ·have ay:=D;have aA:=W;obtain⟨b,⟨_,_,rfl,L,hr⟩,R,ht,rfl⟩:=D;obtain⟨a,⟨_,_,rfl,_,an⟩,ad,ax,rfl⟩:=W;have hl:=ht.len hm;have aK:=ax.len hn;obtain⟨a0,off,rfl,hb,ar⟩:=hr (fun e=>C (by rw[e];rfl));obtain⟨b',aG,rfl,a8,au⟩:=an (fun e=>U (by rw[e];rfl));obtain⟨i0,hi,aC,aD,aE⟩:=Zn Xu;go_enter func114,ntmps114
   go_wp2_with fail
   refine(jW _ _ _ ay C).mono ?_;rintro e w' ⟨rfl,rfl⟩;go_wp2_with fail
   refine(jW _ _ _ aA U).mono ?_;rintro e w' ⟨rfl,rfl⟩;go_wp2_with (at_make;refine ziw _ rfl _ _ 62 rfl 127 i0 underlying62 hi aC aD aE _ _ _ _ (b.length+a.length) rfl rfl sp sp om ?_;intro r av a2 s aw)
   have aJ:=s.size;have az:=Xw w'.heap.size 0 (b.length+a.length) r;have ap:=ar.below s hb;have aq:=au.below s a8;have aa:a0≠w'.heap.size:=om;have ab:b'≠w'.heap.size:=om;generalize af:w'.heap.size=h at *;have HG:=zf af;go_loopw [25] (fun Y wr=>∃(k:Nat) (f:List Nat),k<=b.length/\Y=it Xb (k:Nat)/\Hid (f.length=b.length+a.length)/\Dig f/\Row wr h 0 f/\Upd h 0 (b.length+a.length) r wr/\
    Hid (val (f.take (k+a.length))=val (b.take k)*val a)) (fun Y _=>b.length-(intOf Y).toNat)
   case atStart=>
    refine⟨0,List.replicate (b.length+a.length) 0,qo _,rfl,by simp[Hid],?_,av,az,?_⟩;·intro d R;rw[List.mem_replicate]at R;omega
    ·rw[Hid,List.take_replicate,val_replicate];simp[val]
   case round=>
    obtain⟨k,f,_,rfl,t,M,N,F,a3⟩:=hrel;by_cases al:k<b.length
    ·have hx:=F.other aa ap k al;have a5:=R.get k;generalize aB:b.getD k 0=d at *;have a7:=zf aB;go_wp2;go_loopw [8,32] (fun cv Z wq=>∃(j c:Nat) (g:List Nat),j<=a.length/\c<4294967296/\Z=it Xb (j:Nat)/\cv=it .u64 (c:Nat)/\Hid (g.length=b.length+a.length)/\Dig g/\Row wq h 0 g/\Upd h 0 (b.length+a.length) r wq/\
      Hid (g.drop (k+j)=f.drop (k+j))/\Hid (val (g.take (k+j))+4294967296^(k+j)*c=val (f.take (k+j))+4294967296^k*(d*val (a.take j)))) (fun _ Z _=>a.length-(intOf Z).toNat)
     case atStart=>exact⟨0,0,f,qo _,om,rfl,rfl,t,M,N,F,rfl,by simp[Hid,val]⟩
     case round=>
      obtain⟨j,c,g,_,L,rfl,rfl,A,a1,B,p,T,a4⟩:=hrel;by_cases ak:j<a.length
      ·have i:k+j<g.length:=by rw[A.out];omega
       have hy:=p.other ab aq j ak;have a6:=ad.get j;have X:=B (k+j) i;rw[zbq T.out,qt]at X;have aF:=M.get (k+j);have ae:wr.frozen? ⟨h,k+j,O⟩=false:=by have:=p.free a2 (k+j) om;rwa [qt]at this
       have I:=zf (zqc i T.out a4.out);have l:=B.setCell (k+j) ((c+(d*a.getD j 0+f.getD (k+j) 0))%4294967296) i;have o:=p.setCell (k+j) (show k+j<b.length+a.length by omega) (it .u32 (((c+(d*a.getD j 0+f.getD (k+j) 0))%4294967296:Nat):Int));obtain⟨_,a9⟩:=zrD L a5 a6 aF;generalize a.getD j 0=y at *;generalize f.getD (k+j) 0=z at *;rw[qt]at l o;obtain⟨_,_⟩:=zlo d y a5 a6;have aI:((d*y:Nat):Int)=(d:Int)*(y:Int):=sp;have e1:(((c+(d*y+z))%4294967296:Nat):Int)=((c:Int)+(d*y+z))%4294967296:=om;have e2:(((c+(d*y+z))/4294967296:Nat):Int)=((c:Int)+(d*y+z))/4294967296:=om;rw[e1]at l o;have E2:=zf e2;have aH:(c:Int)+(d*y+z)<18446744073709551616:=om;go_wp2;go_roundw
       case rel=>exact⟨j+1,(c+(d*y+z))/4294967296,_,om,a9,by go_num,by rw[E2.out],by rw[Hid,qX,A.out],a1.set _ _ (Z0 _ dc),l,o,by rw[Hid,<-zb3,QH];exact zat T.out,I.out⟩
       case measure=>simp[intOf];omega
      ·have ai:j=a.length:=om;have q:=a4.out;rw[ai,zP (zh a.length)]at q;have i:k+a.length<g.length:=by rw[A.out];omega
       have I:=zf (zrC i a7.out.symm q a3.out);have X:=B (k+a.length) i;have l:=B.setCell (k+a.length) c i;have o:=p.setCell (k+a.length) (show k+a.length<b.length+a.length by omega) (it .u32 (c:Int));have ae:wr.frozen? ⟨h,k+a.length,O⟩=false:=by have:=p.free a2 (k+a.length) om;rwa [qt]at this
       rw[qt]at X l o;generalize ((g.getD (k+a.length) 0:Nat):Int)=zz at *;go_wp2;go_roundw
       case rel=>exact⟨k+1,_,om,by go_num,by rw[Hid,qX,A.out],a1.set _ _ L,l,o,I.out⟩
       case measure=>simp[intOf];omega
    ·have aj:k=b.length:=om;have q:=a3.out;rw[aj,zP (by rw[t.out];omega),zP (zh b.length)]at q;have HV:=zf q;have ah:h<wr.heap.size:=by rw[F.size];exact aw
     go_wp2_with fail
     refine(trim_any _ h 0 (b.length+a.length) (b.length+a.length) f om om (by rw[t.out];omega) N).mono ?_;rintro e w2 ⟨rfl,rfl⟩;go_wp2;go_ret;refine⟨_,rfl,?_,?_⟩
     ·rw[<-HV.out];exact natV_trim N M ah t.out (zh _)
     ·rw[HG.out];exact s.trans (F.below (zh _))
def OwnU (w w':H)(v:Value)(ds:N_):Prop:=
 ∃ao cap,v=V ao ds.length cap/\ds.length<=cap/\(ds≠ []->∃g,ao=E (Xd g 0 O)/\w.heap.size<=g/\g<w'.heap.size/\Row w' g 0 ds/\zcj w' g 0 ds.length)
theorem zfG(w:H)(v:Value)(ds:N_)(a:U32s w v ds)(N:ds.length<=1073741824):
 C_ 133 #[v] w fun e w'=>∃x,e=Xa x/\OwnU w w' x ds/\Below w.heap.size w w':=by
 obtain⟨u,b,rfl,_,l⟩:=a;have c:=fun w=>zbs w 62 127 u ds.length b 0 0 underlying62
 by_cases A:ds= []
 ·subst A;cases u with
  |none=>
   have c:=fun w=>zbs w 62 127 O 0 b 0 0 underlying62
   go_enter func133,ntmps133
   go_wp2;go_ret;exact⟨_,rfl,⟨O,0,rfl,zh _,fun h=>absurd rfl h⟩,qf _ _⟩
  |some t=>
   have c:=fun w=>zbs w 62 127 (E t) 0 b 0 0 underlying62
   have⟨r,j,o,p,q⟩:=Zn Xu;go_enter func133,ntmps133
   go_wp2_with (at_builtin;apply zcU _ rfl _ _ 62 rfl w.heap.size 127 r (it .u32 0) 1 4 underlying62 j o p q rfl dc (V (E (y_ w 0)) 0 0) 0 [] rfl (World.ownsRow_lit w #[] 0 (zh _) mo rfl) t 0 b [] rfl rfl sp sp mo om sp;intro s M d i k)
   go_ret;have m:s≠V_:=fun e=>by have:=k.1 e;simp at this
   have⟨z,f,a,g,B,C,D,F⟩:=owns_parts (ds:= []) d m;exact⟨_,rfl,⟨_,f,a,sp,fun h=>absurd rfl h⟩,((qf _ _).alloc (zh _) _).grown i sp (fun L h=>by simp[Value.ownBlock]at h;omega)⟩
 ·obtain⟨y,off,rfl,I,J⟩:=l A;have⟨r,j,o,p,q⟩:=Zn Xu;go_enter func133,ntmps133
  go_wp2_with (at_builtin;apply zcU _ rfl _ _ 62 rfl w.heap.size 127 r (it .u32 0) 1 4 underlying62 j o p q rfl dc (V (E (y_ w 0)) 0 0) 0 [] rfl (World.ownsRow_lit w #[] 0 (zh _) mo rfl) ⟨y,off,O⟩ ds.length b (ds.map encD) rfl sp (row_news (J.below ((qf _ _).alloc (zh _) _) I)) (encD_one ds) mo om sp;intro s M d i k)
  go_ret;have m:s≠V_:=fun e=>by have:=k.1 e;simp at this
  rw[Q7]at d;have⟨z,f,a,g,B,C,D,F⟩:=owns_parts d m;rw[qt]at a g;exact⟨_,rfl,⟨_,f,a,g,fun _=>⟨z,rfl,B,C,D,F _⟩⟩,((qf _ _).alloc (zh _) _).grown i sp (fun L h=>by simp[Value.ownBlock]at h;omega)⟩
theorem Tryz.size131:(Tryz.prog.info? 127).map (·.size)=E 1:=kr
theorem J9(h:NatV w v n){K:Nat}(e:n<4294967296^K):∃ds,U32s w v ds/\Dig ds/\Top ds/\val ds=n/\ds.length<=K:=by
 have⟨ds,c,d,a,b⟩:=h;exact⟨ds,c,d,a,b,a.len (by rw[b];exact e)⟩
theorem plus_any(w:H)(u v:Value)(m n K:Nat)(hu:NatV w u m)(hv:NatV w v n)(hm:m<4294967296^K)(hn:n<4294967296^K)(hK:K<=1073741823):
 C_ 131 #[u,v] w fun e w'=>∃x,e=Xa x/\NatV w' x (m+n)/\Below w.heap.size w w':=by
 obtain⟨c,T,f,_,rfl,_⟩:=J9 hu hm;obtain⟨d,W,q,_,rfl,_⟩:=J9 hv hn;have U:=T;have X:=W;obtain⟨_,_,rfl,_,_⟩:=T;obtain⟨_,_,rfl,_,_⟩:=W;have⟨i0,R,Y,Z,a0⟩:=Zn Xu;by_cases a3:c.length<d.length
 ·go_enter func131,ntmps131
  go_wp2_with (first|(at_make;apply zkl _ rfl _ _ 62 rfl 127 i0 underlying62 R Y Z a0 _ _ _ _ (d.length+1) rfl rfl sp sp om;intro w1 t h)|(apply zlr rfl _ _ _ _ rfl 127 underlying62 Tryz.size131 w.heap.size _ _ _ (List.replicate (d.length+1) 0) d rfl sp rfl (X.below h) t.out sp w.heap.size w h (zh _);intro N j i))
  have A:d++(List.replicate (d.length+1) 0).drop d.length=d ++ [0]:=by rw[List.drop_replicate,show d.length+1-d.length=1 by omega];rfl
  rw[A]at j;have⟨F,B,I⟩:=row_of_block j.out;have D:(d ++ [0]).length=d.length+1:=sp;have g:=zf1 N w.heap.size 0 (d.length+1) (d ++ [0]) c _ om om om F (B _) (Dig.append q (by intro a2 f;simp at f;omega)) (U.away i w.heap.size (zh _)) f;rw[D]at g;apply g.mono;rintro e p ⟨rfl,r,a1,C,y,l,o,L⟩;have J:w.heap.size<p.heap.size:=by rw[o.size];exact I
  go_wp2_with fail
  apply(trim_any _ w.heap.size 0 (d.length+1) (d.length+1) r om om om l).mono;rintro e w4 ⟨rfl,rfl⟩;go_wp2;go_ret;refine⟨_,rfl,?_,i.trans (o.below (zh _))⟩;have k:=natV_trim l y J C (zh _);rw[(zlq (a:=d) (b:=c) q f om (L.trans (by rw[val_append];simp[val]))),Nat.add_comm (val d) (val c)]at k;exact k
 ·go_enter func131,ntmps131
  go_wp2_with (first|(at_make;apply zkl _ rfl _ _ 62 rfl 127 i0 underlying62 R Y Z a0 _ _ _ _ (c.length+1) rfl rfl sp sp om;intro w1 t h)|(apply zlr rfl _ _ _ _ rfl 127 underlying62 Tryz.size131 w.heap.size _ _ _ (List.replicate (c.length+1) 0) c rfl sp rfl (U.below h) t.out sp w.heap.size w h (zh _);intro N j i))
  have A:c++(List.replicate (c.length+1) 0).drop c.length=c ++ [0]:=by rw[List.drop_replicate,show c.length+1-c.length=1 by omega];rfl
  rw[A]at j;have⟨F,B,I⟩:=row_of_block j.out;have D:(c ++ [0]).length=c.length+1:=sp;have g:=zf1 N w.heap.size 0 (c.length+1) (c ++ [0]) d _ om om om F (B _) (Dig.append f (by intro a2 f;simp at f;omega)) (X.away i w.heap.size (zh _)) q;rw[D]at g;apply g.mono;rintro e p ⟨rfl,r,a1,C,y,l,o,L⟩;have J:w.heap.size<p.heap.size:=by rw[o.size];exact I
  go_wp2_with fail
  apply(trim_any _ w.heap.size 0 (c.length+1) (c.length+1) r om om om l).mono;rintro e w4 ⟨rfl,rfl⟩;go_wp2;go_ret;refine⟨_,rfl,?_,i.trans (o.below (zh _))⟩;have k:=natV_trim l y J C (zh _);rw[(zlq (a:=c) (b:=d) f q om (L.trans (by rw[val_append];simp[val])))]at k;exact k
theorem U32s.drewN(h:U32s w v ds)(q:Nat):U32s (w.drewN q) v ds:=h
theorem NatV.drewN(h:NatV w v n)(q:Nat):NatV (w.drewN q) v n:=h
theorem JJ(h:Below B (w.drewN q) w'):Below B w w':=⟨h.os,h.tape,h.output,h.size,h.block⟩
theorem zda(h:Below B w w'):Below B w (w'.drewN q):=⟨h.os,h.tape,h.output,h.size,h.block⟩
theorem zqd(w:H)(a:A_)(cap:Nat):
 C_ 135 #[V a 0 cap] w fun e w'=>e=Xa (V a 0 cap)/\w'=w:=by
 go_enter func135,ntmps135
 go_wp2;go_loop [0] (fun v=>v=V a 0 cap) lenOf
 case atStart=>rfl
 case round=>
  subst hrel;go_wp2;go_ret;exact⟨rfl,rfl⟩
theorem zkW(w:H)(a b:A_)(cap c n:Nat)(f:Int):
 C_ 202 #[V a 0 cap,V b n c,it .u32 f] w fun e w'=>e=Xa (it .u64 0)/\w'=w:=by
 go_enter func202,ntmps202
 go_wp2;go_loop [7,8,13] (fun c b i=>c=it .u64 0/\b=it .u64 0/\i=i_ 0) (fun _ _ _=>0)
 case atStart=>exact⟨rfl,rfl,rfl⟩
 case round=>
  obtain⟨rfl,rfl,rfl⟩:=hrel;go_wp2;go_ret;exact⟨rfl,rfl⟩
theorem ziY{w1:H}{x:Value}(j:OwnU w w1 x ds)(f:Below w.heap.size w w1)(u:ds.length<=1073741824)(p:Dig ds)(q:Dig es)(m:U32s w v es)(k:es.length<=ds.length)(t:val es<=val ds):
 C_ 202 #[x,v,it .u32 1] w1 fun e c=>(∃r:Nat,e=Xa (it .u64 (r:Nat)))/\Below w.heap.size w c/\
  C_ 135 #[x] c fun e g=>∃y,e=Xa y/\NatV g y (val ds-val es)/\Below w.heap.size w g:=by
 obtain⟨h,d,rfl,i,z⟩:=j;by_cases j:ds= []
 ·subst j;have l:=Qk.1 (by simpa using k);subst l;obtain⟨l,o,rfl,_,_⟩:=m;apply(zkW w1 h l d o 0 1).mono;rintro e c ⟨rfl,rfl⟩;refine⟨⟨0,rfl⟩,f,?_⟩;apply(zqd _ h d).mono;rintro e g ⟨rfl,rfl⟩;exact⟨_,rfl,Xo _ _ _,f⟩
 ·obtain⟨h,rfl,l,s,A,o⟩:=z j;apply(zgV w1 h 0 d 1 ds es v i u k om A o p (m.away f h l) q).mono;rintro e c ⟨q,r,rfl,_,m,k,o,p,u⟩;have j:=f.trans (p.below l);refine⟨⟨r,rfl⟩,j,?_⟩;apply(trim_any c h 0 d ds.length q i om om o).mono;rintro e g ⟨rfl,rfl⟩;refine⟨_,rfl,?_,j⟩;have c:=natV_trim o k (by rw[p.size];exact s) m i;rw[sub_fits k m t u]at c;exact c
theorem zhd(w:H)(u v:Value)(m n K:Nat)(r:NatV w u m)(s:NatV w v n)(hm:m<4294967296^K)(o:n<4294967296^K)(a:K<=1073741823):
 C_ 187 #[u,v] w fun e w'=>∃x,e=Xa x/\NatV w' x ((m-n)+(n-m))/\Below w.heap.size w w':=by
 have⟨a,z,j,d,_,_⟩:=J9 r hm;have⟨b,A,k,C,_,_⟩:=J9 s o;by_cases c:m<n
 ·have l:a.length<=b.length:=by
   rcases Qc b.length a.length with h|h
   ·have:=d.lt_of_len k h;omega
   ·exact h
  go_enter func187,ntmps187
  go_wp2_with fail
  apply(compare_any w u v m n K r s hm o om).mono;rintro e y ⟨rfl,q,rfl⟩;rw[zcc c];go_wp2_with fail
  apply(zfG (w.drewN q) v b A om).mono;rintro e y ⟨x,rfl,p,f⟩;go_wp2_with fail
  apply (ziY p f om k j (z.drewN q) l om).mono;rintro e F ⟨⟨D,rfl⟩,B,i⟩;go_wp2_with fail
  apply i.mono;rintro e I ⟨J,rfl,t,d⟩;go_wp2;go_ret;refine⟨_,rfl,?_,JJ d⟩;have c:(m-n)+(n-m)=val b-val a:=om;rw[c];exact t
 ·have l:b.length<=a.length:=by
   rcases Qc a.length b.length with h|h
   ·have:=C.lt_of_len j h;omega
   ·exact h
  have C:0<=Jy m n:=by
   rcases Qc n m with h|h
   ·rw[zcd h];omega
   ·rw[zec om];omega
  go_enter func187,ntmps187
  go_wp2_with fail
  apply(compare_any w u v m n K r s hm o om).mono;rintro e y ⟨rfl,q,rfl⟩;generalize Jy m n=h at *;go_wp2_with fail
  apply(zfG (w.drewN q) u a z om).mono;rintro e y ⟨x,rfl,p,f⟩;go_wp2_with fail
  apply (ziY p f om j k (A.drewN q) l om).mono;rintro e F ⟨⟨D,rfl⟩,B,i⟩;go_wp2_with fail
  apply i.mono;rintro e I ⟨J,rfl,t,d⟩;go_wp2;go_ret;refine⟨_,rfl,?_,JJ d⟩;have c:(m-n)+(n-m)=val a-val b:=om;rw[c];exact t
def zfj (K:Nat):Prop:=∀(w:H) (u v:Value) (m n:Nat),NatV w u m->NatV w v n->m<4294967296^K->n<4294967296^K->
 C_ 75 #[u,v] w fun e w'=>∃x y,e=Xa (tp #[x,y])/\NatV w' x (m/n)/\NatV w' y (m%n)/\b_ w w'
def LongOK (K:Nat):Prop:=∀(w:H) (u v:Value) (m n:Nat),NatV w u m->NatV w v n->m<4294967296^K->n<=m->4294967296^2<=m->4294967296<=n->
 C_ 136 #[u,v] w fun e w'=>∃x y,e=Xa (tp #[x,y])/\NatV w' x (m/n)/\NatV w' y (m%n)/\b_ w w'
theorem Top.ge(a:Dig ds)(b:4294967296^k<=val ds):k<ds.length:=by
 rcases Qc k ds.length with h|h
 ·exact h
 ·have b:=val_lt a;have a:=pow_mono h;omega
theorem zgb(w:H)(x:Int)(n:Nat)(b:x=(n:Int))(a:n<18446744073709551616):
 C_ 128 #[it .u64 x] w fun e w'=>∃v,e=Xa v/\NatV w' v n/\Below w.heap.size w w':=by
 subst b;exact ziX w n a
theorem zqe(K:Nat)(hK:K<=1073741823)(hL:LongOK K):zfj K:=by
 intro ar aq Z m n b a hm k;by_cases i:n=0
 ·subst i;go_enter func75,ntmps75
  go_wp2_with fail
  refine(JR _ _ a).mono ?_;rintro e c ⟨rfl,rfl⟩;go_wp2;go_ret2;exact⟨_,_,rfl,by rw[Nat.div_zero];exact Xo _ _ _,by rw[Nat.mod_zero];exact b,qf _ _⟩
 ·by_cases w:m<n
  ·go_enter func75,ntmps75
   go_wp2_with fail
   refine(jW _ _ _ a i).mono ?_;rintro e c ⟨rfl,rfl⟩;go_wp2_with fail
   refine(compare_any c aq Z m n K b a hm k om).mono ?_;rintro e f ⟨rfl,q,rfl⟩;rw[zcc w];go_wp2;go_ret2;exact⟨_,_,rfl,by rw[jH w];exact Xo _ _ _,by rw[Jk w];exact b.drewN q,zda (qf _ _)⟩
  ·have av:0<=Jy m n:=by
    rcases Qc n m with I|I
    ·rw[zcd I];omega
    ·rw[zec om];omega
   by_cases J:m<4294967296^2
   ·obtain⟨h,r,v,ht,y,hl⟩:=J9 b J;obtain⟨ao,a2,rfl,hc,hr⟩:=r;have x:m<18446744073709551616:=J;have ae:n<18446744073709551616:=om;go_enter func75,ntmps75
    go_wp2_with fail
    refine(jW _ _ _ a i).mono ?_;rintro e c ⟨rfl,rfl⟩;go_wp2_with fail
    refine(compare_any c _ Z m n K b a hm k om).mono ?_;rintro e f ⟨rfl,q,rfl⟩;generalize Jy m n=C at *;go_wp2_with fail
    refine(zfE _ _ m (b.drewN q) x).mono ?_;rintro e f ⟨rfl,rfl⟩;go_wp2_with fail
    refine(zfE _ _ n (a.drewN q) ae).mono ?_;rintro e f ⟨rfl,rfl⟩;go_wp2;have N:m/n<18446744073709551616:=qu (zdE _ _) x;have ah:m%n<18446744073709551616:=qu (Nat.mod_le _ _) x;have W1:Hid (IntKind.u64.wrap ((m:Int)/(n:Int))=((m/n:Nat):Int)):=by
     have e:∀n:Int,IntKind.u64.wrap n=n%18446744073709551616:=fun n=>by simp[IntKind.wrap,IntKind.signed,IntKind.bits]
     rw[Hid,e,<-Int.natCast_ediv];generalize m/n=q0 at N;omega
    have W2:Hid ((m:Int).tmod (n:Int)=((m%n:Nat):Int)):=by
     rw[Hid,Int.tmod_eq_emod_of_nonneg om];simp
    go_region_with (first|(go_at_call_of 128 (IntKind.u64.wrap ((m:Int)/(n:Int)));refine(zgb _ _ (m/n) W1.out N).mono ?_;rintro e wA ⟨a0,rfl,A,M⟩)|(go_at_call_of 128 ((m:Int).tmod (n:Int));refine(zgb _ _ (m%n) W2.out ah).mono ?_;rintro e wB ⟨a1,rfl,l,j⟩))
    go_wp2;go_ret2;exact⟨_,_,rfl,A.below j,l,JJ (M.trans (j.mono M.size))⟩
   ·obtain⟨h,r,v,ht,y,hl⟩:=J9 b hm;obtain⟨g,W,a3,an,z,_⟩:=J9 a k;have ab:2<h.length:=Top.ge v om;have ap:=r;obtain⟨ao,a2,rfl,hc,hr⟩:=r;have ay:=W;obtain⟨_,_,rfl,_,ai⟩:=W;by_cases h1:g.length=1
    ·match g,h1 with
     |[d],_=>
      simp only[val,Ql,qV]at z;subst z;obtain⟨t,off,rfl,hb,ak⟩:=ai sp;have a4:ar.cell? (Xd t off O)=E (it .u32 (d:Nat)):=by have:=ak 0 sp;simpa using this
      have a6:=a3 d sp;go_enter func75,ntmps75
      go_wp2_with fail
      refine(jW _ _ _ a i).mono ?_;rintro e c ⟨rfl,rfl⟩;go_wp2_with fail
      refine(compare_any c _ _ m d K b a hm k om).mono ?_;rintro e f ⟨rfl,q,rfl⟩;generalize Jy m d=C at *;go_wp2_with fail
      refine(zfG _ _ h (ap.drewN q) om).mono ?_;rintro e f ⟨a0,rfl,⟨_,B,rfl,u,aj⟩,o⟩;obtain⟨F,rfl,hg,a9,al,a8⟩:=aj (by intro e;simp[e]at ab);have aw:=(o.cell (p:=(Xd t off O)) (by exact hb)).trans a4;go_wp2_with fail
      refine(zfF f F 0 B d h u om om a6 al a8 v).mono ?_;rintro e w2 ⟨D,Y,rfl,R,aa,a5,T,U,X⟩;go_wp2_with fail
      refine(trim_any w2 F 0 B h.length D u om om T).mono ?_;rintro e w3 ⟨rfl,rfl⟩;go_wp2_with fail
      refine(zgb _ _ Y sp om).mono ?_;rintro e w4 ⟨a1,rfl,l,j⟩;go_wp2;go_ret2;have hq:=natV_trim (n:=h.length) T a5 (by rw[U.size];exact a9) aa u;have a7:m/d=val D:=by rw[<-y,X];rw[Nat.mul_add_div om,jH R,qV]
      have ad:m%d=Y:=by rw[<-y,X];rw[Nat.mul_add_mod,Jk R]
      have L:Below c.heap.size c w3:=JJ (o.trans (U.below hg));exact⟨_,_,rfl,by rw[a7];exact hq.below j,by rw[ad];exact l,L.trans (j.mono L.size)⟩
    ·have au:((g.length:Int) == 1)=false:=ZN.2 om;have af:4294967296<=n:=by
      have ax:1<g.length:=by
       have:g.length≠0:=fun e=>i (by rw[<-z,Qk.1 e];rfl)
       omega
      obtain⟨s,hj⟩:∃s,g.length=s+1:=⟨g.length-1,om⟩;have h3:=an.le s hj;have h4:=pow_mono (show 1<=s by omega);omega
     go_enter func75,ntmps75
     go_wp2_with fail
     refine(jW _ _ _ a i).mono ?_;rintro e c ⟨rfl,rfl⟩;go_wp2_with fail
     refine(compare_any c _ _ m n K b a hm k om).mono ?_;rintro e f ⟨rfl,q,rfl⟩;generalize Jy m n=C at *;go_wp2_with fail
     refine(hL _ _ _ m n (b.drewN q) (a.drewN q) hm om om af).mono ?_;rintro e w2 ⟨a0,a1,rfl,A,l,o⟩;go_wp2;go_ret2;exact⟨_,_,rfl,A,l,JJ o⟩
structure zn (B:Nat)(W W':H):Prop where
 os:W'.os=W.os
 tape:W'.tape=W.tape
 output:W'.output=W.output
 size:W.heap.size<=W'.heap.size
 block:∀(k:Nat) (o:Obj),W.heap[k]? =E o->(k<B\/o.isCells=true)->W'.heap[k]? =E o
theorem zn.refl(B:Nat)(W:H):zn B W W:=⟨rfl,rfl,rfl,zh _,fun _ _ h _=>h⟩
theorem zn.trans{X Y Z:H}(h:zn B X Y)(k:zn B Y Z):zn B X Z:=
 ⟨k.os.trans h.os,k.tape.trans h.tape,k.output.trans h.output,zF h.size k.size,fun i o b a=>k.block i o (h.block i o b a) a⟩
theorem zn.mono{B':Nat}{a:H}(h:zn B W a)(b:B'<=B):zn B' W a:=
 ⟨h.os,h.tape,h.output,h.size,fun k o a c=>h.block k o a (c.imp (fun h=>zK h b) id)⟩
theorem zn.of_below{a:H}(h:Below W.heap.size W a):zn B W a:=
 ⟨h.os,h.tape,h.output,h.size,fun k _ a _=>(h.block k (zd.1 a).1).trans a⟩
theorem zn.alloc(B:Nat)(W:H)(o:Obj):zn B W (W.alloc o):=zn.of_below ((qf _ _).alloc (zh _) o)
theorem zn.putObj{o:Obj}(a:Obj)(c:B<=l)(b:W.heap[l]? =E o)(ho:o.isCells=false):zn B W (W.putObj l a):=
 ⟨rfl,rfl,rfl,sp,fun k x a d=>by
  have c:k≠l:=by
   intro e;subst e;rw[b]at a;cases a;rcases d with h|h
   ·omega
   ·rw[ho]at h;cases h
  exact(Z4 c).trans a⟩
theorem zn.below{a:Nat}{b:H}(h:zn B W b)(hb:Below a w W)(c:a<=B)(d:a<=w.heap.size):Below a w b:=
 ⟨h.os.trans hb.os,h.tape.trans hb.tape,h.output.trans hb.output,zF hb.size h.size,fun k b=>by
  have a:k<W.heap.size:=by have:=hb.size;omega
  rw[<-hb.block k b,qD a];exact h.block k _ (qD a) (.inl om)⟩
theorem cells_of_cell(h:W.cell? p=E v):∃o:Obj,W.heap[p.block]? =E o/\o.isCells=true:=by
 unfold World.cell? at h;cases ho:W.heap[p.block]? with
 |none=>simp[ho]at h
 |some o=>exact⟨o,rfl,by cases o<;>simp_all[Obj.isCells]⟩
theorem zn.cell{a:H}(h:zn B W a)(b:W.cell? p=E v):a.cell? p=E v:=by
 have⟨o,a,c⟩:=cells_of_cell b;exact(Zj ((h.block _ o a (.inr c)).trans a.symm)).trans b
theorem zn.frozen{a:H}(h:zn B W a)(b:W.cell? p=E v):a.frozen? p=W.frozen? p:=by
 have⟨o,a,c⟩:=cells_of_cell b;exact qw ((h.block _ o a (.inr c)).trans a.symm)
theorem zn.drewN(B:Nat)(W:H)(q:Nat):zn B W (W.drewN q):=⟨rfl,rfl,rfl,zh _,fun _ _ h _=>h⟩
theorem Below.drawn{a:H}(h:Below B a w)(q:Nat):Below B a (w.drewN q):=h.trans ⟨rfl,rfl,rfl,zh _,fun _ _=>rfl⟩
structure Wr (T:Nat->Prop)(w w':H):Prop where
 os:w'.os=w.os
 tape:w'.tape=w.tape
 output:w'.output=w.output
 size:w.heap.size<=w'.heap.size
 block:∀k,k<w.heap.size->¬T k->w'.heap[k]? =w.heap[k]?
theorem Wr.refl(T:Nat->Prop)(w:H):Wr T w w:=⟨rfl,rfl,rfl,zh _,fun _ _ _=>rfl⟩
abbrev Xj:=@Wr.refl
theorem Wr.trans{T:Nat->Prop}{a b c:H}(h:Wr T a b)(k:Wr T b c):Wr T a c:=
 ⟨k.os.trans h.os,k.tape.trans h.tape,k.output.trans h.output,zF h.size k.size,fun i d e=>(k.block i (zK d h.size) e).trans (h.block i d e)⟩
theorem Wr.of_below{T:Nat->Prop}(h:Below w.heap.size w w'):Wr T w w':=⟨h.os,h.tape,h.output,h.size,fun k a _=>h.block k a⟩
abbrev Xg:=@Wr.of_below
theorem Wr.setCell{T:Nat->Prop}{a:H}(h:Wr T a w)(c:T p.block)(u:Value):Wr T a (w.setCell p u):=
 h.trans ⟨rfl,rfl,rfl,by simp[World.setCell],fun k _ b=>qC _ _ _ _ (fun e=>b (e▸c))⟩
abbrev Xs:=@Wr.setCell
theorem Wr.mono{T a:Nat->Prop}(h:Wr T w w')(c:∀k,T k->a k):Wr a w w':=⟨h.os,h.tape,h.output,h.size,fun k a b=>h.block k a (fun e=>b (c k e))⟩
theorem Wr.below{T:Nat->Prop}(h:Wr T w w')(b:B<=w.heap.size)(a:∀k,T k->B<=k):Below B w w':=
 ⟨h.os,h.tape,h.output,h.size,fun k b=>h.block k om (fun e=>by have:=a k e;omega)⟩
theorem Wr.cell{T:Nat->Prop}(h:Wr T w w')(b:¬T p.block)(a:w.cell? p=E v):w'.cell? p=E v:=
 (Zj (h.block p.block (zw a) b)).trans a
theorem YieldAt.any(m:Nat){args:W_}{R:Ending->H->Prop}(h:YieldAt Fence.wide n P l args W R):YieldAt Fence.wide m P l args W R:=by
 have⟨d,f,b,c,e,a⟩:=h;exact⟨d,f,b,c,e,a.1,fun c cs _=>a.2 c cs (room_wide _)⟩
abbrev XA:=@YieldAt.any
def SeqL (P:Program)(g:Nat)(lb:W_)(vs:List (W_))(C:H->Prop):Prop:=
 ∀(l:Nat) (J:Nat->(Nat->Prop)->H->Prop) (Jx:Nat->H->Prop) (M0:Nat->Prop) (W:H),
  (∀k M A B,J k M A->zn W.heap.size A B->J k M B)->(∀k A B,Jx k A->zn W.heap.size A B->Jx k B)->
  (∀k M A,J k M A->C A/\∀x,M x->x<A.heap.size)->
  (∀k v M W1,vs[k]? =E v->J k M W1->YieldAt Fence.wide 0 P l v W1 fun e W'=>
   (e=Xa (G true)/\Wr M W1 W'/\∃M',J (k+1) M' W'/\∀x,M' x->M x\/W1.heap.size<=x)\/(e=Xa (G false)/\Wr M W1 W'/\Jx k W'))->
  J 0 M0 W->
  Calls P g (#[.func (.yield l) #[] #[]]++lb) W fun e W'=>(∃v,e=Xa v)/\((∃M,J vs.length M W')\/∃k,k<vs.length/\Jx k W')
def ZL (M:Nat->Prop)(I:Nat->(Nat->Prop)->H->Prop)(Ix:Code->Nat->H->Prop)(k:Nat)(W W2:H):Exit->Act->H->Prop
 |.normal,_,W'=>Wr M W2 W'/\∃M',I (k+1) M' W'/\∀x,M' x->M x\/W.heap.size<=x
 |.ret,_,W'=>Wr M W2 W'/\Ix .ret k W'
 |.exit id,_,W'=>Wr M W2 W'/\Ix (.exit id) k W'
 |.goto t,_,W'=>Wr M W2 W'/\Ix (.goto t) k W'
 |.panic _,_,_=>False
 |.outgrown,_,_=>False
def Zz (P:Program)(n B:Nat)(M:Nat->Prop)(I:Nat->(Nat->Prop)->H->Prop)(Ix:Code->Nat->H->Prop)(ps:Array Tmp)(assign body:Code)(a:Act)(l k:Nat)(v:W_)(W:H):Prop:=
 assign.wpIn (Fence.wide.inRound l) n P
  (Exit.then (fun a' W'=>Wr M W W'/\∀W2,zn B W' W2->body.wpIn (Fence.wide.inRound l) n P (ZL M I Ix k W W2) a' W2) (fun _ _ _=>False))
  { tmps:=(ps.zip v).foldl (fun t (p,u)=>t.setIfInBounds p u) a.tmps,defers:= [] } W
theorem Wr.putObj{T:Nat->Prop}(b:T l)(o:Obj):Wr T w (w.putObj l o):=
 ⟨rfl,rfl,rfl,sp,fun k _ a=>Z4 (fun e=>a (e▸b))⟩
theorem Wr.some{T:Nat->Prop}(h:Wr T w w'){o:Obj}(ho:w.heap[k]? =Option.some o)(a:¬T k):w'.heap[k]? =Option.some o:=
 (h.block k (zd.1 ho).1 a).trans ho
def zfH (M:Nat->Prop)(I:Nat->(Nat->Prop)->H->Prop)(Ix:Code->Nat->H->Prop)(k:Nat)(W W2:H):Exit->Act->H->Prop
 |.normal,_,W'=>Wr (fun x=>M x\/W.heap.size<=x) W2 W'/\∃M',I (k+1) M' W'/\∀x,M' x->M x\/W.heap.size<=x
 |.ret,_,W'=>Wr (fun x=>M x\/W.heap.size<=x) W2 W'/\Ix .ret k W'
 |.exit id,_,W'=>Wr (fun x=>M x\/W.heap.size<=x) W2 W'/\Ix (.exit id) k W'
 |.goto t,_,W'=>Wr (fun x=>M x\/W.heap.size<=x) W2 W'/\Ix (.goto t) k W'
 |.panic _,_,_=>False
 |.outgrown,_,_=>False
def zdj (P:Program)(n B:Nat)(M:Nat->Prop)(I:Nat->(Nat->Prop)->H->Prop)(Ix:Code->Nat->H->Prop)(ps:Array Tmp)(assign body:Code)(a:Act)(l k:Nat)(v:W_)(W:H):Prop:=
 assign.wpIn (Fence.wide.inRound l) n P
  (Exit.then (fun a' W'=>Wr M W W'/\∀W2,zn B W' W2->body.wpIn (Fence.wide.inRound l) n P (zfH M I Ix k W W2) a' W2) (fun _ _ _=>False))
  { tmps:=(ps.zip v).foldl (fun t (p,u)=>t.setIfInBounds p u) a.tmps,defers:= [] } W
theorem zlu{M N:Nat->Prop}{X Y:H}(h:Wr M W X)(k:Wr (fun x=>N x\/W.heap.size<=x) X Y)(d:∀x,N x->M x):Wr M W Y:=
 ⟨k.os.trans h.os,k.tape.trans h.tape,k.output.trans h.output,zF h.size k.size,fun b a c=>
  (k.block b (zK a h.size) (fun e=>e.elim (fun e=>c (d b e)) (fun e=>om))).trans (h.block b a c)⟩
theorem Zz.wk{M:Nat->Prop}{I:Nat->(Nat->Prop)->H->Prop}{b:Code->Nat->H->Prop}{e:Array Tmp}{c d:Code}{a:Act}{v:W_}(h:Zz P n B M I b e c d a l k v W):zdj P n B M I b e c d a l k v W:=by
 refine zbI h fun e a w b=>?_
 cases e with
 |normal=>
  refine⟨b.1,fun c d=>zbI (b.2 c d) fun e a w h=>?_⟩;cases e<;>first|exact⟨h.1.mono fun _=> .inl,h.2⟩|exact h
 |_=>exact b
theorem zm0{A B:H}(h:Wr (fun _=>False) A B):zn m A B:=zn.of_below (h.below (zh _) fun _ e=>e.elim)
def SeqG (F:Nat->H->Nat->Prop)(NN:H->Nat->Prop)(P:Program)(g:Nat)(lb:W_)(n:Nat)(Y:Nat->W_->H->Prop)(C:H->Prop):Prop:=
 ∀(l:Nat) (J:Nat->(Nat->Prop)->H->Prop) (Jx:Nat->H->Prop) (M0:Nat->Prop) (W:H),
  (∀k M A B,J k M A->zn W.heap.size A B->J k M B)->(∀k A B,Jx k A->zn W.heap.size A B->Jx k B)->
  (∀k M A B,J k M A->Wr (F W.heap.size A) A B->J k M B)->(∀k A B,Jx k A->Wr (F W.heap.size A) A B->Jx k B)->
  (∀k M A,J k M A->C A/\∀x,M x->x<A.heap.size/\NN A x)->
  (∀k v M W1,k<n->Y k v W1->J k M W1->YieldAt Fence.wide 0 P l v W1 fun e W'=>
   (e=Xa (G true)/\Wr M W1 W'/\∃M',J (k+1) M' W'/\∀x,M' x->M x\/W1.heap.size<=x)\/(e=Xa (G false)/\Wr M W1 W'/\Jx k W'))->
  J 0 M0 W->
  Calls P g (#[.func (.yield l) #[] #[]]++lb) W fun e W'=>(∃v,e=Xa v)/\((∃M,J n M W')\/∃k,k<n/\Jx k W')
theorem zkm{g:Operand}{h:Array Tmp}{t u:Code}{a:Act}{w:H}{f:Nat}{j:W_}{F:Nat->H->Nat->Prop}{NN:H->Nat->Prop}(z:∀B W b,F B W b->B<=b)(R:∀B B' W b,B<=B'->F B' W b->F B W b)(a0:∀W b o,W.heap[b]? =E o->o.isCells=false->NN W b)(y:SeqG F NN P f j e Y C)(hg:a.eval g= .func (.func f) #[] j)(p:∀args w,(callFunc f args).run P w= .ok (.enter f args) w)(a2:∀k v W,Y k v W->v.size=h.size)(I:Nat->(Nat->Prop)->H->Prop)(d:Code->Nat->H->Prop)(M0:Nat->Prop)(U:∀k M A B,I k M A->zn w.heap.size A B->I k M B)(K:∀c k A B,d c k A->zn w.heap.size A B->d c k B)(X:∀k M A B,I k M A->Wr (F w.heap.size A) A B->I k M B)(Z:∀c k A B,d c k A->Wr (F w.heap.size A) A B->d c k B)(L:∀k M A,I k M A->C A/\∀x,M x->x<A.heap.size/\NN A x)(m:I 0 M0 w)(a4:∀(l k:Nat) (v:W_) (M:Nat->Prop) (W:H),k<e->Y k v W->I k M W->zdj P n w.heap.size M I d h t u a l k v W)(a1:∀(D:Nat) (M:Nat->Prop) (W:H),D=w.heap.size->(∀x,M x->x<D\/D+2<=x)->I e M W->W.heap[D]? =E (.deferred (E []))->Q .normal { a with defers:={ target:= .collected D,args:=#[] } :: a.defers } W)(a5:∀(D:Nat) (c:Code) (k:Nat) (W:H),w.heap.size<=D->k<e->d c k W->W.heap[D]? =E (.deferred (E []))->c.wpIn Fence.wide n P Q { a with defers:={ target:= .collected D,args:=#[] } :: a.defers } W):
 (Code.rangeFunc g h t u).wpIn Fence.wide n P Q a w:=by
 refine wpIn_rangeFunc fun T _=>?_
 obtain⟨i,hrc⟩:∃i:LoopState->Option Code->Loop,i=fun q e=>⟨q,e,T,a.tmps,h,t,u,w.heap.size⟩:=⟨_,rfl⟩
 obtain⟨e,hW0⟩:∃e,(w.alloc (.deferred (E []))).alloc (.loop (i .ready O))=e:=⟨_,rfl⟩;obtain⟨l,hl⟩:∃l,w.heap.size+1=l:=⟨_,rfl⟩;have s:e.heap[l]? =E (.loop (i .ready O)):=by
  rw[<-hW0,<-hl];have h:=qR (w.alloc (.deferred (E []))) (.loop (i .ready O));rwa [zL]at h
 have q:e.heap[w.heap.size]? =E (.deferred (E [])):=by
  rw[<-hW0];exact(qH _ _ _ sp).trans (qR w _)
 have r:I 0 M0 e:=U _ _ _ _ m (by rw[<-hW0];exact(zn.alloc _ _ _).trans (zn.alloc _ _ _));have J:e.heap.size=w.heap.size+2:=by rw[<-hW0];simp
 have J:w.heap.size<=e.heap.size:=om;refine⟨l,[{ target:= .collected w.heap.size,args:=#[] }],e,{ target:= .fn (.func f) j,args:=#[.func (.yield l) #[] #[]] },e,f,
  #[.func (.yield l) #[] #[]]++j,e,?_,?_,fun _ _=>trivial,?_,(fun h=>by cases h),zq.2 ?_⟩
 ·rw[<-hW0,<-hl,hrc];exact run_enterLoop_outer _ _ _ _ _
 ·simp only[resolve,hg];simp[go_sem]
 ·simp[invoke,go_sem,p]
 ·refine(y l
   (fun k M W=>∃N,(∀x,M x↔N x\/x=l)/\I k N W/\(∀x,N x->x<w.heap.size\/e.heap.size<=x)/\W.heap[l]? =E (.loop (i .ready O))/\W.heap[w.heap.size]? =E (.deferred (E [])))
   (fun k W=>∃c,d c k W/\W.heap[l]? =E (.loop (i .done (E c)))/\W.heap[w.heap.size]? =E (.deferred (E [])))
   (fun x=>M0 x\/x=l) e ?_ ?_ ?_ ?_ ?_ ?_ ⟨M0,fun _=>Qb,r,fun x f=> .inl ((L _ _ _ m).2 x f).1,s,q⟩).mono ?_
  ·rintro k M A B ⟨N,p,m,r,s,y⟩ d;exact⟨N,p,U _ _ _ _ m (d.mono J),r,d.block _ _ s (.inl om),d.block _ _ y (.inl om)⟩
  ·rintro k A B ⟨c,p,m,r⟩ d;exact⟨c,K _ _ _ _ p (d.mono J),d.block _ _ m (.inl om),d.block _ _ r (.inl om)⟩
  ·rintro k M A B ⟨N,p,m,r,s,y⟩ d;exact⟨N,p,X _ _ _ _ m (d.mono (fun k q=>R _ _ _ _ J q)),r,d.some s (fun j=>by have:=z _ _ _ j;omega),d.some y (fun j=>by have:=z _ _ _ j;omega)⟩
  ·rintro k A B ⟨c,p,m,r⟩ d;exact⟨c,Z _ _ _ _ p (d.mono (fun k q=>R _ _ _ _ J q)),d.some m (fun j=>by have:=z _ _ _ j;omega),d.some r (fun j=>by have:=z _ _ _ j;omega)⟩
  ·rintro k M A ⟨N,p,m,r,s,y⟩;refine⟨(L _ _ _ m).1,fun x f=>?_⟩;rcases(p x).1 f with h|h
   ·exact(L _ _ _ m).2 x h
   ·rw[h];exact⟨(zd.1 s).1,a0 _ _ _ s rfl⟩
  ·rintro k v M W J p ⟨N,y,R,L,m,z⟩;have r:=run_yield (P:=P) (args:=v) m (by rw[hrc];exact a2 k v W p);rw[hrc]at r;have Z:¬N l:=fun h=>by rcases L l h with h|h<;>omega
   have s:¬N w.heap.size:=fun h=>by rcases L _ h with h|h<;>omega
   have X:e.heap.size<=W.heap.size:=by
    have:=(zd.1 m).1;omega
   have up:∀{X Y:H},Wr N X Y->Wr M X Y:=fun h=>h.mono fun x f=>(y x).2 (.inl f)
   refine XA 0 (n:=n) ⟨T,_,t,u,r,roundIn_of_wpIn trivial (zbI (a4 l k v N W J p R) ?_)⟩;rintro j e e J;cases j with
   |normal=>
    obtain⟨q,d⟩:=J;have p:=q.some m Z;have r:=q.some z s;refine⟨_,run_beginRound p (by rw[hrc]),?_⟩;have u:(e.putObj l (.loop { i .ready O with state:= .busy })).heap[l]? =E (.loop { i .ready O with state:= .busy }):=World.putObj_heap_same (zd.1 p).1;have t:(e.putObj l (.loop { i .ready O with state:= .busy })).heap[w.heap.size]? =E (.deferred (E [])):=(Z4 om).trans r;have X:Wr M W (e.putObj l (.loop { i .ready O with state:= .busy })):=(up q).trans (Wr.putObj ((y l).2 (.inr rfl)) _);refine zbI (d _ (zn.putObj _ om p rfl)) ?_;have T:∀(p:Option Code) (d:H),Wr (fun x=>N x\/W.heap.size<=x) (e.putObj l (.loop { i .ready O with state:= .busy })) d->
     ∃e,(Instr.endRound l p).run P d= .ok (G p.isNone) e/\zn w.heap.size d e/\Wr M W e/\
      e.heap[l]? =E (.loop (i (if p.isNone then .ready else .done) p))/\e.heap[w.heap.size]? =E (.deferred (E [])):=fun p d i=>by
     have r:=i.some u (fun h=>h.elim Z (fun h=>by have:=(zd.1 m).1;omega));have u:=i.some t (fun h=>h.elim s (fun h=>by have:=(zd.1 z).1;omega));refine⟨_,run_endRound p r,zn.putObj _ om r rfl,(zlu X i (fun x f=>(y x).2 (.inl f))).trans (Wr.putObj ((y l).2 (.inr rfl)) _),?_,(Z4 om).trans u⟩;rw[World.putObj_heap_same (zd.1 r).1,hrc]
    rintro j i d i;cases j with
    |normal=>
     obtain⟨Z,X,a0,Y⟩:=i;obtain⟨e,t,r,u,s,p⟩:=T O d Z;refine⟨_,_,t,.inl ⟨rfl,u,fun x=>X x\/x=l,⟨X,fun _=>Qb,U _ _ _ _ a0 r,fun x f=>?_,s,p⟩,fun x f=>?_⟩⟩
     ·rcases Y x f with h|h
      ·exact L x h
      ·exact .inr om
     ·rcases f with h|h
      ·rcases Y x h with h|h
       ·exact .inl ((y x).2 (.inl h))
       ·exact .inr h
      ·exact .inl ((y x).2 (.inr h))
    |ret=>
     obtain⟨e,t,r,u,s,p⟩:=T (E .ret) d i.1;exact⟨_,_,t,.inr ⟨rfl,u,.ret,K _ _ _ _ i.2 r,s,p⟩⟩
    |exit id=>
     obtain⟨e,t,r,u,s,p⟩:=T (E (.exit id)) d i.1;exact⟨_,_,t,.inr ⟨rfl,u,.exit id,K _ _ _ _ i.2 r,s,p⟩⟩
    |goto y=>
     obtain⟨e,t,r,u,s,p⟩:=T (E (.goto y)) d i.1;exact⟨_,_,t,.inr ⟨rfl,u,.goto y,K _ _ _ _ i.2 r,s,p⟩⟩
    |panic d=>exact i.elim
    |outgrown=>exact i.elim
   |ret=>exact J.elim
   |exit id=>exact J.elim
   |goto y=>exact J.elim
   |panic d=>exact J.elim
   |outgrown=>exact J.elim
  ·rintro j d ⟨⟨v,rfl⟩,(⟨M,N,_,R,L,m,z⟩|⟨k,q,c,R,m,z⟩)⟩
   ·refine⟨O,_,(by have h:=run_endLoop (P:=P) m (by rw[hrc];simp);rw[hrc]at h;exact h),?_⟩;exact a1 _ N _ rfl (fun x f=>(L x f).imp id (fun h=>om)) (U _ _ _ _ R (zn.putObj _ om m rfl)) ((Z4 om).trans z)
   ·refine⟨E c,_,(by have h:=run_endLoop (P:=P) m (by rw[hrc];simp);rw[hrc]at h;exact h),?_⟩;exact a5 _ c k _ (zh _) q (K _ _ _ _ R (zn.putObj _ om m rfl)) ((Z4 om).trans z)
def Ja (P:Program)(g:Nat)(lb:W_)(n:Nat)(Y:Nat->W_->H->Prop)(C:H->Prop):Prop:=
 ∀(l:Nat) (J:Nat->(Nat->Prop)->H->Prop) (Jx:Nat->H->Prop) (M0:Nat->Prop) (W:H),
  (∀k M A B,J k M A->zn W.heap.size A B->J k M B)->(∀k A B,Jx k A->zn W.heap.size A B->Jx k B)->
  (∀k M A,J k M A->C A/\∀x,M x->x<A.heap.size)->
  (∀k v M W1,k<n->Y k v W1->J k M W1->YieldAt Fence.wide 0 P l v W1 fun e W'=>
   (e=Xa (G true)/\Wr M W1 W'/\∃M',J (k+1) M' W'/\∀x,M' x->M x\/W1.heap.size<=x)\/(e=Xa (G false)/\Wr M W1 W'/\Jx k W'))->
  J 0 M0 W->
  Calls P g (#[.func (.yield l) #[] #[]]++lb) W fun e W'=>(∃v,e=Xa v)/\((∃M,J n M W')\/∃k,k<n/\Jx k W')
theorem Ja.gen{F:Nat->H->Nat->Prop}{NN:H->Nat->Prop}{a:W_}(h:Ja P g a n Y C):SeqG F NN P g a n Y C:=fun l J b c W d e _ _ a f i=>h l J b c W d e (fun k M A e=>⟨(a k M A e).1,fun x b=>((a k M A e).2 x b).1⟩) f i
theorem SeqL.seq{b:W_}{a:List (W_)}(h:SeqL P g b a C):Ja P g b a.length (fun k v _=>a[k]? =E v) C:=
 fun l J a b W c d e f i=>h l J a b W c d e (fun k v M b a c=>f k v M b (zo.1 a).1 a c) i
theorem zdG{g:Operand}{f:Array Tmp}{a:Act}{w:H}{e:Nat}{p:W_}(y:Ja P e p d Y C)(hg:a.eval g= .func (.func e) #[] p)(q:∀args w,(callFunc e args).run P w= .ok (.enter e args) w)(t:∀k v W,Y k v W->v.size=f.size)(I:Nat->(Nat->Prop)->H->Prop)(b:Code->Nat->H->Prop)(M0:Nat->Prop)(m:∀k M A B,I k M A->zn w.heap.size A B->I k M B)(o:∀c k A B,b c k A->zn w.heap.size A B->b c k B)(j:∀k M A,I k M A->C A/\∀x,M x->x<A.heap.size)(r:I 0 M0 w)(u:∀(l k:Nat) (v:W_) (M:Nat->Prop) (W:H),k<d->Y k v W->I k M W->zdj P n w.heap.size M I b f h i a l k v W)(s:∀(D:Nat) (M:Nat->Prop) (W:H),w.heap.size<=D->I d M W->W.heap[D]? =E (.deferred (E []))->Q .normal { a with defers:={ target:= .collected D,args:=#[] } :: a.defers } W)(z:∀(D:Nat) (c:Code) (k:Nat) (W:H),w.heap.size<=D->k<d->b c k W->W.heap[D]? =E (.deferred (E []))->c.wpIn Fence.wide n P Q { a with defers:={ target:= .collected D,args:=#[] } :: a.defers } W):
 (Code.rangeFunc g f h i).wpIn Fence.wide n P Q a w:=
 zkm (F:=fun _ _ _=>False) (fun _ _ _ h=>h.elim) (fun _ _ _ _ _ h=>h) (fun _ _ _ _ _=>trivial) y.gen hg q t I b M0 m o (fun k M A B h b=>m k M A B h (zm0 b)) (fun c k A B h b=>o c k A B h (zm0 b)) (fun k M A h=>⟨(j k M A h).1,fun x b=>⟨(j k M A h).2 x b,trivial⟩⟩) r u (fun D M W e _=>s D M W (jm e.symm)) z
theorem ZT{g:Operand}{f:Array Tmp}{a:Act}{w:H}{e:Nat}{j:W_}(y:Ja P e j d Y C)(hg:a.eval g= .func (.func e) #[] j)(m:∀args w,(callFunc e args).run P w= .ok (.enter e args) w)(t:∀k v W,Y k v W->v.size=f.size)(I:Nat->(Nat->Prop)->H->Prop)(b:Code->Nat->H->Prop)(M0:Nat->Prop)(q:∀k M A B,I k M A->zn w.heap.size A B->I k M B)(r:∀c k A B,b c k A->zn w.heap.size A B->b c k B)(p:∀k M A,I k M A->C A/\∀x,M x->x<A.heap.size)(o:I 0 M0 w)(u:∀(l k:Nat) (v:W_) (M:Nat->Prop) (W:H),k<d->Y k v W->I k M W->Zz P n w.heap.size M I b f h i a l k v W)(s:∀(D:Nat) (M:Nat->Prop) (W:H),w.heap.size<=D->I d M W->W.heap[D]? =E (.deferred (E []))->Q .normal { a with defers:={ target:= .collected D,args:=#[] } :: a.defers } W)(z:∀(D:Nat) (c:Code) (k:Nat) (W:H),w.heap.size<=D->k<d->b c k W->W.heap[D]? =E (.deferred (E []))->c.wpIn Fence.wide n P Q { a with defers:={ target:= .collected D,args:=#[] } :: a.defers } W):
 (Code.rangeFunc g f h i).wpIn Fence.wide n P Q a w:=
 zdG y hg m t I b M0 q r p o (fun l k v M W a b c=>(u l k v M W a b c).wk) s z
theorem zaW{g:Operand}{f:Array Tmp}{a:Act}{w:H}{e:Nat}{j:W_}{d:List (W_)}(y:SeqL P e j d C)(hg:a.eval g= .func (.func e) #[] j)(m:∀args w,(callFunc e args).run P w= .ok (.enter e args) w)(t:∀v∈d,v.size=f.size)(I:Nat->(Nat->Prop)->H->Prop)(b:Code->Nat->H->Prop)(M0:Nat->Prop)(q:∀k M A B,I k M A->zn w.heap.size A B->I k M B)(r:∀c k A B,b c k A->zn w.heap.size A B->b c k B)(p:∀k M A,I k M A->C A/\∀x,M x->x<A.heap.size)(o:I 0 M0 w)(u:∀(l k:Nat) (v:W_) (M:Nat->Prop) (W:H),d[k]? =E v->I k M W->Zz P n w.heap.size M I b f h i a l k v W)(s:∀(D:Nat) (M:Nat->Prop) (W:H),w.heap.size<=D->I d.length M W->W.heap[D]? =E (.deferred (E []))->Q .normal { a with defers:={ target:= .collected D,args:=#[] } :: a.defers } W)(z:∀(D:Nat) (c:Code) (k:Nat) (W:H),w.heap.size<=D->k<d.length->b c k W->W.heap[D]? =E (.deferred (E []))->c.wpIn Fence.wide n P Q { a with defers:={ target:= .collected D,args:=#[] } :: a.defers } W):
 (Code.rangeFunc g f h i).wpIn Fence.wide n P Q a w:=
 ZT y.seq hg m (fun k v W h=>t v (zx h)) I b M0 q r p o (fun l k v M W _ b c=>u l k v M W b c) s z
theorem qh{a:Func}{tmps:W_}{R:Ending->H->Prop}{ds:List Deferred}(b:W.heap[D]? =E (.deferred (E [])))(h:LeavesInM Fence.wide n P a tmps R ds .returning (W.putObj D (.deferred O))):
 LeavesInM Fence.wide n P a tmps R ({ target:= .collected D,args:=#[] } :: ds) .returning W:=
 ⟨sp,.inl ⟨_,_,rfl,run_takeDeferred b,h⟩⟩
theorem jr{a:Act}{next:Act->H->Prop}{v:W_}{R1 R2:H->Prop}(h:YieldAt Fence.wide 0 P l v W fun e W'=>(e=Xa (G true)/\R1 W')\/(e=Xa (G false)/\R2 W'))(h1:∀W',R1 W'->next (a.put o.dst (G true)) W')(h2:∀W',R2 W'->next (a.put o.dst (G false)) W'):
 Oper.uponIn Fence.wide n P o a next Q ((Instr.yield l v).run P W):=by
 obtain⟨fn,tmps,assign,body,hy,hR⟩:=XA (n-1) h;rw[hy];refine⟨(fun h=>by cases h),hR.mono ?_⟩;rintro e W' (⟨rfl,h3⟩|⟨rfl,h3⟩);·exact h1 W' h3
 ·exact h2 W' h3
theorem JS{a:Act}{next:Act->H->Prop}{v:W_}{R1 R2:H->Prop}(h:YieldAt Fence.wide 0 P l v W fun e W'=>(e=Xa (G true)/\R1 W')\/(e=Xa (G false)/\R2 W'))(h1:∀W',R1 W'->next (a.put o.dst (G true)) W')(h2:∀W',R2 W'->next (a.put o.dst (G false)) W'):
 Oper.uponIn (Fence.wide.inRound m) n P o a next Q ((Instr.yield l v).run P W):=by
 obtain⟨fn,tmps,assign,body,hy,hR⟩:=XA (n-1) h;rw[hy];refine⟨(fun h=>by cases h),RoundIn.mono (F:=Fence.wide.inRound m) hR ?_⟩;rintro e W' (⟨rfl,h3⟩|⟨rfl,h3⟩);·exact h1 W' h3
 ·exact h2 W' h3
theorem zgw(m n:Nat){v:W_}{f g:H->Prop}(h:YieldAt Fence.wide 0 P l v W fun e a=>(e=Xa (G true)/\f a)\/(e=Xa (G false)/\g a)):
 ∃d tmps b c,(Instr.yield l v).run P W= .ok (.round l d tmps b c) W/\
  RoundIn (Fence.wide.inRound m) n P l d tmps b c W fun e a=>∃t,e=Xa (G t)/\Hid ((t=true->f a)/\(t=false->g a)):=by
 obtain⟨d,tmps,b,c,g,f⟩:=XA n h;refine⟨d,tmps,b,c,g,RoundIn.mono (F:=Fence.wide.inRound m) f ?_⟩;rintro e a (⟨rfl,a⟩|⟨rfl,a⟩);·exact⟨true,rfl,fun _=>a,fun h=>by cases h⟩
 ·exact⟨false,rfl,(fun h=>by cases h),fun _=>a⟩
theorem zn.drew(B:Nat)(W:H):zn B W W.drew:=⟨rfl,rfl,rfl,zh _,fun _ _ h _=>h⟩
theorem Wr.drew(T:Nat->Prop)(W:H):Wr T W W.drew:=⟨rfl,rfl,rfl,zh _,fun _ _ _=>rfl⟩
abbrev Xp:=@Wr.drew
theorem zW:(Fence.wide.depth=O)=True:=by simp[Fence.wide]
theorem qJ(f:Nat):Fence.wide.fn f=True:=rfl
theorem zef(z:Int)(a:-9223372036854775808<=z)(h1:z<=9223372036854775807)(w:H)(b:Lib.TabIs pg w "internal/strconv.uint64pow10" .u64 Lib.pow10Tab):
 C_ 6 #[i_ z] w fun e w'=>e=Xa (gS ⟨(Lib.itoa z).toArray⟩)/\Below w.heap.size w w':=by
 go_enter func6,ntmps6
 go_wp2_with fail
 apply(Tryz.strconv_Itoa z a h1 w b).mono;rintro e a ⟨rfl,k,a,rfl⟩;go_wp2;go_ret;exact⟨rfl,Go.Lib.below_grow _ w (zh _) k a⟩
def overText (a b:Int):U_:=Lib.itoa a++([47]++Lib.itoa b)
theorem zmn{v P Q:Nat}(d:0<P)(c:lead*P<=v)(f:0<v)(e:u<(high+1)*P)(b:0<lead)(a:Q=u/v):Q<=high/lead:=by
 subst a;rw[Nat.le_div_iff_mul_le b];have a:=zd9 u v;have a:u/v*_<=u/v*v:=Zr _ c;have a:(u/v*lead)*P<(high+1)*P:=by
  rw[Zt];omega
 exact Nat.lt_succ_iff.1 (zb4 a)
theorem znm{v P a Q:Nat}(d:a*P<=v)(e:0<v)(f:u<(b+1)*P)(hg:b<g*a)(c:Q=u/v):Q<g:=by
 subst c;rw[QC e];have c:(b+1)*P<=g*a*P:=zZ _ hg;have b:g*(a*P)<=g*v:=Zr _ d;rw[<-Zt]at b;omega
theorem zmo{v P a Q:Nat}(d:v<(a+1)*P)(e:0<v)(h:b*P<=u)(hg:g*a<=b)(f:g<=a)(c:Q=u/v):g<=Q+1:=by
 have f:u<(Q+1)*v:=(QC e).1 (by rw[c];exact Nat.lt_succ_self _);rcases Qc (Q+1) g with h|h
 ·exfalso
  obtain⟨k,rfl⟩:∃k,g=k+1:=⟨g-1,om⟩;have c:(Q+1)*v<=k*v:=zZ _ om;have c:k*v<=k*_:=Zr _ (zcw d);have c:(k+1)*a*P<=b*P:=zZ _ hg;have b:k*((a+1)*P)=(k*a+k)*P:=by rw[<-Zt,Zs,jM]
  have b:(k+1)*a*P=(k*a+a)*P:=by rw[Zg,Jv]
  have b:(k*a+a)*P<(k*a+k)*P:=om;have a:=zb4 b;omega
 ·exact h
theorem znn{a v W:Nat}(b:a<W)(h:a+f*v=u+W*r)(c:f*v<=u)(d:u<W):r=0/\a=u-f*v:=by
 rcases Qd r with b|b
 ·subst b;exact⟨rfl,om⟩
 ·have:W*1<=W*r:=Zr _ b;omega
theorem zno{a v W:Nat}(b:a<W)(h:a+f*v=u+W*r)(c:u<f*v)(d:f*v<=u+v)(e:v<W):0<r/\a+v=u+W+v-f*v:=by
 rcases Qd r with b|b
 ·subst b;omega
 ·rcases Qc 1 r with b|b
  ·have:W*2<=W*r:=Zr _ b;omega
  ·have:r=1:=om;subst this;omega
def splice (L W:N_)(j:Nat):N_:=L.take j++(W++L.drop (j+W.length))
theorem zgx{W:N_}(h:j+W.length<=L.length):(splice L W j).length=L.length:=by
 simp[splice];omega
theorem zi0{W:N_}(a:Dig L)(b:Dig W):Dig (splice L W j):=(a.take _).append (b.append (a.drop _))
theorem zmp{W:N_}(h:j<=L.length):(splice L W j).drop j=W++L.drop (j+W.length):=by
 rw[splice,jC so,QP so,Q7]
theorem zmq{W:N_}(h:j<=L.length):(splice L W j).take j=L.take j:=by
 rw[splice,Qq so,zP so]
theorem znp{t v:Nat}(e:Dig L)(a:j+t+1<=L.length)(f:val (L.drop (j+1))<v)(b:v<4294967296^t):
 val ((L.drop j).take (t+1))=val (L.drop j)/\val (L.drop (j+(t+1)))=0/\val (L.drop j)<v*4294967296:=by
 have a:=val_take_drop (L.drop (j+1)) t so;rw[Jn]at a;have d:val (L.drop (j+1+t))=0:=by
  rcases Qd (val (L.drop (j+1+t)))with h|h
  ·exact h
  ·have:4294967296^t*1<=4294967296^t*val (L.drop (j+1+t)):=Zr _ h;omega
 have a:=val_take_drop (L.drop j) (t+1) so;rw[Jn]at a;have b:val (L.drop (j+(t+1)))=0:=by rw[show j+(t+1)=j+1+t by omega];exact d
 rw[b,Ql,qV]at a;refine⟨a.symm,b,?_⟩;have:=e.get j;rw[(val_drop L j om)];have:val (L.drop (j+1))+1<=v:=f;omega
theorem zkn{W Q:N_}{t v N:Nat}(a:j+t+1<=L.length)(c:W.length=t+1)(d:j<Q.length)(e:val ((L.drop j).take (t+1))=val (L.drop j))(b:val (L.drop (j+(t+1)))=0)(g:val (L.drop j)=q*v+val W)(f:N=val L+v*(4294967296^(j+1)*val (Q.drop (j+1)))):
 N=val (splice L W j)+v*(4294967296^j*val ((Q.set j q).drop j))/\val ((splice L W j).drop j)=val W:=by
 have a:val ((splice L W j).drop j)=val W:=by
  rw[zmp om,val_append,c,b,Ql,qV]
 have b:=val_take_drop (splice L W j) j (by rw[zgx om];omega);rw[zmq om,a]at b;have c:=val_drop (Q.set j q) j (by simpa using d);rw[zb2 Q j q d,QH]at c;refine⟨?_,a⟩;rw[f,val_take_drop L j om,g,b,c,Zv];generalize 4294967296^j=P;generalize val (Q.drop (j+1))=D;generalize val (L.take j)=A;generalize val W=R;simp only[Zs];have a:P*(q*v)=v*(P*q):=by ac_rfl
 have a:v*(P*4294967296*D)=v*(P*(4294967296*D)):=by ac_rfl
 omega
def zgy (high lead U3 V2 g:Nat):Prop:=∀Q,Q<=high/lead->(∀k,U3<k*V2->Q<k)->Q<4294967296->Q<=g
theorem znq{a:Nat}(h:zgy high lead a b g)(hg:4294967296<=g):zgy high lead a b (g-1):=fun Q a a a=>om
theorem zlv(g lead l a Z b:Nat):(g*lead+l)*a+Z+g*b=g*(lead*a+b)+(l*a+Z):=by
 rw[Zs,<-Zt,Zg];generalize g*lead*a=c;generalize l*a=c;generalize g*b=d;omega
theorem znr{a:Nat}(h:zgy high lead a b g)(d:a=high*4294967296+Z)(e:b=lead*4294967296+c)(f:g*lead+l=high)(hg:l*4294967296+Z<g*c):zgy high lead a b (g-1):=by
 intro Q a a b;have b:=zlv g lead l 4294967296 Z c;rw[f,<-d,<-e]at b;have:=a g om;omega
theorem zko{a:Nat}(d:b=high*4294967296+Z)(e:c=lead*4294967296+a)(f:g*lead+l=high)(hg:g*a<=l*4294967296+Z):g*c<=b:=by
 have b:=zlv g lead l 4294967296 Z a;rw[f,<-d,<-e]at b;omega
theorem zns{X Y a:Nat}(e:high=Y+4294967296*X)(b:X<=lead)(c:Y<4294967296)(hs:a<4294967296)(d:g*lead+l=high)(f:4294967296<=l):g<4294967296/\g*a<=l*4294967296+Z:=by
 have b:g*lead<4294967296*lead:=om;have c:=zb4 b;refine⟨c,?_⟩;have b:g*a<=4294967296*4294967296:=Z7 om om;omega
theorem zok(b:high<18446744073709551616)(a:2147483648<=lead):high/lead<=8589934592:=by
 have b:high/lead<=high/2147483648:=Nat.div_le_div_left a om;omega
theorem zjR(w:H)(b off cap b' R F t:Nat)(ds es:N_)(M:ds.length=t+3)(a7:es.length=t+2)(a9:t+3<=cap)(aa:t+2<=F)(ht:t<=1073741800)(v:Row w b off ds)(D:Row w b' R es)(s:Dig ds)(B:Dig es)(N:2147483648<=es.getD (t+1) 0)(J:ds.getD (t+2) 0<=es.getD (t+1) 0)(high lead j k:Nat)(C:high=ds.getD (t+1) 0+4294967296*ds.getD (t+2) 0)(f:lead=es.getD (t+1) 0)(a:j=high*4294967296+ds.getD t 0)(c:k=lead*4294967296+es.getD t 0):
 C_ 201 #[V (E (Xd b off O)) (t+3) cap,V (E (Xd b' R O)) (t+2) F] w fun e w'=>∃g:Nat,e=Xa (it .u32 (g:Nat))/\g<4294967296/\zgy high lead j k g/\g*k<=j/\∃n,w'=w.drewN n:=by
 have c0:=v t om;have c1:=v (t+1) om;have c2:=v (t+2) om;have d0:=D t om;have d1:=D (t+1) om;have z0:=s.get t;have U:=s.get (t+1);have z2:=s.get (t+2);have T:=B.get t;have y1:=B.get (t+1);rw[<-f]at d1 y1 N J;clear f v D s B M a7;generalize ds.getD t 0=Z at *;generalize ds.getD (t+1) 0=a3 at *;generalize ds.getD (t+2) 0=a2 at *;generalize es.getD t 0=i at *;have p:=zga a2 a3 z2 U;have a6:high<18446744073709551616:=om;rw[<-C]at p;have u:high/lead=((high/lead:Nat):Int):=sp;have q:high%lead=((high%lead:Nat):Int):=sp;have a5:=zok a6 N;have ad:high%lead<lead:=Z0 _ om;have L:high/lead*lead+high%lead=high:=by have:=Jz high lead;rw[Z5]at this;exact this
 have I:zgy high lead j k (high/lead):=fun Q A _ _=>A
 have Y:=zf C;clear C;generalize hG:high/lead=W at *;generalize hR:high%lead=a1 at *;clear hG hR;have X:=zf L;clear L;have a0:=zf I;clear I;go_enter func201,ntmps201
 go_wp2_with fail
 go_quiet (fail)
 go_wp2_with fail
 go_quiet (fail)
 go_wp2_with fail
 go_quiet (fail)
 go_wp2_with fail
 go_loopw [9,10] (fun gv lv wr=>∃g l:Nat,g<=8589934592/\l<8589934592/\gv=it .u64 g/\lv=it .u64 l/\Hid (g*lead+l=high)/\Hid (zgy high lead j k g)/\∃n,wr=w.drewN n) (fun gv _ _=>(intOf gv).toNat)
 case atStart=>exact⟨W,a1,a5,om,rfl,by rw[q],X,a0,_,(World.drewN_drewN _ _ _).trans (World.drewN_drewN _ _ _)⟩
 case round=>
  obtain⟨g,l,_,M,rfl,rfl,h,f,n,rfl⟩:=hrel;by_cases A:l<4294967296
  ·have i1:(l:Int)<4294967296:=om;by_cases m:g<4294967296
   ·have i2:¬(4294967296<=(g:Int)):=om;have a8:=zga l Z A z0;obtain⟨y,hy⟩:∃y,Z+4294967296*l=y:=⟨_,rfl⟩;rw[hy]at a8;obtain⟨_,_⟩:=zlo g i m T;have K:((g*i:Nat):Int)=g*i:=sp;by_cases o:y<g*i
    ·have h4:y<(g:Int)*(i:Int):=om;have ab:1<=g:=by
      rcases Qd g with z|z
      ·subst z;omega
      ·exact z
     have d:=zf (znr f.out a c h.out om);have x:Hid ((g-1)*lead+(l+lead)=high):=by
      rw[Hid,<-h.out];obtain⟨r,rfl⟩:∃r,g=r+1:=⟨g-1,om⟩;rw[zeH,Zg];omega
     have H7:=zf a;have H8:=zf c;clear a c o K p u q hy;go_wp2_with fail
     go_roundw
     case rel=>exact⟨g-1,l+lead,om,om,by go_num,by go_num,x,d,n,rfl⟩
     case measure=>simp[intOf];omega
    ·have h4:¬((y:Int)<(g:Int)*(i:Int)):=om;have d:=zf (zko a c h.out om);clear a c o K p u q hy;go_wp2_with fail
     go_ret;exact⟨g,by go_num,m,f.out,d.out,n,rfl⟩
   ·have a4:4294967296<=g:=om;have i2:4294967296<=(g:Int):=om;have d:=zf (znq f.out a4);have x:Hid ((g-1)*lead+(l+lead)=high):=by
     rw[Hid,<-h.out];obtain⟨r,rfl⟩:∃r,g=r+1:=⟨g-1,om⟩;rw[zeH,Zg];omega
    clear a c p u q m;go_wp2_with fail
    go_roundw
    case rel=>exact⟨g-1,l+lead,om,om,by go_num,by go_num,x,d,n,rfl⟩
    case measure=>simp[intOf];omega
  ·obtain⟨m,o⟩:=zns (Z:=Z) Y.out J U T h.out om;have d:=zf (zko a c h.out o);clear a c p u q o;have i1:¬((l:Int)<4294967296):=om;go_wp2_with fail
   go_ret;exact⟨g,by go_num,m,f.out,d.out,n,rfl⟩
theorem zrF{S:Nat}(b:k<a.length)(d:k<ds.length)(hi:val (a.take k)+4294967296^k*c=S*val (ds.take k)):
 val ((a.set k ((c+ds.getD k 0*S)%4294967296)).take (k+1))+4294967296^(k+1)*((c+ds.getD k 0*S)/4294967296)=S*val (ds.take (k+1)):=by
 rw[val_lay _ _ _ b,val_take_succ ds k d,Zs S,<-hi,Zs];have:S*(4294967296^k*ds.getD k 0)=4294967296^k*(ds.getD k 0*S):=by ac_rfl
 omega
theorem up_bd{S:Nat}(b:c<S)(e:d<4294967296)(a:S<=2147483648):c+d*S<18446744073709551616/\(c+d*S)/4294967296<S:=by
 have a:d*S<=4294967295*S:=zZ _ om;constructor
 ·omega
 ·rw[QC dc];omega
theorem zlw(h:z<18446744073709551616):IntKind.u64.wrap (z:Int)=(z:Int):=by
 have e:∀n:Int,IntKind.u64.wrap n=n%18446744073709551616:=fun n=>by simp[IntKind.wrap,IntKind.signed,IntKind.bits]
 rw[e];omega
theorem zif(w:H)(v:Value)(ds:List Nat)(s:Nat)(hs:s<=31)(hv:U32s w v ds)(T:ds≠ [])(t:Dig ds)(ah:ds.length<=1073741823):
 Calls pg 200 #[v,it Xb (s:Nat)] w fun e w'=>∃(g:Nat) (l:List Nat),e=Xa (V (E (Xd g 0 O)) (ds.length+1) (ds.length+1))/\l.length=ds.length+1/\Dig l/\Row w' g 0 l/\zcj w' g 0 (ds.length+1)/\val l=2^s*val ds/\Below w.heap.size w w'/\w.heap.size<=g/\g<w'.heap.size:=by
 obtain⟨_,_,rfl,_,hr⟩:=hv;obtain⟨p,off,rfl,hb,a4⟩:=hr T;have aj:=ZC.2 T;obtain⟨i0,hi,aa,ab,ad⟩:=Zn Xu;have J:0<2^s:=zbb dc;have K:2^s<=2147483648:=ZD (n:=2) dc hs;go_enter func200,ntmps200
 go_wp2_with (at_make;refine ziw _ rfl _ _ 61 rfl 127 i0 underlying61 hi aa ab ad _ _ _ _ (ds.length+1) rfl rfl sp sp om ?_;intro D a5 u L a7)
 have a8:=Xw w.heap.size 0 (ds.length+1) D;have a3:=a4.below L hb;have a0:p≠w.heap.size:=om;generalize a2:w.heap.size=g at *;have F:=zf a2;obtain⟨S,hS⟩:∃S,2^s=S:=⟨_,rfl⟩;rw[hS]at J K;have j:=zf hS;go_loopw [6,15] (fun cv C wr=>∃(k c:Nat) (a:List Nat),k<=ds.length/\c<S/\C=it Xb (k:Nat)/\cv=it .u64 (c:Nat)/\Hid (a.length=ds.length+1)/\Dig a/\Row wr g 0 a/\Upd g 0 (ds.length+1) D wr/\
  Hid (val (a.take k)+4294967296^k*c=S*val (ds.take k))) (fun _ C _=>ds.length-(intOf C).toNat)
 case atStart=>exact⟨0,0,_,qo _,J,rfl,rfl,by simp[Hid],(fun ae t=>by rw[zaB t];decide),a5,a8,by simp[Hid,val]⟩
 case round=>
  obtain⟨k,c,a,_,M,rfl,rfl,h,N,m,i,W⟩:=hrel;by_cases R:k<ds.length
  ·have a6:=i.other a0 a3;have hx:=a6 k R;have a9:=t.get k;have d:k<a.length:=by rw[h.out];omega
   have A:=i.free u k om;have U:=zrF d R W.out;have q:=up_bd M a9 K;have f:=m.setCell k ((c+ds.getD k 0*S)%4294967296) d;have b:=i.setCell k (show k<ds.length+1 by omega) (it .u32 (((c+ds.getD k 0*S)%4294967296:Nat):Int));generalize ds.getD k 0=x at *;obtain⟨y,hy⟩:∃y,c+x*S=y:=⟨_,rfl⟩;obtain⟨z,hz⟩:∃z,x*S=z:=⟨_,rfl⟩;have hw:IntKind.u64.wrap ((x:Int)*2^s)=(z:Int):=by
    rw[show(x:Int)*2^s=((x*S:Nat):Int)by rw[<-j.out];simp,hz];exact zlw om
   have ai:bits .or .u64 (c:Int) (z:Int)=(y:Int):=by
    rw[u64_or_nat _ _ om om,Nat.or_comm,nat_join s z c (by rw[<-hz,<-j.out];exact Nat.mul_mod_left _ _) (by rw[j.out];exact M)];omega
   have a1:wr.cell? (Xd g k O)=E (it .u32 ((a.getD k 0:Nat):Int)):=by have:=m k d;rwa [qt]at this
   rw[hy]at U q f b;simp only[qt]at f b A;have e1:((y%4294967296:Nat):Int)=(y:Int)%4294967296:=om;have X:Hid (((y/4294967296:Nat):Int)=(y:Int)/4294967296):=by rw[Hid];omega
   rw[e1]at f b;have Z:=zf U;have af:=q.1;have Y:=zf q.2;go_wp2;go_roundw
   case rel=>exact⟨k+1,y/4294967296,_,om,Y.out,by go_num,by rw[X.out],by rw[Hid,qX,h.out],N.set _ _ (Z0 _ dc),f,b,Z.out⟩
   case measure=>simp[intOf];omega
  ·have o:k=ds.length:=om;have d:k<a.length:=by rw[h.out];omega
   have A:=i.free u k om;have a1:wr.cell? (Xd g k O)=E (it .u32 ((a.getD k 0:Nat):Int)):=by have:=m k d;rwa [qt]at this
   have f:=m.setCell k c d;have b:=i.setCell k (show k<ds.length+1 by omega) (it .u32 (c:Int));simp only[qt]at f b A;have r:c<4294967296:=om;have B:=val_lay a k c d;have HV:Hid (val (a.set k c)=S*val ds):=by
    rw[Hid];have I:=W.out;rw[o,Zx]at I;rw[o]at B;rw[zP (by rw[qX,h.out];omega),jH r,Jk r,Ql,qV,I]at B;rw[o];exact B
   subst o;go_wp2;go_ret;exact⟨g,_,rfl,by rw[qX,h.out],N.set _ _ r,f,b.free u,by rw[HV.out,j.out],by rw[F.out];exact L.trans (b.below (zh _)),by rw[F.out];omega,by rw[b.size];exact a7⟩
theorem hm:Tryz.prog.follows .mixedOrders=true:=by kernel_rfl
section

variable {P:Program} {ops:Array Oper} {Q:Exit->Act->World->Prop} {md:Region.Mode} {S:World->Prop}
theorem tkv (i:Nat){oi:Oper}{v:Value}{fuel:Nat}{listed:Array Bool}{a b:Act}{w:World}(h:wpAnyH P md ops Q S fuel (listed.setIfInBounds i true) b w)(hi:ops.toList[i]? =some oi:=by rfl)
 (hs:Region.noSelect ops=true:=by kernel_rfl) (hf:Region.free md ops listed i=true:=by kernel_rfl) (hr:(Region.ready md ops listed).contains i=true:=by kernel_rfl)
 (hw:Region.wanted oi (yielded ops a.tmps)=true:=by rfl) (hv:∀w,S w->(execOp a.eval oi).run P w= .ok (.value v) w:=by(intro w hSw;(try dsimp only at hSw);go_simp;try with_reducible rfl))
 (hQ:∀c a w,Q (.panic c) (a.put oi.dst v) w->Q (.panic c) a w:=by first|exact fun _ _ _ h=>h|exact fun _ _ _ h=>absurd h.1 (by simp))
 (hS:S w:=by assumption) (hb:a.put oi.dst v=b:=by((try simp only[Act.put,Ji,zaX,zaY]);rfl)):wpAnyH P md ops Q S (fuel+1) listed a w:=
 wpAnyH_take (by simpa using hi) hs hf hr hQ (Or.inl ⟨hw,hv⟩) hS (by rw[hb];exact h)
theorem tks (i:Nat){oi:Oper}{fuel:Nat}{listed:Array Bool}{a b:Act}{w:World}(h:wpAnyH P md ops Q S fuel (listed.setIfInBounds i true) b w)(hi:ops.toList[i]? =some oi:=by rfl)
 (hs:Region.noSelect ops=true:=by kernel_rfl) (hf:Region.free md ops listed i=true:=by kernel_rfl) (hr:(Region.ready md ops listed).contains i=true:=by kernel_rfl)
 (hw:Region.wanted oi (yielded ops a.tmps)=false:=by rfl)
 (hQ:∀c a w,Q (.panic c) (a.put oi.dst undef) w->Q (.panic c) a w:=by first|exact fun _ _ _ h=>h|exact fun _ _ _ h=>absurd h.1 (by simp))
 (hS:S w:=by assumption) (hb:a.put oi.dst undef=b:=by((try simp only[Act.put,Ji,zaX,zaY]);rfl)):wpAnyH P md ops Q S (fuel+1) listed a w:=
 wpAnyH_take (by simpa using hi) hs hf hr hQ (Or.inr ⟨hw,rfl⟩) hS (by rw[hb];exact h)
def Back (P:Program)(ops:Array Oper)(Q:Exit->Act->H->Prop)(md:Region.Mode)(S:H->Prop)(fuel:Nat)(listed:Array Bool)(K:Act->H->Prop):Prop:=
 ∀(a:Act) (w:H) (_:S w) {b:Act} (_:a=b:=by((try simp only[Act.put,Ji,zaX,zaY]);rfl)) (_:S w->wpAnyH P md ops Q S fuel listed b w),K a w
theorem Back.out {c:Nat}{d:Array Bool}{K:Act->H->Prop}(e:Back P ops Q md S c d K)(a:Act)(w:H)(f:S w){b:Act}(hb:a=b:=by((try simp only[Act.put,Ji,zaX,zaY]);rfl))(h:S w->wpAnyH P md ops Q S c d b w):K a w:=e a w f hb h
theorem rdc {c:Nat}{d:Array Bool}{a:Act}{w:H}{i:Nat}{o:Oper}{rs:N_}(ho:ops.toList[i]? =E o:=by rfl)
 (h:∀b:Act->H->Prop,Back P ops Q md S c (d.setIfInBounds i true) b->if Region.wanted o (yielded ops a.tmps)=true then Oper.wp P o a w b Q else b (a.put o.dst undef) w)
 (hs:AllReadyH P md ops Q S c d a w rs):AllReadyH P md ops Q S c d a w (i::rs):=
 AllReadyH.cons (by simpa using ho) (fun K c=>h K (fun a w b d e d=>c.out a w b (fun b=>by rw[e];exact d b))) hs
theorem rd1 (i:Nat){fuel:Nat}{listed:Array Bool}{a:Act}{w:World}{o:Oper}(h:∀K':Act->World->Prop,Back P ops Q md S fuel (listed.setIfInBounds i true) K'->if Region.wanted o (yielded ops a.tmps)=true then Oper.wp P o a w K' Q else K' (a.put o.dst undef) w)(hr:Region.ready md ops listed= [i]:=by kernel_rfl)(ho:ops.toList[i]? =some o:=by rfl):wpAnyH P md ops Q S (fuel+1) listed a w:=
 wpAnyH_ready hr (by simp) (rdc (ho:=ho) (h:=h) (hs:=AllReadyH.nil))
def Ret (P:Program)(ops:Array Oper)(Q:Exit->Act->H->Prop)(md:Region.Mode)(S:H->Prop)(fuel:Nat)(listed:Array Bool)(a:Act)(d:Option Tmp):Ending->H->Prop
 |Xa v,w=>S w/\wpAnyH P md ops Q S fuel listed (a.put d v) w
 |_,_=>False
theorem rcl (i:Nat){f:FuncId}{args:W_}{R:Ending->World->Prop}{fuel:Nat}{listed:Array Bool}{a:Act}{w:World}{o:Oper}(hc:Calls P f args w R)
 (h:∀e w',R e w'->Ret P ops Q md S fuel (listed.setIfInBounds i true) a o.dst e w') (hr:Region.ready md ops listed= [i]:=by kernel_rfl) (ho:ops.toList[i]? =some o:=by rfl)
 (hx:∀K':Act->World->Prop,(Calls P f args w fun e w'=>∃v,e=Xa v/\K' (a.put o.dst v) w')->if Region.wanted o (yielded ops a.tmps)=true then Oper.wp P o a w K' Q else K' (a.put o.dst undef) w:=by
  (intro K' hK;go_simp;refine hK.mono ?_;rintro e w' ⟨v,rfl,h⟩;go_wp2_with fail;exact h)):wpAnyH P md ops Q S (fuel+1) listed a w:=
 rd1 i (fun K' hB=>hx K' (hc.mono fun e w' hR=>by
  have hq:=h e w' hR;cases e with
  |returned v=>exact⟨v,rfl,hB.out _ _ hq.1 (hb:=rfl) (fun _=>hq.2)⟩
  |_=>exact hq.elim)) hr ho
theorem bk {c:Nat}{f:Array Bool}{a b:Act}{d:Option Tmp}{v:Value}{w:H}(e:S w)(h:S w->wpAnyH P md ops Q S c f b w)
 (hb:a.put d v=b:=by((try simp only[Act.put,Ji,zaX,zaY]);rfl)):Ret P ops Q md S c f a d (Xa v) w:=⟨e,by rw[hb];exact h e⟩
end

end

section
open Go.RowKit
section

variable {P:Program} {ops:Array Oper} {Q:Exit->Act->World->Prop} {md:Region.Mode} {S:World->Prop}
def Takes (P:Program)(ops:Array Oper)(Q:Exit->Act->H->Prop)(md:Region.Mode)(S:H->Prop):N_->Nat->Array Bool->Act->Nat->Array Bool->Act->Prop
 |[],n,l,a,n',l',c=>n=n'/\l=l'/\a=c
 |i::is,n,l,a,n',l',c=>∃(m:Nat) (b:Act) (o:Oper) (v:Value),n=m+1/\ops.toList[i]? =E o/\Region.free md ops l i=true/\(Region.ready md ops l).contains i=true/\(Region.wanted o (yielded ops a.tmps)=true/\(∀w,S w->(execOp a.eval o).run P w= .ok (.value v) w)\/Region.wanted o (yielded ops a.tmps)=false/\v=undef)
  /\(∀c a w,Q (.panic c) (a.put o.dst v) w->Q (.panic c) a w)/\a.put o.dst v=b/\Takes P ops Q md S is m (l.setIfInBounds i true) b n' l' c
theorem Takes.nil {P:Program}{ops:Array Oper}{Q:Exit->Act->World->Prop}{md:Region.Mode}{S:World->Prop}{n:Nat}{l:Array Bool}{a:Act}:Takes P ops Q md S [] n l a n l a:=⟨rfl,rfl,rfl⟩
theorem Takes.cons {P:Program}{ops:Array Oper}{Q:Exit->Act->World->Prop}{md:Region.Mode}{S:World->Prop}{i:Nat}{is:N_}{n n':Nat}{l l':Array Bool}{a b c:Act}{o:Oper}{v:Value}(hi:ops.toList[i]? =some o)(hf:Region.free md ops l i=true)(hr:(Region.ready md ops l).contains i=true)(hv:Region.wanted o (yielded ops a.tmps)=true/\(∀w,S w->(execOp a.eval o).run P w= .ok (.value v) w)\/Region.wanted o (yielded ops a.tmps)=false/\v=undef)
 (hQ:∀c a w,Q (.panic c) (a.put o.dst v) w->Q (.panic c) a w) (hb:a.put o.dst v=b) (h:Takes P ops Q md S is n (l.setIfInBounds i true) b n' l' c):Takes P ops Q md S (i::is) (n+1) l a n' l' c:=⟨n,b,o,v,rfl,hi,hf,hr,hv,hQ,hb,h⟩
theorem tkl (is:N_){n n':Nat}{l l':Array Bool}{a b:Act}{w:World}(h:wpAnyH P md ops Q S n' l' b w)(hs:Region.noSelect ops=true:=by kernel_rfl)
 (hT:Takes P ops Q md S is n l a n' l' b:=by(repeat(apply Takes.cons;(case hi=>rfl);(case hf=>kernel_rfl);(case hr=>kernel_rfl);(case hv=>first|(refine .inl ⟨by rfl,?_⟩;intro w hSw;(try dsimp only at hSw);go_simp;try with_reducible rfl)|exact .inr ⟨by rfl,rfl⟩);(case hQ=>first|exact fun _ _ _ h=>h|exact fun _ _ _ h=>absurd h.1 (by simp));(case hb=>((try simp only[Act.put,Ji,zaX,zaY]);rfl))));exact Takes.nil)
 (hS:S w:=by assumption):wpAnyH P md ops Q S n l a w:=by
 induction is generalizing n l a with
 |nil=>obtain⟨rfl,rfl,rfl⟩:=hT;exact h
 |cons i is ih=>obtain⟨m,b',o,v,rfl,hi,hf,hr,hv,hQ,hb,hT⟩:=hT;exact wpAnyH_take (by simpa using hi) hs hf hr hQ hv hS (by rw[hb];exact ih hT)
end

end

section
open Go.RowKit
theorem jR:∀(a:Fn) (first cap:W_) (w:H),(Instr.makeFunc a first cap).run pg w= .ok (.func a first cap) w:=fun _ _ _ _=>rfl
theorem Q0 {f:FuncId}{a:Func}{c:Code}{args b:W_}{w:H}{R:Ending->H->Prop}{k:Nat}(e:Tryz.prog.funcs[f]? =E a)(g:a.ntmps=k)(hb:a.body=E c:=by rfl)
 (d:args++Array.replicate (k-args.size) undef=b:=by((try simp only[List.size_toArray,qi,QK,Nat.reduceAdd,Nat.reduceSub,Array.replicate_succ,Array.replicate_zero,List.push_toArray,List.append_toArray,Q7,ZZ]);rfl))
 (h:c.wpIn .wide 0 pg (bodyPostM .wide 0 pg a R) { tmps:=b,defers:= [] } w):C_ f args w R:=
 (zq).1 (callsIn_of_wp_marks e hb trivial (by rw[g,d];exact h) rfl)
theorem zcW {f:FuncId}{a:Func}{c:Code}{args b:W_}{w:H}{R:Ending->H->Prop}{k:Nat}(e:Tryz.prog.funcs[f]? =E a)(g:a.ntmps=k)(hb:a.body=E c:=by rfl)
 (d:args++Array.replicate (k-args.size) undef=b:=by((try simp only[List.size_toArray,qi,QK,Nat.reduceAdd,Nat.reduceSub,Array.replicate_succ,Array.replicate_zero,List.push_toArray,List.append_toArray,Q7,ZZ]);rfl))
 (h:c.wpIn .wide 0 pg (bodyPost pg a R) { tmps:=b,defers:= [] } w):C_ f args w R:=
 (zq).1 (callsIn_of_wp e hb trivial (by rw[g,d];exact h) rfl)
structure V4 where
 a:Int
 b:Int
 c:Int
 d:Int
namespace V4
def dot (x y:V4):Int:=x.a*y.a+x.b*y.b+x.c*y.c+x.d*y.d
def add (x y:V4):V4:=⟨x.a+y.a,x.b+y.b,x.c+y.c,x.d+y.d⟩
def smul (t:Int)(x:V4):V4:=⟨t*x.a,t*x.b,t*x.c,t*x.d⟩
def zero:V4:=⟨0,0,0,0⟩
theorem ext' {x y:V4}(h1:x.a=y.a)(h2:x.b=y.b)(a:x.c=y.c)(b:x.d=y.d):x=y:=by
 cases x;cases y;simp_all
theorem dot_comm (x y:V4):x.dot y=y.dot x:=by unfold dot;grind
theorem dot_add (x y z:V4):x.dot (y.add z)=x.dot y+x.dot z:=by unfold dot add;grind
theorem dot_smul (x y:V4)(t:Int):x.dot (y.smul t)=t*x.dot y:=by unfold dot smul;grind
theorem smul_dot (x y:V4)(t:Int):(x.smul t).dot y=t*x.dot y:=by unfold dot smul;grind
theorem smul_smul (x:V4)(s t:Int):(x.smul t).smul s=x.smul (s*t):=by unfold smul;grind
theorem dot_zero (x:V4):x.dot zero=0:=by unfold dot zero;grind
def crs (u v w:V4):V4:=
 ⟨u.b*(v.c*w.d-v.d*w.c)-u.c*(v.b*w.d-v.d*w.b)+u.d*(v.b*w.c-v.c*w.b),
  -(u.a*(v.c*w.d-v.d*w.c)-u.c*(v.a*w.d-v.d*w.a)+u.d*(v.a*w.c-v.c*w.a)),
  u.a*(v.b*w.d-v.d*w.b)-u.b*(v.a*w.d-v.d*w.a)+u.d*(v.a*w.b-v.b*w.a),
  -(u.a*(v.b*w.c-v.c*w.b)-u.b*(v.a*w.c-v.c*w.a)+u.c*(v.a*w.b-v.b*w.a))⟩
def det (x u v w:V4):Int:=x.dot (crs u v w)
end V4
open V4
def Jb (R:Nat->V4):Int:=det (R 0) (R 1) (R 2) (R 3)
def QL (R:Nat->V4)(j:Nat):V4:=
 match j with
 |0=>crs (R 1) (R 2) (R 3)
 |1=>(crs (R 0) (R 2) (R 3)).smul (-1)
 |2=>crs (R 0) (R 1) (R 3)
 |_=>(crs (R 0) (R 1) (R 2)).smul (-1)
theorem lt4 {i:Nat}(h:i<4):i=0\/i=1\/i=2\/i=3:=om
theorem zaS (R:Nat->V4)(i j:Nat)(hi:i<4)(a:j<4):(R i).dot (QL R j)=if i=j then Jb R else 0:=by
 rcases lt4 hi with rfl|rfl|rfl|rfl<;>rcases lt4 a with rfl|rfl|rfl|rfl<;>(first|rw[zQ rfl]|rw[zO dc])<;>simp only[QL,Jb,det,crs,dot,smul]<;>grind
theorem zjS (R:Nat->V4)(x:V4):x.smul (Jb R)=((((QL R 0).smul ((R 0).dot x)).add ((QL R 1).smul ((R 1).dot x))).add ((QL R 2).smul ((R 2).dot x))).add ((QL R 3).smul ((R 3).dot x)):=by
 apply ext'<;>simp only[QL,Jb,det,crs,dot,smul,add]<;>grind
theorem zeu {R:Nat->V4}(a:Jb R≠0){x y:V4}(h:∀i,i<4->(R i).dot x=(R i).dot y):x=y:=by
 have b:=zjS R x;rw[h 0 om,h 1 om,h 2 om,h 3 om,<-zjS R y]at b;simp only[smul,V4.mk.injEq]at b;have⟨c,d,e,f⟩:=b;exact ext' (QU a c) (QU a d) (QU a e) (QU a f)
def zdH (R:Nat->V4)(j:Nat)(g:V4):Nat->V4:=fun i=>if i=j then g else R i
theorem zfI (R:Nat->V4)(j:Nat)(g:V4):zdH R j g j=g:=zQ rfl
theorem zgz (R:Nat->V4){i j:Nat}(g:V4)(h:i≠j):zdH R j g i=R i:=zO h
theorem zm1 (R:Nat->V4)(j:Nat)(a:j<4)(g:V4):QL (zdH R j g) j=QL R j:=by
 rcases lt4 a with rfl|rfl|rfl|rfl<;>rfl
theorem zgd (R:Nat->V4)(j:Nat)(a:j<4)(g:V4):Jb (zdH R j g)=g.dot (QL R j):=by
 have h:=zaS (zdH R j g) j j a a;rw[zQ rfl,zfI,zm1 R j a]at h;exact h.symm
theorem zlx (R:Nat->V4)(j k:Nat)(c:j<4)(d:k<4)(a:k≠j)(g:V4)(b:g.dot (QL R j)≠0):
 (QL (zdH R j g) k).smul (Jb R)=((QL R k).smul (g.dot (QL R j))).add ((QL R j).smul (-(g.dot (QL R k)))):=by
 have a:Jb (zdH R j g)≠0:=by rw[zgd R j c];exact b
 refine zeu a (fun i a=>?_);rw[dot_smul,dot_add,dot_smul,dot_smul,zaS _ _ _ a d];by_cases b:i=j
 ·subst b;rw[zfI,zO om];grind
 ·rw[zgz R g b,zaS R i k a d,zaS R i j a c,zO b,zgd R j c];split<;>grind
def zeT (L:Nat->V4)(m:Nat->Int):V4:=((((L 0).smul (m 0)).add ((L 1).smul (m 1))).add ((L 2).smul (m 2))).add ((L 3).smul (m 3))
theorem zly (x:V4)(L:Nat->V4)(m:Nat->Int):x.dot (zeT L m)=m 0*x.dot (L 0)+m 1*x.dot (L 1)+m 2*x.dot (L 2)+m 3*x.dot (L 3):=by
 simp only[zeT,dot_add,dot_smul]
theorem zev (R:Nat->V4)(m:Nat->Int)(i:Nat)(hi:i<4):(R i).dot (zeT (QL R) m)=m i*Jb R:=by
 rw[zly,zaS R i 0 hi om,zaS R i 1 hi om,zaS R i 2 hi om,zaS R i 3 hi om];rcases lt4 hi with rfl|rfl|rfl|rfl<;>simp
theorem zjT (R:Nat->V4)(m:Nat->Int)(j:Nat)(d:j<4)(g:V4)(b:Int)(c:g.dot (QL R j)≠0):
 (zeT (QL (zdH R j g)) (fun i=>if i=j then b else m i)).smul (Jb R)=((zeT (QL R) m).smul (g.dot (QL R j))).add ((QL R j).smul (b*Jb R-g.dot (zeT (QL R) m))):=by
 have a:Jb (zdH R j g)≠0:=by rw[zgd R j d];exact c
 refine zeu a (fun i c=>?_);rw[dot_smul,dot_add,dot_smul,dot_smul,zev _ _ i c,zgd R j d];by_cases a:i=j
 ·subst a;rw[zfI,zQ rfl];grind
 ·rw[zgz R g a,zO a,zev R m i c,zaS R i j c d,zO a];grind
end

section
open V4
variable {f:Nat->Int}
def JK (f:Nat->Int):Prop:=∃k,k<5/\(∀i,i<k->f i=0)/\0<f k
def zaC (f:Nat->Int):Prop:=(∀i,i<5->f i=0)\/JK f
theorem JK.n(h:JK f):zaC f:= .inr h
theorem zhg(f:Nat->Int):JK f\/zaC (fun i=>- f i):=by
 by_cases h:∃k,k<5/\f k≠0
 ·have:∃k,k<5/\f k≠0/\∀i,i<k->f i=0:=by
   have⟨k,b,j⟩:=h;by_cases c:f 0=0
   ·by_cases d:f 1=0
    ·by_cases e:f 2=0
     ·by_cases g:f 3=0
      ·have a:f 4≠0:=by
        have:k=0\/k=1\/k=2\/k=3\/k=4:=om;rcases this with rfl|rfl|rfl|rfl|rfl<;>first|assumption|contradiction
       refine⟨4,om,a,fun i a=>?_⟩;have:i=0\/i=1\/i=2\/i=3:=om;rcases this with rfl|rfl|rfl|rfl<;>assumption
      ·refine⟨3,om,g,fun i a=>?_⟩;have:i=0\/i=1\/i=2:=om;rcases this with rfl|rfl|rfl<;>assumption
     ·refine⟨2,om,e,fun i a=>?_⟩;have:i=0\/i=1:=om;rcases this with rfl|rfl<;>assumption
    ·refine⟨1,om,d,fun i a=>?_⟩;have:i=0:=om;subst this;exact c
   ·exact⟨0,om,c,fun i a=>absurd a (Nat.not_lt_zero _)⟩
  have⟨k,b,j,c⟩:=this;by_cases d:0<f k
  ·exact .inl ⟨k,b,c,d⟩
  ·exact .inr (.inr ⟨k,b,fun i a=>by show-f i=0;rw[c i a];rfl,by show 0 < - f k;omega⟩)
 ·refine .inr (.inl fun i a=>?_);have:f i=0:=Ze fun b=>h ⟨i,a,b⟩
  show-f i=0
  rw[this];rfl
theorem JK.not_neg(h:JK f):¬zaC (fun i=>- f i):=by
 have⟨k,c,d,_⟩:=h;rintro(b|⟨j,_,e,a⟩)
 ·have:- f k=0:=b k c;omega
 ·rcases zbl j k with h|h|h
  ·have:=d j h;have b:0 < - f j:=a;omega
  ·subst h;have b:0 < - f j:=a;omega
  ·have:- f k=0:=e k h;omega
theorem JK.comb{g h:Nat->Int}{p q r:Int}(A:JK f)(hg:zaC g)(B:0<p)(D:0<q)(c:0<=r)(e:∀i,i<5->p*h i=q*f i+r*g i):JK h:=by
 have zero:∀x:Int,p*x=0->x=0:=fun x u=>by
  rcases Int.mul_eq_zero.1 u with h|h
  ·omega
  ·exact h
 have v:∀x:Int,0<p*x->0<x:=fun x u=>by
  rcases Int.lt_or_le 0 x with h|h
  ·exact h
  ·have:=zae (zdI B) h;omega
 have m:∀k,k<5->(∀i,i<k->f i=0)->(∀i,i<k->g i=0)->0<q*f k+r*g k->JK h:=fun k a w y z=>
  ⟨k,a,fun i b=>zero _ (by rw[e i om,w i b,y i b];simp),v _ (by rw[e k a];exact z)⟩
 have⟨k,a,d,C⟩:=A;have o:=Int.mul_pos D C;rcases hg with hg|⟨l,s,j,t⟩
 ·exact m k a d (fun i b=>hg i om) (by rw[hg k a];simpa using o)
 ·rcases zbl l k with h|h|h
  ·rcases jd c with c|c
   ·exact m l s (fun i b=>d i om) j (by rw[d l h];simpa using Int.mul_pos c t)
   ·subst c;exact⟨k,a,fun i b=>zero _ (by rw[e i om,d i b];simp),v _ (by rw[e k a];simpa using o)⟩
  ·subst h;exact m l s d j (by have:=zbw c (zdI t);omega)
  ·exact m k a d (fun i b=>j i om) (by rw[j k h];simpa using o)
theorem zaC.comb{g h:Nat->Int}{p q r:Int}(c:zaC f)(hg:zaC g)(j:0<p)(d:0<=q)(b:0<=r)(e:∀i,i<5->p*h i=q*f i+r*g i):zaC h:=by
 have zero:∀x:Int,p*x=0->x=0:=fun x a=>by
  rcases Int.mul_eq_zero.1 a with h|h
  ·omega
  ·exact h
 rcases jd d with d|d
 ·rcases c with c|c
  ·rcases jd b with b|b
   ·rcases hg with hg|hg
    ·exact .inl fun i a=>zero _ (by rw[e i a,c i a,hg i a];simp)
    ·exact .inr (hg.comb (.inl c) j b (zdI d) (fun i a=>by rw[e i a];omega))
   ·subst b;exact .inl fun i a=>zero _ (by rw[e i a,c i a];simp)
  ·exact .inr (c.comb hg j d b e)
 ·subst d;rcases jd b with b|b
  ·rcases hg with hg|hg
   ·exact .inl fun i a=>zero _ (by rw[e i a,hg i a];simp)
   ·exact .inr (hg.comb c j b (Int.le_refl 0) (fun i a=>by rw[e i a];omega))
  ·subst b;exact .inl fun i a=>zero _ (by rw[e i a];simp)
def toV (l:L_):V4:=⟨l.getD 0 0,l.getD 1 0,l.getD 2 0,l.getD 3 0⟩
def QV (i:Nat):V4:=⟨if i=0 then 1 else 0,if i=1 then 1 else 0,if i=2 then 1 else 0,if i=3 then 1 else 0⟩
def rkV (aims:L_)(i:Nat):V4:=
 match i with
 |0=>toV aims
 |i+1=>if aims.getD i 0<=0 then(QV i).smul (-1)else QV i
def rk (aims:L_)(x:V4)(i:Nat):Int:=(rkV aims i).dot x
theorem zhh(aims:L_)(x y:V4)(i:Nat):rk aims (x.add y) i=rk aims x i+rk aims y i:=dot_add _ _ _
theorem JH(aims:L_)(x:V4)(t:Int)(i:Nat):rk aims (x.smul t) i=t*rk aims x i:=dot_smul _ _ _
theorem zbJ(x:V4):(QV 0).dot x=x.a/\(QV 1).dot x=x.b/\(QV 2).dot x=x.c/\(QV 3).dot x=x.d:=by
 simp[QV,dot]
theorem zrG{aims:L_}{x:V4}(h:∀i,i<5->rk aims x i=0):x=V4.zero:=by
 have b:∀i,i<4->(QV i).dot x=0:=by
  intro i a;have:=h (i+1) om;have a:(if aims.getD i 0<=0 then(QV i).smul (-1)else QV i).dot x=0:=this;split at a
  ·rw[smul_dot]at a;omega
  ·exact a
 have⟨g,j,a,k⟩:=zbJ x;exact ext' (by rw[<-g,(b 0 om)];rfl) (by rw[<-j,(b 1 om)];rfl) (by rw[<-a,(b 2 om)];rfl) (by rw[<-k,(b 3 om)];rfl)
end

section
open Go.RowKit
def lowText (a:Int)(b:Nat):U_:=
 if b/Nat.gcd a.natAbs b=1 then Lib.itoa (a/(Nat.gcd a.natAbs b:Int))else overText (a/(Nat.gcd a.natAbs b:Int)) (b/Nat.gcd a.natAbs b:Nat)
