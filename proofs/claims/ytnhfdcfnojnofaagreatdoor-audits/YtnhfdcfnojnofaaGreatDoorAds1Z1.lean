import Derived.Test.YtnhfdcfnojnofaaGreatDoorAds1Z0
import Derived.Test.YtnhfdcfnojnofaaGreatDoorAds1ZS
open Option renaming none->O,some->E
open Go.Value renaming slice->V,bool->G,tuple->tp,int->it
open Go.Obj renaming cells->cl
open Go renaming World->H
open Go.Proofs.Tryz renaming prog->pg
open Go.Proofs.Tryz
set_option linter.unusedSimpArgs false
set_option linter.unusedVariables false
set_option maxHeartbeats 2000000
namespace Go.Proofs.YtnhfdcfnojnofaaGreatDoor
def val:List Nat->Nat
 |[]=>0
 |d::ds=>d+4294967296*val ds
def Dig (ds:List Nat):Prop:=∀d∈ds,d<4294967296
def Top (ds:List Nat):Prop:=∀k,ds.length=k+1->ds.getD k 0≠0
theorem Dig.cons {d:Nat}{ds:List Nat}(h:Dig (d::ds)):d<4294967296/\Dig ds:=
 ⟨h d (ZS ..),fun x a=>h x (Zu _ a)⟩
theorem Dig.get {ds:List Nat}(h:Dig ds)(i:Nat):ds.getD i 0<4294967296:=by
 by_cases a:i<ds.length
 ·rw[zk,zj a,Zg];exact h _ (zZ a)
 ·rw[zk,jY om];simp
theorem Dig.set {ds:List Nat}(h:Dig ds)(i x:Nat)(a:x<4294967296):Dig (ds.set i x):=by
 intro d a;rcases List.mem_or_eq_of_mem_set a with a|a
 ·exact h d a
 ·omega
theorem Dig.take {ds:List Nat}(h:Dig ds)(n:Nat):Dig (ds.take n):=fun d a=>h d (Zv a)
theorem Dig.drop {ds:List Nat}(h:Dig ds)(n:Nat):Dig (ds.drop n):=fun d a=>h d (QO a)
theorem Dig.append {a b:List Nat}(h:Dig a)(k:Dig b):Dig (a++b):=fun d c=>by
 rcases Zs.1 c with c|c
 ·exact h d c
 ·exact k d c
theorem val_append (a b:List Nat):val (a++b)=val a+4294967296^a.length*val b:=by
 induction a with
 |nil=>simp[val]
 |cons d c d=>
  simp only[Q5,val,Zo,d,ZK,qI];rw[Qg (4294967296^c.length) 4294967296,ZD];omega
theorem val_lt {ds:List Nat}(h:Dig ds):val ds<4294967296^ds.length:=by
 induction ds with
 |nil=>simp[val]
 |cons d ds a=>
  have b:=h.cons.1;have b:=a h.cons.2;simp only[val,Zo,ZK];generalize 4294967296^ds.length=p at *;omega
theorem val_replicate (n:Nat):val (List.replicate n 0)=0:=by
 induction n with
 |zero=>rfl
 |succ n a=>simp[List.replicate_succ,val,a]
def Q6 (ds:List Nat):Nat->Nat
 |0=>0
 |k+1=>if ds.getD k 0=0 then Q6 ds k else k+1
theorem zgv (ds:List Nat)(n:Nat):Q6 ds n<=n:=by
 induction n with
 |zero=>exact zh _
 |succ n a=>unfold Q6;split<;>omega
theorem jZ (ds:List Nat)(k:Nat)(h:k<ds.length):ds.take (k+1)=ds.take k ++ [ds.getD k 0]:=by
 rw[Zh h,zk,zj h,Zg]
theorem val_trimL (ds:List Nat)(n:Nat)(h:n<=ds.length):val (ds.take (Q6 ds n))=val (ds.take n):=by
 induction n with
 |zero=>rfl
 |succ n b=>
  unfold Q6;split
  ·rename_i a
   rw[b om,jZ ds n om,val_append,a];simp[val]
  ·rfl
theorem zfx (ds:List Nat)(n:Nat)(h:n<=ds.length):Top (ds.take (Q6 ds n)):=by
 intro k b;have c:=zgv ds n;rw[zU]at b;have a:Q6 ds n=k+1:=om;have:ds.getD k 0≠0:=by
  clear b c;induction n with
  |zero=>simp[Q6]at a
  |succ n e=>
   unfold Q6 at a;split at a
   ·exact e om a
   ·rename_i d
    have:n=k:=om;subst this;exact d
 rw[zk,JL,z8 om,<-zk];exact this
theorem Top.nil:Top []:=fun _ h=>by simp at h
theorem Top.le {ds:List Nat}(h:Top ds)(k:Nat)(a:ds.length=k+1):4294967296^k<=val ds:=by
 have b:=h k a;have e:=jZ ds k om;rw[zy om]at e;rw[e,val_append,zU,ZL om];simp only[val,Z7,qy];have:1<=ds.getD k 0:=om;calc 4294967296^k=4294967296^k*1:=by rw[Qe]
  _<=4294967296^k*ds.getD k 0:=qK _ this
  _<=_:=Nat.le_add_left _ _
theorem pow_mono {a b:Nat}(h:a<=b):4294967296^a<=4294967296^b:=qz dc h
theorem pow_pos (a:Nat):0<4294967296^a:=zac dc
theorem Top.len {ds:List Nat}(h:Top ds){k:Nat}(a:val ds<4294967296^k):ds.length<=k:=by
 cases hl:ds.length with
 |zero=>omega
 |succ j=>
  have:=h.le j hl;have:¬k<=j:=fun a=>by have:=pow_mono a;omega
  omega
theorem Top.zero {ds:List Nat}(h:Top ds):val ds=0↔ds= []:=by
 constructor
 ·intro a;cases hl:ds.length with
  |zero=>exact QM.1 hl
  |succ j=>have:=h.le j hl;have:=pow_pos j;omega
 ·rintro rfl;rfl
theorem val_inj_len {a b:List Nat}(d:Dig a)(e:Dig b)(c:a.length=b.length)(j:val a=val b):a=b:=by
 induction a generalizing b with
 |nil=>cases b with
  |nil=>rfl
  |cons _ _=>simp at c
 |cons f g k=>cases b with
  |nil=>simp at c
  |cons h i=>
   simp only[val]at j;have j:=d.cons.1;have j:=e.cons.1;have j:f=h:=om;have f:val g=val i:=om;rw[j,k d.cons.2 e.cons.2 (by simpa using c) f]
theorem Top.lt_of_len {a b:List Nat}(c:Dig a)(d:Top b)(h:a.length<b.length):val a<val b:=by
 have e:=val_lt c;cases hl:b.length with
 |zero=>omega
 |succ j=>
  have:=d.le j hl;have:=pow_mono (show a.length<=j by omega);omega
theorem Top.inj {a b:List Nat}(c:Dig a)(d:Dig b)(f:Top a)(g:Top b)(e:val a=val b):a=b:=by
 rcases Jo a.length b.length with h|h|h
 ·have:=g.lt_of_len c h;omega
 ·exact val_inj_len c d h e
 ·have:=f.lt_of_len d h;omega
theorem val_take_drop (ds:List Nat)(k:Nat)(h:k<=ds.length):val ds=val (ds.take k)+4294967296^k*val (ds.drop k):=by
 have:=val_append (ds.take k) (ds.drop k);rw[Qf,zU,ZL h]at this;exact this
theorem val_take_succ (ds:List Nat)(k:Nat)(h:k<ds.length):val (ds.take (k+1))=val (ds.take k)+4294967296^k*ds.getD k 0:=by
 rw[jZ ds k h,val_append,zU,ZL om];simp[val]
theorem val_drop (ds:List Nat)(k:Nat)(h:k<ds.length):val (ds.drop k)=ds.getD k 0+4294967296*val (ds.drop (k+1)):=by
 rw[Zn h,val,zk,zj h,Zg]
theorem zbk (ds:List Nat)(i x:Nat)(h:i<ds.length):(ds.set i x).getD i 0=x:=by
 rw[zk,jm h,Zg]
theorem zhs (ds:List Nat)(i j x:Nat)(h:i≠j):(ds.set i x).getD j 0=ds.getD j 0:=by
 rw[zk,Q7 h,<-zk]
theorem zdC (ds:List Nat)(k x:Nat)(h:k<ds.length):(ds.set k x).take (k+1)=ds.take k ++ [x]:=by
 rw[jZ _ k (by simpa using h),zbk ds k x h,List.take_set_of_le (zh _)]
theorem QN (ds:List Nat)(k x:Nat):(ds.set k x).drop (k+1)=ds.drop (k+1):=by
 rw[List.drop_set_of_lt om]
theorem zad {a b:List Nat}{k:Nat}(h:a.drop k=b.drop k):a.drop (k+1)=b.drop (k+1):=by
 rw[<-j7,<-j7,h]
theorem zaZ {a b:List Nat}{k:Nat}(h:a.drop k=b.drop k):a.getD k 0=b.getD k 0:=by
 have c:(a.drop k)[0]? =a[k]?:=by rw[j8,qy]
 have d:(b.drop k)[0]? =b[k]?:=by rw[j8,qy]
 rw[zk,zk,<-c,<-d,h]
theorem val_take_any (ds:List Nat)(k:Nat):val (ds.take (k+1))=val (ds.take k)+4294967296^k*ds.getD k 0:=by
 by_cases h:k<ds.length
 ·exact val_take_succ ds k h
 ·rw[zy om,zy om,zk,jY om];simp
theorem val_lay (ds:List Nat)(k x:Nat)(h:k<ds.length):val ((ds.set k (x%4294967296)).take (k+1))+4294967296^(k+1)*(x/4294967296)=val (ds.take k)+4294967296^k*x:=by
 rw[zdC ds k _ h,val_append,zU,ZL om,ZK,ZD];simp only[val,Z7,qy];rw[zaz,<-qI,Nat.mod_add_div]
theorem add_step {b ds a:List Nat}{k c:Nat}(d:k<b.length)(e:val (b.take k)+4294967296^k*c=val (ds.take k)+val (a.take k)):
 val ((b.set k ((c+ds.getD k 0+a.getD k 0)%4294967296)).take (k+1))+4294967296^(k+1)*((c+ds.getD k 0+a.getD k 0)/4294967296)=val (ds.take (k+1))+val (a.take (k+1)):=by
 rw[val_lay b k _ d,val_take_any ds k,val_take_any a k,qI,qI];omega
theorem zmT {a ds b:List Nat}{k:Nat}(f:k<=a.length)(g:a.length=ds.length)(d:b.length<=k)(c:a.drop k=ds.drop k)(e:val (a.take k)+4294967296^k*0=val (ds.take k)+val (b.take k)):
 val a+4294967296^ds.length*0=val ds+val b:=by
 rw[zy d]at e;rw[val_take_drop a k f,val_take_drop ds k om,c];omega
theorem za9 (a:List Nat)(k:Nat)(h:a.length<=k):a.getD k 0=0:=by
 rw[zk,jY h];rfl
theorem ziO (f y:Nat)(a:f<4294967296)(b:y<4294967296):0<=(f:Int)*(y:Int)/\(f:Int)*(y:Int)<=18446744065119617025:=by
 have a:f*y<=4294967295*4294967295:=Z0 om om;have a:((f*y:Nat):Int)=(f:Int)*(y:Int):=sp;omega
theorem zhR {b ds a:List Nat}{k c d f z c' bw':Nat}(g:k<b.length)(e:val (b.take k)+f*val (a.take k)=val (ds.take k)+4294967296^k*(c+d))
 (h:c+f*a.getD k 0+d+z=ds.getD k 0+4294967296*(c'+bw')):
 val ((b.set k z).take (k+1))+f*val (a.take (k+1))=val (ds.take (k+1))+4294967296^(k+1)*(c'+bw'):=by
 rw[zdC b k _ g,val_append,zU,ZL om,val_take_any ds k,val_take_any a k,ZK,ZD];simp only[val,Z7,qy];generalize val (b.take k)=A at *;generalize val (ds.take k)=D at *;generalize val (a.take k)=b at *;generalize 4294967296^k=p at *;generalize ds.getD k 0=x at *;generalize a.getD k 0=y at *;have a:p*(c+f*y+d+z)=p*(x+4294967296*(c'+bw')):=by rw[h]
 rw[qI p x,qI,qI,qI]at a;rw[qI p c d]at e;rw[qI f,zaS f p y];omega
theorem zlK {a ds b:List Nat}{k f:Nat}(g:k<=a.length)(h:a.length=ds.length)(d:b.length<=k)(c:a.drop k=ds.drop k)(e:val (a.take k)+f*val (b.take k)=val (ds.take k)+4294967296^k*(0+0)):
 val a+f*val b=val ds+4294967296^ds.length*0:=by
 rw[zy d]at e;rw[val_take_drop a k g,val_take_drop ds k om,c];omega
def QL (a b:Nat):Int:=if a<b then -1 else if b<a then 1 else 0
theorem zaA {a b:Nat}(h:a<b):QL a b=-1:=z8 h
theorem zaB {a b:Nat}(h:b<a):QL a b=1:=by unfold QL;rw[zW om,z8 h]
theorem zcw {a b:Nat}(h:a=b):QL a b=0:=by unfold QL;rw[zW om,zW om]
theorem val_lt_at {a b:List Nat}(d:Dig a)(f:a.length=b.length)(k:Nat)(e:k<a.length)(c:a.drop (k+1)=b.drop (k+1))(g:a.getD k 0<b.getD k 0):val a<val b:=by
 rw[val_take_drop a k om,val_take_drop b k om,val_drop a k e,val_drop b k om,c];have c:=val_lt (d.take k);rw[zU,ZL om]at c;generalize val (b.drop (k+1))=x;generalize 4294967296^k=p at *;have c:p*(a.getD k 0+4294967296*x+1)<=p*(b.getD k 0+4294967296*x):=qK _ om;rw[qI,Qe]at c;omega
theorem zgS {a b:List Nat}(f:a.length=b.length)(k:Nat)(d:k<a.length)(e:a.drop (k+1)=b.drop (k+1))(c:a.getD k 0=b.getD k 0):a.drop k=b.drop k:=by
 rw[Zn d,Zn (show k<b.length by omega),e];rw[zk,zk,zj d,zj (show k<b.length by omega),Zg,Zg]at c;rw[c]
open Go.RowKit
def Row (w:H)(b off:Nat)(ds:List Nat):Prop:=
 ∀i,i<ds.length->w.cell? ⟨b,off+i,O⟩=E (it .u32 ((ds.getD i 0:Nat):Int))
def zbE (w:H)(b off n:Nat):Prop:=∀i,i<n->w.frozen? ⟨b,off+i,O⟩=false
def U32s (w:H)(v:Value)(ds:List Nat):Prop:=
 ∃ao cap,v=V ao ds.length cap/\ds.length<=cap/\(ds≠ []->∃b off,ao=E ⟨b,off,O⟩/\b<w.heap.size/\Row w b off ds)
def NatV (w:H)(v:Value)(n:Nat):Prop:=∃ds,U32s w v ds/\Dig ds/\Top ds/\val ds=n
theorem Row.below {w w':H}{b a B:Nat}{ds:List Nat}(h:Row w b a ds)(d:Below B w w')(c:b<B):Row w' b a ds:=
 fun i e=>(d.cell (p:=⟨b,a+i,O⟩) c).trans (h i e)
theorem U32s.below {w w':H}{v:Value}{ds:List Nat}(h:U32s w v ds)(a:Below w.heap.size w w'):U32s w' v ds:=by
 obtain⟨b,c,e,d,f⟩:=h;refine⟨b,c,e,d,fun e=>?_⟩;obtain⟨c,i,d,b,g⟩:=f e;exact⟨c,i,d,zv b a.size,g.below a b⟩
theorem NatV.below {w w':H}{v:Value}{n:Nat}(h:NatV w v n)(d:Below w.heap.size w w'):NatV w' v n:=by
 obtain⟨a,b,c⟩:=h;exact⟨a,b.below d,c⟩
theorem NatV.alloc {w:H}{v:Value}{n:Nat}(h:NatV w v n)(o:Obj):NatV (w.alloc o) v n:=
 h.below ((zR _ _).alloc (zh _) o)
theorem NatV.drew {w:H}{v:Value}{n:Nat}(h:NatV w v n):NatV w.drew v n:=h
theorem NatV.zero (w:H)(a:Option Addr)(cap:Nat):NatV w (V a 0 cap) 0:=
 ⟨[],⟨a,cap,rfl,qp _,fun h=>absurd rfl h⟩,(fun _ h=>by simp at h),Top.nil,rfl⟩
structure Upd (b off n:Nat)(w w':H):Prop where
 os:w'.os=w.os
 tape:w'.tape=w.tape
 output:w'.output=w.output
 size:w'.heap.size=w.heap.size
 block:∀k,k≠b->w'.heap[k]? =w.heap[k]?
 cell:∀j,(j<off\/off+n<=j)->w'.cell? ⟨b,j,O⟩=w.cell? ⟨b,j,O⟩
 frozen:∀j,w'.frozen? ⟨b,j,O⟩=w.frozen? ⟨b,j,O⟩
theorem Upd.refl (b a n:Nat)(w:H):Upd b a n w w:=⟨rfl,rfl,rfl,rfl,fun _ _=>rfl,fun _ _=>rfl,fun _=>rfl⟩
theorem Upd.trans {b a n:Nat}{u v w:H}(h:Upd b a n u v)(k:Upd b a n v w):Upd b a n u w:=
 ⟨k.os.trans h.os,k.tape.trans h.tape,k.output.trans h.output,k.size.trans h.size,fun i a=>(k.block i a).trans (h.block i a),
  fun j a=>(k.cell j a).trans (h.cell j a),fun j=>(k.frozen j).trans (h.frozen j)⟩
theorem Upd.wide {b a n c d:Nat}{w w':H}(h:Upd b a n w w')(h1:c<=a)(e:a+n<=c+d):Upd b c d w w':=
 ⟨h.os,h.tape,h.output,h.size,h.block,fun j a=>h.cell j om,h.frozen⟩
theorem Upd.setCell {b a n:Nat}{u w:H}(h:Upd b a n u w)(i:Nat)(c:i<n)(x:Value):Upd b a n u (w.setCell ⟨b,a+i,O⟩ x):=
 h.trans ⟨rfl,rfl,rfl,sp,fun k a=>zK _ _ _ _ a,
  fun j a=>zp _ _ _ _ (by intro a;injection a with _ a;omega),fun j=>sp⟩
theorem Upd.below {b a n B:Nat}{w w':H}(h:Upd b a n w w')(c:B<=b):Below B w w':=
 ⟨h.os,h.tape,h.output,Z1 h.size.symm,fun k a=>h.block k om⟩
theorem Upd.other {b d n:Nat}{w w':H}(h:Upd b d n w w'){c o:Nat}{ds:List Nat}(a:c≠b)(e:Row w c o ds):Row w' c o ds:=
 fun i d=>(zP (w:=w) (h.block c a)).trans (e i d)
theorem Upd.free {b c n:Nat}{w w':H}(h:Upd b c n w w'){o m:Nat}(a:zbE w b o m):zbE w' b o m:=fun i c=>(h.frozen _).trans (a i c)
theorem Row.setCell {w:H}{b a:Nat}{ds:List Nat}(h:Row w b a ds)(i x:Nat)(c:i<ds.length):
 Row (w.setCell ⟨b,a+i,O⟩ (it .u32 (x:Int))) b a (ds.set i x):=by
 intro j d;rw[Zf]at d;by_cases a:i=j
 ·subst a;rw[zu _ _ _ (h i c),zbk ds i x c]
 ·rw[zp _ _ _ _ (by intro c;injection c with _ c;omega),zhs ds i j x a];exact h j d
theorem Row.take {w:H}{b a:Nat}{ds:List Nat}(h:Row w b a ds)(n:Nat):Row w b a (ds.take n):=by
 intro i a;rw[zU]at a;rw[h i om,zk,zk,JL,z8 om]
theorem Row.drop {w:H}{b a:Nat}{ds:List Nat}(h:Row w b a ds)(n:Nat):Row w b (a+n) (ds.drop n):=by
 intro i c;rw[qu]at c;rw[show a+n+i=a+(n+i)by omega,h (n+i) om,zk,zk,j8]
theorem Row.append {w:H}{b c:Nat}{a ys:List Nat}(h:Row w b c a)(k:Row w b (c+a.length) ys):Row w b c (a++ys):=by
 intro i d;rw[zX]at d;by_cases d:i<a.length
 ·rw[h i d,zk,zk,zM d]
 ·have:=k (i-a.length) om;rw[show c+a.length+(i-a.length)=c+i by omega]at this;rw[this,zk,zk,zJ om]
theorem block_of_row {w:H}{b a:Nat}{ds:List Nat}(h:Row w b a ds)(c:ds≠ []):b<w.heap.size:=by
 have a:=Zq.2 c;exact zN (h 0 a)
theorem U32s.mk {w:H}{b a cap:Nat}{ds:List Nat}(h:Row w b a ds)(c:b<w.heap.size)(d:ds.length<=cap):U32s w (V (E ⟨b,a,O⟩) ds.length cap) ds:=
 ⟨_,cap,rfl,d,fun _=>⟨b,a,rfl,c,h⟩⟩
theorem natV_trim {w:H}{b a cap n:Nat}{ds:List Nat}(h:Row w b a ds)(d:Dig ds)(c:b<w.heap.size)(f:ds.length=n)(e:n<=cap):
 NatV w (V (E ⟨b,a,O⟩) (Q6 ds n) cap) (val ds):=by
 have e:=zgv ds n;have e:(ds.take (Q6 ds n)).length=Q6 ds n:=by rw[zU];omega
 refine⟨ds.take (Q6 ds n),⟨_,cap,by rw[e],om,fun _=>⟨b,a,rfl,c,h.take _⟩⟩,d.take _,zfx ds n om,?_⟩;rw[val_trimL ds n om,zy om]
def U32b (w:H)(b:Nat)(v:Value)(ds:List Nat):Prop:=
 ∃ao cap,v=V ao ds.length cap/\ds.length<=cap/\(ds≠ []->∃b' off,ao=E ⟨b',off,O⟩/\b'<w.heap.size/\b'≠b/\Row w b' off ds)
theorem U32s.away {w w':H}{v:Value}{ds:List Nat}(h:U32s w v ds)(a:Below w.heap.size w w')(b:Nat)(c:w.heap.size<=b):U32b w' b v ds:=by
 obtain⟨c,d,f,e,g⟩:=h;refine⟨c,d,f,e,fun f=>?_⟩;obtain⟨d,j,e,c,i⟩:=g f;exact⟨d,j,e,zv c a.size,om,i.below a c⟩
theorem U32b.upd {w w':H}{b a n:Nat}{v:Value}{ds:List Nat}(h:U32b w b v ds)(d:Upd b a n w w'):U32b w' b v ds:=by
 obtain⟨c,e,g,f,j⟩:=h;refine⟨c,e,g,f,fun i=>?_⟩;obtain⟨e,a,f,g,c,k⟩:=j i;exact⟨e,a,f,by rw[d.size];exact g,c,d.other c k⟩
theorem bcell {W a:H}(c:Below W.heap.size W a):(∀b o,b<W.heap.size->a.cell? ⟨b,o,O⟩=W.cell? ⟨b,o,O⟩)/\(∀b o,b<W.heap.size->a.frozen? ⟨b,o,O⟩=W.frozen? ⟨b,o,O⟩):=
 ⟨fun b o h=>c.cell (p:=⟨b,o,O⟩) h,fun b o h=>c.frozen (p:=⟨b,o,O⟩) h⟩
theorem zi {p:Prop}(h:p):Hid p:=h
theorem zfy {p:Prop}(h:Hid p):p:=h
theorem QW {k:IntKind}{a b:Int}(h:a=b):Ending.returned (it k a)= .returned (it k b):=by rw[h]
theorem jH {a b:Bool}(h:a=b):Ending.returned (G a)= .returned (G b):=by rw[h]
theorem zel {a:Option Addr}{m n c:Nat}(h:m=n):Ending.returned (V a m c)= .returned (V a n c):=by rw[h]
def lenOf:Value->Nat|V _ k _=>k|_=>0
structure zw (B:Nat)(W W':H):Prop where
 os:W'.os=W.os
 tape:W'.tape=W.tape
 output:W'.output=W.output
 size:W.heap.size<=W'.heap.size
 block:∀(k:Nat) (o:Obj),W.heap[k]? =E o->(k<B\/o.isCells=true)->W'.heap[k]? =E o
theorem zw.trans {B:Nat}{X Y Z:H}(h:zw B X Y)(k:zw B Y Z):zw B X Z:=
 ⟨k.os.trans h.os,k.tape.trans h.tape,k.output.trans h.output,zL h.size k.size,fun i o b a=>k.block i o (h.block i o b a) a⟩
theorem zw.mono {B B':Nat}{W W':H}(h:zw B W W')(a:B'<=B):zw B' W W':=
 ⟨h.os,h.tape,h.output,h.size,fun k o b c=>h.block k o b (c.imp (fun h=>zv h a) id)⟩
theorem zw.of_below {B:Nat}{W W':H}(h:Below W.heap.size W W'):zw B W W':=
 ⟨h.os,h.tape,h.output,h.size,fun k _ a _=>(h.block k (zf.1 a).1).trans a⟩
theorem zw.alloc (B:Nat)(W:H)(o:Obj):zw B W (W.alloc o):=zw.of_below ((zR _ _).alloc (zh _) o)
theorem zw.putObj {B l:Nat}{W:H}{o:Obj}(a:Obj)(c:B<=l)(b:W.heap[l]? =E o)(ho:o.isCells=false):zw B W (W.putObj l a):=
 ⟨rfl,rfl,rfl,sp,fun k x a d=>by
  have c:k≠l:=by
   intro e;subst e;rw[b]at a;cases a;rcases d with h|h
   ·omega
   ·rw[ho]at h;cases h
  exact(Zp c).trans a⟩
theorem zw.below {B b:Nat}{w W W':H}(h:zw B W W')(a:Below b w W)(c:b<=B)(d:b<=w.heap.size):Below b w W':=
 ⟨h.os.trans a.os,h.tape.trans a.tape,h.output.trans a.output,zL a.size h.size,fun k c=>by
  have b:k<W.heap.size:=by have:=a.size;omega
  rw[<-a.block k c,ZM b];exact h.block k _ (ZM b) (.inl om)⟩
theorem cells_of_cell {W:H}{p:Addr}{v:Value}(h:W.cell? p=E v):∃o:Obj,W.heap[p.block]? =E o/\o.isCells=true:=by
 unfold World.cell? at h;cases ho:W.heap[p.block]? with
 |none=>simp[ho]at h
 |some o=>exact⟨o,rfl,by cases o<;>simp_all[Obj.isCells]⟩
theorem zw.cell {B:Nat}{W W':H}(h:zw B W W'){p:Addr}{v:Value}(a:W.cell? p=E v):W'.cell? p=E v:=by
 obtain⟨o,b,c⟩:=cells_of_cell a;exact(zP (w:=W) ((h.block _ o b (.inr c)).trans b.symm)).trans a
theorem zw.frozen {B:Nat}{W W':H}(h:zw B W W'){p:Addr}{v:Value}(b:W.cell? p=E v):W'.frozen? p=W.frozen? p:=by
 obtain⟨o,a,c⟩:=cells_of_cell b;exact zt (w:=W) ((h.block _ o a (.inr c)).trans a.symm)
theorem zw.drewN (B:Nat)(W:H)(q:Nat):zw B W (W.drewN q):=⟨rfl,rfl,rfl,zh _,fun _ _ h _=>h⟩
theorem Below.drawn {B:Nat}{a w:H}(h:Below B a w)(q:Nat):Below B a (w.drewN q):=h.trans (c:=w.drewN q) ⟨rfl,rfl,rfl,zh _,fun _ _=>rfl⟩
structure Wr (T:Nat->Prop)(w w':H):Prop where
 os:w'.os=w.os
 tape:w'.tape=w.tape
 output:w'.output=w.output
 size:w.heap.size<=w'.heap.size
 block:∀k,k<w.heap.size->¬T k->w'.heap[k]? =w.heap[k]?
theorem Wr.refl (T:Nat->Prop)(w:H):Wr T w w:=⟨rfl,rfl,rfl,zh _,fun _ _ _=>rfl⟩
theorem Wr.trans {T:Nat->Prop}{a b c:H}(h:Wr T a b)(k:Wr T b c):Wr T a c:=
 ⟨k.os.trans h.os,k.tape.trans h.tape,k.output.trans h.output,zL h.size k.size,fun i d e=>(k.block i (zv d h.size) e).trans (h.block i d e)⟩
theorem Wr.of_below {T:Nat->Prop}{w w':H}(h:Below w.heap.size w w'):Wr T w w':=⟨h.os,h.tape,h.output,h.size,fun k a _=>h.block k a⟩
theorem Wr.setCell {T:Nat->Prop}{a w:H}(h:Wr T a w){p:Addr}(c:T p.block)(u:Value):Wr T a (w.setCell p u):=
 h.trans ⟨rfl,rfl,rfl,by simp[World.setCell],fun k _ b=>zK _ _ _ _ (fun e=>b (e▸c))⟩
theorem Wr.mono {T a:Nat->Prop}{w w':H}(h:Wr T w w')(c:∀k,T k->a k):Wr a w w':=⟨h.os,h.tape,h.output,h.size,fun k a b=>h.block k a (fun e=>b (c k e))⟩
theorem Wr.below {T:Nat->Prop}{B:Nat}{w w':H}(h:Wr T w w')(b:B<=w.heap.size)(a:∀k,T k->B<=k):Below B w w':=
 ⟨h.os,h.tape,h.output,h.size,fun k b=>h.block k om (fun e=>by have:=a k e;omega)⟩
theorem Wr.cell {T:Nat->Prop}{w w':H}(h:Wr T w w'){p:Addr}(b:¬T p.block){v:Value}(a:w.cell? p=E v):w'.cell? p=E v:=
 (zP (w:=w) (h.block p.block (zN a) b)).trans a
theorem Wr.from {T:Nat->Prop}{B:Nat}{w w':H}(h:Wr T w w')(b:∀k,T k->k<B):KeepsFrom B w w':=
 ⟨h.size,fun k o a a _=>(h.block k (zf.1 a).1 (fun e=>by have:=b k e;omega)).trans a⟩
theorem YieldAt.any {n:Nat}(m:Nat){P:Program}{l:Nat}{args:Array Value}{W:H}{R:Ending->H->Prop}(h:YieldAt Fence.wide n P l args W R):YieldAt Fence.wide m P l args W R:=by
 obtain⟨d,f,b,c,e,a⟩:=h;exact⟨d,f,b,c,e,a.1,fun c b _=>a.2 c b (room_wide _)⟩
def SeqL (P:Program)(g:Nat)(lb:Array Value)(vs:List (Array Value))(C:H->Prop):Prop:=
 ∀(l:Nat) (J:Nat->(Nat->Prop)->H->Prop) (Jx:Nat->H->Prop) (M0:Nat->Prop) (W:H),
  (∀k M A B,J k M A->zw W.heap.size A B->J k M B)->(∀k A B,Jx k A->zw W.heap.size A B->Jx k B)->
  (∀k M A,J k M A->C A/\∀x,M x->x<A.heap.size)->
  (∀k v M W1,vs[k]? =E v->J k M W1->YieldAt Fence.wide 0 P l v W1 fun e W'=>
   (e= .returned (G true)/\Wr M W1 W'/\∃M',J (k+1) M' W'/\∀x,M' x->M x\/W1.heap.size<=x)\/(e= .returned (G false)/\Wr M W1 W'/\Jx k W'))->
  J 0 M0 W->
  Calls P g (#[.func (.yield l) #[] #[]]++lb) W fun e W'=>(∃v,e= .returned v)/\((∃M,J vs.length M W')\/∃k,k<vs.length/\Jx k W')
def Qs (M:Nat->Prop)(I:Nat->(Nat->Prop)->H->Prop)(Ix:Code->Nat->H->Prop)(k:Nat)(W W2:H):Exit->Act->H->Prop
 |.normal,_,W'=>Wr M W2 W'/\∃M',I (k+1) M' W'/\∀x,M' x->M x\/W.heap.size<=x
 |.ret,_,W'=>Wr M W2 W'/\Ix .ret k W'
 |.exit id,_,W'=>Wr M W2 W'/\Ix (.exit id) k W'
 |.goto t,_,W'=>Wr M W2 W'/\Ix (.goto t) k W'
 |.panic _,_,_=>False
 |.outgrown,_,_=>False
def Qr (P:Program)(n B:Nat)(M:Nat->Prop)(I:Nat->(Nat->Prop)->H->Prop)(Ix:Code->Nat->H->Prop)(ps:Array Tmp)(assign body:Code)(a:Act)(l k:Nat)(v:Array Value)(W:H):Prop:=
 assign.wpIn (Fence.wide.inRound l) n P
  (Exit.then (fun a' W'=>Wr M W W'/\∀W2,zw B W' W2->body.wpIn (Fence.wide.inRound l) n P (Qs M I Ix k W W2) a' W2) (fun _ _ _=>False))
  { tmps:=(ps.zip v).foldl (fun t (p,u)=>t.setIfInBounds p u) a.tmps,defers:= [] } W
theorem Wr.putObj {T:Nat->Prop}{w:H}{l:Nat}(b:T l)(o:Obj):Wr T w (w.putObj l o):=
 ⟨rfl,rfl,rfl,sp,fun k _ a=>Zp (fun e=>a (e▸b))⟩
theorem Wr.some {T:Nat->Prop}{w w':H}(h:Wr T w w'){k:Nat}{o:Obj}(ho:w.heap[k]? =Option.some o)(a:¬T k):w'.heap[k]? =Option.some o:=
 (h.block k (zf.1 ho).1 a).trans ho
theorem zaE {P:Program}{n:Nat}{g:Operand}{ps:Array Tmp}{assign body:Code}{Q:Exit->Act->H->Prop}{a:Act}{w:H}
 {gf:Nat} {lb:Array Value} {vs:List (Array Value)} {C:H->Prop} (hseq:SeqL P gf lb vs C)
 (hg:a.eval g= .func (.func gf) #[] lb) (eg:∀args w,(callFunc gf args).run P w= .ok (.enter gf args) w)
 (hps:∀v∈vs,v.size=ps.size) (I:Nat->(Nat->Prop)->H->Prop) (Ix:Code->Nat->H->Prop) (M0:Nat->Prop)
 (hI:∀k M A B,I k M A->zw w.heap.size A B->I k M B) (hIx:∀c k A B,Ix c k A->zw w.heap.size A B->Ix c k B)
 (hC:∀k M A,I k M A->C A/\∀x,M x->x<A.heap.size) (h0:I 0 M0 w)
 (hround:∀(l k:Nat) (v:Array Value) (M:Nat->Prop) (W:H),vs[k]? =E v->I k M W->Qr P n w.heap.size M I Ix ps assign body a l k v W)
 (hdone:∀(D:Nat) (M:Nat->Prop) (W:H),w.heap.size<=D->I vs.length M W->W.heap[D]? =E (.deferred (E []))->Q .normal { a with defers:={ target:= .collected D,args:=#[] } :: a.defers } W)
 (hstop:∀(D:Nat) (c:Code) (k:Nat) (W:H),w.heap.size<=D->k<vs.length->Ix c k W->W.heap[D]? =E (.deferred (E []))->c.wpIn Fence.wide n P Q { a with defers:={ target:= .collected D,args:=#[] } :: a.defers } W):
 (Code.rangeFunc g ps assign body).wpIn Fence.wide n P Q a w:=by
 refine wpIn_rangeFunc fun fn _=>?_
 obtain⟨rc,hrc⟩:∃rc:LoopState->Option Code->Loop,rc=fun st pe=>{ state:=st,pending:=pe,fn,tmps:=a.tmps,params:=ps,assign,body,defers:=w.heap.size }:=⟨_,rfl⟩
 obtain⟨W0,hW0⟩:∃W0,(w.alloc (.deferred (E []))).alloc (.loop (rc .ready O))=W0:=⟨_,rfl⟩;obtain⟨l,hl⟩:∃l,w.heap.size+1=l:=⟨_,rfl⟩;have hL0:W0.heap[l]? =E (.loop (rc .ready O)):=by
  rw[<-hW0,<-hl];have h:=qq (w.alloc (.deferred (E []))) (.loop (rc .ready O));rwa [qx]at h
 have hD0:W0.heap[w.heap.size]? =E (.deferred (E [])):=by
  rw[<-hW0];exact(zI _ _ _ sp).trans (qq w _)
 have hI0:I 0 M0 W0:=hI _ _ _ _ h0 (by rw[<-hW0];exact(zw.alloc _ _ _).trans (zw.alloc _ _ _));have hs2:W0.heap.size=w.heap.size+2:=by rw[<-hW0];simp
 have hsz:w.heap.size<=W0.heap.size:=om;refine⟨l,[{ target:= .collected w.heap.size,args:=#[] }],W0,{ target:= .fn (.func gf) lb,args:=#[.func (.yield l) #[] #[]] },W0,gf,
  #[.func (.yield l) #[] #[]]++lb,W0,?_,?_,fun _ _=>trivial,?_,(fun h=>by cases h),zS.2 ?_⟩
 ·rw[<-hW0,<-hl,hrc];exact run_enterLoop_outer _ _ _ _ _
 ·simp only[resolve,hg];simp[go_sem]
 ·simp[invoke,go_sem,eg]
 ·refine(hseq l
   (fun k M W=>∃N,(∀x,M x↔N x\/x=l)/\I k N W/\(∀x,N x->x<w.heap.size\/W0.heap.size<=x)/\W.heap[l]? =E (.loop (rc .ready O))/\W.heap[w.heap.size]? =E (.deferred (E [])))
   (fun k W=>∃c,Ix c k W/\W.heap[l]? =E (.loop (rc .done (E c)))/\W.heap[w.heap.size]? =E (.deferred (E [])))
   (fun x=>M0 x\/x=l) W0 ?_ ?_ ?_ ?_ ⟨M0,fun _=>Ql,hI0,fun x hx=> .inl ((hC _ _ _ h0).2 x hx),hL0,hD0⟩).mono ?_
  ·rintro k M A B ⟨N,h1,h2,h3,h4,h5⟩ hb;exact⟨N,h1,hI _ _ _ _ h2 (hb.mono hsz),h3,hb.block _ _ h4 (.inl om),hb.block _ _ h5 (.inl om)⟩
  ·rintro k A B ⟨c,h1,h2,h3⟩ hb;exact⟨c,hIx _ _ _ _ h1 (hb.mono hsz),hb.block _ _ h2 (.inl om),hb.block _ _ h3 (.inl om)⟩
  ·rintro k M A ⟨N,h1,h2,h3,h4,h5⟩;refine⟨(hC _ _ _ h2).1,fun x hx=>?_⟩;rcases(h1 x).1 hx with h|h
   ·exact(hC _ _ _ h2).2 x h
   ·rw[h];exact(zf.1 h4).1
  ·rintro k v M W hv ⟨N,hMN,hi,hN,hlr,hd⟩;have hy:=run_yield (P:=P) (args:=v) hlr (by rw[hrc];exact hps v (qJ hv));rw[hrc]at hy;have hNl:¬N l:=fun h=>by rcases hN l h with h|h<;>omega
   have hND:¬N w.heap.size:=fun h=>by rcases hN _ h with h|h<;>omega
   have hs0:W0.heap.size<=W.heap.size:=by
    have:=(zf.1 hlr).1;omega
   have up:∀{X Y:H},Wr N X Y->Wr M X Y:=fun h=>h.mono fun x hx=>(hMN x).2 (.inl hx)
   refine YieldAt.any 0 (n:=n) ⟨fn,_,assign,body,hy,roundIn_of_wpIn trivial (zbF (hround l k v N W hv hi) ?_)⟩;rintro e a' W' he;cases e with
   |normal=>
    obtain⟨hk,hb⟩:=he;have hl':=hk.some hlr hNl;have hd':=hk.some hd hND;refine⟨_,run_beginRound hl' (by rw[hrc]),?_⟩;have hl2:(W'.putObj l (.loop { rc .ready O with state:= .busy })).heap[l]? =E (.loop { rc .ready O with state:= .busy }):=jN (zf.1 hl').1;have hd2:(W'.putObj l (.loop { rc .ready O with state:= .busy })).heap[w.heap.size]? =E (.deferred (E [])):=(Zp om).trans hd';have hw2:Wr M W (W'.putObj l (.loop { rc .ready O with state:= .busy })):=(up hk).trans (Wr.putObj ((hMN l).2 (.inr rfl)) _);refine zbF (hb _ (zw.putObj _ om hl' rfl)) ?_;have fin:∀(jump:Option Code) (W3:H),Wr N (W'.putObj l (.loop { rc .ready O with state:= .busy })) W3->
     ∃W4,(Instr.endRound l jump).run P W3= .ok (G jump.isNone) W4/\zw w.heap.size W3 W4/\Wr M W W4/\
      W4.heap[l]? =E (.loop (rc (if jump.isNone then .ready else .done) jump))/\W4.heap[w.heap.size]? =E (.deferred (E [])):=fun jump W3 hk3=>by
     have hl3:=hk3.some hl2 hNl;have hd3:=hk3.some hd2 hND;refine⟨_,run_endRound jump hl3,zw.putObj _ om hl3 rfl,(hw2.trans (up hk3)).trans (Wr.putObj ((hMN l).2 (.inr rfl)) _),?_,(Zp om).trans hd3⟩;rw[jN (zf.1 hl3).1,hrc]
    rintro e a3 W3 hp;cases e with
    |normal=>
     obtain⟨hp1,N',hp2,hp3⟩:=hp;obtain⟨W4,hr,hk4,hw4,hl4,hd4⟩:=fin O W3 hp1;refine⟨_,_,hr,.inl ⟨rfl,hw4,fun x=>N' x\/x=l,⟨N',fun _=>Ql,hI _ _ _ _ hp2 hk4,fun x hx=>?_,hl4,hd4⟩,fun x hx=>?_⟩⟩
     ·rcases hp3 x hx with h|h
      ·exact hN x h
      ·exact .inr om
     ·rcases hx with h|h
      ·rcases hp3 x h with h|h
       ·exact .inl ((hMN x).2 (.inl h))
       ·exact .inr h
      ·exact .inl ((hMN x).2 (.inr h))
    |ret=>
     obtain⟨W4,hr,hk4,hw4,hl4,hd4⟩:=fin (E .ret) W3 hp.1;exact⟨_,_,hr,.inr ⟨rfl,hw4,.ret,hIx _ _ _ _ hp.2 hk4,hl4,hd4⟩⟩
    |exit id=>
     obtain⟨W4,hr,hk4,hw4,hl4,hd4⟩:=fin (E (.exit id)) W3 hp.1;exact⟨_,_,hr,.inr ⟨rfl,hw4,.exit id,hIx _ _ _ _ hp.2 hk4,hl4,hd4⟩⟩
    |goto t=>
     obtain⟨W4,hr,hk4,hw4,hl4,hd4⟩:=fin (E (.goto t)) W3 hp.1;exact⟨_,_,hr,.inr ⟨rfl,hw4,.goto t,hIx _ _ _ _ hp.2 hk4,hl4,hd4⟩⟩
    |panic ch=>exact hp.elim
    |outgrown=>exact hp.elim
   |ret=>exact he.elim
   |exit id=>exact he.elim
   |goto t=>exact he.elim
   |panic ch=>exact he.elim
   |outgrown=>exact he.elim
  ·rintro e W2 ⟨⟨v,rfl⟩,(⟨M,N,_,hi,_,hlr,hd⟩|⟨k,hk,c,hi,hlr,hd⟩)⟩
   ·refine⟨O,_,(by have h:=zb7 (P:=P) hlr (by rw[hrc];simp);rw[hrc]at h;exact h),?_⟩;exact hdone _ N _ (zh _) (hI _ _ _ _ hi (zw.putObj _ om hlr rfl)) ((Zp om).trans hd)
   ·refine⟨E c,_,(by have h:=zb7 (P:=P) hlr (by rw[hrc];simp);rw[hrc]at h;exact h),?_⟩;exact hstop _ c k _ (zh _) hk (hIx _ _ _ _ hi (zw.putObj _ om hlr rfl)) ((Zp om).trans hd)
theorem qt {P:Program}{n:Nat}{a:Func}{tmps:Array Value}{R:Ending->H->Prop}{D:Nat}{ds:List Deferred}{W:H}(b:W.heap[D]? =E (.deferred (E [])))
 (h:LeavesInM Fence.wide n P a tmps R ds .returning (W.putObj D (.deferred O))):
 LeavesInM Fence.wide n P a tmps R ({ target:= .collected D,args:=#[] } :: ds) .returning W:=
 ⟨sp,.inl ⟨_,_,rfl,run_takeDeferred b,h⟩⟩
theorem jt {n l:Nat}{P:Program}{o:Oper}{a:Act}{next:Act->H->Prop}{Q:Exit->Act->H->Prop}{v:Array Value}{W:H}{R1 R2:H->Prop}
 (h:YieldAt Fence.wide 0 P l v W fun e W'=>(e= .returned (G true)/\R1 W')\/(e= .returned (G false)/\R2 W'))
 (h1:∀W',R1 W'->next (a.put o.dst (G true)) W') (h2:∀W',R2 W'->next (a.put o.dst (G false)) W'):
 Oper.uponIn Fence.wide n P o a next Q ((Instr.yield l v).run P W):=by
 obtain⟨fn,tmps,assign,body,hy,hR⟩:=YieldAt.any (n-1) h;rw[hy];refine⟨(fun h=>by cases h),hR.mono ?_⟩;rintro e W' (⟨rfl,h3⟩|⟨rfl,h3⟩);·exact h1 W' h3
 ·exact h2 W' h3
theorem zgh {m n l:Nat}{P:Program}{o:Oper}{a:Act}{next:Act->H->Prop}{Q:Exit->Act->H->Prop}{v:Array Value}{W:H}{R1 R2:H->Prop}
 (h:YieldAt Fence.wide 0 P l v W fun e W'=>(e= .returned (G true)/\R1 W')\/(e= .returned (G false)/\R2 W'))
 (h1:∀W',R1 W'->next (a.put o.dst (G true)) W') (h2:∀W',R2 W'->next (a.put o.dst (G false)) W'):
 Oper.uponIn (Fence.wide.inRound m) n P o a next Q ((Instr.yield l v).run P W):=by
 obtain⟨fn,tmps,assign,body,hy,hR⟩:=YieldAt.any (n-1) h;rw[hy];refine⟨(fun h=>by cases h),RoundIn.mono (F:=Fence.wide.inRound m) hR ?_⟩;rintro e W' (⟨rfl,h3⟩|⟨rfl,h3⟩);·exact h1 W' h3
 ·exact h2 W' h3
theorem zd6 {l:Nat}(m n:Nat){P:Program}{v:Array Value}{W:H}{d f:H->Prop}
 (h:YieldAt Fence.wide 0 P l v W fun e W'=>(e= .returned (G true)/\d W')\/(e= .returned (G false)/\f W')):
 ∃c tmps a b,(Instr.yield l v).run P W= .ok (.round l c tmps a b) W/\
  RoundIn (Fence.wide.inRound m) n P l c tmps a b W fun e W'=>∃t,e= .returned (G t)/\Hid ((t=true->d W')/\(t=false->f W')):=by
 obtain⟨c,tmps,a,b,f,d⟩:=YieldAt.any n h;refine⟨c,tmps,a,b,f,RoundIn.mono (F:=Fence.wide.inRound m) d ?_⟩;rintro e W' (⟨rfl,a⟩|⟨rfl,a⟩);·exact⟨true,rfl,fun _=>a,fun h=>by cases h⟩
 ·exact⟨false,rfl,(fun h=>by cases h),fun _=>a⟩
theorem zw.drew (B:Nat)(W:H):zw B W W.drew:=⟨rfl,rfl,rfl,zh _,fun _ _ h _=>h⟩
theorem Wr.drew (T:Nat->Prop)(W:H):Wr T W W.drew:=⟨rfl,rfl,rfl,zh _,fun _ _ _=>rfl⟩
theorem qW:(Fence.wide.depth=O)=True:=by simp[Fence.wide]
theorem ZR (f:Nat):Fence.wide.fn f=True:=rfl
theorem zeI (x d:Nat)(b:x<4294967296)(a:d<4294967296):bits .or .u64 ((x:Int)*4294967296) (d:Int)=((d+4294967296*x:Nat):Int):=by
 have e:((x:Int)*4294967296)=((x*4294967296:Nat):Int):=om;rw[e,u64_or_nat _ _ om om,nat_join 32 (x*4294967296) d om om];omega
theorem zaF (w:H)(v:Value)(h:NatV w v 0):
 Calls pg 77 #[v] w fun e w'=>e= .returned (G true)/\w'=w:=by
 obtain⟨_,⟨_,_,rfl,_,f⟩,c,a,b⟩:=h;have d:=a.zero.1 b;subst d;clear f b a c;go_enter func77,ntmps77
 go_wp2;go_ret;exact⟨rfl,rfl⟩
theorem Jq (w:H)(v:Value)(n:Nat)(h:NatV w v n)(c:n≠0):
 Calls pg 77 #[v] w fun e w'=>e= .returned (G false)/\w'=w:=by
 obtain⟨a,⟨_,_,rfl,_,j⟩,f,k,d⟩:=h;have b:a≠ []:=fun e=>c (by rw[<-d,e];rfl)
 have g:=Zq.2 b;have i:((a.length:Int) == 0)=false:=qO.2 om;generalize a.length=len at g i⊢;clear j d k f c b;go_enter func77,ntmps77
 go_wp2;go_ret;exact⟨rfl,rfl⟩
theorem zem (w:H)(v:Value)(h:NatV w v 1):
 Calls pg 134 #[v] w fun e w'=>e= .returned (G true)/\w'=w:=by
 obtain⟨d,⟨_,_,rfl,_,b⟩,f,c,a⟩:=h;have g:=c.len (k:=1) (by rw[a];decide);match d,g with
 |[],_=>simp[val]at a
 |[d],_=>
  simp[val]at a;subst a;obtain⟨_,_,rfl,_,a⟩:=b sp;have d:=a 0 sp;simp at d;clear b a f c;go_enter func134,ntmps134
  go_wp2;go_ret;exact⟨rfl,rfl⟩
theorem zeX (w:H)(v:Value)(n:Nat)(h:NatV w v n)(j:n≠1):
 Calls pg 134 #[v] w fun e w'=>e= .returned (G false)/\w'=w:=by
 obtain⟨a,⟨_,_,rfl,_,b⟩,g,l,c⟩:=h;by_cases i:a.length=1
 ·match a,i with
  |[d],_=>
   simp[val]at c;subst c;obtain⟨_,_,rfl,_,k⟩:=b sp;have f:=k 0 sp;simp at f;clear b k g l;have k:((d:Int) == 1)=false:=qO.2 om;generalize (d:Int)=x at f k;clear j;go_enter func134,ntmps134
   go_wp2;go_ret;exact⟨rfl,rfl⟩
 ·have d:((a.length:Int) == 1)=false:=qO.2 om;generalize a.length=len at d;clear b c l g j i;go_enter func134,ntmps134
  go_wp2;go_ret;exact⟨rfl,rfl⟩
theorem trim_any (w:H)(b a cap n:Nat)(ds:List Nat)(d:n<=cap)(f:n<=140737488355328)(g:n<=ds.length)(c:Row w b a ds):
 Calls pg 225 #[V (E ⟨b,a,O⟩) n cap] w fun e w'=>e= .returned (V (E ⟨b,a,O⟩) (Q6 ds n) cap)/\w'=w:=by
 go_enter func225,ntmps225
 go_wp2;go_loop [0] (fun v=>∃k:Nat,k<=n/\Hid (Q6 ds n=Q6 ds k)/\v=V (E ⟨b,a,O⟩) k cap) lenOf
 case atStart=>exact⟨n,zh _,rfl,rfl⟩
 case round=>
  obtain⟨k,_,d,rfl⟩:=hrel;cases k with
  |zero=>
   go_wp2;go_ret;exact⟨zel d.out.symm,rfl⟩
  |succ k=>
   have f:=c k om;by_cases a:ds.getD k 0=0
   ·rw[a]at f;have c:Hid (ds.getD k 0=0):=a;clear a;go_wp2;go_round
    case rel=>exact⟨k,om,by rw[Hid,d.out,Q6,z8 c.out],rfl⟩
    case measure=>simp[lenOf]
   ·have h:((ds.getD k 0:Nat):Int)≠0:=om;generalize g:((ds.getD k 0:Nat):Int)=x at f h;clear g;have c:Hid (¬ds.getD k 0=0):=a;clear a;go_wp2;go_ret;exact⟨zel (by rw[d.out,Q6,zW c.out]),rfl⟩
theorem zfv (w:H)(a b:Nat)(c:a<18446744073709551616)(d:b<18446744073709551616):
 Calls pg 219 #[it .u64 (a:Nat),it .u64 (b:Nat)] w fun e w'=>e= .returned (it .u64 (Nat.gcd a b:Nat))/\∃n,w'=w.drewN n:=by
 go_enter func219,ntmps219
 go_wp2;go_loopw [0,1] (fun u v wr=>∃x y:Nat,x<18446744073709551616/\y<18446744073709551616/\u=it .u64 (x:Nat)/\v=it .u64 (y:Nat)/\Hid (Nat.gcd x y=Nat.gcd a b)/\∃n,wr=w.drewN n) (fun _ v _=>(intOf v).toNat)
 case atStart=>exact⟨a,b,c,d,rfl,rfl,rfl,0,rfl⟩
 case round=>
  obtain⟨x,y,_,f,rfl,rfl,d,n,rfl⟩:=hrel;by_cases c:0<y
  ·go_wp2;go_region
   all_goals go_wp2
   go_roundw
   case rel=>exact⟨y,x%y,f,Qm (Qx _ c) f,rfl,by go_num,by rw[Hid,<-d.out,JM y (x%y),<-Nat.gcd_rec,JM],n+1,rfl⟩
   case measure=>have:=Qx x c;simp[intOf];omega
  ·have:y=0:=om;subst this;go_wp2;go_ret;exact⟨QW (by rw[<-d.out,zdt]),n,rfl⟩
theorem zdu (w:H)(v:Value)(n:Nat)(h:NatV w v n)(q:n<18446744073709551616):
 Calls pg 220 #[v] w fun e w'=>e= .returned (it .u64 (n:Nat))/\w'=w:=by
 obtain⟨a,⟨_,_,rfl,_,r⟩,c,d,b⟩:=h;have C:=d.len (k:=2) (by rw[b];exact q);have A:((min (a.length:Int) 2))=(a.length:Int):=om;have f:Hid (val a=n):=b;have p:1<=a.length->val (a.drop 1)<4294967296:=by
  intro u;have y:=val_lt (c.drop 1);have j:(a.drop 1).length<=1:=so;have z:=pow_mono j;omega
 clear b d;go_enter func220,ntmps220
 go_wp2;go_loop [3,4] (fun x i=>∃k:Nat,k<=a.length/\i=it .i64 ((k:Int)-1)/\x=it .u64 (val (a.drop k):Nat)) (fun _ i=>(intOf i+1).toNat)
 case atStart=>exact⟨a.length,zh _,rfl,by simp[val]⟩
 case round=>
  obtain⟨k,m,rfl,rfl⟩:=hrel;cases k with
  |zero=>
   go_wp2;go_ret;exact⟨QW (by rw[f.out]),rfl⟩
  |succ k=>
   have o:val (a.drop (k+1))<4294967296:=by
    cases k with
    |zero=>exact p om
    |succ k=>rw[Z6 om];decide
   have l:=c.get k;obtain⟨_,_,rfl,_,s⟩:=r (by intro e;simp[e]at m);have B:=s k om;have t:Hid (val (a.drop k)=a.getD k 0+4294967296*val (a.drop (k+1))):=val_drop a k om;generalize a.getD k 0=g at *;generalize val (a.drop (k+1))=x at *;go_wp2;go_round
   case rel=>exact⟨k,om,by go_num,by rw[t.out,zeI x g o l]⟩
   case measure=>simp[intOf]
theorem zlL (w:H)(n:Nat)(a:n<18446744073709551616):
 Calls pg 218 #[it .u64 (n:Nat)] w fun e w'=>∃v,e= .returned v/\NatV w' v n/\Below w.heap.size w w':=by
 have a:Row (w.alloc (Obj.cells #[it IntKind.u32 ((n:Int)%4294967296),it IntKind.u32 ((n:Int)/4294967296)] 224)) w.heap.size 0 [n%4294967296,n/4294967296]:=by
  intro i b;match i,b with
  |0,_=>simp
  |1,_=>simp
 go_enter func218,ntmps218
 go_wp2_with fail
 refine(trim_any _ _ 0 2 2 [n%4294967296,n/4294967296] om om sp a).mono ?_;rintro e w' ⟨rfl,rfl⟩;go_wp2;go_ret;refine⟨_,rfl,?_,(zR _ _).alloc (zh _) _⟩;have:=natV_trim (cap:=2) (n:=2) a (by intro d a;simp at a;rcases a with rfl|rfl<;>omega) sp rfl om;have e:val [n%4294967296,n/4294967296]=n:=by simp[val];omega
 rw[e]at this;exact this
theorem zkB (w:H)(a b:Nat)(c:a<=140737488355328)(d:b<=140737488355328):
 Calls pg 307 #[it .i64 (a:Nat),it .i64 (b:Nat)] w fun e w'=>e= .returned (it .i64 (QL a b))/\w'=w:=by
 rcases Jo a b with h|h|h
 ·rw[zaA h];go_enter func307,ntmps307
  go_wp2;go_ret;exact⟨rfl,rfl⟩
 ·rw[zcw h];subst h;go_enter func307,ntmps307
  go_wp2;go_ret;exact⟨rfl,rfl⟩
 ·rw[zaB h];go_enter func307,ntmps307
  go_wp2;go_ret;exact⟨rfl,rfl⟩
theorem zkC (w:H)(a b:Nat)(c:a<4294967296)(d:b<4294967296):
 Calls pg 308 #[it .u32 (a:Nat),it .u32 (b:Nat)] w fun e w'=>e= .returned (it .i64 (QL a b))/\w'=w:=by
 rcases Jo a b with h|h|h
 ·rw[zaA h];go_enter func308,ntmps308
  go_wp2;go_ret;exact⟨rfl,rfl⟩
 ·rw[zcw h];subst h;go_enter func308,ntmps308
  go_wp2;go_ret;exact⟨rfl,rfl⟩
 ·rw[zaB h];go_enter func308,ntmps308
  go_wp2;go_ret;exact⟨rfl,rfl⟩
theorem compare_any (w:H)(u v:Value)(m n K:Nat)(b:NatV w u m)(c:NatV w v n)(t:m<4294967296^K)(z:n<4294967296^K)(a:K<=1073741824):
 Calls pg 222 #[u,v] w fun e w'=>e= .returned (it .i64 (QL m n))/\∃q,w'=w.drewN q:=by
 obtain⟨a,⟨_,_,rfl,_,A⟩,d,i,rfl⟩:=b;obtain⟨b,⟨_,_,rfl,_,B⟩,f,j,rfl⟩:=c;have c:=i.len t;have c:=j.len z;by_cases s:a.length=b.length
 ·have c:((a.length:Int) != (b.length:Int))=false:=by rw[bne_eq_false_iff_eq];omega
  have c:Hid (a.length=b.length):=s;clear t z i j s;go_enter func222,ntmps222
  go_wp2;go_loopw [5] (fun g wr=>∃k:Nat,k<=a.length/\g=it .i64 ((k:Int)-1)/\Hid (a.drop k=b.drop k)/\∃q,wr=w.drewN q) (fun g _=>(intOf g+1).toNat)
  case atStart=>exact⟨a.length,zh _,rfl,by rw[Hid,Z6 (zh _),Z6 (by rw[c.out];exact zh _)],0,rfl⟩
  case round=>
   obtain⟨k,h,rfl,g,q,rfl⟩:=hrel;cases k with
   |zero=>
    go_wp2;go_ret;refine⟨QW ?_,q,rfl⟩;rw[zcw (by rw[<-Zd (l:=a),g.out,Zd])]
   |succ k=>
    obtain⟨_,_,rfl,_,D⟩:=A (by intro e;simp[e]at h);obtain⟨_,_,rfl,_,F⟩:=B (by intro e;rw[Hid,e]at c;simp at c;simp[c]at h);have h:k<b.length:=by have:=c.out;omega
    have o:=D k om;have o:=F k h;have I:=d.get k;have J:=f.get k;have h:(0:Int)<=(k:Int):=om;have h:((k:Int)).toNat=k:=om;have h:(k:Int)<(a.length:Int):=om;have h:(k:Int)<(b.length:Int):=om;have y:=fun h=>val_lt_at d c.out k om g.out h
    have C:=fun h=>val_lt_at f c.out.symm k om g.out.symm h
    have x:=fun h=>zgS c.out k om g.out h
    have o:Hid (a.getD k 0<b.getD k 0->val a<val b):=y;have p:Hid (b.getD k 0<a.getD k 0->val b<val a):=C;have r:Hid (a.getD k 0=b.getD k 0->a.drop k=b.drop k):=x;clear y C x A B D F;generalize a.getD k 0=x at *;generalize b.getD k 0=y at *;by_cases g:x=y
    ·have c:=r.out g;have C:Hid (a.drop k=b.drop k):=c;have D:((x:Int) != (y:Int))=false:=by rw[bne_eq_false_iff_eq];omega
     clear c o p r g;go_wp2;go_region
     all_goals go_wp2
     go_roundw
     case rel=>exact⟨k,om,by go_num,C,q+1,rfl⟩
     case measure=>simp[intOf]
    ·have D:((x:Int) != (y:Int))=true:=by rw[bne_iff_ne];omega
     have c:Hid (QL x y=QL (val a) (val b)):=by
      rcases Nat.lt_or_gt_of_ne g with h|h
      ·rw[Hid,zaA h,zaA (o.out h)]
      ·rw[Hid,zaB h,zaB (p.out h)]
     clear o p r g;go_wp2;go_region
     all_goals go_wp2
     go_quiet ((go_at_call 308;exact(zkC _ _ _ I J).mono fun _ _ h=>⟨h.1,_,h.2⟩))
     go_wp2;go_ret;exact⟨QW c.out,q+1+nq,by rw[World.drewN_drewN]⟩
 ·have g:((a.length:Int) != (b.length:Int))=true:=by rw[bne_iff_ne];omega
  have g:QL a.length b.length=QL (val a) (val b):=by
   rcases Nat.lt_or_gt_of_ne s with h|h
   ·rw[zaA h,zaA (j.lt_of_len d h)]
   ·rw[zaB h,zaB (i.lt_of_len f h)]
  have c:=g;rw[<-c];clear g c t z i j d f A B;generalize a.length=a at *;generalize b.length=a at *;go_enter func222,ntmps222
  go_wp2_with fail
  refine(zkB _ _ _ om om).mono ?_;rintro e w' ⟨rfl,rfl⟩;go_wp2;go_ret;exact⟨rfl,0,rfl⟩
theorem zeB (w:H)(b h cap:Nat)(ds a:List Nat)(v:Value)(i:ds.length<=cap)(k:ds.length<=1073741824)(j:a.length<=ds.length)
 (g:Row w b h ds) (B:zbE w b h ds.length) (z:Dig ds) (f:U32b w b v a) (q:Dig a):
 Calls pg 306 #[V (E ⟨b,h,O⟩) ds.length cap,v] w fun e w'=>e= .returned (tp #[])/\
  ∃d c,d.length=ds.length/\Dig d/\Row w' b h d/\Upd b h ds.length w w'/\val d+4294967296^ds.length*c=val ds+val a:=by
 have r:=f;obtain⟨_,_,rfl,_,_⟩:=f;go_enter func306,ntmps306
 go_wp2;go_loopw [4,8] (fun d i wr=>∃(k c:Nat) (f:List Nat),k<=ds.length/\c<=1/\i=it .i64 (k:Nat)/\d=it .u64 (c:Nat)/\Hid (f.length=ds.length)/\Dig f/\Row wr b h f/\Upd b h ds.length w wr/\
  Hid (f.drop k=ds.drop k)/\Hid (val (f.take k)+4294967296^k*c=val (ds.take k)+val (a.take k))) (fun _ i _=>ds.length-(intOf i).toNat)
 case atStart=>exact⟨0,0,ds,qp _,om,rfl,rfl,rfl,z,g,Upd.refl _ _ _ _,rfl,by simp[Hid,val]⟩
 case round=>
  obtain⟨k,c,f,_,_,rfl,rfl,d,s,l,j,p,i⟩:=hrel;by_cases g:k<ds.length
  ·by_cases n:k<a.length
   ·obtain⟨_,_,m,_,o⟩:=r.upd j;simp only[zV]at m;obtain⟨rfl,_,rfl⟩:=m;obtain⟨_,_,rfl,_,_,m⟩:=o (by intro e;simp[e]at n);have A:=l k (by rw[d.out];exact g);rw[zaZ p.out]at A;have r:=m k n;have F:=z.get k;have m:=q.get k;have D:=j.free B k g;have m:=add_step (by rw[d.out];exact g) i.out;have q:=l.setCell k ((c+ds.getD k 0+a.getD k 0)%4294967296) (by rw[d.out];exact g);have r:=j.setCell k g (it .u32 (((c+ds.getD k 0+a.getD k 0)%4294967296:Nat):Int));have u:Hid (val ((f.set k ((c+ds.getD k 0+a.getD k 0)%4294967296)).take (k+1))+4294967296^(k+1)*((c+ds.getD k 0+a.getD k 0)/4294967296)=val (ds.take (k+1))+val (a.take (k+1))):=m;clear m o i;generalize ds.getD k 0=x at *;generalize a.getD k 0=y at *;have n:(((c+x+y)%4294967296:Nat):Int)=((c:Int)+x+y)%4294967296:=om;have o:(((c+x+y)/4294967296:Nat):Int)=((c:Int)+x+y)/4294967296:=om;rw[n]at q r;have t:Hid ((((c+x+y)/4294967296:Nat):Int)=((c:Int)+x+y)/4294967296):=o;clear n o;go_wp2;go_roundw
    case rel=>exact⟨k+1,(c+x+y)/4294967296,_,om,om,by go_num,by rw[t.out],by rw[Hid,Zf,d.out],s.set _ _ (Qx _ dc),q,r,by rw[Hid,QN];exact zad p.out,u⟩
    case measure=>simp[intOf];omega
   ·by_cases y:c=0
    ·subst y;have y:=zmT (by rw[d.out];omega) d.out om p.out i.out;have C:Hid (val f+4294967296^ds.length*0=val ds+val a):=y;clear y i;have y:a.length<=k:=om;go_wp2;refine zH (qY rfl _ _ _) rfl ?_;exact⟨rfl,f,0,d.out,s,l,j,C.out⟩
    ·have A:=l k (by rw[d.out];exact g);rw[zaZ p.out]at A;have F:=z.get k;have D:=j.free B k g;have m:=add_step (by rw[d.out];exact g) i.out;rw[za9 a k om,qy]at m;have q:=l.setCell k ((c+ds.getD k 0)%4294967296) (by rw[d.out];exact g);have r:=j.setCell k g (it .u32 (((c+ds.getD k 0)%4294967296:Nat):Int));have u:Hid (val ((f.set k ((c+ds.getD k 0)%4294967296)).take (k+1))+4294967296^(k+1)*((c+ds.getD k 0)/4294967296)=val (ds.take (k+1))+val (a.take (k+1))):=m;clear m i;generalize ds.getD k 0=x at *;have n:(((c+x)%4294967296:Nat):Int)=((c:Int)+x)%4294967296:=om;have o:(((c+x)/4294967296:Nat):Int)=((c:Int)+x)/4294967296:=om;rw[n]at q r;have t:Hid ((((c+x)/4294967296:Nat):Int)=((c:Int)+x)/4294967296):=o;clear n o;have g:((c:Int) == 0)=false:=qO.2 om;have y:a.length<=k:=om;go_wp2;go_roundw
     case rel=>exact⟨k+1,(c+x)/4294967296,_,om,om,by go_num,by rw[t.out],by rw[Hid,Zf,d.out],s.set _ _ (Qx _ dc),q,r,by rw[Hid,QN];exact zad p.out,u⟩
     case measure=>simp[intOf];omega
  ·have g:k=ds.length:=om;have h:Hid (val f+4294967296^ds.length*c=val ds+val a):=by
    have:=i.out;rw[zy (by rw[d.out];omega),zy om,zy om,g]at this;exact this
   clear i g;go_wp2;go_end0
   exact⟨rfl,f,c,d.out,s,l,j,h.out⟩
theorem zkj (x u a:Int)(f:0<=x)(g:x<4294967296)(d:0<=u)(e:u<4294967296)(b:0<=a)(c:a<=1)(h:x<u+a):
 IntKind.u64.wrap (IntKind.u64.wrap (x-u)-a)%4294967296=x-u-a+4294967296/\IntKind.u64.wrap (IntKind.u64.wrap (x-u)-a)/9223372036854775808=1:=by
 have e:∀n:Int,IntKind.u64.wrap n=n%18446744073709551616:=fun n=>by simp[IntKind.wrap,IntKind.signed,IntKind.bits]
 rw[e,e];omega
theorem zmU (x a:Int)(c:0<=x)(b:a<=1)(h:x<a):
 IntKind.u64.wrap (x-a)%4294967296=x-a+4294967296/\IntKind.u64.wrap (x-a)/9223372036854775808=1:=by
 have e:∀n:Int,IntKind.u64.wrap n=n%18446744073709551616:=fun n=>by simp[IntKind.wrap,IntKind.signed,IntKind.bits]
 rw[e];omega
theorem zfe (w:H)(b s cap f:Nat)(ds p:List Nat)(v:Value)(d:ds.length<=cap)(i:ds.length<=1073741824)(g:p.length<=ds.length)(m:f<4294967296)
 (h:Row w b s ds) (T:zbE w b s ds.length) (R:Dig ds) (c:U32b w b v p) (l:Dig p):
 Calls pg 312 #[V (E ⟨b,s,O⟩) ds.length cap,v,it .u32 (f:Nat)] w fun e w'=>
  ∃a r,e= .returned (it .u64 (r:Nat))/\r<=4294967296/\a.length=ds.length/\Dig a/\Row w' b s a/\Upd b s ds.length w w'/\val a+f*val p=val ds+4294967296^ds.length*r:=by
 have n:=c;obtain⟨_,_,rfl,_,_⟩:=c;go_enter func312,ntmps312
 go_wp2;go_loopw [7,8,13] (fun g d i wr=>∃(k c a:Nat) (o:List Nat),k<=ds.length/\c<4294967296/\a<=1/\i=it .i64 (k:Nat)/\g=it .u64 (c:Nat)/\d=it .u64 (a:Nat)/\Hid (o.length=ds.length)/\Dig o/\Row wr b s o/\Upd b s ds.length w wr/\
  Hid (o.drop k=ds.drop k)/\Hid (val (o.take k)+f*val (p.take k)=val (ds.take k)+4294967296^k*(c+a))) (fun _ _ i _=>ds.length-(intOf i).toNat)
 case atStart=>exact⟨0,0,0,ds,qp _,om,om,rfl,rfl,rfl,rfl,R,h,Upd.refl _ _ _ _,rfl,by simp[Hid,val]⟩
 case round=>
  obtain⟨k,c,a,o,_,_,_,rfl,rfl,rfl,j,A,J,F,q,C⟩:=hrel;by_cases B:k<ds.length
  ·by_cases g:k<p.length
   ·obtain⟨_,_,d,_,h⟩:=n.upd F;simp only[zV]at d;obtain⟨rfl,_,rfl⟩:=d;obtain⟨_,_,rfl,_,_,d⟩:=h (by intro e;simp[e]at g);have S:=J k (by rw[j.out];exact B);rw[zaZ q.out]at S;have i:=d k g;have X:=R.get k;have i:=l.get k;have W:=F.free T k B;have L:k<o.length:=by rw[j.out];exact B
    have d:=fun z=>J.setCell k z L
    have g:=fun z=>F.setCell k B z
    have l:=fun z P N=>zhR (z:=z) (c':=P) (bw':=N) L C.out
    clear h C;generalize ds.getD k 0=x at *;generalize p.getD k 0=y at *;obtain⟨_,_⟩:=ziO f y m i;have U:((f*y:Nat):Int)=(f:Int)*(y:Int):=sp;by_cases D:x<(c+f*y)%4294967296+a
    ·have K:(x:Int)<((c:Int)+(f:Int)*(y:Int))%4294967296+a:=om;obtain⟨t,u⟩:=zkj x (((c:Int)+(f:Int)*(y:Int))%4294967296) a om om om om om om K;have i:=l (x+4294967296-(c+f*y)%4294967296-a) ((c+f*y)/4294967296) 1 om;have d:=d (x+4294967296-(c+f*y)%4294967296-a);have g:=g (it .u32 ((x+4294967296-(c+f*y)%4294967296-a:Nat):Int));have h:((x+4294967296-(c+f*y)%4294967296-a:Nat):Int)=IntKind.u64.wrap (IntKind.u64.wrap (↑x-(↑c + ↑f * ↑y)%4294967296) - ↑a)%4294967296:=by rw[t];omega
     rw[h]at d g;have I:Hid ((((c+f*y)/4294967296:Nat):Int)=((c:Int)+f*y)/4294967296):=by rw[Hid];omega
     have M:x+4294967296-(c+f*y)%4294967296-a<4294967296:=om;have Q:(c+f*y)/4294967296<4294967296:=om;have i:=zi i;have m:=zi u;have n:=zi M;clear l h t u U D K M;go_wp2;go_roundw
     case rel=>exact⟨k+1,(c+f*y)/4294967296,1,_,om,Q,om,by go_num,by rw[I.out],by rw[zfy m];rfl,by rw[Hid,Zf,j.out],A.set _ _ (zfy n),d,g,by rw[Hid,QN];exact zad q.out,zfy i⟩
     case measure=>simp[intOf];omega
    ·have K:((c:Int)+(f:Int)*(y:Int))%4294967296+a<=(x:Int):=om;have i:=l (x-(c+f*y)%4294967296-a) ((c+f*y)/4294967296) 0 om;have d:=d (x-(c+f*y)%4294967296-a);have g:=g (it .u32 ((x-(c+f*y)%4294967296-a:Nat):Int));have h:((x-(c+f*y)%4294967296-a:Nat):Int)=(↑x-(↑c + ↑f * ↑y)%4294967296) - ↑a:=om;rw[h]at d g;have I:Hid ((((c+f*y)/4294967296:Nat):Int)=((c:Int)+f*y)/4294967296):=by rw[Hid];omega
     have M:x-(c+f*y)%4294967296-a<4294967296:=om;have Q:(c+f*y)/4294967296<4294967296:=om;have m:Hid ((↑x-(↑c + ↑f * ↑y)%4294967296 - ↑a:Int)/9223372036854775808=0):=by rw[Hid];omega
     have i:=zi i;have n:=zi M;clear l h U D M;go_wp2;go_roundw
     case rel=>exact⟨k+1,(c+f*y)/4294967296,0,_,om,Q,om,by go_num,by rw[I.out],by rw[m.out];rfl,by rw[Hid,Zf,j.out],A.set _ _ (zfy n),d,g,by rw[Hid,QN];exact zad q.out,zfy i⟩
     case measure=>simp[intOf];omega
   ·have M:p.length<=k:=om;by_cases y:c=0/\a=0
    ·obtain⟨rfl,rfl⟩:=y;have Q:=zi (zlK (by rw[j.out];omega) j.out M q.out C.out);clear C;go_wp2;go_ret;exact⟨o,0,rfl,om,j.out,A,J,F,Q.out⟩
    ·have S:=J k (by rw[j.out];exact B);rw[zaZ q.out]at S;have X:=R.get k;have W:=F.free T k B;have L:k<o.length:=by rw[j.out];exact B
     have d:=fun z=>J.setCell k z L
     have g:=fun z=>F.setCell k B z
     have l:=fun z P N=>zhR (z:=z) (c':=P) (bw':=N) L C.out
     rw[za9 p k M]at l;clear C;generalize ds.getD k 0=x at *;by_cases s:c=0
     ·subst s;have z:((a:Int) == 0)=false:=qO.2 om;by_cases D:x<a
      ·obtain⟨t,u⟩:=zmU x a om om om;have i:=zi (l (x+4294967296-a) 0 1 om);have d:=d (x+4294967296-a);have g:=g (it .u32 ((x+4294967296-a:Nat):Int));have h:((x+4294967296-a:Nat):Int)=IntKind.u64.wrap (↑x - ↑a)%4294967296:=by rw[t];omega
       rw[h]at d g;have n:=zi (show x+4294967296-a<4294967296 by omega);have m:=zi u;clear l h t u y;go_wp2;go_roundw
       case rel=>exact⟨k+1,0,1,_,om,om,om,by go_num,rfl,by rw[m.out];rfl,by rw[Hid,Zf,j.out],A.set _ _ n.out,d,g,by rw[Hid,QN];exact zad q.out,i.out⟩
       case measure=>simp[intOf];omega
      ·have i:=zi (l (x-a) 0 0 om);have d:=d (x-a);have g:=g (it .u32 ((x-a:Nat):Int));have h:((x-a:Nat):Int)=↑x - ↑a:=om;rw[h]at d g;have n:=zi (show x-a<4294967296 by omega);have m:=zi (show((x:Int)-a)/9223372036854775808=0 by omega);have z:(a:Int)<=x:=om;clear l h y D;go_wp2;go_roundw
       case rel=>exact⟨k+1,0,0,_,om,om,om,by go_num,rfl,by rw[m.out];rfl,by rw[Hid,Zf,j.out],A.set _ _ n.out,d,g,by rw[Hid,QN];exact zad q.out,i.out⟩
       case measure=>simp[intOf];omega
     ·have B:((c:Int) == 0)=false:=qO.2 om;have I:=zi (show(c:Int)/4294967296=0 by omega);by_cases D:x<c+a
      ·have K:(x:Int)<(c:Int)+a:=om;obtain⟨t,u⟩:=zkj x c a om om om om om om K;have i:=zi (l (x+4294967296-c-a) 0 1 om);have d:=d (x+4294967296-c-a);have g:=g (it .u32 ((x+4294967296-c-a:Nat):Int));have h:((x+4294967296-c-a:Nat):Int)=IntKind.u64.wrap (IntKind.u64.wrap (↑x - ↑c) - ↑a)%4294967296:=by rw[t];omega
       rw[h]at d g;have n:=zi (show x+4294967296-c-a<4294967296 by omega);have m:=zi u;clear l h t u D K y s;go_wp2;go_roundw
       case rel=>exact⟨k+1,0,1,_,om,om,om,by go_num,by rw[I.out];rfl,by rw[m.out];rfl,by rw[Hid,Zf,j.out],A.set _ _ n.out,d,g,by rw[Hid,QN];exact zad q.out,i.out⟩
       case measure=>simp[intOf];omega
      ·have i:=zi (l (x-c-a) 0 0 om);have d:=d (x-c-a);have g:=g (it .u32 ((x-c-a:Nat):Int));have h:((x-c-a:Nat):Int)=↑x - ↑c - ↑a:=om;rw[h]at d g;have n:=zi (show x-c-a<4294967296 by omega);have m:=zi (show((x:Int)-c-a)/9223372036854775808=0 by omega);have z:(c:Int)+a<=x:=om;clear l h y D s;go_wp2;go_roundw
       case rel=>exact⟨k+1,0,0,_,om,om,om,by go_num,by rw[I.out];rfl,by rw[m.out];rfl,by rw[Hid,Zf,j.out],A.set _ _ n.out,d,g,by rw[Hid,QN];exact zad q.out,i.out⟩
       case measure=>simp[intOf];omega
  ·have d:k=ds.length:=om;have g:Hid (val o+f*val p=val ds+4294967296^ds.length*(c+a)):=by
    have:=C.out;rw[zy (by rw[j.out];omega),zy om,zy om,d]at this;exact this
   clear C d;go_wp2;go_ret;exact⟨o,c+a,by go_num,om,j.out,A,J,F,g.out⟩
theorem zgi (ds:List Nat)(k x:Nat):(ds.set k x).take k=ds.take k:=List.take_set_of_le (zh _)
theorem zfz {a b:List Nat}{k:Nat}(h:a.take (k+1)=b.take (k+1)):a.getD k 0=b.getD k 0:=by
 have c:(a.take (k+1))[k]? =a[k]?:=by rw[JL,z8 om]
 have d:(b.take (k+1))[k]? =b[k]?:=by rw[JL,z8 om]
 rw[zk,zk,<-c,<-d,h]
theorem zhS {a b:List Nat}{k:Nat}(h:a.take (k+1)=b.take (k+1)):a.take k=b.take k:=by
 have c:(a.take (k+1)).take k=a.take k:=by rw[List.take_take,ZL om]
 have d:(b.take (k+1)).take k=b.take k:=by rw[List.take_take,ZL om]
 rw[<-c,<-d,h]
theorem zmV {a ds:List Nat}{k D r:Nat}(b:k<a.length)(d:a.length=ds.length)(c:val (ds.drop (k+1))=D*val (a.drop (k+1))+r):
 val (ds.drop k)=D*val ((a.set k ((ds.getD k 0+4294967296*r)/D)).drop k)+(ds.getD k 0+4294967296*r)%D:=by
 rw[val_drop ds k om,val_drop _ k (by simpa using b),zbk a k _ b,QN,c];generalize ds.getD k 0=x;generalize val (a.drop (k+1))=Q;have a:=zaG (x+4294967296*r) D;rw[qI D,zaS D 4294967296 Q,qI 4294967296];omega
theorem div_bd {x D r:Nat}(b:x<4294967296)(a:r<D):(x+4294967296*r)/D<4294967296:=by
 rw[j9 om];have:4294967296*(r+1)<=4294967296*D:=qK _ a;omega
theorem zmW {a e b:List Nat}{k j d c:Nat}(g:k+j<e.length)(h:e.drop (k+j)=a.drop (k+j))
 (f:val (e.take (k+j))+4294967296^(k+j)*c=val (a.take (k+j))+4294967296^k*(d*val (b.take j))):
 val ((e.set (k+j) ((c+(d*b.getD j 0+a.getD (k+j) 0))%4294967296)).take (k+(j+1)))+4294967296^(k+(j+1))*((c+(d*b.getD j 0+a.getD (k+j) 0))/4294967296)=
  val (a.take (k+(j+1)))+4294967296^k*(d*val (b.take (j+1))):=by
 have h:=val_lay e (k+j) (c+(d*b.getD j 0+a.getD (k+j) 0)) g;rw[<-zaz,h,val_take_any a (k+j),val_take_any b j];generalize val (e.take (k+j))=A at *;generalize val (a.take (k+j))=C at *;generalize val (b.take j)=e at *;generalize b.getD j 0=y;generalize a.getD (k+j) 0=z;rw[ZI]at f⊢;generalize 4294967296^k=p at *;generalize 4294967296^j=q at *;have a:p*q*(c+(d*y+z))=p*q*c+p*q*(d*y)+p*q*z:=by rw[qI,qI,zaz]
 have b:p*(d*(e+q*y))=p*(d*e)+p*q*(d*y):=by
  rw[qI,qI,ZD p q,zaS d q y]
 rw[a,b];omega
theorem zn7 {e b ds a:List Nat}{k d c:Nat}(h:k+a.length<b.length)(f:d=ds.getD k 0)
 (g:val (b.take (k+a.length))+4294967296^(k+a.length)*c=val (e.take (k+a.length))+4294967296^k*(d*val a))
 (ho:val (e.take (k+a.length))=val (ds.take k)*val a):
 val ((b.set (k+a.length) c).take (k+1+a.length))=val (ds.take (k+1))*val a:=by
 rw[show k+1+a.length=k+a.length+1 by omega,zdC b _ c h,val_append,zU,ZL om,val_take_any ds k,<-f];simp only[val,Z7,qy];rw[g,ho,ZO,ZD]
theorem zn8 {c d e z:Nat}(a:c<4294967296)(b:d<4294967296)(f:e<4294967296)(g:z<4294967296):c+(d*e+z)<18446744073709551616/\(c+(d*e+z))/4294967296<4294967296:=by
 have a:d*e<=4294967295*4294967295:=Z0 om om;omega
theorem ziP {a b s:List Nat}{c:Nat}(d:Dig a)(e:Dig b)(f:b.length<=a.length)(h:val s+4294967296^(a.length+1)*c=val a+val b):val s=val a+val b:=by
 have g:=val_lt d;have d:=zv (val_lt e) (pow_mono f);rw[ZK]at h;generalize 4294967296^a.length=p at *;have d:p*2<=p*4294967296:=qK p om;generalize p*4294967296=r at *;cases c with
 |zero=>rw[Z7,qy]at h;exact h
 |succ c=>
  exfalso
  rw[Nat.mul_succ r c]at h;generalize r*c=q at *;omega
theorem sub_fits {a b s:List Nat}{r L:Nat}(hs:Dig s)(d:s.length=L)(c:val b<=val a)(h:val s+1*val b=val a+4294967296^L*r):val s=val a-val b:=by
 have c:=val_lt hs;rw[d]at c;generalize 4294967296^L=p at *;cases r with
 |zero=>rw[Z7,qy,Qy]at h;omega
 |succ r=>
  exfalso
  rw[Nat.mul_succ p r]at h;generalize p*r=q at *;omega
theorem row_of_owns {w:H}{base e g n cap:Nat}{ds:List Nat}(h:w.ownsRow base e 1 (V (E ⟨g,0,O⟩) n cap) n (ds.map fun d:Nat=>it .u32 (d:Int)))(a:ds.length=n):Row w g 0 ds:=by
 intro i a;have:=h.cellAt i om;rw[qi,this,zQ,zj a,zk,zj a];rfl
theorem zd7 {w:H}{base e g n cap:Nat}{a:List Value}(h:w.ownsRow base e 1 (V (E ⟨g,0,O⟩) n cap) n a)(m:Nat):zbE w g 0 m:=by
 intro i _;rw[qi];exact h.frozenAt i
theorem zbb {w:H}{base e g n cap:Nat}{a:List Value}(h:w.ownsRow base e 1 (V (E ⟨g,0,O⟩) n cap) n a):base<=g/\g<w.heap.size:=h.lt g rfl
def encD (d:Nat):Value:=it .u32 (d:Int)
theorem owns_parts {w:H}{base e n:Nat}{v:Value}{ds:List Nat}(h:w.ownsRow base e 1 v n (ds.map encD))(i:v≠V O 0 0):
 ∃g cap,v=V (E ⟨g,0,O⟩) n cap/\n<=cap/\base<=g/\g<w.heap.size/\Row w g 0 ds/\∀m,zbE w g 0 m:=by
 have a:=h;obtain⟨b,c|⟨g,cap,_,j,d,_,f,_,_,_⟩⟩:=h;·exact absurd c.1 i
 ·subst j;rw[zo,Qe]at b;exact⟨g,cap,rfl,f,d,(zbb a).2,row_of_owns a b,fun m=>zd7 a m⟩
theorem encD_one (ds:List Nat):∀u∈ds.map encD,u.oneCell'=true:=by
 intro u a;obtain⟨_,_,rfl⟩:=ZC.1 a;rfl
theorem row_news {w:H}{b a:Nat}{ds:List Nat}(h:Row w b a ds):∀j u,(ds.map encD)[j]? =E u->w.cell? ((⟨b,a,O⟩:Addr).add j)=E u:=by
 intro j u a;rw[zQ]at a;cases hd:ds[j]? with
 |none=>rw[hd]at a;simp at a
 |some d=>
  rw[hd,Zz,z7]at a;have c:=(zn.1 hd).1;have:=h j c;rw[zk,hd,Zg]at this;subst a;by_cases a:j=0
  ·subst a;simpa[Addr.add,encD]using this
  ·simpa[Addr.add,encD,a]using this
theorem zgw {P:Program}(w:H){f:Array Oper}{rest:List Oper}{o:Oper}{a:Act}{Q:Exit->Act->H->Prop}
 (s:o.guard=O) (l c:Operand) (t:TypeId) (v:o.op=Op.makeSlice t l c)
 (e:TypeId) (i:TypeInfo) (h1:P.underlying t=E (.slice e)) (g:P.info? e=E i) (h:i.zero=E (it .u32 0)) (j:i.size=1) (k:i.bytes=4)
 (d b:IntKind) (L C:Int) (n:Nat) (u:a.eval l=it d L) (r:a.eval c=it b C) (q:L=(n:Int)) (m:C=(n:Int)) (x:n<=4294967296)
 (p:∀w',Row w' w.heap.size 0 (List.replicate n 0)->zbE w' w.heap.size 0 n->Below w.heap.size w w'->w.heap.size<w'.heap.size->
  wpList P f Q rest (a.put o.dst (V (E ⟨w.heap.size,0,O⟩) n n)) w'):
 wpList P f Q (o::rest) a w:=by
 refine wpList_make_full w s l c t v w.heap.size e i (it .u32 0) 1 h1 g h j d b L C n u r q m (by rw[k];omega) mo (zh _) ?_;intro w' b g;have f:(madeCells (it IntKind.u32 0).cells (n*1)).toList=(List.replicate n 0).map fun d:Nat=>it .u32 (d:Int):=by
  rw[Qe,List.map_replicate];exact zcC _ _
 rw[f]at b;exact p w' (row_of_owns b sp) (zd7 b n) ((zR _ _).grown g (zh _) (fun k h=>by simp at h)) (zbb b).2
theorem row_of_block {w:H}{g e:Nat}{ds:List Nat}(h:w.heap[g]? =E (cl (ds.map encD).toArray e (0,0))):Row w g 0 ds/\(∀m,zbE w g 0 m)/\g<w.heap.size:=by
 refine⟨fun i a=>?_,fun m i _=>ZW w g _ _ e h,jn h⟩;rw[qi,qh w g i _ e (0,0) h,Ja,zQ,zj a,zk,zj a];rfl
theorem zhT {P:Program}(w:H){f:Array Oper}{rest:List Oper}{o:Oper}{a:Act}{Q:Exit->Act->H->Prop}
 (s:o.guard=O) (l c:Operand) (t:TypeId) (v:o.op=Op.makeSlice t l c)
 (e:TypeId) (i:TypeInfo) (h1:P.underlying t=E (.slice e)) (g:P.info? e=E i) (h:i.zero=E (it .u32 0)) (j:i.size=1) (k:i.bytes=4)
 (d b:IntKind) (L C:Int) (n:Nat) (u:a.eval l=it d L) (r:a.eval c=it b C) (q:L=(n:Int)) (m:C=(n:Int)) (x:n<=4294967296)
 (p:∀w',Hid (w'.heap[w.heap.size]? =E (cl ((List.replicate n 0).map encD).toArray e (0,0)))->Below w.heap.size w w'->
  wpList P f Q rest (a.put o.dst (V (E ⟨w.heap.size,0,O⟩) n n)) w'):
 wpList P f Q (o::rest) a w:=by
 refine wpList_make_full w s l c t v w.heap.size e i (it .u32 0) 1 h1 g h j d b L C n u r q m (by rw[k];omega) mo (zh _) ?_;intro w' b f;have d:(madeCells (it IntKind.u32 0).cells (n*1)).toList=(List.replicate n 0).map encD:=by
  rw[Qe,List.map_replicate];exact zcC _ _
 rw[d]at b;refine p w' ?_ ((zR _ _).grown f (zh _) (fun k h=>by simp at h));obtain⟨_,h1|⟨_,_,_,f,_,g,_,_,_,d⟩⟩:=b;·exact absurd h1.1 sp
 ·simp only[zV,z7,je]at f;obtain⟨⟨rfl,_,_⟩,_,rfl⟩:=f;rw[zy so]at d;rw[Hid,g,<-d]
theorem ziQ {P:Program}{w:H}{l:Array Oper}{rest:List Oper}{o:Oper}{a:Act}{Q:Exit->Act->H->Prop}(u:o.guard=O)(d s:Operand)(f m:TypeId)
 (ho:o.op= .call { callee:= .builtin .copy,args:=#[d,s],argTypes:=#[f,m] }) (e:TypeId) (z:P.underlying f=E (.slice e)) (y:(P.info? e).map (·.size)=E 1)
 (g c k:Nat) (v:Value) (ds b:List Nat) (r:a.eval d=V (E ⟨g,0,O⟩) c k) (n:ds.length=c) (hs:a.eval s=v) (i:U32s w v b)
 (t:w.heap[g]? =E (cl (ds.map encD).toArray e (0,0))) (x:b.length<=ds.length) (B:Nat) (j:H) (q:Below B j w) (p:B<=g)
 (h:∀w',Hid (w'.heap[g]? =E (cl ((b++ds.drop b.length).map encD).toArray e (0,0)))->Below B j w'->wpList P l Q rest (a.put o.dst (goInt b.length)) w'):
 wpList P l Q (o::rest) a w:=by
 obtain⟨l,n,i,_,x⟩:=i;refine wpList_copy_splice u d s f m ho e z y (E ⟨g,0,O⟩) l c k b.length n r (hs.trans i) g 0 (ds.map encD) e t (b.map encD) (by rw[zo];exact(ZL om).symm) ?_ so (encD_one b) B j q p ?_
 ·intro c;rw[zo]at c;obtain⟨_,_,rfl,_,f⟩:=x (Zq.1 c);exact⟨rfl,_,rfl,row_news f⟩
 ·intro w' c f;rw[zo];refine h w' ?_ f;have f:splice (ds.map encD) 0 (b.map encD)=(b++ds.drop b.length).map encD:=by simp[splice]
  rw[f]at c;exact c
end Go.Proofs.YtnhfdcfnojnofaaGreatDoor
namespace Go.Proofs.YtnhfdcfnojnofaaGreatDoor.T
def val:List Nat->Nat
 |[]=>0
 |d::ds=>d+10000*val ds
def Dig (ds:List Nat):Prop:=∀d∈ds,d<10000
theorem Dig.cons {d:Nat}{ds:List Nat}(h:Dig (d::ds)):d<10000/\Dig ds:=
 ⟨h d (ZS ..),fun x a=>h x (Zu _ a)⟩
theorem Dig.get {ds:List Nat}(h:Dig ds)(i:Nat):ds.getD i 0<10000:=by
 by_cases a:i<ds.length
 ·rw[zk,zj a,Zg];exact h _ (zZ a)
 ·rw[zk,jY om];simp
theorem Dig.set {ds:List Nat}(h:Dig ds)(i x:Nat)(a:x<10000):Dig (ds.set i x):=by
 intro d a;rcases List.mem_or_eq_of_mem_set a with a|a
 ·exact h d a
 ·omega
theorem Dig.take {ds:List Nat}(h:Dig ds)(n:Nat):Dig (ds.take n):=fun d a=>h d (Zv a)
theorem Dig.append {a b:List Nat}(h:Dig a)(k:Dig b):Dig (a++b):=fun d c=>by
 rcases Zs.1 c with c|c
 ·exact h d c
 ·exact k d c
theorem val_append (a b:List Nat):val (a++b)=val a+10000^a.length*val b:=by
 induction a with
 |nil=>simp[val]
 |cons d c d=>
  simp only[Q5,val,Zo,d,ZK,qI];rw[Qg (10000^c.length) 10000,ZD];omega
theorem val_lt {ds:List Nat}(h:Dig ds):val ds<10000^ds.length:=by
 induction ds with
 |nil=>simp[val]
 |cons d ds a=>
  have b:=h.cons.1;have b:=a h.cons.2;simp only[val,Zo,ZK];generalize 10000^ds.length=p at *;omega
theorem val_trimL (ds:List Nat)(n:Nat)(h:n<=ds.length):val (ds.take (Q6 ds n))=val (ds.take n):=by
 induction n with
 |zero=>rfl
 |succ n b=>
  unfold Q6;split
  ·rename_i a
   rw[b om,jZ ds n om,val_append,a];simp[val]
  ·rfl
theorem top_le {ds:List Nat}(h:Top ds)(k:Nat)(a:ds.length=k+1):10000^k<=val ds:=by
 have b:=h k a;have e:=jZ ds k om;rw[zy om]at e;rw[e,val_append,zU,ZL om];simp only[val,Z7,qy];have:1<=ds.getD k 0:=om;calc 10000^k=10000^k*1:=by rw[Qe]
  _<=10000^k*ds.getD k 0:=qK _ this
  _<=_:=Nat.le_add_left _ _
theorem pow_mono {a b:Nat}(h:a<=b):10000^a<=10000^b:=qz dc h
theorem pow_pos (a:Nat):0<10000^a:=zac dc
theorem zaC {ds:List Nat}(h:Top ds){k:Nat}(a:val ds<10000^k):ds.length<=k:=by
 cases hl:ds.length with
 |zero=>omega
 |succ j=>
  have:=top_le h j hl;have:¬k<=j:=fun a=>by have:=pow_mono a;omega
  omega
theorem zmX {ds:List Nat}(h:Top ds):val ds=0↔ds= []:=by
 constructor
 ·intro a;cases hl:ds.length with
  |zero=>exact QM.1 hl
  |succ j=>have:=top_le h j hl;have:=pow_pos j;omega
 ·rintro rfl;rfl
theorem val_inj_len {a b:List Nat}(d:Dig a)(e:Dig b)(c:a.length=b.length)(j:val a=val b):a=b:=by
 induction a generalizing b with
 |nil=>cases b with
  |nil=>rfl
  |cons _ _=>simp at c
 |cons f g k=>cases b with
  |nil=>simp at c
  |cons h i=>
   simp only[val]at j;have j:=d.cons.1;have j:=e.cons.1;have j:f=h:=om;have f:val g=val i:=om;rw[j,k d.cons.2 e.cons.2 (by simpa using c) f]
theorem zbl {a b:List Nat}(c:Dig a)(d:Top b)(h:a.length<b.length):val a<val b:=by
 have e:=val_lt c;cases hl:b.length with
 |zero=>omega
 |succ j=>
  have:=top_le d j hl;have:=pow_mono (show a.length<=j by omega);omega
theorem zn9 {a b:List Nat}(c:Dig a)(d:Dig b)(f:Top a)(g:Top b)(e:val a=val b):a=b:=by
 rcases Jo a.length b.length with h|h|h
 ·have:=zbl c g h;omega
 ·exact val_inj_len c d h e
 ·have:=zbl d f h;omega
theorem val_take_drop (ds:List Nat)(k:Nat)(h:k<=ds.length):val ds=val (ds.take k)+10000^k*val (ds.drop k):=by
 have:=val_append (ds.take k) (ds.drop k);rw[Qf,zU,ZL h]at this;exact this
theorem val_take_succ (ds:List Nat)(k:Nat)(h:k<ds.length):val (ds.take (k+1))=val (ds.take k)+10000^k*ds.getD k 0:=by
 rw[jZ ds k h,val_append,zU,ZL om];simp[val]
theorem val_drop (ds:List Nat)(k:Nat)(h:k<ds.length):val (ds.drop k)=ds.getD k 0+10000*val (ds.drop (k+1)):=by
 rw[Zn h,val,zk,zj h,Zg]
theorem val_take_any (ds:List Nat)(k:Nat):val (ds.take (k+1))=val (ds.take k)+10000^k*ds.getD k 0:=by
 by_cases h:k<ds.length
 ·exact val_take_succ ds k h
 ·rw[zy om,zy om,zk,jY om];simp
theorem val_lt_at {a b:List Nat}(d:Dig a)(f:a.length=b.length)(k:Nat)(e:k<a.length)(c:a.drop (k+1)=b.drop (k+1))(g:a.getD k 0<b.getD k 0):val a<val b:=by
 rw[val_take_drop a k om,val_take_drop b k om,val_drop a k e,val_drop b k om,c];have c:=val_lt (d.take k);rw[zU,ZL om]at c;generalize val (b.drop (k+1))=x;generalize 10000^k=p at *;have c:p*(a.getD k 0+10000*x+1)<=p*(b.getD k 0+10000*x):=qK _ om;rw[qI,Qe]at c;omega
end Go.Proofs.YtnhfdcfnojnofaaGreatDoor.T
namespace Go.Proofs.YtnhfdcfnojnofaaGreatDoor
open Go.RowKit
def pickZ (c n:Int):Int:=(if c<0 then -(c+1)else c)%n
def overText (a b:Int):List UInt8:=Lib.itoa a++([47]++Lib.itoa b)
theorem zjO {u v lead high P Q:Nat}(d:0<P)(c:lead*P<=v)(f:0<v)(e:u<(high+1)*P)(b:0<lead)(a:Q=u/v):Q<=high/lead:=by
 subst a;rw[Nat.le_div_iff_mul_le b];have a:=zc7 u v;have a:u/v*(lead*P)<=u/v*v:=qK _ c;have a:(u/v*lead)*P<(high+1)*P:=by
  rw[ZD];omega
 exact Nat.lt_succ_iff.1 (zbm a)
theorem zkD {u v P a b g Q:Nat}(e:a*P<=v)(f:0<v)(h:u<(b+1)*P)(d:b<g*a)(c:Q=u/v):Q<g:=by
 subst c;rw[j9 f];have c:(b+1)*P<=g*a*P:=qM _ d;have b:g*(a*P)<=g*v:=qK _ e;rw[<-ZD]at b;omega
theorem zjP {u v P a b g Q:Nat}(e:v<(a+1)*P)(f:0<v)(i:b*P<=u)(d:g*a<=b)(h:g<=a)(c:Q=u/v):g<=Q+1:=by
 have h:u<(Q+1)*v:=(j9 f).1 (by rw[c];exact Nat.lt_succ_self _);clear c;rcases Z8 (Q+1) g with h|h
 ·exfalso
  obtain⟨k,rfl⟩:∃k,g=k+1:=⟨g-1,om⟩;have c:(Q+1)*v<=k*v:=qM _ om;have c:k*v<=k*((a+1)*P):=qK _ (Z2 e);have c:(k+1)*a*P<=b*P:=qM _ d;have b:k*((a+1)*P)=(k*a+k)*P:=by rw[<-ZD,qI,Qe]
  have b:(k+1)*a*P=(k*a+a)*P:=by rw[ZO,Qy]
  have b:(k*a+a)*P<(k*a+k)*P:=om;have a:=zbm b;omega
 ·exact h
theorem zkE {a u v f r W:Nat}(b:a<W)(h:a+f*v=u+W*r)(c:f*v<=u)(d:u<W):r=0/\a=u-f*v:=by
 rcases Qc r with b|b
 ·subst b;exact⟨rfl,om⟩
 ·have:W*1<=W*r:=qK _ b;omega
theorem zkF {a u v f r W:Nat}(b:a<W)(h:a+f*v=u+W*r)(c:u<f*v)(d:f*v<=u+v)(e:v<W):0<r/\a+v=u+W+v-f*v:=by
 rcases Qc r with b|b
 ·subst b;omega
 ·rcases Z8 1 r with b|b
  ·have:W*2<=W*r:=qK _ b;omega
  ·have:r=1:=om;subst this;omega
def splice (L W:List Nat)(j:Nat):List Nat:=L.take j++(W++L.drop (j+W.length))
theorem zeY {L W:List Nat}{j:Nat}(h:j+W.length<=L.length):(splice L W j).length=L.length:=by
 simp[splice];omega
theorem zgT {L W:List Nat}{j:Nat}(a:Dig L)(b:Dig W):Dig (splice L W j):=(a.take _).append (b.append (a.drop _))
theorem zjQ {L W:List Nat}{j:Nat}(h:j<=L.length):(splice L W j).drop j=W++L.drop (j+W.length):=by
 rw[splice,jy so,Z6 so,JV]
theorem zjR {L W:List Nat}{j:Nat}(h:j<=L.length):(splice L W j).take j=L.take j:=by
 rw[splice,zaR so,zy so]
theorem zkG {L:List Nat}{j t v:Nat}(e:Dig L)(a:j+t+1<=L.length)(f:val (L.drop (j+1))<v)(b:v<4294967296^t):
 val ((L.drop j).take (t+1))=val (L.drop j)/\val (L.drop (j+(t+1)))=0/\val (L.drop j)<v*4294967296:=by
 have c:=val_drop L j om;have a:=val_take_drop (L.drop (j+1)) t so;rw[j7]at a;have d:val (L.drop (j+1+t))=0:=by
  rcases Qc (val (L.drop (j+1+t)))with h|h
  ·exact h
  ·have:4294967296^t*1<=4294967296^t*val (L.drop (j+1+t)):=qK _ h;omega
 have a:=val_take_drop (L.drop j) (t+1) so;rw[j7]at a;have b:val (L.drop (j+(t+1)))=0:=by rw[show j+(t+1)=j+1+t by omega];exact d
 rw[b,Z7,qy]at a;refine⟨a.symm,b,?_⟩;have:=e.get j;rw[c];have:val (L.drop (j+1))+1<=v:=f;omega
theorem zhU {L W Q:List Nat}{j t v q N:Nat}(a:j+t+1<=L.length)(c:W.length=t+1)(d:j<Q.length)
 (e:val ((L.drop j).take (t+1))=val (L.drop j)) (b:val (L.drop (j+(t+1)))=0)
 (g:val (L.drop j)=q*v+val W) (f:N=val L+v*(4294967296^(j+1)*val (Q.drop (j+1)))):
 N=val (splice L W j)+v*(4294967296^j*val ((Q.set j q).drop j))/\val ((splice L W j).drop j)=val W:=by
 have e:=val_take_drop L j om;have a:val ((splice L W j).drop j)=val W:=by
  rw[zjQ om,val_append,c,b,Z7,qy]
 have b:=val_take_drop (splice L W j) j (by rw[zeY om];omega);rw[zjR om,a]at b;have c:=val_drop (Q.set j q) j (by simpa using d);rw[zbk Q j q d,QN]at c;refine⟨?_,a⟩;rw[f,e,g,b,c,ZK];generalize 4294967296^j=P;generalize val (Q.drop (j+1))=D;generalize val (L.take j)=A;generalize val W=R;simp only[qI];have a:P*(q*v)=v*(P*q):=by ac_rfl
 have a:v*(P*4294967296*D)=v*(P*(4294967296*D)):=by ac_rfl
 omega
def zf3 (a:Int)(b:Nat):List UInt8:=
 if b/Nat.gcd a.natAbs b=1 then Lib.itoa (a/(Nat.gcd a.natAbs b:Int))else overText (a/(Nat.gcd a.natAbs b:Int)) (b/Nat.gcd a.natAbs b:Nat)
def J0 (P:Program)(g:Nat)(lb:Array Value)(n:Nat)(Y:Nat->Array Value->H->Prop)(C:H->Prop):Prop:=
 ∀(l:Nat) (J:Nat->(Nat->Prop)->H->Prop) (Jx:Nat->H->Prop) (M0:Nat->Prop) (W:H),
  (∀k M A B,J k M A->zw W.heap.size A B->J k M B)->(∀k A B,Jx k A->zw W.heap.size A B->Jx k B)->
  (∀k M A,J k M A->C A/\∀x,M x->x<A.heap.size)->
  (∀k v M W1,k<n->Y k v W1->J k M W1->YieldAt Fence.wide 0 P l v W1 fun e W'=>
   (e= .returned (G true)/\Wr M W1 W'/\∃M',J (k+1) M' W'/\∀x,M' x->M x\/W1.heap.size<=x)\/(e= .returned (G false)/\Wr M W1 W'/\Jx k W'))->
  J 0 M0 W->
  Calls P g (#[.func (.yield l) #[] #[]]++lb) W fun e W'=>(∃v,e= .returned v)/\((∃M,J n M W')\/∃k,k<n/\Jx k W')
theorem SeqL.seq {P:Program}{g:Nat}{b:Array Value}{a:List (Array Value)}{C:H->Prop}(h:SeqL P g b a C):J0 P g b a.length (fun k v _=>a[k]? =E v) C:=
 fun l J a b W c d e f i=>h l J a b W c d e (fun k v M b a c=>f k v M b (zn.1 a).1 a c) i
theorem jB {P:Program}{n:Nat}{g:Operand}{ps:Array Tmp}{assign body:Code}{Q:Exit->Act->H->Prop}{a:Act}{w:H}
 {gf:Nat} {lb:Array Value} {N0:Nat} {Y:Nat->Array Value->H->Prop} {C:H->Prop} (hseq:J0 P gf lb N0 Y C)
 (hg:a.eval g= .func (.func gf) #[] lb) (eg:∀args w,(callFunc gf args).run P w= .ok (.enter gf args) w)
 (hps:∀k v W,Y k v W->v.size=ps.size) (I:Nat->(Nat->Prop)->H->Prop) (Ix:Code->Nat->H->Prop) (M0:Nat->Prop)
 (hI:∀k M A B,I k M A->zw w.heap.size A B->I k M B) (hIx:∀c k A B,Ix c k A->zw w.heap.size A B->Ix c k B)
 (hC:∀k M A,I k M A->C A/\∀x,M x->x<A.heap.size) (h0:I 0 M0 w)
 (hround:∀(l k:Nat) (v:Array Value) (M:Nat->Prop) (W:H),k<N0->Y k v W->I k M W->Qr P n w.heap.size M I Ix ps assign body a l k v W)
 (hdone:∀(D:Nat) (M:Nat->Prop) (W:H),w.heap.size<=D->I N0 M W->W.heap[D]? =E (.deferred (E []))->Q .normal { a with defers:={ target:= .collected D,args:=#[] } :: a.defers } W)
 (hstop:∀(D:Nat) (c:Code) (k:Nat) (W:H),w.heap.size<=D->k<N0->Ix c k W->W.heap[D]? =E (.deferred (E []))->c.wpIn Fence.wide n P Q { a with defers:={ target:= .collected D,args:=#[] } :: a.defers } W):
 (Code.rangeFunc g ps assign body).wpIn Fence.wide n P Q a w:=by
 refine wpIn_rangeFunc fun fn _=>?_
 obtain⟨rc,hrc⟩:∃rc:LoopState->Option Code->Loop,rc=fun st pe=>{ state:=st,pending:=pe,fn,tmps:=a.tmps,params:=ps,assign,body,defers:=w.heap.size }:=⟨_,rfl⟩
 obtain⟨W0,hW0⟩:∃W0,(w.alloc (.deferred (E []))).alloc (.loop (rc .ready O))=W0:=⟨_,rfl⟩;obtain⟨l,hl⟩:∃l,w.heap.size+1=l:=⟨_,rfl⟩;have hL0:W0.heap[l]? =E (.loop (rc .ready O)):=by
  rw[<-hW0,<-hl];have h:=qq (w.alloc (.deferred (E []))) (.loop (rc .ready O));rwa [qx]at h
 have hD0:W0.heap[w.heap.size]? =E (.deferred (E [])):=by
  rw[<-hW0];exact(zI _ _ _ sp).trans (qq w _)
 have hI0:I 0 M0 W0:=hI _ _ _ _ h0 (by rw[<-hW0];exact(zw.alloc _ _ _).trans (zw.alloc _ _ _));have hs2:W0.heap.size=w.heap.size+2:=by rw[<-hW0];simp
 have hsz:w.heap.size<=W0.heap.size:=om;refine⟨l,[{ target:= .collected w.heap.size,args:=#[] }],W0,{ target:= .fn (.func gf) lb,args:=#[.func (.yield l) #[] #[]] },W0,gf,
  #[.func (.yield l) #[] #[]]++lb,W0,?_,?_,fun _ _=>trivial,?_,(fun h=>by cases h),zS.2 ?_⟩
 ·rw[<-hW0,<-hl,hrc];exact run_enterLoop_outer _ _ _ _ _
 ·simp only[resolve,hg];simp[go_sem]
 ·simp[invoke,go_sem,eg]
 ·refine(hseq l
   (fun k M W=>∃N,(∀x,M x↔N x\/x=l)/\I k N W/\(∀x,N x->x<w.heap.size\/W0.heap.size<=x)/\W.heap[l]? =E (.loop (rc .ready O))/\W.heap[w.heap.size]? =E (.deferred (E [])))
   (fun k W=>∃c,Ix c k W/\W.heap[l]? =E (.loop (rc .done (E c)))/\W.heap[w.heap.size]? =E (.deferred (E [])))
   (fun x=>M0 x\/x=l) W0 ?_ ?_ ?_ ?_ ⟨M0,fun _=>Ql,hI0,fun x hx=> .inl ((hC _ _ _ h0).2 x hx),hL0,hD0⟩).mono ?_
  ·rintro k M A B ⟨N,h1,h2,h3,h4,h5⟩ hb;exact⟨N,h1,hI _ _ _ _ h2 (hb.mono hsz),h3,hb.block _ _ h4 (.inl om),hb.block _ _ h5 (.inl om)⟩
  ·rintro k A B ⟨c,h1,h2,h3⟩ hb;exact⟨c,hIx _ _ _ _ h1 (hb.mono hsz),hb.block _ _ h2 (.inl om),hb.block _ _ h3 (.inl om)⟩
  ·rintro k M A ⟨N,h1,h2,h3,h4,h5⟩;refine⟨(hC _ _ _ h2).1,fun x hx=>?_⟩;rcases(h1 x).1 hx with h|h
   ·exact(hC _ _ _ h2).2 x h
   ·rw[h];exact(zf.1 h4).1
  ·rintro k v M W hkN hv ⟨N,hMN,hi,hN,hlr,hd⟩;have hy:=run_yield (P:=P) (args:=v) hlr (by rw[hrc];exact hps k v W hv);rw[hrc]at hy;have hNl:¬N l:=fun h=>by rcases hN l h with h|h<;>omega
   have hND:¬N w.heap.size:=fun h=>by rcases hN _ h with h|h<;>omega
   have hs0:W0.heap.size<=W.heap.size:=by
    have:=(zf.1 hlr).1;omega
   have up:∀{X Y:H},Wr N X Y->Wr M X Y:=fun h=>h.mono fun x hx=>(hMN x).2 (.inl hx)
   refine YieldAt.any 0 (n:=n) ⟨fn,_,assign,body,hy,roundIn_of_wpIn trivial (zbF (hround l k v N W hkN hv hi) ?_)⟩;rintro e a' W' he;cases e with
   |normal=>
    obtain⟨hk,hb⟩:=he;have hl':=hk.some hlr hNl;have hd':=hk.some hd hND;refine⟨_,run_beginRound hl' (by rw[hrc]),?_⟩;have hl2:(W'.putObj l (.loop { rc .ready O with state:= .busy })).heap[l]? =E (.loop { rc .ready O with state:= .busy }):=jN (zf.1 hl').1;have hd2:(W'.putObj l (.loop { rc .ready O with state:= .busy })).heap[w.heap.size]? =E (.deferred (E [])):=(Zp om).trans hd';have hw2:Wr M W (W'.putObj l (.loop { rc .ready O with state:= .busy })):=(up hk).trans (Wr.putObj ((hMN l).2 (.inr rfl)) _);refine zbF (hb _ (zw.putObj _ om hl' rfl)) ?_;have fin:∀(jump:Option Code) (W3:H),Wr N (W'.putObj l (.loop { rc .ready O with state:= .busy })) W3->
     ∃W4,(Instr.endRound l jump).run P W3= .ok (G jump.isNone) W4/\zw w.heap.size W3 W4/\Wr M W W4/\
      W4.heap[l]? =E (.loop (rc (if jump.isNone then .ready else .done) jump))/\W4.heap[w.heap.size]? =E (.deferred (E [])):=fun jump W3 hk3=>by
     have hl3:=hk3.some hl2 hNl;have hd3:=hk3.some hd2 hND;refine⟨_,run_endRound jump hl3,zw.putObj _ om hl3 rfl,(hw2.trans (up hk3)).trans (Wr.putObj ((hMN l).2 (.inr rfl)) _),?_,(Zp om).trans hd3⟩;rw[jN (zf.1 hl3).1,hrc]
    rintro e a3 W3 hp;cases e with
    |normal=>
     obtain⟨hp1,N',hp2,hp3⟩:=hp;obtain⟨W4,hr,hk4,hw4,hl4,hd4⟩:=fin O W3 hp1;refine⟨_,_,hr,.inl ⟨rfl,hw4,fun x=>N' x\/x=l,⟨N',fun _=>Ql,hI _ _ _ _ hp2 hk4,fun x hx=>?_,hl4,hd4⟩,fun x hx=>?_⟩⟩
     ·rcases hp3 x hx with h|h
      ·exact hN x h
      ·exact .inr om
     ·rcases hx with h|h
      ·rcases hp3 x h with h|h
       ·exact .inl ((hMN x).2 (.inl h))
       ·exact .inr h
      ·exact .inl ((hMN x).2 (.inr h))
    |ret=>
     obtain⟨W4,hr,hk4,hw4,hl4,hd4⟩:=fin (E .ret) W3 hp.1;exact⟨_,_,hr,.inr ⟨rfl,hw4,.ret,hIx _ _ _ _ hp.2 hk4,hl4,hd4⟩⟩
    |exit id=>
     obtain⟨W4,hr,hk4,hw4,hl4,hd4⟩:=fin (E (.exit id)) W3 hp.1;exact⟨_,_,hr,.inr ⟨rfl,hw4,.exit id,hIx _ _ _ _ hp.2 hk4,hl4,hd4⟩⟩
    |goto t=>
     obtain⟨W4,hr,hk4,hw4,hl4,hd4⟩:=fin (E (.goto t)) W3 hp.1;exact⟨_,_,hr,.inr ⟨rfl,hw4,.goto t,hIx _ _ _ _ hp.2 hk4,hl4,hd4⟩⟩
    |panic ch=>exact hp.elim
    |outgrown=>exact hp.elim
   |ret=>exact he.elim
   |exit id=>exact he.elim
   |goto t=>exact he.elim
   |panic ch=>exact he.elim
   |outgrown=>exact he.elim
  ·rintro e W2 ⟨⟨v,rfl⟩,(⟨M,N,_,hi,_,hlr,hd⟩|⟨k,hk,c,hi,hlr,hd⟩)⟩
   ·refine⟨O,_,(by have h:=zb7 (P:=P) hlr (by rw[hrc];simp);rw[hrc]at h;exact h),?_⟩;exact hdone _ N _ (zh _) (hI _ _ _ _ hi (zw.putObj _ om hlr rfl)) ((Zp om).trans hd)
   ·refine⟨E c,_,(by have h:=zb7 (P:=P) hlr (by rw[hrc];simp);rw[hrc]at h;exact h),?_⟩;exact hstop _ c k _ (zh _) hk (hIx _ _ _ _ hi (zw.putObj _ om hlr rfl)) ((Zp om).trans hd)
end Go.Proofs.YtnhfdcfnojnofaaGreatDoor
