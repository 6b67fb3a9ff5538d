import Derived.Test.YtmimmcmbgnjjcaaGreatDoorFon1Z8
open Option renaming none->O,some->E
open Go.Obj renaming cells->cl
open Go renaming World->H
set_option linter.unusedSimpArgs false
set_option linter.unusedVariables false
namespace Go.Proofs.YtmimmcmbgnjjcaaGreatDoor
namespace T
open Go.RowKit
theorem wrap_big (z:Int)(h1:-1000000000<=z)(h2:z<=1000000000):IntKind.i64.wrap z=z:=by
 rw[IntKind.wrap_i64];omega
def dotZ (gs xs:List Int):Int:=(List.zipWith (· * ·) gs xs).sum
theorem dotZ_take {a xs:List Int}{j:Nat}(hg:j<a.length)(d:j<xs.length):dotZ (a.take (j+1)) (xs.take (j+1))=dotZ (a.take j) (xs.take j)+a[j]*xs[j]:=by
 unfold dotZ;have b:(a.take j).length=(xs.take j).length:=by rw[zX,zX];omega
 rw[ZQ hg,ZQ d,List.zipWith_append b,List.sum_append];simp
def condRows (x:List Int×List UInt8×Int):List (List Int×Int):=
 (if x.2.1= [62,61]then []else [(x.1,x.2.2)])++(if x.2.1= [60,61]then []else [(x.1.map fun z=>-z,-x.2.2)])
def unitRow (n i:Nat):List Int:=(List.range n).map fun k=>if k=i then 1 else 0
def rangeRows (n i:Nat)(r:Int×Int):List (List Int×Int):= [(unitRow n i,r.2),((unitRow n i).map fun z=>-z,-r.1)]
def rowsS (p:qF):List (List Int×Int):=p.rows.flatMap condRows++(List.range p.n).flatMap fun i=>rangeRows p.n i (p.rg.getD i (0,0))
theorem RowT.one (c:RowT):∀u∈c.cells,u.oneCell'=true:=by
 intro u a;simp only[RowT.cells,zI,zY,Zp]at a;rcases a with rfl|rfl|rfl|rfl<;>rfl
theorem rec_new (w:H)(cs:List Value)(t:TypeId):∀(j:Nat) (u:Value),cs[j]? =E u->(w.alloc (cl cs.toArray t)).cell? ((⟨w.heap.size,0,O⟩:Addr).add j)=E u:=by
 intro j u h;exact World.news_of_block (zC w (cl cs.toArray t)) j u (by simpa using h)
end T

section
open V4
variable {aims x:List Int}
theorem zji{n:Nat}{l:List Int}(h:l.length=n)(e:n<=4):(n=0/\l= [])\/(n=1/\∃a,l= [a])\/(n=2/\∃a b,l= [a,b])\/(n=3/\∃a b c,l= [a,b,c])\/(n=4/\∃a b c d,l= [a,b,c,d]):=by
 match l,h with
 |[],h=>exact .inl ⟨h.symm,rfl⟩
 |[a],h=>exact .inr (.inl ⟨h.symm,a,rfl⟩)
 |[a,b],h=>exact .inr (.inr (.inl ⟨h.symm,a,b,rfl⟩))
 |[a,b,c],h=>exact .inr (.inr (.inr (.inl ⟨h.symm,a,b,c,rfl⟩)))
 |[a,b,c,d],h=>exact .inr (.inr (.inr (.inr ⟨h.symm,a,b,c,d,rfl⟩)))
 |a::b::c::d::e::r,h=>simp at h;omega
theorem JE{f:Int->Int->Int}(a:f 0 0=0){xs ys:List Int}(h:xs.length=ys.length)(i:Nat):(List.zipWith f xs ys).getD i 0=f (xs.getD i 0) (ys.getD i 0):=by
 induction xs generalizing ys i with
 |nil=>
  cases ys with
  |nil=>simp[a]
  |cons=>simp at h
 |cons x xs a=>
  cases ys with
  |nil=>simp at h
  |cons y ys=>
   cases i with
   |zero=>rfl
   |succ i=>simpa using a (by simpa using h) i
theorem QD{g:List Int}(h:g.length=x.length)(a:x.length<=4):T.dotZ g x=(toV g).dot (toV x):=by
 rcases zji (l:=x) rfl a with ⟨e,rfl⟩|⟨e,a,rfl⟩|⟨e,a,b,rfl⟩|⟨e,a,b,c,rfl⟩|⟨e,a,b,c,_,rfl⟩<;>
 rcases zji (l:=g) rfl om with ⟨a,rfl⟩|⟨a,b,rfl⟩|⟨a,b,d,rfl⟩|⟨a,b,d,e,rfl⟩|⟨a,b,d,e,_,rfl⟩<;>
 first|(exfalso;simp at h;done)|(simp[T.dotZ,toV,dot];try omega)
theorem znH{l:List Int}{i:Nat}(h:l.length<=i)(b:i<4):(QV i).dot (toV l)=0:=by
 have a:l.getD i 0=0:=by rw[zk,qL h];rfl
 obtain⟨d,e,f,g⟩:=zbJ (toV l);rcases lt4 b with rfl|rfl|rfl|rfl
 ·rw[d];exact a
 ·rw[e];exact a
 ·rw[f];exact a
 ·rw[g];exact a
def ZJ (over:Nat)(x:List Int)(t:Int)(y:List Int)(u:Int):List Int:=List.zipWith (fun a b=>(a*t+b*u)/(over:Int)) x y
theorem zdV(over:Nat)(x:List Int)(t:Int)(y:List Int)(u:Int)(h:x.length=y.length):(ZJ over x t y u).length=x.length:=by
 simp[ZJ,h]
theorem zhq{over:Nat}(ho:0<over){y:List Int}(h:x.length=y.length)(t u:Int){z:V4}(a:z.smul (over:Int)=((toV x).smul t).add ((toV y).smul u)):toV (ZJ over x t y u)=z:=by
 have b:∀i (d:Int),(over:Int)*d=t*x.getD i 0+u*y.getD i 0->(ZJ over x t y u).getD i 0=d:=by
  intro i d e;unfold ZJ;rw[JE sp h];have:x.getD i 0*t+y.getD i 0*u=(over:Int)*d:=by rw[e,Qp t,Qp u]
  rw[this];exact jI _ om
 simp only[smul,add,toV,V4.mk.injEq]at a;exact ext' (b 0 _ a.1) (b 1 _ a.2.1) (b 2 _ a.2.2.1) (b 3 _ a.2.2.2)
def qT (aims x:List Int):List Int:=T.dotZ aims x::List.zipWith (fun a r=>if a<=0 then -r else r) aims x
def Qx:List Int->Int
 |[]=>0
 |a::r=>if a.sign=0 then Qx r else a.sign
theorem zbi(h:aims.length=x.length)(d:x.length<=4)(i:Nat)(m:i<5):(qT aims x).getD i 0=rk aims (toV x) i:=by
 cases i with
 |zero=>exact QD h d
 |succ i=>
  have e:(qT aims x).getD (i+1) 0=(List.zipWith (fun b r=>if b<=0 then -r else r) aims x).getD i 0:=rfl;rw[e,JE sp h];have f:rk aims (toV x) (i+1)=(if aims.getD i 0<=0 then(QV i).smul (-1)else QV i).dot (toV x):=rfl;have a:(QV i).dot (toV x)=x.getD i 0:=by
   obtain⟨g,j,k,l⟩:=zbJ (toV x);rcases lt4 (show i<4 by omega)with rfl|rfl|rfl|rfl
   ·exact g
   ·exact j
   ·exact k
   ·exact l
  rw[f];split
  ·rw[smul_dot,a];omega
  ·exact a.symm
theorem zhr:∀(l:List Int),l.length<=5->(0<Qx l↔JK (fun i=>l.getD i 0))
 |[],_=>by
  refine⟨fun h=>by simp[Qx]at h,fun⟨k,_,_,b⟩=>by simp at b⟩
 |a::r,g=>by
  rw[Qx];have d:=zhr r (by simp at g;omega);split
  ·rename_i e
   have f:=zap.1 e;rw[d];constructor
   ·rintro⟨k,m,d,b⟩;have j:k<r.length:=by
     refine Ze fun j=>?_
     have j:0<r.getD k 0:=b;rw[zk,qL om]at j;simp at j
    refine⟨k+1,by simp at g;omega,fun i g=>?_,b⟩;cases i with
    |zero=>exact f
    |succ i=>exact d i om
   ·rintro⟨k,m,d,b⟩;cases k with
    |zero=>
     have j:0<a:=b;omega
    |succ k=>exact⟨k,om,fun i g=>d (i+1) om,b⟩
  ·rename_i e
   have f:a≠0:=fun j=>e (by rw[j];rfl)
   constructor
   ·intro h;exact⟨0,om,fun i g=>absurd g (Nat.not_lt_zero _),Int.sign_pos_iff.1 h⟩
   ·rintro⟨k,m,d,b⟩;cases k with
    |zero=>exact Int.sign_pos_iff.2 b
    |succ k=>exact absurd (d 0 om) f
theorem zg2:∀(l:List Int),Qx (l.map fun z=>-z)=- Qx l
 |[]=>rfl
 |a::r=>by
  rw[Zk,Qx,Qx,Int.sign_neg,zg2 r];have:(-a.sign=0)↔(a.sign=0):=om;simp only[this];split<;>rfl
theorem zoF(l:List Int)(a:l.length<=5):Qx l<0↔JK (fun i=>-(l.getD i 0)):=by
 have h:=zhr (l.map fun z=>-z) (by simpa using a);rw[zg2]at h;have e:(fun i=>(l.map fun z=>-z).getD i 0)=fun i=>-(l.getD i 0):=by
  funext i
  rw[zk,zk,zR];cases l[i]?<;>simp
 rw[e]at h;rw[<-h];omega
theorem JK.congr{f g:Nat->Int}(h:JK f)(e:∀i,i<5->f i=g i):JK g:=by
 obtain⟨k,a,j,d⟩:=h;exact⟨k,a,fun i b=>by rw[<-e i om];exact j i b,by rw[<-e k a];exact d⟩
theorem zaC.congr{f g:Nat->Int}(h:zaC f)(e:∀i,i<5->f i=g i):zaC g:=by
 rcases h with h|h
 ·exact .inl fun i a=>by rw[<-e i a];exact h i a
 ·exact .inr (h.congr e)
theorem zhs(aims x:List Int):(qT aims x).length=min aims.length x.length+1:=by simp[qT]
theorem ziC(h:aims.length=x.length)(d:x.length<=4):0<Qx (qT aims x)↔JK (rk aims (toV x)):=by
 rw[zhr _ (by rw[zhs];omega)];exact⟨fun b=>b.congr (fun i a=>zbi h d i a),fun b=>b.congr (fun i a=>(zbi h d i a).symm)⟩
theorem sign_neg(h:aims.length=x.length)(d:x.length<=4):Qx (qT aims x)<0↔JK (fun i=>- rk aims (toV x) i):=by
 rw[zoF _ (by rw[zhs];omega)];exact⟨fun b=>b.congr (fun i a=>by rw[zbi h d i a]),fun b=>b.congr (fun i a=>by rw[zbi h d i a])⟩
end

section
open V4
variable {i:Nat}
structure Edg where
 row:List Int×Int
 num:Nat
 loss:List Int
structure Cor where
 over:Nat
 point:List Int
 edges:List Edg
def Z2 (c:Cor)(r:List Int×Int):Int:=r.2*(c.over:Int)-T.dotZ r.1 c.point
def Q5 (aims:List Int)(over:Nat)(g:List Int):List Edg->Option (Edg×Int)->Option (Edg×Int)
 |[],b=>b
 |e::es,b=>
  if T.dotZ g e.loss<=0 then Q5 aims over g es b
  else match b with
   |none=>Q5 aims over g es (E (e,T.dotZ g e.loss))
   |some (o,pv)=>if Qx (qT aims (ZJ over e.loss pv o.loss (-(T.dotZ g e.loss))))<0 then Q5 aims over g es (E (e,T.dotZ g e.loss))else Q5 aims over g es (E (o,pv))
theorem zcf(aims:List Int)(over:Nat)(g:List Int)(e:Edg)(es:List Edg)(b:Option (Edg×Int)):Q5 aims over g (e::es) b=
 if T.dotZ g e.loss<=0 then Q5 aims over g es b
 else match b with
  |none=>Q5 aims over g es (E (e,T.dotZ g e.loss))
  |some (o,pv)=>if Qx (qT aims (ZJ over e.loss pv o.loss (-(T.dotZ g e.loss))))<0 then Q5 aims over g es (E (e,T.dotZ g e.loss))else Q5 aims over g es (E (o,pv)):=by
 cases b<;>rfl
def zb8 (over:Nat)(r:List Int×Int)(num:Nat)(o:Edg)(pv:Int)(es:List Edg):List Edg:=
 es.map fun e=>if e.num=o.num then⟨r,num,e.loss⟩else⟨e.row,e.num,ZJ over e.loss pv o.loss (-(T.dotZ r.1 e.loss))⟩
def Qe (aims:List Int)(c:Cor)(r:List Int×Int)(num:Nat):Option Cor:=
 match Q5 aims c.over r.1 c.edges O with
 |none=>O
 |some (o,pv)=>E ⟨pv.natAbs,ZJ c.over c.point pv o.loss (Z2 c r),zb8 c.over r num o pv c.edges⟩
def eR (c:Cor)(i:Nat):V4:=match c.edges[i]? with|some e=>toV e.row.1|none=>QV i
def eM (c:Cor)(i:Nat):Int:=match c.edges[i]? with|some e=>e.row.2|none=>0
structure Qy (n:Nat)(aims:List Int)(c:Cor):Prop where
 n4:n<=4
 aim:aims.length=n
 len:c.edges.length=n
 plen:c.point.length=n
 elen:∀e∈c.edges,e.row.1.length=n/\e.loss.length=n
 pos:0<c.over
 det:∃s:Int,(s=1\/s=-1)/\(c.over:Int)=s*Jb (eR c)/\(∀i e,c.edges[i]? =E e->toV e.loss=(QL (eR c) i).smul s)/\toV c.point=(zeT (QL (eR c)) (eM c)).smul s
 lex:∀e∈c.edges,JK (rk aims (toV e.loss))
 nums:(c.edges.map Edg.num).Nodup
theorem zoG{s:Int}(h:s=1\/s=-1):s*s=1:=by rcases h with rfl|rfl<;>rfl
theorem zdv{c:Cor}{e:Edg}(h:c.edges[i]? =E e):eR c i=toV e.row.1:=by unfold eR;rw[h]
theorem zh0{c:Cor}(h:c.edges.length<=i):eR c i=QV i:=by unfold eR;rw[qL h]
theorem zfi{c:Cor}{e:Edg}(h:c.edges[i]? =E e):eM c i=e.row.2:=by unfold eM;rw[h]
theorem zh1{c:Cor}(h:c.edges.length<=i):eM c i=0:=by unfold eM;rw[qL h]
theorem jQ{a:Type}{l:List a}{e:a}(h:l[i]? =E e):i<l.length:=(zo.1 h).1
section

variable {n:Nat} {aims:List Int} {c:Cor} (h:Qy n aims c)

include h
theorem Qy.lt {i:Nat}{e:Edg}(a:c.edges[i]? =E e):i<4:=by
 have:=jQ a;have:=h.len;have:=h.n4;omega
theorem Qy.mem {i:Nat}{e:Edg}(a:c.edges[i]? =E e):e.row.1.length=n/\e.loss.length=n:=h.elen e (zx a)
theorem Qy.row_loss {i j:Nat}{e f:Edg}(a:c.edges[i]? =E e)(b:c.edges[j]? =E f):T.dotZ e.row.1 f.loss=if i=j then(c.over:Int)else 0:=by
 obtain⟨_,_,g,d,_⟩:=h.det;have k:=h.mem a;have k:=h.mem b;have k:=h.n4;rw[QD om om,d j f b,dot_smul,<-zdv a,zaS _ _ _ (h.lt a) (h.lt b)];split
 ·exact g.symm
 ·simp
theorem Qy.row_point {i:Nat}{e:Edg}(a:c.edges[i]? =E e):T.dotZ e.row.1 c.point=(c.over:Int)*e.row.2:=by
 obtain⟨_,_,b,_,d⟩:=h.det;have f:=h.mem a;have f:=h.n4;have f:=h.plen;rw[QD om om,d,dot_smul,<-zdv a,zev _ _ _ (h.lt a),zfi a,b];grind
end
variable {aims:List Int}{c:Cor}{n:Nat}
theorem sum4{d:Type}(f:d->Int):∀(l:List d),l.length<=4->(l.map f).sum=(l[0]?.map f).getD 0+(l[1]?.map f).getD 0+(l[2]?.map f).getD 0+(l[3]?.map f).getD 0
 |[],_=>rfl
 |[a],_=>sp
 |[a,b],_=>sp
 |[a,b,c],_=>by simp[Int.add_assoc]
 |[a,b,c,g],_=>by simp[Int.add_assoc]
 |a::b::c::g::e::r,h=>by simp at h
theorem Qy.complete(h:Qy n aims c){x:List Int}(a:x.length=n)(g:V4):
 (c.over:Int)*g.dot (toV x)=g.dot (toV c.point)-(c.edges.map fun e=>(e.row.2-T.dotZ e.row.1 x)*g.dot (toV e.loss)).sum:=by
 obtain⟨s,_,f,b,d⟩:=h.det;have a:=h.n4;have a:=h.len;have a:=qm (fun v=>s*g.dot v) (zjS (eR c) (toV x));simp only[dot_smul,dot_add]at a;rw[sum4 _ _ om,d,dot_smul,zly];have a:∀i,i<4->((c.edges[i]?.map fun e=>(e.row.2-T.dotZ e.row.1 x)*g.dot (toV e.loss)).getD 0)=s*(eM c i*g.dot (QL (eR c) i))-s*((eR c i).dot (toV x)*g.dot (QL (eR c) i)):=by
  intro i d;cases he:c.edges[i]? with
  |some e=>
   have j:=h.mem he;rw[zfi he,zdv he,qY,qB,b i e he,dot_smul,QD om om];grind
  |none=>
   have b:=Ju.1 he;rw[zh1 b,zh0 b,znH om d];simp
 rw[a 0 om,a 1 om,a 2 om,a 3 om,f];grind
theorem Qy.cross(h:Qy n aims c){j k:Nat}{o e:Edg}(b:c.edges[j]? =E o)(d:c.edges[k]? =E e)(r:k≠j){g:List Int}(hg:g.length=n)(t:T.dotZ g o.loss≠0):
 ∃s:Int,(s=1\/s=-1)/\toV (ZJ c.over e.loss (T.dotZ g o.loss) o.loss (-(T.dotZ g e.loss)))=(QL (zdH (eR c) j (toV g)) k).smul s/\(toV (ZJ c.over e.loss (T.dotZ g o.loss) o.loss (-(T.dotZ g e.loss)))).smul (c.over:Int)=((toV e.loss).smul (T.dotZ g o.loss)).add ((toV o.loss).smul (-(T.dotZ g e.loss)))/\(c.over:Int)=s*Jb (eR c)/\toV o.loss=(QL (eR c) j).smul s:=by
 obtain⟨s,m,l,f,_⟩:=h.det;have a:=h.n4;have a:=h.mem b;have a:=h.mem d;have a:=zoG m;have a:=f j o b;have i:=f k e d;have f:T.dotZ g o.loss=s*(toV g).dot (QL (eR c) j):=by rw[QD om om,a,dot_smul]
 have p:T.dotZ g e.loss=s*(toV g).dot (QL (eR c) k):=by rw[QD om om,i,dot_smul]
 have u:(toV g).dot (QL (eR c) j)≠0:=fun q=>t (by rw[f,q];simp)
 have q:=zlx (eR c) j k (h.lt b) (h.lt d) r (toV g) u;have d:((QL (zdH (eR c) j (toV g)) k).smul s).smul (c.over:Int)=((toV e.loss).smul (T.dotZ g o.loss)).add ((toV o.loss).smul (-(T.dotZ g e.loss))):=by
  have b:((QL (zdH (eR c) j (toV g)) k).smul s).smul (c.over:Int)=(QL (zdH (eR c) j (toV g)) k).smul (Jb (eR c)):=by
   rw[smul_smul,l];congr 1
   grind
  rw[b,q,a,i,smul_smul,smul_smul,f,p];congr 2<;>grind
 have b:=zhq h.pos (x:=e.loss) (y:=o.loss) om (T.dotZ g o.loss) (-(T.dotZ g e.loss)) d;exact⟨s,m,b,by rw[b];exact d,l,a⟩
def LeaveI (aims g:List Int)(done:List Edg):Option (Edg×Int)->Prop
 |none=>∀e∈done,T.dotZ g e.loss<=0
 |some (o,pv)=>o∈done/\pv=T.dotZ g o.loss/\0<pv/\∀e∈done,0<T.dotZ g e.loss->zaC (fun i=>pv*rk aims (toV e.loss) i-T.dotZ g e.loss*rk aims (toV o.loss) i)
theorem zdW(h:Qy n aims c){g:List Int}(hg:g.length=n):∀(es done:List Edg) (b:Option (Edg×Int)),c.edges=done++es->LeaveI aims g done b->LeaveI aims g c.edges (Q5 aims c.over g es b)
 |[],done,b,j,d=>by
  rw[ZR]at j;rw[j];exact d
 |e::es,done,b,j,d=>by
  have k:c.edges=(done ++ [e])++es:=by rw[j];simp
  rw[zcf];by_cases i:T.dotZ g e.loss<=0
  ·rw[zQ i];refine zdW h hg es _ b k ?_;cases b with
   |none=>
    intro x a;rcases zU.1 a with a|a
    ·exact d x a
    ·rw[qg.1 a];exact i
   |some s=>
    obtain⟨o,pv⟩:=s;obtain⟨l,f,m,q⟩:=d;refine⟨QN _ l,f,m,fun x a f=>?_⟩;rcases zU.1 a with a|a
    ·exact q x a f
    ·rw[qg.1 a]at f;omega
  ·rw[zO i];cases b with
   |none=>
    refine zdW h hg es _ _ k ⟨sp,rfl,om,fun x a f=>?_⟩;rcases zU.1 a with a|a
    ·have:=d x a;omega
    ·rw[qg.1 a];exact .inl fun i _=>Int.sub_self _
   |some s=>
    obtain⟨o,pv⟩:=s;obtain⟨l,rfl,m,q⟩:=d;obtain⟨v,t,u⟩:=qM l;have s:c.edges[v]? =E o:=by rw[j,zS t,zg t,u]
    have t:c.edges[done.length]? =E e:=by rw[j,zG (zh _)];simp
    obtain⟨_,_,_,j,-⟩:=h.cross s t om hg om;have u:=h.mem s;have s:=h.mem t;have s:=h.n4;have u:(ZJ c.over e.loss (T.dotZ g o.loss) o.loss (-(T.dotZ g e.loss))).length=n:=by rw[zdV _ _ _ _ _ om];omega
    have s:∀i,i<5->(c.over:Int)*rk aims (toV (ZJ c.over e.loss (T.dotZ g o.loss) o.loss (-(T.dotZ g e.loss)))) i=T.dotZ g o.loss*rk aims (toV e.loss) i-T.dotZ g e.loss*rk aims (toV o.loss) i:=by
     intro i _;rw[<-JH,j,zhh,JH,JH];grind
    have w:0<(c.over:Int):=by have:=h.pos;omega
    have t:=sign_neg (aims:=aims) (x:=ZJ c.over e.loss (T.dotZ g o.loss) o.loss (-(T.dotZ g e.loss))) (by rw[h.aim,u]) om;simp only;split
    ·rename_i j
     have u:=t.1 j;have v:JK (fun i=>T.dotZ g e.loss*rk aims (toV o.loss) i-T.dotZ g o.loss*rk aims (toV e.loss) i):=by
      refine u.comb (g:=fun _=>0) (p:=1) (q:=(c.over:Int)) (r:=0) (.inl fun _ _=>rfl) om w om (fun i d=>?_);have:=s i d;grind
     refine zdW h hg es _ _ k ⟨sp,rfl,om,fun x a f=>?_⟩;rcases zU.1 a with a|a
     ·have u:=q x a f;refine u.comb v.n (p:=T.dotZ g o.loss) (q:=T.dotZ g e.loss) (r:=T.dotZ g x.loss) m om om (fun i d=>?_);grind
     ·rw[qg.1 a];exact .inl fun i _=>Int.sub_self _
    ·rename_i j
     refine zdW h hg es _ _ k ⟨QN _ l,rfl,m,fun x a f=>?_⟩;rcases zU.1 a with a|a
     ·exact q x a f
     ·rw[qg.1 a];rcases zhg (fun i=>- rk aims (toV (ZJ c.over e.loss (T.dotZ g o.loss) o.loss (-(T.dotZ g e.loss)))) i)with a|a
      ·exact absurd (t.2 a) j
      ·refine a.comb (g:=fun _=>0) (p:=1) (q:=(c.over:Int)) (r:=0) (.inl fun _ _=>rfl) om om om (fun i d=>?_);have:=s i d;grind
end

section
open V4
theorem zqH {over:Nat}{r:List Int×Int}{num:Nat}{o:Edg}{pv:Int}{es:List Edg}(g:(es.map Edg.num).Nodup){j:Nat}(f:es[j]? =E o):
 (zb8 over r num o pv es)[j]? =E ⟨r,num,o.loss⟩/\∀i e,i≠j->es[i]? =E e->(zb8 over r num o pv es)[i]? =E ⟨e.row,e.num,ZJ over e.loss pv o.loss (-(T.dotZ r.1 e.loss))⟩:=by
 unfold zb8;refine⟨by rw[zR,f];simp,fun i e p d=>?_⟩;have q:e.num≠o.num:=by
  intro l;have a:=jQ d;have b:=jQ f;have m:=zaq.1 g;have g:(es.map Edg.num)[i]'(by simpa using a)=e.num:=by
   rw[zaJ];rw[(zo.1 d).2]
  have k:(es.map Edg.num)[j]'(by simpa using b)=o.num:=by
   rw[zaJ];rw[(zo.1 f).2]
  rcases zeE p with h|h
  ·exact m i j (by simpa using a) (by simpa using b) h (by rw[g,k,l])
  ·exact m j i (by simpa using b) (by simpa using a) h (by rw[g,k,l])
 rw[zR,d,qY,zO q]
structure Exch (n:Nat)(aims:List Int)(c:Cor)(r:List Int×Int)(num:Nat)(c':Cor)(j:Nat)(o:Edg):Prop where
 cor:Qy n aims c'
 at_:c.edges[j]? =E o
 gain:0<T.dotZ r.1 o.loss
 over:(c'.over:Int)=T.dotZ r.1 o.loss
 point:(toV c'.point).smul (c.over:Int)=((toV c.point).smul (T.dotZ r.1 o.loss)).add ((toV o.loss).smul (Z2 c r))
 new:c'.edges[j]? =E ⟨r,num,o.loss⟩
 old:∀i e,i≠j->c.edges[i]? =E e->c'.edges[i]? =E ⟨e.row,e.num,ZJ c.over e.loss (T.dotZ r.1 o.loss) o.loss (-(T.dotZ r.1 e.loss))⟩
 least:∀e∈c.edges,0<T.dotZ r.1 e.loss->zaC (fun i=>T.dotZ r.1 o.loss*rk aims (toV e.loss) i-T.dotZ r.1 e.loss*rk aims (toV o.loss) i)
theorem zht {n:Nat}{aims:List Int}{c:Cor}(h:Qy n aims c){r:List Int×Int}(I:r.1.length=n){num:Nat}(an:∀e∈c.edges,e.num≠num):
 (Qe aims c r num=O->∀e∈c.edges,T.dotZ r.1 e.loss<=0)/\∀c',Qe aims c r num=E c'->∃j o,Exch n aims c r num c' j o:=by
 have J:=zdW h I c.edges [] O rfl (fun e z=>by simp at z);unfold Qe;cases hL:Q5 aims c.over r.1 c.edges O with
 |none=>
  rw[hL]at J;exact⟨fun _=>J,fun c' l=>by cases l⟩
 |some v=>
  obtain⟨o,pv⟩:=v;rw[hL]at J;obtain⟨Y,rfl,ae,a7⟩:=J;refine⟨(fun l=>by cases l),fun c' l=>?_⟩;simp only[qN]at l;obtain⟨j,a4,ak⟩:=qM Y;have u:c.edges[j]? =E o:=by rw[zg a4,ak]
  obtain⟨m,q⟩:=zqH (over:=c.over) (r:=r) (num:=num) (pv:=T.dotZ r.1 o.loss) h.nums u;obtain⟨s,hs,A,al,ad⟩:=h.det;have aw:=zoG hs;have ah:=h.n4;have F:=h.mem u;have W:=h.lt u;have N:=al j o u;have B:T.dotZ r.1 o.loss=s*(toV r.1).dot (QL (eR c) j):=by rw[QD om om,N,dot_smul]
  have ao:(toV r.1).dot (QL (eR c) j)≠0:=fun M=>by rw[M]at B;simp at B;omega
  have a1:c'.edges=zb8 c.over r num o (T.dotZ r.1 o.loss) c.edges:=by rw[<-l]
  have aj:c'.edges.length=n:=by rw[a1];simp[zb8,h.len]
  rw[<-a1]at m q;have C:eR c'=zdH (eR c) j (toV r.1):=by
   funext i
   by_cases a:i=j
   ·subst a;rw[zfI,zdv m]
   ·rw[zgz _ _ a];cases d:c.edges[i]? with
    |some e=>rw[zdv (q i e a d),zdv d]
    |none=>
     have D:=Ju.1 d;have:=h.len;rw[zh0 om,zh0 D]
  have hM:eM c'=fun i=>if i=j then r.2 else eM c i:=by
   funext i
   by_cases a:i=j
   ·subst a;rw[zQ rfl,zfi m]
   ·rw[zO a];cases d:c.edges[i]? with
    |some e=>rw[zfi (q i e a d),zfi d]
    |none=>
     have D:=Ju.1 d;have:=h.len;rw[zh1 om,zh1 D]
  have a9:(c'.over:Int)=T.dotZ r.1 o.loss:=by rw[<-l];show((T.dotZ r.1 o.loss).natAbs:Int)=_;omega
  have ap:(ZJ c.over c.point (T.dotZ r.1 o.loss) o.loss (Z2 c r)).length=n:=by rw[zdV _ _ _ _ _ (by rw[h.plen,F.2])];exact h.plen
  have R:c'.point=ZJ c.over c.point (T.dotZ r.1 o.loss) o.loss (Z2 c r):=by rw[<-l]
  have au:Z2 c r=s*(r.2*Jb (eR c)-(toV r.1).dot (zeT (QL (eR c)) (eM c))):=by
   unfold Z2;rw[QD (by rw[h.plen];exact I) (by rw[h.plen];exact ah),ad,dot_smul,A];grind
  have af:=zjT (eR c) (eM c) j W (toV r.1) r.2 ao;rw[<-C,<-hM]at af;have hz:((zeT (QL (eR c')) (eM c')).smul s).smul (c.over:Int)=((toV c.point).smul (T.dotZ r.1 o.loss)).add ((toV o.loss).smul (Z2 c r)):=by
   have e3:((zeT (QL (eR c')) (eM c')).smul s).smul (c.over:Int)=(zeT (QL (eR c')) (eM c')).smul (Jb (eR c)):=by
    rw[smul_smul,A];congr 1
    grind
   rw[e3,af,ad,N,smul_smul,smul_smul,B,au];congr 2<;>grind
  have aa:=zhq h.pos (x:=c.point) (y:=o.loss) (by rw[h.plen,F.2]) (T.dotZ r.1 o.loss) (Z2 c r) hz;have a6:∀i e,i≠j->c.edges[i]? =E e->toV (ZJ c.over e.loss (T.dotZ r.1 o.loss) o.loss (-(T.dotZ r.1 e.loss)))=(QL (eR c') i).smul s/\(toV (ZJ c.over e.loss (T.dotZ r.1 o.loss) o.loss (-(T.dotZ r.1 e.loss)))).smul (c.over:Int)=((toV e.loss).smul (T.dotZ r.1 o.loss)).add ((toV o.loss).smul (-(T.dotZ r.1 e.loss))):=by
   intro i e a d;obtain⟨s',_,K,L,c3,_⟩:=h.cross u d a I om;have av:s'=s:=by
    have hd:Jb (eR c)≠0:=fun M=>by rw[M]at A;simp at A;have:=h.pos;omega
    rw[A]at c3;exact(Int.eq_of_mul_eq_mul_right hd c3).symm
   subst av;exact⟨by rw[C];exact K,L⟩
  have a2:(c'.over:Int)=s*Jb (eR c'):=by rw[a9,B,C,zgd _ _ W]
  refine⟨j,o,⟨⟨ah,h.aim,aj,by rw[R];exact ap,?_,?_,⟨s,hs,a2,?_,by rw[R];exact aa⟩,?_,?_⟩,u,ae,a9,by rw[R,aa];exact hz,m,q,a7⟩⟩
  ·intro e z;obtain⟨i,U,S⟩:=qM z;have b:c'.edges[i]? =E e:=by rw[zg U,S]
   by_cases a:i=j
   ·subst a;rw[m]at b;cases b;exact⟨I,F.2⟩
   ·have t:i<c.edges.length:=by rw[h.len];omega
    have f:=zg t;rw[q i _ a f]at b;cases b;have hm:=h.mem f;exact⟨hm.1,by simp only;rw[zdV _ _ _ _ _ (by rw[hm.2,F.2])];exact hm.2⟩
  ·omega
  ·intro i e b;by_cases a:i=j
   ·subst a;rw[m]at b;cases b;rw[C,zm1 _ _ W];exact N
   ·have t:i<c.edges.length:=by have:=jQ b;rw[h.len];omega
    have f:=zg t;rw[q i _ a f]at b;cases b;exact(a6 i _ a f).1
  ·intro e z;obtain⟨i,U,S⟩:=qM z;have b:c'.edges[i]? =E e:=by rw[zg U,S]
   by_cases a:i=j
   ·subst a;rw[m]at b;cases b;exact h.lex o Y
   ·have t:i<c.edges.length:=by rw[h.len];omega
    have f:=zg t;rw[q i _ a f]at b;cases b;obtain⟨K,L⟩:=a6 i _ a f;generalize hq:ZJ c.over c.edges[i].loss (T.dotZ r.1 o.loss) o.loss (-(T.dotZ r.1 c.edges[i].loss))=v at *;have a5:∀k,k<5->(c.over:Int)*rk aims (toV v) k=T.dotZ r.1 o.loss*rk aims (toV c.edges[i].loss) k-T.dotZ r.1 c.edges[i].loss*rk aims (toV o.loss) k:=by
     intro k _;rw[<-JH,L,zhh,JH,JH];grind
    have ab:0<(c.over:Int):=by have:=h.pos;omega
    show JK (rk aims (toV v))
    by_cases hg:T.dotZ r.1 c.edges[i].loss<=0
    ·refine(h.lex _ (zJ t)).comb (h.lex o Y).n (p:=(c.over:Int)) (q:=T.dotZ r.1 o.loss) (r:=- T.dotZ r.1 c.edges[i].loss) ab ae om (fun k X=>?_);rw[a5 k X];grind
    ·have hN:=a7 _ (zJ t) om;have w:=hN.comb (g:=fun _=>0) (p:=(c.over:Int)) (q:=1) (r:=0) (.inl fun _ _=>rfl) ab om om (fun k X=>by rw[a5 k X];grind);rcases w with w|w
     ·exfalso
      have ar:=zrG w;have a3:=h.lt f;have:=zaS (eR c') i i a3 a3;rw[zQ rfl]at this;have h3:s*Jb (eR c')=(eR c' i).dot (toV v):=by rw[K,dot_smul,this]
      rw[ar,dot_zero,<-a2]at h3;omega
     ·exact w
  ·have e1:c'.edges.map Edg.num=(c.edges.map Edg.num).set j num:=by
    refine zbn fun i=>?_
    rw[zR,zc0];by_cases a:i=j
    ·subst a;rw[m,zQ rfl,zQ (by simpa using a4)];rfl
    ·rw[zO (fun e=>a e.symm),zR];cases d:c.edges[i]? with
     |some e=>rw[q i e a d];rfl
     |none=>
      have D:=Ju.1 d;have:=h.len;rw[qL om]
   rw[e1];refine zaq.2 fun Z a0 P Q ai=>?_
   have aq:=zaq.1 h.nums;rw[List.getElem_set,List.getElem_set];have a8:∀i (d:i<(c.edges.map Edg.num).length),(c.edges.map Edg.num)[i]≠num:=fun i d=>by
    rw[zaJ];exact an _ (zJ _)
   simp only[qX]at P Q;split<;>split
   ·omega
   ·exact(a8 a0 Q).symm
   ·exact a8 Z P
   ·exact aq Z a0 P Q ai
