import Derived.Test.YthnopjedhcapmaaGreatDoorMvr1Z7
open Option renaming none->O,some->E
open Go.Value renaming slice->V,bool->G,string->gS,pointer->pn,int->it,agg->ag
open Go.Obj renaming cells->cl
open Go renaming World->H
open Go.Proofs.Tryz renaming prog->pg
open Go.Proofs.Tryz
open Go.Ending renaming returned->Xa
open Go.IntKind renaming i64->Xb
open Go.Addr renaming mk->Xd
set_option linter.unusedSimpArgs false
set_option linter.unusedVariables false
set_option maxHeartbeats 4000000
set_option maxRecDepth 100000
namespace Go.Proofs.YthnopjedhcapmaaGreatDoor
namespace T
open Go.RowKit
theorem wrap_big (z:Int)(h1:-1000000000<=z)(h2:z<=1000000000):IntKind.i64.wrap z=z:=by
 rw[IntKind.wrap_i64];omega
def dotZ (gs xs:L_):Int:=(List.zipWith (· * ·) gs xs).sum
theorem dotZ_take {a xs:L_}{j:Nat}(hg:j<a.length)(d:j<xs.length):dotZ (a.take (j+1)) (xs.take (j+1))=dotZ (a.take j) (xs.take j)+a[j]*xs[j]:=by
 unfold dotZ;have b:(a.take j).length=(xs.take j).length:=by rw[zX,zX];omega
 rw[ZQ hg,ZQ d,List.zipWith_append b,List.sum_append];simp
def condRows (x:L_×U_×Int):R_:=
 (if x.2.1= [62,61]then []else [(x.1,x.2.2)])++(if x.2.1= [60,61]then []else [(x.1.map fun z=>-z,-x.2.2)])
def unitRow (n i:Nat):L_:=(List.range n).map fun k=>if k=i then 1 else 0
def rangeRows (n i:Nat)(r:Int×Int):R_:= [(unitRow n i,r.2),((unitRow n i).map fun z=>-z,-r.1)]
def rowsS (p:qF):R_:=p.rows.flatMap condRows++(List.range p.n).flatMap fun i=>rangeRows p.n i (p.rg.getD i (0,0))
end T

section
open V4
variable {aims x:L_}
theorem zji{n:Nat}{l:L_}(h:l.length=n)(e:n<=4):(n=0/\l= [])\/(n=1/\∃a,l= [a])\/(n=2/\∃a b,l= [a,b])\/(n=3/\∃a b c,l= [a,b,c])\/(n=4/\∃a b c d,l= [a,b,c,d]):=by
 match l,h with
 |[],h=>exact .inl ⟨h.symm,rfl⟩
 |[a],h=>exact .inr (.inl ⟨h.symm,a,rfl⟩)
 |[a,b],h=>exact .inr (.inr (.inl ⟨h.symm,a,b,rfl⟩))
 |[a,b,c],h=>exact .inr (.inr (.inr (.inl ⟨h.symm,a,b,c,rfl⟩)))
 |[a,b,c,d],h=>exact .inr (.inr (.inr (.inr ⟨h.symm,a,b,c,d,rfl⟩)))
 |a::b::c::d::e::r,h=>simp at h;omega
theorem JE{f:Int->Int->Int}(a:f 0 0=0){xs ys:L_}(h:xs.length=ys.length)(i:Nat):(List.zipWith f xs ys).getD i 0=f (xs.getD i 0) (ys.getD i 0):=by
 induction xs generalizing ys i with
 |nil=>
  cases ys with
  |nil=>simp[a]
  |cons=>simp at h
 |cons x xs a=>
  cases ys with
  |nil=>simp at h
  |cons y ys=>
   cases i with
   |zero=>rfl
   |succ i=>simpa using a (by simpa using h) i
theorem QD{g:L_}(h:g.length=x.length)(a:x.length<=4):T.dotZ g x=(toV g).dot (toV x):=by
 rcases zji rfl a with ⟨e,rfl⟩|⟨e,a,rfl⟩|⟨e,a,b,rfl⟩|⟨e,a,b,c,rfl⟩|⟨e,a,b,c,_,rfl⟩<;>
 rcases zji (l:=g) rfl om with ⟨a,rfl⟩|⟨a,b,rfl⟩|⟨a,b,d,rfl⟩|⟨a,b,d,e,rfl⟩|⟨a,b,d,e,_,rfl⟩<;>
 first|(exfalso;simp at h;done)|(simp[T.dotZ,toV,dot];try omega)
theorem znH{l:L_}{i:Nat}(h:l.length<=i)(hi:i<4):(QV i).dot (toV l)=0:=by
 have a:l.getD i 0=0:=by rw[zk,qL h];rfl
 obtain⟨b,d,e,f⟩:=zbJ (toV l);rcases lt4 hi with rfl|rfl|rfl|rfl
 ·rw[b];exact a
 ·rw[d];exact a
 ·rw[e];exact a
 ·rw[f];exact a
def ZJ (over:Nat)(x:L_)(t:Int)(y:L_)(u:Int):L_:=List.zipWith (fun a b=>(a*t+b*u)/(over:Int)) x y
theorem zdV(over:Nat)(x:L_)(t:Int)(y:L_)(u:Int)(h:x.length=y.length):(ZJ over x t y u).length=x.length:=by
 simp[ZJ,h]
theorem zhq{over:Nat}(ho:0<over){y:L_}(h:x.length=y.length)(t u:Int){z:V4}(a:z.smul (over:Int)=((toV x).smul t).add ((toV y).smul u)):toV (ZJ over x t y u)=z:=by
 have b:∀i d,over*d=t*x.getD i 0+u*y.getD i 0->(ZJ over x t y u).getD i 0=d:=by
  intro i d e;unfold ZJ;rw[JE sp h];have:x.getD i 0*t+y.getD i 0*u=over*d:=by rw[e,Qp t,Qp u]
  rw[this];exact jI _ om
 simp only[smul,add,toV,V4.mk.injEq]at a;exact ext' (b 0 _ a.1) (b 1 _ a.2.1) (b 2 _ a.2.2.1) (b 3 _ a.2.2.2)
def qT (aims x:L_):L_:=T.dotZ aims x::List.zipWith (fun a r=>if a<=0 then -r else r) aims x
def Qx:L_->Int
 |[]=>0
 |a::r=>if a.sign=0 then Qx r else a.sign
theorem zbi(h:aims.length=x.length)(d:x.length<=4)(i:Nat)(hi:i<5):(qT aims x).getD i 0=rk aims (toV x) i:=by
 cases i with
 |zero=>exact QD h d
 |succ i=>
  have e:(qT aims x).getD (i+1) 0=(List.zipWith _ aims x).getD i 0:=rfl;rw[e,JE sp h];have f:rk aims (toV x) (i+1)=(if aims.getD i 0<=0 then(QV i).smul (-1)else QV i).dot (toV x):=rfl;have a:(QV i).dot (toV x)=x.getD i 0:=by
   have⟨k,l,m,o⟩:=zbJ (toV x);rcases lt4 (show i<4 by omega)with rfl|rfl|rfl|rfl
   ·exact k
   ·exact l
   ·exact m
   ·exact o
  rw[f];split
  ·rw[smul_dot,a];omega
  ·exact a.symm
theorem zhr:∀(l:L_),l.length<=5->(0<Qx l↔JK (fun i=>l.getD i 0))
 |[],_=>by
  refine⟨fun h=>by simp[Qx]at h,fun⟨k,_,_,b⟩=>by simp at b⟩
 |a::r,m=>by
  rw[Qx];have d:=zhr r (by simp at m;omega);split
  ·rename_i e
   have f:=zap.1 e;rw[d];constructor
   ·rintro⟨k,p,d,b⟩;have o:k<r.length:=by
     refine Ze fun o=>?_
     have o:0<r.getD k 0:=b;rw[zk,qL om]at o;simp at o
    refine⟨k+1,by simp at m;omega,fun i m=>?_,b⟩;cases i with
    |zero=>exact f
    |succ i=>exact d i om
   ·rintro⟨k,p,d,b⟩;cases k with
    |zero=>
     have o:0<a:=b;omega
    |succ k=>exact⟨k,om,fun i m=>d (i+1) om,b⟩
  ·rename_i e
   have f:a≠0:=fun o=>e (by rw[o];rfl)
   constructor
   ·intro h;exact⟨0,om,fun i m=>absurd m (Nat.not_lt_zero _),Int.sign_pos_iff.1 h⟩
   ·rintro⟨k,p,d,b⟩;cases k with
    |zero=>exact Int.sign_pos_iff.2 b
    |succ k=>exact absurd (d 0 om) f
theorem zg2:∀(l:L_),Qx (l.map fun z=>-z)=- Qx l
 |[]=>rfl
 |a::r=>by
  rw[Zk,Qx,Qx,Int.sign_neg,zg2 r];have:(-a.sign=0)↔(a.sign=0):=om;simp only[this];split<;>rfl
theorem zoF(l:L_)(a:l.length<=5):Qx l<0↔JK (fun i=>-(l.getD i 0)):=by
 have h:=zhr (l.map fun z=>-z) (by simpa using a);rw[zg2]at h;have e:(fun i=>(l.map fun z=>-z).getD i 0)=fun i=>-(l.getD i 0):=by
  funext i
  rw[zk,zk,zR];cases l[i]?<;>simp
 rw[e]at h;rw[<-h];omega
theorem JK.congr{f g:Nat->Int}(h:JK f)(e:∀i,i<5->f i=g i):JK g:=by
 have⟨k,a,l,d⟩:=h;exact⟨k,a,fun i b=>by rw[<-e i om];exact l i b,by rw[<-e k a];exact d⟩
theorem zaC.congr{f g:Nat->Int}(h:zaC f)(e:∀i,i<5->f i=g i):zaC g:=by
 rcases h with h|h
 ·exact .inl fun i a=>by rw[<-e i a];exact h i a
 ·exact .inr (h.congr e)
theorem zhs(aims x:L_):(qT aims x).length=min aims.length x.length+1:=by simp[qT]
theorem ziC(h:aims.length=x.length)(d:x.length<=4):0<Qx (qT aims x)↔JK (rk aims (toV x)):=by
 rw[zhr _ (by rw[zhs];omega)];exact⟨fun b=>b.congr (fun i a=>zbi h d i a),fun b=>b.congr (fun i a=>(zbi h d i a).symm)⟩
theorem sign_neg(h:aims.length=x.length)(d:x.length<=4):Qx (qT aims x)<0↔JK (fun i=>- rk aims (toV x) i):=by
 rw[zoF _ (by rw[zhs];omega)];exact⟨fun b=>b.congr (fun i a=>by rw[zbi h d i a]),fun b=>b.congr (fun i a=>by rw[zbi h d i a])⟩
end

section
open V4
variable {i:Nat}
structure Edg where
 row:L_×Int
 num:Nat
 loss:L_
structure Cor where
 over:Nat
 point:L_
 edges:List Edg
def Z2 (c:Cor)(r:L_×Int):Int:=r.2*(c.over:Int)-T.dotZ r.1 c.point
def Q5 (aims:L_)(over:Nat)(g:L_):List Edg->Option (Edg×Int)->Option (Edg×Int)
 |[],b=>b
 |e::es,b=>
  if T.dotZ g e.loss<=0 then Q5 aims over g es b
  else match b with
   |none=>Q5 aims over g es (E (e,T.dotZ g e.loss))
   |some (o,pv)=>if Qx (qT aims (ZJ over e.loss pv o.loss (-(T.dotZ g e.loss))))<0 then Q5 aims over g es (E (e,T.dotZ g e.loss))else Q5 aims over g es (E (o,pv))
theorem zcf(aims:L_)(over:Nat)(g:L_)(e:Edg)(es:List Edg)(b:Option (Edg×Int)):Q5 aims over g (e::es) b=
 if T.dotZ g e.loss<=0 then Q5 aims over g es b
 else match b with
  |none=>Q5 aims over g es (E (e,T.dotZ g e.loss))
  |some (o,pv)=>if Qx (qT aims (ZJ over e.loss pv o.loss (-(T.dotZ g e.loss))))<0 then Q5 aims over g es (E (e,T.dotZ g e.loss))else Q5 aims over g es (E (o,pv)):=by
 cases b<;>rfl
def zb8 (over:Nat)(r:L_×Int)(num:Nat)(o:Edg)(pv:Int)(es:List Edg):List Edg:=
 es.map fun e=>if e.num=o.num then⟨r,num,e.loss⟩else⟨e.row,e.num,ZJ over e.loss pv o.loss (-(T.dotZ r.1 e.loss))⟩
def Qe (aims:L_)(c:Cor)(r:L_×Int)(num:Nat):Option Cor:=
 match Q5 aims c.over r.1 c.edges O with
 |none=>O
 |some (o,pv)=>E ⟨pv.natAbs,ZJ c.over c.point pv o.loss (Z2 c r),zb8 c.over r num o pv c.edges⟩
def eR (c:Cor)(i:Nat):V4:=match c.edges[i]? with|some e=>toV e.row.1|none=>QV i
def eM (c:Cor)(i:Nat):Int:=match c.edges[i]? with|some e=>e.row.2|none=>0
structure Qy (n:Nat)(aims:L_)(c:Cor):Prop where
 n4:n<=4
 aim:aims.length=n
 len:c.edges.length=n
 plen:c.point.length=n
 elen:∀e∈c.edges,e.row.1.length=n/\e.loss.length=n
 pos:0<c.over
 det:∃s:Int,(s=1\/s=-1)/\(c.over:Int)=s*Jb (eR c)/\(∀i e,c.edges[i]? =E e->toV e.loss=(QL (eR c) i).smul s)/\toV c.point=(zeT (QL (eR c)) (eM c)).smul s
 lex:∀e∈c.edges,JK (rk aims (toV e.loss))
 nums:(c.edges.map Edg.num).Nodup
theorem zoG{s:Int}(h:s=1\/s=-1):s*s=1:=by rcases h with rfl|rfl<;>rfl
theorem zdv{c:Cor}{e:Edg}(h:c.edges[i]? =E e):eR c i=toV e.row.1:=by unfold eR;rw[h]
theorem zh0{c:Cor}(h:c.edges.length<=i):eR c i=QV i:=by unfold eR;rw[qL h]
theorem zfi{c:Cor}{e:Edg}(h:c.edges[i]? =E e):eM c i=e.row.2:=by unfold eM;rw[h]
theorem zh1{c:Cor}(h:c.edges.length<=i):eM c i=0:=by unfold eM;rw[qL h]
theorem jQ{α:Type}{l:List α}{e:α}(h:l[i]? =E e):i<l.length:=(zo.1 h).1
section

variable {n:Nat} {aims:L_} {c:Cor}
theorem Qy.lt (h:Qy n aims c){i:Nat}{e:Edg}(hi:c.edges[i]? =E e):i<4:=by
 have:=jQ hi;have:=h.len;have:=h.n4;omega
theorem Qy.mem (h:Qy n aims c){i:Nat}{e:Edg}(hi:c.edges[i]? =E e):e.row.1.length=n/\e.loss.length=n:=h.elen e (zx hi)
theorem Qy.row_loss (h:Qy n aims c){i j:Nat}{e f:Edg}(hi:c.edges[i]? =E e)(a:c.edges[j]? =E f):T.dotZ e.row.1 f.loss=if i=j then(c.over:Int)else 0:=by
 obtain⟨_,_,d,b,_⟩:=h.det;have k:=h.mem hi;have k:=h.mem a;have k:=h.n4;rw[QD om om,b j f a,dot_smul,<-zdv hi,zaS _ _ _ (h.lt hi) (h.lt a)];split
 ·exact d.symm
 ·simp
theorem Qy.row_point (h:Qy n aims c){i:Nat}{e:Edg}(hi:c.edges[i]? =E e):T.dotZ e.row.1 c.point=(c.over:Int)*e.row.2:=by
 obtain⟨_,_,a,_,b⟩:=h.det;have d:=h.mem hi;have d:=h.n4;have d:=h.plen;rw[QD om om,b,dot_smul,<-zdv hi,zev _ _ _ (h.lt hi),zfi hi,a];grind
end
variable {aims:L_}{c:Cor}{n:Nat}
theorem sum4{α:Type}(f:α->Int):∀(l:List α),l.length<=4->(l.map f).sum=(l[0]?.map f).getD 0+(l[1]?.map f).getD 0+(l[2]?.map f).getD 0+(l[3]?.map f).getD 0
 |[],_=>rfl
 |[a],_=>sp
 |[a,b],_=>sp
 |[a,b,c],_=>by simp[Int.add_assoc]
 |[a,b,c,d],_=>by simp[Int.add_assoc]
 |a::b::c::d::e::r,h=>by simp at h
theorem Qy.complete(h:Qy n aims c){x:L_}(a:x.length=n)(g:V4):
 (c.over:Int)*g.dot (toV x)=g.dot (toV c.point)-(c.edges.map fun e=>(e.row.2-T.dotZ e.row.1 x)*g.dot (toV e.loss)).sum:=by
 have⟨s,_,f,b,d⟩:=h.det;have a:=h.n4;have a:=h.len;have a:=qm (fun v=>s*g.dot v) (zjS (eR c) (toV x));simp only[dot_smul,dot_add]at a;rw[sum4 _ _ om,d,dot_smul,zly];have a:∀i,i<4->((c.edges[i]?.map fun e=>(e.row.2-T.dotZ e.row.1 x)*g.dot (toV e.loss)).getD 0)=s*(eM c i*g.dot (QL (eR c) i))-s*((eR c i).dot (toV x)*g.dot (QL (eR c) i)):=by
  intro i d;cases he:c.edges[i]? with
  |some e=>
   have k:=h.mem he;rw[zfi he,zdv he,qY,qB,b i e he,dot_smul,QD om om];grind
  |none=>
   have b:=Ju.1 he;rw[zh1 b,zh0 b,znH om d];simp
 rw[a 0 om,a 1 om,a 2 om,a 3 om,f];grind
theorem Qy.cross(h:Qy n aims c){j k:Nat}{o e:Edg}(b:c.edges[j]? =E o)(d:c.edges[k]? =E e)(t:k≠j){g:L_}(hg:g.length=n)(w:T.dotZ g o.loss≠0):
 ∃s:Int,(s=1\/s=-1)/\toV (ZJ c.over e.loss (T.dotZ g o.loss) o.loss (-(T.dotZ g e.loss)))=(QL (zdH (eR c) j (toV g)) k).smul s/\(toV (ZJ c.over e.loss (T.dotZ g o.loss) o.loss (-(T.dotZ g e.loss)))).smul (c.over:Int)=((toV e.loss).smul (T.dotZ g o.loss)).add ((toV o.loss).smul (-(T.dotZ g e.loss)))/\(c.over:Int)=s*Jb (eR c)/\toV o.loss=(QL (eR c) j).smul s:=by
 have⟨s,m,l,f,_⟩:=h.det;have a:=h.n4;have a:=h.mem b;have a:=h.mem d;have a:=zoG m;have a:=f j o b;have i:=f k e d;have f:T.dotZ g o.loss=s*(toV g).dot (QL (eR c) j):=by rw[QD om om,a,dot_smul]
 have p:T.dotZ g e.loss=s*(toV g).dot (QL (eR c) k):=by rw[QD om om,i,dot_smul]
 have z:(toV g).dot _≠0:=fun q=>w (by rw[f,q];simp)
 have q:=zlx (eR c) j k (h.lt b) (h.lt d) t (toV g) z;have d:((QL (zdH (eR c) j (toV g)) k).smul s).smul c.over=((toV e.loss).smul (T.dotZ g o.loss)).add ((toV o.loss).smul (-(T.dotZ g e.loss))):=by
  have b:((QL (zdH (eR c) j (toV g)) k).smul s).smul c.over=(QL (zdH (eR c) j (toV g)) k).smul (Jb (eR c)):=by
   rw[smul_smul,l];congr 1
   grind
  rw[b,q,a,i,smul_smul,smul_smul,f,p];congr 2<;>grind
 have b:=zhq h.pos om (T.dotZ g o.loss) (-(T.dotZ g e.loss)) d;exact⟨s,m,b,by rw[b];exact d,l,a⟩
def LeaveI (aims g:L_)(done:List Edg):Option (Edg×Int)->Prop
 |none=>∀e∈done,T.dotZ g e.loss<=0
 |some (o,pv)=>o∈done/\pv=T.dotZ g o.loss/\0<pv/\∀e∈done,0<T.dotZ g e.loss->zaC (fun i=>pv*rk aims (toV e.loss) i-T.dotZ g e.loss*rk aims (toV o.loss) i)
theorem zdW(h:Qy n aims c){g:L_}(hg:g.length=n):∀(es done:List Edg) (b:Option (Edg×Int)),c.edges=done++es->LeaveI aims g done b->LeaveI aims g c.edges (Q5 aims c.over g es b)
 |[],done,b,f,hi=>by
  rw[ZR]at f;rw[f];exact hi
 |e::es,done,b,f,hi=>by
  have k:c.edges=(done ++ [e])++es:=by rw[f];simp
  rw[zcf];by_cases i:T.dotZ g e.loss<=0
  ·rw[zQ i];refine zdW h hg es _ b k ?_;cases b with
   |none=>
    intro x a;rcases zU.1 a with a|a
    ·exact hi x a
    ·rw[qg.1 a];exact i
   |some s=>
    obtain⟨o,pv⟩:=s;obtain⟨l,d,m,q⟩:=hi;refine⟨QN _ l,d,m,fun x a d=>?_⟩;rcases zU.1 a with a|a
    ·exact q x a d
    ·rw[qg.1 a]at d;omega
  ·rw[zO i];cases b with
   |none=>
    refine zdW h hg es _ _ k ⟨sp,rfl,om,fun x a d=>?_⟩;rcases zU.1 a with a|a
    ·have:=hi x a;omega
    ·rw[qg.1 a];exact .inl fun i _=>Int.sub_self _
   |some s=>
    obtain⟨o,pv⟩:=s;obtain⟨l,rfl,m,q⟩:=hi;obtain⟨j,t,w⟩:=qM l;have s:c.edges[j]? =E o:=by rw[f,zS t,zg t,w]
    have t:c.edges[done.length]? =E e:=by rw[f,zG (zh _)];simp
    obtain⟨_,_,_,f,-⟩:=h.cross s t om hg om;have w:=h.mem s;have s:=h.mem t;have s:=h.n4;have w:(ZJ c.over e.loss (T.dotZ g o.loss) o.loss (-(T.dotZ g e.loss))).length=n:=by rw[zdV _ _ _ _ _ om];omega
    have s:∀i,i<5->(c.over:Int)*rk aims (toV (ZJ c.over e.loss (T.dotZ g o.loss) o.loss (-(T.dotZ g e.loss)))) i=T.dotZ g o.loss*rk aims (toV e.loss) i-T.dotZ g e.loss*rk aims (toV o.loss) i:=by
     intro i _;rw[<-JH,f,zhh,JH,JH];grind
    have z:0<(c.over:Int):=by have:=h.pos;omega
    have t:=sign_neg (aims:=aims) (x:=ZJ c.over e.loss (T.dotZ g o.loss) o.loss (-(T.dotZ g e.loss))) (by rw[h.aim,w]) om;simp only;split
    ·rename_i f
     have w:=t.1 f;have y:JK (fun i=>T.dotZ g e.loss*rk aims (toV o.loss) i-T.dotZ g o.loss*rk aims (toV e.loss) i):=by
      refine w.comb (g:=fun _=>0) (p:=1) (q:=(c.over:Int)) (r:=0) (.inl fun _ _=>rfl) om z om (fun i hi=>?_);have:=s i hi;grind
     refine zdW h hg es _ _ k ⟨sp,rfl,om,fun x a d=>?_⟩;rcases zU.1 a with a|a
     ·have w:=q x a d;refine w.comb y.n (p:=T.dotZ g o.loss) (q:=T.dotZ g e.loss) (r:=T.dotZ g x.loss) m om om (fun i hi=>?_);grind
     ·rw[qg.1 a];exact .inl fun i _=>Int.sub_self _
    ·rename_i f
     refine zdW h hg es _ _ k ⟨QN _ l,rfl,m,fun x a d=>?_⟩;rcases zU.1 a with a|a
     ·exact q x a d
     ·rw[qg.1 a];rcases zhg (fun i=>- rk aims (toV (ZJ c.over e.loss (T.dotZ g o.loss) o.loss (-(T.dotZ g e.loss)))) i)with a|a
      ·exact absurd (t.2 a) f
      ·refine a.comb (g:=fun _=>0) (p:=1) (q:=(c.over:Int)) (r:=0) (.inl fun _ _=>rfl) om om om (fun i hi=>?_);have:=s i hi;grind
end

section
open V4
theorem zqH {over:Nat}{r:L_×Int}{num:Nat}{o:Edg}{pv:Int}{es:List Edg}(k:(es.map Edg.num).Nodup){j:Nat}(f:es[j]? =E o):
 (zb8 over r num o pv es)[j]? =E ⟨r,num,o.loss⟩/\∀i e,i≠j->es[i]? =E e->(zb8 over r num o pv es)[i]? =E ⟨e.row,e.num,ZJ over e.loss pv o.loss (-(T.dotZ r.1 e.loss))⟩:=by
 unfold zb8;refine⟨by rw[zR,f];simp,fun i e h d=>?_⟩;have q:e.num≠o.num:=by
  intro m;have a:=jQ d;have b:=jQ f;have p:=zaq.1 k;have k:(es.map Edg.num)[i]'(by simpa using a)=e.num:=by
   rw[zaJ];rw[(zo.1 d).2]
  have l:(es.map Edg.num)[j]'(by simpa using b)=o.num:=by
   rw[zaJ];rw[(zo.1 f).2]
  rcases zeE h with h|h
  ·exact p i j (by simpa using a) (by simpa using b) h (by rw[k,l,m])
  ·exact p j i (by simpa using b) (by simpa using a) h (by rw[k,l,m])
 rw[zR,d,qY,zO q]
structure Exch (n:Nat)(aims:L_)(c:Cor)(r:L_×Int)(num:Nat)(c':Cor)(j:Nat)(o:Edg):Prop where
 cor:Qy n aims c'
 at_:c.edges[j]? =E o
 gain:0<T.dotZ r.1 o.loss
 over:(c'.over:Int)=T.dotZ r.1 o.loss
 point:(toV c'.point).smul (c.over:Int)=((toV c.point).smul (T.dotZ r.1 o.loss)).add ((toV o.loss).smul (Z2 c r))
 new:c'.edges[j]? =E ⟨r,num,o.loss⟩
 old:∀i e,i≠j->c.edges[i]? =E e->c'.edges[i]? =E ⟨e.row,e.num,ZJ c.over e.loss (T.dotZ r.1 o.loss) o.loss (-(T.dotZ r.1 e.loss))⟩
 least:∀e∈c.edges,0<T.dotZ r.1 e.loss->zaC (fun i=>T.dotZ r.1 o.loss*rk aims (toV e.loss) i-T.dotZ r.1 e.loss*rk aims (toV o.loss) i)
theorem zht {n:Nat}{aims:L_}{c:Cor}(h:Qy n aims c){r:L_×Int}(L:r.1.length=n){num:Nat}(ap:∀e∈c.edges,e.num≠num):
 (Qe aims c r num=O->∀e∈c.edges,T.dotZ r.1 e.loss<=0)/\∀c',Qe aims c r num=E c'->∃j o,Exch n aims c r num c' j o:=by
 have N:=zdW h L c.edges [] O rfl (fun e C=>by simp at C);unfold Qe;cases hL:Q5 aims c.over r.1 c.edges O with
 |none=>
  rw[hL]at N;exact⟨fun _=>N,fun c' l=>by cases l⟩
 |some z=>
  have⟨o,pv⟩:=z;rw[hL]at N;obtain⟨ho,rfl,ah,a9⟩:=N;refine⟨(fun l=>by cases l),fun c' l=>?_⟩;simp only[qN]at l;have⟨j,a6,an⟩:=qM ho;have w:c.edges[j]? =E o:=by rw[zg a6,an]
  obtain⟨m,q⟩:=zqH h.nums w;have⟨s,hs,D,ao,af⟩:=h.det;have ay:=zoG hs;have aj:=h.n4;have K:=h.mem w;have a0:=h.lt w;have S:=ao j o w;have F:T.dotZ r.1 o.loss=s*(toV r.1).dot (QL (eR c) j):=by rw[QD om om,S,dot_smul]
  have aq:(toV r.1).dot (QL (eR c) j)≠0:=fun R=>by rw[R]at F;simp at F;omega
  have a3:c'.edges=zb8 c.over r num o (T.dotZ r.1 o.loss) c.edges:=by rw[<-l]
  have al:c'.edges.length=n:=by rw[a3];simp[zb8,h.len]
  rw[<-a3]at m q;have I:eR c'=zdH (eR c) j (toV r.1):=by
   funext i
   by_cases a:i=j
   ·subst a;rw[zfI,zdv m]
   ·rw[zgz _ _ a];cases d:c.edges[i]? with
    |some e=>rw[zdv (q i e a d),zdv d]
    |none=>
     have J:=Ju.1 d;have:=h.len;rw[zh0 om,zh0 J]
  have hM:eM c'=fun i=>if i=j then r.2 else eM c i:=by
   funext i
   by_cases a:i=j
   ·subst a;rw[zQ rfl,zfi m]
   ·rw[zO a];cases d:c.edges[i]? with
    |some e=>rw[zfi (q i e a d),zfi d]
    |none=>
     have J:=Ju.1 d;have:=h.len;rw[zh1 om,zh1 J]
  have ab:c'.over=T.dotZ r.1 o.loss:=by rw[<-l];show((T.dotZ r.1 o.loss).natAbs:Int)=_;omega
  have ar:(ZJ c.over c.point (T.dotZ r.1 o.loss) o.loss (Z2 c r)).length=n:=by rw[zdV _ _ _ _ _ (by rw[h.plen,K.2])];exact h.plen
  have X:c'.point=ZJ c.over c.point (T.dotZ r.1 o.loss) o.loss (Z2 c r):=by rw[<-l]
  have aw:Z2 c r=s*(r.2*Jb (eR c)-(toV r.1).dot (zeT (QL (eR c)) (eM c))):=by
   unfold Z2;rw[QD (by rw[h.plen];exact L) (by rw[h.plen];exact aj),af,dot_smul,D];grind
  have ai:=zjT (eR c) (eM c) j a0 (toV r.1) r.2 aq;rw[<-I,<-hM]at ai;have hz:((zeT (QL (eR c')) (eM c')).smul s).smul c.over=((toV c.point).smul (T.dotZ r.1 o.loss)).add ((toV o.loss).smul (Z2 c r)):=by
   have e3:((zeT (QL (eR c')) (eM c')).smul s).smul c.over=(zeT (QL (eR c')) (eM c')).smul (Jb (eR c)):=by
    rw[smul_smul,D];congr 1
    grind
   rw[e3,ai,af,S,smul_smul,smul_smul,F,aw];congr 2<;>grind
  have ad:=zhq h.pos (by rw[h.plen,K.2]) (T.dotZ r.1 o.loss) (Z2 c r) hz;have a8:∀i e,i≠j->c.edges[i]? =E e->toV (ZJ c.over e.loss (T.dotZ r.1 o.loss) o.loss (-(T.dotZ r.1 e.loss)))=(QL (eR c') i).smul s/\(toV (ZJ c.over e.loss (T.dotZ r.1 o.loss) o.loss (-(T.dotZ r.1 e.loss)))).smul c.over=((toV e.loss).smul (T.dotZ r.1 o.loss)).add ((toV o.loss).smul (-(T.dotZ r.1 e.loss))):=by
   intro i e a d;obtain⟨s',_,P,Q,c3,_⟩:=h.cross w d a L om;have ax:s'=s:=by
    have hd:Jb (eR c)≠0:=fun R=>by rw[R]at D;simp at D;have:=h.pos;omega
    rw[D]at c3;exact(Int.eq_of_mul_eq_mul_right hd c3).symm
   subst ax;exact⟨by rw[I];exact P,Q⟩
  have a4:c'.over=s*Jb (eR c'):=by rw[ab,F,I,zgd _ _ a0]
  refine⟨j,o,⟨⟨aj,h.aim,al,by rw[X];exact ar,?_,?_,⟨s,hs,a4,?_,by rw[X];exact ad⟩,?_,?_⟩,w,ah,ab,by rw[X,ad];exact hz,m,q,a9⟩⟩
  ·intro e C;obtain⟨i,Z,Y⟩:=qM C;have b:c'.edges[i]? =E e:=by rw[zg Z,Y]
   by_cases a:i=j
   ·subst a;rw[m]at b;cases b;exact⟨L,K.2⟩
   ·have t:i<c.edges.length:=by rw[h.len];omega
    have f:=zg t;rw[q i _ a f]at b;cases b;have hm:=h.mem f;exact⟨hm.1,by simp only;rw[zdV _ _ _ _ _ (by rw[hm.2,K.2])];exact hm.2⟩
  ·omega
  ·intro i e b;by_cases a:i=j
   ·subst a;rw[m]at b;cases b;rw[I,zm1 _ _ a0];exact S
   ·have t:i<c.edges.length:=by have:=jQ b;rw[h.len];omega
    have f:=zg t;rw[q i _ a f]at b;cases b;exact(a8 i _ a f).1
  ·intro e C;obtain⟨i,Z,Y⟩:=qM C;have b:c'.edges[i]? =E e:=by rw[zg Z,Y]
   by_cases a:i=j
   ·subst a;rw[m]at b;cases b;exact h.lex o ho
   ·have t:i<c.edges.length:=by rw[h.len];omega
    have f:=zg t;rw[q i _ a f]at b;cases b;obtain⟨P,Q⟩:=a8 i _ a f;generalize hq:ZJ c.over c.edges[i].loss (T.dotZ r.1 o.loss) o.loss (-(T.dotZ r.1 c.edges[i].loss))=z at *;have a7:∀k,k<5->c.over*rk aims (toV z) k=T.dotZ r.1 o.loss*rk aims (toV c.edges[i].loss) k-T.dotZ r.1 c.edges[i].loss*rk aims (toV o.loss) k:=by
     intro k _;rw[<-JH,Q,zhh,JH,JH];grind
    have ae:0<(c.over:Int):=by have:=h.pos;omega
    show JK (rk aims (toV z))
    by_cases hg:T.dotZ r.1 c.edges[i].loss<=0
    ·refine(h.lex _ (zJ t)).comb (h.lex o ho).n (r:=- T.dotZ r.1 c.edges[i].loss) ae ah om (fun k hk=>?_);rw[a7 k hk];grind
    ·have hN:=a9 _ (zJ t) om;have B:=hN.comb (q:=1) (r:=0) (.inl fun _ _=>rfl) ae om om (fun k hk=>by rw[a7 k hk];grind);rcases B with B|B
     ·exfalso
      have av:=zrG B;have a5:=h.lt f;have:=zaS (eR c') i i a5 a5;rw[zQ rfl]at this;have h3:s*Jb (eR c')=(eR c' i).dot (toV z):=by rw[P,dot_smul,this]
      rw[av,dot_zero,<-a4]at h3;omega
     ·exact B
  ·have e1:c'.edges.map Edg.num=(c.edges.map Edg.num).set j num:=by
    refine zbn fun i=>?_
    rw[zR,zc0];by_cases a:i=j
    ·subst a;rw[m,zQ rfl,zQ (by simpa using a6)];rfl
    ·rw[zO (fun e=>a e.symm),zR];cases d:c.edges[i]? with
     |some e=>rw[q i e a d];rfl
     |none=>
      have J:=Ju.1 d;have:=h.len;rw[qL om]
   rw[e1];refine zaq.2 fun a1 a2 U W ak=>?_
   have au:=zaq.1 h.nums;rw[List.getElem_set,List.getElem_set];have aa:∀i (d:i<(c.edges.map Edg.num).length),(c.edges.map Edg.num)[i]≠num:=fun i d=>by
    rw[zaJ];exact ap _ (zJ _)
   simp only[qX]at U W;split<;>split
   ·omega
   ·exact(aa a2 W).symm
   ·exact aa a1 U
   ·exact au a1 a2 U W ak
end

section
open V4
variable {aims:L_}{i n:Nat}
def zb9 (aims:L_)(bs:List ((L_×Int)×Nat)):Cor:=
 let es:=bs.filterMap fun b=>if 0<Qx (qT aims b.1.1)then E (⟨b.1,b.2,b.1.1⟩:Edg)else O
 ⟨1,es.foldl (fun pt e=>ZJ 1 pt 1 e.loss e.row.2) (List.replicate es.length 0),es⟩
def zcg (rg:Nat->Int×Int)(k:Nat):Nat->List ((L_×Int)×Nat):=fun n=>
 (List.range n).flatMap fun i=> [((T.unitRow n i,(rg i).2),k+2*i+1),(((T.unitRow n i).map fun z=>-z,-(rg i).1),k+2*i+2)]
def zct (n:Nat)(aims:L_)(rg:Nat->Int×Int)(k i:Nat):Edg:=
 if aims.getD i 0<=0 then⟨((T.unitRow n i).map fun z=>-z,-(rg i).1),k+2*i+2,(T.unitRow n i).map fun z=>-z⟩else⟨(T.unitRow n i,(rg i).2),k+2*i+1,T.unitRow n i⟩
theorem QS(n i:Nat):(T.unitRow n i).length=n:=by simp[T.unitRow]
theorem zdp(a:n<=4)(hi:i<n):toV (T.unitRow n i)=QV i:=by
 have a:∀k,(T.unitRow n i).getD k 0=if i=k then 1 else 0:=by
  intro k;unfold T.unitRow;rw[zk,zR];by_cases b:k<n
  ·rw[zaL b];simp only[qY,qB];by_cases h:k=i
   ·rw[zQ h,zQ h.symm]
   ·rw[zO h,zO (fun e=>h e.symm)]
  ·rw[qL (by simpa using b)];simp only[Option.map_none,Option.getD_none];rw[zO om]
 exact ext' (a 0) (a 1) (a 2) (a 3)
theorem zgl(l:L_):toV (l.map fun z=>-z)=(toV l).smul (-1):=by
 have a:∀k,(l.map fun z=>-z).getD k 0=-1*l.getD k 0:=by
  intro k;rw[zk,zk,zR];cases l[k]?<;>simp
 exact ext' (a 0) (a 1) (a 2) (a 3)
theorem zlR(aims:L_)(i:Nat):(if aims.getD i 0<=0 then(-1:Int)else 1)*(if aims.getD i 0<=0 then(-1:Int)else 1)=1:=by split<;>rfl
theorem zeL(i j:Nat)(hi:i<4)(a:j<4):(QV i).dot (QV j)=if i=j then 1 else 0:=by
 rcases lt4 hi with rfl|rfl|rfl|rfl<;>rcases lt4 a with rfl|rfl|rfl|rfl<;>rfl
theorem zlS(x:V4)(i:Nat):x.dot (QV i)=(QV i).dot x:=dot_comm _ _
theorem zlT(hi:i<4):JK (rk aims ((QV i).smul (if aims.getD i 0<=0 then(-1:Int)else 1))):=by
 have d:∀t,rk aims ((QV i).smul t) 0=t*aims.getD i 0:=by
  intro t;show(toV aims).dot _=_
  rw[dot_smul,zlS];obtain⟨a,b,e,f⟩:=zbJ (toV aims);rcases lt4 hi with rfl|rfl|rfl|rfl
  ·rw[a];rfl
  ·rw[b];rfl
  ·rw[e];rfl
  ·rw[f];rfl
 have e:∀t k,k<4->rk aims ((QV i).smul t) (k+1)=if k=i then t*(if aims.getD i 0<=0 then(-1:Int)else 1)else 0:=by
  intro t k a;show(if aims.getD k 0<=0 then(QV k).smul (-1)else QV k).dot _=_
  rw[dot_smul];by_cases b:k=i
  ·subst b;rw[zQ rfl];split
   ·rw[smul_dot,zeL _ _ a a,zQ rfl];rfl
   ·rw[zeL _ _ a a,zQ rfl]
  ·rw[zO b];split
   ·rw[smul_dot,zeL _ _ a hi,zO b];simp
   ·rw[zeL _ _ a hi,zO b];simp
 by_cases b:aims.getD i 0=0
 ·refine⟨i+1,om,fun k a=>?_,?_⟩
  ·cases k with
   |zero=>rw[d,b];simp
   |succ k=>rw[e _ k om,zO om]
  ·rw[e _ i hi,zQ rfl,zlR];omega
 ·refine⟨0,om,fun k a=>absurd a (Nat.not_lt_zero _),?_⟩;rw[d];split<;>omega
theorem zfv(aims:L_)(rg:Nat->Int×Int)(k:Nat)(a:n<=4)(hi:i<n):
 toV (zct n aims rg k i).row.1=(QV i).smul (if aims.getD i 0<=0 then(-1:Int)else 1)/\(zct n aims rg k i).loss=(zct n aims rg k i).row.1/\(zct n aims rg k i).row.1.length=n:=by
 unfold zct;split
 ·exact⟨by rw[zgl,zdp a hi],rfl,by simp[QS]⟩
 ·refine⟨?_,rfl,QS _ _⟩;show toV (T.unitRow n i)=_
  rw[zdp a hi];exact ext' (QT _).symm (QT _).symm (QT _).symm (QT _).symm
theorem zek(f:aims.length=n)(e:n<=4)(rg:Nat->Int×Int)(k:Nat):
 (zcg rg k n).filterMap (fun b=>if 0<Qx (qT aims b.1.1)then E (⟨b.1,b.2,b.1.1⟩:Edg)else O)=(List.range n).map (zct n aims rg k):=by
 unfold zcg;rw[List.filterMap_flatMap,List.map_eq_flatMap];have s:∀i∈List.range n,List.filterMap (fun b:(L_×Int)×Nat=>if 0<Qx (qT aims b.1.1)then E (⟨b.1,b.2,b.1.1⟩:Edg)else O) [((T.unitRow n i,(rg i).2),k+2*i+1),(((T.unitRow n i).map fun z=>-z,-(rg i).1),k+2*i+2)]= [zct n aims rg k i]:=by
  intro i d;have d:=Z8.1 d;have a:=zlT (aims:=aims) (i:=i) om;have o:=ziC (aims:=aims) (x:=T.unitRow n i) (by rw[QS,f]) (by rw[QS];exact e);have p:=ziC (aims:=aims) (x:=(T.unitRow n i).map fun z=>-z) (by simp[QS,f]) (by simp[QS];exact e);rw[zdp e d]at o;rw[zgl,zdp e d]at p;have t:∀{x:V4},JK (rk aims x)->¬JK (rk aims (x.smul (-1))):=by
   intro x h l;refine h.not_neg (l.n.congr (fun k h=>?_));rw[JH];omega
  have one:∀x:V4,x.smul 1=x:=fun x=>ext' (QT _) (QT _) (QT _) (QT _)
  unfold zct;by_cases q:aims.getD i 0<=0
  ·rw[zQ q]at a⊢;have l:¬0<Qx _:=fun h=>t (o.1 h) a
   have m:=p.2 a;simp[l,m]
  ·rw[zO q]at a⊢;rw[one]at a;have l:=o.2 a;have m:¬0<Qx _:=fun h=>t a (p.1 h)
   simp[l,m]
 generalize List.range n=l at *;induction l with
 |nil=>rfl
 |cons a l e=>
  rw[Qo,Qo,s a qA,e (fun i d=>s i (qq _ d))]
theorem zgH:∀(es:List Edg) (pt:L_) (n:Nat),pt.length=n->(∀e∈es,e.loss.length=n)->(es.foldl (fun pt e=>ZJ 1 pt 1 e.loss e.row.2) pt).length=n/\∀g:V4,g.dot (toV (es.foldl (fun pt e=>ZJ 1 pt 1 e.loss e.row.2) pt))=g.dot (toV pt)+(es.map fun e=>e.row.2*g.dot (toV e.loss)).sum
 |[],pt,n,a,_=>⟨a,fun g=>sp⟩
 |e::es,pt,n,a,b=>by
  have d:=b e qA;have f:(ZJ 1 pt 1 e.loss e.row.2).length=n:=by rw[zdV _ _ _ _ _ om];exact a
  have⟨a,d⟩:=zgH es (ZJ 1 pt 1 e.loss e.row.2) n f (fun x f=>b x (qq _ f));refine⟨a,fun g=>?_⟩;have a:=zhq (over:=1) om om 1 e.row.2 (z:=((toV pt).smul 1).add ((toV e.loss).smul e.row.2)) (ext' (QT _) (QT _) (QT _) (QT _));rw[zaZ,d g,a,dot_add,dot_smul,dot_smul,Zk,QI];omega
theorem zmF(s:aims.length=n)(m:n<=4)(rg:Nat->Int×Int)(k:Nat):
 Qy n aims (zb9 aims (zcg rg k n))/\(zb9 aims (zcg rg k n)).edges=(List.range n).map (zct n aims rg k):=by
 have d:(zb9 aims _).edges=(List.range n).map _:=zek s m rg k;have B:(zb9 aims (zcg rg k n)).point=((List.range n).map (zct n aims rg k)).foldl (fun a e=>ZJ 1 a 1 e.loss e.row.2) (List.replicate n 0):=by
  show List.foldl _ _ _=_
  rw[zek s m rg k];simp
 have D:(zb9 aims (zcg rg k n)).over=1:=rfl;refine⟨?_,d⟩;generalize zb9 aims (zcg rg k n)=c at *;have l:∀i e,c.edges[i]? =E e↔i<n/\e=zct n aims rg k i:=by
  intro i e;rw[d,zR];by_cases a:i<n
  ·rw[zaL a];simp[a,eq_comm]
  ·rw[qL (by simpa using a)];simp[a]
 have C:c.edges.length=n:=by rw[d];simp
 have t:∀e∈c.edges,e.row.1.length=n/\e.loss.length=n:=by
  intro e b;rw[d]at b;obtain⟨i,a,rfl⟩:=qP.1 b;have f:=zfv aims rg k m (Z8.1 a);exact⟨f.2.2,by rw[f.2.1];exact f.2.2⟩
 obtain⟨sg,hsg⟩:∃sg:Nat->Int,sg=fun i=>if i<n then(if aims.getD i 0<=0 then(-1:Int)else 1)else 1:=⟨_,rfl⟩
 have p:∀i,sg i*sg i=1:=by
  intro i;rw[hsg];simp only;split
  ·exact zlR aims i
  ·rfl
 have one:∀x:V4,x.smul 1=x:=fun x=>ext' (QT _) (QT _) (QT _) (QT _)
 have q:∀i,eR c i=(QV i).smul (sg i):=by
  intro i;by_cases a:i<n
  ·rw[zdv ((l i _).2 ⟨a,rfl⟩),(zfv aims rg k m a).1,hsg];simp only;rw[zQ a]
  ·rw[zh0 om,hsg];simp only;rw[zO a,one]
 have f:=funext q;have h:Jb (eR c)=sg 0*sg 1*sg 2*sg 3:=by
  rw[f];simp only[Jb,det,crs,dot,smul,QV];simp;grind
 have f:Jb (eR c)*Jb (eR c)=1:=by
  rw[h];have:=p 0;have:=p 1;have:=p 2;have:=p 3;grind
 have w:Jb (eR c)=1\/Jb (eR c)=-1:=by
  rcases zad (Jb (eR c)) 0 with h|h|h
  ·right
   have o:Jb (eR c) ∣ 1:=⟨_,f.symm⟩;have:=Int.natAbs_dvd_natAbs.2 o;have:=zeS dc this;simp at this;omega
  ·rw[h]at f;simp at f
  ·left
   have o:Jb (eR c) ∣ 1:=⟨_,f.symm⟩;have:=Int.le_of_dvd dc o;omega
 have x:Jb (eR c)≠0:=by rcases w with h|h<;>omega
 have z:∀i e,c.edges[i]? =E e->toV e.loss=eR c i:=by
  intro i e b;have o:=(l i e).1 b;rw[zdv b,o.2,(zfv aims rg k m o.1).2.1]
 have y:∀i j,i<4->j<4->(eR c i).dot (eR c j)=if i=j then 1 else 0:=by
  intro i j a l;rw[q,q,smul_dot,dot_smul,zeL i j a l];split
  ·rename_i h;subst h;rw[zet];exact p i
  ·simp
 refine⟨m,s,C,?_,t,om,⟨Jb (eR c),w,by rw[f,D];rfl,fun i e b=>?_,?_⟩,fun e b=>?_,?_⟩
 ·rw[B];exact(zgH _ _ n sp (fun e b=>(t e (by rw[d];exact b)).2)).1
 ·have p:i<4:=by have:=jQ b;omega
  rw[z i e b];refine zeu x (fun j l=>?_);rw[dot_smul,zaS _ _ _ l p,y j i l p];split
  ·exact f.symm
  ·simp
 ·refine zeu x (fun j l=>?_);rw[dot_smul,zev _ _ _ l,B,(zgH _ _ n sp (fun e b=>(t e (by rw[d];exact b)).2)).2,<-d,sum4 _ _ om];have p:toV (List.replicate n 0)=V4.zero:=by
   have f:∀k,(List.replicate n (0:Int)).getD k 0=0:=fun k=>by
    rw[zk];cases h:(List.replicate n (0:Int))[k]? with
    |none=>rfl
    |some v=>
     have:=zx h;simp at this;simp[this.2]
   exact ext' (f 0) (f 1) (f 2) (f 3)
  have f:∀i,i<4->(c.edges[i]?.map fun e=>e.row.2*(eR c j).dot (toV e.loss)).getD 0=eM c i*(if j=i then 1 else 0):=by
   intro i a;cases b:c.edges[i]? with
   |some e=>rw[qY,qB,z i e b,y j i l a,zfi b]
   |none=>rw[zh1 (Ju.1 b)];simp
  rw[p,dot_zero,f 0 om,f 1 om,f 2 om,f 3 om];rcases lt4 l with rfl|rfl|rfl|rfl<;>simp<;>grind
 ·rw[d]at b;obtain⟨i,a,rfl⟩:=qP.1 b;have a:=Z8.1 a;rw[(zfv aims rg k m a).2.1,(zfv aims rg k m a).1];exact zlT om
 ·rw[d,zcA];refine zaq.2 fun a b o a a=>?_
  simp only[zaJ,Function.comp,List.getElem_range];unfold zct;split<;>split<;>simp<;>omega
end

section
open V4
variable {α:Type}
theorem zdw(f g:α->Int)(l:List α):(l.map fun e=>f e+g e).sum=(l.map f).sum+(l.map g).sum:=by
 induction l with
 |nil=>rfl
 |cons a l a=>simp only[Zk,QI,a];omega
theorem zcO(k:Int)(f:α->Int)(l:List α):(l.map fun e=>k*f e).sum=k*(l.map f).sum:=by
 induction l with
 |nil=>simp
 |cons a l a=>simp only[Zk,QI,a];rw[zbd]
theorem zbK{f g:α->Int}{l:List α}(h:∀e∈l,f e=g e):(l.map f).sum=(l.map g).sum:=by
 rw[zeb h]
theorem zjk{f:α->Int}{l:List α}(h:∀e∈l,0<=f e):0<=(l.map f).sum:=by
 induction l with
 |nil=>simp
 |cons a l b=>
  have d:=h a qA;have a:=b (fun e a=>h e (qq _ a));simp only[Zk,QI];omega
theorem zlU{f:α->Int}{l:List α}(h:∀e∈l,f e=0):(l.map f).sum=0:=by
 induction l with
 |nil=>rfl
 |cons a l b=>
  simp only[Zk,QI,h a qA,b (fun e a=>h e (qq _ a))];rfl
section

variable {n:Nat} {aims:L_} {c:Cor}
theorem Qy.point_sum (h:Qy n aims c)(g:V4):g.dot (toV c.point)=(c.edges.map fun e=>e.row.2*g.dot (toV e.loss)).sum:=by
 have b:=h.complete (x:=List.replicate n 0) sp g;have d:toV (List.replicate n 0)=V4.zero:=by
  have a:∀k,(List.replicate n (0:Int)).getD k 0=0:=fun k=>by
   rw[zk];cases hh:(List.replicate n (0:Int))[k]? with
   |none=>rfl
   |some v=>
    have:=zx hh;simp at this;simp[this.2]
  exact ext' (a 0) (a 1) (a 2) (a 3)
 rw[d,dot_zero,Int.mul_zero]at b;have a:(c.edges.map fun e=>(e.row.2-T.dotZ e.row.1 (List.replicate n 0))*g.dot (toV e.loss)).sum=(c.edges.map fun e=>e.row.2*g.dot (toV e.loss)).sum:=by
  refine zbK fun e f=>?_
  have:=(h.elen e f).1;have f:=h.n4;rw[QD (by simp[this]) so,d,dot_zero,Int.sub_zero]
 rw[a]at b;omega
theorem Qy.all (h:Qy n aims c)(g:V4){x:L_}(a:x.length=n):(c.over:Int)*g.dot (toV x)=(c.edges.map fun e=>T.dotZ e.row.1 x*g.dot (toV e.loss)).sum:=by
 rw[h.complete a g,h.point_sum g];have a:(c.edges.map fun e=>e.row.2*g.dot (toV e.loss)).sum=(c.edges.map fun e=>(e.row.2-T.dotZ e.row.1 x)*g.dot (toV e.loss)).sum+(c.edges.map fun e=>T.dotZ e.row.1 x*g.dot (toV e.loss)).sum:=by
  rw[<-zdw];refine zbK fun e _=>?_
  grind
 omega
end
def JQ (r o:L_×Int)(t:Int):L_×Int:=(List.zipWith (fun f w=>f+w*t) r.1 o.1,r.2+o.2*t)
def Qu (r:L_×Int)(d:Nat):L_×Int:=(r.1.map fun z=>z/(d:Int),r.2/(d:Int))
def zeV (l:L_):Nat:=l.foldl (fun d z=>Nat.gcd d z.natAbs) 0
def Zc (aims:L_)(over:Nat)(r:Nat)(e:Edg):Nat:=((qT aims e.loss).getD r 0%(over:Int)).toNat
def Qf (n:Nat)(aims:L_)(c:Cor)(r:Nat):L_×Int:=c.edges.foldl (fun acc e=>JQ acc e.row (Zc aims c.over r e:Int)) (List.replicate n 0,0)
def Zm (n:Nat)(aims:L_)(c:Cor)(r:Nat):Nat:=zeV (Qu (Qf n aims c r) c.over).1
def Zd (n:Nat)(aims:L_)(c:Cor)(r:Nat):L_×Int:=Qu (Qu (Qf n aims c r) c.over) (Zm n aims c r)
theorem zkC (t:Edg->Int):∀(es:List Edg) (a:L_×Int) (n:Nat),a.1.length=n->(∀e∈es,e.row.1.length=n)->(es.foldl (fun a e=>JQ a e.row (t e)) a).1.length=n/\
 (∀i,(es.foldl (fun a e=>JQ a e.row (t e)) a).1.getD i 0=a.1.getD i 0+(es.map fun e=>t e*e.row.1.getD i 0).sum)/\(es.foldl (fun a e=>JQ a e.row (t e)) a).2=a.2+(es.map fun e=>t e*e.row.2).sum
 |[],a,n,b,_=>⟨b,fun i=>sp,sp⟩
 |e::es,a,n,b,d=>by
  have f:=d e qA;have m:(JQ a e.row (t e)).1.length=n:=by simp[JQ,b,f]
  have⟨h,k,l⟩:=zkC t es (JQ a e.row (t e)) n m (fun x m=>d x (qq _ m));refine⟨h,fun i=>?_,?_⟩
  ·rw[zaZ,k i];have:(JQ a e.row (t e)).1.getD i 0=a.1.getD i 0+e.row.1.getD i 0*t e:=JE sp (by rw[b,f]) i;rw[this,Zk,QI,Qp (t e)];omega
  ·rw[zaZ,l,Zk,QI,Qp (t e)];show a.2+e.row.2*t e+_=_
   omega
theorem zfw:∀(l:L_) (d:Nat),(l.foldl (fun d z=>Nat.gcd d z.natAbs) d) ∣ d/\∀z∈l,(l.foldl (fun d z=>Nat.gcd d z.natAbs) d) ∣ z.natAbs
 |[],d=>⟨Nat.dvd_refl _,fun z h=>by simp at h⟩
 |a::l,d=>by
  have⟨h1,h2⟩:=zfw l (Nat.gcd d a.natAbs);rw[zaZ];refine⟨Nat.dvd_trans h1 (zdi _ _),fun z b=>?_⟩;rcases zI.1 b with rfl|b
  ·exact Nat.dvd_trans h1 (zcV _ _)
  ·exact h2 z b
theorem zlV (l:L_){z:Int}(h:z∈l):(zeV l:Int) ∣ z:=zeG.2 ((zfw l 0).2 z h)
theorem zqN {l:L_}{z:Int}(h:z∈l)(b:z≠0):0<zeV l:=by
 rcases Qd (zeV l)with a|a
 ·have:=zlV l h;rw[a]at this;exact absurd (Int.zero_dvd.1 (by simpa using this)) b
 ·exact a
structure zfP (n:Nat)(aims:L_)(c:Cor)(r:Nat):Prop where
 shared:0<Zm n aims c r
 len:(Zd n aims c r).1.length=n
 row:∀i,(((c.over*Zm n aims c r:Nat):Int))*(Zd n aims c r).1.getD i 0=(c.edges.map fun e=>(Zc aims c.over r e:Int)*e.row.1.getD i 0).sum
 most:(Zd n aims c r).2=(c.edges.map fun e=>(Zc aims c.over r e:Int)*e.row.2).sum/(((c.over*Zm n aims c r:Nat):Int))
 rest:(c.edges.map fun e=>(Zc aims c.over r e:Int)*e.row.2).sum%(c.over:Int)=rk aims (toV c.point) r%(c.over:Int)
 part:(rk aims (toV c.point) r)%(c.over:Int)≠0
theorem zdx {n:Nat}{aims:L_}{c:Cor}(h:Qy n aims c){r:Nat}(d:r<5){e:Edg}(b:e∈c.edges):((Zc aims c.over r e:Nat):Int)=rk aims (toV e.loss) r%(c.over:Int):=by
 unfold Zc;have a:=h.elen e b;have b:=h.n4;have b:=h.pos;rw[zbi (by rw[h.aim,a.2]) om r d];have:=J3 (rk aims (toV e.loss) r) (show(c.over:Int)≠0 by omega);omega
theorem zlW {α:Type}{f g:α->Int}{m:Int}{l:List α}(h:∀e∈l,f e%m=g e%m):(l.map f).sum%m=(l.map g).sum%m:=by
 induction l with
 |nil=>rfl
 |cons a l b=>
  simp only[Zk,QI];rw[Int.add_emod,h a qA,b (fun e a=>h e (qq _ a)),<-Int.add_emod]
theorem zfx {n:Nat}{aims:L_}{c:Cor}(h:Qy n aims c){r:Nat}(d:r<5)(t:rk aims (toV c.point) r%(c.over:Int)≠0):zfP n aims c r:=by
 have o:=h.n4;have a:=h.pos;have I:(c.over:Int)≠0:=om;have⟨b,k,m⟩:=zkC (fun e=>(Zc aims c.over r e:Int)) c.edges (List.replicate n 0,0) n sp (fun e a=>(h.elen e a).1);have f:(Qf n aims c r).1.length=n:=b;have b:∀i,(List.replicate n (0:Int)).getD i 0=0:=fun l=>by
  rw[zk];cases hh:(List.replicate n (0:Int))[l]? with
  |none=>rfl
  |some v=>
   have:=zx hh;simp at this;simp[this.2]
 have l:∀i,(Qf n aims c r).1.getD i 0=(c.edges.map fun e=>(Zc aims c.over r e:Int)*e.row.1.getD i 0).sum:=fun i=>by
  have:=k i;rw[show(List.replicate n (0:Int),(0:Int)).1=List.replicate n 0 from rfl,b,Int.zero_add]at this;exact this
 have w:(Qf n aims c r).2=(c.edges.map fun e=>(Zc aims c.over r e:Int)*e.row.2).sum:=by
  have:=m;rw[show(List.replicate n (0:Int),(0:Int)).2=0 from rfl,Int.zero_add]at this;exact this
 have p:∀i,(c.over:Int) ∣ (Qf n aims c r).1.getD i 0:=by
  intro i;by_cases q:i<n
  ·have m:=h.all (rkV aims r) (x:=T.unitRow n i) (QS _ _);have b:∀e∈c.edges,T.dotZ e.row.1 (T.unitRow n i)=e.row.1.getD i 0:=by
    intro e a;have:=(h.elen e a).1;rw[QD (by rw[this,QS]) (by rw[QS];exact o),zdp o q,zlS];have⟨k,s,y,z⟩:=zbJ (toV e.row.1);rcases lt4 (show i<4 by omega)with rfl|rfl|rfl|rfl
    ·exact k
    ·exact s
    ·exact y
    ·exact z
   apply zcT;rw[l i];have k:(c.edges.map fun e=>(Zc aims c.over r e:Int)*e.row.1.getD i 0).sum%c.over=(c.edges.map fun e=>T.dotZ e.row.1 (T.unitRow n i)*(rkV aims r).dot (toV e.loss)).sum%c.over:=by
    refine zlW fun e a=>?_
    rw[zdx h d a,b e a,Qp,Int.mul_emod,Int.emod_emod,<-Int.mul_emod];rfl
   rw[k,<-m];exact zcy _ _
  ·have:(Qf n aims c r).1.getD i 0=0:=by rw[zk,qL om];rfl
   rw[this];exact Int.dvd_zero _
 have m:(c.edges.map fun e=>(Zc aims c.over r e:Int)*e.row.2).sum%c.over=rk aims (toV c.point) r%c.over:=by
  have s:=h.point_sum (rkV aims r);have:rk aims (toV c.point) r=(c.edges.map fun e=>e.row.2*(rkV aims r).dot (toV e.loss)).sum:=s;rw[this];refine zlW fun e a=>?_
  rw[zdx h d a,Qp,Int.mul_emod,Int.emod_emod,<-Int.mul_emod];rfl
 have s:∀i,(Qu (Qf n aims c r) c.over).1.getD i 0*c.over=(Qf n aims c r).1.getD i 0:=by
  intro i;have:(Qu (Qf n aims c r) c.over).1.getD i 0=(Qf n aims c r).1.getD i 0/c.over:=by
   show((Qf n aims c r).1.map fun z=>z/(c.over:Int)).getD i 0=_
   rw[zk,zR,zk];cases (Qf n aims c r).1[i]?<;>simp
  rw[this];exact Int.ediv_mul_cancel (p i)
 have D:(Qu (Qf n aims c r) c.over).1.length=n:=by simp[Qu,f]
 have F:∃z∈(Qu (Qf n aims c r) c.over).1,z≠0:=by
  refine Ze fun f=>?_
  have y:∀i,(Qf n aims c r).1.getD i 0=0:=by
   intro i;rw[<-s i];rw[zk];cases hh:(Qu (Qf n aims c r) c.over).1[i]? with
   |none=>simp
   |some v=>
    have d:=Ze fun d=>f ⟨v,zx hh,d⟩
    simp[d]
  have J:∀e∈c.edges,(Zc aims c.over r e:Int)=0:=by
   intro f p;have⟨j,C,B⟩:=qM p;have d:c.edges[j]? =E f:=by rw[zg C,B]
   have B:=h.elen f p;have b:(c.edges.map fun e=>(Zc aims c.over r e:Int)*T.dotZ e.row.1 f.loss).sum=0:=by
    have k:∀e∈c.edges,(Zc aims c.over r e:Int)*T.dotZ e.row.1 f.loss=(((Zc aims c.over r e:Int)*e.row.1.getD 0 0*f.loss.getD 0 0+(Zc aims c.over r e:Int)*e.row.1.getD 1 0*f.loss.getD 1 0)+(Zc aims c.over r e:Int)*e.row.1.getD 2 0*f.loss.getD 2 0)+(Zc aims c.over r e:Int)*e.row.1.getD 3 0*f.loss.getD 3 0:=by
     intro e a;have:=(h.elen e a).1;rw[QD (by rw[this,B.2]) om];simp only[dot,toV];grind
    rw[zbK k,zdw,zdw,zdw];have k:∀i,(c.edges.map fun e=>(Zc aims c.over r e:Int)*e.row.1.getD i 0*f.loss.getD i 0).sum=0:=by
     intro i;have:(c.edges.map fun e=>(Zc aims c.over r e:Int)*e.row.1.getD i 0*f.loss.getD i 0).sum=f.loss.getD i 0*(c.edges.map fun e=>(Zc aims c.over r e:Int)*e.row.1.getD i 0).sum:=by
      rw[<-zcO];exact zbK fun e _=>Qp _ _
     rw[this,<-l i,y i];simp
    rw[k,k,k,k];rfl
   have p:(c.edges.map fun e=>(Zc aims c.over r e:Int)*T.dotZ e.row.1 f.loss).sum=(Zc aims c.over r f:Int)*c.over:=by
    rw[sum4 _ _ (by rw[h.len];exact o)];have k:∀i,i<4->((c.edges[i]?.map fun e=>(Zc aims c.over r e:Int)*T.dotZ e.row.1 f.loss).getD 0)=if i=j then(Zc aims c.over r f:Int)*c.over else 0:=by
     intro i q;by_cases f:i=j
     ·subst f;rw[d,zQ rfl,qY,qB,h.row_loss d d,zQ rfl]
     ·rw[zO f];cases a:c.edges[i]? with
      |none=>rfl
      |some e=>rw[qY,qB,h.row_loss a d,zO f];simp
    rw[k 0 om,k 1 om,k 2 om,k 3 om];rcases lt4 (h.lt d)with rfl|rfl|rfl|rfl<;>simp
   rw[p]at b;rcases Int.mul_eq_zero.1 b with e|e
   ·exact e
   ·exact absurd e I
  have:(c.edges.map fun e=>(Zc aims c.over r e:Int)*e.row.2).sum=0:=zlU fun e a=>by rw[J e a];simp
  rw[this]at m;exact t (by rw[<-m];simp)
 have⟨_,d,e⟩:=F;have a:0<Zm n aims c r:=zqN d e;refine⟨a,?_,fun i=>?_,?_,m,t⟩
 ·show((Qu (Qf n aims c r) c.over).1.map _).length=n
  rw[zm,D]
 ·have b:(Zd n aims c r).1.getD i 0*(Zm n aims c r:Int)=(Qu (Qf n aims c r) c.over).1.getD i 0:=by
   have:(Zd n aims c r).1.getD i 0=(Qu (Qf n aims c r) c.over).1.getD i 0/(Zm n aims c r:Int):=by
    show((Qu (Qf n aims c r) c.over).1.map fun z=>z/(Zm n aims c r:Int)).getD i 0=_
    rw[zk,zR,zk];cases (Qu (Qf n aims c r) c.over).1[i]?<;>simp
   rw[this];apply Int.ediv_mul_cancel;rw[zk];cases hh:(Qu (Qf n aims c r) c.over).1[i]? with
   |none=>exact Int.dvd_zero _
   |some v=>exact zlV _ (zx hh)
  rw[<-l i,<-s i,<-b,J0];grind
 ·show(Qu (Qf n aims c r) c.over).2/(Zm n aims c r:Int)=_
  rw[<-w,J0];exact Int.ediv_ediv_of_nonneg om
end

section
open V4
theorem zf6 {g x:L_}(h:g.length=x.length)(a:x.length<=4):T.dotZ g x=g.getD 0 0*x.getD 0 0+g.getD 1 0*x.getD 1 0+g.getD 2 0*x.getD 2 0+g.getD 3 0*x.getD 3 0:=QD h a
section

variable {n:Nat} {aims:L_} {c:Cor} {r:Nat}
theorem zj8 (h:Qy n aims c)(k:zfP n aims c r){x:L_}(a:x.length=n):(((c.over*Zm n aims c r:Nat):Int))*T.dotZ (Zd n aims c r).1 x=(c.edges.map fun e=>(Zc aims c.over r e:Int)*T.dotZ e.row.1 x).sum:=by
 have b:=h.n4;rw[zf6 (by rw[k.len,a]) om];have b:∀e∈c.edges,(Zc aims c.over r e:Int)*T.dotZ e.row.1 x=((x.getD 0 0*((Zc aims c.over r e:Int)*e.row.1.getD 0 0)+x.getD 1 0*((Zc aims c.over r e:Int)*e.row.1.getD 1 0))+x.getD 2 0*((Zc aims c.over r e:Int)*e.row.1.getD 2 0))+x.getD 3 0*((Zc aims c.over r e:Int)*e.row.1.getD 3 0):=by
  intro e d;have:=(h.elen e d).1;rw[zf6 (by rw[this,a]) om];grind
 rw[zbK b,zdw,zdw,zdw,zcO,zcO,zcO,zcO,<-k.row 0,<-k.row 1,<-k.row 2,<-k.row 3];grind
theorem cut_D (h:Qy n aims c)(k:zfP n aims c r):0<(((c.over*Zm n aims c r:Nat):Int)):=by
 have:=QE h.pos k.shared;omega
theorem zlX (h:Qy n aims c)(k:zfP n aims c r){j:Nat}{f:Edg}(a:c.edges[j]? =E f):(Zm n aims c r:Int)*T.dotZ (Zd n aims c r).1 f.loss=(Zc aims c.over r f:Int):=by
 have b:=h.n4;have d:=h.pos;have l:=zj8 h k (h.mem a).2;have m:(c.edges.map fun e=>(Zc aims c.over r e:Int)*T.dotZ e.row.1 f.loss).sum=(Zc aims c.over r f:Int)*c.over:=by
  rw[sum4 _ _ (by rw[h.len];exact b)];have b:∀i,i<4->((c.edges[i]?.map fun e=>(Zc aims c.over r e:Int)*T.dotZ e.row.1 f.loss).getD 0)=if i=j then(Zc aims c.over r f:Int)*c.over else 0:=by
   intro i d;by_cases d:i=j
   ·subst d;rw[a,zQ rfl,qY,qB,h.row_loss a a,zQ rfl]
   ·rw[zO d];cases he:c.edges[i]? with
    |none=>rfl
    |some e=>rw[qY,qB,h.row_loss he a,zO d];simp
  rw[b 0 om,b 1 om,b 2 om,b 3 om];rcases lt4 (h.lt a)with rfl|rfl|rfl|rfl<;>simp
 rw[m,J0]at l;apply QU (show(c.over:Int)≠0 by omega);rw[<-Int.mul_assoc,l,Qp]
theorem zqO (h:Qy n aims c)(k:zfP n aims c r):(Zm n aims c r:Int)*Z2 c (Zd n aims c r)=(((c.over*Zm n aims c r:Nat):Int))*(Zd n aims c r).2-(c.edges.map fun e=>(Zc aims c.over r e:Int)*e.row.2).sum:=by
 have a:=h.pos;have a:=zj8 h k h.plen;have b:(c.edges.map fun e=>(Zc aims c.over r e:Int)*T.dotZ e.row.1 c.point).sum=c.over*(c.edges.map fun e=>(Zc aims c.over r e:Int)*e.row.2).sum:=by
  rw[<-zcO];refine zbK fun e d=>?_
  have⟨j,l,f⟩:=qM d;rw[h.row_point (by rw[zg l,f])];grind
 rw[b]at a;apply QU (show(c.over:Int)≠0 by omega);unfold Z2;rw[J0]at a⊢;grind
theorem zjl (h:Qy n aims c)(k:zfP n aims c r):(Zm n aims c r:Int)*Z2 c (Zd n aims c r)<=-(rk aims (toV c.point) r%(c.over:Int)):=by
 have a:=h.pos;have a:=cut_D h k;rw[zqO h k,k.most];generalize a:(c.edges.map fun e=>(Zc aims c.over r e:Int)*e.row.2).sum=S;have b:=k.rest;rw[a]at b;have a:=jA S (((c.over*Zm n aims c r:Nat):Int));have a:(S%(((c.over*Zm n aims c r:Nat):Int)))%c.over=S%c.over:=Int.emod_emod_of_dvd _ (by rw[J0];exact Int.dvd_mul_right _ _);have a:(S%(((c.over*Zm n aims c r:Nat):Int)))%c.over<=S%(((c.over*Zm n aims c r:Nat):Int)):=by
  have a:=J3 S (show(((c.over*Zm n aims c r:Nat):Int))≠0 by omega);have b:=jA (S%(((c.over*Zm n aims c r:Nat):Int))) c.over;have b:0<=(S%(((c.over*Zm n aims c r:Nat):Int)))/c.over:=Int.ediv_nonneg a om;have a:=zbw (show 0<=(c.over:Int)by omega) b;omega
 omega
theorem zhu (h:Qy n aims c)(k:zfP n aims c r):Z2 c (Zd n aims c r)<0:=by
 have a:=h.pos;have a:=k.shared;have a:=zjl h k;have a:=J3 (rk aims (toV c.point) r) (show(c.over:Int)≠0 by omega);have a:=k.part;refine Ze fun a=>?_
 have a:=zbw (show 0<=(Zm n aims c r:Int)by omega) (show 0<=Z2 c (Zd n aims c r)by omega);omega
theorem zoJ (h:Qy n aims c)(k:zfP n aims c r){x:L_}(f:x.length=n)(d:∀e∈c.edges,T.dotZ e.row.1 x<=e.row.2):T.dotZ (Zd n aims c r).1 x<=(Zd n aims c r).2:=by
 have b:=cut_D h k;have a:=zj8 h k f;rw[k.most];apply(zbj b).2;rw[Qp,a];have:0<=(c.edges.map fun e=>(Zc aims c.over r e:Int)*e.row.2+(-1)*((Zc aims c.over r e:Int)*T.dotZ e.row.1 x)).sum:=by
  refine zjk fun e a=>?_
  have b:=ZI (d e a) (show 0<=(Zc aims c.over r e:Int)by omega);omega
 rw[zdw,zcO]at this;omega
theorem ziD (h:Qy n aims c)(k:zfP n aims c r):∃e∈c.edges,0<T.dotZ (Zd n aims c r).1 e.loss:=by
 refine Ze fun i=>?_
 have l:∀e∈c.edges,(Zc aims c.over r e:Int)=0:=by
  intro e a;have⟨j,d,b⟩:=qM a;have m:=zlX h k (by rw[zg d,b]);have b:=k.shared;have d:T.dotZ (Zd n aims c r).1 e.loss<=0:=by
   refine Ze fun b=>i ⟨e,a,om⟩
  have:=zae (show 0<=(Zm n aims c r:Int)by omega) d;omega
 have b:(c.edges.map fun e=>(Zc aims c.over r e:Int)*e.row.2).sum=0:=zlU fun e a=>by rw[l e a];simp
 have a:=k.rest;rw[b]at a;exact k.part (by rw[<-a];simp)
end
def zhv (aims:L_)(P:V4)(o:Nat)(r:Nat)(P':V4)(o':Nat):Prop:=
 (∃i,i<r/\(∀k,k<i->(o:Int)*rk aims P' k=(o':Int)*rk aims P k)/\(o:Int)*rk aims P' i<(o':Int)*rk aims P i)\/
 ((∀k,k<r->(o:Int)*rk aims P' k=(o':Int)*rk aims P k)/\rk aims P' r<=(o':Int)*(rk aims P r/(o:Int)))
theorem znJ {n:Nat}{aims:L_}{c c':Cor}{r num j:Nat}{o:Edg}(h:Qy n aims c)(L:r<5)(k:zfP n aims c r)(x:Exch n aims c (Zd n aims c r) num c' j o):zhv aims (toV c.point) c.over r (toV c'.point) c'.over:=by
 have Z:=h.pos;have a:∀i,c.over*rk aims (toV c'.point) i=c'.over*rk aims (toV c.point) i+Z2 c (Zd n aims c r)*rk aims (toV o.loss) i:=by
  intro i;rw[<-JH,x.point,zhh,JH,JH,x.over]
 have J:=zhu h k;have s:=zx x.at_;have⟨i,_,f,K⟩:=h.lex o s;by_cases p:i<r
 ·refine .inl ⟨i,p,fun q e=>?_,?_⟩;·rw[a q,f q e];simp
  ·rw[a i];have:=Int.mul_neg_of_neg_of_pos J K;omega
 ·refine .inr ⟨fun q e=>?_,?_⟩;·rw[a q,f q om];simp
  ·have N:=zdx h L s;have D:=zlX h k x.at_;have hs:=k.shared;have B:=zjl h k;have w:0<=rk aims (toV o.loss) r:=by
    rcases zeM (zdq p)with b|b
    ·rw[f r b];omega
    ·rw[b];omega
   have F:(Zc aims c.over r o:Int)<=rk aims (toV o.loss) r:=by
    rw[N];have U:=jA (rk aims (toV o.loss) r) c.over;have z:0<=rk aims _ r/c.over:=Int.ediv_nonneg w om;have W:=zbw (show 0<=(c.over:Int)by omega) z;omega
   have t:=x.over;generalize X:(Zm n aims c r:Int)=d at *;generalize a1:Z2 c (Zd n aims c r)=P at *;generalize a0:T.dotZ (Zd n aims c r).1 o.loss=pv at *;have C:0<d:=om;have y:=jA (rk aims (toV c.point) r) c.over;have I:=J3 (rk aims (toV c.point) r) (show(c.over:Int)≠0 by omega);have l:=a r;generalize hm:rk aims (toV c.point) r%c.over=m at *;generalize e:rk aims (toV c.point) r/c.over=q at *;generalize hy:rk aims (toV c'.point) r=S at *;generalize hu:rk aims (toV o.loss) r=u at *;rw[<-y,t]at l;rw[t];have s1:=Int.mul_le_mul_of_nonneg_right B w;have s2:m*(d*pv)<=m*u:=by rw[D];exact ZI F I
   have Q:d*(c.over*S)<=d*(c.over*(pv*q)):=by
    rw[l];grind
   have R:=zar Q C;exact zar R om
end

section
open V4
variable {a:R_}{aims:L_}{n:Nat}
structure Zy where
 over:Nat
 parts:List (Nat×Int)
abbrev qO:=(L_×Int)×Nat
def Qv (c:Cor)(rows:List qO):Option qO:=rows.find? fun r=>decide (Z2 c r.1<0)
abbrev SetR:=Cor ⊕ (Cor×qO) ⊕ Unit
theorem SetR.cs{P:SetR->Prop}(ok:∀c,P (.inl c))(no:∀c r,P (.inr (.inl (c,r))))(li:P (.inr (.inr ()))):∀o,P o
 |.inl c=>ok c
 |.inr (.inl (c,r))=>no c r
 |.inr (.inr ())=>li
def ZV (aims:L_)(rows:List qO):Nat->Cor->SetR
 |0,c=>match Qv c rows with
  |none=> .inl c
  |some r=>match Qe aims c r.1 r.2 with
   |none=> .inr (.inl (c,r))
   |some _=> .inr (.inr ())
 |f+1,c=>match Qv c rows with
  |none=> .inl c
  |some r=>match Qe aims c r.1 r.2 with
   |none=> .inr (.inl (c,r))
   |some c'=>ZV aims rows f c'
def qU (n:Nat)(aims:L_)(c:Cor):N_:=(List.range (n+1)).filter fun r=>decide ((qT aims c.point).getD r 0%(c.over:Int)≠0)
def Z1 (n:Nat)(aims:L_)(c:Cor)(num r:Nat):Cor:=(Qe aims c (Zd n aims c r) num).getD ⟨0,[],[]⟩
def zeN (aims:L_)(c d:Cor):Bool:=decide (0<Qx (qT aims (List.zipWith (fun a b=>a*(d.over:Int)-b*(c.over:Int)) c.point d.point)))
def jF (n:Nat)(aims:L_)(c:Cor)(num:Nat):N_->Option Nat->Option Nat
 |[],b=>b
 |r::rs,O=>jF n aims c num rs (E r)
 |r::rs,E b=>jF n aims c num rs (E (if zeN aims (Z1 n aims c num b) (Z1 n aims c num r)=true then r else b))
def QX (n:Nat)(aims:L_)(c:Cor)(r:Nat):Zy:=
 ⟨c.over*Zm n aims c r,(c.edges.map fun e=>(e.num,(Zc aims c.over r e:Int))).filter fun p=>decide (p.2≠0)⟩
def restsOn (c:Cor)(num:Nat):Bool:=c.edges.any fun e=>decide (e.num=num)
def jw (c:Cor)(given:Nat)(rows:List qO):List qO:=rows.filter fun r=>!(decide (given<r.2) && !restsOn c r.2)
abbrev SOut:=(Cor×List Zy) ⊕ (Cor×qO×List Zy) ⊕ Nat
theorem SOut.cs{P:SOut->Prop}(gr:∀c ls,P (.inl (c,ls)))(no:∀c r ls,P (.inr (.inl (c,r,ls))))(li:∀k,P (.inr (.inr k))):∀o,P o
 |.inl (c,ls)=>gr c ls
 |.inr (.inl (c,r,ls))=>no c r ls
 |.inr (.inr k)=>li k
def goS (n:Nat)(aims:L_)(given pivots:Nat):Nat->List qO->Cor->List Zy->SOut
 |0,rows,c,ls=>match ZV aims rows pivots c with
  |.inr (.inr _)=> .inr (.inr ls.length)
  |.inr (.inl (c,r))=> .inr (.inl (c,r,ls))
  |.inl c'=>match jF n aims c' (given+ls.length+1) (qU n aims c') Option.none with
   |Option.none=> .inl (c',ls)
   |some _=> .inr (.inr ls.length)
 |k+1,rows,c,ls=>match ZV aims rows pivots c with
  |.inr (.inr _)=> .inr (.inr ls.length)
  |.inr (.inl (c,r))=> .inr (.inl (c,r,ls))
  |.inl c'=>match jF n aims c' (given+ls.length+1) (qU n aims c') Option.none with
   |Option.none=> .inl (c',ls)
   |some r=>goS n aims given pivots k (jw c' given rows ++ [(Zd n aims c' r,given+ls.length+1)]) c' (ls ++ [QX n aims c' r])
def zez (led:R_)(r:qO):Prop:=1<=r.2/\led[r.2-1]? =E r.1
theorem zez.same{r s:qO}(h:zez a r)(k:zez a s)(e:r.2=s.2):r.1=s.1:=by
 have:=h.2;rw[e,k.2]at this;exact(Q8 this).symm
theorem zez.more{r:qO}(h:zez a r)(x:R_):zez (a++x) r:=⟨h.1,by rw[zS (jQ h.2)];exact h.2⟩
def zeO (n:Nat)(led:R_)(rows:List qO):Prop:=∀r∈rows,zez led r/\r.1.1.length=n
structure J4 (n:Nat)(aims:L_)(rows:List qO)(c:Cor):Prop where
 cor:Qy n aims c
 edge:∀e∈c.edges,(e.row,e.num)∈rows
def Cor.ge (aims:L_)(c d:Cor):Prop:=zaC (fun i=>(d.over:Int)*rk aims (toV c.point) i-(c.over:Int)*rk aims (toV d.point) i)
def Cor.gt (aims:L_)(c d:Cor):Prop:=JK (fun i=>(d.over:Int)*rk aims (toV c.point) i-(c.over:Int)*rk aims (toV d.point) i)
theorem Cor.ge_refl(aims:L_)(c:Cor):c.ge aims c:= .inl fun _ _=>Int.sub_self _
abbrev XB:=@Cor.ge_refl
theorem Cor.gt.ge{c d:Cor}(h:c.gt aims d):c.ge aims d:= .inr h
theorem Cor.ge_trans{c d e:Cor}(a:0<d.over)(h1:c.ge aims d)(h2:d.ge aims e):c.ge aims e:=by
 refine zaC.comb h1 h2 (p:=d.over) (q:=e.over) (r:=c.over) om om om (fun i _=>?_);grind
abbrev XC:=@Cor.ge_trans
theorem Cor.gt_trans{c d e:Cor}(a:0<d.over)(b:0<e.over)(h1:c.gt aims d)(h2:d.ge aims e):c.gt aims e:=by
 refine JK.comb h1 h2 (p:=d.over) (q:=e.over) (r:=c.over) om om om (fun i _=>?_);grind
theorem znK{c:Cor}{rows:List qO}(f:zeO n a rows)(h:J4 n aims rows c){r:qO}(l:zez a r)(b:Z2 c r.1<0):∀e∈c.edges,e.num≠r.2:=by
 intro e a k;have d:=(f _ (h.edge e a)).1;have f:e.row=r.1:=d.same l k;have⟨j,k,d⟩:=qM a;have a:=h.cor.row_point (by rw[zg k,d]);unfold Z2 at b;rw[<-f,a,Qp]at b;omega
theorem zrQ{c c':Cor}{r:L_×Int}{num j:Nat}{o:Edg}(h:Qy n aims c)(x:Exch n aims c r num c' j o)(a:Z2 c r<0):c.gt aims c':=by
 refine JK.comb (h.lex o (zx x.at_)) (.inl fun _ _=>rfl) (p:=1) (q:=- Z2 c r) (r:=0) om om om (fun i _=>?_);have:c.over*rk aims (toV c'.point) i=c'.over*rk aims (toV c.point) i+Z2 c r*rk aims (toV o.loss) i:=by
  rw[<-JH,x.point,zhh,JH,JH,x.over]
 grind
theorem zm5{c c':Cor}{rows:List qO}{r:qO}{j:Nat}{o:Edg}(h:J4 n aims rows c)(x:Exch n aims c r.1 r.2 c' j o)(f:r∈rows):J4 n aims rows c':=by
 refine⟨x.cor,fun e a=>?_⟩;have⟨i,d,b⟩:=qM a;have a:c'.edges[i]? =E e:=by rw[zg d,b]
 by_cases b:i=j
 ·subst b;rw[x.new]at a;cases a;exact f
 ·have e:i<c.edges.length:=by rw[h.cor.len,<-x.cor.len];exact d
  have d:=zg e;rw[x.old i _ b d]at a;cases a;exact h.edge c.edges[i] (zJ e)
theorem zdy{c:Cor}{rows:List qO}{f:R_}(b:zeO n f rows)(h:J4 n aims rows c){r:qO}(a:r∈rows)(d:Z2 c r.1<0):
 (Qe aims c r.1 r.2=O->∀e∈c.edges,T.dotZ r.1.1 e.loss<=0)/\∀c',Qe aims c r.1 r.2=E c'->J4 n aims rows c'/\c.gt aims c':=by
 have⟨f,i⟩:=zht h.cor (b r a).2 (znK b h (b r a).1 d);refine⟨f,fun c' b=>?_⟩;have⟨j,_,x⟩:=i c' b;exact⟨zm5 h x a,zrQ h.cor x d⟩
theorem zch{c:Cor}{rows:List qO}{r:qO}(h:Qv c rows=E r):r∈rows/\Z2 c r.1<0:=⟨List.mem_of_find?_eq_some h,by have:=List.find?_some h;simpa using this⟩
theorem zii{c:Cor}{rows:List qO}(h:Qv c rows=O):∀r∈rows,0<=Z2 c r.1:=fun r a=>by
 have:=zeP.1 h r a;simp at this;exact this
theorem zbL{rows:List qO}{k:R_}(i:zeO n k rows):∀(f:Nat) (c:Cor),J4 n aims rows c->
 (∀c',ZV aims rows f c= .inl c'->J4 n aims rows c'/\c.ge aims c'/\∀r∈rows,0<=Z2 c' r.1)/\
 (∀c' r,ZV aims rows f c= .inr (.inl (c',r))->J4 n aims rows c'/\c.ge aims c'/\r∈rows/\Z2 c' r.1<0/\∀e∈c'.edges,T.dotZ r.1.1 e.loss<=0)
 |0,c,h=>by
  rw[ZV];cases hb:Qv c rows with
  |none=>exact⟨fun c' a=>by cases a;exact⟨h,XB _ _,zii hb⟩,fun c' r a=>by cases a⟩
  |some r=>
   obtain⟨b,d⟩:=zch hb;cases hx:Qe aims c r.1 r.2 with
   |none=>exact⟨fun c' a=>by simp[hx]at a,fun c' k a=>by simp only[hx]at a;cases a;exact⟨h,XB _ _,b,d,(zdy i h b d).1 hx⟩⟩
   |some l=>exact⟨fun c' a=>by simp[hx]at a,fun c' k a=>by simp[hx]at a⟩
 |f+1,c,h=>by
  rw[ZV];cases hb:Qv c rows with
  |none=>exact⟨fun c' a=>by cases a;exact⟨h,XB _ _,zii hb⟩,fun c' r a=>by cases a⟩
  |some r=>
   obtain⟨b,d⟩:=zch hb;cases hx:Qe aims c r.1 r.2 with
   |none=>exact⟨fun c' a=>by simp[hx]at a,fun c' k a=>by simp only[hx]at a;cases a;exact⟨h,XB _ _,b,d,(zdy i h b d).1 hx⟩⟩
   |some l=>
    obtain⟨m,o⟩:=(zdy i h b d).2 l hx;obtain⟨p,q⟩:=zbL i f l m;simp only[hx];refine⟨fun c' a=>?_,fun c' k a=>?_⟩
    ·obtain⟨b,d,i⟩:=p c' a;exact⟨b,XC m.cor.pos o.ge d,i⟩
    ·obtain⟨b,d,i⟩:=q c' k a;exact⟨b,XC m.cor.pos o.ge d,i⟩
end

section
open V4
variable {a base:R_}{aims:L_}{b:List Zy}{c:Cor}{given n r:Nat}
def zdZ (n:Nat)(base:R_)(x:L_):Prop:=x.length=n/\∀r∈base,T.dotZ r.1 x<=r.2
structure LineOK (n:Nat)(led:R_)(l:Zy)(row:L_×Int):Prop where
 pos:0<l.over
 parts:∀p∈l.parts,0<p.2/\∃r,zez led (r,p.1)
 len:row.1.length=n
 coef:∀i,(l.over:Int)*row.1.getD i 0=(l.parts.map fun p=>p.2*(led.getD (p.1-1) ([],0)).1.getD i 0).sum
 most:row.2=(l.parts.map fun p=>p.2*(led.getD (p.1-1) ([],0)).2).sum/(l.over:Int)
structure zcl (n:Nat)(aims:L_)(base:R_)(rows:List qO)(c:Cor)(ls:List Zy)(led:R_):Prop where
 len:led.length=base.length+ls.length
 first:led.take base.length=base
 width:∀r∈led,r.1.length=n
 rowsOK:zeO n led rows
 given:∀i r,base[i]? =E r->(r,i+1)∈rows
 cor:J4 n aims rows c
 valid:∀x,zdZ n base x->∀r∈led,T.dotZ r.1 x<=r.2
 lines:∀i l,ls[i]? =E l->∃row,led[base.length+i]? =E row/\LineOK n (led.take (base.length+i)) l row
theorem zoK{r:qO}(h:zez a r):a.getD (r.2-1) ([],0)=r.1:=by
 rw[zk,h.2];rfl
theorem zgI(f:Nat×Int->Int)(a:∀p,p.2=0->f p=0):∀l:List (Nat×Int),((l.filter fun p=>decide (p.2≠0)).map f).sum=(l.map f).sum
 |[]=>rfl
 |p::l=>by
  rw[Qz];by_cases h:p.2=0
  ·simp only[h,ne_eq,not_true_eq_false,decide_false,za3,zaK];rw[zgI f a l,Zk,QI,a p h,Int.zero_add]
  ·simp only[h,ne_eq,not_false_eq_true,decide_true,zbu];rw[Zk,QI,zgI f a l,Zk,QI]
theorem zqP{rows:List qO}(d:zeO n a rows)(h:J4 n aims rows c)(b:r<5)(k:zfP n aims c r):LineOK n a (QX n aims c r) (Zd n aims c r):=by
 have i:∀e∈c.edges,a.getD _ ([],0)=e.row:=fun e b=>zoK (d _ (h.edge e b)).1
 have f:∀(g:L_×Int->Int),((QX n aims c r).parts.map fun p=>p.2*g (a.getD (p.1-1) ([],0))).sum=(c.edges.map fun e=>(Zc aims c.over r e:Int)*g e.row).sum:=by
  intro g;unfold QX;simp only;rw[zgI _ (fun p a=>by rw[a];simp),zcA];refine zbK fun e b=>?_
  simp only[Function.comp];rw[i e b]
 refine⟨QE h.cor.pos k.shared,fun p a=>?_,k.len,fun i=>?_,?_⟩
 ·unfold QX at a;simp only at a;rw[ZF]at a;have⟨l,m⟩:=a;obtain⟨e,b,rfl⟩:=qP.1 l;simp only[ne_eq,Z9]at m;simp only;exact⟨om,e.row,(d _ (h.edge e b)).1⟩
 ·rw[f (fun r=>r.1.getD i 0)];exact k.row i
 ·rw[f (fun r=>r.2)];exact k.most
theorem zkD{rows:List qO}{r:qO}(h:r∈jw c given rows):r∈rows:=(ZF.1 h).1
theorem znL{rows:List qO}{e:Edg}(a:e∈c.edges)(h:(e.row,e.num)∈rows):(e.row,e.num)∈jw c given rows:=by
 refine ZF.2 ⟨h,?_⟩;have:restsOn c e.num=true:=QR.2 ⟨e,a,sp⟩;simp[this]
theorem zmG{rows:List qO}{r:qO}(h:r∈rows)(hg:r.2<=given):r∈jw c given rows:=by
 refine ZF.2 ⟨h,?_⟩;simp;omega
theorem zcl.cut{rows:List qO}{b:Cor}{l:List Zy}(h:zcl n aims base rows b l a)(e:J4 n aims rows c)(q:r<5)(k:zfP n aims c r):
 zcl n aims base (jw c base.length rows ++ [(Zd n aims c r,base.length+l.length+1)]) c (l ++ [QX n aims c r]) (a ++ [Zd n aims c r]):=by
 have p:=h.len;refine⟨by simp[p];omega,?_,?_,?_,?_,⟨e.cor,fun m o=>QN _ (znL o (e.edge m o))⟩,?_,?_⟩
 ·rw[Qq om];exact h.first
 ·intro x a;rcases zU.1 a with a|a
  ·exact h.width x a
  ·rw[qg.1 a];exact k.len
 ·intro x a;rcases zU.1 a with a|a
  ·have⟨d,b⟩:=h.rowsOK x (zkD a);exact⟨d.more _,b⟩
  ·rw[qg.1 a];refine⟨⟨sp,?_⟩,k.len⟩;rw[zG so];simp[p]
 ·intro i x b;refine QN _ (zmG (h.given i x b) ?_);have:=jQ b;simp only;omega
 ·intro x a y f;rcases zU.1 f with f|f
  ·exact h.valid x a y f
  ·rw[qg.1 f];refine zoJ e.cor k a.1 (fun m o=>?_);have d:=(h.rowsOK _ (e.edge m o)).1;exact h.valid x a m.row (zx d.2)
 ·intro i f b;by_cases a:i<l.length
  ·rw[zS a]at b;have⟨row,a,m⟩:=h.lines i f b;refine⟨row,by rw[zS om];exact a,?_⟩;rw[Qq om];exact m
  ·have d:=jQ b;simp at d;have a:i=l.length:=om;subst a;rw[zG (zh _)]at b;simp at b;subst b;refine⟨Zd n aims c r,by rw[<-p,zG (zh _)];simp,?_⟩;rw[<-p,Qq (zh _),Zx];exact zqP h.rowsOK e q k
theorem zcl.to{rows:List qO}{c':Cor}(h:zcl n aims base rows c b a)(d:J4 n aims rows c'):zcl n aims base rows c' b a:=
 ⟨h.len,h.first,h.width,h.rowsOK,h.given,d,h.valid,h.lines⟩
theorem zdr{num:Nat}:∀(rs:N_) (b:Option Nat) (r:Nat),jF n aims c num rs b=E r->r∈rs\/b=E r
 |[],b,r,h=> .inr h
 |x::rs,O,r,h=>by
  rcases zdr rs (E x) r h with h|h
  ·exact .inl (qq _ h)
  ·cases h;exact .inl qA
 |x::rs,E b,r,h=>by
  rcases zdr rs _ r h with h|h
  ·exact .inl (qq _ h)
  ·split at h
   ·cases h;exact .inl qA
   ·exact .inr h
theorem zfQ{num:Nat}:∀(rs:N_) (b:Option Nat),jF n aims c num rs b=O->rs= []/\b=O
 |[],b,h=>⟨rfl,h⟩
 |x::rs,O,h=>by have:=(zfQ rs (E x) h).2;cases this
 |x::rs,E b,h=>by have:=(zfQ rs _ h).2;cases this
theorem za4(h:Qy n aims c):r∈qU n aims c↔r<n+1/\rk aims (toV c.point) r%(c.over:Int)≠0:=by
 unfold qU;rw[ZF,Z8];have d:=h.n4;constructor
 ·rintro⟨b,a⟩;rw[zbi (by rw[h.aim,h.plen]) (by rw[h.plen];exact d) r om]at a;exact⟨b,by simpa using a⟩
 ·rintro⟨b,a⟩;rw[zbi (by rw[h.aim,h.plen]) (by rw[h.plen];exact d) r om];exact⟨b,by simpa using a⟩
def OutOK (n:Nat)(aims:L_)(base:R_):SOut->Prop
 |.inl (c,ls)=>∃rows led,zcl n aims base rows c ls led/\(∀r∈rows,0<=Z2 c r.1)/\qU n aims c= []
 |.inr (.inl (c,r,ls))=>∃rows led,zcl n aims base rows c ls led/\r∈rows/\Z2 c r.1<0/\∀e∈c.edges,T.dotZ r.1.1 e.loss<=0
 |.inr (.inr _)=>True
theorem go_ok{pivots:Nat}:∀(k:Nat) (rows:List qO) (c:Cor) (ls:List Zy) (led:R_),zcl n aims base rows c ls led->OutOK n aims base (goS n aims base.length pivots k rows c ls)
 |0,rows,c,ls,led,h=>by
  rw[goS];obtain⟨s1,s2⟩:=zbL h.rowsOK pivots c h.cor;cases hs:ZV aims rows pivots c using SetR.cs with
  |li=>trivial
  |no c' r=>
   obtain⟨a1,a2,a3,a4,a5⟩:=s2 c' r hs;exact⟨rows,led,h.to a1,a3,a4,a5⟩
  |ok c'=>
   obtain⟨a1,a2,a3⟩:=s1 c' hs;simp only;cases hd:jF n aims c' (base.length+ls.length+1) (qU n aims c') Option.none with
   |none=>exact⟨rows,led,h.to a1,a3,(zfQ _ _ hd).1⟩
   |some r=>trivial
 |k+1,rows,c,ls,led,h=>by
  rw[goS];obtain⟨s1,s2⟩:=zbL h.rowsOK pivots c h.cor;cases hs:ZV aims rows pivots c using SetR.cs with
  |li=>trivial
  |no c' r=>
   obtain⟨a1,a2,a3,a4,a5⟩:=s2 c' r hs;exact⟨rows,led,h.to a1,a3,a4,a5⟩
  |ok c'=>
   obtain⟨a1,a2,a3⟩:=s1 c' hs;simp only;cases hd:jF n aims c' (base.length+ls.length+1) (qU n aims c') Option.none with
   |none=>exact⟨rows,led,h.to a1,a3,(zfQ _ _ hd).1⟩
   |some r=>
    have n4:=a1.cor.n4;have hm:r∈qU n aims c':=by
     rcases zdr _ _ _ hd with hm|hm
     ·exact hm
     ·cases hm
    obtain⟨m1,m2⟩:=(za4 a1.cor).1 hm;exact go_ok k _ _ _ _ (h.cut a1 (by omega) (zfx a1.cor (by omega) m2))
theorem zcl.ahead{rows:List qO}{d:List Zy}{b:R_}(h:zcl n aims base rows c d b){x:L_}(a:zdZ n base x):zaC (fun i=>rk aims (toV c.point) i-(c.over:Int)*rk aims (toV x) i):=by
 have k:=h.cor.cor;have l:∀i,rk aims (toV c.point) i-c.over*rk aims (toV x) i=(c.edges.map fun e=>(e.row.2-T.dotZ e.row.1 x)*rk aims (toV e.loss) i).sum:=by
  intro i;have:=k.complete a.1 (rkV aims i);show(rkV aims i).dot (toV c.point)-c.over*(rkV aims i).dot (toV x)=(c.edges.map fun e=>(e.row.2-T.dotZ e.row.1 x)*(rkV aims i).dot (toV e.loss)).sum
  omega
 have d:∀e∈c.edges,0<=e.row.2-T.dotZ e.row.1 x:=fun e b=>by
  have f:=(h.rowsOK _ (h.cor.edge e b)).1;have:=h.valid x a e.row (zx f.2);omega
 have b:=k.lex;refine zaC.congr ?_ (fun i _=>(l i).symm);revert d b
 generalize c.edges=k;intro d b;induction k with
 |nil=>exact .inl fun i _=>rfl
 |cons e k k=>
  have f:=k (fun x a=>d x (qq _ a)) (fun x a=>b x (qq _ a));refine zaC.comb (b e qA).n f (p:=1) (r:=1) om (d e qA) om (fun i _=>?_);simp only[Zk,QI];grind
def JZ (c:Cor):L_:=c.point.map fun z=>z/(c.over:Int)
theorem zmH(h:Qy n aims c)(hs:qU n aims c= []):(JZ c).length=n/\(toV (JZ c)).smul (c.over:Int)=toV c.point:=by
 have e:=h.n4;refine⟨by simp[JZ,h.plen],?_⟩;have d:∀i,(c.over:Int) ∣ c.point.getD i 0:=by
  intro i;by_cases a:i<n
  ·have a:rk aims (toV c.point) (i+1)%c.over=0:=by
    refine Ze fun b=>?_
    have:=(za4 h).2 ⟨om,b⟩;rw[hs]at this;simp at this
   rw[<-zbi (by rw[h.aim,h.plen]) (by rw[h.plen];exact e) (i+1) om]at a;have e:(qT aims c.point).getD (i+1) 0=(List.zipWith _ aims c.point).getD i 0:=rfl;rw[e,JE sp (by rw[h.aim,h.plen])]at a;split at a
   ·exact Int.dvd_neg.1 (zcT a)
   ·exact zcT a
  ·have:c.point.getD i 0=0:=by rw[zk,qL (by rw[h.plen];omega)];rfl
   rw[this];exact Int.dvd_zero _
 have a:∀i,c.over*(JZ c).getD i 0=c.point.getD i 0:=by
  intro i;have:(JZ c).getD i 0=c.point.getD i 0/c.over:=by
   unfold JZ;rw[zk,zR,zk];cases c.point[i]?<;>simp
  rw[this];exact Int.mul_ediv_cancel' (d i)
 exact ext' (a 0) (a 1) (a 2) (a 3)
theorem zj9{rows:List qO}(h:zcl n aims base rows c b a)(k:∀r∈rows,0<=Z2 c r.1)(hs:qU n aims c= []):
 zdZ n base (JZ c)/\∀x,zdZ n base x->zaC (fun i=>rk aims (toV (JZ c)) i-rk aims (toV x) i):=by
 have a:=h.cor.cor;have b:=a.pos;have e:=a.n4;have⟨w1,f⟩:=zmH a hs;refine⟨⟨w1,fun r l=>?_⟩,fun x m=>?_⟩
 ·have⟨i,d,b⟩:=qM l;have hm:=h.given i r (by rw[zg d,b]);have b:=k _ hm;have d:=(h.rowsOK _ hm).2;simp only at b d;unfold Z2 at b;rw[QD (by rw[d,a.plen]) (by rw[a.plen];exact e),<-f,dot_smul,Qp,<-Int.mul_sub]at b;rw[QD (by rw[d,w1]) (by rw[w1];exact e)];have a:0<=r.2-(toV r.1).dot (toV (JZ c)):=by
   refine Ze fun a=>?_
   have:=Int.mul_neg_of_pos_of_neg (show 0<(c.over:Int)by omega) (show r.2-(toV r.1).dot (toV (JZ c))<0 by omega);omega
  omega
 ·refine(h.ahead m).comb (p:=c.over) (q:=1) (r:=0) (.inl fun _ _=>rfl) om om om (fun i _=>?_);rw[<-f,JH];grind
theorem znM{rows:List qO}{c:Cor}(h:zcl n aims base rows c b a){r:qO}(d:r∈rows)(l:Z2 c r.1<0)(hg:∀e∈c.edges,T.dotZ r.1.1 e.loss<=0):∀x,¬zdZ n base x:=by
 intro x b;have a:=h.cor.cor;have f:=a.pos;have i:=a.n4;have f:=(h.rowsOK _ d).2;have m:=h.valid x b r.1 (zx (h.rowsOK _ d).1.2);have d:=a.complete b.1 (toV r.1.1);rw[<-QD (by rw[f,b.1]) (by rw[b.1];exact i),<-QD (by rw[f,a.plen]) (by rw[a.plen];exact i)]at d;have d:(c.edges.map fun e=>(e.row.2-T.dotZ e.row.1 x)*(toV r.1.1).dot (toV e.loss)).sum<=0:=by
  have:0<=(c.edges.map fun e=>(-1)*((e.row.2-T.dotZ e.row.1 x)*(toV r.1.1).dot (toV e.loss))).sum:=by
   refine zjk fun e d=>?_
   have k:=(h.rowsOK _ (h.cor.edge e d)).1;have o:=h.valid x b e.row (zx k.2);have b:=hg e d;have k:=(a.elen e d).2;rw[QD (by rw[f,k]) (by rw[k];exact i)]at b;have:=zae (show 0<=e.row.2-T.dotZ e.row.1 x by omega) b;omega
  rw[zcO]at this;omega
 unfold Z2 at l;have:=ZI m (show 0<=(c.over:Int)by omega);rw[Qp]at l;omega
end

section
open V4
variable {a:R_}{aims:L_}{c:Cor}{n:Nat}{r:L_×Int}
theorem zfy{α:Type}[DecidableEq α]:∀(l L:List α),l.Nodup->(∀x∈l,x∈L)->l.length<=L.length
 |[],_,_,_=>sp
 |a::l,L,d,hs=>by
  have b:=hs a qA;have h:=zfy l (L.erase a) (List.nodup_cons.1 d).2 (fun x e=>by
   have i:x≠a:=fun f=>(List.nodup_cons.1 d).1 (by rw[<-f];exact e)
   exact(List.mem_erase_of_ne i).2 (hs x (qq _ e)))
  rw[List.length_erase_of_mem b]at h;have:0<L.length:=List.length_pos_of_mem b;simp only[qi];omega
def zdf:N_->Nat->List (N_)
 |[],_=> [[]]
 |_::_,0=> [[]]
 |a::l,k+1=>zdf l (k+1)++(zdf l k).map (fun s=>a::s)
def zcm:Nat->Nat->Nat
 |0,_=>1
 |_+1,0=>1
 |m+1,k+1=>zcm m (k+1)+zcm m k
theorem ziE:∀(l:N_) (k:Nat),(zdf l k).length=zcm l.length k
 |[],k=>by simp[zdf,zcm]
 |a::l,0=>by simp[zdf,zcm]
 |a::l,k+1=>by simp[zdf,zcm,ziE l (k+1),ziE l k]
theorem ziF:∀(l:N_) (k:Nat) (s:N_),s.Sublist l->s.length<=k->s∈zdf l k
 |[],k,s,h,_=>by
  have:s= []:=List.sublist_nil.1 h;simp[zdf,this]
 |a::l,0,s,h,hk=>by
  have:s= []:=Qk.1 om;simp[zdf,this]
 |a::l,k+1,s,h,hk=>by
  rw[zdf,zU];cases h with
  |cons _ h=>exact .inl (ziF l (k+1) s h hk)
  |cons_cons _ h=>
   rename_i s'
   exact .inr (qP.2 ⟨s',ziF l k s' h (by simp at hk;omega),rfl⟩)
theorem zqQ:∀(m k:Nat),zcm m k<=zcm (m+1) k
 |0,0=>by simp[zcm]
 |0,k+1=>by simp[zcm]
 |m+1,0=>by simp[zcm]
 |m+1,k+1=>by
  rw[zcm,zcm];exact Nat.le_add_right _ _
theorem cnt_le{m M k:Nat}(h:m<=M):zcm m k<=zcm M k:=by
 induction h with
 |refl=>exact zh _
 |step _ a=>exact zF a (zqQ _ _)
abbrev Par (r h:L_×Int):Prop:=r=h\/r=(h.1.map (fun z=>-z),-h.2)
def idxS (H:R_)(r:L_×Int):Nat:=H.findIdx fun h=>decide (Par r h)
def zh3 (H:R_)(c:Cor):N_:=(List.range H.length).filter fun i=>c.edges.any fun e=>decide (idxS H e.row=i)
theorem zlY{a:R_}(h:∃x∈a,Par r x):∃x,a[idxS a r]? =E x/\Par r x:=by
 have⟨x,e,d⟩:=h;have b:idxS a r<a.length:=List.findIdx_lt_length_of_exists ⟨x,e,by simpa using d⟩;refine⟨a[idxS a r],zg b,?_⟩;have:=List.findIdx_getElem (w:=b);exact jU this
theorem zqR{h:L_×Int}{P:L_}{o:Int}(d:Par r h)(a:r.1.length=P.length)(b:P.length<=4)(e:T.dotZ r.1 P=o*r.2):T.dotZ h.1 P=o*h.2:=by
 rcases d with rfl|rfl
 ·exact e
 ·simp only[zm]at a;simp only at e;rw[QD (by simpa using a) b,zgl,smul_dot,<-QD a b]at e;have:o * -h.2=-(o*h.2):=zbc _ _;omega
theorem zqS{h:L_×Int}{P:L_}{o:Int}(d:Par r h)(a:r.1.length=P.length)(b:P.length<=4)(e:T.dotZ h.1 P=o*h.2):T.dotZ r.1 P=o*r.2:=by
 rcases d with rfl|rfl
 ·exact e
 ·simp only[zm]at a;simp only;rw[QD (by simpa using a) b,zgl,smul_dot,<-QD a b,e];have:o * -h.2=-(o*h.2):=zbc _ _;omega
theorem znN{rows:List qO}{a:R_}(q:∀r∈rows,∃h∈a,Par r.1 h){d:Cor}(b:J4 n aims rows c)(k:J4 n aims rows d)(e:zh3 a c=zh3 a d):¬c.gt aims d:=by
 have f:=b.cor.n4;have t:∀f∈c.edges,T.dotZ f.row.1 d.point=d.over*f.row.2:=by
  intro f l;have⟨_,p,o⟩:=zlY (q _ (b.edge f l));have hm:idxS a f.row∈zh3 a c:=ZF.2 ⟨Z8.2 (jQ p),QR.2 ⟨f,l,sp⟩⟩;rw[e]at hm;have⟨g,i,m⟩:=QR.1 (ZF.1 hm).2;have m:idxS a g.row=idxS a f.row:=by simpa using m
  have⟨_,a,s⟩:=zlY (q _ (k.edge g i));simp only at p a;rw[m,p]at a;cases a;have⟨j,p,m⟩:=qM i;have a:=k.cor.row_point (by rw[zg p,m]);have m:=(k.cor.elen g i).1;have p:=(b.cor.elen f l).1;have i:=k.cor.plen;exact zqS o (p.trans i.symm) om (zqR s (m.trans i.symm) om a)
 have m:∀i,c.over*rk aims (toV d.point) i=d.over*rk aims (toV c.point) i:=by
  intro i;have a:=b.cor.all (rkV aims i) k.cor.plen;have k:=b.cor.point_sum (rkV aims i);have b:(c.edges.map fun e=>T.dotZ e.row.1 d.point*(rkV aims i).dot (toV e.loss)).sum=d.over*(c.edges.map fun e=>e.row.2*(rkV aims i).dot (toV e.loss)).sum:=by
   rw[<-zcO];refine zbK fun f l=>?_
   rw[t f l,Int.mul_assoc]
  rw[b,<-k]at a;exact a
 rintro⟨k,_,_,o⟩;have:=m k;have a:0<d.over*rk aims _ k-c.over*rk aims _ k:=o;omega
theorem zqT{rows:List qO}(a:R_)(b:J4 n aims rows c):zh3 a c∈zdf (List.range a.length) 4:=by
 refine ziF _ _ _ zaM ?_;have d:(zh3 a c).length<=(c.edges.map fun e=>idxS a e.row).length:=zfy _ _ (zbD zaM List.nodup_range) (fun x f=>by
  have⟨g,a,e⟩:=QR.1 (ZF.1 f).2;exact qP.2 ⟨g,a,by simpa using e⟩)
 have a:=b.cor.len;have a:=b.cor.n4;simp at d;omega
theorem zqU{rows:List qO}{a:R_}(f:∀r∈rows,∃h∈a,Par r.1 h)(p:a.length<=19)(l:List Cor)(b:∀c∈l,J4 n aims rows c)(m:l.Pairwise (Cor.gt aims)):l.length<=5036:=by
 have q:(l.map (zh3 a)).Nodup:=by
  apply List.pairwise_map.2;refine List.Pairwise.imp_of_mem (fun {d e} i k o=>?_) m;exact fun m=>znN f (b d i) (b e k) m o
 have d:=zfy _ (zdf (List.range a.length) 4) q (fun x f=>by
  obtain⟨c,e,rfl⟩:=qP.1 f;exact zqT a (b c e))
 rw[ziE,zah,zm]at d;have b:zcm a.length 4<=zcm 19 4:=cnt_le p;have a:zcm 19 4=5036:=dc;omega
theorem zhw{rows:List qO}(m:zeO n a rows):∀(f:Nat) (c:Cor),J4 n aims rows c->ZV aims rows f c= .inr (.inr ())->∃l:List Cor,l.length=f+1/\(∀d∈l,J4 n aims rows d)/\(c::l).Pairwise (Cor.gt aims)
 |0,c,h,hs=>by
  rw[ZV]at hs;cases hb:Qv c rows with
  |none=>simp[hb]at hs
  |some r=>
   have⟨i,k⟩:=zch hb;simp only[hb]at hs;cases a:Qe aims c r.1 r.2 with
   |none=>simp[a]at hs
   |some d=>
    have⟨b,e⟩:=(zdy m h i k).2 d a;exact⟨[d],rfl,fun x a=>by rw[qg.1 a];exact b,by simpa using e⟩
 |f+1,c,h,hs=>by
  rw[ZV]at hs;cases hb:Qv c rows with
  |none=>simp[hb]at hs
  |some r=>
   have⟨i,k⟩:=zch hb;simp only[hb]at hs;cases a:Qe aims c r.1 r.2 with
   |none=>simp[a]at hs
   |some d=>
    simp only[a]at hs;have⟨b,e⟩:=(zdy m h i k).2 d a;have⟨l,o,i,k⟩:=zhw m f d b hs;refine⟨d::l,by simp[o],fun x a=>?_,List.pairwise_cons.2 ⟨fun x a=>?_,k⟩⟩
    ·rcases zI.1 a with rfl|a
     ·exact b
     ·exact i x a
    ·rcases zI.1 a with rfl|a
     ·exact e
     ·exact Cor.gt_trans b.cor.pos (i x a).cor.pos e ((List.pairwise_cons.1 k).1 x a).ge
theorem zfR{rows:List qO}{q:R_}{b:R_}(k:zeO n q rows)(d:∀r∈rows,∃h∈b,Par r.1 h)(i:b.length<=19){f:Nat}(s:10000<=f)(h:J4 n aims rows c):ZV aims rows f c≠ .inr (.inr ()):=by
 intro l;have⟨m,_,o,p⟩:=zhw k f c h l;have:=zqU d i (c::m) (fun x a=>by
  rcases zI.1 a with e|a
  ·exact e▸h
  ·exact o x a) p
 simp at this;omega
structure SCnt (n:Nat)(base:R_)(H:R_)(rows:List qO):Prop where
 nodup:(rows.map fun r=>r.2).Nodup
 planes:∀r∈rows,r.2<=base.length->∃h∈H,Par r.1 h
 cuts:(rows.filter fun r=>decide (base.length<r.2)).length<=n+1
theorem SCnt.all{base:R_}{rows:List qO}(h:SCnt n base a rows)(e:n<=4)(d:a.length<=14):∃b:R_,b.length<=19/\∀r∈rows,∃x∈b,Par r.1 x:=by
 refine⟨a++(rows.filter fun r=>decide (base.length<r.2)).map (fun r=>r.1),by have:=h.cuts;simp only[zM,zm];omega,fun r a=>?_⟩;by_cases b:r.2<=base.length
 ·have⟨x,e,d⟩:=h.planes r a b;exact⟨x,QN _ e,d⟩
 ·exact⟨r.1,J5 _ (qP.2 ⟨r,ZF.2 ⟨a,so⟩,rfl⟩),.inl rfl⟩
theorem SCnt.cut{base:R_}{rows:List qO}(h:SCnt n base a rows)(i:Qy n aims c){num:Nat}(row:L_×Int)(f:∀r∈rows,r.2<num)(hg:base.length<num):SCnt n base a (jw c base.length rows ++ [(row,num)]):=by
 have d:(jw c base.length rows).Sublist rows:=zaM;refine⟨?_,fun r a b=>?_,?_⟩
 ·rw[Z6];refine List.nodup_append.2 ⟨zbD (d.map _) h.nodup,sp,?_⟩;intro e e k b;obtain⟨r,a,rfl⟩:=qP.1 e;have:=f r (d.mem a);simp at b;omega
 ·rcases zU.1 a with a|a
  ·exact h.planes r (d.mem a) b
  ·rw[qg.1 a]at b;simp only at b;omega
 ·rw[je,zM];have b:((jw c base.length rows).filter fun r=>decide (base.length<r.2)).length<=n:=by
   have f:(((jw c base.length rows).filter fun r=>decide (base.length<r.2)).map fun r=>r.2).length<=(c.edges.map fun e=>e.num).length:=by
    refine zfy _ _ (zbD ((zaM.trans d).map _) h.nodup) (fun x b=>?_);obtain⟨r,a,rfl⟩:=qP.1 b;have⟨d,b⟩:=ZF.1 a;have⟨_,a⟩:=ZF.1 d;have b:base.length<r.2:=by simpa using b
    have d:restsOn c r.2=true:=by
     simp[b]at a;exact a
    have⟨e,a,b⟩:=QR.1 d;exact qP.2 ⟨e,a,by simpa using b⟩
   rw[zm,zm,i.len]at f;exact f
  have a:(([(row,num)]:List qO).filter fun r=>decide (base.length<r.2)).length<=1:=zF (jB _ _) sp;omega
end

section
open V4
variable {L:Nat->Int}{a x y:Int}
def zcu (mn:Nat->Int)(wd:Nat->Int)(L:Nat->Int):Int:=((((L 0-mn 0)*wd 1+(L 1-mn 1))*wd 2+(L 2-mn 2))*wd 3+(L 3-mn 3))*wd 4+(L 4-mn 4)
theorem zbE{b w:Int}(d:a<b)(f:x<=w-1)(h:0<=y)(e:1<=w):a*w+x<b*w+y:=by
 have h:=Int.mul_le_mul_of_nonneg_right (show a+1<=b by omega) (show 0<=w by omega);rw[Int.add_mul]at h;omega
theorem zrR{a f e:Nat->Int}(d:∀i,i<5->1<=f i)(m:∀i,i<5->a i<=L i/\L i<=a i+f i-1)(o:∀i,i<5->a i<=e i/\e i<=a i+f i-1){k:Nat}(s:k<5)(b:∀i,i<k->L i=e i)(t:L k<e k):zcu a f L<zcu a f e:=by
 have r:∀i,i<5->0<=L i-a i/\L i-a i<=f i-1/\0<=e i-a i:=fun i h=>by have:=m i h;have:=o i h;omega
 have q:L 0-a 0<e 0-a 0->zcu a f L<zcu a f e:=fun l=>zbE (zbE (zbE (zbE l (r 1 om).2.1 (r 1 om).2.2 (d 1 om)) (r 2 om).2.1 (r 2 om).2.2 (d 2 om)) (r 3 om).2.1 (r 3 om).2.2 (d 3 om)) (r 4 om).2.1 (r 4 om).2.2 (d 4 om)
 have p:k=0\/k=1\/k=2\/k=3\/k=4:=om;rcases p with rfl|rfl|rfl|rfl|rfl
 ·exact q om
 ·unfold zcu;rw[b 0 om];exact zbE (zbE (zbE om (r 2 om).2.1 (r 2 om).2.2 (d 2 om)) (r 3 om).2.1 (r 3 om).2.2 (d 3 om)) (r 4 om).2.1 (r 4 om).2.2 (d 4 om)
 ·unfold zcu;rw[b 0 om,b 1 om];exact zbE (zbE om (r 3 om).2.1 (r 3 om).2.2 (d 3 om)) (r 4 om).2.1 (r 4 om).2.2 (d 4 om)
 ·unfold zcu;rw[b 0 om,b 1 om,b 2 om];exact zbE om (r 4 om).2.1 (r 4 om).2.2 (d 4 om)
 ·unfold zcu;rw[b 0 om,b 1 om,b 2 om,b 3 om];omega
theorem zmI{a b:Nat->Int}(e:∀i,i<5->1<=b i)(d:∀i,i<5->a i<=L i):0<=zcu a b L:=by
 unfold zcu;have r:∀i,i<5->0<=L i-a i:=fun i a=>by have:=d i a;omega
 have w:∀i,i<5->0<=b i:=fun i a=>by have:=e i a;omega
 have a:∀{b d c:Int},0<=b->0<=d->0<=c->0<=b*d+c:=fun b d e=>by have:=zbw b d;omega
 exact a (a (a (a (r 0 om) (w 1 om) (r 1 om)) (w 2 om) (r 2 om)) (w 3 om) (r 3 om)) (w 4 om) (r 4 om)
theorem znO{d a:Nat->Int}(b:∀i,i<5->1<=a i)(e:∀i,i<5->d i<=L i/\L i<=d i+a i-1):zcu d a L<a 0*a 1*a 2*a 3*a 4:=by
 unfold zcu;have r:∀i,i<5->L i-d i<=a i-1:=fun i a=>by have:=e i a;omega
 have e:∀{a d w c:Int},a<d->1<=w->c<=w-1->a*w+c<d*w:=fun {a d w c} f b h=>by
  have k:=zbE f h (Int.le_refl 0) b;omega
 exact e (e (e (e (by have:=r 0 om;omega) (b 1 om) (r 1 om)) (b 2 om) (r 2 om)) (b 3 om) (r 3 om)) (b 4 om) (r 4 om)
theorem zgJ(b:0<a)(h:a*x<a*y):x<y:=Int.lt_of_mul_lt_mul_left h om
theorem zg3(b:0<a)(h:a*x<=a*y):x<=y:=zar h b
theorem zg4(b:0<a)(h:a*x=a*y):x=y:=QU om h
theorem zhv.further{aims:L_}{P e d:V4}{o b a r:Nat}(ho:0<o)(f:0<b)(k:0<a)(I:r<5)(h:zhv aims P o r e b)(g:zaC (fun i=>(a:Int)*rk aims e i-(b:Int)*rk aims d i)):zhv aims P o r d a:=by
 have l:(0:Int)<o:=om;have z:(0:Int)<b:=om;have q:(0:Int)<a:=om;have t:∀k,o*rk aims e k=b*rk aims P k->a*rk aims e k-b*rk aims d k=0->o*rk aims d k=a*rk aims P k:=fun k f s=>by
  apply zg4 z;have:b*rk aims d k=a*rk aims e k:=om;grind
 have B:∀k,o*rk aims e k=b*rk aims P k->0<a*rk aims e k-b*rk aims d k->o*rk aims d k<a*rk aims P k:=fun k f s=>by
  apply zgJ z;have y:b*rk aims d k<a*rk aims e k:=om;have m:=Int.mul_lt_mul_of_pos_left y l;have C:o*(b*rk aims d k)=b*(o*rk aims d k):=by grind
  have l:o*(a*rk aims e k)=b*(a*rk aims P k):=by grind
  omega
 have p:∀k,o*rk aims e k<b*rk aims P k->0<=a*rk aims e k-b*rk aims d k->o*rk aims d k<a*rk aims P k:=fun k f s=>by
  apply zgJ z;have y:b*rk aims d k<=a*rk aims e k:=om;have m:=ZI y (show 0<=(o:Int)by omega);have m:=Int.mul_lt_mul_of_pos_left f q;have C:o*(b*rk aims d k)=b*(o*rk aims d k):=by grind
  have l:o*(a*rk aims e k)=a*(o*rk aims e k):=by grind
  have l:a*(b*rk aims P k)=b*(a*rk aims P k):=by grind
  omega
 rcases h with ⟨i,D,f,s⟩|⟨f,s⟩
 ·rcases g with g|⟨m,F,q,x⟩
  ·exact .inl ⟨i,D,fun k l=>t k (f k l) (g k om),p i s (by have:a*rk aims e i-b*rk aims d i=0:=g i om;omega)⟩
  ·by_cases w:m<i
   ·exact .inl ⟨m,om,fun k l=>t k (f k om) (q k l),B m (f m w) x⟩
   ·refine .inl ⟨i,D,fun k l=>t k (f k l) (q k om),p i s ?_⟩;rcases zeM (zdq w)with p|p
    ·have:a*rk aims e i-b*rk aims d i=0:=q i p;omega
    ·subst p;exact zdI x
 ·have D:0<=a*rk aims e r-b*rk aims d r->rk aims d r<=a*(rk aims P r/o):=fun p=>by
   apply zg3 z;have y:=ZI s (show 0<=(a:Int)by omega);have C:a*(b*(rk aims P r/o))=b*(a*(rk aims P r/o)):=by grind
   omega
  rcases g with g|⟨m,F,q,x⟩
  ·exact .inr ⟨fun k l=>t k (f k l) (g k om),D (by have:a*rk aims e r-b*rk aims d r=0:=g r I;omega)⟩
  ·by_cases w:m<r
   ·exact .inl ⟨m,w,fun k l=>t k (f k om) (q k l),B m (f m w) x⟩
   ·refine .inr ⟨fun k l=>t k (f k l) (q k om),D ?_⟩;rcases zeM (zdq w)with p|p
    ·have:a*rk aims e r-b*rk aims d r=0:=q r p;omega
    ·subst p;exact zdI x
def jo (aims:L_)(mx:Nat->Int)(P:V4)(o r:Nat)(i:Nat):Int:=if i<=r then rk aims P i/(o:Int)else mx i
theorem zoL{aims:L_}{mx:Nat->Int}{P d:V4}{o b r a:Nat}(ho:0<o)(e:0<b)(z:a<5)(w:∀k,k<r->rk aims P k%(o:Int)=0)(f:∀k,k<a->rk aims d k%(b:Int)=0)(s:rk aims d a%(b:Int)≠0)(y:∀k,k<5->rk aims d k<=(b:Int)*mx k)(h:zhv aims P o r d b):
 ∃k,k<5/\(∀i,i<k->jo aims mx d b a i=jo aims mx P o r i)/\jo aims mx d b a k<jo aims mx P o r k:=by
 have D:(0:Int)<o:=om;have t:(0:Int)<b:=om;have m:∀k,k<r->o*rk aims d k=b*rk aims P k->rk aims d k=b*(rk aims P k/o):=fun k e l=>by
  have f:=jA (rk aims P k) o;rw[w k e]at f;apply zg4 D;rw[l];grind
 have F:∀k,k<r->o*rk aims d k=b*rk aims P k->a≠k:=fun k e l p=>by
  subst p;rw[m a e l]at s;exact s (zcy _ _)
 have B:∀{x q:Int},x<=b*q->x/b<=q:=fun {x q} l=>by
  have:=Int.ediv_le_ediv t l;rwa [jI _ om]at this
 have C:∀{x q:Int},x<b*q->x/b<q:=fun {x q} l=>(Int.ediv_lt_iff_lt_mul t).2 (by rw[Qp];exact l)
 rcases h with ⟨i,l,f,t⟩|⟨f,t⟩
 ·have q:i<=a:=by
   refine Ze fun x=>?_
   exact F a om (f a om) rfl
  refine⟨i,om,fun k e=>?_,?_⟩
  ·unfold jo;rw[zQ om,zQ om,m k om (f k e)];exact jI _ om
  ·unfold jo;rw[zQ om,zQ om];refine C (zgJ D ?_);have q:=jA (rk aims P i) o;rw[w i l]at q;have:o*(b*(rk aims P i/o))=b*rk aims P i:=by grind
   omega
 ·have D:r<=a:=by
   refine Ze fun x=>?_
   exact F a om (f a om) rfl
  have w:∀k,k<r->jo aims mx d b a k=jo aims mx P o r k:=fun k e=>by
   unfold jo;rw[zQ om,zQ om,m k e (f k e)];exact jI _ om
  have f:jo aims mx d b a r<=jo aims mx P o r r:=by
   unfold jo;rw[zQ D,zQ (zh _)];exact B t
  rcases jd f with f|m
  ·exact⟨r,om,w,f⟩
  ·
   have f:r≠a:=by
    intro p;subst p;unfold jo at m;rw[zQ (zh _),zQ (zh _)]at m;have q:=jA (rk aims d r) b;rw[m]at q;have f:=J3 (rk aims d r) (show(b:Int)≠0 by omega);omega
   have t:∀k,k<5->r<k->jo aims mx d b a k<=mx k:=fun k e f=>by
    unfold jo;split
    ·exact B (y k e)
    ·exact Int.le_refl _
   have x:jo aims mx d b a a<mx a:=by
    unfold jo;rw[zQ (zh _)];apply C;have f:=y a z;rcases jd f with f|f
    ·exact f
    ·exact absurd (by rw[f];exact zcy _ _) s
   have p:∀k,r<k->jo aims mx P o r k=mx k:=fun k e=>by unfold jo;rw[zO om]
   have q:∀f k,r<k->k+f=a->(∀i,i<k->jo aims mx d b a i=jo aims mx P o r i)->∃k,k<5/\(∀i,i<k->jo aims mx d b a i=jo aims mx P o r i)/\jo aims mx d b a k<jo aims mx P o r k:=by
    intro f;induction f with
    |zero=>
     intro k e b l;have:k=a:=om;subst this;exact⟨k,z,l,by rw[p k e];exact x⟩
    |succ f d=>
     intro k e b l;have b:=t k om e;rcases jd b with b|b
     ·exact⟨k,om,l,by rw[p k e];exact b⟩
     ·refine d (k+1) om om (fun i d=>?_);by_cases d:i=k
      ·subst d;rw[b,p i e]
      ·exact l i om
   refine q (a-(r+1)) (r+1) om om (fun i l=>?_);by_cases a:i=r
   ·subst a;exact m
   ·exact w i om
end

section
open V4
variable {aims:L_}{base:R_}{c:Cor}{n r:Nat}{rg:Nat->Int×Int}
def zjm (n:Nat)(base:R_)(rg:Nat->Int×Int):Prop:=∀i,i<4->(i<n->(T.unitRow n i,(rg i).2)∈base/\((T.unitRow n i).map (fun z=>-z),-(rg i).1)∈base)/\(n<=i->rg i=(0,0))
def mxR (aims:L_)(rg:Nat->Int×Int)(k:Nat):Int:=
 match k with
 |0=>(if aims.getD 0 0<=0 then aims.getD 0 0*(rg 0).1 else aims.getD 0 0*(rg 0).2)+(if aims.getD 1 0<=0 then aims.getD 1 0*(rg 1).1 else aims.getD 1 0*(rg 1).2)+(if aims.getD 2 0<=0 then aims.getD 2 0*(rg 2).1 else aims.getD 2 0*(rg 2).2)+(if aims.getD 3 0<=0 then aims.getD 3 0*(rg 3).1 else aims.getD 3 0*(rg 3).2)
 |i+1=>if aims.getD i 0<=0 then -(rg i).1 else(rg i).2
def mnR (aims:L_)(rg:Nat->Int×Int)(k:Nat):Int:=
 match k with
 |0=>(if aims.getD 0 0<=0 then aims.getD 0 0*(rg 0).2 else aims.getD 0 0*(rg 0).1)+(if aims.getD 1 0<=0 then aims.getD 1 0*(rg 1).2 else aims.getD 1 0*(rg 1).1)+(if aims.getD 2 0<=0 then aims.getD 2 0*(rg 2).2 else aims.getD 2 0*(rg 2).1)+(if aims.getD 3 0<=0 then aims.getD 3 0*(rg 3).2 else aims.getD 3 0*(rg 3).1)
 |i+1=>if aims.getD i 0<=0 then -(rg i).2 else(rg i).1
def wdR (aims:L_)(rg:Nat->Int×Int)(k:Nat):Int:=mxR aims rg k-mnR aims rg k+1
def bigB (aims:L_)(rg:Nat->Int×Int):Int:=wdR aims rg 0*wdR aims rg 1*wdR aims rg 2*wdR aims rg 3*wdR aims rg 4
theorem zc4{rows:List qO}(a:Qy n aims c)(p:∀i r,base[i]? =E r->(r,i+1)∈rows)(hb:zjm n base rg)(t:∀r∈rows,0<=Z2 c r.1)(i:Nat)(hi:i<4):(c.over:Int)*(rg i).1<=c.point.getD i 0/\c.point.getD i 0<=(c.over:Int)*(rg i).2:=by
 have b:=a.n4;obtain⟨l,m⟩:=hb i hi;by_cases h:i<n
 ·obtain⟨x,y⟩:=l h;have k:∀r,r∈base->0<=Z2 c r:=fun r w=>by
   obtain⟨j,s,q⟩:=qM w;exact t _ (p j r (by rw[zg s,q]))
  have d:=k _ x;have e:=k _ y;unfold Z2 at d e;simp only at d e;have f:T.dotZ (T.unitRow n i) c.point=c.point.getD i 0:=by
   rw[QD (by rw[QS,a.plen]) (by rw[a.plen];exact b),zdp b h];obtain⟨z,B,C,D⟩:=zbJ (toV c.point);rcases lt4 hi with rfl|rfl|rfl|rfl
   ·exact z
   ·exact B
   ·exact C
   ·exact D
  have o:T.dotZ ((T.unitRow n i).map fun F=>-F) c.point=- c.point.getD i 0:=by
   rw[QD (by simp[QS,a.plen]) (by rw[a.plen];exact b),zgl,smul_dot,<-QD (by rw[QS,a.plen]) (by rw[a.plen];exact b),f];omega
  rw[f]at d;rw[o]at e;have I:(rg i).2*(c.over:Int)=(c.over:Int)*(rg i).2:=Qp _ _;have J:-(rg i).1*(c.over:Int)=-((c.over:Int)*(rg i).1):=by grind
  omega
 ·rw[m om];have:c.point.getD i 0=0:=by rw[zk,qL (by rw[a.plen];omega)];rfl
  rw[this];simp
theorem zg5(a:Qy n aims c)(l:∀i,i<4->(c.over:Int)*(rg i).1<=c.point.getD i 0/\c.point.getD i 0<=(c.over:Int)*(rg i).2)(k:Nat)(b:k<5):(c.over:Int)*mnR aims rg k<=rk aims (toV c.point) k/\rk aims (toV c.point) k<=(c.over:Int)*mxR aims rg k:=by
 have one:∀i,i<4->c.over*(if aims.getD i 0<=0 then aims.getD i 0*(rg i).2 else aims.getD i 0*(rg i).1)<=aims.getD i 0*c.point.getD i 0/\aims.getD i 0*c.point.getD i 0<=c.over*(if aims.getD i 0<=0 then aims.getD i 0*(rg i).1 else aims.getD i 0*(rg i).2):=by
  intro i d;have⟨a,b⟩:=l i d;have f:c.over*(aims.getD i 0*(rg i).1)=aims.getD i 0*(c.over*(rg i).1):=by grind
  have h:c.over*(aims.getD i 0*(rg i).2)=aims.getD i 0*(c.over*(rg i).2):=by grind
  split
  ·rename_i e
   rw[f,h];exact⟨zbk e b,zbk e a⟩
  ·rename_i e
   rw[f,h];exact⟨ZI a om,ZI b om⟩
 cases k with
 |zero=>
  have e:=one 0 om;have e:=one 1 om;have e:=one 2 om;have e:=one 3 om;have e:rk aims (toV c.point) 0=aims.getD 0 0*c.point.getD 0 0+aims.getD 1 0*c.point.getD 1 0+aims.getD 2 0*c.point.getD 2 0+aims.getD 3 0*c.point.getD 3 0:=rfl;rw[e];unfold mnR mxR;simp only;rw[zbd,zbd,zbd,zbd,zbd,zbd];omega
 |succ i=>
  have d:i<4:=om;have⟨a,b⟩:=l i d;have f:(QV i).dot (toV c.point)=c.point.getD i 0:=by
   have⟨h,l,m,o⟩:=zbJ (toV c.point);rcases lt4 d with rfl|rfl|rfl|rfl
   ·exact h
   ·exact l
   ·exact m
   ·exact o
  have e:rk aims _ (i+1)=(if aims.getD i 0<=0 then(QV i).smul (-1)else QV i).dot (toV c.point):=rfl;rw[e];unfold mnR mxR;simp only;split
  ·rw[smul_dot,f,zbc,zbc];omega
  ·rw[f];exact⟨a,b⟩
theorem wd_pos(h:∀i,i<4->(rg i).1<=(rg i).2)(k:Nat)(a:k<5):1<=wdR aims rg k:=by
 have one:∀i,i<4->(if aims.getD i 0<=0 then aims.getD i 0*(rg i).2 else aims.getD i 0*(rg i).1)<=(if aims.getD i 0<=0 then aims.getD i 0*(rg i).1 else aims.getD i 0*(rg i).2):=by
  intro i b;split
  ·rename_i a;exact zbk a (h i b)
  ·rename_i a;exact ZI (h i b) om
 unfold wdR;cases k with
 |zero=>
  have:=one 0 om;have:=one 1 om;have:=one 2 om;have:=one 3 om;unfold mxR mnR;simp only;omega
 |succ i=>
  have:=h i om;unfold mxR mnR;simp only;split<;>omega
theorem zh4(d:Qy n aims c)(b:∀i,i<4->(c.over:Int)*(rg i).1<=c.point.getD i 0/\c.point.getD i 0<=(c.over:Int)*(rg i).2)(r:Nat):
 (∀i,i<5->1<=wdR aims rg i)/\∀i,i<5->mnR aims rg i<=jo aims (mxR aims rg) (toV c.point) c.over r i/\jo aims (mxR aims rg) (toV c.point) c.over r i<=mnR aims rg i+wdR aims rg i-1:=by
 have a:=d.pos;have f:∀i,i<4->(rg i).1<=(rg i).2:=fun i a=>by
  have⟨_,_⟩:=b i a;exact zg3 (show 0<(c.over:Int)by omega) om
 have e:=wd_pos (aims:=aims) f;refine⟨e,fun i a=>?_⟩;have⟨f,h⟩:=zg5 d b i a;have b:=e i a;have a:mnR aims rg i+wdR aims rg i-1=mxR aims rg i:=by unfold wdR;omega
 rw[a];unfold wdR at b;unfold jo;split
 ·refine⟨(zbj om).2 (by rw[Qp];exact f),?_⟩;have:=Int.ediv_le_ediv (show 0<(c.over:Int)by omega) h;rwa [jI _ om]at this
 ·omega
theorem zeZ(p:Nat->Bool):∀(m s r:Nat) (rs:N_),(List.range' s m).filter p=r::rs->s<=r/\r<s+m/\p r=true/\∀k,s<=k->k<r->p k=false
 |0,s,r,rs,h=>by simp at h
 |m+1,s,r,rs,h=>by
  rw[List.range'_succ,Qz]at h;by_cases a:p s=true
  ·rw[zQ a]at h;simp only[za5]at h;obtain⟨rfl,_⟩:=h;exact⟨zh _,om,a,fun k b d=>om⟩
  ·rw[zO a]at h;obtain⟨b,d,b,d⟩:=zeZ p m (s+1) r rs h;refine⟨om,om,b,fun k b b=>?_⟩;by_cases e:k=s
   ·subst e;simpa using a
   ·exact d k om b
theorem zij(h:Qy n aims c){rs:N_}(hs:qU n aims c=r::rs):r<5/\rk aims (toV c.point) r%(c.over:Int)≠0/\∀k,k<r->rk aims (toV c.point) k%(c.over:Int)=0:=by
 have e:=h.n4;have a:=hs;unfold qU at a;rw[zd0]at a;have⟨_,_,_,b⟩:=zeZ _ _ _ _ _ a;have hm:=(za4 h).1 (by rw[hs];exact qA);refine⟨om,hm.2,fun k d=>?_⟩;have a:=b k om d;simp only[ne_eq,decide_not,Bool.not_eq_false',Z9]at a;rwa [zbi (by rw[h.aim,h.plen]) (by rw[h.plen];exact e) k om]at a
theorem zkE{d:Cor}(e:Qy n aims c)(h:Qy n aims d):zeN aims c d=true↔c.gt aims d:=by
 have i:=e.n4;unfold zeN;rw[decide_eq_true_iff];have f:(List.zipWith (fun a b=>a*d.over-b*(c.over:Int)) c.point d.point).length=n:=by simp[e.plen,h.plen]
 rw[ziC (by rw[e.aim,f]) (by rw[f];exact i)];have k:toV (List.zipWith (fun a b=>a*d.over-b*c.over) c.point d.point)=((toV c.point).smul d.over).add ((toV d.point).smul (-c.over)):=by
  have f:∀i,(List.zipWith (fun a b=>a*d.over-b*(c.over:Int)) c.point d.point).getD i 0=d.over*c.point.getD i 0+(-c.over)*d.point.getD i 0:=fun i=>by
   rw[JE sp (by rw[e.plen,h.plen])];grind
  exact ext' (f 0) (f 1) (f 2) (f 3)
 have e:∀i,rk aims (toV (List.zipWith (fun a b=>a*d.over-b*c.over) c.point d.point)) i=d.over*rk aims (toV c.point) i-c.over*rk aims (toV d.point) i:=fun i=>by
  rw[k,zhh,JH,JH];grind
 exact⟨fun h=>h.congr (fun i _=>e i),fun h=>h.congr (fun i _=>(e i).symm)⟩
theorem not_gt{d:Cor}(h:¬c.gt aims d):d.ge aims c:=by
 rcases zhg (fun i=>d.over*rk aims (toV c.point) i-c.over*rk aims (toV d.point) i)with a|a
 ·exact absurd a h
 ·exact a.congr (fun i _=>om)
theorem zka{c:Cor}{num:Nat}(h:Qy n aims c)(d:r<5)(b:rk aims (toV c.point) r%(c.over:Int)≠0)(a:∀e∈c.edges,e.num≠num):
 Qe aims c (Zd n aims c r) num=E (Z1 n aims c num r)/\∃j o,Exch n aims c (Zd n aims c r) num (Z1 n aims c num r) j o:=by
 have k:=zfx h d b;have⟨f,i⟩:=zht h k.len a;have d:∃a,Qe aims c (Zd n aims c r) num=E a:=by
  cases hx:Qe aims c (Zd n aims c r) num with
  |some a=>exact⟨a,rfl⟩
  |none=>
   have⟨e,b,_⟩:=ziD h k;have:=f hx e b;omega
 have⟨a,b⟩:=d;have d:Z1 n aims c num r=a:=by unfold Z1;rw[b];rfl
 rw[d];exact⟨b,i a b⟩
theorem zkb{num:Nat}(e:∀r,r∈qU n aims c->Qy n aims (Z1 n aims c num r)):∀(rs:N_) (b:Option Nat) (r:Nat),(∀x∈rs,x∈qU n aims c)->(∀x,b=E x->x∈qU n aims c)->jF n aims c num rs b=E r->∀x,(x∈rs\/b=E x)->(Z1 n aims c num x).ge aims (Z1 n aims c num r)
 |[],b,r,_,_,h,x,a=>by
  rcases a with a|a
  ·simp at a
  ·rw[jF]at h;rw[h]at a;cases a;exact XB _ _
 |y::rs,O,r,h1,h2,h,x,a=>by
  rw[jF]at h;have d:=zkb e rs (E y) r (fun x a=>h1 x (qq _ a)) (fun x a=>by cases a;exact h1 y qA) h;rcases a with a|a
  ·rcases zI.1 a with rfl|a
   ·exact d x (.inr rfl)
   ·exact d x (.inl a)
  ·cases a
 |y::rs,E b,r,h1,h2,h,x,a=>by
  rw[jF]at h;have k:=h1 y qA;have i:=h2 b rfl;have d:=zkb e rs _ r (fun x a=>h1 x (qq _ a)) (fun x a=>by
   split at a
   ·cases a;exact k
   ·cases a;exact i) h
  by_cases f:zeN aims (Z1 n aims c num b) (Z1 n aims c num y)=true
  ·rw[zQ f]at d;have l:=(zkE (e b i) (e y k)).1 f;have o:=d y (.inr rfl);rcases a with a|a
   ·rcases zI.1 a with rfl|a
    ·exact o
    ·exact d x (.inl a)
   ·cases a;exact XC (e y k).pos l.ge o
  ·rw[zO f]at d;have l:=not_gt (fun h=>f ((zkE (e b i) (e y k)).2 h));have m:=d b (.inr rfl);rcases a with a|a
   ·rcases zI.1 a with rfl|a
    ·exact XC (e b i).pos l m
    ·exact d x (.inl a)
   ·cases a;exact m
def CapOK (n:Nat)(aims:L_)(rg:Nat->Int×Int)(pivots:Nat)(rows:List qO)(c:Cor)(cap:Int):Prop:=
 ∀c2 r rs,ZV aims rows pivots c= .inl c2->qU n aims c2=r::rs->zcu (mnR aims rg) (wdR aims rg) (jo aims (mxR aims rg) (toV c2.point) c2.over r)<cap
theorem zoM{rows:List qO}{a:List Zy}{b:R_}(h:zcl n aims base rows c a b):∀r∈rows,r.2<base.length+a.length+1:=by
 intro r b;have⟨_,a⟩:=(h.rowsOK r b).1;have:=jQ a;have:=h.len;omega
theorem zqV{pivots:Nat}(ai:0<pivots){rows:List qO}{b:List Zy}{af:R_}(B:zjm n base rg)(h:zcl n aims base rows c b af)(F:∀r∈rows,0<=Z2 c r.1){k:Nat}{rs:N_}(hs:qU n aims c=k::rs)(C:jF n aims c (base.length+b.length+1) (qU n aims c) O=E r):
 CapOK n aims rg pivots (jw c base.length rows ++ [(Zd n aims c r,base.length+b.length+1)]) c (zcu (mnR aims rg) (wdR aims rg) (jo aims (mxR aims rg) (toV c.point) c.over k)):=by
 intro l r2 ak t ad;have a:=h.cor.cor;have aj:=a.n4;have s:∀p∈c.edges,p.num≠base.length+b.length+1:=fun p he=>by
  have:=zoM h _ (h.cor.edge p he);simp only at this;omega
 have e:∀x,x∈qU n aims c->x<5/\rk aims (toV c.point) x%(c.over:Int)≠0:=fun x d=>by
  have:=(za4 a (r:=x)).1 d;exact⟨om,this.2⟩
 have z:∀x,x∈qU n aims c->Qy n aims (Z1 n aims c (base.length+b.length+1) x):=fun x d=>by
  obtain⟨_,j,ah,w⟩:=zka a (e x d).1 (e x d).2 s;exact w.cor
 have i:r∈qU n aims c:=by
  rcases zdr _ _ _ C with hm|hm
  ·exact hm
  ·cases hm
 have X:k∈qU n aims c:=by rw[hs];exact qA
 have a5:=zkb z _ O r (fun x d=>d) (fun x d=>by cases d) C k (.inl X);obtain⟨m,D,a4⟩:=zij a hs;have o:=zfx a (e r i).1 (e r i).2;have q:=h.cut h.cor (e r i).1 o;have a0:Qv c (jw c base.length rows ++ [(Zd n aims c r,base.length+b.length+1)])=E (Zd n aims c r,base.length+b.length+1):=by
  unfold Qv;rw[List.find?_append];have hn:(jw c base.length rows).find? (fun r=>decide (Z2 c r.1<0))=O:=by
   rw[zeP];intro x d;have:=F x (zkD d);simp;omega
  rw[hn];have:=zhu a o;simp[this]
 obtain⟨ae,j,ah,w⟩:=zka a (e r i).1 (e r i).2 s;have a6:(Z1 n aims c (base.length+b.length+1) r).ge aims l/\J4 n aims (jw c base.length rows ++ [(Zd n aims c r,base.length+b.length+1)]) l/\∀x∈(jw c base.length rows ++ [(Zd n aims c r,base.length+b.length+1)]),0<=Z2 l x.1:=by
  cases pivots with
  |zero=>omega
  |succ T=>
   rw[ZV,a0]at t;simp only[ae]at t;have a8:=zm5 (r:=(Zd n aims c r,base.length+b.length+1)) q.cor w sp;obtain⟨s1,-⟩:=zbL q.rowsOK T _ a8;obtain⟨K,L,N⟩:=s1 l t;exact⟨L,K,N⟩
 obtain⟨U,f,W⟩:=a6;obtain⟨_,_,_,I⟩:=zka a m D s;have Y:=znJ a m (zfx a m D) I;have a7:=XC (z r i).pos a5 U;have Z:=Y.further a.pos I.cor.pos f.cor.pos m a7;have P:=zc4 a h.given B F;have y:=zc4 f.cor q.given B W;obtain⟨Q,R,S⟩:=zij f.cor ad;obtain⟨J,a9,aa,ab⟩:=zoL (mx:=mxR aims rg) a.pos f.cor.pos Q a4 S R (fun J o=>(zg5 f.cor y J o).2) Z;obtain⟨w1,l1⟩:=zh4 a P k;obtain⟨_,l2⟩:=zh4 f.cor y r2;exact zrR w1 l2 l1 a9 aa ab
theorem zf7{pivots:Nat}(hpv:10000<=pivots)(hbx:zjm n base rg){H:R_}(hH:H.length<=14):∀(k:Nat) (rows:List qO) (c:Cor) (ls:List Zy) (led:R_) (cap:Int),zcl n aims base rows c ls led->SCnt n base H rows->CapOK n aims rg pivots rows c cap->cap<=(k:Int)->∀m,goS n aims base.length pivots k rows c ls≠ .inr (.inr m)
 |0,rows,c,ls,led,cap,h,hc,hcap,hk,m=>by
  rw[goS];obtain⟨s1,s2⟩:=zbL h.rowsOK pivots c h.cor;obtain⟨H',q1,q2⟩:=hc.all h.cor.cor.n4 hH;cases hs:ZV aims rows pivots c using SetR.cs with
  |li=>exact absurd hs (zfR h.rowsOK q2 q1 hpv h.cor)
  |no c' r=>intro he;cases he
  |ok c'=>
   obtain⟨a1,a2,a3⟩:=s1 c' hs;simp only;cases hd:jF n aims c' (base.length+ls.length+1) (qU n aims c') Option.none with
   |none=>intro he;cases he
   |some r=>
    exfalso
    cases hsp:qU n aims c' with
    |nil=>rw[hsp,jF]at hd;cases hd
    |cons r1 rs=>
     have h1:=hcap c' r1 rs hs hsp;obtain⟨w1,l1⟩:=zh4 a1.cor (zc4 a1.cor h.given hbx a3) r1;have h2:=zmI w1 (fun i hi=>(l1 i hi).1);have hk0:cap<=0:=by simpa using hk
     omega
 |k+1,rows,c,ls,led,cap,h,hc,hcap,hk,m=>by
  rw[goS];obtain⟨s1,s2⟩:=zbL h.rowsOK pivots c h.cor;obtain⟨H',q1,q2⟩:=hc.all h.cor.cor.n4 hH;cases hs:ZV aims rows pivots c using SetR.cs with
  |li=>exact absurd hs (zfR h.rowsOK q2 q1 hpv h.cor)
  |no c' r=>intro he;cases he
  |ok c'=>
   obtain⟨a1,a2,a3⟩:=s1 c' hs;simp only;cases hd:jF n aims c' (base.length+ls.length+1) (qU n aims c') Option.none with
   |none=>intro he;cases he
   |some r=>
    have n4:=a1.cor.n4;have hm:r∈qU n aims c':=by
     rcases zdr _ _ _ hd with hm|hm
     ·exact hm
     ·cases hm
    obtain⟨m1,m2⟩:=(za4 a1.cor).1 hm;have hi:=h.to a1;cases hsp:qU n aims c' with
    |nil=>rw[hsp]at hm;cases hm
    |cons r1 rs=>
     have h1:=hcap c' r1 rs hs hsp;have hcap':=zqV (pivots:=pivots) (by omega) hbx hi a3 hsp hd;refine zf7 hpv hbx hH k _ _ _ _ _ (hi.cut a1 (by omega) (zfx a1.cor (by omega) m2)) (hc.cut a1.cor _ (zoM hi) (by omega)) hcap' ?_ m;omega
end

section
open Go.RowKit
attribute [local go_sem] zD zW qJ
variable {w:H}
theorem zgL{g b j:Nat}{u d e:Value}(f:b≠g)(h:w.cell? (Xd b j O)=E u):((w.setCell (Xd g 0 O) d).setCell (Xd g 1 O) e).cell? (Xd b j O)=E u:=by
 rw[Zj];·exact h
 ·exact(qC _ _ _ _ so).trans (qC _ _ _ _ so)
theorem ZS.lt{t:TypeId}{v:Value}{size:Nat}{a:List (List Value)}(h:ZS w t v size a):∀g,v.ownBlock=E g->g<w.heap.size:=by
 intro g a;rcases h with ⟨e,_⟩|⟨b,off,_,e,_,d,_⟩
 ·rw[e]at a;cases a
 ·rw[e]at a;have:b=g:=by simpa[Value.ownBlock]using a
  rw[<-this];exact d.lt
theorem ZS.wr2{U:Nat->Prop}{w':H}{t:TypeId}{v:Value}{size:Nat}{a:List (List Value)}(h:ZS w t v size a)(e:Wr U w w')(l:∀g,v.ownBlock=E g->¬U g):ZS w' t v size a:=by
 rcases h with h|⟨g,off,f,a,i,b,k⟩
 ·exact Or.inl h
 ·have d:=l g (by rw[a];rfl);exact Or.inr ⟨g,off,f,a,i,b.same (e.block g b.lt d),fun i cs a j u b=>e.cell d (k i cs a j u b)⟩
def AccI (w1:H)(gs n:Nat)(d:Nat->Int)(k:Nat)(M:Nat->Prop)(A:H):Prop:=
 Wr (fun b=>b=gs) w1 A/\k<=n/\(∃(t:WT) (fr:Nat×Nat),A.heap[gs]? =E (cl #[G t.b,t.sv] 64 fr)/\A.frozen? (Xd gs 0 O)=false/\A.frozen? (Xd gs 1 O)=false/\zy A t.val (d k))/\∀b,M b↔b=gs
theorem AccI.keep{w1 A B:H}{b n:Nat}{d:Nat->Int}{k:Nat}{M:Nat->Prop}(h:AccI w1 b n d k M A)(i:zn w1.heap.size A B):AccI w1 b n d k M B:=by
 have⟨m,o,⟨x,l,f,p,q,s⟩,t⟩:=h;have e:=i.block _ _ f (.inr rfl);exact⟨m.keep i,o,⟨x,l,e,(qw (e.trans f.symm)).trans p,(qw (e.trans f.symm)).trans q,s.keep i⟩,t⟩
theorem zm6(fa a:A_)(fl fc d b:Nat)(w:H):
 C_ 227 #[ag #[V fa fl fc],V a d b] w fun e w'=>e=Xa (.func (.func 230) #[] #[p_ (w.heap.size+1) 0,p_ (w.heap.size+1+1) 0])/\w'=((w.alloc (cl #[V fa fl fc] 102)).alloc (cl #[V fa fl fc] 100)).alloc (cl #[V a d b] 100):=by
 go_enter func227,ntmps227
 go_wp2_with fail
 apply(zex fa a fl fc d b _).mono;rintro e w1 ⟨rfl,rfl⟩;go_wp2;go_ret;exact⟨sp,rfl⟩
theorem zoQ(K:Nat)(d:K+K<=1073741823)(w:H)(fa X:A_)(fc Y:Nat)(ts ss:List WT)(zs xs:L_)(h1:ts.length=zs.length)(h2:ZS w 64 (V fa ts.length fc) 2 (ts.map WT.cells))(o:∀(i:Nat) (t:WT) (z:Int),ts[i]? =E t->zs[i]? =E z->zy w t.val z)(av:ss.length=xs.length)(aa:ZS w 64 (V X ss.length Y) 2 (ss.map WT.cells))(aw:∀(i:Nat) (t:WT) (z:Int),ss[i]? =E t->xs[i]? =E z->zy w t.val z)(hl:zs.length=xs.length)(hn:zs.length<=100000)(bz:∀z∈zs,z.natAbs<4294967296^K)(bx:∀z∈xs,z.natAbs<4294967296^K)(bm:∀a∈zs,∀b∈xs,(a*b).natAbs<4294967296^K)(bs:∀j,(T.dotZ (zs.take j) (xs.take j)).natAbs<4294967296^K):
 C_ 178 #[ag #[V fa ts.length fc],V X ss.length Y] w fun e w'=>∃t:WT,e=Xa t.val/\zy w' t.val (T.dotZ zs xs)/\b_ w w':=by
 have ak:ss.length=ts.length:=om;rw[ak]at aa⊢;have H1:=zf h1;have H2:=zf h2;have H3:=zf o;have b8:=zf av;have aq:=zf aa;have aK:=zf aw;have aR:=zf ak;have bc:ts.length<=100000:=om;have aO:=zf bz;have aN:=zf bx;have aL:=zf bm;have aM:=zf bs;clear h1 h2 o av aa aw ak bz bx bm bs;have aU:Ext w (((w.alloc (cl #[V fa ts.length fc] 102)).alloc (cl #[G false,V_] 64)).alloc (cl #[G false,V_] 64)):=(((Xe w).alloc _).alloc _).alloc _;have aT:(((w.alloc (cl #[V fa ts.length fc] 102)).alloc (cl #[G false,V_] 64)).alloc (cl #[G false,V_] 64)).heap[w.heap.size]? =E (cl #[V fa ts.length fc] 102):=(qH _ _ _ so).trans (Xk w _ _).1;have ad:(((w.alloc (cl #[V fa ts.length fc] 102)).alloc (cl #[G false,V_] 64)).alloc (cl #[G false,V_] 64)).heap[w.heap.size+1]? =E (cl #[G false,V_] 64):=(qH _ _ _ sp).trans (Xk w _ _).2;have ab:(((w.alloc (cl #[V fa ts.length fc] 102)).alloc (cl #[G false,V_] 64)).alloc (cl #[G false,V_] 64)).heap[w.heap.size+1+1]? =E (cl #[G false,V_] 64):=by
  have:=zC ((w.alloc (cl #[V fa ts.length fc] 102)).alloc (cl #[G false,V_] 64)) (cl #[G false,V_] 64);simpa using this
 refine Q0 func178 ntmps178 (h:=?_);gi_wp2;generalize (((w.alloc (cl #[V fa ts.length fc] 102)).alloc (cl #[G false,V_] 64)).alloc (cl #[G false,V_] 64))=s at *;refine(zq.2 (zm6 fa X ts.length fc ts.length Y s)).mono ?_;rintro e w1 ⟨rfl,a9⟩;have x1:Ext s w1:=by rw[a9];exact(((Xe s).alloc _).alloc _).alloc _
 have k1:w1.cell? (x_ s 0)=E (V fa ts.length fc):=by rw[a9];exact(((Xe _).alloc _).cell (c_ 0 (Xk _ _ _).2))
 have k2:w1.cell? (w_ s 0)=E (V X ts.length Y):=by
  rw[a9];have:=c_ 0 (zC ((s.alloc (cl #[V fa ts.length fc] 102)).alloc (cl #[V fa ts.length fc] 100)) (cl #[V X ts.length Y] 100));simpa using this
 clear a9;have J:=aU.trans x1;have aW:=(zd.1 ab).1;have a1:=(x1.block _ aW).trans ab;have HR:=zf ((x1.block _ (zd.1 ad).1).trans ad);clear aT ab ad;have bd:=x1.size;gi_wp2;refine ZT (zcz ts ss aR.out.symm fa X fc Y (s.heap.size+1) (s.heap.size+1+1) om) rfl (qW func230 kr rfl) (fun k v W=>by rintro⟨t,_,_,_,rfl⟩;rfl)
  (AccI w1 (w.heap.size+1+1) ts.length (fun k=>T.dotZ (zs.take k) (xs.take k))) (fun _ _ _=>False) (fun b=>b=w.heap.size+1+1) ?hI ?hIx ?hC ?h0 ?round ?done ?stop
 case hI=>exact fun k M A b7 P hk=>P.keep hk
 case hIx=>exact fun _ _ _ _ P _=>P
 case hC=>
  rintro k M A ⟨h1,h2,⟨t,fr,o,-⟩,h4⟩;refine⟨⟨h1.cell (p:=(x_ s 0)) so k1,h1.cell (p:=(w_ s 0)) so k2,((H2.out.ext J).wr2 h1 (fun g hg e=>by have:=H2.out.lt g hg;omega)).recs,((aq.out.ext J).wr2 h1 (fun g hg e=>by have:=aq.out.lt g hg;omega)).recs⟩,fun b q=>?_⟩;rw[(h4 b).1 q];exact(zd.1 o).1
 case h0=>exact⟨Xj _ _,qo _,⟨⟨false,O,0,0⟩,(0,0),a1,Xh a1,Xh a1,⟨false,V_,rfl,Xo _ _ _,rfl⟩⟩,fun b=>Qb⟩
 case round=>
  rintro l2 k v M A aX ⟨t0,s0,b5,b4,rfl⟩ ⟨h1,h2,⟨⟨h,f,m,l⟩,fr,o,ah,ai,Z⟩,h4⟩;have a8:k<zs.length:=by have:=H1.out;omega
  have a7:k<xs.length:=om;have hz:=zg a8;have aG:=zg a7;have aB:∀b,b=w.heap.size+1+1->qK w1 b:=fun b q=>by rw[q];exact zE a1 (by intro u I;simp at I;rcases I with rfl|rfl<;>(intro n e;cases e))
  have ae:=((H3.out k t0 _ b5 hz).below J).wr h1 aB;have af:=((aK.out k s0 _ b4 aG).below J).wr h1 aB;have ay:=aO.out _ (zJ a8);have az:=aN.out _ (zJ a7);have a0:=aL.out _ (zJ a8) _ (zJ a7);have ar:=zf (T.dotZ_take a8 a7);have a4:=aM.out k;generalize zs[k]=z at *;generalize xs[k]=R at *;obtain⟨L,hdk⟩:∃L,T.dotZ (zs.take k) (xs.take k)=L:=⟨_,rfl⟩;have ax:zy A (ag #[G h,V f m l]) L:=by rw[<-hdk];exact Z
  rw[hdk]at a4 ar;have b9:=zf hdk;clear hz aG hdk Z;obtain⟨yb,ya,yl,yc⟩:=t0;obtain⟨pb,pa,pl,pc⟩:=s0;simp only[WT.val,WT.sv]at ae af o⊢;unfold Zz;gi_wp2;refine⟨Xg (((Xe A).alloc _).alloc _),fun A2 aj=>?_⟩;have xA:=((zn.alloc w1.heap.size A (cl #[G yb,V ya yl yc] 64)).trans (zn.alloc w1.heap.size _ (cl #[G pb,V pa pl pc] 64))).trans aj;have e0:=aj.block _ _ (Xk A (cl #[G yb,V ya yl yc] 64) (cl #[G pb,V pa pl pc] 64)).1 (.inr rfl);have e1:=aj.block _ _ (Xk A (cl #[G yb,V ya yl yc] 64) (cl #[G pb,V pa pl pc] 64)).2 (.inr rfl);have N:=xA.block _ _ o (.inr rfl);have ba:=(zd.1 o).1;have a5:=(zd.1 N).1;have a2:Hid (∀W,Ext A2 W->W.cell? (y_ A 0)=E (G yb)/\W.cell? (y_ A 1)=E (V ya yl yc)/\W.cell? (x_ A 0)=E (G pb)/\W.cell? (x_ A 1)=E (V pa pl pc)):=fun W hW=>⟨hW.cell (c_ 0 e0),hW.cell (c_ 1 e0),hW.cell (c_ 0 e1),hW.cell (c_ 1 e1)⟩
  have an:A2.cell? (w_ w 0)=E (G h):=c_ 0 N;have ao:A2.cell? (w_ w 1)=E (V f m l):=c_ 1 N;have aH:=(qw (w:=A) (a:=(w_ w 0)) (N.trans o.symm)).trans ah;have aI:=(qw (w:=A) (a:=(w_ w 1)) (N.trans o.symm)).trans ai;have au:Hid (C_ 115 #[ag #[G yb,V ya yl yc],ag #[G pb,V pa pl pc]] A2.drew fun e w'=>∃t:WT,e=Xa (ag #[G t.b,V t.s.1 t.s.2.1 t.s.2.2])/\zy w' (ag #[G t.b,V t.s.1 t.s.2.1 t.s.2.2]) (z*R)/\Below A2.drew.heap.size A2.drew w'):=by
   refine(zam A2.drew _ _ z R K K d (ae.keep (xA.trans (zn.drew _ _))) (af.keep (xA.trans (zn.drew _ _))) ay az).mono ?_;rintro e w' ⟨aJ,rfl,Q,q⟩;obtain⟨t,rfl⟩:=Q.shape;exact⟨t,rfl,Q,q⟩
  have aQ:Hid (∀W,Ext A2 W->∀al,zy W al (z*R)->C_ 113 #[ag #[G h,V f m l],al] W fun e w'=>∃t:WT,e=Xa (ag #[G t.b,V t.s.1 t.s.2.1 t.s.2.2])/\zy w' (ag #[G t.b,V t.s.1 t.s.2.1 t.s.2.2]) (L+z*R)/\b_ W w'):=by
   intro W hW al hq;refine(zeF W _ _ L (z*R) K om ((ax.keep xA).below hW) hq a4 a0).mono ?_;rintro e w' ⟨aJ,rfl,Q,q⟩;obtain⟨t,rfl⟩:=Q.shape;exact⟨t,rfl,Q,q⟩
  have aP:Hid (∀(A4:H) (B:Bool) (y:A_) (D C:Nat),Ext A2 A4->zy A4 (ag #[G B,V y D C]) (L+z*R)->ZL M (AccI w1 (w.heap.size+1+1) ts.length (fun k=>T.dotZ (zs.take k) (xs.take k))) (fun _ _ _=>False) k A A2 .normal { tmps:=#[],defers:= [] } ((A4.setCell (w_ w 0) (G B)).setCell (w_ w 1) (V y D C))):=by
   intro A4 B y D C x hq;have e4:=(x.block _ a5).trans N;have aE:Wr (fun b=>b=w.heap.size+1+1) A4 ((A4.setCell (w_ w 0) (G B)).setCell (w_ w 1) (V y D C)):=(zv (U:=fun b=>b=w.heap.size+1+1) rfl _).trans (zv (U:=fun b=>b=w.heap.size+1+1) rfl _);have aD:=(Xg x).trans aE;have e5:((A4.setCell (w_ w 0) (G B)).setCell (w_ w 1) (V y D C)).heap[w.heap.size+1+1]? =E (cl #[G B,V y D C] 64 fr):=by
    rw[Xl (Xl e4)];rfl
   have aY:∀b,b=w.heap.size+1+1->qK A4 b:=fun b q=>by rw[q];exact zE e4 (by intro u I;simp at I;rcases I with rfl|rfl<;>(intro n e;cases e))
   have f4:=fun j=>qw (w:=A2) (a:=(w_ w j)) (x.block _ a5)
   refine⟨aD.mono (fun b q=>(h4 b).2 q),M,⟨(h1.keep xA).trans aD,aX,⟨⟨B,y,D,C⟩,fr,e5,?_,?_,?_⟩,h4⟩,fun aJ Q=> .inl Q⟩;·simpa using (f4 0).trans aH
   ·simpa using (f4 1).trans aI
   ·have e6:=ar.out;show zy _ _ (T.dotZ (zs.take (k+1)) (xs.take (k+1)))
    rw[e6];exact hq.wr aE aY
  obtain⟨b0,b1,b2,b3⟩:=a2.out A2 (Xe _);clear e0 e1 N h1 o ah ai ae af ax ay az a0 a4;refine ZW ?_;refine jK (S:=fun W=>W.cell? (y_ A 0)=E (G yb)/\W.cell? (y_ A 1)=E (V ya yl yc)/\W.cell? (x_ A 0)=E (G pb)/\W.cell? (x_ A 1)=E (V pa pl pc)) kr (by rfl) (fun⟨a,w,P⟩=>P) ⟨b0,b1,b2,b3⟩ (fun a3=>?_);refine tkv 1 ?_;refine tkv 2 ?_;refine rd2 0 3 (h:=fun K d=>?_) (h1:=fun K d=>?_);go_simp;refine d.out _ _ am (h:=fun a3=>?_);clear d K;refine rd1 3 fun K d=>?_;go_simp;refine au.out.mono ?_;rintro e A3 ⟨⟨qb,qa,ql,qc⟩,rfl,aC,a0⟩;have F:=ZG a0;have s3:=F.cell an;have s4:=F.cell ao;go_wp2_with fail
  rotate_left;go_simp;refine au.out.mono ?_;rintro e A3 ⟨⟨qb,qa,ql,qc⟩,rfl,aC,a0⟩;have F:=ZG a0;have s3:=F.cell an;have s4:=F.cell ao;go_wp2_with fail
  refine d.out _ _ (by exact a2.out _ F) (h:=fun a3=>?_);clear d K;refine rd1 0 fun K d=>?_;go_simp;rotate_left;all_goals
   refine d.out _ _ (by exact a2.out _ F) (h:=fun a3=>?_);clear d K;refine rcl 4 (aQ.out A3 F _ aC) ?_;rintro e A4 ⟨⟨B,y,D,C⟩,rfl,aZ,a4⟩;have x:=F.trans (Xf a4);have be:=x.cell an;have r4:=x.cell ao;have bf:=(qw (w:=A2) (a:=(w_ w 0)) (x.block _ a5)).trans aH;have bg:=(qw (w:=A2) (a:=(w_ w 1)) (x.block _ a5)).trans aI;refine bk (by exact a2.out _ x) fun a3=>?_
   refine rd1 5 fun K d=>?_;go_simp;refine d.out _ _ (by have d:=a2.out A4 x;exact⟨zgL om d.1,zgL om d.2.1,zgL om d.2.2.1,zgL om d.2.2.2⟩) (h:=fun a3=>?_);clear d K;refine zV kr ?_ _;exact aP.out A4 B y D C x aZ
 case done=>
  rintro ap M A hD ⟨h1,h2,⟨⟨h,f,m,l⟩,fr,o,ah,ai,Z⟩,h4⟩ hd;simp only[WT.sv,WT.val]at o Z;have m0:=c_ 0 o;have m1:=c_ 1 o;have r1:=h1.some HR.out (fun e=>by have:w.heap.size+1=w.heap.size+1+1:=e;omega);have c0:=c_ 0 r1;have c1:=c_ 1 r1;have f0:=Xh (j:=0) r1;have f1:=Xh (j:=1) r1;have H5:Hid (zy A (ag #[G h,V f m l]) (T.dotZ zs xs)):=by
   have e:T.dotZ (zs.take ts.length) (xs.take ts.length)=T.dotZ zs xs:=by rw[zP (by have:=H1.out;omega),zP (by have:=H1.out;omega)]
   rw[<-e];exact Z
  have bb:=(zd.1 HR.out).1;clear Z;gi_wp2;have aA:((A.setCell (x_ w 0) (G h)).setCell (x_ w 1) (V f m l)).heap[ap]? =E (.deferred (E [])):=(qC _ _ _ _ so).trans ((qC _ _ _ _ so).trans hd);refine qh aA ?_;have a6:zn w1.heap.size ((A.setCell (x_ w 0) (G h)).setCell (x_ w 1) (V f m l)) (((A.setCell (x_ w 0) (G h)).setCell (x_ w 1) (V f m l)).putObj ap (.deferred O)):=zn.putObj _ hD aA rfl;have aF:Wr (fun b=>b=w.heap.size+1) A ((A.setCell (x_ w 0) (G h)).setCell (x_ w 1) (V f m l)):=(zv (U:=fun b=>b=w.heap.size+1) rfl _).trans (zv (U:=fun b=>b=w.heap.size+1) rfl _);have e9:((A.setCell (x_ w 0) (G h)).setCell (x_ w 1) (V f m l)).heap[w.heap.size+1]? =E (cl #[G h,V f m l] 64):=by
   rw[Xl (Xl r1)];rfl
  have c9:=a6.cell (c_ 0 e9);have aS:=a6.cell (c_ 1 e9);have b6:=H5.out.wr aF (fun b q=>by rw[q];exact zE r1 (by intro u I;simp at I;rcases I with rfl|rfl<;>(intro n e;cases e)));have aV:=(Qg J (h1.below (B:=w.heap.size) J.size (fun b q=>om))).trans (aF.below (by have:=J.size;have:=h1.size;omega) (fun b q=>om));exact⟨ag #[G h,V f m l],by simp[results,results178,go_sem,c9,aS],⟨h,f,m,l⟩,rfl,b6.keep a6,(a6.mono J.size).below aV (zh _) (zh _)⟩
 case stop=>exact fun _ _ _ _ _ _ P _=>P.elim
end

section
open V4
def rgS (p:qF)(i:Nat):Int×Int:=p.rg.getD i (0,0)
def zc1 (p:qF):Nat:=(p.rows.flatMap T.condRows).length
def jf (p:qF):List qO:=(T.rowsS p).zipIdx.map fun x=>(x.1,x.2+1)
def ze7 (p:qF):Cor:=zb9 p.mx (zcg (rgS p) (zc1 p) p.n)
def zbF (p:qF)(cuts pivots:Nat):SOut:=goS p.n p.mx (T.rowsS p).length pivots (min cuts 20000) (jf p) (ze7 p) []
structure zc5 (p:qF):Prop where
 n0:0<p.n
 n4:p.n<=4
 m:p.mx.length=p.n
 g:p.rg.length=p.n
 l:p.rows.length<=6
 c:∀x∈p.rows,x.1.length=p.n
theorem zbU.done {i:Nat}{p:qF}(h:zbU i p)(hi:2+p.n<=i):zc5 p:=
 ⟨(h.n om).1,(h.n om).2,h.m om,by rw[h.g];omega,h.l,fun x a=>(h.c x a).1⟩
theorem zdz {p:qF}{r:qO}:r∈jf p↔∃i,(T.rowsS p)[i]? =E r.1/\r.2=i+1:=by
 unfold jf;rw[qP];constructor
 ·rintro⟨x,a,rfl⟩;exact⟨x.2,by rw[List.mem_zipIdx_iff_getElem?]at a;exact a,rfl⟩
 ·rintro⟨i,a,b⟩;exact⟨(r.1,i),List.mem_zipIdx_iff_getElem?.2 a,by rw[<-b]⟩
theorem zjn {p:qF}(h:zc5 p):∀r∈T.rowsS p,r.1.length=p.n:=by
 intro r a;unfold T.rowsS at a;rcases zU.1 a with a|a
 ·have⟨x,d,a⟩:=jj.1 a;unfold T.condRows at a;have b:=h.c x d;rcases zU.1 a with a|a
  ·split at a
   ·cases a
   ·rw[qg.1 a];exact b
  ·split at a
   ·cases a
   ·rw[qg.1 a,zm];exact b
 ·have⟨_,_,a⟩:=jj.1 a;unfold T.rangeRows at a;rcases zI.1 a with rfl|a
  ·exact QS _ _
  ·rw[qg.1 a,zm];exact QS _ _
theorem zgK {p:qF}{i:Nat}(hi:i<p.n):(T.rowsS p)[zc1 p+2*i]? =E (T.unitRow p.n i,(rgS p i).2)/\(T.rowsS p)[zc1 p+2*i+1]? =E ((T.unitRow p.n i).map (fun z=>-z),-(rgS p i).1):=by
 have e:∀(f:Nat->(L_×Int)×(L_×Int)) (n i:Nat),i<n->((List.range n).flatMap fun i=> [(f i).1,(f i).2])[2*i]? =E (f i).1/\((List.range n).flatMap fun i=> [(f i).1,(f i).2])[2*i+1]? =E (f i).2:=by
  intro f n;induction n with
  |zero=>intro i h;omega
  |succ n b=>
   intro i h;have a:∀m,((List.range m).flatMap fun i=> [(f i).1,(f i).2]).length=2*m:=by
    intro m;induction m with
    |zero=>rfl
    |succ m b=>rw[J6,ZX,zM,b];simp;omega
   rw[J6,ZX];by_cases d:i<n
   ·rw[zS (by rw[a];omega),zS (by rw[a];omega)];exact b i d
   ·obtain rfl:i=n:=om;rw[zG (by rw[a];omega),zG (by rw[a];omega),a];simp
 unfold T.rowsS;rw[zb3,zG (by unfold zc1;omega),zG (by unfold zc1;omega)];have a:zc1 p+2*i-(p.rows.flatMap T.condRows).length=2*i:=by unfold zc1;omega
 have b:zc1 p+(2*i+1)-(p.rows.flatMap T.condRows).length=2*i+1:=by unfold zc1;omega
 rw[a,b];exact e (fun i=>((T.unitRow p.n i,(rgS p i).2),((T.unitRow p.n i).map (fun z=>-z),-(rgS p i).1))) p.n i hi
theorem boxed {p:qF}(h:zc5 p):zjm p.n (T.rowsS p) (rgS p):=by
 intro i _;refine⟨fun a=>?_,fun a=>?_⟩
 ·have⟨b,d⟩:=zgK a;exact⟨zx b,zx d⟩
 ·unfold rgS;rw[zk,qL (by rw[h.g];omega)];rfl
theorem ziG {p:qF}(h:zc5 p):zcl p.n p.mx (T.rowsS p) (jf p) (ze7 p) [] (T.rowsS p):=by
 have⟨b,k⟩:=zmF h.m h.n4 (rgS p) (zc1 p);have f:=zjn h;refine⟨sp,Zx,f,fun r a=>?_,fun i r a=>?_,⟨b,fun e e=>?_⟩,fun x b r a=>b.2 r a,fun i l b=>by simp at b⟩
 ·have⟨i,b,d⟩:=zdz.1 a;exact⟨⟨om,by rw[d];exact b⟩,f _ (zx b)⟩
 ·exact zdz.2 ⟨i,a,rfl⟩
 ·unfold ze7 at e;rw[k]at e;obtain⟨i,a,rfl⟩:=qP.1 e;have⟨b,d⟩:=zgK (Z8.1 a);apply zdz.2;unfold zct;split
  ·exact⟨zc1 p+2*i+1,d,rfl⟩
  ·exact⟨zc1 p+2*i,b,rfl⟩
def zh5 (p:qF):R_:=(p.rows.map fun x=>(x.1,x.2.2))++((List.range p.n).map (fun i=>(T.unitRow p.n i,(rgS p i).2))++(List.range p.n).map fun i=>(T.unitRow p.n i,(rgS p i).1))
theorem zjo {p:qF}(h:zc5 p):(zh5 p).length<=14:=by
 have a:=h.l;have a:=h.n4;unfold zh5;simp only[zM,zm,zah];omega
theorem zhx (p:qF):SCnt p.n (T.rowsS p) (zh5 p) (jf p):=by
 refine⟨?_,fun r b _=>?_,?_⟩
 ·have:(jf p).map (fun r=>r.2)=(List.range (T.rowsS p).length).map (· + 1):=by
   unfold jf;rw[zcA];apply zbn;intro i;rw[zR,zR,List.getElem?_zipIdx];by_cases a:i<(T.rowsS p).length
   ·rw[zg a,zaL a];simp
   ·rw[qL om,qL (by rw[zah];omega)];rfl
  rw[this];exact List.Pairwise.map _ (fun a a h=>by simpa using h) (List.nodup_range)
 ·have⟨i,a,_⟩:=zdz.1 b;have hm:=zx a;unfold T.rowsS at hm;rcases zU.1 hm with hm|hm
  ·have⟨x,d,hm⟩:=jj.1 hm;refine⟨(x.1,x.2.2),QN _ (qP.2 ⟨x,d,rfl⟩),?_⟩;unfold T.condRows at hm;rcases zU.1 hm with hm|hm
   ·split at hm
    ·cases hm
    ·exact .inl (qg.1 hm)
   ·split at hm
    ·cases hm
    ·exact .inr (qg.1 hm)
  ·have⟨k,d,hm⟩:=jj.1 hm;unfold T.rangeRows at hm;rcases zI.1 hm with hm|hm
   ·exact⟨(T.unitRow p.n k,(rgS p k).2),J5 _ (QN _ (qP.2 ⟨k,d,rfl⟩)),.inl hm⟩
   ·exact⟨(T.unitRow p.n k,(rgS p k).1),J5 _ (J5 _ (qP.2 ⟨k,d,rfl⟩)),.inr (qg.1 hm)⟩
 ·have:(jf p).filter (fun r=>decide ((T.rowsS p).length<r.2))= []:=by
   rw[List.filter_eq_nil_iff];intro r b;have⟨i,a,_⟩:=zdz.1 b;have:=(zo.1 a).1;simp;omega
  rw[this];simp
theorem zik {p:qF}(h:zc5 p)(cuts pivots:Nat):
 (∀c b,zbF p cuts pivots= .inl (c,b)->zdZ p.n (T.rowsS p) (JZ c)/\∀x,zdZ p.n (T.rowsS p) x->zaC (fun i=>rk p.mx (toV (JZ c)) i-rk p.mx (toV x) i))/\
 (∀c r b,zbF p cuts pivots= .inr (.inl (c,r,b))->∀x,¬zdZ p.n (T.rowsS p) x):=by
 have d:=go_ok (pivots:=pivots) (min cuts 20000) _ _ _ _ (ziG h);refine⟨fun c b a=>?_,fun c r b a=>?_⟩
 ·unfold zbF at a;rw[a]at d;have⟨rows,k,b,e,f⟩:=d;exact zj9 b e f
 ·unfold zbF at a;rw[a]at d;have⟨rows,k,b,e,f,a⟩:=d;exact znM b e f a
theorem zgm {p:qF}(h:zc5 p){cuts pivots:Nat}(l:10000<=pivots)(b:(∀i,i<4->(rgS p i).1<=(rgS p i).2)->bigB p.mx (rgS p)<=(min cuts 20000:Nat))(m:Nat):zbF p cuts pivots≠ .inr (.inr m):=by
 have a:=ziG h;by_cases o:∀i,i<4->(rgS p i).1<=(rgS p i).2
 ·refine zf7 l (boxed h) (zjo h) _ _ _ _ _ (bigB p.mx (rgS p)) a (zhx p) (fun f r x k s=>?_) (b o) m;have⟨b,q,d⟩:=(zbL a.rowsOK pivots _ a.cor).1 f k;have e:=zc4 b.cor a.given (boxed h) d;have⟨t,w⟩:=zh4 b.cor e r;exact znO t w
 ·refine zf7 l (boxed h) (zjo h) _ _ _ _ _ 0 a (zhx p) (fun f r x k s=>?_) om m;have⟨b,q,d⟩:=(zbL a.rowsOK pivots _ a.cor).1 f k;have e:=zc4 b.cor a.given (boxed h) d;exfalso
  apply o;intro i f;have⟨a,d⟩:=e i f;have e:=b.cor.pos;exact zar (Int.le_trans a d) om
end

section
open V4
variable {A B C:Nat}{l:L_}{x y:Int}
def Lim (B:Nat)(x:Int):Prop:=-(B:Int)<=x/\x<=(B:Int)
theorem zd1:Lim B x↔x.natAbs<=B:=by unfold Lim;omega
theorem Lim.mono(h:Lim B x)(a:B<=C):Lim C x:=by unfold Lim at *;omega
theorem Lim.zero(B:Nat):Lim B 0:=by unfold Lim;omega
abbrev Xr:=@Lim.zero
theorem Lim.add(h:Lim A x)(k:Lim B y):Lim (A+B) (x+y):=by unfold Lim at *;omega
theorem Lim.sub(h:Lim A x)(k:Lim B y):Lim (A+B) (x-y):=by unfold Lim at *;omega
theorem Lim.neg(h:Lim A x):Lim A (-x):=by unfold Lim at *;omega
theorem Lim.mul(h:Lim A x)(k:Lim B y):Lim (A*B) (x*y):=by
 rw[zd1]at *;rw[zbv];exact Z7 h k
theorem Lim.ofNat(h:A<=B):Lim B (A:Int):=by unfold Lim;omega
abbrev Xq:=@Lim.ofNat
def jk (B:Nat)(x:V4):Prop:=Lim B x.a/\Lim B x.b/\Lim B x.c/\Lim B x.d
theorem jk.mono{x:V4}(h:jk B x)(a:B<=C):jk C x:=⟨h.1.mono a,h.2.1.mono a,h.2.2.1.mono a,h.2.2.2.mono a⟩
theorem jk.add{x y:V4}(h:jk A x)(k:jk B y):jk (A+B) (x.add y):=⟨h.1.add k.1,h.2.1.add k.2.1,h.2.2.1.add k.2.2.1,h.2.2.2.add k.2.2.2⟩
theorem jk.smul{t:Int}{y:V4}(h:Lim A t)(k:jk B y):jk (A*B) (y.smul t):=⟨h.mul k.1,h.mul k.2.1,h.mul k.2.2.1,h.mul k.2.2.2⟩
theorem jk.dot{x y:V4}(h:jk A x)(k:jk B y):Lim (4*(A*B)) (x.dot y):=
 ((((h.1.mul k.1).add (h.2.1.mul k.2.1)).add (h.2.2.1.mul k.2.2.1)).add (h.2.2.2.mul k.2.2.2)).mono om
theorem jk.sign{s:Int}{x:V4}(h:jk B x)(hs:s=1\/s=-1):jk B (x.smul s):=
 (jk.smul (A:=1) (by unfold Lim;omega) h).mono om
theorem zdg{p q r s:Int}(a:Lim B p)(b:Lim B q)(d:Lim B r)(hs:Lim B s):Lim (2*(B*B)) (p*q-r*s):=((a.mul b).sub (d.mul hs)).mono om
theorem zln{p q r z:Int}(a:Lim B p)(b:Lim B q)(d:Lim B r)(e:Lim C x)(f:Lim C y)(h:Lim C z):Lim (3*(B*C)) (p*x-q*y+r*z):=(((a.mul e).sub (b.mul f)).add (d.mul h)).mono om
theorem zhy{u v w:V4}(a:jk B u)(f:jk B v)(p:jk B w):jk (6*(B*(B*B))) (crs u v w):=by
 have⟨k,l,m,o⟩:=a;have⟨a,b,d,e⟩:=f;have⟨f,w1,h,i⟩:=p;have p:3*(B*(2*(B*B)))=6*(B*(B*B)):=by rw[jq B 2,<-Zt]
 rw[<-p];exact⟨zln l m o (zdg d i e h) (zdg b i e w1) (zdg b h d w1),(zln k m o (zdg d i e h) (zdg a i e f) (zdg a h d f)).neg,
  zln k l o (zdg b i e w1) (zdg a i e f) (zdg a w1 b f),(zln k l m (zdg b h d w1) (zdg a h d f) (zdg a w1 b f)).neg⟩
theorem zoN{R:Nat->V4}(h:∀i,jk B (R i))(j:Nat):jk (6*(B*(B*B))) (QL R j):=by
 unfold QL;split
 ·exact zhy (h 1) (h 2) (h 3)
 ·exact(zhy (h 0) (h 2) (h 3)).sign (.inr rfl)
 ·exact zhy (h 0) (h 1) (h 3)
 ·exact(zhy (h 0) (h 1) (h 2)).sign (.inr rfl)
def JL (B:Nat):Nat:=24*(B*(B*(B*B)))
theorem det_bd{R:Nat->V4}(h:∀i,jk B (R i)):Lim (JL B) (Jb R):=by
 refine((h 0).dot (zhy (h 1) (h 2) (h 3))).mono (jm ?_);unfold JL;rw[jq B 6,<-Zt]
theorem sum_bd{L:Nat->V4}{m:Nat->Int}(a:∀i,jk A (L i))(hm:∀i,Lim B (m i)):jk (4*(B*A)) (zeT L m):=
 ((((jk.smul (hm 0) (a 0)).add (jk.smul (hm 1) (a 1))).add (jk.smul (hm 2) (a 2))).add (jk.smul (hm 3) (a 3))).mono om
def Zu (B:Nat)(l:L_):Prop:=∀z∈l,Lim B z
theorem Zu.at(h:Zu B l)(i:Nat):Lim B (l.getD i 0):=by
 rw[zk];by_cases a:i<l.length
 ·rw[zg a];exact h _ (zJ a)
 ·rw[qL om];exact Xr B
theorem Zu.toV(h:Zu B l):jk B (toV l):=⟨h.at 0,h.at 1,h.at 2,h.at 3⟩
theorem jk.list(o:l.length<=4)(h:jk B (Go.Proofs.YthnopjedhcapmaaGreatDoor.toV l)):Zu B l:=by
 intro z m;obtain⟨i,k,rfl⟩:=qM m;have e:l[i]=l.getD i 0:=by rw[zk,zg k];rfl
 rw[e];have⟨a,b,d,f⟩:=h;rcases lt4 (show i<4 by omega)with rfl|rfl|rfl|rfl
 ·exact a
 ·exact b
 ·exact d
 ·exact f
def Jm (B:Nat)(r:L_×Int):Prop:=Zu B r.1/\Lim B r.2
structure LimC (B:Nat)(c:Cor):Prop where
 over:c.over<=JL B
 point:Zu (JL B) c.point
 edges:∀e∈c.edges,Jm B e.row/\Zu (JL B) e.loss
theorem zrS(a:1<=B)(i:Nat):jk B (QV i):=by
 unfold QV jk Lim;simp only;refine⟨?_,?_,?_,?_⟩<;>split<;>omega
theorem cor_bd{n:Nat}{aims:L_}{c:Cor}(h:Qy n aims c)(k:1<=B)(d:∀e∈c.edges,Jm B e.row):LimC B c:=by
 obtain⟨_,f,_,o,p⟩:=h.det;have l:=h.n4;have b:∀i,jk B (eR c i):=by
  intro i;unfold eR;cases a:c.edges[i]? with
  |none=>exact zrS k i
  |some e=>exact(d e (zx a)).1.toV
 have m:∀i,Lim B (eM c i):=by
  intro i;unfold eM;cases a:c.edges[i]? with
  |none=>exact Xr B
  |some e=>exact(d e (zx a)).2
 have q:6*(B*(B*B))<=JL B:=by
  unfold JL;have:B*(B*B)<=B*(B*(B*B)):=Jd _ k;omega
 refine⟨?_,?_,fun e a=>⟨d e a,?_⟩⟩
 ·have d:=det_bd b;unfold Lim at d;rcases f with rfl|rfl<;>omega
 ·refine jk.list (by rw[h.plen];exact l) ?_;rw[p];refine((sum_bd (zoN b) m).sign f).mono (jm ?_);unfold JL;rw[jq B 6,<-Zt]
 ·obtain⟨i,d,rfl⟩:=qM a;refine jk.list (by rw[(h.elen _ a).2];exact l) ?_;rw[o i c.edges[i] (zg d)];exact((zoN b i).sign f).mono q
theorem zkc{α:Type}{f:α->Int}:∀(l:List α),(∀e∈l,Lim B (f e))->Lim (l.length*B) (l.map f).sum
 |[],_=>by simpa using Xr 0
 |x::l,h=>by
  rw[Zk,QI,qi];refine((h x (qA)).add (zkc l fun e a=>h e (qq _ a))).mono (jm ?_);rw[Zg];omega
theorem zoO{n:Nat}{aims:L_}{c:Cor}{r:Nat}(h:Qy n aims c)(f:r<5)(k:zfP n aims c r)(o:∀e∈c.edges,Jm B e.row):Jm (4*B) (Zd n aims c r):=by
 have i:=h.n4;have a:=h.pos;have d:=k.shared;have m:=QE a d;have s:∀e∈c.edges,Zc aims c.over r e<c.over:=by
  intro e a;have b:=zdx h f a;have p:=zcB (rk aims (toV e.loss) r) (show(0:Int)<(c.over:Int)by omega);omega
 have q:c.edges.length<=4:=by rw[h.len];exact i
 have l:∀f:Edg->Int,(∀e∈c.edges,Lim B (f e))->Lim ((c.over*Zm n aims c r)*(4*B)) (c.edges.map fun e=>(Zc aims c.over r e:Int)*f e).sum:=by
  intro f f;refine(zkc (B:=c.over*B) c.edges fun e a=>((Xq (zcw (s e a))).mul (f e a))).mono ?_;have b:c.edges.length*(c.over*B)<=4*(c.over*B):=zZ _ q;have p:4*(c.over*B)=c.over*(4*B):=by rw[jq]
  have f:c.over*(4*B)<=(c.over*Zm n aims c r)*(4*B):=zZ _ (JM _ d);omega
 have p:=k.row;have f:=k.most;generalize c.over*Zm n aims c r=D at l m p f;constructor
 ·refine jk.list (by rw[k.len];exact i) ?_;have d:∀i,Lim (4*B) ((Zd n aims c r).1.getD i 0):=by
   intro i;have b:=l (fun e=>e.row.1.getD i 0) (fun e a=>(o e a).1.at i);rw[<-p i,zd1,zbv,Q9]at b;rw[zd1];exact Nat.le_of_mul_le_mul_left b m
  exact⟨d 0,d 1,d 2,d 3⟩
 ·have b:=l (fun e=>e.row.2) (fun e a=>(o e a).2);rw[f];generalize (c.edges.map fun e=>(Zc aims c.over r e:Int)*e.row.2).sum=s at *;obtain⟨a,d⟩:=b;have b:(0:Int)<(D:Int):=om;rw[J0]at a d;constructor
  ·refine(zbj b).2 ?_;rw[Int.neg_mul,Qp];exact a
  ·exact Int.ediv_le_of_le_mul b (by rw[Qp];exact d)
end

section
open Go.RowKit
variable {A B N b0 g gm k:Nat}{M:Nat->Prop}{q:Nat->Int}{w w1:H}{z:Int}
theorem zoP:∀{zs xs:L_} {i:Nat} {z x:Int},zs[i]? =E z->xs[i]? =E x->T.dotZ (zs.take (i+1)) (xs.take (i+1))=T.dotZ (zs.take i) (xs.take i)+z*x
 |[],_,_,_,_,h,_=>by simp at h
 |_::_,[],_,_,_,_,h=>by simp at h
 |a::zs,b::xs,0,z,x,h,k=>by
  simp at h k;subst h k;simp[T.dotZ]
 |a::zs,b::xs,i+1,z,x,h,k=>by
  have l:=zoP (by simpa using h) (by simpa using k);have f:∀(c d:Int) (us e:L_),T.dotZ (c::us) (d::e)=c*d+T.dotZ us e:=fun c d us e=>by simp[T.dotZ]
  rw[zaN,zaN,zaN,zaN,f,f,l];omega
theorem zeW(w:H)(u v:Value)(zs xs:L_)(U:Jf w u zs)(X:Jf w v xs)(p:zs.length=xs.length)(hn:zs.length<=4)(Z:Zu 1000000 zs)(Y:Zu 1000000 xs):
 C_ 12 #[u,v] w fun e w'=>e=Xa (i_ (T.dotZ zs xs))/\b_ w w':=by
 obtain⟨_,_,rfl,R⟩:=U;obtain⟨_,_,rfl,q⟩:=X;rw[<-p]at q⊢;have F:=zf R;have I:=zf q;have d:=zf p;go_enter func12,ntmps12
 go_wp2;go_loopw [5,6] (fun nv b wr=>∃(i:Nat) (m:Int),i<=zs.length/\nv=i_ m/\b=i_ (i:Nat)/\Lim (i*1000000000000) m/\Hid (m=T.dotZ (zs.take i) (xs.take i))/\Ext w wr) (fun _ b _=>((zs.length:Int)-intOf b).toNat)
 case atStart=>exact⟨0,0,om,rfl,rfl,Xr _,rfl,Xe _⟩
 case round=>
  obtain⟨i,m,_,rfl,rfl,hm,f,a⟩:=hrel;by_cases l:i<zs.length
  ·obtain⟨g,off,rfl,_,P⟩:=F.out om;obtain⟨N,a0,rfl,_,Q⟩:=I.out om;have o:i<xs.length:=by have:=d.out;omega
   have t:=zg l;have s:=zg o;have K:=a.cell (P i _ t);have L:=a.cell (Q i _ s);have J:=Z _ (zJ l);have bx:=Y _ (zJ o);have B:=zf (zoP t s);generalize zs[i]=z at *;generalize xs[i]=x at *;have h:=J.mul bx;have k:=hm.add h;have w1:wrap64 (z*x)=z*x:=Go.IntWalk.wrap64_in _ (by unfold Lim at h;omega);have w2:wrap64 (m+z*x)=m+z*x:=Go.IntWalk.wrap64_in _ (by unfold Lim at k;omega);have a2:IntKind.i64.wrap (m+IntKind.i64.wrap (z*x))=m+z*x:=by
    rw[Go.IntWalk.i64_left,Go.IntWalk.i64_left,w1,w2]
   have D:Hid (m+z*x=T.dotZ (zs.take (i+1)) (xs.take (i+1))):=by rw[Hid,B.out,f.out]
   have y:=zf (k.mono (show i*1000000000000+1000000*1000000<=(i+1)*1000000000000 by omega));have y0:=Xe wr;go_wp2;refine ZO (S:=fun W=>W.cell? ⟨g,off+i,O⟩=E (i_ z)/\W.cell? ⟨N,a0+i,O⟩=E (i_ x)) kr ⟨K,L⟩ (fun a1=>?_);refine tkl [0,1,2,3,4,5,6,7,8,9,10,11] ?_;refine zV kr ?_ _;go_wp2;go_roundw
   case rel=>exact⟨i+1,m+z*x,om,rfl,by go_num,y.out,D,a.drew⟩
   case measure=>simp[intOf];omega
  ·obtain rfl:i=zs.length:=om;have C:Hid (m=T.dotZ zs xs):=by
    rw[Hid,f.out,Zx,d.out,Zx]
   go_wp2;go_ret;exact⟨by rw[<-C.out];rfl,a⟩
theorem ziH{l:L_}(h:Zu B l)(j:Nat):Zu B (l.take j):=fun z a=>h z (ZY a)
theorem zcC:∀{zs xs:L_},Zu A zs->Zu B xs->Lim (zs.length*(A*B)) (T.dotZ zs xs)
 |[],_,_,_=>by simpa[T.dotZ]using Xr _
 |z::zs,[],_,_=>by simpa[T.dotZ]using Xr _
 |z::zs,x::xs,h,k=>by
  have e:T.dotZ (z::zs) (x::xs)=z*x+T.dotZ zs xs:=by simp[T.dotZ]
  rw[e,qi];refine(((h z qA).mul (k x qA)).add (zcC (fun y a=>h y (qq _ a)) (fun y a=>k y (qq _ a)))).mono (jm ?_);rw[Zg];omega
theorem Lim.lt(h:Lim B z)(a:B<N):z.natAbs<N:=qu (zd1.1 h) a
theorem zkd(K:Nat)(q:K+K<=1073741823)(w:H)(v u:Value)(zs xs:L_)(h:Zo w v zs)(k:Zo w u xs)(x:zs.length=xs.length)(a:zs.length<=4)(b:Zu A zs)(d:Zu B xs)(s:A<4294967296^K)(hb:B<4294967296^K)(hm:4*(A*B)<4294967296^K):
 C_ 178 #[ag #[v],u] w fun e w'=>∃t:WT,e=Xa t.val/\zy w' t.val (T.dotZ zs xs)/\b_ w w':=by
 have⟨D,o,a,p⟩:=h;have⟨C,y,f,z⟩:=k;obtain⟨fa,i,rfl⟩:=a.shape;obtain⟨l,m,rfl⟩:=f.shape;rw[zm]at a f⊢;rw[zm];refine zoQ K q w fa l i m D C zs xs o a p y f z x om (fun z a=>(b z a).lt s) (fun z a=>(d z a).lt hb) (fun a i f l=>((b a i).mul (d f l)).lt om) (fun j=>?_);refine(zcC (ziH b j) (ziH d j)).lt (qu ?_ hm);exact zZ _ (by rw[zX];omega)
theorem zy.put{t:WT}{a:A_}{l cap:Nat}{b':Bool}(h:zy w t.val z)(b:w.cell? (Xd g 0 O)=E (G b'))(d:w.cell? (Xd g 1 O)=E (V a l cap)):
 zy ((w.setCell (Xd g 0 O) (G t.b)).setCell (Xd g 1 O) t.sv) t.val z:=by
 have⟨_,_,_,_,a,f,e⟩:=h.parts;have⟨tb,_,_,_⟩:=t;simp only[WT.val,WT.sv,zdU,Array.mk.injEq,za5,Value.bool.injEq,qp,zel]at a;obtain⟨rfl,rfl,rfl,rfl⟩:=a;exact QJ f e b d
theorem zjp(K:Nat)(i:K+K<=1073741823)(w:H)(v u:Value)(zs xs:L_)(h:Zo w v zs)(k:Zo w u xs)(m:zs.length=xs.length)(o:zs.length<=4)(d:Zu A zs)(f:Zu B xs)(l:A<4294967296^K)(hb:B<4294967296^K)(hm:4*(A*B)<4294967296^K):
 C_ 105 #[ag #[v],u] w fun e w'=>∃t:WT,e=Xa t.val/\zy w' t.val (T.dotZ zs xs)/\b_ w w':=by
 have b:=zf (fun W (a:Ext w W)=>zkd K i W v u zs xs (h.ext a) (k.ext a) m o d f l hb hm);have d:=Xm (w.alloc (cl #[v] 111)) (G false) (V_) 64;have a:=zaA w (cl #[v] 111) (cl #[G false,V_] 64);rw[zL]at d;clear h k;go_enter func105,ntmps105
 go_wp2_with fail
 refine(b.out _ (((Xe w).alloc _).alloc _)).mono ?_;rintro e w1 ⟨t,rfl,m,b⟩;obtain⟨i,l,_,_,_⟩:=d.below b;have f:=zf (m.put i l);have s:=a.trans (b.mono a.size);obtain⟨tb,o,q,p⟩:=t;simp only[WT.val,WT.sv]at f⊢;clear b a d m;go_wp2;exact zH (v:=ag #[G tb,V o q p]) (by simp[results,results105,go_sem,i,l]) rfl ⟨⟨tb,o,q,p⟩,rfl,f.out,(s.setCell sp _).setCell sp _⟩
structure CT where
 a:S_
 o:S_
 p:S_
 e:S_
def sl3 (x:S_):Value:=V x.1 x.2.1 x.2.2
def CT.val (c:CT):Value:=ag #[sl3 c.a,sl3 c.o,sl3 c.p,sl3 c.e]
theorem zax(w:H)(a b c:Obj):(((w.alloc a).alloc b).alloc c).heap[w.heap.size]? =E a/\(((w.alloc a).alloc b).alloc c).heap[w.heap.size+1]? =E b/\(((w.alloc a).alloc b).alloc c).heap[w.heap.size+1+1]? =E c/\Ext w (((w.alloc a).alloc b).alloc c):=by
 obtain⟨d,e⟩:=Xk w a b;refine⟨(qH _ _ _ so).trans d,(qH _ _ _ sp).trans e,?_,(((Xe w).alloc _).alloc _).alloc _⟩;have:=zC ((w.alloc a).alloc b) c;simpa using this
theorem zlZ{b:Nat}{W:H}{o:Obj}(h:Wr (fun k=>k=g) w W)(hb:w.heap[b]? =E o)(a:b≠g):W.heap[b]? =E o:=(h.block b (zd.1 hb).1 a).trans hb
theorem zrT{W:H}(h:Wr (fun k=>k=g) w W)(a b:Value):Wr (fun k=>k=g) w ((W.setCell (Xd g 0 O) a).setCell (Xd g 1 O) b):=
 (h.trans (zv (U:=fun k=>k=g) rfl a)).trans (zv (U:=fun k=>k=g) rfl b)
theorem zl0(K:Nat)(hK:K+K<=1073741823)(w:H)(c:CT)(r:NT)(over:Nat)(pt g:L_)(m:Int)(ho:NatV w (sl3 c.o) over)(hp:Zo w (sl3 c.p) pt)(hg:Zo w r.fv g)(hm:zy w r.t.val m)(hl:g.length=pt.length)(hn:g.length<=4)(hA:Zu A g)(hB:Zu B pt)(hAm:Lim A m)(hBo:over<=B)(ha:A<4294967296^K)(hb:B<4294967296^K)(hab:4*(A*B)<4294967296^K):
 C_ 164 #[c.val,r.val] w fun e w'=>∃t:WT,e=Xa t.val/\zy w' t.val (m*(over:Int)-T.dotZ g pt)/\b_ w w':=by
 obtain⟨⟨aa,al,ac⟩,⟨oa,ol,oc⟩,⟨pa,pl,pc⟩,⟨ea,el,ec⟩⟩:=c;obtain⟨⟨fa,fl,fc⟩,⟨tb,⟨ta,tl,tc⟩⟩,nn⟩:=r;simp only[CT.val,NT.val,sl3,NT.fv,WT.sv,WT.val]at *;obtain⟨n0,n1,n2,hX⟩:=zax w (cl #[V aa al ac,V oa ol oc,V pa pl pc,V ea el ec] 114) (cl #[V fa fl fc,G tb,V ta tl tc,i_ nn] 106) (cl #[G false,V_] 64);go_enter Tryz.func164,Tryz.ntmps164
 go_wp2_with fail
 generalize (((w.alloc (cl #[V aa al ac,V oa ol oc,V pa pl pc,V ea el ec] 114)).alloc (cl #[V fa fl fc,G tb,V ta tl tc,i_ nn] 106)).alloc (cl #[G false,V_] 64))=w0 at *;have HK:=zf (fun W (hW:Wr (fun k=>k=w.heap.size+1+1) w0 W)=>
  have q0:=zlZ hW n0 (by omega);have q1:=zlZ hW n1 (by omega);Xc (ze _ _ 1 _ _ _ q0) (Xc (ze _ _ 2 _ _ _ q0) (Xc (ze _ _ 0 _ _ _ q1) (Xc (ze _ _ 1 _ _ _ q1) (ze _ _ 2 _ _ _ q1)))))
 have hb3:(m*(over:Int)).natAbs<4294967296^K:=(hAm.mul (Xq hBo)).lt (by omega);have hb4:=(zcC hA hB).lt (qu (zZ _ hn) hab);have HF:=zf (fun W1 (h1:Ext w W1)=>zaR W1 _ over (ho.below h1));have HT:=zf (fun W1 t (h1:Ext w W1) (ht:zy W1 t over)=>zam W1 _ t m over K K hK (hm.below h1) ht (hAm.lt ha) (by simpa using qu hBo hb));have HA:=zf (fun W1 (h1:Ext w W1)=>zkd K hK W1 _ _ g pt (hg.ext h1) (hp.ext h1) hl hn hA hB ha hb hab);refine ZO (S:=fun W=>W.cell? (y_ w 1)=E (V oa ol oc)/\W.cell? (y_ w 2)=E (V pa pl pc)/\W.cell? (x_ w 0)=E (V fa fl fc)/\W.cell? (x_ w 1)=E (G tb)/\W.cell? (x_ w 2)=E (V ta tl tc)) (by kernel_rfl) (HK.out w0 (Xj _ _)) (fun hHeld=>?_);refine tkl [0,1,2,3,4,7,8,9,10,11] ?_;refine rcl 5 (HF.out _ hX.drew) ?_;rintro e wA ⟨tA,rfl,hA1,hbA⟩;have xA:=ZG hbA;refine bk (HK.out _ (Xg xA)) fun hHeld=>?_
 refine rcl 6 (HT.out _ _ (hX.trans xA) hA1) ?_;rintro e wB ⟨tB,rfl,hB1,hbB⟩;have xB:=xA.trans (Xf hbB);refine bk (HK.out _ (Xg xB)) fun hHeld=>?_
 refine rcl 12 (HA.out _ (hX.trans xB)) ?_;rintro e wC ⟨tC,rfl,hC1,hbC⟩;have xC:=xB.trans (Xf hbC);refine bk (HK.out _ (Xg xC)) fun hHeld=>?_
 refine rcl 13 (zgD _ _ _ _ _ _ (by omega) (hB1.below (Xf hbC)) hC1 hb3 hb4) ?_;rintro e wD ⟨tD,rfl,hD1,hbD⟩;have xD:=xC.trans (Xf hbD);obtain⟨⟨db,⟨da,dl,dc⟩⟩,rfl⟩:=hD1.shape;have q2:=(xD.block _ (zd.1 n2).1).trans n2;have c0:=ze _ _ 0 _ _ _ q2;have c1:=ze _ _ 1 _ _ _ q2;have f0:=Xh (j:=0) q2;have f1:=Xh (j:=1) q2;have HP:=zf (hD1.put c0 c1);have HB:=zf (hX.trans xD);simp only[WT.val,WT.sv]at HP⊢;refine bk (HK.out _ (Xg xD)) fun hHeld=>?_
 refine rd1 14 fun K hK=>?_;go_simp;refine hK.out _ _ (HK.out _ (zrT (Xg xD) _ _)) (h:=fun hHeld=>?_);refine zV (by kernel_rfl) ?_ _;go_wp2;exact zH (v:=ag #[G db,V da dl dc]) (by simp[results,Tryz.results164,go_sem,c0,c1]) rfl ⟨⟨db,da,dl,dc⟩,rfl,HP.out,(HB.out.setCell (by simp;omega) _).setCell (by simp;omega) _⟩
attribute [local go_sem] zD zW qJ
def GwI (w1:H)(b0 g gm N:Nat)(q:Nat->Int)(k:Nat)(M:Nat->Prop)(A:H):Prop:=
 Wr (fun b=>b=g\/b=gm) w1 A/\k<=N/\∃(v:Value) (us:List WT),us.length=k/\A.heap[g]? =E (cl #[v] 100)/\Grw b0 64 2 A v (us.map WT.cells)/\(∀(i:Nat) (u:WT),us[i]? =E u->zy A u.val (q i))/\(∀b,v.ownBlock=E b->b=gm\/w1.heap.size<=b)/\∀b,M b↔b=g\/v.ownBlock=E b
theorem GwI.keep{A B:H}(h:GwI w1 b0 g gm N q k M A)(a:zn w1.heap.size A B):GwI w1 b0 g gm N q k M B:=by
 have⟨b,d,v,us,e,f,i,l,m,o⟩:=h;exact⟨b.keep a,d,v,us,e,a.block _ _ f (.inr rfl),i.keep a,fun i u b=>(l i u b).keep a,m,o⟩
theorem GwI.list{A:H}{zs:L_}(h:GwI w1 b0 g gm zs.length q zs.length M A)(l:∀i,i<zs.length->q i=zs.getD i 0):∃f:S_,A.heap[g]? =E (cl #[sl3 f] 100)/\Zo A (sl3 f) zs:=by
 have⟨_,_,v,us,d,e,a,k,_,_⟩:=h;obtain⟨b,c,rfl⟩:=a.shape;refine⟨(b,_,c),e,us,d,a.list,fun i t z b a=>?_⟩;have:=k i t b;have b:=(zo.1 a).1;rw[l i b,zk,a]at this;exact this
theorem GwI.lt{A:H}(h:GwI w1 b0 g gm N q k M A):∀b,M b->b<A.heap.size:=by
 have⟨_,_,v,us,_,d,e,_,_,f⟩:=h;intro b a;rcases(f b).1 a with rfl|a
 ·exact(zd.1 d).1
 ·exact(e.type b a).1.lt
theorem GwI.more{A A2 A4 A5:H}{g5 cap5:Nat}{v:Value}{us:List WT}{u:WT}(h:GwI w1 b0 g gm N q k M A)(Q:k<N)(R:q k=z)(l:zn w1.heap.size A A2)(p:Ext A2 A4)(d:g<w1.heap.size)(f:g≠gm)(e:A.heap[g]? =E (cl #[v] 100))(K:us.length=k)(F:Grw b0 64 2 A v (us.map WT.cells))(m:∀(i:Nat) (u:WT),us[i]? =E u->zy A u.val (q i))(s:zy A4 u.val z)(own:A5.ownsRow b0 64 2 (V (E (Xd g5 0 O)) (us.length+1) cap5) (us.length+1) ((us.map WT.cells).flatten++u.cells))(grow:A4.grownBy A5 v.ownBlock)(x:v.ownBlock=E g5\/A4.heap.size<=g5)(dig:qK A5 g5):
 Wr M A2 (A5.setCell (Xd g 0 O) (V (E (Xd g5 0 O)) (us.length+1) cap5))/\∃a,GwI w1 b0 g gm N q (k+1) a (A5.setCell (Xd g 0 O) (V (E (Xd g5 0 O)) (us.length+1) cap5))/\∀b,a b->M b\/A.heap.size<=b:=by
 obtain⟨D,_,d,_,_,f,_,_,y,B⟩:=h;have a:d=v:=by
  have:=f.symm.trans e;simpa using this
 subst a;have I:=(F.keep l).ext p;have L:∀b,d.ownBlock=E b->b≠g:=fun b a e=>by rcases y b a with h|h<;>omega
 have C:=Qh grow (fun b a=>a);have o:=p.size;have o:=l.size;have o:=D.size;have o:=(p.block g (by have:=(zd.1 (l.block _ _ f (.inr rfl))).1;omega)).trans (l.block _ _ f (.inr rfl));have t:=C.some o (fun e=>L g e rfl);have P:(A5.setCell (Xd g 0 O) (V (E (Xd g5 0 O)) (us.length+1) cap5)).heap[g]? =E (cl #[V (E (Xd g5 0 O)) (us.length+1) cap5] 100):=by
  rw[Xl t];rfl
 have w:Wr (fun b=>b=g) A5 (A5.setCell (Xd g 0 O) (V (E (Xd g5 0 O)) (us.length+1) cap5)):=zv (U:=fun b=>b=g) rfl _;have f:Wr (fun b=>b=g\/d.ownBlock=E b) A2 (A5.setCell (Xd g 0 O) (V (E (Xd g5 0 O)) (us.length+1) cap5)):=((Xg p).trans (C.mono fun b a=> .inr a)).trans (w.mono fun b a=> .inl a);have S:A5.ownsRow b0 64 2 (V (E (Xd g5 0 O)) ((us.map WT.cells).length+1) cap5) ((us.map WT.cells).length+1) ((us.map WT.cells).flatten++u.cells):=by rw[zm];exact own
 have J:=I.more (cs:=u.cells) rfl S dig;rw[zm]at J;have S:g5≠g:=by
  rintro rfl;rcases x with h|h
  ·exact L _ h rfl
  ·have:=(zd.1 o).1;omega
 have L:∀b,b=g->qK A5 b:=fun b a=>by
  rw[a];exact zE t (by intro u s;simp at s;subst s;intro n e;obtain⟨_,c,rfl⟩:=F.shape;cases e)
 have F:=I.dig;refine⟨f.mono fun b a=>(B b).2 a,fun b=>b=g\/b=g5,⟨?_,Q,V (E (Xd g5 0 O)) (us.length+1) cap5,us ++ [u],by rw[zM,K];rfl,P,?_,fun i t o=>?_,fun b a=>?_,fun b=>?_⟩,fun b a=>?_⟩
 ·have d:=D.keep l;refine⟨f.os.trans d.os,f.tape.trans d.tape,f.output.trans d.output,zF d.size f.size,fun b a m=>?_⟩;refine(f.block b (zK a d.size) ?_).trans (d.block b a m);rintro(e|e);·exact m (.inl e)
  ·rcases y b e with e|e
   ·exact m (.inr e)
   ·omega
 ·rw[Z6];refine J.same w.size (fun b a=>?_);have d:g5=b:=by simpa[Value.ownBlock]using a
  exact w.block b (by rw[<-d];obtain⟨_,e,_⟩:=dig.1;exact(zd.1 e).1) om
 ·have up:∀{t:WT} {e:Int},zy A4 t.val e->zy (A5.setCell (Xd g 0 O) (V (E (Xd g5 0 O)) (us.length+1) cap5)) t.val e:=fun h=>(h.wr C F).wr w L
  by_cases e:i<us.length
  ·rw[zS e]at o;exact up (((m i t o).keep l).below p)
  ·have e:i=us.length:=by
    have:=(zo.1 o).1;rw[zM,ZH]at this;omega
   rw[e,zG (zh _),Qn]at o;have l:u=t:=by simpa using o
   have f:q i=z:=by rw[e,K];exact R
   rw[f,<-l];exact up s
 ·have d:g5=b:=by simpa[Value.ownBlock]using a
  subst d;rcases x with h|h
  ·exact y _ h
  ·exact .inr om
 ·simp only[Value.ownBlock,qY,qN];constructor
  ·rintro(h|h);·exact .inl h
   ·exact .inr h.symm
  ·rintro(h|h);·exact .inl h
   ·exact .inr h.symm
 ·rcases a with rfl|rfl
  ·exact .inl ((B _).2 (.inl rfl))
  ·rcases x with h|h
   ·exact .inl ((B _).2 (.inr h))
   ·exact .inr om
end

section
open Go.RowKit
section

variable {α:Type} {te:TypeId} {sz:Nat} {tb:TypeId} {bx:Value->W_} {cells:α->List Value} {w1 A A2 A4 A5:World} {b0 g gm g5 cap5 j:Nat} {v:Value} {us:List α} {u:α} {M:Nat->Prop}
def GrJ (te:TypeId)(sz:Nat)(tb:TypeId)(bx:Value->W_)(cells:α->List Value)(w1:H)(b0 g gm:Nat)(v:Value)(us:List α)(M:Nat->Prop)(A:H):Prop:=
 Wr (fun b=>b=g\/b=gm) w1 A/\A.heap[g]? =E (cl (bx v) tb)/\Grw b0 te sz A v (us.map cells)/\(∀b,v.ownBlock=E b->b≠g/\(b=gm\/w1.heap.size<=b))/\∀b,M b↔b=g\/v.ownBlock=E b
theorem GrJ.keep (h:GrJ te sz tb bx cells w1 b0 g gm v us M A){B:H}(a:zn w1.heap.size A B):GrJ te sz tb bx cells w1 b0 g gm v us M B:=by
 have⟨b,d,e,f,i⟩:=h;exact⟨b.keep a,a.block _ _ d (.inr rfl),e.keep a,f,i⟩
theorem GrJ.lt (h:GrJ te sz tb bx cells w1 b0 g gm v us M A):∀b,M b->b<A.heap.size:=by
 have⟨_,d,e,_,f⟩:=h;intro b a;rcases(f b).1 a with rfl|a
 ·exact(zd.1 d).1
 ·exact(e.type b a).1.lt
theorem GrJ.far (h:GrJ te sz tb bx cells w1 b0 g gm v us M A)(i:∀x∈(bx v).toList,ZM x):∀b,M b->qK A b/\(qQ A b te\/qQ A b tb):=by
 have⟨_,d,e,_,f⟩:=h;intro b a;rcases(f b).1 a with rfl|a
 ·exact⟨zE d i,.inr ⟨_,_,d⟩⟩
 ·exact⟨e.dig b a,.inl (e.type b a).1⟩
theorem GrJ.start (hg:A.heap[g]? =E (cl (bx (V_)) tb)):GrJ te sz tb bx cells A b0 g gm (V_) [] (fun b=>b=g) A:=
 ⟨Xj _ _,hg,Xt _ _ _ _,(fun b a=>by cases a),fun b=>by simp[Value.ownBlock]⟩
theorem GrJ.fresh (h:GrJ te sz tb bx cells w1 b0 g gm v us M A)(e:zn w1.heap.size A A2)(a:Wr (fun b=>A.heap.size<=b) A2 A4):GrJ te sz tb bx cells w1 b0 g gm v us M A4:=by
 have⟨d,m,k,o,f⟩:=h.keep e;have l:=h.lt;have e:=h.1.size;refine⟨⟨a.os.trans d.os,a.tape.trans d.tape,a.output.trans d.output,zF d.size a.size,fun b e p=>(a.block b (zK e d.size) (fun i=>om)).trans (d.block b e p)⟩,a.some m (fun i=>by have:=l g ((f g).2 (.inl rfl));omega),k.same a.size (fun b e=>?_),o,f⟩;have:=l b ((f b).2 (.inr e));exact a.block b (k.type b e).1.lt (fun i=>om)
theorem GrJ.more (h:GrJ te sz tb bx cells w1 b0 g gm v us M A)(e:zn w1.heap.size A A2)(f:Wr (fun b=>A.heap.size<=b) A2 A4)(d:g<w1.heap.size)
 (own:A5.ownsRow b0 te sz (V (E (Xd g5 0 O)) (us.length+1) cap5) (us.length+1) ((us.map cells).flatten++cells u)) (w:(cells u).length=sz) (grow:A4.grownBy A5 v.ownBlock) (k:v.ownBlock=E g5\/A4.heap.size<=g5) (dig:qK A5 g5)
 (t:(bx v).setIfInBounds j (V (E (Xd g5 0 O)) (us.length+1) cap5)=bx (V (E (Xd g5 0 O)) (us.length+1) cap5)):
 Wr M A4 (A5.setCell (Xd g j O) (V (E (Xd g5 0 O)) (us.length+1) cap5))/\∃a,GrJ te sz tb bx cells w1 b0 g gm (V (E (Xd g5 0 O)) (us.length+1) cap5) (us ++ [u]) a (A5.setCell (Xd g j O) (V (E (Xd g5 0 O)) (us.length+1) cap5))/\∀b,a b->M b\/A.heap.size<=b:=by
 have a:=h.lt;have a:=h.1.size;have a:=e.size;have a:=f.size;obtain⟨d,m,s,i,l⟩:=h.fresh e f;have p:=Qh grow (fun b a=>a);have q:=p.some m (fun e=>(i g e).1 rfl);have o:Wr (fun b=>b=g) A5 (A5.setCell (Xd g j O) (V (E (Xd g5 0 O)) (us.length+1) cap5)):=zv (U:=fun b=>b=g) rfl _;have f:Wr (fun b=>b=g\/v.ownBlock=E b) A4 (A5.setCell (Xd g j O) (V (E (Xd g5 0 O)) (us.length+1) cap5)):=(p.mono fun b a=> .inr a).trans (o.mono fun b a=> .inl a);have x:A5.ownsRow b0 te sz (V (E (Xd g5 0 O)) ((us.map cells).length+1) cap5) ((us.map cells).length+1) ((us.map cells).flatten++cells u):=by rw[zm];exact own
 have p:=s.more (cs:=cells u) w x dig;rw[zm]at p;have s:=(zd.1 m).1;have s:g5≠g:=by
  rintro rfl;rcases k with h|h
  ·exact(i _ h).1 rfl
  ·omega
 have m:g5<A5.heap.size:=by obtain⟨_,m,_⟩:=dig.1;exact(zd.1 m).1
 refine⟨f.mono fun b a=>(l b).2 a,fun b=>b=g\/b=g5,⟨?_,?_,?_,fun b a=>?_,fun b=>?_⟩,fun b a=>?_⟩
 ·refine⟨f.os.trans d.os,f.tape.trans d.tape,f.output.trans d.output,zF d.size f.size,fun b a m=>?_⟩;refine(f.block b (zK a d.size) ?_).trans (d.block b a m);rintro(e|e);·exact m (.inl e)
  ·rcases(i b e).2 with e|e
   ·exact m (.inr e)
   ·omega
 ·rw[Xl q,t]
 ·rw[Z6];refine p.same o.size (fun b a=>?_);have d:g5=b:=by simpa[Value.ownBlock]using a
  exact o.block b om om
 ·have d:g5=b:=by simpa[Value.ownBlock]using a
  subst d;refine⟨s,?_⟩;rcases k with h|h
  ·exact(i _ h).2
  ·exact .inr om
 ·simp only[Value.ownBlock,qY,qN];constructor
  ·rintro(h|h);·exact .inl h
   ·exact .inr h.symm
  ·rintro(h|h);·exact .inl h
   ·exact .inr h.symm
 ·rcases a with rfl|rfl
  ·exact .inl ((l _).2 (.inl rfl))
  ·rcases k with h|h
   ·exact .inl ((l _).2 (.inr h))
   ·exact .inr om
end

end

section
open Go.RowKit
attribute [local go_sem] zD zW qJ
end

section
open Go.RowKit
variable {a d e f:Value}{b g:Nat}{w:H}
theorem zhz(a:List (U_)):T.varsN a=if a.length=2/\a.getD 0 []=zan then zcX (a.getD 1 [])else 0:=by
 unfold T.varsN zcX T.varB zan;by_cases b:a.length=2/\a.getD 0 []= [118,97,114,115]
 ·by_cases d:(a.getD 1 []).length=1
  ·rw[zQ ⟨b.1,b.2,d⟩,zQ b,zQ d]
  ·rw[zO (fun h=>d h.2.2),zQ b,zO d]
 ·rw[zO (fun h=>b ⟨h.1,h.2.1⟩),zO b]
theorem znP(a:List (U_)):zdS 2 (fun k x=>if k=0 then decide (x=zan)else decide (zcX x≠0)) a=decide (T.varsN a≠0):=by
 unfold zdS;rw[zaI,zhz];constructor
 ·rintro⟨e,d⟩;have a:=d 0 om;have b:=d 1 om;simp at a b;rw[zQ ⟨e,by simpa using a⟩];simpa using b
 ·intro h;split at h
  ·rename_i a
   refine⟨a.1,fun j b=>?_⟩;dsimp only;obtain rfl|rfl:j=0\/j=1:=om
   ·rw[zQ rfl,a.2];simp
   ·rw[zO om];simpa using h
  ·exact absurd rfl h
theorem zoR(s:U_)(hs:s.length<=2000)(f h c:Nat)(g cap:Nat)(w:H)(hg:g≠c)(a:2<=cap)(b:cap<=9223372036854775807)(l:∀i fv,[QY f,zgh h][i]? =E fv->w.cell? (Xd g i O)=E fv)(B:w.cell? (Xd f 0 O)=E (gS ⟨zan.toArray⟩))(D:f≠c)(h1:w.cell? (Xd h 0 O)=E (p_ c 0))(F:h≠c)(o:w.cell? (Xd c 0 O)=E (i_ 0))(t:w.frozen? (Xd c 0 O)=false):
 C_ 208 #[gS ⟨s.toArray⟩,V (E (Xd g 0 O)) 2 cap] w fun e w'=>
  e=Xa (G (decide (T.varsN (Zb s)≠0)))/\Wr (fun k=>k=c) w w'/\(T.varsN (Zb s)≠0->w'.cell? (Xd c 0 O)=E (i_ (T.varsN (Zb s):Nat))):=by
 have d:c<w.heap.size:=zw o;have m:=ziB s hs [QY f,zgh h] (fun k x=>if k=0 then decide (x=zan)else decide (zcX x≠0)) (fun k=>k=c)
  (fun pre A=>∃z:Int,A.cell? (Xd c 0 O)=E (i_ z)/\A.frozen? (Xd c 0 O)=false/\(1<pre.length->z=(zcX (pre.getD 1 []):Nat))) g cap w
  (fun x y=>y▸d) hg sp (by simpa using a) b l
  (fun pre A a d q=>by obtain⟨z,a,b,l⟩:=d;exact⟨z,q.cell a,(q.frozen a).trans b,l⟩)
  (fun pre A q q v d q q q=>by obtain⟨z,a,b,l⟩:=d;exact⟨z,(qj _ _ _ _ so).trans a,by simpa using b,l⟩) ?_ ⟨0,o,t,fun q=>by simp at q⟩
 ·have d: [QY f,zgh h].length=2:=rfl;rw[d,znP]at m;refine m.mono ?_;rintro e w' ⟨rfl,o,m⟩;refine⟨rfl,o,fun t=>?_⟩;obtain⟨z,a,b,l⟩:=m (by simpa using t);have d:=t;rw[zhz]at d;have t:=zhz (Zb s);split at d
  ·rename_i C
   rw[zQ C]at t;rw[a,l om,t]
  ·exact absurd rfl d
 ·intro k fv d;match k,d with
  |0,d=>
   simp at d;subst d;refine⟨_,f,rfl,ziz,fun pre x W t y o m=>?_⟩;refine(zfm x zan f W (o.cell (p:=(Xd f 0 O)) D B)).mono ?_;rintro e f ⟨rfl,rfl⟩;obtain rfl:pre= []:=QZ t;obtain⟨z,a,b,l⟩:=m;exact⟨rfl,Xj _ _,fun _=>⟨z,a,b,fun q=>by simp at q⟩⟩
  |1,d=>
   simp at d;subst d;refine⟨_,h,rfl,zqt,fun pre x W t y o m=>?_⟩;obtain⟨z,a,b,l⟩:=m;refine(zjV x h c z W (o.cell (p:=(Xd h 0 O)) F h1) a b om).mono ?_;rintro e f ⟨rfl,a,h⟩;refine⟨rfl,?_,fun f=>⟨(zcX x:Nat),h (by simpa using f),?_,fun _=>?_⟩⟩
   ·rcases a with rfl|rfl
    ·exact Xj _ _
    ·exact Xs (T:=fun k=>k=c) (Xp _ _) (p:=(Xd c 0 O)) rfl _
   ·rcases a with rfl|rfl
    ·exact b
    ·simpa using b
   ·rw[zk,zG om,t];simp
  |k+2,d=>simp at d
theorem zl1(s:U_)(hs:s.length<=2000)(a:Nat)(vC z:Value)(w:H)(h:DQ w a qF.none vC z):
 C_ 144 #[p_ a 0,gS ⟨s.toArray⟩] w fun e w'=>
  e=Xa (G (decide (T.varsN (Zb s)≠0)))/\Wr (fun k=>k=a) w w'/\(T.varsN (Zb s)≠0->∃y,DQ w' a ⟨T.varsN (Zb s),[],[],[]⟩ y z/\∀k,y.ownBlock=E k->w.heap.size<=k):=by
 obtain⟨Z,N,W,X,Y⟩:=Zn Tryz.infoColumn;have a0:=h.box.2.2.2.2;have F:b_ w ((((w.alloc (cl #[i_ 0] 3)).alloc (cl #[gS ⟨zan.toArray⟩] 9)).alloc (cl #[p_ w.heap.size 0] 292)).alloc (cl #[QY (w.heap.size+1),zgh (w.heap.size+1+1)] 289)):=(zbt w _ _ _).alloc so _;obtain⟨x,t1,t2,t3⟩:=zeK w (cl #[i_ 0] 3) (cl #[gS ⟨zan.toArray⟩] 9) (cl #[p_ w.heap.size 0] 292) (cl #[QY (w.heap.size+1),zgh (w.heap.size+1+1)] 289);have o:=zf (zoR s hs (w.heap.size+1) (w.heap.size+1+1) w.heap.size (w.heap.size+1+1+1) 2
  ((((w.alloc (cl #[i_ 0] 3)).alloc (cl #[gS ⟨zan.toArray⟩] 9)).alloc (cl #[p_ w.heap.size 0] 292)).alloc (cl #[QY (w.heap.size+1),zgh (w.heap.size+1+1)] 289))
  om om om
  (fun t fv b=>by
   rw[ze _ _ _ _ _ _ t3];match t,b with
   |0,b=>simpa using b
   |1,b=>simpa using b
   |t+2,b=>simp at b)
  (ze _ _ _ _ _ _ t1) om (ze _ _ _ _ _ _ t2) om (ze _ _ _ _ _ _ x) (ZK _ _ _ _ _ x))
 have B:=zf h;have R:=zlN (Zb s);obtain⟨n,hn⟩:∃n,T.varsN (Zb s)=n:=⟨_,rfl⟩;rw[hn]at o R⊢;go_enter func144,ntmps144
 go_wp2_with fail
 refine(ze2 _ _).mono ?_;rintro e w1 ⟨rfl,rfl⟩;go_wp2_with fail
 refine(zlA _ _).mono ?_;rintro e w1 ⟨rfl,rfl⟩;go_wp2_with fail
 refine o.out.mono ?_;rintro e l ⟨rfl,S,J⟩;have U:=(Xg F).trans S;have d:=U.below (zh _) (fun k e=>om);by_cases f:n=0
 ·subst f;go_wp2;go_ret;exact⟨sp,Xg d,fun h=>absurd rfl h⟩
 ·have hc:=J f;have m:=B.out.below d;have I:=m.box;obtain⟨C,_,D,_,q⟩:=I;have K:decide (n≠0)=true:=by simpa using f
  rw[K];go_wp2_with (at_make;refine wpList_make_full _ rfl _ _ 70 rfl 0 165 Z _ 6 underlying70 N W X Xb Xb (n:Int) (n:Int) n rfl rfl rfl rfl (by rw[Y];omega) mo (qo _) ?_;intro w3 Q L;have i:=(qf _ _).grown L (zh _) (fun k h=>by simp at h);have q0:=(i.cell (p:=(Xd a 0 O)) q).trans C;have q2:=(i.frozen (p:=(Xd a 0 O)) q).trans D)
  go_ret;refine⟨by first|rfl|simp[f],Xs (T:=fun k=>k=a) (Xg (d.trans (i.mono d.size))) (p:=(Xd a 0 O)) rfl _,fun _=>⟨_,(m.below i).cols_made (zoC Q) ?_ ?_ sp,fun k P=>?_⟩⟩;·omega
  ·intro e;have:=(((m.rows).choose_spec.2.1).lt _ e).2;omega
  ·simp[Value.ownBlock]at P;have:=d.size;omega
theorem zc6{B:Nat}{a:H}(h:Below B a w):Below B a w.drew:=⟨h.os,h.tape,h.output,h.size,h.block⟩
theorem zjq(a n:Nat)(b:A_)(cap:Nat)(w:H)(h:w.cell? (Xd a 0 O)=E (V b n cap))(d:n<=1000):
 C_ 84 #[p_ a 0] w fun e w'=>e=Xa (i_ ((2+n:Nat):Int))/\w'=w:=by
 go_enter func84,ntmps84
 go_wp2;go_ret;exact⟨zaQ sp,rfl⟩
theorem DQ.shapeR{d:Nat}{p:qF}(h:DQ w d p f a):∃b e,a=V b p.rows.length e:=by
 have⟨_,a,b,_⟩:=h.rows;rw[<-a];obtain⟨_,a|⟨g,_,_,d,_⟩⟩:=b;·exact⟨O,0,by rw[a.1,a.2]⟩
 ·exact⟨_,_,d⟩
theorem DQ.colsAt{d:Nat}{p:qF}{b:Value}(h:DQ w d p b e)(f:0<p.n):∃a zs,b=V (E (Xd a 0 O)) p.n p.n/\Whs w a zs/\zft p zs:=by
 rcases h.cols with b|⟨a,zs,b,_,d,e⟩
 ·omega
 ·exact⟨a,zs,b,d,e⟩
def StepD (f:Nat)(args:W_)(i:Nat)(p:qF)(ws:List (U_))(gp:Nat)(vC vR:Value)(B:Nat)(w:H):Prop:=
 C_ f args w fun e w'=>e=Xa (G (jD i p ws).isSome)/\Wr (Own gp vC vR) w w'/\∀q,jD i p ws=E q->∃vC' vR',DQ w' gp q vC' vR'/\∀k,Own gp vC' vR' k->Own gp vC vR k\/B<=k
theorem zoS(l:U_)(e:l.length<=2000)(a B:Nat)(b d:Value)(w:H)(h:DQ w a qF.none b d)(i:B<=w.heap.size):
 StepD 144 #[p_ a 0,gS ⟨l.toArray⟩] 0 qF.none (Zb l) a b d B w:=by
 apply(zl1 l e a b d w h).mono;rintro e a ⟨rfl,b,m⟩;have a:jD 0 qF.none (Zb l)=if T.varsN (Zb l)=0 then .none else E ⟨T.varsN (Zb l),[],[],[]⟩:=by unfold jD;rw[zQ rfl]
 rw[a];refine⟨?_,b.mono (fun k e=>Or.inl e),fun q a=>?_⟩;·by_cases b:T.varsN (Zb l)=0<;>simp[b]
 ·by_cases b:T.varsN (Zb l)=0
  ·rw[zQ b]at a;cases a
  ·rw[zO b]at a;injection a with a
   subst a;have⟨o,a,f⟩:=m b;refine⟨o,d,a,fun k a=>?_⟩;rcases a with e|e|e
   ·exact Or.inl (Or.inl e)
   ·exact Or.inr (zF i (f k e))
   ·exact Or.inl (Or.inr (Or.inr e))
theorem zqW(l:U_)(hl:l.length<=2000)(gp B:Nat)(p:qF)(vC vR:Value)(w:H)(h:DQ w gp p vC vR)(hn:0<p.n/\p.n<=4)(hrg:p.rg= []):
 StepD 145 #[p_ gp 0,gS ⟨l.toArray⟩] 1 p (Zb l) gp vC vR B w:=by
 obtain⟨bc,zs,rfl,hz,hc⟩:=h.colsAt hn.1;apply(zmz l hl gp bc p.n vR zs w h.box hn.2 hz hc.1).mono;rintro e w' ⟨rfl,hw,hq⟩;have ht:jD 1 p (Zb l)=if zbm zbB p.n (Zb l)=true then E { p with mx:=((Zb l).drop 1).map T.wZ } else .none:=by
  unfold jD zbm;rw[zO om,zQ rfl];simp only[Z9]
 rw[ht];refine⟨?_,hw.mono (fun k e=>Or.inr (Or.inl (by rw[e];rfl))),fun q hqe=>?_⟩;·cases zbm zbB p.n (Zb l)<;>simp
 ·by_cases h0:zbm zbB p.n (Zb l)=true
  ·rw[zQ h0]at hqe;injection hqe with hqe
   subst hqe;exact⟨_,_,h.cols_anew rfl hn.1 hw (hq h0) (zqG hc hrg (jU h0).1) rfl rfl,fun k hk=>Or.inl hk⟩
  ·rw[zO h0]at hqe;cases hqe
theorem znQ(i:Nat)(l:U_)(hl:l.length<=2000)(gp B:Nat)(p:qF)(vC vR:Value)(w:H)(h:DQ w gp p vC vR)(hn:0<p.n/\p.n<=4)(h2:2<=i)(hi:i<=1+p.n)(hrg:p.rg.length=i-2):
 StepD 146 #[p_ gp 0,gS ⟨l.toArray⟩,i_ ((i-2:Nat):Int)] i p (Zb l) gp vC vR B w:=by
 obtain⟨bc,zs,rfl,hz,hc⟩:=h.colsAt hn.1;apply(zk7 l hl gp bc p.n (i-2) vR zs w h.box hn.2 om hz hc.1).mono;rintro e w' ⟨rfl,hw,hq⟩;have ht:jD i p (Zb l)=if zbm Je 2 (Zb l)=true then E { p with rg:=p.rg ++ [(T.wZ ((Zb l).getD 1 []),T.wZ ((Zb l).getD 2 []))] } else .none:=by
  unfold jD zbm;rw[zO om,zO om,zQ hi];simp only[Z9]
 rw[ht];refine⟨?_,hw.mono (fun k e=>Or.inr (Or.inl (by rw[e];rfl))),fun q hqe=>?_⟩;·cases zbm Je 2 (Zb l)<;>simp
 ·by_cases h0:zbm Je 2 (Zb l)=true
  ·rw[zQ h0]at hqe;injection hqe with hqe
   subst hqe;exact⟨_,_,h.cols_anew rfl hn.1 hw (hq h0) (znE hc hrg om (jU h0).1) rfl rfl,fun k hk=>Or.inl hk⟩
  ·rw[zO h0]at hqe;cases hqe
theorem zqX(i:Nat)(l:U_)(f:l.length<=2000)(a B:Nat)(p:qF)(e d:Value)(w:H)(h:DQ w a p e d)(b:0<p.n/\p.n<=4)(h2:2<=i)(hi:¬i<=1+p.n)(o:p.rows.length<6)(k:B<=w.heap.size):
 StepD 147 #[p_ a 0,gS ⟨l.toArray⟩] i p (Zb l) a e d B w:=by
 obtain⟨e,_,rfl,_,_⟩:=h.colsAt b.1;refine(zmE l f a e p d w h b.1 b.2 om).mono ?_;rintro e a ⟨rfl,b,m⟩;have a:jD i p (Zb l)=if zdX p.n (Zb l)=true then E { p with rows:=p.rows ++ [rowOf p.n (Zb l)] } else .none:=by
  unfold jD zdX rowOf;rw[zO om,zO om,zO hi];simp only[Z9,o,true_and]
 rw[a];refine⟨?_,b,fun q a=>?_⟩;·cases zdX p.n (Zb l)<;>simp
 ·by_cases b:zdX p.n (Zb l)=true
  ·rw[zQ b]at a;injection a with a
   subst a;obtain⟨o,d,f⟩:=m b;refine⟨_,o,d,fun m d=>?_⟩;rcases d with e|e|e
   ·exact Or.inl (Or.inl e)
   ·exact Or.inl (Or.inr (Or.inl e))
   ·exact(f m e).imp (fun e=>Or.inr (Or.inr e)) (fun e=>zF k e)
  ·rw[zO b]at a;cases a
theorem zoT(i:Nat)(l:U_)(K L:Bool)(b:Nat)(p:qF)(t x:Value)(w:H)(h:DQ w b p t x)(f:zbU i p)(D:l.length<=2000)(hi:i<=100000):
 C_ 83 #[p_ b 0,ag #[i_ ((i+1:Nat):Int),gS ⟨l.toArray⟩,G K,G L]] w fun e w'=>
  e=Xa (G (jD i p (Zb l)).isSome)/\Wr (Own b t x) w w'/\∀q,jD i p (Zb l)=E q->∃T U,DQ w' b q T U/\∀k,Own b T U k->Own b t x k\/w.heap.size<=k:=by
 have⟨_,_,a3⟩:=h.shapeR;have d:b_ w (w.alloc (cl #[i_ ((i+1:Nat):Int),gS ⟨l.toArray⟩,G K,G L] 158)):=(qf _ _).alloc (zh _) _;have a:=h.below d;have⟨z,Z,d2,d3,d4⟩:=a.box;have C:=d.size;by_cases N:i=0
 ·subst N;obtain rfl:=f.z rfl;have m:=zf (zoS l D b w.heap.size t x _ a C);go_enter func83,ntmps83
  go_wp2_with fail
  apply m.out.mono;rintro e y ⟨rfl,s,o⟩;go_wp2;go_ret;exact⟨rfl,(Xg d).trans s,o⟩
 ·have F:=f.n om;have⟨Y,_,a2,_,_⟩:=h.colsAt F.1;by_cases P:i=1
  ·subst P;have m:=zf (zqW l D b w.heap.size p t x _ a F (QZ (by have:=f.g;omega)));go_enter func83,ntmps83
   go_wp2_with fail
   apply m.out.mono;rintro e y ⟨rfl,s,o⟩;go_wp2;go_ret;exact⟨rfl,(Xg d).trans s,o⟩
  ·rw[a2]at z;have B:((i+1:Nat):Int)=i+1:=sp;rw[B]at d a z Z d2 d3 d4 C;have I:=zf (fun(W:H) (hW:W.cell? (Xd b 0 O)=E (V (E (Xd Y 0 O)) p.n p.n))=>zjq b p.n _ _ W hW om);have a:=a.keep (zn.drew 0 _);have d:=zc6 d;have C:=d.size;have a4:¬i+1=1:=om;have a5:¬i+1=2:=om;by_cases J:i<=1+p.n
   ·have m:=zf (znQ i l D b w.heap.size p t x _ a F om J (by have:=f.g;omega));have a0:i+1<=2+p.n:=om;have R:((i-2:Nat):Int)=i+1-2-1:=om;rw[R]at m;go_enter func83,ntmps83
    go_wp2_with fail
    go_region_with (go_at_call 84;apply(I.out _ (by exact z)).mono;rintro e y ⟨rfl,rfl⟩)
    all_goals go_wp2_with fail
    all_goals refine m.out.mono ?_
    all_goals rintro e y ⟨rfl,s,o⟩
    all_goals go_wp2
    all_goals go_ret
    all_goals exact⟨rfl,(Xg d).trans s,o⟩
   ·have a0:¬i+1<=2+p.n:=om;subst a3;by_cases Q:p.rows.length<6
    ·have m:=zf (zqX i l D b w.heap.size p t _ _ a F om J Q C);have a1:p.rows.length<6:=om;clear a h f B;go_enter func83,ntmps83
     go_wp2_with fail
     go_region_with (go_at_call 84;apply(I.out _ (by exact z)).mono;rintro e y ⟨rfl,rfl⟩)
     all_goals go_wp2_with fail
     all_goals refine m.out.mono ?_
     all_goals rintro e y ⟨rfl,s,o⟩
     all_goals go_wp2
     all_goals go_ret
     all_goals exact⟨rfl,(Xg d).trans s,o⟩
    ·have S:jD i p (Zb l)= .none:=by
      unfold jD;rw[zO N,zO P,zO J,zO (fun hh=>Q hh.1)]
     have X:=zf S;have a1:¬p.rows.length<6:=om;clear a h f B S;go_enter func83,ntmps83
     go_wp2_with fail
     go_region_with (go_at_call 84;apply(I.out _ (by exact z)).mono;rintro e y ⟨rfl,rfl⟩)
     all_goals go_wp2
     all_goals go_ret
     all_goals rw[X.out]
     all_goals exact⟨rfl,Xg d,fun q hq=>by cases hq⟩
theorem Whs.set_int{zs:L_}{z z':Int}(h:Whs w b zs)(d:w.cell? (Xd g 0 O)=E (i_ z)):Whs (w.setCell (Xd g 0 O) (i_ z')) b zs:=by
 by_cases f:g=b
 ·subst f;refine⟨h.1.setCell d sp,fun j e=>?_⟩;have⟨_,_,_,c,e,_⟩:=h.2 0 om;rw[Ql,d]at e;cases e
 ·exact h.setCell d sp f _
theorem DQ.set_int{p:qF}{z z':Int}(h:DQ w b p a d)(hg:¬Own b a d g)(i:w.cell? (Xd g 0 O)=E (i_ z)):DQ (w.setCell (Xd g 0 O) (i_ z')) b p a d:=by
 have d:b≠g:=fun e=>hg (Or.inl e.symm)
 have same:∀k,k≠g->(w.setCell (Xd g 0 O) (i_ z')).heap[k]? =w.heap[k]?:=fun k a=>qC _ _ _ _ a
 refine⟨h.box.same (same b d) sp,h.nodP.same (same b d),?_,fun k a=>⟨(h.nodR k a).1.same (same k (fun e=>hg (e▸Or.inr (Or.inr a)))),(h.nodR k a).2⟩,?_⟩
 ·rcases h.cols with b|⟨l,o,b,d,f,m⟩
  ·exact Or.inl b
  ·exact Or.inr ⟨l,o,b,d,f.set_int i,m⟩
 ·have⟨l,b,d,f⟩:=h.rows;refine⟨l,b,zfh d (fun k a=>same k (fun e=>hg (e▸Or.inr (Or.inr a)))),fun d r row a b=>?_⟩;have⟨e,k,l,m,o⟩:=f d r row a b;exact⟨e,k,l.set_int i,m,o.setCell i sp _⟩
theorem Whs.set_other{j:Nat}{zs:L_}{y v:Value}(h:Whs w b zs)(f:w.cell? (Xd g j O)=E y)(k:∀n,y≠it .u32 n)(l:∀n,v≠it .u32 n)(i:w.cell? (Xd g 0 O)=E d)(hb:∀x,d≠G x):Whs (w.setCell (Xd g j O) v) b zs:=by
 by_cases e:g=b
 ·subst e;refine⟨h.1.setCell f l,fun d d=>?_⟩;have⟨x,_,_,c,d,_⟩:=h.2 0 om;rw[Ql,i]at d;injection d with d
  exact absurd d (hb x)
 ·exact h.setCell f k e _
theorem DQ.set_other{j:Nat}{p:qF}{y v:Value}(h:DQ w b p a d)(hg:¬Own b a d g)(l:w.cell? (Xd g j O)=E y)(i:∀n,y≠it .u32 n)(o:∀n,v≠it .u32 n)(m:w.cell? (Xd g 0 O)=E e)(hb:∀x,e≠G x):DQ (w.setCell (Xd g j O) v) b p a d:=by
 have d:b≠g:=fun e=>hg (Or.inl e.symm)
 have same:∀k,k≠g->(w.setCell (Xd g j O) v).heap[k]? =w.heap[k]?:=fun k a=>qC _ _ _ _ a
 refine⟨h.box.same (same b d) sp,h.nodP.same (same b d),?_,fun k a=>⟨(h.nodR k a).1.same (same k (fun e=>hg (e▸Or.inr (Or.inr a)))),(h.nodR k a).2⟩,?_⟩
 ·rcases h.cols with b|⟨q,t,b,d,f,s⟩
  ·exact Or.inl b
  ·exact Or.inr ⟨q,t,b,d,f.set_other l i o m hb,s⟩
 ·have⟨q,b,d,f⟩:=h.rows;refine⟨q,b,zfh d (fun k a=>same k (fun e=>hg (e▸Or.inr (Or.inr a)))),fun d r row a b=>?_⟩;have⟨e,k,q,s,t⟩:=f d r row a b;exact⟨e,k,q.set_other l i o m hb,s,t.setCell l i _⟩
theorem DQ.lt{a:Nat}{p:qF}{b:Value}(h:DQ w a p b d):∀k,Own a b d k->k<w.heap.size:=by
 intro k a;rcases a with e|e|e
 ·rw[e];exact h.box.2.2.2.2
 ·rcases h.cols with ⟨_,a⟩|⟨_,_,a,_,b,_⟩
  ·rw[a]at e;cases e
  ·rw[a]at e;simp[Value.ownBlock]at e;rw[<-e];exact b.lt
 ·have⟨_,_,a,_⟩:=h.rows;exact(a.lt k e).2
theorem zjr{a:List (U_×Bool)}:∀{j k:Nat} {v:W_},(zb7 j a)[k]? =E v->∃x last,a[k]? =E x/\v=lineV (j+k) x last:=by
 induction a with
 |nil=>intro j k v h;simp[zb7]at h
 |cons y r d=>
  intro j k v h;cases k with
  |zero=>
   simp[zb7]at h;exact⟨y,_,sp,h.symm⟩
  |succ k=>
   rw[zb7,jg]at h;have⟨x,last,a,b⟩:=d h;exact⟨x,last,by simpa using a,by rw[b,show j+1+k=j+(k+1)by omega]⟩
theorem zhA{a:List (U_×Bool)}{i:Nat}{p:qF}{y:U_×Bool}(d:a[i]? =E y):ju i p (a.drop i)=if y.2=false then .error (i+1)else match jD i p (Zb y.1)with|.none=> .error (i+1)|some q=>ju (i+1) q (a.drop (i+1)):=by
 have⟨b,a⟩:=zo.1 d;rw[jt b,a,ju];rfl
theorem zqY(s:U_)(k:Nat)(x:U_×Bool)(h:(QW s)[k]? =E x):x.1.length<=s.length:=(zgA s.length s).2 x (zx h)
attribute [local go_sem] zD zW qJ
def RdI (w:H)(LL:List (U_×Bool))(k:Nat)(p:qF)(vC vR:Value)(A:H):Prop:=
 DQ A (w.heap.size+1+1) p vC vR/\zbU k p/\ju 0 qF.none LL=ju k p (LL.drop k)/\A.cell? ⟨w.heap.size+1+1+1,0,O⟩=E (i_ ((k:Int)+1))/\A.frozen? ⟨w.heap.size+1+1+1,0,O⟩=false/\
  Zh A w.heap.size (V_) (V_)/\A.cell? ⟨w.heap.size+1,0,O⟩=E (i_ 0)/\A.frozen? ⟨w.heap.size+1,0,O⟩=false/\b_ w A/\(∀x,Own (w.heap.size+1+1) vC vR x->x=w.heap.size+1+1\/w.heap.size+1+1+1+1<x)/\w.heap.size+1+1+1+1<A.heap.size
theorem RdI.keep{C:Nat}{A b:H}{d:List (U_×Bool)}{k:Nat}{p:qF}(h:RdI w d k p e f A)(a:zn C A b)(x:w.heap.size<=C):RdI w d k p e f b:=by
 have⟨e,l,m,b,o,q,d,s,t,f,i⟩:=h;exact⟨e.keep a,l,m,a.cell b,(a.frozen b).trans o,q.keep a,a.cell d,(a.frozen d).trans s,a.below t x (zh _),f,zK i a.size⟩
theorem RdI.step{A2 b:H}{d:List (U_×Bool)}{k:Nat}{p q:qF}{i l:Value}{y:U_×Bool}(h:RdI w d k p e i A2)(a:Wr (Own (w.heap.size+1+1) e i) A2 b)(L:DQ b (w.heap.size+1+1) q f l)(ho:∀x,Own (w.heap.size+1+1) f l x->Own (w.heap.size+1+1) e i x\/A2.heap.size<=x)(N:d[k]? =E y)(P:y.2=true)(C:jD k p (Zb y.1)=E q):
 b.cell? ⟨w.heap.size+1+1+1,0,O⟩=E (i_ ((k:Int)+1))/\b.frozen? ⟨w.heap.size+1+1+1,0,O⟩=false/\Hid (RdI w d (k+1) q f l (b.setCell ⟨w.heap.size+1+1+1,0,O⟩ (i_ ((k:Int)+1+1)))):=by
 have⟨_,I,J,o,F,t,z,K,B,m,_⟩:=h;have d:w.heap.size+1+1+1<A2.heap.size:=zw o;have d:∀x,x<=w.heap.size+1+1+1+1->x≠w.heap.size+1+1->¬Own _ e i x:=fun x D e e=>by rcases m x e with e|e<;>omega
 have i:=a.cell (d _ sp sp) o;have s:=(a.frozen (d _ sp sp) (zw o)).trans F;have o:=t.same (a.block _ t.2.2.2.2 (d _ om om)) a.size;have t:=a.cell (d _ sp sp) z;have F:=(a.frozen (d _ sp sp) (zw z)).trans K;have d:∀x,Own _ f l x->x=w.heap.size+1+1\/w.heap.size+1+1+1+1<x:=fun x D=>by
  rcases ho x D with e|e
  ·exact m x e
  ·omega
 refine⟨i,s,L.set_int (fun e=>by rcases d _ e with e|e<;>omega) i,I.step C,?_,?_,by simpa using s,?_,?_,by simpa using F,?_,d,by have:=a.size;simp;omega⟩;·rw[J,zhA N,zO (by rw[P];simp),C]
 ·rw[zN _ _ _ i];simp
 ·exact o.same (qC _ _ _ _ (by simp<;>omega)) sp
 ·rw[qj _ _ _ _ (by simp<;>omega)];exact t
 ·have d:=a.below B.size (fun x e=>by rcases m x e with e|e<;>omega);exact(B.trans d).setCell so _
