import Derived.Test.YtmimmcmbgnjjcaaGreatDoorFon1Z11
import Derived.Test.YtmimmcmbgnjjcaaGreatDoorFon1Z12
open Option renaming none->O,some->E
open Go.Value renaming slice->V,bool->G,string->gS,pointer->pn,int->it,agg->ag
open Go.Obj renaming cells->cl
open Go renaming World->H
open Go.Proofs.Tryz renaming prog->pg
open Go.Proofs.Tryz
open Go.Ending renaming returned->Xa
open Go.IntKind renaming i64->Xb
open Go.Addr renaming mk->Xd
set_option linter.unusedSimpArgs false
set_option linter.unusedVariables false
set_option maxHeartbeats 2000000
set_option maxRecDepth 100000
namespace Go.Proofs.YtmimmcmbgnjjcaaGreatDoor
section
open V4
def rgS (p:qF)(i:Nat):Int×Int:=p.rg.getD i (0,0)
def zc1 (p:qF):Nat:=(p.rows.flatMap T.condRows).length
def jf (p:qF):List qO:=(T.rowsS p).zipIdx.map fun x=>(x.1,x.2+1)
def ze7 (p:qF):Cor:=zb9 p.mx (zcg (rgS p) (zc1 p) p.n)
def zbF (p:qF)(cuts pivots:Nat):SOut:=goS p.n p.mx (T.rowsS p).length pivots (min cuts 20000) (jf p) (ze7 p) []
structure zc5 (p:qF):Prop where
 n0:0<p.n
 n4:p.n<=4
 m:p.mx.length=p.n
 g:p.rg.length=p.n
 l:p.rows.length<=6
 c:∀x∈p.rows,x.1.length=p.n
theorem zbU.done {i:Nat}{p:qF}(h:zbU i p)(a:2+p.n<=i):zc5 p:=
 ⟨(h.n om).1,(h.n om).2,h.m om,by rw[h.g];omega,h.l,fun x a=>(h.c x a).1⟩
theorem zdz {p:qF}{r:qO}:r∈jf p↔∃i,(T.rowsS p)[i]? =E r.1/\r.2=i+1:=by
 unfold jf;rw[qP];constructor
 ·rintro⟨x,a,rfl⟩;exact⟨x.2,by rw[List.mem_zipIdx_iff_getElem?]at a;exact a,rfl⟩
 ·rintro⟨i,a,b⟩;exact⟨(r.1,i),List.mem_zipIdx_iff_getElem?.2 a,by rw[<-b]⟩
theorem zjn {p:qF}(h:zc5 p):∀r∈T.rowsS p,r.1.length=p.n:=by
 intro r a;unfold T.rowsS at a;rcases zU.1 a with a|a
 ·obtain⟨x,c,a⟩:=jj.1 a;unfold T.condRows at a;have b:=h.c x c;rcases zU.1 a with a|a
  ·split at a
   ·cases a
   ·rw[qg.1 a];exact b
  ·split at a
   ·cases a
   ·rw[qg.1 a,zm];exact b
 ·obtain⟨_,_,a⟩:=jj.1 a;unfold T.rangeRows at a;rcases zI.1 a with rfl|a
  ·exact QS _ _
  ·rw[qg.1 a,zm];exact QS _ _
theorem zgK {p:qF}{i:Nat}(c:i<p.n):(T.rowsS p)[zc1 p+2*i]? =E (T.unitRow p.n i,(rgS p i).2)/\(T.rowsS p)[zc1 p+2*i+1]? =E ((T.unitRow p.n i).map (fun z=>-z),-(rgS p i).1):=by
 have e:∀(f:Nat->(List Int×Int)×(List Int×Int)) (n i:Nat),i<n->((List.range n).flatMap fun i=> [(f i).1,(f i).2])[2*i]? =E (f i).1/\((List.range n).flatMap fun i=> [(f i).1,(f i).2])[2*i+1]? =E (f i).2:=by
  intro f n;induction n with
  |zero=>intro i h;omega
  |succ n b=>
   intro i h;have a:∀m,((List.range m).flatMap fun i=> [(f i).1,(f i).2]).length=2*m:=by
    intro m;induction m with
    |zero=>rfl
    |succ m b=>rw[J6,ZX,zM,b];simp;omega
   rw[J6,ZX];by_cases d:i<n
   ·rw[zS (by rw[a];omega),zS (by rw[a];omega)];exact b i d
   ·obtain rfl:i=n:=om;rw[zG (by rw[a];omega),zG (by rw[a];omega),a];simp
 unfold T.rowsS;rw[zb3,zG (by unfold zc1;omega),zG (by unfold zc1;omega)];have a:zc1 p+2*i-(p.rows.flatMap T.condRows).length=2*i:=by unfold zc1;omega
 have b:zc1 p+(2*i+1)-(p.rows.flatMap T.condRows).length=2*i+1:=by unfold zc1;omega
 rw[a,b];exact e (fun i=>((T.unitRow p.n i,(rgS p i).2),((T.unitRow p.n i).map (fun z=>-z),-(rgS p i).1))) p.n i c
theorem boxed {p:qF}(h:zc5 p):zjm p.n (T.rowsS p) (rgS p):=by
 intro i _;refine⟨fun a=>?_,fun a=>?_⟩
 ·obtain⟨b,c⟩:=zgK (p:=p) a;exact⟨zx b,zx c⟩
 ·unfold rgS;rw[zk,qL (by rw[h.g];omega)];rfl
theorem ziG {p:qF}(h:zc5 p):zcl p.n p.mx (T.rowsS p) (jf p) (ze7 p) [] (T.rowsS p):=by
 obtain⟨b,f⟩:=zmF h.m h.n4 (rgS p) (zc1 p);have e:=zjn h;refine⟨sp,Zx,e,fun r a=>?_,fun i r a=>?_,⟨b,fun b d=>?_⟩,fun x b r a=>b.2 r a,fun i l b=>by simp at b⟩
 ·obtain⟨i,b,c⟩:=zdz.1 a;exact⟨⟨om,by rw[c];exact b⟩,e _ (zx b)⟩
 ·exact zdz.2 ⟨i,a,rfl⟩
 ·unfold ze7 at d;rw[f]at d;obtain⟨i,a,rfl⟩:=qP.1 d;obtain⟨b,c⟩:=zgK (p:=p) (Z8.1 a);refine zdz.2 ?_;unfold zct;split
  ·exact⟨zc1 p+2*i+1,c,rfl⟩
  ·exact⟨zc1 p+2*i,b,rfl⟩
def zh5 (p:qF):List (List Int×Int):=(p.rows.map fun x=>(x.1,x.2.2))++((List.range p.n).map (fun i=>(T.unitRow p.n i,(rgS p i).2))++(List.range p.n).map fun i=>(T.unitRow p.n i,(rgS p i).1))
theorem zjo {p:qF}(h:zc5 p):(zh5 p).length<=14:=by
 have a:=h.l;have a:=h.n4;unfold zh5;simp only[zM,zm,zah];omega
theorem zhx (p:qF):SCnt p.n (T.rowsS p) (zh5 p) (jf p):=by
 refine⟨?_,fun r b _=>?_,?_⟩
 ·have:(jf p).map (fun r=>r.2)=(List.range (T.rowsS p).length).map (· + 1):=by
   unfold jf;rw[zcA];apply zbn;intro i;rw[zR,zR,List.getElem?_zipIdx];by_cases a:i<(T.rowsS p).length
   ·rw[zg a,zaL a];simp
   ·rw[qL om,qL (by rw[zah];omega)];rfl
  rw[this];exact List.Pairwise.map _ (fun a a h=>by simpa using h) (List.nodup_range)
 ·obtain⟨i,a,_⟩:=zdz.1 b;have hm:=zx a;unfold T.rowsS at hm;rcases zU.1 hm with hm|hm
  ·obtain⟨x,c,hm⟩:=jj.1 hm;refine⟨(x.1,x.2.2),QN _ (qP.2 ⟨x,c,rfl⟩),?_⟩;unfold T.condRows at hm;rcases zU.1 hm with hm|hm
   ·split at hm
    ·cases hm
    ·exact .inl (qg.1 hm)
   ·split at hm
    ·cases hm
    ·exact .inr (qg.1 hm)
  ·obtain⟨k,c,hm⟩:=jj.1 hm;unfold T.rangeRows at hm;rcases zI.1 hm with hm|hm
   ·exact⟨(T.unitRow p.n k,(rgS p k).2),J5 _ (QN _ (qP.2 ⟨k,c,rfl⟩)),.inl hm⟩
   ·exact⟨(T.unitRow p.n k,(rgS p k).1),J5 _ (J5 _ (qP.2 ⟨k,c,rfl⟩)),.inr (qg.1 hm)⟩
 ·have:(jf p).filter (fun r=>decide ((T.rowsS p).length<r.2))= []:=by
   rw[List.filter_eq_nil_iff];intro r b;obtain⟨i,a,_⟩:=zdz.1 b;have:=(zo.1 a).1;simp;omega
  rw[this];simp
theorem zik {p:qF}(h:zc5 p)(cuts pivots:Nat):
 (∀c b,zbF p cuts pivots= .greatest c b->zdZ p.n (T.rowsS p) (JZ c)/\∀x,zdZ p.n (T.rowsS p) x->zaC (fun i=>rk p.mx (toV (JZ c)) i-rk p.mx (toV x) i))/\
 (∀c r b,zbF p cuts pivots= .none c r b->∀x,¬zdZ p.n (T.rowsS p) x):=by
 have d:=go_ok (pivots:=pivots) (min cuts 20000) _ _ _ _ (ziG h);refine⟨fun c b a=>?_,fun c r b a=>?_⟩
 ·unfold zbF at a;rw[a]at d;obtain⟨rows,k,b,e,f⟩:=d;exact zj9 b e f
 ·unfold zbF at a;rw[a]at d;obtain⟨rows,k,b,e,f,a⟩:=d;exact znM b e f a
theorem zgm {p:qF}(h:zc5 p){cuts pivots:Nat}(k:10000<=pivots)(b:(∀i,i<4->(rgS p i).1<=(rgS p i).2)->bigB p.mx (rgS p)<=(min cuts 20000:Nat))(m:Nat):zbF p cuts pivots≠ .limit m:=by
 have a:=ziG h;by_cases l:∀i,i<4->(rgS p i).1<=(rgS p i).2
 ·refine zf7 k (boxed h) (zjo h) _ _ _ _ _ (bigB p.mx (rgS p)) a (zhx p) (fun e r w f q=>?_) (b l) m;obtain⟨b,o,c⟩:=(zbL a.rowsOK pivots _ a.cor).1 e f;have d:=zc4 b.cor a.given (boxed h) c;obtain⟨s,t⟩:=zh4 b.cor d r;exact znO s t
 ·refine zf7 k (boxed h) (zjo h) _ _ _ _ _ 0 a (zhx p) (fun e r w f q=>?_) om m;obtain⟨b,o,c⟩:=(zbL a.rowsOK pivots _ a.cor).1 e f;have d:=zc4 b.cor a.given (boxed h) c;exfalso
  apply l;intro i e;obtain⟨a,c⟩:=d i e;have d:=b.cor.pos;exact zar (Int.le_trans a c) om
end

section
open V4
variable {A B C:Nat}{l:List Int}{x y:Int}
def Lim (B:Nat)(x:Int):Prop:=-(B:Int)<=x/\x<=(B:Int)
theorem zd1:Lim B x↔x.natAbs<=B:=by unfold Lim;omega
theorem Lim.mono(h:Lim B x)(a:B<=C):Lim C x:=by unfold Lim at *;omega
theorem Lim.zero(B:Nat):Lim B 0:=by unfold Lim;omega
abbrev Xp:=@Lim.zero
theorem Lim.add(h:Lim A x)(k:Lim B y):Lim (A+B) (x+y):=by unfold Lim at *;omega
theorem Lim.sub(h:Lim A x)(k:Lim B y):Lim (A+B) (x-y):=by unfold Lim at *;omega
theorem Lim.neg(h:Lim A x):Lim A (-x):=by unfold Lim at *;omega
theorem Lim.mul(h:Lim A x)(k:Lim B y):Lim (A*B) (x*y):=by
 rw[zd1]at *;rw[zbv];exact Z7 h k
theorem Lim.ofNat(h:A<=B):Lim B (A:Int):=by unfold Lim;omega
abbrev Xo:=@Lim.ofNat
def jk (B:Nat)(x:V4):Prop:=Lim B x.a/\Lim B x.b/\Lim B x.c/\Lim B x.d
theorem jk.mono{x:V4}(h:jk B x)(a:B<=C):jk C x:=⟨h.1.mono a,h.2.1.mono a,h.2.2.1.mono a,h.2.2.2.mono a⟩
theorem jk.add{x y:V4}(h:jk A x)(k:jk B y):jk (A+B) (x.add y):=⟨h.1.add k.1,h.2.1.add k.2.1,h.2.2.1.add k.2.2.1,h.2.2.2.add k.2.2.2⟩
theorem jk.smul{t:Int}{y:V4}(h:Lim A t)(k:jk B y):jk (A*B) (y.smul t):=⟨h.mul k.1,h.mul k.2.1,h.mul k.2.2.1,h.mul k.2.2.2⟩
theorem jk.dot{x y:V4}(h:jk A x)(k:jk B y):Lim (4*(A*B)) (x.dot y):=
 ((((h.1.mul k.1).add (h.2.1.mul k.2.1)).add (h.2.2.1.mul k.2.2.1)).add (h.2.2.2.mul k.2.2.2)).mono om
theorem jk.sign{s:Int}{x:V4}(h:jk B x)(hs:s=1\/s=-1):jk B (x.smul s):=
 (jk.smul (A:=1) (by unfold Lim;omega) h).mono om
theorem zdg{p q r s:Int}(a:Lim B p)(b:Lim B q)(c:Lim B r)(hs:Lim B s):Lim (2*(B*B)) (p*q-r*s):=((a.mul b).sub (c.mul hs)).mono om
theorem zln{p q r z:Int}(a:Lim B p)(b:Lim B q)(c:Lim B r)(d:Lim C x)(e:Lim C y)(f:Lim C z):Lim (3*(B*C)) (p*x-q*y+r*z):=(((a.mul d).sub (b.mul e)).add (c.mul f)).mono om
theorem zhy{u v w:V4}(a:jk B u)(e:jk B v)(o:jk B w):jk (6*(B*(B*B))) (crs u v w):=by
 obtain⟨i,k,l,m⟩:=a;obtain⟨a,b,c,d⟩:=e;obtain⟨e,w1,f,h⟩:=o;have o:3*(B*(2*(B*B)))=6*(B*(B*B)):=by rw[jq B 2,<-Zt]
 rw[<-o];exact⟨zln k l m (zdg c h d f) (zdg b h d w1) (zdg b f c w1),(zln i l m (zdg c h d f) (zdg a h d e) (zdg a f c e)).neg,
  zln i k m (zdg b h d w1) (zdg a h d e) (zdg a w1 b e),(zln i k l (zdg b f c w1) (zdg a f c e) (zdg a w1 b e)).neg⟩
theorem zoN{R:Nat->V4}(h:∀i,jk B (R i))(j:Nat):jk (6*(B*(B*B))) (QL R j):=by
 unfold QL;split
 ·exact zhy (h 1) (h 2) (h 3)
 ·exact(zhy (h 0) (h 2) (h 3)).sign (.inr rfl)
 ·exact zhy (h 0) (h 1) (h 3)
 ·exact(zhy (h 0) (h 1) (h 2)).sign (.inr rfl)
def JL (B:Nat):Nat:=24*(B*(B*(B*B)))
theorem det_bd{R:Nat->V4}(h:∀i,jk B (R i)):Lim (JL B) (Jb R):=by
 refine((h 0).dot (zhy (h 1) (h 2) (h 3))).mono (jm ?_);unfold JL;rw[jq B 6,<-Zt]
theorem sum_bd{L:Nat->V4}{m:Nat->Int}(a:∀i,jk A (L i))(hm:∀i,Lim B (m i)):jk (4*(B*A)) (zeT L m):=
 ((((jk.smul (hm 0) (a 0)).add (jk.smul (hm 1) (a 1))).add (jk.smul (hm 2) (a 2))).add (jk.smul (hm 3) (a 3))).mono om
def Zu (B:Nat)(l:List Int):Prop:=∀z∈l,Lim B z
theorem Zu.at(h:Zu B l)(i:Nat):Lim B (l.getD i 0):=by
 rw[zk];by_cases a:i<l.length
 ·rw[zg a];exact h _ (zJ a)
 ·rw[qL om];exact Xp B
theorem Zu.toV(h:Zu B l):jk B (toV l):=⟨h.at 0,h.at 1,h.at 2,h.at 3⟩
theorem jk.list(m:l.length<=4)(h:jk B (Go.Proofs.YtmimmcmbgnjjcaaGreatDoor.toV l)):Zu B l:=by
 intro z k;obtain⟨i,f,rfl⟩:=qM k;have e:l[i]=l.getD i 0:=by rw[zk,zg f];rfl
 rw[e];obtain⟨a,b,c,d⟩:=h;rcases lt4 (show i<4 by omega)with rfl|rfl|rfl|rfl
 ·exact a
 ·exact b
 ·exact c
 ·exact d
def Jm (B:Nat)(r:List Int×Int):Prop:=Zu B r.1/\Lim B r.2
structure LimC (B:Nat)(c:Cor):Prop where
 over:c.over<=JL B
 point:Zu (JL B) c.point
 edges:∀e∈c.edges,Jm B e.row/\Zu (JL B) e.loss
theorem zrS(a:1<=B)(i:Nat):jk B (QV i):=by
 unfold QV jk Lim;simp only;refine⟨?_,?_,?_,?_⟩<;>split<;>omega
theorem cor_bd{n:Nat}{aims:List Int}{c:Cor}(h:Qy n aims c)(k:1<=B)(d:∀e∈c.edges,Jm B e.row):LimC B c:=by
 obtain⟨_,f,_,o,p⟩:=h.det;have l:=h.n4;have b:∀i,jk B (eR c i):=by
  intro i;unfold eR;cases a:c.edges[i]? with
  |none=>exact zrS k i
  |some e=>exact(d e (zx a)).1.toV
 have m:∀i,Lim B (eM c i):=by
  intro i;unfold eM;cases a:c.edges[i]? with
  |none=>exact Xp B
  |some e=>exact(d e (zx a)).2
 have q:6*(B*(B*B))<=JL B:=by
  unfold JL;have:B*(B*B)<=B*(B*(B*B)):=Jd _ k;omega
 refine⟨?_,?_,fun e a=>⟨d e a,?_⟩⟩
 ·have d:=det_bd b;unfold Lim at d;rcases f with rfl|rfl<;>omega
 ·refine jk.list (by rw[h.plen];exact l) ?_;rw[p];refine((sum_bd (zoN b) m).sign f).mono (jm ?_);unfold JL;rw[jq B 6,<-Zt]
 ·obtain⟨i,d,rfl⟩:=qM a;refine jk.list (by rw[(h.elen _ a).2];exact l) ?_;rw[o i c.edges[i] (zg d)];exact((zoN b i).sign f).mono q
theorem zkc{α:Type}{f:α->Int}:∀(l:List α),(∀e∈l,Lim B (f e))->Lim (l.length*B) (l.map f).sum
 |[],_=>by simpa using Xp 0
 |x::l,h=>by
  rw[Zk,QI,qi];refine((h x (qA)).add (zkc l fun e a=>h e (qq _ a))).mono (jm ?_);rw[Zg];omega
theorem zoO{n:Nat}{aims:List Int}{c:Cor}{r:Nat}(h:Qy n aims c)(f:r<5)(k:zfP n aims c r)(o:∀e∈c.edges,Jm B e.row):Jm (4*B) (Zd n aims c r):=by
 have i:=h.n4;have a:=h.pos;have d:=k.shared;have m:=QE a d;have s:∀e∈c.edges,Zc aims c.over r e<c.over:=by
  intro e a;have b:=zdx h f a;have p:=zcB (rk aims (toV e.loss) r) (show(0:Int)<(c.over:Int)by omega);omega
 have q:c.edges.length<=4:=by rw[h.len];exact i
 have l:∀f:Edg->Int,(∀e∈c.edges,Lim B (f e))->Lim ((c.over*Zm n aims c r)*(4*B)) (c.edges.map fun e=>(Zc aims c.over r e:Int)*f e).sum:=by
  intro f f;refine(zkc (B:=c.over*B) c.edges fun e a=>((Xo (zcw (s e a))).mul (f e a))).mono ?_;have b:c.edges.length*(c.over*B)<=4*(c.over*B):=zZ _ q;have p:4*(c.over*B)=c.over*(4*B):=by rw[jq]
  have f:c.over*(4*B)<=(c.over*Zm n aims c r)*(4*B):=zZ _ (JM _ d);omega
 have p:=k.row;have f:=k.most;generalize c.over*Zm n aims c r=D at l m p f;constructor
 ·refine jk.list (by rw[k.len];exact i) ?_;have d:∀i,Lim (4*B) ((Zd n aims c r).1.getD i 0):=by
   intro i;have b:=l (fun e=>e.row.1.getD i 0) (fun e a=>(o e a).1.at i);rw[<-p i,zd1,zbv,Q9]at b;rw[zd1];exact Nat.le_of_mul_le_mul_left b m
  exact⟨d 0,d 1,d 2,d 3⟩
 ·have b:=l (fun e=>e.row.2) (fun e a=>(o e a).2);rw[f];generalize (c.edges.map fun e=>(Zc aims c.over r e:Int)*e.row.2).sum=s at *;obtain⟨a,d⟩:=b;have b:(0:Int)<(D:Int):=om;rw[J0]at a d;constructor
  ·refine(zbj b).2 ?_;rw[Int.neg_mul,Qp];exact a
  ·exact Int.ediv_le_of_le_mul b (by rw[Qp];exact d)
end

section
open Go.RowKit
variable {A B N b0 g gm k:Nat}{M:Nat->Prop}{q:Nat->Int}{w w1:H}{z:Int}
theorem zoP:∀{zs xs:List Int} {i:Nat} {z x:Int},zs[i]? =E z->xs[i]? =E x->T.dotZ (zs.take (i+1)) (xs.take (i+1))=T.dotZ (zs.take i) (xs.take i)+z*x
 |[],_,_,_,_,h,_=>by simp at h
 |_::_,[],_,_,_,_,h=>by simp at h
 |a::zs,b::xs,0,z,x,h,k=>by
  simp at h k;subst h k;simp[T.dotZ]
 |a::zs,b::xs,i+1,z,x,h,k=>by
  have l:=zoP (zs:=zs) (xs:=xs) (i:=i) (by simpa using h) (by simpa using k);have f:∀(c d:Int) (us e:List Int),T.dotZ (c::us) (d::e)=c*d+T.dotZ us e:=fun c d us e=>by simp[T.dotZ]
  rw[zaN,zaN,zaN,zaN,f,f,l];omega
theorem zeW(w:H)(u v:Value)(zs xs:List Int)(R:Jf w u zs)(U:Jf w v xs)(p:zs.length=xs.length)(hn:zs.length<=4)(Y:Zu 1000000 zs)(X:Zu 1000000 xs):
 Calls pg 21 #[u,v] w fun e w'=>e=Xa (it Xb (T.dotZ zs xs))/\Below w.heap.size w w':=by
 obtain⟨_,_,rfl,Q⟩:=R;obtain⟨_,_,rfl,q⟩:=U;rw[<-p]at q⊢;have D:=zf Q;have F:=zf q;have c:=zf p;go_enter func21,ntmps21
 go_wp2;go_loopw [5,6] (fun Z b wr=>∃(i:Nat) (m:Int),i<=zs.length/\Z=it Xb m/\b=it Xb (i:Nat)/\Lim (i*1000000000000) m/\Hid (m=T.dotZ (zs.take i) (xs.take i))/\Ext w wr) (fun _ b _=>((zs.length:Int)-intOf b).toNat)
 case atStart=>exact⟨0,0,om,rfl,rfl,Xp _,rfl,Xe _⟩
 case round=>
  obtain⟨i,m,_,rfl,rfl,hm,d,a⟩:=hrel;by_cases l:i<zs.length
  ·obtain⟨g,off,rfl,_,N⟩:=D.out om;obtain⟨L,a0,rfl,_,P⟩:=F.out om;have o:i<xs.length:=by have:=c.out;omega
   have s:=zg l;have r:=zg o;have J:=a.cell (N i _ s);have K:=a.cell (P i _ r);have I:=Y _ (zJ l);have bx:=X _ (zJ o);have y:=zf (zoP s r);generalize zs[i]=z at *;generalize xs[i]=x at *;have f:=I.mul bx;have k:=hm.add f;have w1:wrap64 (z*x)=z*x:=Go.IntWalk.wrap64_in _ (by unfold Lim at f;omega);have w2:wrap64 (m+z*x)=m+z*x:=Go.IntWalk.wrap64_in _ (by unfold Lim at k;omega);have a2:IntKind.i64.wrap (m+IntKind.i64.wrap (z*x))=m+z*x:=by
    rw[Go.IntWalk.i64_left,Go.IntWalk.i64_left,w1,w2]
   have C:Hid (m+z*x=T.dotZ (zs.take (i+1)) (xs.take (i+1))):=by rw[Hid,y.out,d.out]
   have t:=zf (k.mono (show i*1000000000000+1000000*1000000<=(i+1)*1000000000000 by omega));have y0:=Xe wr;go_wp2;refine ZO (S:=fun W=>W.cell? ⟨g,off+i,O⟩=E (it Xb z)/\W.cell? ⟨L,a0+i,O⟩=E (it Xb x)) kr ⟨J,K⟩ (fun a1=>?_);refine tkv 0 ?_;refine tkv 1 ?_;refine tkv 2 ?_;refine tkv 3 ?_;refine tkv 4 ?_;refine tkv 5 ?_;refine tkv 6 ?_;refine tkv 7 ?_;refine tkv 8 ?_;refine tkv 9 ?_;refine tkv 10 ?_;refine tkv 11 ?_;refine zV kr ?_ _;go_wp2;go_roundw
   case rel=>exact⟨i+1,m+z*x,om,rfl,by go_num,t.out,C,a.drew⟩
   case measure=>simp[intOf];omega
  ·obtain rfl:i=zs.length:=om;have B:Hid (m=T.dotZ zs xs):=by
    rw[Hid,d.out,Zx,c.out,Zx]
   go_wp2;go_ret;exact⟨by rw[<-B.out];rfl,a⟩
theorem ziH{l:List Int}(h:Zu B l)(j:Nat):Zu B (l.take j):=fun z a=>h z (ZY a)
theorem zcC:∀{zs xs:List Int},Zu A zs->Zu B xs->Lim (zs.length*(A*B)) (T.dotZ zs xs)
 |[],_,_,_=>by simpa[T.dotZ]using Xp _
 |z::zs,[],_,_=>by simpa[T.dotZ]using Xp _
 |z::zs,x::xs,h,k=>by
  have e:T.dotZ (z::zs) (x::xs)=z*x+T.dotZ zs xs:=by simp[T.dotZ]
  rw[e,qi];refine(((h z qA).mul (k x qA)).add (zcC (fun y a=>h y (qq _ a)) (fun y a=>k y (qq _ a)))).mono (jm ?_);rw[Zg];omega
theorem Lim.lt(h:Lim B z)(a:B<N):z.natAbs<N:=qu (zd1.1 h) a
theorem zkd(K:Nat)(p:K+K<=1073741823)(w:H)(v u:Value)(zs xs:List Int)(h:Zo w v zs)(k:Zo w u xs)(r:zs.length=xs.length)(a:zs.length<=4)(b:Zu A zs)(c:Zu B xs)(q:A<4294967296^K)(hb:B<4294967296^K)(hm:4*(A*B)<4294967296^K):
 Calls pg 176 #[ag #[v],u] w fun e w'=>∃t:WT,e=Xa t.val/\zy w' t.val (T.dotZ zs xs)/\Below w.heap.size w w':=by
 obtain⟨z,m,a,o⟩:=h;obtain⟨y,s,d,x⟩:=k;obtain⟨fa,f,rfl⟩:=a.shape;obtain⟨i,l,rfl⟩:=d.shape;rw[zm]at a d⊢;rw[zm];refine zoQ K p w fa i f l z y zs xs m a o s d x r om (fun z a=>(b z a).lt q) (fun z a=>(c z a).lt hb) (fun a f d i=>((b a f).mul (c d i)).lt om) (fun j=>?_);refine(zcC (ziH b j) (ziH c j)).lt (qu ?_ hm);exact zZ _ (by rw[zX];omega)
theorem zy.put{t:WT}{a:Option Addr}{l cap:Nat}{b':Bool}(h:zy w t.val z)(b:w.cell? (Xd g 0 O)=E (G b'))(c:w.cell? (Xd g 1 O)=E (V a l cap)):
 zy ((w.setCell (Xd g 0 O) (G t.b)).setCell (Xd g 1 O) t.sv) t.val z:=by
 obtain⟨_,_,_,_,a,e,d⟩:=h.parts;obtain⟨tb,_,_,_⟩:=t;simp only[WT.val,WT.sv,zdU,Array.mk.injEq,za5,Value.bool.injEq,qp,zel]at a;obtain⟨rfl,rfl,rfl,rfl⟩:=a;exact QJ e d b c
theorem zjp(K:Nat)(f:K+K<=1073741823)(w:H)(v u:Value)(zs xs:List Int)(h:Zo w v zs)(k:Zo w u xs)(l:zs.length=xs.length)(m:zs.length<=4)(c:Zu A zs)(d:Zu B xs)(i:A<4294967296^K)(hb:B<4294967296^K)(hm:4*(A*B)<4294967296^K):
 Calls pg 94 #[ag #[v],u] w fun e w'=>∃t:WT,e=Xa t.val/\zy w' t.val (T.dotZ zs xs)/\Below w.heap.size w w':=by
 have b:=zf (fun W (a:Ext w W)=>zkd K f W v u zs xs (h.ext a) (k.ext a) l m c d i hb hm);have c:=Xl (w.alloc (cl #[v] 107)) (G false) (V O 0 0) 85;have a:=zaA w (cl #[v] 107) (cl #[G false,V O 0 0] 85);rw[zL]at c;clear h k;go_enter func94,ntmps94
 go_wp2_with fail
 refine(b.out _ (((Xe w).alloc _).alloc _)).mono ?_;rintro e w1 ⟨t,rfl,l,b⟩;obtain⟨f,i,_,_,_⟩:=c.below b;have d:=zf (l.put f i);have q:=a.trans (b.mono a.size);obtain⟨tb,m,p,o⟩:=t;simp only[WT.val,WT.sv]at d⊢;clear b a c l;go_wp2;exact zH (v:=ag #[G tb,V m p o]) (by simp[results,results94,go_sem,f,i]) rfl ⟨⟨tb,m,p,o⟩,rfl,d.out,(q.setCell sp _).setCell sp _⟩
structure CT where
 a:Option Addr×Nat×Nat
 o:Option Addr×Nat×Nat
 p:Option Addr×Nat×Nat
 e:Option Addr×Nat×Nat
def sl3 (x:Option Addr×Nat×Nat):Value:=V x.1 x.2.1 x.2.2
def CT.cells (c:CT):List Value:= [sl3 c.a,sl3 c.o,sl3 c.p,sl3 c.e]
def CT.val (c:CT):Value:=ag #[sl3 c.a,sl3 c.o,sl3 c.p,sl3 c.e]
theorem zax(w:H)(a b c:Obj):(((w.alloc a).alloc b).alloc c).heap[w.heap.size]? =E a/\(((w.alloc a).alloc b).alloc c).heap[w.heap.size+1]? =E b/\(((w.alloc a).alloc b).alloc c).heap[w.heap.size+1+1]? =E c/\Ext w (((w.alloc a).alloc b).alloc c):=by
 obtain⟨d,e⟩:=Xj w a b;refine⟨(qH _ _ _ so).trans d,(qH _ _ _ sp).trans e,?_,(((Xe w).alloc _).alloc _).alloc _⟩;have:=zC ((w.alloc a).alloc b) c;simpa using this
theorem zlZ{b:Nat}{W:H}{o:Obj}(h:Wr (fun k=>k=g) w W)(hb:w.heap[b]? =E o)(a:b≠g):W.heap[b]? =E o:=(h.block b (zd.1 hb).1 a).trans hb
theorem zrT{W:H}(h:Wr (fun k=>k=g) w W)(a b:Value):Wr (fun k=>k=g) w ((W.setCell (Xd g 0 O) a).setCell (Xd g 1 O) b):=
 (h.trans (zv (U:=fun k=>k=g) rfl a)).trans (zv (U:=fun k=>k=g) rfl b)
theorem zl0(K:Nat)(hK:K+K<=1073741823)(w:H)(c:CT)(r:NT)(over:Nat)(pt g:List Int)(m:Int)(ho:NatV w (sl3 c.o) over)(hp:Zo w (sl3 c.p) pt)(hg:Zo w r.fv g)(hm:zy w r.t.val m)(hl:g.length=pt.length)(hn:g.length<=4)(hA:Zu A g)(hB:Zu B pt)(hAm:Lim A m)(hBo:over<=B)(ha:A<4294967296^K)(hb:B<4294967296^K)(hab:4*(A*B)<4294967296^K):
 Calls pg 159 #[c.val,r.val] w fun e w'=>∃t:WT,e=Xa t.val/\zy w' t.val (m*(over:Int)-T.dotZ g pt)/\Below w.heap.size w w':=by
 obtain⟨⟨aa,al,ac⟩,⟨oa,ol,oc⟩,⟨pa,pl,pc⟩,⟨ea,el,ec⟩⟩:=c;obtain⟨⟨fa,fl,fc⟩,⟨tb,⟨ta,tl,tc⟩⟩,nn⟩:=r;simp only[CT.val,NT.val,sl3,NT.fv,WT.sv,WT.val]at *;obtain⟨n0,n1,n2,hX⟩:=zax w (cl #[V aa al ac,V oa ol oc,V pa pl pc,V ea el ec] 110) (cl #[V fa fl fc,G tb,V ta tl tc,it Xb nn] 102) (cl #[G false,V O 0 0] 85);go_enter Tryz.func159,Tryz.ntmps159
 go_wp2_with fail
 generalize (((w.alloc (cl #[V aa al ac,V oa ol oc,V pa pl pc,V ea el ec] 110)).alloc (cl #[V fa fl fc,G tb,V ta tl tc,it Xb nn] 102)).alloc (cl #[G false,V O 0 0] 85))=w0 at *;have HK:=zf (fun W (hW:Wr (fun k=>k=w.heap.size+1+1) w0 W)=>
  have q0:=zlZ hW n0 (by omega);have q1:=zlZ hW n1 (by omega);Xc (ze _ _ 1 _ _ _ q0) (Xc (ze _ _ 2 _ _ _ q0) (Xc (ze _ _ 0 _ _ _ q1) (Xc (ze _ _ 1 _ _ _ q1) (ze _ _ 2 _ _ _ q1)))))
 have hb3:(m*(over:Int)).natAbs<4294967296^K:=(hAm.mul (Xo hBo)).lt (by omega);have hb4:=(zcC hA hB).lt (qu (zZ _ hn) hab);have HF:=zf (fun W1 (h1:Ext w W1)=>zaR W1 _ over (ho.below h1));have HT:=zf (fun W1 t (h1:Ext w W1) (ht:zy W1 t over)=>zam W1 _ t m over K K hK (hm.below h1) ht (hAm.lt ha) (by simpa using qu hBo hb));have HA:=zf (fun W1 (h1:Ext w W1)=>zkd K hK W1 _ _ g pt (hg.ext h1) (hp.ext h1) hl hn hA hB ha hb hab);refine ZO (S:=fun W=>W.cell? (Xd w.heap.size 1 O)=E (V oa ol oc)/\W.cell? (Xd w.heap.size 2 O)=E (V pa pl pc)/\W.cell? ⟨w.heap.size+1,0,O⟩=E (V fa fl fc)/\W.cell? ⟨w.heap.size+1,1,O⟩=E (G tb)/\W.cell? ⟨w.heap.size+1,2,O⟩=E (V ta tl tc)) (by kernel_rfl) (HK.out w0 (Xi _ _)) (fun hHeld=>?_);refine tkv 0 ?_;refine tkv 1 ?_;refine tkv 2 ?_;refine tkv 3 ?_;refine tkv 4 ?_;refine tkv 7 ?_;refine tkv 8 ?_;refine tkv 9 ?_;refine tkv 10 ?_;refine tkv 11 ?_;refine rcl 5 (HF.out _ hX.drew) ?_;rintro e wA ⟨tA,rfl,hA1,hbA⟩;have xA:=ZG hbA;refine bk (HK.out _ (Xf xA)) fun hHeld=>?_
 refine rcl 6 (HT.out _ _ (hX.trans xA) hA1) ?_;rintro e wB ⟨tB,rfl,hB1,hbB⟩;have xB:=xA.trans (Xh hbB);refine bk (HK.out _ (Xf xB)) fun hHeld=>?_
 refine rcl 12 (HA.out _ (hX.trans xB)) ?_;rintro e wC ⟨tC,rfl,hC1,hbC⟩;have xC:=xB.trans (Xh hbC);refine bk (HK.out _ (Xf xC)) fun hHeld=>?_
 refine rcl 13 (zgD _ _ _ _ _ _ (by omega) (hB1.below (Xh hbC)) hC1 hb3 hb4) ?_;rintro e wD ⟨tD,rfl,hD1,hbD⟩;have xD:=xC.trans (Xh hbD);obtain⟨⟨db,⟨da,dl,dc⟩⟩,rfl⟩:=hD1.shape;have q2:=(xD.block _ (zd.1 n2).1).trans n2;have c0:=ze _ _ 0 _ _ _ q2;have c1:=ze _ _ 1 _ _ _ q2;have f0:=Xg (j:=0) q2;have f1:=Xg (j:=1) q2;have HP:=zf (hD1.put c0 c1);have HB:=zf (hX.trans xD);simp only[WT.val,WT.sv]at HP⊢;refine bk (HK.out _ (Xf xD)) fun hHeld=>?_
 refine rd1 14 fun K hK=>?_;go_simp;refine hK.out _ _ (HK.out _ (zrT (Xf xD) _ _)) (h:=fun hHeld=>?_);refine zV (by kernel_rfl) ?_ _;go_wp2;exact zH (v:=ag #[G db,V da dl dc]) (by simp[results,Tryz.results159,go_sem,c0,c1]) rfl ⟨⟨db,da,dl,dc⟩,rfl,HP.out,(HB.out.setCell (by simp;omega) _).setCell (by simp;omega) _⟩
attribute [local go_sem] zD zW qJ
def GwI (w1:H)(b0 g gm N:Nat)(q:Nat->Int)(k:Nat)(M:Nat->Prop)(A:H):Prop:=
 Wr (fun b=>b=g\/b=gm) w1 A/\k<=N/\∃(v:Value) (us:List WT),us.length=k/\A.heap[g]? =E (cl #[v] 96)/\Grw b0 85 2 A v (us.map WT.cells)/\(∀(i:Nat) (u:WT),us[i]? =E u->zy A u.val (q i))/\(∀b,v.ownBlock=E b->b=gm\/w1.heap.size<=b)/\∀b,M b↔b=g\/v.ownBlock=E b
theorem GwI.keep{A B:H}(h:GwI w1 b0 g gm N q k M A)(a:zn w1.heap.size A B):GwI w1 b0 g gm N q k M B:=by
 obtain⟨b,c,v,us,d,e,f,i,l,m⟩:=h;exact⟨b.keep a,c,v,us,d,a.block _ _ e (.inr rfl),f.keep a,fun c u b=>(i c u b).keep a,l,m⟩
theorem GwI.list{A:H}{zs:List Int}(h:GwI w1 b0 g gm zs.length q zs.length M A)(l:∀i,i<zs.length->q i=zs.getD i 0):∃f:Option Addr×Nat×Nat,A.heap[g]? =E (cl #[sl3 f] 96)/\Zo A (sl3 f) zs:=by
 obtain⟨_,_,v,us,d,e,a,k,_,_⟩:=h;obtain⟨b,c,rfl⟩:=a.shape;refine⟨(b,_,c),e,us,d,a.list,fun i t z b a=>?_⟩;have:=k i t b;have b:=(zo.1 a).1;rw[l i b,zk,a]at this;exact this
theorem GwI.lt{A:H}(h:GwI w1 b0 g gm N q k M A):∀b,M b->b<A.heap.size:=by
 obtain⟨_,_,v,us,_,c,d,_,_,e⟩:=h;intro b a;rcases(e b).1 a with rfl|a
 ·exact(zd.1 c).1
 ·exact(d.type b a).1.lt
theorem GwI.more{A A2 A4 A5:H}{g5 cap5:Nat}{v:Value}{us:List WT}{u:WT}(h:GwI w1 b0 g gm N q k M A)(L:k<N)(P:q k=z)(f:zn w1.heap.size A A2)(o:Ext A2 A4)(c:g<w1.heap.size)(d:g≠gm)(e:A.heap[g]? =E (cl #[v] 96))(I:us.length=k)(C:Grw b0 85 2 A v (us.map WT.cells))(l:∀(i:Nat) (u:WT),us[i]? =E u->zy A u.val (q i))(p:zy A4 u.val z)(own:A5.ownsRow b0 85 2 (V (E (Xd g5 0 O)) (us.length+1) cap5) (us.length+1) ((us.map WT.cells).flatten++u.cells))(grow:A4.grownBy A5 v.ownBlock)(s:v.ownBlock=E g5\/A4.heap.size<=g5)(dig:qK A5 g5):
 Wr M A2 (A5.setCell (Xd g 0 O) (V (E (Xd g5 0 O)) (us.length+1) cap5))/\∃a,GwI w1 b0 g gm N q (k+1) a (A5.setCell (Xd g 0 O) (V (E (Xd g5 0 O)) (us.length+1) cap5))/\∀b,a b->M b\/A.heap.size<=b:=by
 obtain⟨B,_,c,_,_,d,_,_,w,x⟩:=h;have a:c=v:=by
  have:=d.symm.trans e;simpa using this
 subst a;have D:=(C.keep f).ext o;have J:∀b,c.ownBlock=E b->b≠g:=fun b a e=>by rcases w b a with h|h<;>omega
 have y:=Qh grow (fun b a=>a);have m:=o.size;have m:=f.size;have m:=B.size;have m:=(o.block g (by have:=(zd.1 (f.block _ _ d (.inr rfl))).1;omega)).trans (f.block _ _ d (.inr rfl));have t:=y.some m (fun e=>J g e rfl);have K:(A5.setCell (Xd g 0 O) (V (E (Xd g5 0 O)) (us.length+1) cap5)).heap[g]? =E (cl #[V (E (Xd g5 0 O)) (us.length+1) cap5] 96):=by
  rw[Xk t];rfl
 have r:Wr (fun b=>b=g) A5 (A5.setCell (Xd g 0 O) (V (E (Xd g5 0 O)) (us.length+1) cap5)):=zv (U:=fun b=>b=g) rfl _;have d:Wr (fun b=>b=g\/c.ownBlock=E b) A2 (A5.setCell (Xd g 0 O) (V (E (Xd g5 0 O)) (us.length+1) cap5)):=((Xf o).trans (y.mono fun b a=> .inr a)).trans (r.mono fun b a=> .inl a);have Q:A5.ownsRow b0 85 2 (V (E (Xd g5 0 O)) ((us.map WT.cells).length+1) cap5) ((us.map WT.cells).length+1) ((us.map WT.cells).flatten++u.cells):=by rw[zm];exact own
 have F:=D.more (cs:=u.cells) rfl Q dig;rw[zm]at F;have Q:g5≠g:=by
  rintro rfl;rcases s with h|h
  ·exact J _ h rfl
  ·have:=(zd.1 m).1;omega
 have J:∀b,b=g->qK A5 b:=fun b a=>by
  rw[a];exact zE t (by intro u p;simp at p;subst p;intro n e;obtain⟨_,_,rfl⟩:=C.shape;cases e)
 have C:=D.dig;refine⟨d.mono fun b a=>(x b).2 a,fun b=>b=g\/b=g5,⟨?_,L,V (E (Xd g5 0 O)) (us.length+1) cap5,us ++ [u],by rw[zM,I];rfl,K,?_,fun i t m=>?_,fun b a=>?_,fun b=>?_⟩,fun b a=>?_⟩
 ·have c:=B.keep f;refine⟨d.os.trans c.os,d.tape.trans c.tape,d.output.trans c.output,zF c.size d.size,fun b a l=>?_⟩;refine(d.block b (zK a c.size) ?_).trans (c.block b a l);rintro(e|e);·exact l (.inl e)
  ·rcases w b e with e|e
   ·exact l (.inr e)
   ·omega
 ·rw[Z6];refine F.same r.size (fun b a=>?_);have c:g5=b:=by simpa[Value.ownBlock]using a
  exact r.block b (by rw[<-c];obtain⟨_,d,_⟩:=dig.1;exact(zd.1 d).1) om
 ·have up:∀{t:WT} {d:Int},zy A4 t.val d->zy (A5.setCell (Xd g 0 O) (V (E (Xd g5 0 O)) (us.length+1) cap5)) t.val d:=fun h=>(h.wr y C).wr r J
  by_cases d:i<us.length
  ·rw[zS d]at m;exact up (((l i t m).keep f).below o)
  ·have d:i=us.length:=by
    have:=(zo.1 m).1;rw[zM,ZH]at this;omega
   rw[d,zG (zh _),Qn]at m;have f:u=t:=by simpa using m
   have e:q i=z:=by rw[d,I];exact P
   rw[e,<-f];exact up p
 ·have c:g5=b:=by simpa[Value.ownBlock]using a
  subst c;rcases s with h|h
  ·exact w _ h
  ·exact .inr om
 ·simp only[Value.ownBlock,qY,qN];constructor
  ·rintro(h|h);·exact .inl h
   ·exact .inr h.symm
  ·rintro(h|h);·exact .inl h
   ·exact .inr h.symm
 ·rcases a with rfl|rfl
  ·exact .inl ((x _).2 (.inl rfl))
  ·rcases s with h|h
   ·exact .inl ((x _).2 (.inr h))
   ·exact .inr om
end

section
open Go.RowKit
section

variable {α:Type} {te:TypeId} {sz:Nat} {tb:TypeId} {bx:Value->Array Value} {cells:α->List Value} {w1 A A2 A4 A5:World} {b0 g gm g5 cap5 j:Nat} {v:Value} {us:List α} {u:α} {M:Nat->Prop}
def GrJ (te:TypeId)(sz:Nat)(tb:TypeId)(bx:Value->Array Value)(cells:α->List Value)(w1:H)(b0 g gm:Nat)(v:Value)(us:List α)(M:Nat->Prop)(A:H):Prop:=
 Wr (fun b=>b=g\/b=gm) w1 A/\A.heap[g]? =E (cl (bx v) tb)/\Grw b0 te sz A v (us.map cells)/\(∀b,v.ownBlock=E b->b≠g/\(b=gm\/w1.heap.size<=b))/\∀b,M b↔b=g\/v.ownBlock=E b
theorem GrJ.keep (h:GrJ te sz tb bx cells w1 b0 g gm v us M A){B:H}(a:zn w1.heap.size A B):GrJ te sz tb bx cells w1 b0 g gm v us M B:=by
 obtain⟨b,c,d,e,f⟩:=h;exact⟨b.keep a,a.block _ _ c (.inr rfl),d.keep a,e,f⟩
theorem GrJ.lt (h:GrJ te sz tb bx cells w1 b0 g gm v us M A):∀b,M b->b<A.heap.size:=by
 obtain⟨_,c,d,_,e⟩:=h;intro b a;rcases(e b).1 a with rfl|a
 ·exact(zd.1 c).1
 ·exact(d.type b a).1.lt
theorem GrJ.far (h:GrJ te sz tb bx cells w1 b0 g gm v us M A)(f:∀x∈(bx v).toList,ZM x):∀b,M b->qK A b/\(qQ A b te\/qQ A b tb):=by
 obtain⟨_,c,d,_,e⟩:=h;intro b a;rcases(e b).1 a with rfl|a
 ·exact⟨zE c f,.inr ⟨_,_,c⟩⟩
 ·exact⟨d.dig b a,.inl (d.type b a).1⟩
theorem GrJ.start (hg:A.heap[g]? =E (cl (bx (V O 0 0)) tb)):GrJ te sz tb bx cells A b0 g gm (V O 0 0) [] (fun b=>b=g) A:=
 ⟨Xi _ _,hg,Xt _ _ _ _,(fun b a=>by cases a),fun b=>by simp[Value.ownBlock]⟩
theorem GrJ.fresh (h:GrJ te sz tb bx cells w1 b0 g gm v us M A)(d:zn w1.heap.size A A2)(a:Wr (fun b=>A.heap.size<=b) A2 A4):GrJ te sz tb bx cells w1 b0 g gm v us M A4:=by
 obtain⟨c,l,i,m,e⟩:=h.keep d;have k:=h.lt;have d:=h.1.size;refine⟨⟨a.os.trans c.os,a.tape.trans c.tape,a.output.trans c.output,zF c.size a.size,fun b d o=>(a.block b (zK d c.size) (fun f=>om)).trans (c.block b d o)⟩,a.some l (fun f=>by have:=k g ((e g).2 (.inl rfl));omega),i.same a.size (fun b d=>?_),m,e⟩;have:=k b ((e b).2 (.inr d));exact a.block b (i.type b d).1.lt (fun f=>om)
theorem GrJ.more (h:GrJ te sz tb bx cells w1 b0 g gm v us M A)(d:zn w1.heap.size A A2)(e:Wr (fun b=>A.heap.size<=b) A2 A4)(c:g<w1.heap.size)
 (own:A5.ownsRow b0 te sz (V (E (Xd g5 0 O)) (us.length+1) cap5) (us.length+1) ((us.map cells).flatten++cells u)) (s:(cells u).length=sz) (grow:A4.grownBy A5 v.ownBlock) (i:v.ownBlock=E g5\/A4.heap.size<=g5) (dig:qK A5 g5)
 (r:(bx v).setIfInBounds j (V (E (Xd g5 0 O)) (us.length+1) cap5)=bx (V (E (Xd g5 0 O)) (us.length+1) cap5)):
 Wr M A4 (A5.setCell (Xd g j O) (V (E (Xd g5 0 O)) (us.length+1) cap5))/\∃a,GrJ te sz tb bx cells w1 b0 g gm (V (E (Xd g5 0 O)) (us.length+1) cap5) (us ++ [u]) a (A5.setCell (Xd g j O) (V (E (Xd g5 0 O)) (us.length+1) cap5))/\∀b,a b->M b\/A.heap.size<=b:=by
 have a:=h.lt;have a:=h.1.size;have a:=d.size;have a:=e.size;obtain⟨c,l,q,f,k⟩:=h.fresh d e;have o:=Qh grow (fun b a=>a);have p:=o.some l (fun e=>(f g e).1 rfl);have m:Wr (fun b=>b=g) A5 (A5.setCell (Xd g j O) (V (E (Xd g5 0 O)) (us.length+1) cap5)):=zv (U:=fun b=>b=g) rfl _;have d:Wr (fun b=>b=g\/v.ownBlock=E b) A4 (A5.setCell (Xd g j O) (V (E (Xd g5 0 O)) (us.length+1) cap5)):=(o.mono fun b a=> .inr a).trans (m.mono fun b a=> .inl a);have t:A5.ownsRow b0 te sz (V (E (Xd g5 0 O)) ((us.map cells).length+1) cap5) ((us.map cells).length+1) ((us.map cells).flatten++cells u):=by rw[zm];exact own
 have o:=q.more (cs:=cells u) s t dig;rw[zm]at o;have q:=(zd.1 l).1;have q:g5≠g:=by
  rintro rfl;rcases i with h|h
  ·exact(f _ h).1 rfl
  ·omega
 have l:g5<A5.heap.size:=by obtain⟨_,l,_⟩:=dig.1;exact(zd.1 l).1
 refine⟨d.mono fun b a=>(k b).2 a,fun b=>b=g\/b=g5,⟨?_,?_,?_,fun b a=>?_,fun b=>?_⟩,fun b a=>?_⟩
 ·refine⟨d.os.trans c.os,d.tape.trans c.tape,d.output.trans c.output,zF c.size d.size,fun b a l=>?_⟩;refine(d.block b (zK a c.size) ?_).trans (c.block b a l);rintro(e|e);·exact l (.inl e)
  ·rcases(f b e).2 with e|e
   ·exact l (.inr e)
   ·omega
 ·rw[Xk p,r]
 ·rw[Z6];refine o.same m.size (fun b a=>?_);have c:g5=b:=by simpa[Value.ownBlock]using a
  exact m.block b om om
 ·have c:g5=b:=by simpa[Value.ownBlock]using a
  subst c;refine⟨q,?_⟩;rcases i with h|h
  ·exact(f _ h).2
  ·exact .inr om
 ·simp only[Value.ownBlock,qY,qN];constructor
  ·rintro(h|h);·exact .inl h
   ·exact .inr h.symm
  ·rintro(h|h);·exact .inl h
   ·exact .inr h.symm
 ·rcases a with rfl|rfl
  ·exact .inl ((k _).2 (.inl rfl))
  ·rcases i with h|h
   ·exact .inl ((k _).2 (.inr h))
   ·exact .inr om
end

end

section
open Go.RowKit
attribute [local go_sem] zD zW qJ
def FlI (w1:H)(g4 r2 r3 n:Nat)(m:WT)(q:Nat->Int×Nat)(k:Nat)(M:Nat->Prop)(A:H):Prop:=
 Wr (fun b=>b=g4) w1 A/\k<=n/\(∀i,i<k->(q i).2=1)/\(∃(v:Value) (us:List WT) (fr:Nat×Nat),us.length=k/\A.heap[g4]? =E (cl #[v,G m.b,m.sv] 100 fr)/\A.frozen? (Xd g4 0 O)=false/\Grw w1.heap.size 85 2 A v (us.map WT.cells)/\(∀(i:Nat) (u:WT),us[i]? =E u->zy A u.val (q i).1)/\∀b,M b↔b=g4\/v.ownBlock=E b\/b=r2\/b=r3)
theorem FlI.keep {w1 A B:H}{c d e n:Nat}{m:WT}{q:Nat->Int×Nat}{k:Nat}{M:Nat->Prop}(h:FlI w1 c d e n m q k M A)(b:zn w1.heap.size A B):FlI w1 c d e n m q k M B:=by
 obtain⟨l,o,i,v,us,f,p,d,r,s,t,x⟩:=h;have e:=b.block _ _ d (.inr rfl);exact⟨l.keep b,o,i,v,us,f,p,e,(qw (w:=A) (a:=⟨c,0,O⟩) (e.trans d.symm)).trans r,s.keep b,fun i u c=>(t i u c).keep b,x⟩
def FlX (w:H)(r2 r3:Nat)(q:Nat->Int×Nat)(c:Code)(k:Nat)(A:H):Prop:=c= .ret/\¬(q k).2=1/\Below w.heap.size w A/\A.cell? (Xd r2 0 O)=E (V O 0 0)/\A.cell? (Xd r2 1 O)=E (G false)/\A.cell? (Xd r2 2 O)=E (V O 0 0)/\A.cell? (Xd r3 0 O)=E (G false)
theorem FlX.keep {w A B:H}{b d C:Nat}{q:Nat->Int×Nat}{c:Code}{k:Nat}(h:FlX w b d q c k A)(a:zn C A B)(o:w.heap.size<=C):FlX w b d q c k B:=by
 obtain⟨b,d,e,f,i,l,m⟩:=h;exact⟨b,d,a.below e o (zh _),a.cell f,a.cell i,a.cell l,a.cell m⟩
structure DL where
 n:Int
 e:Bool
 p:Option Addr×Nat×Nat
def DL.pv (d:DL):Value:=V d.p.1 d.p.2.1 d.p.2.2
def DL.val (d:DL):Value:=ag #[it Xb d.n,G d.e,d.pv]
theorem ZS.tail {w:H}{t:TypeId}{g off n cap:Nat}{cs:List Value}{a:List (List Value)}(b:n=a.length)(h:ZS w t (V (E (Xd g off O)) (n+1) cap) 1 (cs::a)):(cap=1->ZS w t (V (E (Xd g off O)) n 0) 1 a)/\(¬cap=1->ZS w t (V (E ⟨g,off+1,O⟩) n (cap-1)) 1 a):=by
 subst b;rcases h with ⟨h,_⟩|⟨_,_,_,a,b,c,d⟩
 ·cases h
 ·simp only[qp,qN,Jg]at a;obtain⟨⟨rfl,rfl,_⟩,_,rfl⟩:=a;rw[qi]at b;refine⟨fun e=> .inr ⟨g,off,0,rfl,om,c,fun i b a=>?_⟩,fun e=> .inr ⟨g,off+1,cap-1,rfl,om,c,fun i b a j u c=>?_⟩⟩
  ·have:=(zo.1 a).1;omega
  ·have:=d (i+1) b (by simpa using a) j u c;rw[show off+1+i*1+j=off+(i+1)*1+j by omega];exact this
end

section
open Go.RowKit
variable {a c d e:Value}{b g:Nat}{w:H}
theorem zhz(a:List (List UInt8)):T.varsN a=if a.length=2/\a.getD 0 []=zan then zcX (a.getD 1 [])else 0:=by
 unfold T.varsN zcX T.varB zan;by_cases b:a.length=2/\a.getD 0 []= [118,97,114,115]
 ·by_cases c:(a.getD 1 []).length=1
  ·rw[zQ ⟨b.1,b.2,c⟩,zQ b,zQ c]
  ·rw[zO (fun h=>c h.2.2),zQ b,zO c]
 ·rw[zO (fun h=>b ⟨h.1,h.2.1⟩),zO b]
theorem znP(a:List (List UInt8)):zdS 2 (fun k x=>if k=0 then decide (x=zan)else decide (zcX x≠0)) a=decide (T.varsN a≠0):=by
 unfold zdS;rw[zaI,zhz];constructor
 ·rintro⟨d,c⟩;have a:=c 0 om;have b:=c 1 om;simp at a b;rw[zQ ⟨d,by simpa using a⟩];simpa using b
 ·intro h;split at h
  ·rename_i a
   refine⟨a.1,fun j b=>?_⟩;dsimp only;obtain rfl|rfl:j=0\/j=1:=om
   ·rw[zQ rfl,a.2];simp
   ·rw[zO om];simpa using h
  ·exact absurd rfl h
theorem zoR(s:List UInt8)(hs:s.length<=2000)(f h c:Nat)(g cap:Nat)(w:H)(hg:g≠c)(a:2<=cap)(b:cap<=9223372036854775807)(l:∀i fv,[QY f,zgh h][i]? =E fv->w.cell? (Xd g i O)=E fv)(y:w.cell? (Xd f 0 O)=E (gS ⟨zan.toArray⟩))(C:f≠c)(h1:w.cell? (Xd h 0 O)=E (pn (E (Xd c 0 O))))(D:h≠c)(o:w.cell? (Xd c 0 O)=E (it Xb 0))(r:w.frozen? (Xd c 0 O)=false):
 Calls pg 229 #[gS ⟨s.toArray⟩,V (E (Xd g 0 O)) 2 cap] w fun e w'=>
  e=Xa (G (decide (T.varsN (Zb s)≠0)))/\Wr (fun k=>k=c) w w'/\(T.varsN (Zb s)≠0->w'.cell? (Xd c 0 O)=E (it Xb (T.varsN (Zb s):Nat))):=by
 have d:c<w.heap.size:=zw o;have m:=ziB s hs [QY f,zgh h] (fun k x=>if k=0 then decide (x=zan)else decide (zcX x≠0)) (fun k=>k=c)
  (fun pre A=>∃z:Int,A.cell? (Xd c 0 O)=E (it Xb z)/\A.frozen? (Xd c 0 O)=false/\(1<pre.length->z=(zcX (pre.getD 1 []):Nat))) g cap w
  (fun x t=>t▸d) hg sp (by simpa using a) b l
  (fun pre A B d q=>by obtain⟨z,a,b,l⟩:=d;exact⟨z,q.cell a,(q.frozen a).trans b,l⟩)
  (fun pre A q q v d q q q=>by obtain⟨z,a,b,l⟩:=d;exact⟨z,(qj _ _ _ _ so).trans a,by simpa using b,l⟩) ?_ ⟨0,o,r,fun q=>by simp at q⟩
 ·have d: [QY f,zgh h].length=2:=rfl;rw[d,znP]at m;refine m.mono ?_;rintro e w' ⟨rfl,o,m⟩;refine⟨rfl,o,fun r=>?_⟩;obtain⟨z,a,b,l⟩:=m (by simpa using r);have d:=r;rw[zhz]at d;have r:=zhz (Zb s);split at d
  ·rename_i B
   rw[zQ B]at r;rw[a,l om,r]
  ·exact absurd rfl d
 ·intro k fv d;match k,d with
  |0,d=>
   simp at d;subst d;refine⟨_,f,rfl,ziz,fun pre x W r t o m=>?_⟩;refine(zfm x zan f W (o.cell (p:=(Xd f 0 O)) C y)).mono ?_;rintro e f ⟨rfl,rfl⟩;obtain rfl:pre= []:=QZ r;obtain⟨z,a,b,l⟩:=m;exact⟨rfl,Xi _ _,fun _=>⟨z,a,b,fun q=>by simp at q⟩⟩
  |1,d=>
   simp at d;subst d;refine⟨_,h,rfl,zqt,fun pre x W r t o m=>?_⟩;obtain⟨z,a,b,l⟩:=m;refine(zjV x h c z W (o.cell (p:=(Xd h 0 O)) D h1) a b om).mono ?_;rintro e f ⟨rfl,a,h⟩;refine⟨rfl,?_,fun f=>⟨(zcX x:Nat),h (by simpa using f),?_,fun _=>?_⟩⟩
   ·rcases a with rfl|rfl
    ·exact Xi _ _
    ·exact Xq (T:=fun k=>k=c) (Xn _ _) (p:=(Xd c 0 O)) rfl _
   ·rcases a with rfl|rfl
    ·exact b
    ·simpa using b
   ·rw[zk,zG om,r];simp
  |k+2,d=>simp at d
theorem zl1(s:List UInt8)(hs:s.length<=2000)(a:Nat)(vC x:Value)(w:H)(h:DQ w a qF.none vC x):
 Calls pg 138 #[pn (E (Xd a 0 O)),gS ⟨s.toArray⟩] w fun e w'=>
  e=Xa (G (decide (T.varsN (Zb s)≠0)))/\Wr (fun k=>k=a) w w'/\(T.varsN (Zb s)≠0->∃t,DQ w' a ⟨T.varsN (Zb s),[],[],[]⟩ t x/\∀k,t.ownBlock=E k->w.heap.size<=k):=by
 obtain⟨X,K,S,U,W⟩:=Zn Tryz.infoColumn;have a0:=h.box.2.2.2.2;have C:Below w.heap.size w ((((w.alloc (cl #[it Xb 0] 3)).alloc (cl #[gS ⟨zan.toArray⟩] 9)).alloc (cl #[pn (E (Xd w.heap.size 0 O))] 330)).alloc (cl #[QY (w.heap.size+1),zgh (w.heap.size+1+1)] 327)):=(zbt w _ _ _).alloc so _;obtain⟨r,Y,Z,t3⟩:=zeK w (cl #[it Xb 0] 3) (cl #[gS ⟨zan.toArray⟩] 9) (cl #[pn (E (Xd w.heap.size 0 O))] 330) (cl #[QY (w.heap.size+1),zgh (w.heap.size+1+1)] 327);have m:=zf (zoR s hs (w.heap.size+1) (w.heap.size+1+1) w.heap.size (w.heap.size+1+1+1) 2
  ((((w.alloc (cl #[it Xb 0] 3)).alloc (cl #[gS ⟨zan.toArray⟩] 9)).alloc (cl #[pn (E (Xd w.heap.size 0 O))] 330)).alloc (cl #[QY (w.heap.size+1),zgh (w.heap.size+1+1)] 327))
  om om om
  (fun q fv b=>by
   rw[ze _ _ _ _ _ _ t3];match q,b with
   |0,b=>simpa using b
   |1,b=>simpa using b
   |q+2,b=>simp at b)
  (ze _ _ _ _ _ _ Y) om (ze _ _ _ _ _ _ Z) om (ze _ _ _ _ _ _ r) (ZK _ _ _ _ _ r))
 have y:=zf h;have P:=zlN (Zb s);obtain⟨n,hn⟩:∃n,T.varsN (Zb s)=n:=⟨_,rfl⟩;rw[hn]at m P⊢;go_enter func138,ntmps138
 go_wp2_with fail
 refine(ze2 _ _).mono ?_;rintro e w1 ⟨rfl,rfl⟩;go_wp2_with fail
 refine(zlA _ _).mono ?_;rintro e w1 ⟨rfl,rfl⟩;go_wp2_with fail
 refine m.out.mono ?_;rintro e i ⟨rfl,Q,F⟩;have R:=(Xf C).trans Q;have c:=R.below (zh _) (fun k e=>om);by_cases d:n=0
 ·subst d;go_wp2;go_ret;exact⟨sp,Xf c,fun h=>absurd rfl h⟩
 ·have hc:=F d;have l:=y.out.below c;have D:=l.box;obtain⟨z,_,B,_,o⟩:=D;have I:decide (n≠0)=true:=by simpa using d
  rw[I];go_wp2_with (at_make;refine wpList_make_full _ rfl _ _ 68 rfl 0 137 X _ 6 underlying68 K S U Xb Xb (n:Int) (n:Int) n rfl rfl rfl rfl (by rw[W];omega) mo (qo _) ?_;intro w3 N J;have f:=(qf _ _).grown J (zh _) (fun k h=>by simp at h);have q0:=(f.cell (p:=(Xd a 0 O)) o).trans z;have q2:=(f.frozen (p:=(Xd a 0 O)) o).trans B)
  go_ret;refine⟨by first|rfl|simp[d],Xq (T:=fun k=>k=a) (Xf (c.trans (f.mono c.size))) (p:=(Xd a 0 O)) rfl _,fun _=>⟨_,(l.below f).cols_made (zoC N) ?_ ?_ sp,fun k L=>?_⟩⟩;·omega
  ·intro e;have:=(((l.rows).choose_spec.2.1).lt _ e).2;omega
  ·simp[Value.ownBlock]at L;have:=c.size;omega
theorem zc6{B:Nat}{a:H}(h:Below B a w):Below B a w.drew:=⟨h.os,h.tape,h.output,h.size,h.block⟩
theorem zjq(a n:Nat)(b:Option Addr)(cap:Nat)(w:H)(h:w.cell? (Xd a 0 O)=E (V b n cap))(c:n<=1000):
 Calls pg 76 #[pn (E (Xd a 0 O))] w fun e w'=>e=Xa (it Xb ((2+n:Nat):Int))/\w'=w:=by
 go_enter func76,ntmps76
 go_wp2;go_ret;exact⟨zaQ sp,rfl⟩
theorem DQ.shapeR{c:Nat}{p:qF}(h:DQ w c p e a):∃b d,a=V b p.rows.length d:=by
 obtain⟨_,a,b,_⟩:=h.rows;rw[<-a];obtain⟨_,a|⟨g,_,_,c,_⟩⟩:=b;·exact⟨O,0,by rw[a.1,a.2]⟩
 ·exact⟨_,_,c⟩
theorem DQ.colsAt{c:Nat}{p:qF}{b:Value}(h:DQ w c p b d)(e:0<p.n):∃a zs,b=V (E (Xd a 0 O)) p.n p.n/\Whs w a zs/\zft p zs:=by
 rcases h.cols with b|⟨a,zs,b,_,c,d⟩
 ·omega
 ·exact⟨a,zs,b,c,d⟩
def StepD (f:Nat)(args:Array Value)(i:Nat)(p:qF)(ws:List (List UInt8))(gp:Nat)(vC vR:Value)(B:Nat)(w:H):Prop:=
 Calls pg f args w fun e w'=>e=Xa (G (jD i p ws).isSome)/\Wr (Own gp vC vR) w w'/\∀q,jD i p ws=E q->∃vC' vR',DQ w' gp q vC' vR'/\∀k,Own gp vC' vR' k->Own gp vC vR k\/B<=k
theorem zoS(l:List UInt8)(d:l.length<=2000)(a B:Nat)(b c:Value)(w:H)(h:DQ w a qF.none b c)(f:B<=w.heap.size):
 StepD 138 #[pn (E (Xd a 0 O)),gS ⟨l.toArray⟩] 0 qF.none (Zb l) a b c B w:=by
 refine(zl1 l d a b c w h).mono ?_;rintro e a ⟨rfl,b,i⟩;have a:jD 0 qF.none (Zb l)=if T.varsN (Zb l)=0 then .none else E ⟨T.varsN (Zb l),[],[],[]⟩:=by unfold jD;rw[zQ rfl]
 rw[a];refine⟨?_,b.mono (fun k e=>Or.inl e),fun q a=>?_⟩;·by_cases b:T.varsN (Zb l)=0<;>simp[b]
 ·by_cases b:T.varsN (Zb l)=0
  ·rw[zQ b]at a;cases a
  ·rw[zO b]at a;injection a with a
   subst a;obtain⟨m,a,d⟩:=i b;refine⟨m,c,a,fun k a=>?_⟩;rcases a with e|e|e
   ·exact Or.inl (Or.inl e)
   ·exact Or.inr (zF f (d k e))
   ·exact Or.inl (Or.inr (Or.inr e))
theorem zqW(l:List UInt8)(hl:l.length<=2000)(gp B:Nat)(p:qF)(vC vR:Value)(w:H)(h:DQ w gp p vC vR)(hn:0<p.n/\p.n<=4)(hrg:p.rg= []):
 StepD 139 #[pn (E (Xd gp 0 O)),gS ⟨l.toArray⟩] 1 p (Zb l) gp vC vR B w:=by
 obtain⟨bc,zs,rfl,hz,hc⟩:=h.colsAt hn.1;refine(zmz l hl gp bc p.n vR zs w h.box hn.2 hz hc.1).mono ?_;rintro e w' ⟨rfl,hw,hq⟩;have ht:jD 1 p (Zb l)=if zbm zbB p.n (Zb l)=true then E { p with mx:=((Zb l).drop 1).map T.wZ } else .none:=by
  unfold jD zbm;rw[zO om,zQ rfl];simp only[Z9]
 rw[ht];refine⟨?_,hw.mono (fun k e=>Or.inr (Or.inl (by rw[e];rfl))),fun q hqe=>?_⟩;·cases zbm zbB p.n (Zb l)<;>simp
 ·by_cases h0:zbm zbB p.n (Zb l)=true
  ·rw[zQ h0]at hqe;injection hqe with hqe
   subst hqe;exact⟨_,_,h.cols_anew rfl hn.1 hw (hq h0) (zqG hc hrg (jU h0).1) rfl rfl,fun k hk=>Or.inl hk⟩
  ·rw[zO h0]at hqe;cases hqe
theorem znQ(i:Nat)(l:List UInt8)(hl:l.length<=2000)(gp B:Nat)(p:qF)(vC vR:Value)(w:H)(h:DQ w gp p vC vR)(hn:0<p.n/\p.n<=4)(h2:2<=i)(hi:i<=1+p.n)(hrg:p.rg.length=i-2):
 StepD 140 #[pn (E (Xd gp 0 O)),gS ⟨l.toArray⟩,it Xb ((i-2:Nat):Int)] i p (Zb l) gp vC vR B w:=by
 obtain⟨bc,zs,rfl,hz,hc⟩:=h.colsAt hn.1;refine(zk7 l hl gp bc p.n (i-2) vR zs w h.box hn.2 om hz hc.1).mono ?_;rintro e w' ⟨rfl,hw,hq⟩;have ht:jD i p (Zb l)=if zbm Je 2 (Zb l)=true then E { p with rg:=p.rg ++ [(T.wZ ((Zb l).getD 1 []),T.wZ ((Zb l).getD 2 []))] } else .none:=by
  unfold jD zbm;rw[zO om,zO om,zQ hi];simp only[Z9]
 rw[ht];refine⟨?_,hw.mono (fun k e=>Or.inr (Or.inl (by rw[e];rfl))),fun q hqe=>?_⟩;·cases zbm Je 2 (Zb l)<;>simp
 ·by_cases h0:zbm Je 2 (Zb l)=true
  ·rw[zQ h0]at hqe;injection hqe with hqe
   subst hqe;exact⟨_,_,h.cols_anew rfl hn.1 hw (hq h0) (znE hc hrg om (jU h0).1) rfl rfl,fun k hk=>Or.inl hk⟩
  ·rw[zO h0]at hqe;cases hqe
theorem zqX(i:Nat)(l:List UInt8)(e:l.length<=2000)(a B:Nat)(p:qF)(d c:Value)(w:H)(h:DQ w a p d c)(b:0<p.n/\p.n<=4)(h2:2<=i)(k:¬i<=1+p.n)(o:p.rows.length<6)(f:B<=w.heap.size):
 StepD 141 #[pn (E (Xd a 0 O)),gS ⟨l.toArray⟩] i p (Zb l) a d c B w:=by
 obtain⟨d,_,rfl,_,_⟩:=h.colsAt b.1;refine(zmE l e a d p c w h b.1 b.2 om).mono ?_;rintro e a ⟨rfl,b,m⟩;have a:jD i p (Zb l)=if zdX p.n (Zb l)=true then E { p with rows:=p.rows ++ [rowOf p.n (Zb l)] } else .none:=by
  unfold jD zdX rowOf;rw[zO om,zO om,zO k];simp only[Z9,o,true_and]
 rw[a];refine⟨?_,b,fun q a=>?_⟩;·cases zdX p.n (Zb l)<;>simp
 ·by_cases b:zdX p.n (Zb l)=true
  ·rw[zQ b]at a;injection a with a
   subst a;obtain⟨k,c,d⟩:=m b;refine⟨_,k,c,fun k c=>?_⟩;rcases c with e|e|e
   ·exact Or.inl (Or.inl e)
   ·exact Or.inl (Or.inr (Or.inl e))
   ·exact(d k e).imp (fun e=>Or.inr (Or.inr e)) (fun e=>zF f e)
  ·rw[zO b]at a;cases a
theorem zoT(i:Nat)(l:List UInt8)(I J:Bool)(b:Nat)(p:qF)(r s:Value)(w:H)(h:DQ w b p r s)(d:zbU i p)(B:l.length<=2000)(hi:i<=100000):
 Calls pg 75 #[pn (E (Xd b 0 O)),ag #[it Xb ((i+1:Nat):Int),gS ⟨l.toArray⟩,G I,G J]] w fun e w'=>
  e=Xa (G (jD i p (Zb l)).isSome)/\Wr (Own b r s) w w'/\∀q,jD i p (Zb l)=E q->∃R S,DQ w' b q R S/\∀k,Own b R S k->Own b r s k\/w.heap.size<=k:=by
 obtain⟨_,_,a3⟩:=h.shapeR;have c:Below w.heap.size w (w.alloc (cl #[it Xb ((i+1:Nat):Int),gS ⟨l.toArray⟩,G I,G J] 166)):=(qf _ _).alloc (zh _) _;have a:=h.below c;obtain⟨x,X,Y,Z,d4⟩:=a.box;have z:=c.size;by_cases K:i=0
 ·subst K;obtain rfl:=d.z rfl;have f:=zf (zoS l B b w.heap.size r s _ a z);clear a h d;go_enter func75,ntmps75
  go_wp2_with fail
  refine f.out.mono ?_;rintro e t ⟨rfl,o,m⟩;go_wp2;go_ret;exact⟨rfl,(Xf c).trans o,m⟩
 ·have C:=d.n om;obtain⟨U,_,a2,_,_⟩:=h.colsAt C.1;by_cases L:i=1
  ·subst L;have f:=zf (zqW l B b w.heap.size p r s _ a C (QZ (by have:=d.g;omega)));clear a h d;go_enter func75,ntmps75
   go_wp2_with fail
   refine f.out.mono ?_;rintro e t ⟨rfl,o,m⟩;go_wp2;go_ret;exact⟨rfl,(Xf c).trans o,m⟩
  ·rw[a2]at x;have y:((i+1:Nat):Int)=(i:Int)+1:=sp;rw[y]at c a x X Y Z d4 z;have D:=zf (fun(W:H) (hW:W.cell? (Xd b 0 O)=E (V (E (Xd U 0 O)) p.n p.n))=>zjq b p.n _ _ W hW om);have a:=a.keep (zn.drew 0 _);have c:=zc6 c;have z:=c.size;have a4:¬(i:Int)+1=1:=om;have a5:¬(i:Int)+1=2:=om;by_cases F:i<=1+p.n
   ·have f:=zf (znQ i l B b w.heap.size p r s _ a C om F (by have:=d.g;omega));have a0:(i:Int)+1<=2+(p.n:Int):=om;have P:((i-2:Nat):Int)=(i:Int)+1-2-1:=om;rw[P]at f;clear a h d P y;go_enter func75,ntmps75
    go_wp2_with fail
    go_region_with (go_at_call 76;refine(D.out _ (by exact x)).mono ?_;rintro e t ⟨rfl,rfl⟩)
    all_goals go_wp2_with fail
    all_goals refine f.out.mono ?_
    all_goals rintro e t ⟨rfl,o,m⟩
    all_goals go_wp2
    all_goals go_ret
    all_goals exact⟨rfl,(Xf c).trans o,m⟩
   ·have a0:¬(i:Int)+1<=2+(p.n:Int):=om;subst a3;by_cases N:p.rows.length<6
    ·have f:=zf (zqX i l B b w.heap.size p r _ _ a C om F N z);have a1:(p.rows.length:Int)<6:=om;clear a h d y;go_enter func75,ntmps75
     go_wp2_with fail
     go_region_with (go_at_call 76;refine(D.out _ (by exact x)).mono ?_;rintro e t ⟨rfl,rfl⟩)
     all_goals go_wp2_with fail
     all_goals refine f.out.mono ?_
     all_goals rintro e t ⟨rfl,o,m⟩
     all_goals go_wp2
     all_goals go_ret
     all_goals exact⟨rfl,(Xf c).trans o,m⟩
    ·have Q:jD i p (Zb l)= .none:=by
      unfold jD;rw[zO K,zO L,zO F,zO (fun hh=>N hh.1)]
     have T:=zf Q;have a1:¬(p.rows.length:Int)<6:=om;clear a h d y Q;go_enter func75,ntmps75
     go_wp2_with fail
     go_region_with (go_at_call 76;refine(D.out _ (by exact x)).mono ?_;rintro e t ⟨rfl,rfl⟩)
     all_goals go_wp2
     all_goals go_ret
     all_goals rw[T.out]
     all_goals exact⟨rfl,Xf c,fun q hq=>by cases hq⟩
theorem Whs.set_int{zs:List Int}{z z':Int}(h:Whs w b zs)(c:w.cell? (Xd g 0 O)=E (it Xb z)):Whs (w.setCell (Xd g 0 O) (it Xb z')) b zs:=by
 by_cases e:g=b
 ·subst e;refine⟨h.1.setCell c sp,fun j d=>?_⟩;obtain⟨_,_,_,_,d,_⟩:=h.2 0 om;rw[Ql,c]at d;cases d
 ·exact h.setCell (a:=⟨g,0,O⟩) c sp e _
theorem DQ.set_int{p:qF}{z z':Int}(h:DQ w b p a c)(hg:¬Own b a c g)(f:w.cell? (Xd g 0 O)=E (it Xb z)):DQ (w.setCell (Xd g 0 O) (it Xb z')) b p a c:=by
 have c:b≠g:=fun e=>hg (Or.inl e.symm)
 have same:∀k,k≠g->(w.setCell (Xd g 0 O) (it Xb z')).heap[k]? =w.heap[k]?:=fun k a=>qC _ _ _ _ a
 refine⟨h.box.same (same b c) sp,h.nodP.same (same b c),?_,fun k a=>⟨(h.nodR k a).1.same (same k (fun e=>hg (e▸Or.inr (Or.inr a)))),(h.nodR k a).2⟩,?_⟩
 ·rcases h.cols with b|⟨i,m,b,c,d,l⟩
  ·exact Or.inl b
  ·exact Or.inr ⟨i,m,b,c,d.set_int f,l⟩
 ·obtain⟨i,b,c,d⟩:=h.rows;refine⟨i,b,zfh c (fun k a=>same k (fun e=>hg (e▸Or.inr (Or.inr a)))),fun i r row a b=>?_⟩;obtain⟨c,e,k,l,m⟩:=d i r row a b;exact⟨c,e,k.set_int f,l,m.setCell f sp _⟩
theorem Whs.set_other{j:Nat}{zs:List Int}{y v:Value}(h:Whs w b zs)(e:w.cell? (Xd g j O)=E y)(i:∀n,y≠it .u32 n)(k:∀n,v≠it .u32 n)(f:w.cell? (Xd g 0 O)=E c)(hb:∀x,c≠G x):Whs (w.setCell (Xd g j O) v) b zs:=by
 by_cases d:g=b
 ·subst d;refine⟨h.1.setCell e k,fun c c=>?_⟩;obtain⟨x,_,_,_,c,_⟩:=h.2 0 om;rw[Ql,f]at c;injection c with c
  exact absurd c (hb x)
 ·exact h.setCell (a:=⟨g,j,O⟩) e i d _
theorem DQ.set_other{j:Nat}{p:qF}{y v:Value}(h:DQ w b p a c)(hg:¬Own b a c g)(i:w.cell? (Xd g j O)=E y)(f:∀n,y≠it .u32 n)(m:∀n,v≠it .u32 n)(l:w.cell? (Xd g 0 O)=E d)(hb:∀x,d≠G x):DQ (w.setCell (Xd g j O) v) b p a c:=by
 have c:b≠g:=fun e=>hg (Or.inl e.symm)
 have same:∀k,k≠g->(w.setCell (Xd g j O) v).heap[k]? =w.heap[k]?:=fun k a=>qC _ _ _ _ a
 refine⟨h.box.same (same b c) sp,h.nodP.same (same b c),?_,fun k a=>⟨(h.nodR k a).1.same (same k (fun e=>hg (e▸Or.inr (Or.inr a)))),(h.nodR k a).2⟩,?_⟩
 ·rcases h.cols with b|⟨o,r,b,c,d,q⟩
  ·exact Or.inl b
  ·exact Or.inr ⟨o,r,b,c,d.set_other i f m l hb,q⟩
 ·obtain⟨o,b,c,d⟩:=h.rows;refine⟨o,b,zfh c (fun k a=>same k (fun e=>hg (e▸Or.inr (Or.inr a)))),fun c s row a b=>?_⟩;obtain⟨e,k,o,q,r⟩:=d c s row a b;exact⟨e,k,o.set_other i f m l hb,q,r.setCell i f _⟩
theorem DQ.lt{a:Nat}{p:qF}{b:Value}(h:DQ w a p b c):∀k,Own a b c k->k<w.heap.size:=by
 intro k a;rcases a with e|e|e
 ·rw[e];exact h.box.2.2.2.2
 ·rcases h.cols with ⟨_,a⟩|⟨_,_,a,_,b,_⟩
  ·rw[a]at e;cases e
  ·rw[a]at e;simp[Value.ownBlock]at e;rw[<-e];exact b.lt
 ·obtain⟨_,_,a,_⟩:=h.rows;exact(a.lt k e).2
theorem zjr{a:List (List UInt8×Bool)}:∀{j k:Nat} {v:Array Value},(zb7 j a)[k]? =E v->∃x last,a[k]? =E x/\v=lineV (j+k) x last:=by
 induction a with
 |nil=>intro j k v h;simp[zb7]at h
 |cons y r c=>
  intro j k v h;cases k with
  |zero=>
   simp[zb7]at h;exact⟨y,_,sp,h.symm⟩
  |succ k=>
   rw[zb7,jg]at h;obtain⟨x,last,a,b⟩:=c h;exact⟨x,last,by simpa using a,by rw[b,show j+1+k=j+(k+1)by omega]⟩
theorem zhA{a:List (List UInt8×Bool)}{i:Nat}{p:qF}{y:List UInt8×Bool}(c:a[i]? =E y):ju i p (a.drop i)=if y.2=false then .error (i+1)else match jD i p (Zb y.1)with|.none=> .error (i+1)|some q=>ju (i+1) q (a.drop (i+1)):=by
 obtain⟨b,a⟩:=zo.1 c;rw[jt b,a,ju];rfl
theorem zqY(s:List UInt8)(k:Nat)(x:List UInt8×Bool)(h:(QW s)[k]? =E x):x.1.length<=s.length:=(zgA s.length s).2 x (zx h)
attribute [local go_sem] zD zW qJ
def RdI (w:H)(LL:List (List UInt8×Bool))(k:Nat)(p:qF)(vC vR:Value)(A:H):Prop:=
 DQ A (w.heap.size+1+1) p vC vR/\zbU k p/\ju 0 qF.none LL=ju k p (LL.drop k)/\A.cell? ⟨w.heap.size+1+1+1,0,O⟩=E (it Xb ((k:Int)+1))/\A.frozen? ⟨w.heap.size+1+1+1,0,O⟩=false/\
  Zh A w.heap.size (V O 0 0) (V O 0 0)/\A.cell? ⟨w.heap.size+1,0,O⟩=E (it Xb 0)/\A.frozen? ⟨w.heap.size+1,0,O⟩=false/\Below w.heap.size w A/\(∀x,Own (w.heap.size+1+1) vC vR x->x=w.heap.size+1+1\/w.heap.size+1+1+1+1<x)/\w.heap.size+1+1+1+1<A.heap.size
theorem RdI.keep{C:Nat}{A b:H}{c:List (List UInt8×Bool)}{k:Nat}{p:qF}(h:RdI w c k p d e A)(a:zn C A b)(s:w.heap.size<=C):RdI w c k p d e b:=by
 obtain⟨d,i,l,b,m,o,c,q,r,e,f⟩:=h;exact⟨d.keep a,i,l,a.cell b,(a.frozen b).trans m,o.keep a,a.cell c,(a.frozen c).trans q,a.below r s (zh _),e,zK f a.size⟩
theorem RdI.step{A2 b:H}{c:List (List UInt8×Bool)}{k:Nat}{p q:qF}{f i:Value}{y:List UInt8×Bool}(h:RdI w c k p d e A2)(a:Wr (Own (w.heap.size+1+1) d e) A2 b)(J:DQ b (w.heap.size+1+1) q f i)(ho:∀x,Own (w.heap.size+1+1) f i x->Own (w.heap.size+1+1) d e x\/A2.heap.size<=x)(K:c[k]? =E y)(L:y.2=true)(z:jD k p (Zb y.1)=E q):
 b.cell? ⟨w.heap.size+1+1+1,0,O⟩=E (it Xb ((k:Int)+1))/\b.frozen? ⟨w.heap.size+1+1+1,0,O⟩=false/\Hid (RdI w c (k+1) q f i (b.setCell ⟨w.heap.size+1+1+1,0,O⟩ (it Xb ((k:Int)+1+1)))):=by
 obtain⟨_,D,F,m,C,r,s,I,t,l,_⟩:=h;have c:w.heap.size+1+1+1<A2.heap.size:=zw m;have c:∀x,x<=w.heap.size+1+1+1+1->x≠w.heap.size+1+1->¬Own (w.heap.size+1+1) d e x:=fun x B d e=>by rcases l x e with e|e<;>omega
 have d:=a.cell (p:=⟨w.heap.size+1+1+1,0,O⟩) (c _ sp sp) m;have o:=(a.frozen (p:=⟨w.heap.size+1+1+1,0,O⟩) (c _ sp sp) (zw m)).trans C;have m:=r.same (a.block _ r.2.2.2.2 (c _ om om)) a.size;have r:=a.cell (p:=⟨w.heap.size+1,0,O⟩) (c _ sp sp) s;have C:=(a.frozen (p:=⟨w.heap.size+1,0,O⟩) (c _ sp sp) (zw s)).trans I;have c:∀x,Own (w.heap.size+1+1) f i x->x=w.heap.size+1+1\/w.heap.size+1+1+1+1<x:=fun x B=>by
  rcases ho x B with e|e
  ·exact l x e
  ·omega
 refine⟨d,o,J.set_int (fun e=>by rcases c _ e with e|e<;>omega) d,D.step z,?_,?_,by simpa using o,?_,?_,by simpa using C,?_,c,by have:=a.size;simp;omega⟩;·rw[F,zhA K,zO (by rw[L];simp),z]
 ·rw[zN _ _ _ d];simp
 ·exact m.same (qC _ _ _ _ (by simp<;>omega)) sp
 ·rw[qj _ _ _ _ (by simp<;>omega)];exact r
 ·have c:=a.below t.size (fun x e=>by rcases l x e with e|e<;>omega);exact(t.trans c).setCell (p:=⟨w.heap.size+1+1+1,0,O⟩) so _
