import Derived.Test.YthnopjedhcapmaaGreatDoorMvr1Z13
open Option renaming none->O,some->E
open Go.Value renaming slice->V,bool->G,string->gS,pointer->pn,int->it,agg->ag
open Go.Obj renaming cells->cl
open Go renaming World->H
open Go.Proofs.Tryz renaming prog->pg
open Go.Proofs.Tryz
open Go.Ending renaming returned->Xa
open Go.IntKind renaming i64->Xb
open Go.Addr renaming mk->Xd
set_option linter.unusedSimpArgs false
set_option linter.unusedVariables false
set_option maxHeartbeats 4000000
set_option maxRecDepth 100000
namespace Go.Proofs.YthnopjedhcapmaaGreatDoor
section
open Go.RowKit
variable {gs:List (L_)}{hi lo mx rs ss x y:L_}
def Q1 (k:Int):U_:=if k=0 then [60,61]else if k=1 then [62,61]else [61]
def Intss (w:H)(v:Value)(gs:List (L_)):Prop:=
 ∃ao cap,v=V ao gs.length cap/\(0<gs.length->∃g off,ao=E (Xd g off O)/\g<w.heap.size/\∀(i:Nat) (zs:L_),gs[i]? =E zs->∃a l c,w.cell? ⟨g,off+i,O⟩=E (V a l c)/\Jf w (V a l c) zs)
theorem Intss.ext{w w':H}{v:Value}(h:Intss w v gs)(hb:Ext w w'):Intss w' v gs:=by
 obtain⟨a,b,rfl,c⟩:=h;refine⟨a,b,rfl,fun a=>?_⟩;obtain⟨g,off,rfl,d,b⟩:=c a;refine⟨g,off,rfl,zK d hb.size,fun i g f=>?_⟩;have⟨a,l,c,d,e⟩:=b i g f;exact⟨a,l,c,hb.cell d,e.ext hb⟩
structure zc7 (w:H)(vM vL vH vG vS vR:Value)(mx lo hi:L_)(gs:List (L_))(ss rs:L_):Prop where
 m:Jf w vM mx
 l:Jf w vL lo
 h:Jf w vH hi
 g:Intss w vG gs
 s:Jf w vS ss
 r:Jf w vR rs
theorem zc7.ext{w w':H}{d c b a f e:Value}(h:zc7 w d c b a f e mx lo hi gs ss rs)(hb:Ext w w'):zc7 w' d c b a f e mx lo hi gs ss rs:=
 ⟨h.m.ext hb,h.l.ext hb,h.h.ext hb,h.g.ext hb,h.s.ext hb,h.r.ext hb⟩
structure zai (mx lo hi:L_)(gs:List (L_))(ss rs:L_):Prop where
 n1:1<=mx.length
 n3:mx.length<=3
 ll:lo.length=mx.length
 lh:hi.length=mx.length
 k:gs.length<=3
 ls:ss.length=gs.length
 lr:rs.length=gs.length
 b6:∀z∈mx,z.natAbs<=6
 bl:∀z∈lo,z.natAbs<=99
 bh:∀z∈hi,z.natAbs<=99
 w:∀r∈lo.zip hi,-1<=r.2-r.1/\r.2-r.1<=5
 bg:∀g∈gs,g.length=mx.length/\∀z∈g,z.natAbs<=99
 bs:∀k∈ss,0<=k/\k<=2
 br:∀z∈rs,z.natAbs<=99
structure ShapeP (mx lo hi:L_)(gs:List (L_))(ss rs:L_):Prop where
 n1:1<=mx.length
 n3:mx.length<=3
 ll:lo.length=mx.length
 lh:hi.length=mx.length
 k:gs.length<=3
 ls:ss.length=gs.length
 lr:rs.length=gs.length
 b6:∀z∈mx,z.natAbs<=6
 w:∀r∈lo.zip hi,-1<=r.2-r.1/\r.2-r.1<=5
 bg:∀g∈gs,g.length=mx.length
 bs:∀k∈ss,0<=k/\k<=2
theorem zai.shape(h:zai mx lo hi gs ss rs):ShapeP mx lo hi gs ss rs:=⟨h.n1,h.n3,h.ll,h.lh,h.k,h.ls,h.lr,h.b6,h.w,fun g a=>(h.bg g a).1,h.bs⟩
theorem zai.bm{mx:L_}(h:zai mx lo hi gs ss rs):∀z∈mx,z.natAbs<=99:=fun z a=>zF (h.b6 z a) dc
def QA (mx lo hi:L_)(gs:List (L_))(ss rs:L_):qF:=⟨mx.length,mx,lo.zip hi,gs.zip ((ss.map Q1).zip rs)⟩
theorem zrd(k:Int):jO (Q1 k)=true:=by
 unfold Q1;split
 ·decide
 ·split<;>decide
theorem zpk(k:Int):(Q1 k).length<=2:=by
 unfold Q1;split
 ·decide
 ·split<;>decide
theorem zgT{gs:List (L_)}{ss rs:L_}(h:zai mx lo hi gs ss rs):∀x∈gs.zip ((ss.map Q1).zip rs),(x.1.length=mx.length/\∀z∈x.1,z.natAbs<=99)/\(∃k,x.2.1=Q1 k)/\x.2.2.natAbs<=99:=by
 rintro⟨g,sg,r⟩ c;have⟨a,b⟩:=zd5 c;have⟨c,d⟩:=zd5 b;have⟨k,_,b⟩:=qP.1 c;exact⟨h.bg g a,⟨k,b.symm⟩,h.br r d⟩
theorem zjC(h:zai mx lo hi gs ss rs):Fine (QA mx lo hi gs ss rs):=by
 have b:(99:Nat)<10^40:=dc;have c:=zgT h;refine⟨h.n1,by have:=h.n3;show mx.length<=4;omega,rfl,?_,?_,fun x a=>⟨(c x a).1.1,?_⟩,fun z d=>qu (h.bm z d) b,fun r a=>?_,fun x a=>⟨fun z d=>qu ((c x a).1.2 z d) b,qu (c x a).2.2 b⟩,fun r a=>?_⟩
 ·show(lo.zip hi).length=mx.length
  rw[QO,h.ll,h.lh,zbG]
 ·show(gs.zip ((ss.map Q1).zip rs)).length<=6
  have:=h.k;rw[QO];omega
 ·have⟨k,d⟩:=(c x a).2.1;rw[d];exact zrd k
 ·have⟨c,d⟩:=zd5 (show(r.1,r.2)∈lo.zip hi from a);exact⟨qu (h.bl _ c) b,qu (h.bh _ d) b⟩
 ·have:=h.w r a;omega
theorem zkM(z:Int)(h:z.natAbs<=99):(Lib.itoa z).length<=3:=by
 have a:=zbS 2 z.natAbs om om;unfold Lib.itoa;split
 ·simp;omega
 ·rw[show z.toNat=z.natAbs by omega];omega
theorem zfT{a:Type}(f:a->U_)(c:Nat):∀(l:List a),(∀x∈l,(f x).length<=c)->(l.flatMap f).length<=l.length*c
 |[],_=>sp
 |x::l,h=>by
  rw[Qo,zM,qi,Zg];have h1:=h x (qA);have a:=zfT f c l (fun y a=>h y (qq _ a));omega
theorem zfU(zs:L_)(h:∀z∈zs,z.natAbs<=99):(QF zs).length<=zs.length*4:=
 zfT _ 4 zs (fun z a=>by have:=zkM z (h z a);rw[qi];omega)
theorem zmP(h:zai mx lo hi gs ss rs):(ze4 (QA mx lo hi gs ss rs)).length<=300:=by
 have a:=h.n3;have a:=zfU mx h.bm;have a:=zkM mx.length om;have a:((lo.zip hi).flatMap za1).length<=(lo.zip hi).length*20:=zfT _ 20 _ (fun r b=>by
  have⟨c,d⟩:=zd5 (show(r.1,r.2)∈lo.zip hi from b);have:=zfU [r.1,r.2] (by intro z a;simp only[zI,zY,Zp]at a;rcases a with rfl|rfl;exact h.bl _ c;exact h.bh _ d);simp[za1,Je]at this⊢;omega)
 have c:((gs.zip _).flatMap rowS).length<=(gs.zip _).length*40:=zfT _ 40 _ (fun x b=>by
  have⟨⟨_,c⟩,⟨k,d⟩,e⟩:=(zgT h) x b;have b:=zfU x.1 c;have b:=zfU [x.2.2] (by intro z a;simp only[zI,zY,Zp]at a;rw[a];exact e);have a:=zpk k;rw[<-d]at a;simp only[rowS,JX,zM,qi,QK]at b⊢;omega)
 have a:(lo.zip hi).length<=3:=by rw[QO,h.ll];omega
 have a:(gs.zip ((ss.map Q1).zip rs)).length<=3:=by have:=h.k;rw[QO];omega
 show(zan++32::Lib.itoa mx.length ++ [10]++(zbB++QF mx ++ [10])++(lo.zip hi).flatMap za1++(gs.zip ((ss.map Q1).zip rs)).flatMap rowS).length<=300
 simp only[zan,zbB,zM,qi,QK];omega
open V4
def zci (mx x y:L_):Prop:=T.dotZ mx y<T.dotZ mx x\/(T.dotZ mx x=T.dotZ mx y/\za6 mx x y=true)
theorem zgU(h:mx.length=x.length)(a:x.length<=4){i:Nat}(hi:i<4):rk mx (toV x) (i+1)=if mx.getD i 0<=0 then -x.getD i 0 else x.getD i 0:=by
 rw[<-zbi h a (i+1) om];have e:(qT mx x).getD (i+1) 0=(List.zipWith _ mx x).getD i 0:=rfl;rw[e,JE sp h]
theorem jV{l:L_}{i:Nat}{x:Int}(h:l[i]? =E x):l.getD i 0=x:=by rw[zk,h];rfl
theorem zjD(g:x.length=mx.length)(h:y.length=mx.length)(a:mx.length<=4):zci mx x y↔JK (fun i=>rk mx (toV x) i-rk mx (toV y) i):=by
 have b:∀z:L_,z.length=mx.length->rk mx (toV z) 0=T.dotZ mx z:=fun z l=>(QD l.symm om).symm
 have v:∀i,i<4->rk mx (toV x) (i+1)-rk mx (toV y) (i+1)=if mx.getD i 0<=0 then y.getD i 0-x.getD i 0 else x.getD i 0-y.getD i 0:=fun i hi=>by
  rw[zgU g.symm om hi,zgU h.symm om hi];split<;>omega
 have same:∀i,i<4->rk mx (toV x) (i+1)-rk mx (toV y) (i+1)=0->x.getD i 0=y.getD i 0:=fun i hi a=>by
  rw[v i hi]at a;split at a<;>omega
 have out:∀i (z:L_),z.length=mx.length->¬i<mx.length->z.getD i 0=0:=fun i z l hi=>by rw[zk,qL om];rfl
 constructor
 ·rintro(a|⟨a,a⟩);·exact⟨0,om,fun i hi=>om,by dsimp only;rw[b x g,b y h];omega⟩
  ·by_cases A:∃i,i<mx.length/\x.getD i 0≠y.getD i 0
   ·obtain⟨i,hi,z,hmin⟩:∃i,i<mx.length/\x.getD i 0≠y.getD i 0/\∀j,j<i->x.getD j 0=y.getD j 0:=by
     have q:∀m,(∀j,j<m->x.getD j 0=y.getD j 0)\/∃i,i<m/\x.getD i 0≠y.getD i 0/\∀j,j<i->x.getD j 0=y.getD j 0:=by
      intro m;induction m with
      |zero=>exact .inl fun j c=>om
      |succ m e=>
       rcases e with e|⟨i,o,d,f⟩
       ·by_cases hm:x.getD m 0=y.getD m 0
        ·left
         intro j c;by_cases p:j=m
         ·rw[p];exact hm
         ·exact e j om
        ·exact .inr ⟨m,om,hm,e⟩
       ·exact .inr ⟨i,om,d,f⟩
     rcases q mx.length with k|k
     ·have⟨i,hi,f⟩:=A;exact absurd (k i hi) f
     ·exact k
    have p:=zg hi;have q:=zg (show i<x.length by omega);have r:=zg (show i<y.length by omega);have t:=jV q;have u:=jV r;rw[zfS (fun j o d c e s=>by have:=hmin j c;rw[jV e,jV s]at this;exact this) p q r om]at a;refine⟨i+1,om,fun j c=>?_,?_⟩<;>dsimp only
    ·cases j with
     |zero=>rw[b x g,b y h];omega
     |succ j=>
      rw[v j om,hmin j om];split<;>omega
    ·rw[v i om,jV p,t,u];rw[t,u]at z;generalize mx[i]=m at *;generalize x[i]=o at *;generalize y[i]=d at *;rw[beq_iff_eq,zaI]at a;split<;>omega
   ·rw[zf8 (fun j o d e s=>by
     have c:j<mx.length:=by have:=(zo.1 e).1;omega
     have:x.getD j 0=y.getD j 0:=zas fun f=>A ⟨j,c,f⟩
     rw[jV e,jV s]at this;exact this)]at a
    cases a
 ·rintro⟨k,_,l,a⟩;dsimp only at l a;cases k with
  |zero=>
   rw[b x g,b y h]at a;exact .inl om
  |succ i=>
   have A:=l 0 om;rw[b x g,b y h]at A;refine .inr ⟨om,?_⟩;rw[v i om]at a;have hi:i<mx.length:=zas fun f=>by
    rw[out i x g f,out i y h f]at a;split at a<;>omega
   have p:=zg hi;have q:=zg (show i<x.length by omega);have r:=zg (show i<y.length by omega);rw[(jV p),jV q,(jV r)]at a;have z:x[i]≠y[i]:=fun b=>by rw[b]at a;split at a<;>omega
   rw[zfS (fun j o d c e s=>by have:=same j om (l (j+1) om);rw[jV e,jV s]at this;exact this) p q r z];generalize mx[i]=m at *;generalize x[i]=o at *;generalize y[i]=d at *;rw[beq_iff_eq,zaI];split at a<;>omega
theorem zfd(b:x.length=mx.length)(c:y.length=mx.length)(a:mx.length<=4):¬zci mx x y↔zaC (fun i=>rk mx (toV y) i-rk mx (toV x) i):=by
 rw[zjD b c a];constructor
 ·intro h;rcases zhg (fun i=>rk mx (toV x) i-rk mx (toV y) i)with a|a
  ·exact absurd a h
  ·exact a.congr fun i _=>om
 ·intro h a;exact a.not_neg (h.congr fun i _=>om)
theorem zg6(a:x.length=mx.length)(b:mx.length<=4):¬zci mx x x:=(zfd a a b).2 (.inl fun _ _=>Int.sub_self _)
theorem zl7{z:L_}(b:x.length=mx.length)(c:y.length=mx.length)(d:z.length=mx.length)(a:mx.length<=4)(h1:zci mx x y)(h2:¬zci mx z y):¬zci mx z x:=by
 rw[zfd d b a];rw[zfd d c a]at h2;rw[zjD b c a]at h1;exact(JK.comb h1 h2 (p:=1) (q:=1) (r:=1) om om om (fun i _=>om)).n
def zc8 (lo hi:L_)(gs:List (L_))(ss rs x:L_):Prop:=
 (∀(i:Nat) (z l h:Int),x[i]? =E z->lo[i]? =E l->hi[i]? =E h->l<=z/\z<=h)/\∀(k:Nat) (g:L_) (s r:Int),gs[k]? =E g->ss[k]? =E s->rs[k]? =E r->(s≠1->T.dotZ g x<=r)/\(s≠0->r<=T.dotZ g x)
def ptK:L_->Nat->L_
 |[],_=> []
 |l::ls,k=>(l+((k%8:Nat):Int))::ptK ls (k/8)
theorem zaz:∀(lo:L_) (k:Nat),(ptK lo k).length=lo.length
 |[],_=>rfl
 |l::a,k=>by rw[ptK,qi,qi,zaz a]
theorem zm8:∀(lo xs:L_),xs.length=lo.length->(∀(i:Nat) (z l:Int),xs[i]? =E z->lo[i]? =E l->l<=z/\z<l+8)->∃k,k<8^lo.length/\ptK lo k=xs
 |[],xs,a,_=>⟨0,sp,by simp at a;rw[a];rfl⟩
 |l::lo,[],a,_=>by simp at a
 |l::lo,x::xs,a,h=>by
  have⟨k,b,c⟩:=zm8 lo xs (by simpa using a) (fun i z m a b=>h (i+1) z m (by simpa using a) (by simpa using b));have⟨a,b⟩:=h 0 x l rfl rfl;obtain⟨d,hd⟩:∃d:Nat,x=l+d:=⟨(x-l).toNat,om⟩;have a:d<8:=om;refine⟨d+8*k,?_,?_⟩
  ·rw[qi,Zv];omega
  ·rw[ptK,Js,Jk a,zbO _ _ dc,jH a,qt,c,hd]
def za8 (mx lo hi:L_)(gs:List (L_))(ss rs:L_)(k:Nat):Option (L_)->Prop
 |none=>∀j,j<k->¬zc8 lo hi gs ss rs (ptK lo j)
 |some y=>zc8 lo hi gs ss rs y/\(∃j,y=ptK lo j)/\∀j,j<k->zc8 lo hi gs ss rs (ptK lo j)->¬zci mx (ptK lo j) y
section

variable {mx lo hi:L_} {gs:List (L_)} {ss rs:L_} {k:Nat}
theorem za8.skip {b:Option (L_)}(h:za8 mx lo hi gs ss rs k b)(hm:¬zc8 lo hi gs ss rs (ptK lo k)):za8 mx lo hi gs ss rs (k+1) b:=by
 cases b with
 |none=>
  intro j a;by_cases e:j=k
  ·rw[e];exact hm
  ·exact h j om
 |some y=>
  refine⟨h.1,h.2.1,fun j a a=>?_⟩;by_cases e:j=k
  ·rw[e]at a;exact absurd a hm
  ·exact h.2.2 j om a
theorem za8.first (b:lo.length=mx.length)(a:mx.length<=4)(h:za8 mx lo hi gs ss rs k O)(hm:zc8 lo hi gs ss rs (ptK lo k)):za8 mx lo hi gs ss rs (k+1) (E (ptK lo k)):=by
 refine⟨hm,⟨k,rfl⟩,fun j c c=>?_⟩;by_cases e:j=k
 ·rw[e];exact zg6 (by rw[zaz,b]) a
 ·exact absurd c (h j om)
theorem za8.take {y:L_}(a:lo.length=mx.length)(b:mx.length<=4)(h:za8 mx lo hi gs ss rs k (E y))(hm:zc8 lo hi gs ss rs (ptK lo k))(hb:zci mx (ptK lo k) y):za8 mx lo hi gs ss rs (k+1) (E (ptK lo k)):=by
 have⟨_,⟨_,hi⟩,c⟩:=h;refine⟨hm,⟨k,rfl⟩,fun j d d=>?_⟩;by_cases e:j=k
 ·rw[e];exact zg6 (by rw[zaz,a]) b
 ·exact zl7 (by rw[zaz,a]) (by rw[hi,zaz,a]) (by rw[zaz,a]) b hb (c j om d)
theorem za8.stay {y:L_}(h:za8 mx lo hi gs ss rs k (E y))(hb:¬zci mx (ptK lo k) y):za8 mx lo hi gs ss rs (k+1) (E y):=by
 refine⟨h.1,h.2.1,fun j a a=>?_⟩;by_cases e:j=k
 ·rw[e];exact hb
 ·exact h.2.2 j om a
end
variable {gs:List (L_)}{hi lo mx rs ss:L_}
theorem zir{n i:Nat}{x:L_}(a:n<=4)(hi:i<n)(b:x.length=n):T.dotZ (T.unitRow n i) x=x.getD i 0:=by
 rw[QD (by rw[QS,b]) om,zdp a hi];have⟨a,b,c,d⟩:=zbJ (toV x);rcases lt4 (show i<4 by omega)with rfl|rfl|rfl|rfl
 ·exact a
 ·exact b
 ·exact c
 ·exact d
theorem zgp:∀(g x:L_),T.dotZ (g.map fun z=>-z) x=-T.dotZ g x
 |[],_=>by simp[T.dotZ]
 |_::_,[]=>by simp[T.dotZ]
 |a::g,b::x=>by
  have c:=zgp g x;simp only[T.dotZ,Zk,List.zipWith_cons_cons,QI]at c⊢;rw[c,Int.neg_mul];omega
theorem zfV(m:ShapeP mx lo hi gs ss rs){x:L_}(o:x.length=mx.length):zdZ mx.length (T.rowsS (QA mx lo hi gs ss rs)) x↔zc8 lo hi gs ss rs x:=by
 have a:=m.n3;have a:=m.ll;have a:=m.lh;have t:∀i (l h:Int),lo[i]? =E l->hi[i]? =E h->rgS (QA mx lo hi gs ss rs) i=(l,h):=fun i l h c d=>by
  unfold rgS QA;simp only;rw[zk,Zf (z:=(l,h)) |>.2 ⟨c,d⟩];rfl
 constructor
 ·rintro⟨-,h⟩;refine⟨fun i z l q c d a=>?_,fun k g s r c d a=>?_⟩
  ·have f:i<mx.length:=by have:=(zo.1 c).1;omega
   have⟨b,e⟩:=zgK (p:=QA mx lo hi gs ss rs) f;have j:=h _ (zx b);have b:=h _ (zx e);rw[t i l q d a]at j b;simp only at j b;rw[zgp]at b;have e:T.dotZ (T.unitRow (QA mx lo hi gs ss rs).n i) x=z:=by rw[<-jV c];exact zir (by show mx.length<=4;omega) f o
   rw[e]at j b;omega
  ·have hm:(g,Q1 s,r)∈(QA mx lo hi gs ss rs).rows:=zx (Zf.2 ⟨c,Zf.2 ⟨by rw[zR,d];rfl,a⟩⟩);have f:=fun q a=>h q (QN _ (jj.2 ⟨_,hm,a⟩))
   have h:=m.bs s (zx d);refine⟨fun l=>?_,fun l=>?_⟩
   ·refine f (g,r) (QN _ ?_);have:Q1 s≠ [62,61]:=by
     unfold Q1;split
     ·decide
     ·decide
    simp only[this,zaK];exact qg.2 rfl
   ·have a:=f (g.map fun z=>-z,-r) (J5 _ (by
     have:Q1 s≠ [60,61]:=by
      unfold Q1;rw[zO l];split<;>decide
     simp only[this,zaK];exact qg.2 rfl))
    simp only at a;rw[zgp]at a;omega
 ·rintro⟨c,d⟩;refine⟨o,fun q a=>?_⟩;unfold T.rowsS at a;rcases zU.1 a with a|a
  ·have⟨y,l,a⟩:=jj.1 a;have⟨k,f⟩:=Jq.1 l;have⟨g,sg,r⟩:=y;have⟨l,u⟩:=Zf.1 (show(gs.zip ((ss.map Q1).zip rs))[k]? =E (g,sg,r)from f);have⟨f,q⟩:=Zf.1 u;simp only at l f q;rw[zR]at f;cases h:ss[k]? with
   |none=>rw[h]at f;cases f
   |some s=>
    rw[h]at f;simp only[qY,qN]at f;have⟨j,b⟩:=d k g s r l h q;have d:=m.bs s (zx h);subst f;unfold T.condRows at a;simp only at a;rcases zU.1 a with a|a
    ·split at a
     ·cases a
     ·rename_i d
      rw[qg.1 a];exact j fun e=>d (by rw[e];rfl)
    ·split at a
     ·cases a
     ·rename_i d
      rw[qg.1 a];have:=b fun e=>d (by rw[e];rfl)
      show T.dotZ (g.map fun z=>-z) x<=-r
      rw[zgp];omega
  ·have⟨i,d,a⟩:=jj.1 a;have d:i<mx.length:=Z8.1 d;have f:=zg (show i<x.length by omega);have g:=zg (show i<lo.length by omega);have h:=zg (show i<hi.length by omega);have⟨j,b⟩:=c i _ _ _ f g h;have e:T.dotZ (T.unitRow (QA mx lo hi gs ss rs).n i) x=x[i]:=by rw[<-jV f];exact zir (by show mx.length<=4;omega) d o
   have c:=t i _ _ g h;unfold rgS at c;rw[c]at a;unfold T.rangeRows at a;rcases zI.1 a with a|a
   ·rw[a];simp only;rw[e];exact b
   ·rw[qg.1 a];simp only;rw[zgp,e];omega
theorem zjE(a:ShapeP mx lo hi gs ss rs):zc5 (QA mx lo hi gs ss rs):=by
 have c:=a.n3;have c:=a.k;refine⟨a.n1,by show mx.length<=4;omega,rfl,?_,?_,fun x b=>a.bg _ (zd5 (show(x.1,x.2)∈_ from b)).1⟩
 ·show(lo.zip hi).length=mx.length
  rw[QO,a.ll,a.lh,zbG]
 ·show(gs.zip ((ss.map Q1).zip rs)).length<=6
  rw[QO];omega
theorem zn0{a d:Int}(b:a.natAbs<=6)(c:0<=d)(e:d<=5):a*d<=30/\-30<=a*d:=by
 have c:(a*d).natAbs<=6*5:=by rw[zbv];exact Z7 b om
 omega
theorem zm9(a:ShapeP mx lo hi gs ss rs)(e:∀i,i<4->(rgS (QA mx lo hi gs ss rs) i).1<=(rgS (QA mx lo hi gs ss rs) i).2):bigB mx (rgS (QA mx lo hi gs ss rs))<=20000:=by
 have b:=a.n3;have f:∀i,(rgS (QA mx lo hi gs ss rs) i).2-(rgS (QA mx lo hi gs ss rs) i).1<=5:=by
  intro i;unfold rgS QA;simp only;rw[zk];cases he:(lo.zip hi)[i]? with
  |none=>simp
  |some r=>exact(a.w r (zx he)).2
 have b:rgS (QA mx lo hi gs ss rs) 3=(0,0):=by
  unfold rgS QA;simp only;rw[zk,qL (by rw[QO,a.ll];omega)];rfl
 have h:∀i,(mx.getD i 0).natAbs<=6:=by
  intro i;rw[zk];cases he:mx[i]? with
  |none=>simp
  |some z=>exact a.b6 z (zx he)
 have j:mx.getD 3 0=0:=by rw[zk,qL om];rfl
 generalize rgS (QA mx lo hi gs ss rs)=a at *;have d:∀i,i<4->1<=wdR mx a (i+1)/\wdR mx a (i+1)<=6:=by
  intro i hi;have l:=e i hi;have g:=f i;unfold wdR mxR mnR;simp only;split<;>omega
 have o:wdR mx a 4=1:=by
  unfold wdR mxR mnR;simp only;rw[b];split<;>rfl
 have c:∀i,i<4->0<=(if mx.getD i 0<=0 then mx.getD i 0*(a i).1 else mx.getD i 0*(a i).2)-(if mx.getD i 0<=0 then mx.getD i 0*(a i).2 else mx.getD i 0*(a i).1)/\(if mx.getD i 0<=0 then mx.getD i 0*(a i).1 else mx.getD i 0*(a i).2)-(if mx.getD i 0<=0 then mx.getD i 0*(a i).2 else mx.getD i 0*(a i).1)<=30:=by
  intro i hi;have l:=e i hi;have g:=f i;have e:=zn0 (h i) (show 0<=(a i).2-(a i).1 by omega) g;rw[Int.mul_sub]at e;have sg:(mx.getD i 0<=0->mx.getD i 0*((a i).2-(a i).1)<=0)/\(0<=mx.getD i 0->0<=mx.getD i 0*((a i).2-(a i).1)):=⟨fun h=>Int.mul_nonpos_of_nonpos_of_nonneg h om,fun h=>zbw h om⟩;rw[Int.mul_sub]at sg;have⟨e,f⟩:=sg;split
  ·rename_i h
   have:=e h;omega
  ·rename_i h
   have:=f om;omega
 have l:1<=wdR mx a 0/\wdR mx a 0<=91:=by
  have e:=c 0 om;have e:=c 1 om;have e:=c 2 om;have c:((if mx.getD 3 0<=0 then mx.getD 3 0*(a 3).1 else mx.getD 3 0*(a 3).2)-(if mx.getD 3 0<=0 then mx.getD 3 0*(a 3).2 else mx.getD 3 0*(a 3).1))=0:=by rw[j];simp
  unfold wdR mxR mnR;simp only;omega
 have m:=fun(f c e g:Int) (h:f<=e) (f:c<=g) (b:0<=c) (c:0<=e)=>Int.mul_le_mul h f b c
 have b:1<=wdR mx a 1/\wdR mx a 1<=6:=d 0 om;have c:1<=wdR mx a 2/\wdR mx a 2<=6:=d 1 om;have e:1<=wdR mx a 3/\wdR mx a 3<=6:=d 2 om;have b:=m _ _ _ _ (m _ _ _ _ l.2 b.2 om om) c.2 om dc;have a:=m _ _ _ _ b e.2 om dc;unfold bigB;rw[o,zet];omega
theorem zjF(d:ShapeP mx lo hi gs ss rs){b:Option (L_)}(hb:za8 mx lo hi gs ss rs (8^mx.length) b){cuts pivots:Nat}(a:20000<=cuts)(q:10000<=pivots):
 (∀c g,zbF (QA mx lo hi gs ss rs) cuts pivots= .inl (c,g)->b=E (JZ c))/\(∀c r g,zbF (QA mx lo hi gs ss rs) cuts pivots= .inr (.inl (c,r,g))->b=O)/\∀m,zbF (QA mx lo hi gs ss rs) cuts pivots≠ .inr (.inr m):=by
 have h:=zjE d;have a:=d.n3;have j:=d.ll;have⟨t,z⟩:=zik h cuts pivots;have cover:∀x,zdZ mx.length _ x->∃l,l<8^mx.length/\ptK lo l=x:=fun x a=>by
  have hm:=(zfV d a.1).1 a;rw[<-j];refine zm8 lo x (by rw[a.1,j]) fun i s p a e=>?_
  have o:=(zo.1 e).1;have f:=zg (show i<hi.length by rw[d.lh,<-j];exact o);have:=hm.1 i s p _ a e f;have s:=(d.w (p,hi[i]'(by rw[d.lh,<-j];exact o)) (zx (Zf.2 ⟨e,f⟩))).2;simp only at s;omega
 refine⟨fun c g p=>?_,fun c r g p=>?_,fun m=>zgm h q (fun v=>?_) m⟩
 ·have⟨h,w⟩:=t c g p;have f:zdZ mx.length _ (JZ c):=h;have⟨l,t,o⟩:=cover _ f;have hm:=(zfV d f.1).1 f;cases b with
  |none=>exact absurd (o▸hm) (hb l t)
  |some y=>
   have⟨s,⟨i,q⟩,u⟩:=hb;have h:y.length=mx.length:=by rw[q,zaz,j]
   have a:=u l t (o▸hm);rw[o,zfd f.1 h om]at a;have e:zaC (fun i=>rk mx _ i-rk mx (toV y) i):=w y ((zfV d h).2 s);have l:∀i,i<5->rk mx (toV y) i-rk mx (toV (JZ c)) i=0:=by
    rcases a with a|a
    ·exact a
    ·exact absurd (e.congr fun i _=>om) a.not_neg
   have o:∀i,i<4->y.getD i 0=(JZ c).getD i 0:=fun i hi=>by
    have:=l (i+1) om;rw[zgU h.symm om hi,zgU f.1.symm (by rw[f.1];omega) hi]at this;split at this<;>omega
   congr 1
   refine List.ext_getElem (by rw[h,f.1]) fun i a e=>?_
   have:=o i om;rw[jV (zg a),jV (zg e)]at this;exact this
 ·cases b with
  |none=>rfl
  |some y=>
   have⟨s,⟨i,q⟩,u⟩:=hb;have h:y.length=mx.length:=by rw[q,zaz,j]
   exact absurd ((zfV d h).2 s) (z c r g p y)
 ·have e:min cuts 20000=20000:=om;rw[e];exact zm9 d v
end

section
open Go.RowKit
variable {K:Nat}{l:Zy}{w:H}
def zcJ (lo hi:L_)(gs:List (L_))(ss rs x:L_):Bool:=
 ((x.zip (lo.zip hi)).all fun t=>decide (t.2.1<=t.1)&&decide (t.1<=t.2.2))&&(gs.zip (ss.zip rs)).all fun t=>(decide (t.2.1=1)||decide (T.dotZ t.1 x<=t.2.2))&&(decide (t.2.1=0)||decide (t.2.2<=T.dotZ t.1 x))
theorem zfW{lo hi:L_}{gs:List (L_)}{ss rs x:L_}:zcJ lo hi gs ss rs x=true↔zc8 lo hi gs ss rs x:=by
 unfold zcJ zc8;rw[Qj,Zi,Zi];constructor
 ·rintro⟨d,e⟩;refine⟨fun i z l h a b c=>?_,fun k g s r a b c=>?_⟩
  ·have:=d (z,l,h) (zx ((Zf).2 ⟨a,(Zf).2 ⟨b,c⟩⟩));simpa using this
  ·have:=e (g,s,r) (zx ((Zf).2 ⟨a,(Zf).2 ⟨b,c⟩⟩));simp at this;exact⟨fun f=>this.1.resolve_left f,fun f=>this.2.resolve_left f⟩
 ·rintro⟨d,e⟩;refine⟨fun t f=>?_,fun t f=>?_⟩
  ·have⟨i,hi⟩:=Jq.1 f;have⟨a,b⟩:=Zf.1 hi;have⟨b,c⟩:=Zf.1 b;simpa using d i _ _ _ a b c
  ·have⟨i,hi⟩:=Jq.1 f;have⟨a,b⟩:=Zf.1 hi;have⟨b,c⟩:=Zf.1 b;have⟨d,f⟩:=e i _ _ _ a b c;simp;exact⟨Classical.or_iff_not_imp_left.2 d,Classical.or_iff_not_imp_left.2 f⟩
theorem ziQ{lo hi:L_}{gs:List (L_)}{ss rs x:L_}(h:¬zc8 lo hi gs ss rs x):zcJ lo hi gs ss rs x=false:=by
 cases hb:zcJ lo hi gs ss rs x with
 |false=>rfl
 |true=>exact absurd (zfW.1 hb) h
theorem zkg{l:L_}{m:Nat}(h:∀z∈l,z.natAbs<=m)(hm:m<=1000000):Zu 1000000 l:=fun z a=>by have:=h z a;unfold Lim;omega
theorem za9{w':H}{g:Nat}{a b c d e f:Value}(h:w.heap[g]? =E (cl #[a,b,c,d,e,f] 25))(i:Ext w w'):w'.cell? (Xd g 0 O)=E a/\w'.cell? (Xd g 1 O)=E b/\w'.cell? (Xd g 2 O)=E c/\w'.cell? (Xd g 3 O)=E d/\w'.cell? (Xd g 4 O)=E e/\w'.cell? (Xd g 5 O)=E f:=
 ⟨i.cell (c_ 0 h),i.cell (c_ 1 h),i.cell (c_ 2 h),i.cell (c_ 3 h),i.cell (c_ 4 h),i.cell (c_ 5 h)⟩
theorem zlf(w:H)(vM vL vH vG vS vR v:Value)(mx lo hi:L_)(gs:List (L_))(ss rs xs:L_)(D:zc7 w vM vL vH vG vS vR mx lo hi gs ss rs)(f:zai mx lo hi gs ss rs)(hx:Jf w v xs)(hl:xs.length=mx.length)(hb:Zu 1000000 xs):
 C_ 18 #[ag #[vM,vL,vH,vG,vS,vR],v] w fun e w'=>e=Xa (G (zcJ lo hi gs ss rs xs))/\b_ w w':=by
 obtain⟨t,a⟩:=new1 w (cl #[vM,vL,vH,vG,vS,vR] 25);have ar:=f.n3;have k3:=f.k;have a0:Hid (∀W,Ext w W->∀(c:A_) (l d:Nat) (g:L_),g∈gs->Jf W (V c l d) g->C_ 12 #[V c l d,v] W fun e w'=>e=Xa (i_ (T.dotZ g xs))/\b_ W w'):=fun W hW c l d g U hi=>zeW W _ v g xs hi (hx.ext hW) (by rw[(f.bg g U).1,hl]) (by rw[(f.bg g U).1];omega) (zkg (f.bg g U).2 dc) hb
 obtain⟨_,lc,rfl,a2⟩:=D.l;obtain⟨_,hc,rfl,a1⟩:=D.h;obtain⟨_,_,rfl,ak⟩:=D.g;obtain⟨_,_,rfl,a4⟩:=D.s;obtain⟨_,_,rfl,a3⟩:=D.r;obtain⟨_,_,rfl,hr⟩:=hx;have L:=zf (Xc f.ll (Xc f.lh (Xc f.ls (Xc f.lr hl))));rw[f.ll]at a2 t a⊢;rw[f.lh]at a1 t a⊢;rw[f.ls]at a4 t a⊢;rw[f.lr]at a3 t a⊢;rw[hl]at hr a0⊢;have HP:=zf f;have aa:=zf a2;have a9:=zf a1;have a8:=zf ak;have ad:=zf a4;have ab:=zf a3;have HR:=zf hr;go_enter func18,ntmps18
 go_wp2;generalize World.alloc _ _=w0 at *;go_loopw [5] (fun iv wr=>∃(i:Nat),i<=mx.length/\iv=i_ (i:Nat)/\Hid (∀(j:Nat) (z l m:Int),j<i->xs[j]? =E z->lo[j]? =E l->hi[j]? =E m->l<=z/\z<=m)/\Ext w0 wr) (fun iv _=>((mx.length:Int)-intOf iv).toNat)
 case atStart=>exact⟨0,om,rfl,fun j z l m Y=>om,Xe _⟩
 case round=>
  obtain⟨i,_,rfl,A,q⟩:=hrel;by_cases X:i<mx.length
  ·obtain⟨_,_,-,-,_⟩:=L.out;obtain⟨M,o1,rfl,ah,P⟩:=aa.out om;obtain⟨N,o2,rfl,ai,Q⟩:=a9.out om;obtain⟨g3,o3,rfl,aj,R⟩:=HR.out om;have B:=zg (show i<lo.length by omega);have u:=zg (show i<hi.length by omega);have C:=zg (show i<xs.length by omega);have c1:=(a.trans q).cell (P i _ B);have c2:=(a.trans q).cell (Q i _ u);have c3:=(a.trans q).cell (R i _ C);obtain⟨_,b1,b2,-,-,-⟩:=za9 t q;have b:=zf (Xc B (Xc u C));generalize lo[i]=l at *;generalize hi[i]=m at *;generalize xs[i]=z at *;go_wp2;refine ZO (S:=fun W=>W.cell? (y_ w 1)=E (V (E (Xd M o1 O)) mx.length lc)/\W.cell? (y_ w 2)=E (V (E (Xd N o2 O)) mx.length hc)/\W.cell? ⟨M,o1+i,O⟩=E (i_ l)/\W.cell? ⟨N,o2+i,O⟩=E (i_ m)/\W.cell? ⟨g3,o3+i,O⟩=E (i_ z)) kr ⟨b1,b2,c1,c2,c3⟩ (fun al=>?_);refine tkl [0,1,2,3,4,5,6,7,8] ?_;by_cases aq:z<l
   ·have h:Hid (zcJ lo hi gs ss rs xs=false):=ziQ fun hm=>by
     have:=(hm.1 i z l m b.out.2.2 b.out.1 b.out.2.1).1;omega
    refine tkl [9,10,11,12,13,14,15,16,17,18,19,20,21] ?_;refine zV kr ?_ _;go_wp2;go_ret;exact⟨by rw[h.out];rfl,(a.trans q).drew⟩
   ·refine tkv 9 ?_;refine tkl [10,11,12,13,14,15,16,17,18,19] ?_;by_cases ap:m<z
    ·have h:Hid (zcJ lo hi gs ss rs xs=false):=ziQ fun hm=>by
      have:=(hm.1 i z l m b.out.2.2 b.out.1 b.out.2.1).2;omega
     refine tkl [20,21] ?_;refine zV kr ?_ _;go_wp2;go_ret;exact⟨by rw[h.out];rfl,(a.trans q).drew⟩
    ·refine tkv 20 ?_;refine tkv 21 ?_;refine zV kr ?_ _;go_wp2;go_roundw
     case rel=>
      refine⟨i+1,om,by go_num,fun j z' l' h' Y c o d=>?_,q.drew⟩;by_cases Z:j<i
      ·exact A.out j z' l' h' Z c o d
      ·obtain rfl:j=i:=om;rw[b.out.2.2]at c;rw[b.out.1]at o;rw[b.out.2.1]at d;cases c;cases o;cases d;omega
     case measure=>simp[intOf];omega
  ·obtain rfl:i=mx.length:=om;have HM:Hid (∀(i:Nat) (z l m:Int),xs[i]? =E z->lo[i]? =E l->hi[i]? =E m->l<=z/\z<=m):=fun i z l m c o d=>A.out i z l m (by have:=(zo.1 o).1;have:=L.out.1;omega) c o d
   go_wp2;go_loopw [6] (fun kv a5=>∃(k:Nat),k<=gs.length/\kv=i_ (k:Nat)/\Hid (∀(j:Nat) (g:L_) (s r:Int),j<k->gs[j]? =E g->ss[j]? =E s->rs[j]? =E r->(s≠1->T.dotZ g xs<=r)/\(s≠0->r<=T.dotZ g xs))/\Ext w0 a5) (fun kv _=>((gs.length:Int)-intOf kv).toNat)
   case atStart=>exact⟨0,om,rfl,fun j g s r Y=>om,q⟩
   case round=>
    rename_i a5
    obtain⟨k,_,rfl,A,x⟩:=hrel;obtain⟨-,-,-,_,_,_⟩:=za9 t x;by_cases X:k<gs.length
    ·obtain⟨-,-,_,_,-⟩:=L.out;obtain⟨M,o1,rfl,ah,P⟩:=a8.out om;obtain⟨N,o2,rfl,ai,Q⟩:=ad.out om;obtain⟨g3,o3,rfl,aj,R⟩:=ab.out om;have B:=zg X;have u:=zg (show k<ss.length by omega);have C:=zg (show k<rs.length by omega);obtain⟨qa,ql,qc,q1,q2⟩:=P k _ B;have c1:=(a.trans x).cell q1;have ae:=zf (a0.out _ (a.trans x) qa ql qc _ (zJ X) (q2.ext (a.trans x)));have an:=HP.out.bs _ (zx u);have a6:=zf (Q k _ u);have a7:=zf (R k _ C);have b:=zf (Xc B (Xc u C));generalize gs[k]=g at *;generalize ss[k]=s at *;generalize rs[k]=r at *;go_wp2_with fail
     refine ae.out.mono ?_;rintro e w2 ⟨rfl,af⟩;have p:=x.trans (Xf af);obtain⟨-,-,-,_,_,_⟩:=za9 t p;have c2:=(a.trans p).cell a6.out;have c3:=(a.trans p).cell a7.out;have F:Hid (¬((s≠1->T.dotZ g xs<=r)/\(s≠0->r<=T.dotZ g xs))->zcJ lo hi gs ss rs xs=false):=fun hn=>ziQ fun hm=>hn (hm.2 k g s r b.out.1 b.out.2.1 b.out.2.2)
     have J:Hid (((s≠1->T.dotZ g xs<=r)/\(s≠0->r<=T.dotZ g xs))->∀(j:Nat) (g:L_) (s r:Int),j<k+1->gs[j]? =E g->ss[j]? =E s->rs[j]? =E r->(s≠1->T.dotZ g xs<=r)/\(s≠0->r<=T.dotZ g xs)):=fun hn j g' s' r' Y c o d=>by
      by_cases Z:j<k
      ·exact A.out j g' s' r' Z c o d
      ·obtain rfl:j=k:=om;rw[b.out.1]at c;rw[b.out.2.1]at o;rw[b.out.2.2]at d;cases c;cases o;cases d;exact hn
     generalize T.dotZ g xs=I at *;obtain hs|hs|hs:s=0\/s=1\/s=2:=om
     ·subst hs;by_cases h1:r<I
      ·have h:=zf (F.out om);go_wp2;go_ret;exact⟨by rw[h.out];rfl,a.trans p⟩
      ·have y:=zf (J.out om);go_wp2;go_roundw
       case rel=>exact⟨k+1,om,by go_num,y,p⟩
       case measure=>simp[intOf];omega
     ·subst hs;by_cases h1:I<r
      ·have h:=zf (F.out om);go_wp2;go_ret;exact⟨by rw[h.out];rfl,a.trans p⟩
      ·have y:=zf (J.out om);go_wp2;go_roundw
       case rel=>exact⟨k+1,om,by go_num,y,p⟩
       case measure=>simp[intOf];omega
     ·subst hs;by_cases h2:r<I
      ·have h:=zf (F.out om);go_wp2;go_ret;exact⟨by rw[h.out];rfl,a.trans p⟩
      ·by_cases h1:I<r
       ·have h:=zf (F.out om);go_wp2;go_ret;exact⟨by rw[h.out];rfl,a.trans p⟩
       ·have y:=zf (J.out om);go_wp2;go_roundw
        case rel=>exact⟨k+1,om,by go_num,y,p⟩
        case measure=>simp[intOf];omega
    ·obtain rfl:k=gs.length:=om;have h:Hid (zcJ lo hi gs ss rs xs=true):=zfW.2 ⟨HM.out,fun i g s r c o d=>A.out i g s r (zo.1 c).1 c o d⟩;go_wp2;go_ret;exact⟨by rw[h.out];rfl,a.trans x⟩
theorem zpl:(Tryz.prog.info? 9).map (fun i=>(i.zero,i.size,i.bytes))=E (E (gS ⟨#[]⟩),1,16):=kr
def strC (s:ByteArray):List Value:= [gS s]
def zb1 (z:Int):ByteArray:=⟨(Lib.itoa z).toArray⟩
theorem zr5{B:Nat}{v:Value}{ss:List ByteArray}(h:Grw B 9 1 w v (ss.map strC)):zeX w v ss:=by
 rcases h.list with ⟨rfl,e⟩|⟨g,off,b,a,_,c,d⟩
 ·have:ss= []:=by simpa using e
  subst this;exact⟨O,0,rfl,fun h=>by simp at h⟩
 ·rw[zm]at a;refine⟨_,b,a,fun _=>⟨g,off,rfl,c.lt,fun i z a=>?_⟩⟩;have:=d i (strC z) (by rw[zR,a];rfl) 0 (gS z) rfl;simpa using this
theorem zna{U:Nat->Prop}{w1 A:H}(a:Ext w w1)(h:Wr U w1 A)(c:∀b,U b->w.heap.size<=b):Ext w A:=Qg a (h.below a.size c)
attribute [local go_sem] zD zW qJ
theorem zkN:(Tryz.prog.info? 9).map (fun i=>(i.zero,i.size,i.bytes))=E (E (gS ⟨#[]⟩),1,16):=kr
def zdh (s:ByteArray):List Value:= [gS s]
def Jj (wd:U_)(l:Zy):U_:=Lib.join (wd::l.parts.map (zh6 l.over)) [32] ++ [10]
theorem zn1(bk o c:Nat)(xs:List ByteArray)(w:H)(hcells:∀(j:Nat) x,xs[j]? =E x->w.cell? ⟨bk,o+j,O⟩=E (gS x))(hbk:bk<w.heap.size)(hN:xs.length<=2000)(hcap:xs.length<=c)(hlen:(Lib.join (xs.map (fun x:ByteArray=>x.data.toList)) [32]).length<=100000000000):
 C_ 258 #[V (E (Xd bk o O)) xs.length c] w fun e w'=>e=Xa (gS ⟨(Lib.join (xs.map (fun x:ByteArray=>x.data.toList)) [32] ++ [10]).toArray⟩)/\b_ w w':=by
 have HJ:=zf (Tryz.strings_Join bk o c xs ⟨#[32]⟩ w hcells hbk om hcap (by exact zF hlen om));obtain⟨J,hJ⟩:∃J,Lib.join (xs.map (fun x:ByteArray=>x.data.toList)) [32]=J:=⟨_,rfl⟩;have HJ2:Hid (C_ 265 #[V (E (Xd bk o O)) xs.length c,gS ⟨#[32]⟩] w fun e w'=>e=Xa (gS ⟨J.toArray⟩)/\b_ w w'):=by
  rw[Hid,<-hJ];exact HJ.out
 rw[hJ]at hlen⊢;clear HJ hJ hcells;have e1:=JW J [10];have E1:=zf e1;have hsz:(ByteArray.mk J.toArray).size<=100000000000:=by rw[zdo];exact hlen
 clear e1;generalize ByteArray.mk J.toArray=jb at *;go_enter func258,ntmps258
 go_wp2_with fail
 refine HJ2.out.mono ?_;rintro e w1 ⟨rfl,hb1⟩;go_wp2;go_ret;exact⟨by rw[<-E1.out];rfl,hb1⟩
def WdI (w1:H)(b0 g gm:Nat)(ws:List ByteArray)(k:Nat)(M:Nat->Prop)(A:H):Prop:=
 ∃(v:Value) (us:List ByteArray),us=ws.take (k+1)/\GrJ 9 1 30 (fun v=>#[v]) zdh w1 b0 g gm v us M A
theorem WdI.keep{w1 A B:H}{a g b:Nat}{c:List ByteArray}{k:Nat}{M:Nat->Prop}(h:WdI w1 a g b c k M A)(d:zn w1.heap.size A B):WdI w1 a g b c k M B:=by
 obtain⟨v,c,a,b⟩:=h;exact⟨v,c,a,b.keep d⟩
theorem zjG:∀(xs:List (U_)) (b:Nat),(∀x∈xs,x.length<=b)->(Lib.join xs [32]).length<=xs.length*(b+1)
 |[],b,_=>by simp[Lib.join]
 |x::xs,b,h=>by
  rw[Lib.join_cons];have a:=h x qA;have a:(Lib.joinTail [32] xs).length<=xs.length*(b+1):=by
   unfold Lib.joinTail;induction xs with
   |nil=>simp
   |cons y a a=>
    have c:=h y (qq _ qA);have:=a (fun z a=>h z (by
     rcases zI.1 a with e|e
     ·rw[e];exact qA
     ·exact qq _ (qq _ e)))
    simp only[Zk,zcY,zM,qi,QK]at this⊢;rw[Zg];omega
  rw[zM,qi,Zg];omega
theorem LwC.ext{t:LT}{d:List PT}{c:Nat}{W b:H}(h:LwC t l d c W)(a:Ext W b):LwC t l d c b:=
 ⟨⟨a.cell h.1.1,a.cell h.1.2⟩,h.2.1.below a,h.2.2.1.ext a,fun i p q b c=>⟨(h.2.2.2 i p q b c).1,(h.2.2.2 i p q b c).2.below a⟩⟩
theorem zpm{z:Int}{over B:Nat}(b:z.natAbs<B)(ho:over<B):(z/(Nat.gcd z.natAbs over:Int)).natAbs<B/\over/Nat.gcd z.natAbs over<B:=by
 refine⟨?_,qu (zdE _ _) ho⟩;have a:((Nat.gcd z.natAbs over:Nat):Int) ∣ z:=zeG.2 (zdi _ _);rw[Int.natAbs_ediv_of_dvd a,Q9];exact qu (zdE _ _) b
theorem zkO{over:Nat}{q:Nat×Int}(ho:over<4294967296^K)(d:q.2.natAbs<4294967296^K)(c:q.1<4294967296^K):(zh6 over q).length<=30*K+20:=by
 obtain⟨a,b⟩:=zpm d ho;have d:=zhK a b;have a:=zbg c;unfold zh6;rw[zM,qi];omega
theorem zgq(hK:K<=1000000)(w:H)(wd:ByteArray)(hwd:wd.size<=100)(t:LT)(l:Zy)(ps:List PT)(hps:ps.length=l.parts.length)(hn:ps.length<=1000)(ho:l.over≠0)(hoK:l.over<4294967296^K)(hz:∀q∈l.parts,q.2.natAbs<4294967296^K/\q.1<9223372036854775808/\q.1<4294967296^K)(bl:Nat)(hC:LwC t l ps bl w)(htab:Tab w):
 C_ 233 #[gS wd,.func (.func 234) #[] #[p_ bl 0]] w fun e w'=>e=Xa (gS ⟨(Jj wd.data.toList l).toArray⟩)/\b_ w w':=by
 obtain⟨i0,hi0,hy0,hy1,hy2⟩:=Zn zkN;have HSQ:=zf (zjy (K:=K) (by omega) t l ps hps hn ho hoK (fun q hq=>⟨(hz q hq).1,(hz q hq).2.1⟩) bl);have HLC:=zf hC;have HPS:=zf hps;have HZ:=zf hz;obtain⟨ws,hws⟩:∃ws,ws=wd::l.parts.map (partB l.over):=⟨_,rfl⟩;have HWS:=zf hws;have hwl:ws.length=l.parts.length+1:=by rw[hws];simp
 have HWL:=zf hwl;have hpl:l.parts.length<=1000:=by omega
 obtain⟨n0,n1⟩:=Xk w (cl #[gS wd] 9) (cl #[V (E (y_ w 0)) 1 1] 30);have hX:Ext w ((w.alloc (cl #[gS wd] 9)).alloc (cl #[V (E (y_ w 0)) 1 1] 30)):=((Xe w).alloc _).alloc _;clear hC hps hz hws hwl;refine Q0 Tryz.func233 Tryz.ntmps233 (h:=?_);gi_wp2;generalize World.alloc _ _=w1 at *;have hs1:=(zd.1 n1).1;have hG0:Grw w.heap.size 9 1 w1 (V (E (y_ w 0)) 1 1) ([wd].map zdh):=Grw.of n0 (zh _) rfl (zh _) (by unfold maxLen;omega) rfl rfl (by intro cs hcs;simp at hcs;rw[hcs];rfl) (by intro x hx;simp at hx;rw[hx];intro n e;cases e);refine ZT HSQ.out rfl (qW Tryz.func234 (by kernel_rfl) rfl) (fun k v W=>by rintro⟨d,q,_,rfl,_⟩;rfl)
  (WdI w1 w.heap.size (w.heap.size+1) w.heap.size ws) (fun _ _ _=>False) (fun b=>b=w.heap.size+1\/b=w.heap.size) ?hI ?hIx ?hC ?h0 ?round ?done ?stop
 case hI=>exact fun k M A B h hk=>h.keep hk
 case hIx=>exact fun _ _ _ _ h _=>h
 case hC=>
  rintro k M A ⟨v,us,h1,h2⟩;exact⟨HLC.out.ext (qk hX h2.1 (fun b hb=>by rcases hb with e|e<;>omega)),h2.lt⟩
 case h0=>
  have hB0:∀b,(V (E (y_ w 0)) 1 1).ownBlock=E b->w.heap.size=b:=fun b hb=>by simpa[Value.ownBlock]using hb
  exact⟨_,[wd],by rw[HWS.out];rfl,Xj _ _,n1,hG0,fun b hb=>⟨by have:=hB0 b hb;omega,.inl (hB0 b hb).symm⟩,fun b=>by simp[Value.ownBlock,eq_comm]⟩
 case round=>
  rintro l2 k v M A hkN ⟨d,q,hqk,rfl,hlp⟩ ⟨v,us,hus,hG⟩;have hzq:=HZ.out q (zx hqk);obtain⟨lo1,lo2⟩:=zpm hzq.1 hoK;have hwk:ws[k+1]? =E (partB l.over q):=by rw[HWS.out,jg,zR,hqk];rfl
  have hul:us.length=k+1:=by rw[hus,zX,HWL.out];omega
  have hsn:us ++ [partB l.over q]=ws.take (k+1+1):=by rw[hus,ZB (i:=k+1),hwk];rfl
  have HSN:=zf hsn;have HUL:=zf hul;have hxA:=qk hX hG.1 (fun b hb=>by rcases hb with e|e<;>omega);have hus4:us.length<=2000:=by omega
  obtain⟨va',vc',rfl⟩:=hG.2.2.1.shape;rw[zm]at hG;have HGJ:=zf hG;obtain⟨⟨ra,rl,rc⟩,⟨fb,⟨ua,ul,uc⟩,⟨da,dl,dc⟩⟩⟩:=d;have HLP:=zf hlp;simp only[DP.val,DP.rv,T.Tri.up,T.Tri.down];clear hqk hwk hsn hus hul hlp;unfold Zz;gi_wp2;refine⟨Xg ((Xe A).alloc _),fun A2 hk2=>?_⟩;have xA2:=(zn.alloc w1.heap.size A (cl #[V ra rl rc,G fb,V ua ul uc,V da dl dc] 322)).trans hk2;have e0:=hk2.block _ _ (zC A (cl #[V ra rl rc,G fb,V ua ul uc,V da dl dc] 322)) (.inr rfl);have e1:=xA2.block _ _ hG.2.1 (.inr rfl);have hs2:=hk2.size;simp only[zL]at hs2;have hsA:=hG.1.size;have G2:=hG.keep xA2;have hxA2:=qk hX (hG.1.keep xA2) (fun b hb=>by rcases hb with e|e<;>omega);have hvlt:∀b,(V va' us.length vc').ownBlock=E b->b<A.heap.size/\b≠w.heap.size+1:=fun b hb=>⟨(hG.2.2.1.type b hb).1.lt,(hG.2.2.2.1 b hb).1⟩
  have HKEEP:=zf (fun W (hW:Wr (fun b=>(V va' us.length vc').ownBlock=E b) A2 W)=>
   have q0:=hW.some e0 (fun e=>by have:=hvlt _ e;omega);have q1:=hW.some e1 (fun e=>by have:=hvlt _ e;omega);Xc (ze _ _ 0 _ _ _ q1) (Xc (ze _ _ 0 _ _ _ q0) (Xc (ze _ _ 1 _ _ _ q0) (Xc (ze _ _ 2 _ _ _ q0) (ze _ _ 3 _ _ _ q0)))))
  have HFZ:=zf (fun W (hW:Wr (fun b=>(V va' us.length vc').ownBlock=E b) A2 W)=>(Xh (hW.some e1 (fun e=>by have:=hvlt _ e;omega)):W.frozen? (x_ w 0)=false));have HSTR:=zf (fun W (hx:Ext A2 W)=>zkf K hK W ⟨(ra,rl,rc),⟨fb,(ua,ul,uc),(da,dl,dc)⟩⟩ q.1 _ _ ((HLP.out.1.keep xA2).below hx) ((HLP.out.2.keep xA2).below hx) hzq.2.2 lo1 lo2 ((htab.below hxA2).below hx));have HMO:=zf (fun(A4 A8:H) (g8 cap8:Nat) hx4 own grow at8 dig=>HGJ.out.more (A2:=A2) (A4:=A4) (A5:=A8) (g5:=g8) (cap5:=cap8) (j:=0) (u:=partB l.over q) xA2 hx4 (by omega) own rfl grow at8 dig rfl);simp only[DP.val,DP.rv,T.Tri.up,T.Tri.down]at HSTR;clear e0 e1 hG;refine ZW ?_;refine zav 5 (S:=fun W=>W.cell? (x_ w 0)=E (V va' us.length vc')/\W.cell? (y_ A 0)=E (V ra rl rc)/\W.cell? (y_ A 1)=E (G fb)/\W.cell? (y_ A 2)=E (V ua ul uc)/\W.cell? (y_ A 3)=E (V da dl dc)) hm (by rfl) (fun⟨a,w,h⟩=>h) (HKEEP.out A2 (Xj _ _)) (h:=fun hHeld=>?_);refine tkv 0 ?_;refine tkv 1 ?_;refine rcl 2 (HSTR.out _ (Xe A2).drew) ?_;rintro e A6 ⟨rfl,hb6⟩;have x6:=ZG hb6;obtain⟨pb,hpb⟩:∃pb,partB l.over q=pb:=⟨_,rfl⟩;have HPB:=zf hpb;have e6:(ByteArray.mk (Lib.decDigits q.1++(58::jL (q.2/(Nat.gcd q.2.natAbs l.over:Int)) (l.over/Nat.gcd q.2.natAbs l.over))).toArray)=pb:=hpb;rw[e6];rw[hpb]at HMO HSN;clear hpb e6;have x7:Ext A2 (A6.alloc (cl #[gS pb] 9)):=x6.alloc _;have hown:=(G2.2.2.1.ext x7).own;rw[zm]at hown;have hdig:=(G2.2.2.1.ext x7).dig;refine bk (HKEEP.out _ (Xg x6)) fun hHeld=>?_
  refine rd1 3 fun K hK=>?_;go_simp;refine hK.out _ _ (HKEEP.out _ (Xg x7)) (h:=fun hHeld=>?_);clear hK K;refine rd1 4 fun K hK=>?_;refine QM _ rfl (.tmp 11) (.tmp 14) 30 rfl w.heap.size 9 i0 (gS ⟨#[]⟩) 1 16 Tryz.underlying30 hi0 hy0 hy1 hy2 rfl (by decide) (V va' us.length vc') us.length (us.map zdh).flatten rfl hown (y_ A6 0) 1 1 [gS pb] rfl rfl (rec_new A6 [gS pb] 9) (by intro u hu;simp only[zI,zY,Zp]at hu;subst hu;rfl) (by omega) (by unfold maxLen;omega) (by omega) (by have h1:=x7.size;omega) (A6.heap.size+1) (by simp) (by intro u hu;simp[Value.cells]at hu;subst hu;intro n e;cases e) (by intro u hu;simp only[zI,zY,Zp]at hu;subst hu;intro n e;cases e) hdig ?_;intro g8 cap8 A8 own8 grow8 at8 lt8 dig8;have x8:=(Xg x7).trans (Qh grow8 (fun g hg=>hg));have HF:=zf (HMO.out _ A8 g8 cap8 (Xg x7) own8 grow8 (at8.imp id (fun e=>by simp;omega)) dig8);have s8:=(HKEEP.out _ x8).1;clear own8 grow8 at8 lt8 dig8;refine hK.out _ _ (HKEEP.out _ x8) (h:=fun hHeld=>?_);clear hK K;have f8:=HFZ.out _ x8;refine zV (by kernel_rfl) (zbP (h:=?_)) _;go_simp;obtain⟨m1,M',m2,m3⟩:=HF.out;exact⟨(Xg x7).trans m1,M',⟨_,_,HSN.out,m2⟩,m3⟩
 case done=>
  rintro D M A hD ⟨v,us,hus,hG⟩ hd;have hall:us=ws:=by rw[hus];exact zP (by rw[HWL.out];omega)
  rw[hall]at hG;have hxA:=qk hX hG.1 (fun b hb=>by rcases hb with e|e<;>omega);have hne:ws.map zdh≠ []:=by rw[HWS.out];simp
  obtain⟨va',vc',rfl⟩:=hG.2.2.1.shape;obtain⟨g,off,hE,hg,hcell⟩:=hG.2.2.1.list.recs.at hne;subst hE;have hcap:ws.length<=vc':=by
   obtain⟨_,h1|⟨g',cap',cur,hv,_,_,hn',_⟩⟩:=hG.2.2.1.own;·cases h1.1
   ·simp only[qp]at hv;rw[zm]at hn';omega
  rw[zm]at hG;have hwb:∀x∈ws.map (fun x:ByteArray=>x.data.toList),x.length<=30*K+120:=by
   intro x hx;obtain⟨y,hy,rfl⟩:=qP.1 hx;rw[HWS.out]at hy;rcases zI.1 hy with e|e
   ·rw[e];exact zF (jm js) (zF hwd (by omega))
   ·obtain⟨q,hq,rfl⟩:=qP.1 e;have hz:=HZ.out q hq;have:=zkO hoK hz.1 hz.2.2;show(zh6 l.over q).toArray.toList.length<=_
    simp;omega
  have hjb:(Lib.join (ws.map (fun x:ByteArray=>x.data.toList)) [32]).length<=100000000000:=by
   have hb:=zjG _ _ hwb;rw[zm,HWL.out]at hb;exact zF hb (zF (Z7 (show l.parts.length+1<=1001 by omega) (show 30*K+120+1<=30000121 by omega)) (by omega))
  have hjc:∀(j:Nat) x,ws[j]? =E x->A.cell? ⟨g,off+j,O⟩=E (gS x):=by
   intro j x hx;have:=hcell j (zdh x) (by rw[zR,hx];rfl) 0 (gS x) rfl;simpa using this
  have HJN:=zf (zn1 g off vc' ws A hjc hg (by rw[HWL.out];omega) hcap hjb);have HTX:Hid (Lib.join (ws.map (fun x:ByteArray=>x.data.toList)) [32] ++ [10]=Jj wd.data.toList l):=by
   rw[Hid,HWS.out];unfold Jj;rw[Zk,zcA];rfl
  rw[HTX.out]at HJN;have c0:=ze _ _ 0 _ _ _ hG.2.1;have HXA:=zf hxA;have hDb:=hD;clear hG hcell hus hall hne;gi_wp2;refine(zq.2 HJN.out).mono ?_;rintro e B ⟨rfl,hbB⟩;have hdB:=((Xf hbB).block _ (zd.1 hd).1).trans hd;have HBB:=zf (HXA.out.trans (Xf hbB));clear hbB;gi_wp2;refine qh hdB ?_;have hkD:=zn.putObj (B:=w.heap.size) (.deferred O) (by omega) hdB rfl;exact⟨gS ⟨(Jj wd.data.toList l).toArray⟩,by simp[results,Tryz.results233,go_sem],rfl,hkD.below HBB.out (zh _) (zh _)⟩
 case stop=>exact fun _ _ _ _ _ _ h _=>h.elim
def zc2:U_:= [99,117,116]
def wEnd:U_:= [101,110,100]
def zaO (K:Nat)(l:Zy):Prop:=l.over≠0/\l.over<4294967296^K/\l.parts.length<=1000/\∀q∈l.parts,q.2.natAbs<4294967296^K/\q.1<9223372036854775808/\q.1<4294967296^K
def zab (ls:List Zy)(l:Zy):U_:=ls.flatMap (Jj zc2)++Jj wEnd l
theorem zhL(i:K<=200000){a:U_}(j:a.length<=100)(h:zaO K l):(Jj a l).length<=6006121122:=by
 obtain⟨_,f,_,b⟩:=h;have c:=zjG (a::l.parts.map (zh6 l.over)) (30*K+120) (fun x g=>by
  rcases zI.1 g with e|e
  ·rw[e];omega
  ·obtain⟨q,d,rfl⟩:=qP.1 e;have:=zkO f (b q d).1 (b q d).2.2;omega)
 rw[qi,zm]at c;unfold Jj;rw[zM,qi,QK];have:=zF c (Z7 (show l.parts.length+1<=1001 by omega) (show 30*K+120+1<=6000121 by omega));omega
theorem zfA(b:K<=200000):∀(a:List Zy),(∀l∈a,zaO K l)->(a.flatMap (Jj zc2)).length<=a.length*6006121122
 |[],_=>sp
 |l::a,h=>by
  have h1:=zfA b a (fun x a=>h x (qq _ a));have a:=zhL b (show zc2.length<=100 by decide) (h l qA);rw[Qo,zM,qi,Zg];omega
theorem zaO.parts(h:zaO K l):l.parts.length<=1000:=h.2.2.1
section

variable {K:Nat}
theorem zn2 (f:K<=1000000)(w:H)(t:LT)(l:Zy)(b:List PT)(g:b.length=l.parts.length)(h:zaO K l)(a:Nat)(c:LwC t l b a w)(i:Tab w):C_ 181 #[.func (.func 234) #[] #[p_ a 0]] w fun e w'=>e=Xa (gS ⟨(Jj zc2 l).toArray⟩)/\b_ w w':=by
 have d:=zf (zgq f w ⟨#[99,117,116]⟩ dc t l b g (by have:=h.parts;omega) h.1 h.2.1 h.2.2.2 a c i);clear c;go_enter func181,ntmps181
 go_wp2_with fail
 refine d.out.mono ?_;rintro e a ⟨rfl,a⟩;go_wp2;go_ret;exact⟨rfl,a⟩
theorem zn3 (f:K<=1000000)(w:H)(t:LT)(l:Zy)(b:List PT)(g:b.length=l.parts.length)(h:zaO K l)(a:Nat)(c:LwC t l b a w)(i:Tab w):C_ 183 #[.func (.func 234) #[] #[p_ a 0]] w fun e w'=>e=Xa (gS ⟨(Jj wEnd l).toArray⟩)/\b_ w w':=by
 have d:=zf (zgq f w ⟨#[101,110,100]⟩ dc t l b g (by have:=h.parts;omega) h.1 h.2.1 h.2.2.2 a c i);clear c;go_enter func183,ntmps183
 go_wp2_with fail
 refine d.out.mono ?_;rintro e a ⟨rfl,a⟩;go_wp2;go_ret;exact⟨rfl,a⟩
end
variable {A w1:H}{M:Nat->Prop}{a:Nat}{txt:U_}
def EdI (w1:H)(b0 tb:Nat)(txt:U_)(M:Nat->Prop)(A:H):Prop:=
 ∃v,Wr (fun b=>b=tb) w1 A/\Bd b0 tb txt v A/\(∀b,v.ownBlock=E b->w1.heap.size<=b)/\∀b,M b↔b=tb\/v.ownBlock=E b
theorem EdI.keep{B:H}{c:Nat}(h:EdI w1 a c txt M A)(b:zn w1.heap.size A B):EdI w1 a c txt M B:=by
 obtain⟨v,a,c,d,e⟩:=h;exact⟨v,a.keep b,c.keep b,d,e⟩
theorem EdI.lt{c:Nat}(h:EdI w1 a c txt M A):∀b,M b->b<A.heap.size:=by
 obtain⟨_,_,a,_,c⟩:=h;intro b d;rcases(c b).1 d with rfl|e
 ·exact a.lt.1
 ·exact(a.lt.2 b e).2
theorem EdI.more{A2 A4 A5:H}{j:Nat}{s:U_}{v e:Value}(h1:Wr (fun b=>b=a) w1 A)(l:∀b,v.ownBlock=E b->w1.heap.size<=b)(h:∀b,M b↔b=a\/v.ownBlock=E b)(d:zn w1.heap.size A A2)(f:Ext A2 A4)(hb:Bd j a (txt++s) e A5)(c:Wr (fun k=>k=a\/v.ownBlock=E k) A4 A5)(m:∀g,e.ownBlock=E g->v.ownBlock=E g\/A4.heap.size<=g):Wr M A2 A5/\∃i,EdI w1 j a (txt++s) i A5/\∀x,i x->M x\/A2.heap.size<=x:=by
 have i:=(h1.keep d).size;refine⟨(Xg f).trans (c.mono fun k d=>(h k).2 d),fun b=>b=a\/e.ownBlock=E b,⟨e,?_,hb,fun b hb=>?_,fun b=>Qb⟩,fun x i=>?_⟩
 ·have e:=h1.keep d;have d:=e.trans (Xg f);exact⟨c.os.trans d.os,c.tape.trans d.tape,c.output.trans d.output,zF d.size c.size,fun b hb a=>(c.block b (zK hb d.size) (fun e=>by
   rcases e with e|e
   ·exact a e
   ·have:=l b e;omega)).trans (d.block b hb a)⟩
 ·have:=f.size;rcases m b hb with e|e
  ·exact l b e
  ·omega
 ·have:=f.size;rcases i with e|e
  ·exact .inl ((h x).2 (.inl e))
  ·rcases m x e with e|e
   ·exact .inl ((h x).2 (.inr e))
   ·exact .inr om
end

section
open Go.RowKit
attribute [local go_sem] zD zW qJ
theorem jp {B:H}{f:Nat}{a b c d e:Value}(g:B.heap[f]? =E (cl #[a,b,c,d,e] 35))(a' b' c' d' h:Value):
 (((((B.setCell (Xd f 0 O) a').setCell (Xd f 1 O) b').setCell (Xd f 2 O) c').setCell (Xd f 3 O) d').setCell (Xd f 4 O) h).heap[f]? =E (cl #[a',b',c',d',h] 35)/\Wr (fun k=>k=f) B (((((B.setCell (Xd f 0 O) a').setCell (Xd f 1 O) b').setCell (Xd f 2 O) c').setCell (Xd f 3 O) d').setCell (Xd f 4 O) h)/\
 (B.cell? (Xd f 0 O)=E a/\B.cell? (Xd f 1 O)=E b/\B.cell? (Xd f 2 O)=E c/\B.cell? (Xd f 3 O)=E d/\B.cell? (Xd f 4 O)=E e)/\B.frozen? (Xd f 0 O)=false/\B.frozen? (Xd f 1 O)=false/\B.frozen? (Xd f 2 O)=false/\B.frozen? (Xd f 3 O)=false/\B.frozen? (Xd f 4 O)=false:=
 ⟨Xl (Xl (Xl (Xl (Xl g)))),((((zv (U:=fun k=>k=f) rfl _).trans (zv (U:=fun k=>k=f) rfl _)).trans (zv (U:=fun k=>k=f) rfl _)).trans (zv (U:=fun k=>k=f) rfl _)).trans (zv (U:=fun k=>k=f) rfl _),⟨c_ 0 g,c_ 1 g,c_ 2 g,c_ 3 g,c_ 4 g⟩,Xh g,Xh g,Xh g,Xh g,Xh g⟩
theorem zkP {K:Nat}(Z:K<=200000){w:H}{B gs n given:Nat}{aims:L_}{a:S_}{c:CT}{rv cv:Value}{k:Cor}{aV:List ET}{rows:List qO}{bh:List NT}{b:List Zy}{aM:List LT}(hS:SrM w B gs n given aims a c rv cv k aV rows bh b aM)
 (b5:b.length<=20000) (b7:∀l∈b,zaO K l) (t:LT) (l:Zy) (hL:za7 w t l) (hB:zaO K l) (aK:Tab w) (i:Int) (pa:A_) (m j:Nat) (o:ByteArray):
 C_ 107 #[p_ gs 0,ag #[i_ i,V pa m j,gS o],t.val] w fun e w'=>e=Xa (ag #[i_ i,V pa m j,gS o,i_ (b.length:Int),gS ⟨(zab b l).toArray⟩])/\b_ w w':=by
 have aH:=hS.llen;obtain⟨R,T,aB⟩:=hS.lgrw.shape;rw[zm,aH]at aB;subst aB;have aZ:=(zd.1 hS.box).1;have aw:=zf hS;have ab:=zf b7;have av:=zf aH;obtain⟨⟨u,x,v⟩,⟨y,C,z⟩⟩:=t;obtain⟨aj,ps,b9,al,ak⟩:=hL;have HL:=zf (Xc aj (Xc b9 (Xc al ak)));simp only[LT.val,LT.ov,LT.pv]at *;obtain⟨n0,be,n2,bf,aN,hX⟩:=ziI w (cl #[i_ i,V pa m j,gS o] 33) (cl #[V u x v,V y C z] 109) (cl #[i_ 0,V_,gS ⟨#[]⟩,i_ 0,gS ⟨#[]⟩] 35) (cl #[pn O,V_] 148) (cl #[V R b.length T] 121);have aY:Ext w ((((w.alloc (cl #[i_ i,V pa m j,gS o] 33)).alloc (cl #[V u x v,V y C z] 109)).alloc (cl #[i_ 0,V_,gS ⟨#[]⟩,i_ 0,gS ⟨#[]⟩] 35)).alloc (cl #[pn O,V_] 148)):=((((Xe w).alloc _).alloc _).alloc _).alloc _;have ar:Hid (∀af,Ext w af->af.cell? (Xd gs 8 O)=E (V R b.length T)):=fun af X=>c_ 8 ((X.block _ aZ).trans hS.box)
 have c8:=ar.out _ aY;have bb:((((w.alloc (cl #[i_ i,V pa m j,gS o] 33)).alloc (cl #[V u x v,V y C z] 109)).alloc (cl #[i_ 0,V_,gS ⟨#[]⟩,i_ 0,gS ⟨#[]⟩] 35)).alloc (cl #[pn O,V_] 148)).heap.size=w.heap.size+1+1+1+1:=sp;refine Q0 func107 ntmps107 (h:=?_);gi_wp2;refine(zq.2 (zj7 R b.length T _)).mono ?_;rintro e w1 ⟨rfl,rfl⟩;rw[bb];gi_wp2;generalize (((((w.alloc (cl #[i_ i,V pa m j,gS o] 33)).alloc (cl #[V u x v,V y C z] 109)).alloc (cl #[i_ 0,V_,gS ⟨#[]⟩,i_ 0,gS ⟨#[]⟩] 35)).alloc (cl #[pn O,V_] 148)).alloc (cl #[V R b.length T] 121))=w1 at *;have bp:=(zd.1 aN).1;have aJ:=zjf aM R T (w.heap.size+1+1+1+1) (by rw[av.out];omega);rw[av.out]at aJ;refine ZT aJ rfl (qW func232 kr rfl) (fun k D W=>by rintro⟨t,_,rfl⟩;rfl)
  (fun k a2 A=>EdI w1 w.heap.size (w.heap.size+1+1+1) ((b.take k).flatMap (Jj zc2)) a2 A) (fun _ _ _=>False) (fun d=>d=w.heap.size+1+1+1) ?hI ?hIx ?hC ?h0 ?round ?done ?stop
 case hI=>exact fun k a2 A B h hk=>h.keep hk
 case hIx=>exact fun _ _ _ _ h _=>h
 case hC=>
  rintro k a2 A ⟨D,g,r,h3,h4⟩;have s:=qk hX g (fun d f=>om);have hr:=(aw.out.ext s).lgrw.list.recs;exact⟨⟨c_ 0 (g.some aN (fun e=>om)),hr⟩,EdI.lt ⟨D,g,r,h3,h4⟩⟩
 case h0=>
  refine⟨V_,Xj _ _,⟨om,⟨pn O,.inl rfl,bf⟩,⟨rfl,.inl ⟨rfl,rfl⟩⟩,fun e=>by cases e⟩,(fun d f=>by cases f),fun d=>by simp[Value.ownBlock]⟩
 case round=>
  rintro l2 k D a2 A aE ⟨t,bc,rfl⟩ ⟨D,g,r,h3,h4⟩;have aG:=zg aE;have aF:=ab.out _ (zJ aE);have s:=qk hX g (fun d f=>om);have b6:=(aw.out.ext s).line k t _ bc aG;have bd:(b.take (k+1)).flatMap (Jj zc2)=(b.take k).flatMap (Jj zc2)++Jj zc2 b[k]:=by rw[ZB,ZX,aG];simp only[zcI,Qo,JP,ZR]
  have b3:((b.take k).flatMap (Jj zc2)).length<=20000*6006121122:=by
   have h9:=zfA Z (b.take k) (fun ap X=>ab.out ap (ZY X));have h8:(b.take k).length<=20000:=by rw[zX];omega
   exact zF h9 (zZ _ h8)
  have b4:=zhL Z (show zc2.length<=100 by decide) aF;generalize b[k]=lk at *;generalize (b.take k).flatMap (Jj zc2)=tx at *;have ad:=zf bd;have HM:=zf h4;obtain⟨⟨F,J,I⟩,⟨L,N,M⟩⟩:=t;obtain⟨aj,bg,ba,al,ak⟩:=b6;simp only[LT.val,LT.ov,LT.pv]at *;have a0:=zf (Xc aj (Xc ba (Xc al ak)));unfold Zz;gi_wp2;refine⟨Xg ((Xe A).alloc _),fun q aC=>?_⟩;have P:=(zn.alloc w1.heap.size A (cl #[V F J I,V L N M] 109)).trans aC;have e0:=aC.block _ _ (zC A (cl #[V F J I,V L N M] 109)) (.inr rfl);have aL:=qk hX (g.keep P) (fun d f=>om);have i0:=c_ 0 e0;have i1:=c_ 1 e0;obtain⟨n9,p⟩:=new1 q (cl #[V F J I,V L N M] 109);have aQ:Hid (C_ 181 #[.func (.func 234) #[] #[p_ q.heap.size 0]] (q.alloc (cl #[V F J I,V L N M] 109)) fun e w'=>e=Xa (gS ⟨(Jj zc2 lk).toArray⟩)/\Below (q.alloc (cl #[V F J I,V L N M] 109)).heap.size (q.alloc (cl #[V F J I,V L N M] 109)) w'):=
   zn2 om _ ⟨(F,J,I),(L,N,M)⟩ lk bg a0.out.2.1 aF q.heap.size ⟨⟨c_ 0 n9,c_ 1 n9⟩,(a0.out.1.keep P).below p,(a0.out.2.2.1.keep P).ext p,fun a5 a6 a7 hp U=>⟨(a0.out.2.2.2 a5 a6 a7 hp U).1,((a0.out.2.2.2 a5 a6 a7 hp U).2.keep P).below p⟩⟩ ((aK.below aL).below p)
  have bo:=r.keep P;have aW:=aL.size;have a1:=zf (zgo ⟨(F,J,I),(L,N,M)⟩ q);simp only[LT.val,LT.ov,LT.pv]at a1;have aP:=zf (r.keep P);refine ZW ?_;refine Qt (by rfl) (fun⟨a,w,h⟩=>h) ?_;go_wp2_with fail
  refine a1.out.mono ?_;rintro e A3 ⟨rfl,rfl⟩;go_wp2_with fail
  refine aQ.out.mono ?_;rintro e A4 ⟨rfl,ah⟩;have Y:=p.trans (Xf ah);have ae:=zf (zjd w.heap.size (w.heap.size+1+1+1) tx D (Jj zc2 lk) A4 (aP.out.below Y) om (zF aW Y.size));go_wp2_with fail
  refine ae.out.mono ?_;rintro e Q ⟨⟨bi,rfl⟩,v',a8,-,an,az⟩;go_wp2_with fail
  have aI:=EdI.more g h3 HM.out P Y a8 an az;rw[<-ad.out]at aI;obtain⟨m1,M',m2,m3⟩:=aI;exact⟨m1,M',m2,fun ap X=>(m3 ap X).imp id (fun h=>zF P.size h)⟩
 case done=>
  rintro aq a2 A hD ⟨D,g,r,h3,h4⟩ hd;rw[Zx]at r;have s:=qk hX g (fun d f=>om);have b3:=zF (zfA Z b ab.out) (zZ _ b5);have b4:=zhL Z (show wEnd.length<=100 by decide) hB;have b0:=g.some n0 (fun e=>om);have b1:=g.some be (fun e=>om);have b2:=g.some n2 (fun e=>om);have i0:=c_ 0 b1;have i1:=c_ 1 b1;have bn:=(zd.1 hd).1;obtain⟨n9,p⟩:=new1 A (cl #[V u x v,V y C z] 109);have aR:Hid (C_ 183 #[.func (.func 234) #[] #[p_ A.heap.size 0]] (A.alloc (cl #[V u x v,V y C z] 109)) fun e w'=>e=Xa (gS ⟨(Jj wEnd l).toArray⟩)/\Below (A.alloc (cl #[V u x v,V y C z] 109)).heap.size (A.alloc (cl #[V u x v,V y C z] 109)) w'):=
   zn3 om _ ⟨(u,x,v),(y,C,z)⟩ l ps HL.out.2.1 hB A.heap.size ⟨⟨c_ 0 n9,c_ 1 n9⟩,(HL.out.1.below s).below p,(HL.out.2.2.1.ext s).ext p,fun a5 a6 a7 hp U=>⟨(HL.out.2.2.2 a5 a6 a7 hp U).1,((HL.out.2.2.2 a5 a6 a7 hp U).2.below s).below p⟩⟩ ((aK.below s).below p)
  have a1:=zf (zgo ⟨(u,x,v),(y,C,z)⟩ A);simp only[LT.val,LT.ov,LT.pv]at a1;have aX:=s.size;have ad:Hid (b.flatMap (Jj zc2)++Jj wEnd l=zab b l):=rfl;have a9:∀d,D.ownBlock=E d->d≠aq/\w1.heap.size<=d/\d<A.heap.size:=by
   intro d f;refine⟨fun e=>?_,h3 d f,(r.lt.2 d f).2⟩;subst e;obtain⟨_,_,b8,_⟩:=r;obtain⟨_,U|⟨_,_,_,fz,hv,_,hh,_⟩⟩:=b8;·rw[U.1]at f;cases f
   ·rw[hv]at f;simp[Value.ownBlock]at f;rw[f,hd]at hh;cases hh
  have bl:=r.lt.1;generalize b.flatMap (Jj zc2)=tx at *;have aO:=zf (Xc b0 (Xc b2 hd));gi_wp2;refine(zq.2 a1.out).mono ?_;rintro e A3 ⟨rfl,rfl⟩;gi_wp2;refine(zq.2 aR.out).mono ?_;rintro e A4 ⟨rfl,ah⟩;have Y:=p.trans (Xf ah);have ae:=zf (zjd w.heap.size (w.heap.size+1+1+1) tx D (Jj wEnd l) A4 (r.below Y) om (zF aX Y.size));gi_wp2;refine(zq.2 ae.out).mono ?_;rintro e Q ⟨⟨bi,rfl⟩,v',a8,_,an,az⟩;have a4:=(Xg Y).trans an;have ao:Ext w Q:=qk s a4 (fun d f=>by
   rcases f with e|e
   ·omega
   ·have:=a9 d e;omega)
  obtain⟨b0,b2,hd⟩:=aO.out;have d0:=a4.some b0 (fun e=>by rcases e with e|e;omega;have:=a9 _ e;omega);have d2:=a4.some b2 (fun e=>by rcases e with e|e;omega;have:=a9 _ e;omega);have dD:=a4.some hd (fun e=>by rcases e with e|e;omega;exact(a9 _ e).1 rfl);have bq:=a4.size;rw[ad.out]at a8;have aU:=zf (Tryz.Builder_String_any_k w.heap.size (w.heap.size+1+1+1) (zab b l) Q.drew (a8.keep (zn.drew 0 Q)).is ao.size);have aa:Hid (∀W:H,W.heap[w.heap.size]? =E (cl #[i_ i,V pa m j,gS o] 33)->Ext w W->(W.cell? (y_ w 0)=E (i_ i)/\W.cell? (y_ w 1)=E (V pa m j)/\W.cell? (y_ w 2)=E (gS o))/\W.cell? (Xd gs 8 O)=E (V R b.length T)):=
   fun W h X=>⟨⟨c_ 0 h,c_ 1 h,c_ 2 h⟩,ar.out W X⟩
  gi_wp2;refine Jc (S:=fun W=>(W.cell? (y_ w 0)=E (i_ i)/\W.cell? (y_ w 1)=E (V pa m j)/\W.cell? (y_ w 2)=E (gS o))/\W.cell? (Xd gs 8 O)=E (V R b.length T)) hm (aa.out Q.drew d0 ao.drew) (fun ay=>?_);refine tkl [0,1,2,3,4,5] ?_;refine rcl 6 aU.out ?_;rintro e A6 ⟨rfl,-,aA,ai⟩;have x6:Ext w A6:=Qg ao.drew aA;have k0:=ai _ _ d0 (fun e=>by injection e with e;omega) (fun c fz e=>by cases e);have k2:=ai _ _ d2 (fun e=>by injection e with e;omega) (fun c fz e=>by cases e);have kD:=ai aq _ dD (fun e=>by injection e with e;omega) (fun c fz e=>by cases e);have br:Q.heap.size<=A6.heap.size:=aA.size;refine bk (aa.out _ k0 x6) fun ay=>?_
  refine tkv 7 ?_;refine rd1 8 fun K Z=>?_;obtain⟨p2,pw,⟨_,_,_,_,_⟩,_,_,_,_,_⟩:=jp k2 (i_ i) (V pa m j) (gS o) (i_ (b.length:Int)) (gS ⟨(zab b l).toArray⟩);have aT:=zf p2;have au:=zf (pw.some kD (fun e=>om));have ax:=zf (qk x6 pw (fun d f=>om));have aS:=zf (pw.some k0 (fun e=>om));go_simp;refine Z.out _ _ (aa.out _ aS.out ax.out) (h:=fun ay=>?_);refine zV kr ⟨rfl,?_⟩ _;generalize (((((A6.setCell (w_ w 0) (i_ i)).setCell (w_ w 1) (V pa m j)).setCell (w_ w 2) (gS o)).setCell (w_ w 3) (i_ (b.length:Int))).setCell (w_ w 4) (gS ⟨(zab b l).toArray⟩))=bj at *;gi_wp2;refine qh au.out ?_;have aD:=zn.putObj (B:=w.heap.size) (.deferred O) om au.out rfl;have a3:=aD.block _ _ aT.out (.inr rfl);have j0:=c_ 0 a3;have j1:=c_ 1 a3;have j2:=c_ 2 a3;have j3:=c_ 3 a3;have j4:=c_ 4 a3;exact⟨ag #[i_ i,V pa m j,gS o,i_ (b.length:Int),gS ⟨(zab b l).toArray⟩],by simp[results,results107,go_sem,j0,j1,j2,j3,j4],rfl,aD.below ax.out (zh _) (zh _)⟩
 case stop=>exact fun _ _ _ _ _ _ h _=>h.elim
end

section
open Go.RowKit
theorem zn4 (a:U_)(r:Int×Int):(⟨a.toArray⟩:ByteArray)++⟨#[114,97,110,103,101,32]⟩++⟨(Lib.itoa r.1).toArray⟩++⟨#[32]⟩++⟨(Lib.itoa r.2).toArray⟩++⟨#[10]⟩=⟨(a++za1 r).toArray⟩:=by
 have a:(⟨#[114,97,110,103,101,32]⟩:ByteArray)=⟨([114,97,110,103,101,32]:U_).toArray⟩:=rfl;have b:(⟨#[32]⟩:ByteArray)=⟨([32]:U_).toArray⟩:=rfl;have c:(⟨#[10]⟩:ByteArray)=⟨([10]:U_).toArray⟩:=rfl;rw[a,b,c,ZP,ZP,ZP,ZP,ZP];unfold za1;simp[Je,QF]
theorem zre (a:U_)(g:L_)(sg:U_)(r:Int):(⟨a.toArray⟩:ByteArray)++⟨#[114,111,119]⟩++⟨(QF g).toArray⟩++⟨(32::sg ++ [32]).toArray⟩++⟨(Lib.itoa r).toArray⟩++⟨#[10]⟩=⟨(a++rowS (g,sg,r)).toArray⟩:=by
 have a:(⟨#[114,111,119]⟩:ByteArray)=⟨([114,111,119]:U_).toArray⟩:=rfl;have b:(⟨#[10]⟩:ByteArray)=⟨([10]:U_).toArray⟩:=rfl;rw[a,b,ZP,ZP,ZP,ZP,ZP];unfold rowS;simp[JX,QF]
theorem zjH (zs:L_)(h:∀z∈zs,z.natAbs<10^10)(a:zs.length<=4):(ByteArray.mk (QF zs).toArray).size<=600:=
 T.told_len zs (fun z b=>zbr (h z b) dc) a
