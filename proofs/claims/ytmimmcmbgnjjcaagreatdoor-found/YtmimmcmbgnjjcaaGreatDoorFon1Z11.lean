import Derived.Test.YtmimmcmbgnjjcaaGreatDoorFon1Z10
import Derived.Test.YtmimmcmbgnjjcaaGreatDoorFon1Z9
open Option renaming none->O,some->E
open Go.Value renaming slice->V,bool->G,pointer->pn,agg->ag
open Go.Obj renaming cells->cl
open Go renaming World->H
open Go.Proofs.Tryz renaming prog->pg
open Go.Proofs.Tryz
open Go.Ending renaming returned->Xa
open Go.Addr renaming mk->Xd
set_option linter.unusedSimpArgs false
set_option linter.unusedVariables false
set_option maxHeartbeats 4000000
set_option maxRecDepth 100000
namespace Go.Proofs.YtmimmcmbgnjjcaaGreatDoor
section
open V4
variable {aims:List Int}{i n:Nat}
def zb9 (aims:List Int)(bs:List ((List Int×Int)×Nat)):Cor:=
 let es:=bs.filterMap fun b=>if 0<Qx (qT aims b.1.1)then E (⟨b.1,b.2,b.1.1⟩:Edg)else O
 ⟨1,es.foldl (fun pt e=>ZJ 1 pt 1 e.loss e.row.2) (List.replicate es.length 0),es⟩
def zcg (rg:Nat->Int×Int)(k:Nat):Nat->List ((List Int×Int)×Nat):=fun n=>
 (List.range n).flatMap fun i=> [((T.unitRow n i,(rg i).2),k+2*i+1),(((T.unitRow n i).map fun z=>-z,-(rg i).1),k+2*i+2)]
def zct (n:Nat)(aims:List Int)(rg:Nat->Int×Int)(k i:Nat):Edg:=
 if aims.getD i 0<=0 then⟨((T.unitRow n i).map fun z=>-z,-(rg i).1),k+2*i+2,(T.unitRow n i).map fun z=>-z⟩else⟨(T.unitRow n i,(rg i).2),k+2*i+1,T.unitRow n i⟩
theorem QS(n i:Nat):(T.unitRow n i).length=n:=by simp[T.unitRow]
theorem zdp(b:n<=4)(a:i<n):toV (T.unitRow n i)=QV i:=by
 have a:∀k,(T.unitRow n i).getD k 0=if i=k then 1 else 0:=by
  intro k;unfold T.unitRow;rw[zk,zR];by_cases b:k<n
  ·rw[zaL b];simp only[qY,qB];by_cases h:k=i
   ·rw[zQ h,zQ h.symm]
   ·rw[zO h,zO (fun e=>h e.symm)]
  ·rw[qL (by simpa using b)];simp only[Option.map_none,Option.getD_none];rw[zO om]
 exact ext' (a 0) (a 1) (a 2) (a 3)
theorem zgl(l:List Int):toV (l.map fun z=>-z)=(toV l).smul (-1):=by
 have a:∀k,(l.map fun z=>-z).getD k 0=-1*l.getD k 0:=by
  intro k;rw[zk,zk,zR];cases l[k]?<;>simp
 exact ext' (a 0) (a 1) (a 2) (a 3)
theorem zlR(aims:List Int)(i:Nat):(if aims.getD i 0<=0 then(-1:Int)else 1)*(if aims.getD i 0<=0 then(-1:Int)else 1)=1:=by split<;>rfl
theorem zeL(i j:Nat)(a:i<4)(b:j<4):(QV i).dot (QV j)=if i=j then 1 else 0:=by
 rcases lt4 a with rfl|rfl|rfl|rfl<;>rcases lt4 b with rfl|rfl|rfl|rfl<;>rfl
theorem zlS(x:V4)(i:Nat):x.dot (QV i)=(QV i).dot x:=dot_comm _ _
theorem zlT(b:i<4):JK (rk aims ((QV i).smul (if aims.getD i 0<=0 then(-1:Int)else 1))):=by
 have e:∀t,rk aims ((QV i).smul t) 0=t*aims.getD i 0:=by
  intro t;show(toV aims).dot _=_
  rw[dot_smul,zlS];obtain⟨a,d,f,g⟩:=zbJ (toV aims);rcases lt4 b with rfl|rfl|rfl|rfl
  ·rw[a];rfl
  ·rw[d];rfl
  ·rw[f];rfl
  ·rw[g];rfl
 have f:∀t k,k<4->rk aims ((QV i).smul t) (k+1)=if k=i then t*(if aims.getD i 0<=0 then(-1:Int)else 1)else 0:=by
  intro t k a;show(if aims.getD k 0<=0 then(QV k).smul (-1)else QV k).dot _=_
  rw[dot_smul];by_cases d:k=i
  ·subst d;rw[zQ rfl];split
   ·rw[smul_dot,zeL _ _ a a,zQ rfl];rfl
   ·rw[zeL _ _ a a,zQ rfl]
  ·rw[zO d];split
   ·rw[smul_dot,zeL _ _ a b,zO d];simp
   ·rw[zeL _ _ a b,zO d];simp
 by_cases d:aims.getD i 0=0
 ·refine⟨i+1,om,fun k a=>?_,?_⟩
  ·cases k with
   |zero=>rw[e,d];simp
   |succ k=>rw[f _ k om,zO om]
  ·rw[f _ i b,zQ rfl,zlR];omega
 ·refine⟨0,om,fun k a=>absurd a (Nat.not_lt_zero _),?_⟩;rw[e];split<;>omega
theorem zfv(aims:List Int)(rg:Nat->Int×Int)(k:Nat)(b:n<=4)(a:i<n):
 toV (zct n aims rg k i).row.1=(QV i).smul (if aims.getD i 0<=0 then(-1:Int)else 1)/\(zct n aims rg k i).loss=(zct n aims rg k i).row.1/\(zct n aims rg k i).row.1.length=n:=by
 unfold zct;split
 ·exact⟨by rw[zgl,zdp b a],rfl,by simp[QS]⟩
 ·refine⟨?_,rfl,QS _ _⟩;show toV (T.unitRow n i)=_
  rw[zdp b a];exact ext' (QT _).symm (QT _).symm (QT _).symm (QT _).symm
theorem zek(f:aims.length=n)(e:n<=4)(rg:Nat->Int×Int)(k:Nat):
 (zcg rg k n).filterMap (fun b=>if 0<Qx (qT aims b.1.1)then E (⟨b.1,b.2,b.1.1⟩:Edg)else O)=(List.range n).map (zct n aims rg k):=by
 unfold zcg;rw[List.filterMap_flatMap,List.map_eq_flatMap];have p:∀i∈List.range n,List.filterMap (fun b:(List Int×Int)×Nat=>if 0<Qx (qT aims b.1.1)then E (⟨b.1,b.2,b.1.1⟩:Edg)else O) [((T.unitRow n i,(rg i).2),k+2*i+1),(((T.unitRow n i).map fun z=>-z,-(rg i).1),k+2*i+2)]= [zct n aims rg k i]:=by
  intro i d;have d:=Z8.1 d;have a:=zlT (aims:=aims) (i:=i) om;have l:=ziC (aims:=aims) (x:=T.unitRow n i) (by rw[QS,f]) (by rw[QS];exact e);have m:=ziC (aims:=aims) (x:=(T.unitRow n i).map fun z=>-z) (by simp[QS,f]) (by simp[QS];exact e);rw[zdp e d]at l;rw[zgl,zdp e d]at m;have q:∀{x:V4},JK (rk aims x)->¬JK (rk aims (x.smul (-1))):=by
   intro x g j;refine g.not_neg (j.n.congr (fun k g=>?_));rw[JH];omega
  have one:∀x:V4,x.smul 1=x:=fun x=>ext' (QT _) (QT _) (QT _) (QT _)
  unfold zct;by_cases o:aims.getD i 0<=0
  ·rw[zQ o]at a⊢;have g:¬0<Qx (qT aims (T.unitRow n i)):=fun h=>q (l.1 h) a
   have j:=m.2 a;simp[g,j]
  ·rw[zO o]at a⊢;rw[one]at a;have g:=l.2 a;have j:¬0<Qx (qT aims ((T.unitRow n i).map fun z=>-z)):=fun h=>q a (m.1 h)
   simp[g,j]
 clear f e;generalize List.range n=l at *;induction l with
 |nil=>rfl
 |cons a l e=>
  rw[Qo,Qo,p a qA,e (fun i d=>p i (qq _ d))]
theorem zgH:∀(es:List Edg) (pt:List Int) (n:Nat),pt.length=n->(∀e∈es,e.loss.length=n)->(es.foldl (fun pt e=>ZJ 1 pt 1 e.loss e.row.2) pt).length=n/\∀g:V4,g.dot (toV (es.foldl (fun pt e=>ZJ 1 pt 1 e.loss e.row.2) pt))=g.dot (toV pt)+(es.map fun e=>e.row.2*g.dot (toV e.loss)).sum
 |[],pt,n,a,_=>⟨a,fun g=>sp⟩
 |e::es,pt,n,a,b=>by
  have d:=b e qA;have f:(ZJ 1 pt 1 e.loss e.row.2).length=n:=by rw[zdV _ _ _ _ _ om];exact a
  obtain⟨a,d⟩:=zgH es (ZJ 1 pt 1 e.loss e.row.2) n f (fun x f=>b x (qq _ f));refine⟨a,fun g=>?_⟩;have a:=zhq (over:=1) om (x:=pt) (y:=e.loss) om 1 e.row.2 (z:=((toV pt).smul 1).add ((toV e.loss).smul e.row.2)) (ext' (QT _) (QT _) (QT _) (QT _));rw[zaZ,d g,a,dot_add,dot_smul,dot_smul,Zk,QI];omega
theorem zmF(q:aims.length=n)(l:n<=4)(rg:Nat->Int×Int)(k:Nat):
 Qy n aims (zb9 aims (zcg rg k n))/\(zb9 aims (zcg rg k n)).edges=(List.range n).map (zct n aims rg k):=by
 have d:(zb9 aims (zcg rg k n)).edges=(List.range n).map (zct n aims rg k):=zek q l rg k;have y:(zb9 aims (zcg rg k n)).point=((List.range n).map (zct n aims rg k)).foldl (fun a e=>ZJ 1 a 1 e.loss e.row.2) (List.replicate n 0):=by
  show List.foldl _ _ _=_
  rw[zek q l rg k];simp
 have A:(zb9 aims (zcg rg k n)).over=1:=rfl;refine⟨?_,d⟩;generalize zb9 aims (zcg rg k n)=c at *;have g:∀i e,c.edges[i]? =E e↔i<n/\e=zct n aims rg k i:=by
  intro i e;rw[d,zR];by_cases a:i<n
  ·rw[zaL a];simp[a,eq_comm]
  ·rw[qL (by simpa using a)];simp[a]
 have z:c.edges.length=n:=by rw[d];simp
 have s:∀e∈c.edges,e.row.1.length=n/\e.loss.length=n:=by
  intro e b;rw[d]at b;obtain⟨i,a,rfl⟩:=qP.1 b;have f:=zfv aims rg k l (Z8.1 a);exact⟨f.2.2,by rw[f.2.1];exact f.2.2⟩
 obtain⟨sg,hsg⟩:∃sg:Nat->Int,sg=fun i=>if i<n then(if aims.getD i 0<=0 then(-1:Int)else 1)else 1:=⟨_,rfl⟩
 have o:∀i,sg i*sg i=1:=by
  intro i;rw[hsg];simp only;split
  ·exact zlR aims i
  ·rfl
 have one:∀x:V4,x.smul 1=x:=fun x=>ext' (QT _) (QT _) (QT _) (QT _)
 have p:∀i,eR c i=(QV i).smul (sg i):=by
  intro i;by_cases a:i<n
  ·rw[zdv ((g i _).2 ⟨a,rfl⟩),(zfv aims rg k l a).1,hsg];simp only;rw[zQ a]
  ·rw[zh0 om,hsg];simp only;rw[zO a,one]
 have f:=funext p;have j:Jb (eR c)=sg 0*sg 1*sg 2*sg 3:=by
  rw[f];simp only[Jb,det,crs,dot,smul,QV];simp;grind
 have f:Jb (eR c)*Jb (eR c)=1:=by
  rw[j];have:=o 0;have:=o 1;have:=o 2;have:=o 3;grind
 have t:Jb (eR c)=1\/Jb (eR c)=-1:=by
  rcases zad (Jb (eR c)) 0 with h|h|h
  ·right
   have m:Jb (eR c) ∣ 1:=⟨_,f.symm⟩;have:=Int.natAbs_dvd_natAbs.2 m;have:=zeS dc this;simp at this;omega
  ·rw[h]at f;simp at f
  ·left
   have m:Jb (eR c) ∣ 1:=⟨_,f.symm⟩;have:=Int.le_of_dvd dc m;omega
 have u:Jb (eR c)≠0:=by rcases t with h|h<;>omega
 have w:∀i e,c.edges[i]? =E e->toV e.loss=eR c i:=by
  intro i e b;have m:=(g i e).1 b;rw[zdv b,m.2,(zfv aims rg k l m.1).2.1]
 have v:∀i j,i<4->j<4->(eR c i).dot (eR c j)=if i=j then 1 else 0:=by
  intro i j a g;rw[p,p,smul_dot,dot_smul,zeL i j a g];split
  ·rename_i h;subst h;rw[zet];exact o i
  ·simp
 refine⟨l,q,z,?_,s,om,⟨Jb (eR c),t,by rw[f,A];rfl,fun i e b=>?_,?_⟩,fun e b=>?_,?_⟩
 ·rw[y];exact(zgH _ _ n sp (fun e b=>(s e (by rw[d];exact b)).2)).1
 ·have o:i<4:=by have:=jQ b;omega
  rw[w i e b];refine zeu u (fun j g=>?_);rw[dot_smul,zaS _ _ _ g o,v j i g o];split
  ·exact f.symm
  ·simp
 ·refine zeu u (fun j g=>?_);rw[dot_smul,zev _ _ _ g,y,(zgH _ _ n sp (fun e b=>(s e (by rw[d];exact b)).2)).2,<-d,sum4 _ _ om];have o:toV (List.replicate n 0)=V4.zero:=by
   have f:∀k,(List.replicate n (0:Int)).getD k 0=0:=fun k=>by
    rw[zk];cases h:(List.replicate n (0:Int))[k]? with
    |none=>rfl
    |some p=>
     have:=zx h;simp at this;simp[this.2]
   exact ext' (f 0) (f 1) (f 2) (f 3)
  have f:∀i,i<4->(c.edges[i]?.map fun e=>e.row.2*(eR c j).dot (toV e.loss)).getD 0=eM c i*(if j=i then 1 else 0):=by
   intro i a;cases b:c.edges[i]? with
   |some e=>rw[qY,qB,w i e b,v j i g a,zfi b]
   |none=>rw[zh1 (Ju.1 b)];simp
  rw[o,dot_zero,f 0 om,f 1 om,f 2 om,f 3 om];rcases lt4 g with rfl|rfl|rfl|rfl<;>simp<;>grind
 ·rw[d]at b;obtain⟨i,a,rfl⟩:=qP.1 b;have a:=Z8.1 a;rw[(zfv aims rg k l a).2.1,(zfv aims rg k l a).1];exact zlT om
 ·rw[d,zcA];refine zaq.2 fun a b m a a=>?_
  simp only[zaJ,Function.comp,List.getElem_range];unfold zct;split<;>split<;>simp<;>omega
end

section
open V4
variable {a:Type}
theorem zdw(f g:a->Int)(l:List a):(l.map fun e=>f e+g e).sum=(l.map f).sum+(l.map g).sum:=by
 induction l with
 |nil=>rfl
 |cons a l a=>simp only[Zk,QI,a];omega
theorem zcO(k:Int)(f:a->Int)(l:List a):(l.map fun e=>k*f e).sum=k*(l.map f).sum:=by
 induction l with
 |nil=>simp
 |cons a l a=>simp only[Zk,QI,a];rw[zbd]
theorem zbK{f g:a->Int}{l:List a}(h:∀e∈l,f e=g e):(l.map f).sum=(l.map g).sum:=by
 rw[zeb h]
theorem zjk{f:a->Int}{l:List a}(h:∀e∈l,0<=f e):0<=(l.map f).sum:=by
 induction l with
 |nil=>simp
 |cons a l b=>
  have d:=h a qA;have a:=b (fun e a=>h e (qq _ a));simp only[Zk,QI];omega
theorem zlU{f:a->Int}{l:List a}(h:∀e∈l,f e=0):(l.map f).sum=0:=by
 induction l with
 |nil=>rfl
 |cons a l b=>
  simp only[Zk,QI,h a qA,b (fun e a=>h e (qq _ a))];rfl
section

variable {n:Nat} {aims:List Int} {c:Cor} (h:Qy n aims c)

include h
theorem Qy.point_sum (g:V4):g.dot (toV c.point)=(c.edges.map fun e=>e.row.2*g.dot (toV e.loss)).sum:=by
 have b:=h.complete (x:=List.replicate n 0) sp g;have d:toV (List.replicate n 0)=V4.zero:=by
  have a:∀k,(List.replicate n (0:Int)).getD k 0=0:=fun k=>by
   rw[zk];cases hh:(List.replicate n (0:Int))[k]? with
   |none=>rfl
   |some v=>
    have:=zx hh;simp at this;simp[this.2]
  exact ext' (a 0) (a 1) (a 2) (a 3)
 rw[d,dot_zero,Int.mul_zero]at b;have a:(c.edges.map fun e=>(e.row.2-T.dotZ e.row.1 (List.replicate n 0))*g.dot (toV e.loss)).sum=(c.edges.map fun e=>e.row.2*g.dot (toV e.loss)).sum:=by
  refine zbK fun e f=>?_
  have:=(h.elen e f).1;have f:=h.n4;rw[QD (by simp[this]) so,d,dot_zero,Int.sub_zero]
 rw[a]at b;omega
theorem Qy.all (g:V4){x:List Int}(a:x.length=n):(c.over:Int)*g.dot (toV x)=(c.edges.map fun e=>T.dotZ e.row.1 x*g.dot (toV e.loss)).sum:=by
 rw[h.complete a g,h.point_sum g];have a:(c.edges.map fun e=>e.row.2*g.dot (toV e.loss)).sum=(c.edges.map fun e=>(e.row.2-T.dotZ e.row.1 x)*g.dot (toV e.loss)).sum+(c.edges.map fun e=>T.dotZ e.row.1 x*g.dot (toV e.loss)).sum:=by
  rw[<-zdw];refine zbK fun e _=>?_
  grind
 omega
end
def JQ (r o:List Int×Int)(t:Int):List Int×Int:=(List.zipWith (fun f w=>f+w*t) r.1 o.1,r.2+o.2*t)
def Qu (r:List Int×Int)(d:Nat):List Int×Int:=(r.1.map fun z=>z/(d:Int),r.2/(d:Int))
def zeV (l:List Int):Nat:=l.foldl (fun d z=>Nat.gcd d z.natAbs) 0
def Zc (aims:List Int)(over:Nat)(r:Nat)(e:Edg):Nat:=((qT aims e.loss).getD r 0%(over:Int)).toNat
def Qf (n:Nat)(aims:List Int)(c:Cor)(r:Nat):List Int×Int:=c.edges.foldl (fun acc e=>JQ acc e.row (Zc aims c.over r e:Int)) (List.replicate n 0,0)
def Zm (n:Nat)(aims:List Int)(c:Cor)(r:Nat):Nat:=zeV (Qu (Qf n aims c r) c.over).1
def Zd (n:Nat)(aims:List Int)(c:Cor)(r:Nat):List Int×Int:=Qu (Qu (Qf n aims c r) c.over) (Zm n aims c r)
theorem zkC (t:Edg->Int):∀(es:List Edg) (a:List Int×Int) (n:Nat),a.1.length=n->(∀e∈es,e.row.1.length=n)->(es.foldl (fun a e=>JQ a e.row (t e)) a).1.length=n/\
 (∀i,(es.foldl (fun a e=>JQ a e.row (t e)) a).1.getD i 0=a.1.getD i 0+(es.map fun e=>t e*e.row.1.getD i 0).sum)/\(es.foldl (fun a e=>JQ a e.row (t e)) a).2=a.2+(es.map fun e=>t e*e.row.2).sum
 |[],a,n,b,_=>⟨b,fun i=>sp,sp⟩
 |e::es,a,n,b,d=>by
  have f:=d e qA;have m:(JQ a e.row (t e)).1.length=n:=by simp[JQ,b,f]
  obtain⟨g,j,l⟩:=zkC t es (JQ a e.row (t e)) n m (fun x m=>d x (qq _ m));refine⟨g,fun i=>?_,?_⟩
  ·rw[zaZ,j i];have:(JQ a e.row (t e)).1.getD i 0=a.1.getD i 0+e.row.1.getD i 0*t e:=JE (f:=fun d w=>d+w*t e) sp (by rw[b,f]) i;rw[this,Zk,QI,Qp (t e)];omega
  ·rw[zaZ,l,Zk,QI,Qp (t e)];show a.2+e.row.2*t e+_=_
   omega
theorem zfw:∀(l:List Int) (d:Nat),(l.foldl (fun d z=>Nat.gcd d z.natAbs) d) ∣ d/\∀z∈l,(l.foldl (fun d z=>Nat.gcd d z.natAbs) d) ∣ z.natAbs
 |[],d=>⟨Nat.dvd_refl _,fun z h=>by simp at h⟩
 |a::l,d=>by
  obtain⟨h1,h2⟩:=zfw l (Nat.gcd d a.natAbs);rw[zaZ];refine⟨Nat.dvd_trans h1 (zdi _ _),fun z b=>?_⟩;rcases zI.1 b with rfl|b
  ·exact Nat.dvd_trans h1 (zcV _ _)
  ·exact h2 z b
theorem zlV (l:List Int){z:Int}(h:z∈l):(zeV l:Int) ∣ z:=zeG.2 ((zfw l 0).2 z h)
theorem zqN {l:List Int}{z:Int}(h:z∈l)(b:z≠0):0<zeV l:=by
 rcases Qd (zeV l)with a|a
 ·have:=zlV l h;rw[a]at this;exact absurd (Int.zero_dvd.1 (by simpa using this)) b
 ·exact a
structure zfP (n:Nat)(aims:List Int)(c:Cor)(r:Nat):Prop where
 shared:0<Zm n aims c r
 len:(Zd n aims c r).1.length=n
 row:∀i,(((c.over*Zm n aims c r:Nat):Int))*(Zd n aims c r).1.getD i 0=(c.edges.map fun e=>(Zc aims c.over r e:Int)*e.row.1.getD i 0).sum
 most:(Zd n aims c r).2=(c.edges.map fun e=>(Zc aims c.over r e:Int)*e.row.2).sum/(((c.over*Zm n aims c r:Nat):Int))
 rest:(c.edges.map fun e=>(Zc aims c.over r e:Int)*e.row.2).sum%(c.over:Int)=rk aims (toV c.point) r%(c.over:Int)
 part:(rk aims (toV c.point) r)%(c.over:Int)≠0
theorem zdx {n:Nat}{aims:List Int}{c:Cor}(h:Qy n aims c){r:Nat}(d:r<5){e:Edg}(b:e∈c.edges):((Zc aims c.over r e:Nat):Int)=rk aims (toV e.loss) r%(c.over:Int):=by
 unfold Zc;have a:=h.elen e b;have b:=h.n4;have b:=h.pos;rw[zbi (by rw[h.aim,a.2]) om r d];have:=J3 (rk aims (toV e.loss) r) (show(c.over:Int)≠0 by omega);omega
theorem zlW {a:Type}{f g:a->Int}{m:Int}{l:List a}(h:∀e∈l,f e%m=g e%m):(l.map f).sum%m=(l.map g).sum%m:=by
 induction l with
 |nil=>rfl
 |cons a l b=>
  simp only[Zk,QI];rw[Int.add_emod,h a qA,b (fun e a=>h e (qq _ a)),<-Int.add_emod]
theorem zfx {n:Nat}{aims:List Int}{c:Cor}(h:Qy n aims c){r:Nat}(d:r<5)(t:rk aims (toV c.point) r%(c.over:Int)≠0):zfP n aims c r:=by
 have o:=h.n4;have a:=h.pos;have D:(c.over:Int)≠0:=om;obtain⟨b,g,l⟩:=zkC (fun e=>(Zc aims c.over r e:Int)) c.edges (List.replicate n 0,0) n sp (fun e a=>(h.elen e a).1);have f:(Qf n aims c r).1.length=n:=b;have b:∀i,(List.replicate n (0:Int)).getD i 0=0:=fun k=>by
  rw[zk];cases hh:(List.replicate n (0:Int))[k]? with
  |none=>rfl
  |some v=>
   have:=zx hh;simp at this;simp[this.2]
 have j:∀i,(Qf n aims c r).1.getD i 0=(c.edges.map fun e=>(Zc aims c.over r e:Int)*e.row.1.getD i 0).sum:=fun i=>by
  have:=g i;rw[show(List.replicate n (0:Int),(0:Int)).1=List.replicate n 0 from rfl,b,Int.zero_add]at this;exact this
 have u:(Qf n aims c r).2=(c.edges.map fun e=>(Zc aims c.over r e:Int)*e.row.2).sum:=by
  have:=l;rw[show(List.replicate n (0:Int),(0:Int)).2=0 from rfl,Int.zero_add]at this;exact this
 have m:∀i,(c.over:Int) ∣ (Qf n aims c r).1.getD i 0:=by
  intro i;by_cases q:i<n
  ·have l:=h.all (rkV aims r) (x:=T.unitRow n i) (QS _ _);have b:∀e∈c.edges,T.dotZ e.row.1 (T.unitRow n i)=e.row.1.getD i 0:=by
    intro e a;have:=(h.elen e a).1;rw[QD (by rw[this,QS]) (by rw[QS];exact o),zdp o q,zlS];obtain⟨g,p,s,w⟩:=zbJ (toV e.row.1);rcases lt4 (show i<4 by omega)with rfl|rfl|rfl|rfl
    ·exact g
    ·exact p
    ·exact s
    ·exact w
   refine zcT ?_;rw[j i];have g:(c.edges.map fun e=>(Zc aims c.over r e:Int)*e.row.1.getD i 0).sum%(c.over:Int)=(c.edges.map fun e=>T.dotZ e.row.1 (T.unitRow n i)*(rkV aims r).dot (toV e.loss)).sum%(c.over:Int):=by
    refine zlW fun e a=>?_
    rw[zdx h d a,b e a,Qp,Int.mul_emod,Int.emod_emod,<-Int.mul_emod];rfl
   rw[g,<-l];exact zcy _ _
  ·have:(Qf n aims c r).1.getD i 0=0:=by rw[zk,qL om];rfl
   rw[this];exact Int.dvd_zero _
 have l:(c.edges.map fun e=>(Zc aims c.over r e:Int)*e.row.2).sum%(c.over:Int)=rk aims (toV c.point) r%(c.over:Int):=by
  have p:=h.point_sum (rkV aims r);have:rk aims (toV c.point) r=(c.edges.map fun e=>e.row.2*(rkV aims r).dot (toV e.loss)).sum:=p;rw[this];refine zlW fun e a=>?_
  rw[zdx h d a,Qp,Int.mul_emod,Int.emod_emod,<-Int.mul_emod];rfl
 have s:∀i,(Qu (Qf n aims c r) c.over).1.getD i 0*(c.over:Int)=(Qf n aims c r).1.getD i 0:=by
  intro i;have:(Qu (Qf n aims c r) c.over).1.getD i 0=(Qf n aims c r).1.getD i 0/(c.over:Int):=by
   show((Qf n aims c r).1.map fun z=>z/(c.over:Int)).getD i 0=_
   rw[zk,zR,zk];cases (Qf n aims c r).1[i]?<;>simp
  rw[this];exact Int.ediv_mul_cancel (m i)
 have B:(Qu (Qf n aims c r) c.over).1.length=n:=by simp[Qu,f]
 have C:∃z∈(Qu (Qf n aims c r) c.over).1,z≠0:=by
  refine Ze fun f=>?_
  have w:∀i,(Qf n aims c r).1.getD i 0=0:=by
   intro i;rw[<-s i];rw[zk];cases hh:(Qu (Qf n aims c r) c.over).1[i]? with
   |none=>simp
   |some v=>
    have d:=Ze fun d=>f ⟨v,zx hh,d⟩
    simp[d]
  have F:∀e∈c.edges,(Zc aims c.over r e:Int)=0:=by
   intro f p;obtain⟨m,A,y⟩:=qM p;have d:c.edges[m]? =E f:=by rw[zg A,y]
   have y:=h.elen f p;have b:(c.edges.map fun e=>(Zc aims c.over r e:Int)*T.dotZ e.row.1 f.loss).sum=0:=by
    have g:∀e∈c.edges,(Zc aims c.over r e:Int)*T.dotZ e.row.1 f.loss=(((Zc aims c.over r e:Int)*e.row.1.getD 0 0*f.loss.getD 0 0+(Zc aims c.over r e:Int)*e.row.1.getD 1 0*f.loss.getD 1 0)+(Zc aims c.over r e:Int)*e.row.1.getD 2 0*f.loss.getD 2 0)+(Zc aims c.over r e:Int)*e.row.1.getD 3 0*f.loss.getD 3 0:=by
     intro e a;have:=(h.elen e a).1;rw[QD (by rw[this,y.2]) om];simp only[dot,toV];grind
    rw[zbK g,zdw,zdw,zdw];have g:∀i,(c.edges.map fun e=>(Zc aims c.over r e:Int)*e.row.1.getD i 0*f.loss.getD i 0).sum=0:=by
     intro i;have:(c.edges.map fun e=>(Zc aims c.over r e:Int)*e.row.1.getD i 0*f.loss.getD i 0).sum=f.loss.getD i 0*(c.edges.map fun e=>(Zc aims c.over r e:Int)*e.row.1.getD i 0).sum:=by
      rw[<-zcO];exact zbK fun e _=>Qp _ _
     rw[this,<-j i,w i];simp
    rw[g,g,g,g];rfl
   have p:(c.edges.map fun e=>(Zc aims c.over r e:Int)*T.dotZ e.row.1 f.loss).sum=(Zc aims c.over r f:Int)*(c.over:Int):=by
    rw[sum4 _ _ (by rw[h.len];exact o)];have g:∀i,i<4->((c.edges[i]?.map fun e=>(Zc aims c.over r e:Int)*T.dotZ e.row.1 f.loss).getD 0)=if i=m then(Zc aims c.over r f:Int)*(c.over:Int)else 0:=by
     intro i q;by_cases f:i=m
     ·subst f;rw[d,zQ rfl,qY,qB,h.row_loss d d,zQ rfl]
     ·rw[zO f];cases a:c.edges[i]? with
      |none=>rfl
      |some e=>rw[qY,qB,h.row_loss a d,zO f];simp
    rw[g 0 om,g 1 om,g 2 om,g 3 om];rcases lt4 (h.lt d)with rfl|rfl|rfl|rfl<;>simp
   rw[p]at b;rcases Int.mul_eq_zero.1 b with e|e
   ·exact e
   ·exact absurd e D
  have:(c.edges.map fun e=>(Zc aims c.over r e:Int)*e.row.2).sum=0:=zlU fun e a=>by rw[F e a];simp
  rw[this]at l;exact t (by rw[<-l];simp)
 obtain⟨_,d,e⟩:=C;have a:0<Zm n aims c r:=zqN d e;refine⟨a,?_,fun i=>?_,?_,l,t⟩
 ·show((Qu (Qf n aims c r) c.over).1.map _).length=n
  rw[zm,B]
 ·have b:(Zd n aims c r).1.getD i 0*(Zm n aims c r:Int)=(Qu (Qf n aims c r) c.over).1.getD i 0:=by
   have:(Zd n aims c r).1.getD i 0=(Qu (Qf n aims c r) c.over).1.getD i 0/(Zm n aims c r:Int):=by
    show((Qu (Qf n aims c r) c.over).1.map fun z=>z/(Zm n aims c r:Int)).getD i 0=_
    rw[zk,zR,zk];cases (Qu (Qf n aims c r) c.over).1[i]?<;>simp
   rw[this];refine Int.ediv_mul_cancel ?_;rw[zk];cases hh:(Qu (Qf n aims c r) c.over).1[i]? with
   |none=>exact Int.dvd_zero _
   |some v=>exact zlV _ (zx hh)
  rw[<-j i,<-s i,<-b,J0];grind
 ·show(Qu (Qf n aims c r) c.over).2/(Zm n aims c r:Int)=_
  rw[<-u,J0];exact Int.ediv_ediv_of_nonneg om
end

section
open V4
theorem zf6 {g x:List Int}(h:g.length=x.length)(a:x.length<=4):T.dotZ g x=g.getD 0 0*x.getD 0 0+g.getD 1 0*x.getD 1 0+g.getD 2 0*x.getD 2 0+g.getD 3 0*x.getD 3 0:=QD h a
section

variable {n:Nat} {aims:List Int} {c:Cor} {r:Nat} (h:Qy n aims c) (k:zfP n aims c r)

include h k
theorem zj8 {x:List Int}(a:x.length=n):(((c.over*Zm n aims c r:Nat):Int))*T.dotZ (Zd n aims c r).1 x=(c.edges.map fun e=>(Zc aims c.over r e:Int)*T.dotZ e.row.1 x).sum:=by
 have b:=h.n4;rw[zf6 (by rw[k.len,a]) om];have b:∀e∈c.edges,(Zc aims c.over r e:Int)*T.dotZ e.row.1 x=((x.getD 0 0*((Zc aims c.over r e:Int)*e.row.1.getD 0 0)+x.getD 1 0*((Zc aims c.over r e:Int)*e.row.1.getD 1 0))+x.getD 2 0*((Zc aims c.over r e:Int)*e.row.1.getD 2 0))+x.getD 3 0*((Zc aims c.over r e:Int)*e.row.1.getD 3 0):=by
  intro e d;have:=(h.elen e d).1;rw[zf6 (by rw[this,a]) om];grind
 rw[zbK b,zdw,zdw,zdw,zcO,zcO,zcO,zcO,<-k.row 0,<-k.row 1,<-k.row 2,<-k.row 3];grind
theorem cut_D:0<(((c.over*Zm n aims c r:Nat):Int)):=by
 have:=QE h.pos k.shared;omega
theorem zlX {j:Nat}{f:Edg}(a:c.edges[j]? =E f):(Zm n aims c r:Int)*T.dotZ (Zd n aims c r).1 f.loss=(Zc aims c.over r f:Int):=by
 have b:=h.n4;have d:=h.pos;have g:=zj8 h k (x:=f.loss) (h.mem a).2;have l:(c.edges.map fun e=>(Zc aims c.over r e:Int)*T.dotZ e.row.1 f.loss).sum=(Zc aims c.over r f:Int)*(c.over:Int):=by
  rw[sum4 _ _ (by rw[h.len];exact b)];have b:∀i,i<4->((c.edges[i]?.map fun e=>(Zc aims c.over r e:Int)*T.dotZ e.row.1 f.loss).getD 0)=if i=j then(Zc aims c.over r f:Int)*(c.over:Int)else 0:=by
   intro i d;by_cases d:i=j
   ·subst d;rw[a,zQ rfl,qY,qB,h.row_loss a a,zQ rfl]
   ·rw[zO d];cases he:c.edges[i]? with
    |none=>rfl
    |some e=>rw[qY,qB,h.row_loss he a,zO d];simp
  rw[b 0 om,b 1 om,b 2 om,b 3 om];rcases lt4 (h.lt a)with rfl|rfl|rfl|rfl<;>simp
 rw[l,J0]at g;refine QU (show(c.over:Int)≠0 by omega) ?_;rw[<-Int.mul_assoc,g,Qp]
theorem zqO:(Zm n aims c r:Int)*Z2 c (Zd n aims c r)=(((c.over*Zm n aims c r:Nat):Int))*(Zd n aims c r).2-(c.edges.map fun e=>(Zc aims c.over r e:Int)*e.row.2).sum:=by
 have a:=h.pos;have a:=zj8 h k (x:=c.point) h.plen;have b:(c.edges.map fun e=>(Zc aims c.over r e:Int)*T.dotZ e.row.1 c.point).sum=(c.over:Int)*(c.edges.map fun e=>(Zc aims c.over r e:Int)*e.row.2).sum:=by
  rw[<-zcO];refine zbK fun e d=>?_
  obtain⟨j,g,f⟩:=qM d;rw[h.row_point (i:=j) (by rw[zg g,f])];grind
 rw[b]at a;refine QU (show(c.over:Int)≠0 by omega) ?_;unfold Z2;rw[J0]at a⊢;grind
theorem zjl:(Zm n aims c r:Int)*Z2 c (Zd n aims c r)<=-(rk aims (toV c.point) r%(c.over:Int)):=by
 have a:=h.pos;have a:=cut_D h k;rw[zqO h k,k.most];generalize a:(c.edges.map fun e=>(Zc aims c.over r e:Int)*e.row.2).sum=S;have b:=k.rest;rw[a]at b;have a:=jA S (((c.over*Zm n aims c r:Nat):Int));have a:(S%(((c.over*Zm n aims c r:Nat):Int)))%(c.over:Int)=S%(c.over:Int):=Int.emod_emod_of_dvd _ (by rw[J0];exact Int.dvd_mul_right _ _);have a:(S%(((c.over*Zm n aims c r:Nat):Int)))%(c.over:Int)<=S%(((c.over*Zm n aims c r:Nat):Int)):=by
  have a:=J3 S (show(((c.over*Zm n aims c r:Nat):Int))≠0 by omega);have b:=jA (S%(((c.over*Zm n aims c r:Nat):Int))) (c.over:Int);have b:0<=(S%(((c.over*Zm n aims c r:Nat):Int)))/(c.over:Int):=Int.ediv_nonneg a om;have a:=zbw (show 0<=(c.over:Int)by omega) b;omega
 omega
theorem zhu:Z2 c (Zd n aims c r)<0:=by
 have a:=h.pos;have a:=k.shared;have a:=zjl h k;have a:=J3 (rk aims (toV c.point) r) (show(c.over:Int)≠0 by omega);have a:=k.part;refine Ze fun a=>?_
 have a:=zbw (show 0<=(Zm n aims c r:Int)by omega) (show 0<=Z2 c (Zd n aims c r)by omega);omega
theorem zoJ {x:List Int}(f:x.length=n)(d:∀e∈c.edges,T.dotZ e.row.1 x<=e.row.2):T.dotZ (Zd n aims c r).1 x<=(Zd n aims c r).2:=by
 have b:=cut_D h k;have a:=zj8 h k f;rw[k.most];refine(zbj b).2 ?_;rw[Qp,a];have:0<=(c.edges.map fun e=>(Zc aims c.over r e:Int)*e.row.2+(-1)*((Zc aims c.over r e:Int)*T.dotZ e.row.1 x)).sum:=by
  refine zjk fun e a=>?_
  have b:=ZI (d e a) (show 0<=(Zc aims c.over r e:Int)by omega);omega
 rw[zdw,zcO]at this;omega
theorem ziD:∃e∈c.edges,0<T.dotZ (Zd n aims c r).1 e.loss:=by
 refine Ze fun g=>?_
 have i:∀e∈c.edges,(Zc aims c.over r e:Int)=0:=by
  intro e a;obtain⟨j,d,b⟩:=qM a;have l:=zlX h k (j:=j) (f:=e) (by rw[zg d,b]);have b:=k.shared;have d:T.dotZ (Zd n aims c r).1 e.loss<=0:=by
   refine Ze fun b=>g ⟨e,a,om⟩
  have:=zae (show 0<=(Zm n aims c r:Int)by omega) d;omega
 have b:(c.edges.map fun e=>(Zc aims c.over r e:Int)*e.row.2).sum=0:=zlU fun e a=>by rw[i e a];simp
 have a:=k.rest;rw[b]at a;exact k.part (by rw[<-a];simp)
end
def zhv (aims:List Int)(P:V4)(o:Nat)(r:Nat)(P':V4)(o':Nat):Prop:=
 (∃i,i<r/\(∀k,k<i->(o:Int)*rk aims P' k=(o':Int)*rk aims P k)/\(o:Int)*rk aims P' i<(o':Int)*rk aims P i)\/
 ((∀k,k<r->(o:Int)*rk aims P' k=(o':Int)*rk aims P k)/\rk aims P' r<=(o':Int)*(rk aims P r/(o:Int)))
theorem znJ {n:Nat}{aims:List Int}{c c':Cor}{r num j:Nat}{o:Edg}(h:Qy n aims c)(I:r<5)(k:zfP n aims c r)(x:Exch n aims c (Zd n aims c r) num c' j o):zhv aims (toV c.point) c.over r (toV c'.point) c'.over:=by
 have U:=h.pos;have a:∀i,(c.over:Int)*rk aims (toV c'.point) i=(c'.over:Int)*rk aims (toV c.point) i+Z2 c (Zd n aims c r)*rk aims (toV o.loss) i:=by
  intro i;rw[<-JH,x.point,zhh,JH,JH,x.over]
 have D:=zhu h k;have p:=zx x.at_;obtain⟨i,_,f,F⟩:=h.lex o p;by_cases l:i<r
 ·refine .inl ⟨i,l,fun q e=>?_,?_⟩;·rw[a q,f q e];simp
  ·rw[a i];have:=Int.mul_neg_of_neg_of_pos D F;omega
 ·refine .inr ⟨fun q e=>?_,?_⟩;·rw[a q,f q om];simp
  ·have J:=zdx h I p;have A:=zlX h k x.at_;have Y:=k.shared;have y:=zjl h k;have t:0<=rk aims (toV o.loss) r:=by
    rcases zeM (zdq l)with b|b
    ·rw[f r b];omega
    ·rw[b];omega
   have B:(Zc aims c.over r o:Int)<=rk aims (toV o.loss) r:=by
    rw[J];have P:=jA (rk aims (toV o.loss) r) (c.over:Int);have w:0<=rk aims (toV o.loss) r/(c.over:Int):=Int.ediv_nonneg t om;have Q:=zbw (show 0<=(c.over:Int)by omega) w;omega
   have s:=x.over;have S:=x.gain;generalize R:(Zm n aims c r:Int)=d at *;generalize X:Z2 c (Zd n aims c r)=K at *;generalize W:T.dotZ (Zd n aims c r).1 o.loss=pv at *;have z:0<d:=om;have v:=jA (rk aims (toV c.point) r) (c.over:Int);have C:=J3 (rk aims (toV c.point) r) (show(c.over:Int)≠0 by omega);have g:=a r;generalize hm:rk aims (toV c.point) r%(c.over:Int)=m at *;generalize e:rk aims (toV c.point) r/(c.over:Int)=q at *;generalize hy:rk aims (toV c'.point) r=N at *;generalize Z:rk aims (toV o.loss) r=u at *;rw[<-v,s]at g;rw[s];have s1:=Int.mul_le_mul_of_nonneg_right y t;have s2:m*(d*pv)<=m*u:=by rw[A];exact ZI B C
   have L:d*(c.over*N)<=d*(c.over*(pv*q)):=by
    rw[g];grind
   have M:=zar L z;exact zar M om
end

section
open V4
variable {a:List (List Int×Int)}{aims:List Int}{n:Nat}
structure Zy where
 over:Nat
 parts:List (Nat×Int)
abbrev qO:=(List Int×Int)×Nat
def Qv (c:Cor)(rows:List qO):Option qO:=rows.find? fun r=>decide (Z2 c r.1<0)
inductive SetR where
 |ok (c:Cor)
 |none (c:Cor) (r:qO)
 |limit
def ZV (aims:List Int)(rows:List qO):Nat->Cor->SetR
 |0,c=>match Qv c rows with
  |none=> .ok c
  |some r=>match Qe aims c r.1 r.2 with
   |none=> .none c r
   |some _=> .limit
 |f+1,c=>match Qv c rows with
  |none=> .ok c
  |some r=>match Qe aims c r.1 r.2 with
   |none=> .none c r
   |some c'=>ZV aims rows f c'
def qU (n:Nat)(aims:List Int)(c:Cor):List Nat:=(List.range (n+1)).filter fun r=>decide ((qT aims c.point).getD r 0%(c.over:Int)≠0)
def Z1 (n:Nat)(aims:List Int)(c:Cor)(num r:Nat):Cor:=(Qe aims c (Zd n aims c r) num).getD ⟨0,[],[]⟩
def zeN (aims:List Int)(c d:Cor):Bool:=decide (0<Qx (qT aims (List.zipWith (fun a b=>a*(d.over:Int)-b*(c.over:Int)) c.point d.point)))
def jF (n:Nat)(aims:List Int)(c:Cor)(num:Nat):List Nat->Option Nat->Option Nat
 |[],b=>b
 |r::rs,O=>jF n aims c num rs (E r)
 |r::rs,E b=>jF n aims c num rs (E (if zeN aims (Z1 n aims c num b) (Z1 n aims c num r)=true then r else b))
def QX (n:Nat)(aims:List Int)(c:Cor)(r:Nat):Zy:=
 ⟨c.over*Zm n aims c r,(c.edges.map fun e=>(e.num,(Zc aims c.over r e:Int))).filter fun p=>decide (p.2≠0)⟩
def restsOn (c:Cor)(num:Nat):Bool:=c.edges.any fun e=>decide (e.num=num)
def jw (c:Cor)(given:Nat)(rows:List qO):List qO:=rows.filter fun r=>!(decide (given<r.2) && !restsOn c r.2)
inductive SOut where
 |greatest (c:Cor) (ls:List Zy)
 |none (c:Cor) (r:qO) (ls:List Zy)
 |limit (k:Nat)
def goS (n:Nat)(aims:List Int)(given pivots:Nat):Nat->List qO->Cor->List Zy->SOut
 |0,rows,c,ls=>match ZV aims rows pivots c with
  |.limit=> .limit ls.length
  |.none c r=> .none c r ls
  |.ok c'=>match jF n aims c' (given+ls.length+1) (qU n aims c') Option.none with
   |Option.none=> .greatest c' ls
   |some _=> .limit ls.length
 |k+1,rows,c,ls=>match ZV aims rows pivots c with
  |.limit=> .limit ls.length
  |.none c r=> .none c r ls
  |.ok c'=>match jF n aims c' (given+ls.length+1) (qU n aims c') Option.none with
   |Option.none=> .greatest c' ls
   |some r=>goS n aims given pivots k (jw c' given rows ++ [(Zd n aims c' r,given+ls.length+1)]) c' (ls ++ [QX n aims c' r])
def zez (led:List (List Int×Int))(r:qO):Prop:=1<=r.2/\led[r.2-1]? =E r.1
theorem zez.same{r s:qO}(h:zez a r)(k:zez a s)(e:r.2=s.2):r.1=s.1:=by
 have:=h.2;rw[e,k.2]at this;exact(Q8 this).symm
theorem zez.more{r:qO}(h:zez a r)(x:List (List Int×Int)):zez (a++x) r:=⟨h.1,by rw[zS (jQ h.2)];exact h.2⟩
def zeO (n:Nat)(led:List (List Int×Int))(rows:List qO):Prop:=∀r∈rows,zez led r/\r.1.1.length=n
structure J4 (n:Nat)(aims:List Int)(rows:List qO)(c:Cor):Prop where
 cor:Qy n aims c
 edge:∀e∈c.edges,(e.row,e.num)∈rows
def Cor.ge (aims:List Int)(c d:Cor):Prop:=zaC (fun i=>(d.over:Int)*rk aims (toV c.point) i-(c.over:Int)*rk aims (toV d.point) i)
def Cor.gt (aims:List Int)(c d:Cor):Prop:=JK (fun i=>(d.over:Int)*rk aims (toV c.point) i-(c.over:Int)*rk aims (toV d.point) i)
theorem Cor.ge_refl(aims:List Int)(c:Cor):c.ge aims c:= .inl fun _ _=>Int.sub_self _
abbrev Xv:=@Cor.ge_refl
theorem Cor.gt.ge{c d:Cor}(h:c.gt aims d):c.ge aims d:= .inr h
theorem Cor.ge_trans{c d e:Cor}(a:0<d.over)(h1:c.ge aims d)(h2:d.ge aims e):c.ge aims e:=by
 refine zaC.comb h1 h2 (p:=(d.over:Int)) (q:=(e.over:Int)) (r:=(c.over:Int)) om om om (fun i _=>?_);grind
abbrev Xw:=@Cor.ge_trans
theorem Cor.gt_trans{c d e:Cor}(a:0<d.over)(b:0<e.over)(h1:c.gt aims d)(h2:d.ge aims e):c.gt aims e:=by
 refine JK.comb h1 h2 (p:=(d.over:Int)) (q:=(e.over:Int)) (r:=(c.over:Int)) om om om (fun i _=>?_);grind
theorem znK{c:Cor}{rows:List qO}(f:zeO n a rows)(h:J4 n aims rows c){r:qO}(j:zez a r)(b:Z2 c r.1<0):∀e∈c.edges,e.num≠r.2:=by
 intro e a g;have d:=(f _ (h.edge e a)).1;have f:e.row=r.1:=d.same j g;obtain⟨j,g,d⟩:=qM a;have a:=h.cor.row_point (i:=j) (e:=e) (by rw[zg g,d]);unfold Z2 at b;rw[<-f,a,Qp]at b;omega
theorem zrQ{c c':Cor}{r:List Int×Int}{num j:Nat}{o:Edg}(h:Qy n aims c)(x:Exch n aims c r num c' j o)(a:Z2 c r<0):c.gt aims c':=by
 refine JK.comb (h.lex o (zx x.at_)) (g:=fun _=>0) (.inl fun _ _=>rfl) (p:=1) (q:=- Z2 c r) (r:=0) om om om (fun i _=>?_);have:(c.over:Int)*rk aims (toV c'.point) i=(c'.over:Int)*rk aims (toV c.point) i+Z2 c r*rk aims (toV o.loss) i:=by
  rw[<-JH,x.point,zhh,JH,JH,x.over]
 grind
theorem zm5{c c':Cor}{rows:List qO}{r:qO}{j:Nat}{o:Edg}(h:J4 n aims rows c)(x:Exch n aims c r.1 r.2 c' j o)(f:r∈rows):J4 n aims rows c':=by
 refine⟨x.cor,fun e a=>?_⟩;obtain⟨i,d,b⟩:=qM a;have a:c'.edges[i]? =E e:=by rw[zg d,b]
 by_cases b:i=j
 ·subst b;rw[x.new]at a;cases a;exact f
 ·have e:i<c.edges.length:=by rw[h.cor.len,<-x.cor.len];exact d
  have d:=zg e;rw[x.old i _ b d]at a;cases a;exact h.edge c.edges[i] (zJ e)
theorem zdy{c:Cor}{rows:List qO}{f:List (List Int×Int)}(b:zeO n f rows)(h:J4 n aims rows c){r:qO}(a:r∈rows)(d:Z2 c r.1<0):
 (Qe aims c r.1 r.2=O->∀e∈c.edges,T.dotZ r.1.1 e.loss<=0)/\∀c',Qe aims c r.1 r.2=E c'->J4 n aims rows c'/\c.gt aims c':=by
 obtain⟨f,g⟩:=zht h.cor (r:=r.1) (b r a).2 (num:=r.2) (znK b h (b r a).1 d);refine⟨f,fun c' b=>?_⟩;obtain⟨_,_,x⟩:=g c' b;exact⟨zm5 h x a,zrQ h.cor x d⟩
theorem zch{c:Cor}{rows:List qO}{r:qO}(h:Qv c rows=E r):r∈rows/\Z2 c r.1<0:=⟨List.mem_of_find?_eq_some h,by have:=List.find?_some h;simpa using this⟩
theorem zii{c:Cor}{rows:List qO}(h:Qv c rows=O):∀r∈rows,0<=Z2 c r.1:=fun r a=>by
 have:=zeP.1 h r a;simp at this;exact this
theorem zbL{rows:List qO}{i:List (List Int×Int)}(g:zeO n i rows):∀(f:Nat) (c:Cor),J4 n aims rows c->
 (∀c',ZV aims rows f c= .ok c'->J4 n aims rows c'/\c.ge aims c'/\∀r∈rows,0<=Z2 c' r.1)/\
 (∀c' r,ZV aims rows f c= .none c' r->J4 n aims rows c'/\c.ge aims c'/\r∈rows/\Z2 c' r.1<0/\∀e∈c'.edges,T.dotZ r.1.1 e.loss<=0)
 |0,c,h=>by
  rw[ZV];cases hb:Qv c rows with
  |none=>exact⟨fun c' a=>by cases a;exact⟨h,Xv _ _,zii hb⟩,fun c' r a=>by cases a⟩
  |some r=>
   obtain⟨b,d⟩:=zch hb;cases hx:Qe aims c r.1 r.2 with
   |none=>exact⟨fun c' a=>by simp[hx]at a,fun c' i a=>by simp only[hx]at a;cases a;exact⟨h,Xv _ _,b,d,(zdy g h b d).1 hx⟩⟩
   |some j=>exact⟨fun c' a=>by simp[hx]at a,fun c' i a=>by simp[hx]at a⟩
 |f+1,c,h=>by
  rw[ZV];cases hb:Qv c rows with
  |none=>exact⟨fun c' a=>by cases a;exact⟨h,Xv _ _,zii hb⟩,fun c' r a=>by cases a⟩
  |some r=>
   obtain⟨b,d⟩:=zch hb;cases hx:Qe aims c r.1 r.2 with
   |none=>exact⟨fun c' a=>by simp[hx]at a,fun c' i a=>by simp only[hx]at a;cases a;exact⟨h,Xv _ _,b,d,(zdy g h b d).1 hx⟩⟩
   |some j=>
    obtain⟨l,m⟩:=(zdy g h b d).2 j hx;obtain⟨o,p⟩:=zbL g f j l;simp only[hx];refine⟨fun c' a=>?_,fun c' i a=>?_⟩
    ·obtain⟨b,d,g⟩:=o c' a;exact⟨b,Xw l.cor.pos m.ge d,g⟩
    ·obtain⟨b,d,g⟩:=p c' i a;exact⟨b,Xw l.cor.pos m.ge d,g⟩
end

section
open V4
variable {a base:List (List Int×Int)}{aims:List Int}{b:List Zy}{c:Cor}{n r:Nat}
def zdZ (n:Nat)(base:List (List Int×Int))(x:List Int):Prop:=x.length=n/\∀r∈base,T.dotZ r.1 x<=r.2
structure LineOK (n:Nat)(led:List (List Int×Int))(l:Zy)(row:List Int×Int):Prop where
 pos:0<l.over
 parts:∀p∈l.parts,0<p.2/\∃r,zez led (r,p.1)
 len:row.1.length=n
 coef:∀i,(l.over:Int)*row.1.getD i 0=(l.parts.map fun p=>p.2*(led.getD (p.1-1) ([],0)).1.getD i 0).sum
 most:row.2=(l.parts.map fun p=>p.2*(led.getD (p.1-1) ([],0)).2).sum/(l.over:Int)
structure zcl (n:Nat)(aims:List Int)(base:List (List Int×Int))(rows:List qO)(c:Cor)(ls:List Zy)(led:List (List Int×Int)):Prop where
 len:led.length=base.length+ls.length
 first:led.take base.length=base
 width:∀r∈led,r.1.length=n
 rowsOK:zeO n led rows
 given:∀i r,base[i]? =E r->(r,i+1)∈rows
 cor:J4 n aims rows c
 valid:∀x,zdZ n base x->∀r∈led,T.dotZ r.1 x<=r.2
 lines:∀i l,ls[i]? =E l->∃row,led[base.length+i]? =E row/\LineOK n (led.take (base.length+i)) l row
theorem zoK{r:qO}(h:zez a r):a.getD (r.2-1) ([],0)=r.1:=by
 rw[zk,h.2];rfl
theorem zgI(f:Nat×Int->Int)(a:∀p,p.2=0->f p=0):∀l:List (Nat×Int),((l.filter fun p=>decide (p.2≠0)).map f).sum=(l.map f).sum
 |[]=>rfl
 |p::l=>by
  rw[Qz];by_cases h:p.2=0
  ·simp only[h,ne_eq,not_true_eq_false,decide_false,za3,zaK];rw[zgI f a l,Zk,QI,a p h,Int.zero_add]
  ·simp only[h,ne_eq,not_false_eq_true,decide_true,zbu];rw[Zk,QI,zgI f a l,Zk,QI]
theorem zqP{rows:List qO}(d:zeO n a rows)(h:J4 n aims rows c)(b:r<5)(k:zfP n aims c r):LineOK n a (QX n aims c r) (Zd n aims c r):=by
 have i:∀e∈c.edges,a.getD (e.num-1) ([],0)=e.row:=fun e b=>zoK (d _ (h.edge e b)).1
 have f:∀(g:List Int×Int->Int),((QX n aims c r).parts.map fun p=>p.2*g (a.getD (p.1-1) ([],0))).sum=(c.edges.map fun e=>(Zc aims c.over r e:Int)*g e.row).sum:=by
  intro g;unfold QX;simp only;rw[zgI _ (fun p a=>by rw[a];simp),zcA];refine zbK fun e b=>?_
  simp only[Function.comp];rw[i e b]
 refine⟨QE h.cor.pos k.shared,fun p a=>?_,k.len,fun i=>?_,?_⟩
 ·unfold QX at a;simp only at a;rw[ZF]at a;obtain⟨g,j⟩:=a;obtain⟨e,b,rfl⟩:=qP.1 g;simp only[ne_eq,Z9]at j;simp only;exact⟨om,e.row,(d _ (h.edge e b)).1⟩
 ·rw[f (fun r=>r.1.getD i 0)];exact k.row i
 ·rw[f (fun r=>r.2)];exact k.most
theorem zkD{a:Nat}{rows:List qO}{r:qO}(h:r∈jw c a rows):r∈rows:=(ZF.1 h).1
theorem znL{a:Nat}{rows:List qO}{e:Edg}(b:e∈c.edges)(h:(e.row,e.num)∈rows):(e.row,e.num)∈jw c a rows:=by
 refine ZF.2 ⟨h,?_⟩;have:restsOn c e.num=true:=QR.2 ⟨e,b,sp⟩;simp[this]
theorem zmG{a:Nat}{rows:List qO}{r:qO}(h:r∈rows)(hg:r.2<=a):r∈jw c a rows:=by
 refine ZF.2 ⟨h,?_⟩;simp;omega
theorem zcl.cut{rows:List qO}{b:Cor}{g:List Zy}(h:zcl n aims base rows b g a)(e:J4 n aims rows c)(o:r<5)(k:zfP n aims c r):
 zcl n aims base (jw c base.length rows ++ [(Zd n aims c r,base.length+g.length+1)]) c (g ++ [QX n aims c r]) (a ++ [Zd n aims c r]):=by
 have m:=h.len;refine⟨by simp[m];omega,?_,?_,?_,?_,⟨e.cor,fun j l=>QN _ (znL l (e.edge j l))⟩,?_,?_⟩
 ·rw[Qq om];exact h.first
 ·intro x a;rcases zU.1 a with a|a
  ·exact h.width x a
  ·rw[qg.1 a];exact k.len
 ·intro x a;rcases zU.1 a with a|a
  ·obtain⟨d,b⟩:=h.rowsOK x (zkD a);exact⟨d.more _,b⟩
  ·rw[qg.1 a];refine⟨⟨sp,?_⟩,k.len⟩;rw[zG so];simp[m]
 ·intro i x b;refine QN _ (zmG (h.given i x b) ?_);have:=jQ b;simp only;omega
 ·intro x a y f;rcases zU.1 f with f|f
  ·exact h.valid x a y f
  ·rw[qg.1 f];refine zoJ e.cor k a.1 (fun j l=>?_);have d:=(h.rowsOK _ (e.edge j l)).1;exact h.valid x a j.row (zx d.2)
 ·intro i l b;by_cases a:i<g.length
  ·rw[zS a]at b;obtain⟨row,a,f⟩:=h.lines i l b;refine⟨row,by rw[zS om];exact a,?_⟩;rw[Qq om];exact f
  ·have d:=jQ b;simp at d;have a:i=g.length:=om;subst a;rw[zG (zh _)]at b;simp at b;subst b;refine⟨Zd n aims c r,by rw[<-m,zG (zh _)];simp,?_⟩;rw[<-m,Qq (zh _),Zx];exact zqP h.rowsOK e o k
theorem zcl.to{rows:List qO}{c':Cor}(h:zcl n aims base rows c b a)(d:J4 n aims rows c'):zcl n aims base rows c' b a:=
 ⟨h.len,h.first,h.width,h.rowsOK,h.given,d,h.valid,h.lines⟩
theorem zdr{num:Nat}:∀(rs:List Nat) (b:Option Nat) (r:Nat),jF n aims c num rs b=E r->r∈rs\/b=E r
 |[],b,r,h=> .inr h
 |x::rs,O,r,h=>by
  rcases zdr rs (E x) r h with h|h
  ·exact .inl (qq _ h)
  ·cases h;exact .inl qA
 |x::rs,E b,r,h=>by
  rcases zdr rs _ r h with h|h
  ·exact .inl (qq _ h)
  ·split at h
   ·cases h;exact .inl qA
   ·exact .inr h
theorem zfQ{num:Nat}:∀(rs:List Nat) (b:Option Nat),jF n aims c num rs b=O->rs= []/\b=O
 |[],b,h=>⟨rfl,h⟩
 |x::rs,O,h=>by have:=(zfQ rs (E x) h).2;cases this
 |x::rs,E b,h=>by have:=(zfQ rs _ h).2;cases this
theorem za4(h:Qy n aims c):r∈qU n aims c↔r<n+1/\rk aims (toV c.point) r%(c.over:Int)≠0:=by
 unfold qU;rw[ZF,Z8];have d:=h.n4;constructor
 ·rintro⟨b,a⟩;rw[zbi (by rw[h.aim,h.plen]) (by rw[h.plen];exact d) r om]at a;exact⟨b,by simpa using a⟩
 ·rintro⟨b,a⟩;rw[zbi (by rw[h.aim,h.plen]) (by rw[h.plen];exact d) r om];exact⟨b,by simpa using a⟩
def OutOK (n:Nat)(aims:List Int)(base:List (List Int×Int)):SOut->Prop
 |.greatest c ls=>∃rows led,zcl n aims base rows c ls led/\(∀r∈rows,0<=Z2 c r.1)/\qU n aims c= []
 |.none c r ls=>∃rows led,zcl n aims base rows c ls led/\r∈rows/\Z2 c r.1<0/\∀e∈c.edges,T.dotZ r.1.1 e.loss<=0
 |.limit _=>True
theorem go_ok{pivots:Nat}:∀(k:Nat) (rows:List qO) (c:Cor) (ls:List Zy) (led:List (List Int×Int)),zcl n aims base rows c ls led->OutOK n aims base (goS n aims base.length pivots k rows c ls)
 |0,rows,c,ls,led,h=>by
  rw[goS];obtain⟨s1,s2⟩:=zbL h.rowsOK pivots c h.cor;cases hs:ZV aims rows pivots c with
  |limit=>trivial
  |none c' r=>
   obtain⟨a1,a2,a3,a4,a5⟩:=s2 c' r hs;exact⟨rows,led,h.to a1,a3,a4,a5⟩
  |ok c'=>
   obtain⟨a1,a2,a3⟩:=s1 c' hs;simp only;cases hd:jF n aims c' (base.length+ls.length+1) (qU n aims c') Option.none with
   |none=>exact⟨rows,led,h.to a1,a3,(zfQ _ _ hd).1⟩
   |some r=>trivial
 |k+1,rows,c,ls,led,h=>by
  rw[goS];obtain⟨s1,s2⟩:=zbL h.rowsOK pivots c h.cor;cases hs:ZV aims rows pivots c with
  |limit=>trivial
  |none c' r=>
   obtain⟨a1,a2,a3,a4,a5⟩:=s2 c' r hs;exact⟨rows,led,h.to a1,a3,a4,a5⟩
  |ok c'=>
   obtain⟨a1,a2,a3⟩:=s1 c' hs;simp only;cases hd:jF n aims c' (base.length+ls.length+1) (qU n aims c') Option.none with
   |none=>exact⟨rows,led,h.to a1,a3,(zfQ _ _ hd).1⟩
   |some r=>
    have n4:=a1.cor.n4;have hm:r∈qU n aims c':=by
     rcases zdr _ _ _ hd with hm|hm
     ·exact hm
     ·cases hm
    obtain⟨m1,m2⟩:=(za4 a1.cor).1 hm;exact go_ok k _ _ _ _ (h.cut a1 (by omega) (zfx a1.cor (by omega) m2))
theorem zcl.ahead{rows:List qO}{d:List Zy}{b:List (List Int×Int)}(h:zcl n aims base rows c d b){x:List Int}(a:zdZ n base x):zaC (fun i=>rk aims (toV c.point) i-(c.over:Int)*rk aims (toV x) i):=by
 have g:=h.cor.cor;have j:∀i,rk aims (toV c.point) i-(c.over:Int)*rk aims (toV x) i=(c.edges.map fun e=>(e.row.2-T.dotZ e.row.1 x)*rk aims (toV e.loss) i).sum:=by
  intro i;have:=g.complete a.1 (rkV aims i);show(rkV aims i).dot (toV c.point)-(c.over:Int)*(rkV aims i).dot (toV x)=(c.edges.map fun e=>(e.row.2-T.dotZ e.row.1 x)*(rkV aims i).dot (toV e.loss)).sum
  omega
 have d:∀e∈c.edges,0<=e.row.2-T.dotZ e.row.1 x:=fun e b=>by
  have f:=(h.rowsOK _ (h.cor.edge e b)).1;have:=h.valid x a e.row (zx f.2);omega
 have b:=g.lex;refine zaC.congr ?_ (fun i _=>(j i).symm);clear j g;revert d b
 generalize c.edges=g;intro d b;induction g with
 |nil=>exact .inl fun i _=>rfl
 |cons e g g=>
  have f:=g (fun x a=>d x (qq _ a)) (fun x a=>b x (qq _ a));refine zaC.comb (b e qA).n f (p:=1) (q:=e.row.2-T.dotZ e.row.1 x) (r:=1) om (d e qA) om (fun i _=>?_);simp only[Zk,QI];grind
def JZ (c:Cor):List Int:=c.point.map fun z=>z/(c.over:Int)
theorem zmH(h:Qy n aims c)(hs:qU n aims c= []):(JZ c).length=n/\(toV (JZ c)).smul (c.over:Int)=toV c.point:=by
 have e:=h.n4;refine⟨by simp[JZ,h.plen],?_⟩;have d:∀i,(c.over:Int) ∣ c.point.getD i 0:=by
  intro i;by_cases a:i<n
  ·have a:rk aims (toV c.point) (i+1)%(c.over:Int)=0:=by
    refine Ze fun b=>?_
    have:=(za4 h (r:=i+1)).2 ⟨om,b⟩;rw[hs]at this;simp at this
   rw[<-zbi (by rw[h.aim,h.plen]) (by rw[h.plen];exact e) (i+1) om]at a;have e:(qT aims c.point).getD (i+1) 0=(List.zipWith (fun b r=>if b<=0 then -r else r) aims c.point).getD i 0:=rfl;rw[e,JE sp (by rw[h.aim,h.plen])]at a;split at a
   ·exact Int.dvd_neg.1 (zcT a)
   ·exact zcT a
  ·have:c.point.getD i 0=0:=by rw[zk,qL (by rw[h.plen];omega)];rfl
   rw[this];exact Int.dvd_zero _
 have a:∀i,(c.over:Int)*(JZ c).getD i 0=c.point.getD i 0:=by
  intro i;have:(JZ c).getD i 0=c.point.getD i 0/(c.over:Int):=by
   unfold JZ;rw[zk,zR,zk];cases c.point[i]?<;>simp
  rw[this];exact Int.mul_ediv_cancel' (d i)
 exact ext' (a 0) (a 1) (a 2) (a 3)
theorem zj9{rows:List qO}(h:zcl n aims base rows c b a)(l:∀r∈rows,0<=Z2 c r.1)(hs:qU n aims c= []):
 zdZ n base (JZ c)/\∀x,zdZ n base x->zaC (fun i=>rk aims (toV (JZ c)) i-rk aims (toV x) i):=by
 have a:=h.cor.cor;have b:=a.pos;have f:=a.n4;obtain⟨e,j⟩:=zmH a hs;refine⟨⟨e,fun r m=>?_⟩,fun x o=>?_⟩
 ·obtain⟨i,d,b⟩:=qM m;have hm:=h.given i r (by rw[zg d,b]);have b:=l _ hm;have d:=(h.rowsOK _ hm).2;simp only at b d;unfold Z2 at b;rw[QD (by rw[d,a.plen]) (by rw[a.plen];exact f),<-j,dot_smul,Qp,<-Int.mul_sub]at b;rw[QD (by rw[d,e]) (by rw[e];exact f)];have a:0<=r.2-(toV r.1).dot (toV (JZ c)):=by
   refine Ze fun a=>?_
   have:=Int.mul_neg_of_pos_of_neg (show 0<(c.over:Int)by omega) (show r.2-(toV r.1).dot (toV (JZ c))<0 by omega);omega
  omega
 ·refine(h.ahead o).comb (g:=fun _=>0) (p:=(c.over:Int)) (q:=1) (r:=0) (.inl fun _ _=>rfl) om om om (fun i _=>?_);rw[<-j,JH];grind
theorem znM{rows:List qO}{c:Cor}(h:zcl n aims base rows c b a){r:qO}(d:r∈rows)(j:Z2 c r.1<0)(hg:∀e∈c.edges,T.dotZ r.1.1 e.loss<=0):∀x,¬zdZ n base x:=by
 intro x b;have a:=h.cor.cor;have f:=a.pos;have g:=a.n4;have f:=(h.rowsOK _ d).2;have l:=h.valid x b r.1 (zx (h.rowsOK _ d).1.2);have d:=a.complete b.1 (toV r.1.1);rw[<-QD (by rw[f,b.1]) (by rw[b.1];exact g),<-QD (by rw[f,a.plen]) (by rw[a.plen];exact g)]at d;have d:(c.edges.map fun e=>(e.row.2-T.dotZ e.row.1 x)*(toV r.1.1).dot (toV e.loss)).sum<=0:=by
  have:0<=(c.edges.map fun e=>(-1)*((e.row.2-T.dotZ e.row.1 x)*(toV r.1.1).dot (toV e.loss))).sum:=by
   refine zjk fun e d=>?_
   have i:=(h.rowsOK _ (h.cor.edge e d)).1;have m:=h.valid x b e.row (zx i.2);have b:=hg e d;have i:=(a.elen e d).2;rw[QD (by rw[f,i]) (by rw[i];exact g)]at b;have:=zae (show 0<=e.row.2-T.dotZ e.row.1 x by omega) b;omega
  rw[zcO]at this;omega
 unfold Z2 at j;have:=ZI l (show 0<=(c.over:Int)by omega);rw[Qp]at j;omega
end

section
open V4
variable {a:List (List Int×Int)}{aims:List Int}{c:Cor}{n:Nat}{r:List Int×Int}
theorem zfy{e:Type}[DecidableEq e]:∀(l L:List e),l.Nodup->(∀x∈l,x∈L)->l.length<=L.length
 |[],_,_,_=>sp
 |a::l,L,d,hs=>by
  have b:=hs a qA;have g:=zfy l (L.erase a) (List.nodup_cons.1 d).2 (fun x e=>by
   have i:x≠a:=fun f=>(List.nodup_cons.1 d).1 (by rw[<-f];exact e)
   exact(List.mem_erase_of_ne i).2 (hs x (qq _ e)))
  rw[List.length_erase_of_mem b]at g;have:0<L.length:=List.length_pos_of_mem b;simp only[qi];omega
def zdf:List Nat->Nat->List (List Nat)
 |[],_=> [[]]
 |_::_,0=> [[]]
 |a::l,k+1=>zdf l (k+1)++(zdf l k).map (fun s=>a::s)
def zcm:Nat->Nat->Nat
 |0,_=>1
 |_+1,0=>1
 |m+1,k+1=>zcm m (k+1)+zcm m k
theorem ziE:∀(l:List Nat) (k:Nat),(zdf l k).length=zcm l.length k
 |[],k=>by simp[zdf,zcm]
 |a::l,0=>by simp[zdf,zcm]
 |a::l,k+1=>by simp[zdf,zcm,ziE l (k+1),ziE l k]
theorem ziF:∀(l:List Nat) (k:Nat) (s:List Nat),s.Sublist l->s.length<=k->s∈zdf l k
 |[],k,s,h,_=>by
  have:s= []:=List.sublist_nil.1 h;simp[zdf,this]
 |a::l,0,s,h,hk=>by
  have:s= []:=Qk.1 om;simp[zdf,this]
 |a::l,k+1,s,h,hk=>by
  rw[zdf,zU];cases h with
  |cons _ h=>exact .inl (ziF l (k+1) s h hk)
  |cons_cons _ h=>
   rename_i s'
   exact .inr (qP.2 ⟨s',ziF l k s' h (by simp at hk;omega),rfl⟩)
theorem zqQ:∀(m k:Nat),zcm m k<=zcm (m+1) k
 |0,0=>by simp[zcm]
 |0,k+1=>by simp[zcm]
 |m+1,0=>by simp[zcm]
 |m+1,k+1=>by
  rw[zcm,zcm];exact Nat.le_add_right _ _
theorem cnt_le{m M k:Nat}(h:m<=M):zcm m k<=zcm M k:=by
 induction h with
 |refl=>exact zh _
 |step _ a=>exact zF a (zqQ _ _)
def Par (r h:List Int×Int):Prop:=r=h\/r=(h.1.map (fun z=>-z),-h.2)
instance (r h:List Int×Int):Decidable (Par r h):=by unfold Par;exact inferInstance
def idxS (H:List (List Int×Int))(r:List Int×Int):Nat:=H.findIdx fun h=>decide (Par r h)
def zh3 (H:List (List Int×Int))(c:Cor):List Nat:=(List.range H.length).filter fun i=>c.edges.any fun e=>decide (idxS H e.row=i)
theorem zlY{a:List (List Int×Int)}(h:∃x∈a,Par r x):∃x,a[idxS a r]? =E x/\Par r x:=by
 obtain⟨x,e,d⟩:=h;have b:idxS a r<a.length:=List.findIdx_lt_length_of_exists ⟨x,e,by simpa using d⟩;refine⟨a[idxS a r],zg b,?_⟩;have:=List.findIdx_getElem (w:=b) (p:=fun h=>decide (Par r h)) (xs:=a);exact jU this
theorem zqR{h:List Int×Int}{P:List Int}{o:Int}(d:Par r h)(a:r.1.length=P.length)(b:P.length<=4)(e:T.dotZ r.1 P=o*r.2):T.dotZ h.1 P=o*h.2:=by
 rcases d with rfl|rfl
 ·exact e
 ·simp only[zm]at a;simp only at e;rw[QD (by simpa using a) b,zgl,smul_dot,<-QD a b]at e;have:o * -h.2=-(o*h.2):=zbc _ _;omega
theorem zqS{h:List Int×Int}{P:List Int}{o:Int}(d:Par r h)(a:r.1.length=P.length)(b:P.length<=4)(e:T.dotZ h.1 P=o*h.2):T.dotZ r.1 P=o*r.2:=by
 rcases d with rfl|rfl
 ·exact e
 ·simp only[zm]at a;simp only;rw[QD (by simpa using a) b,zgl,smul_dot,<-QD a b,e];have:o * -h.2=-(o*h.2):=zbc _ _;omega
theorem znN{rows:List qO}{a:List (List Int×Int)}(q:∀r∈rows,∃h∈a,Par r.1 h){d:Cor}(b:J4 n aims rows c)(g:J4 n aims rows d)(e:zh3 a c=zh3 a d):¬c.gt aims d:=by
 have f:=b.cor.n4;have t:∀f∈c.edges,T.dotZ f.row.1 d.point=(d.over:Int)*f.row.2:=by
  intro f j;obtain⟨_,p,o⟩:=zlY (q _ (b.edge f j));have hm:idxS a f.row∈zh3 a c:=ZF.2 ⟨Z8.2 (jQ p),QR.2 ⟨f,j,sp⟩⟩;rw[e]at hm;obtain⟨i,l,m⟩:=QR.1 (ZF.1 hm).2;have m:idxS a i.row=idxS a f.row:=by simpa using m
  obtain⟨_,a,s⟩:=zlY (q _ (g.edge i l));simp only at p a;rw[m,p]at a;cases a;obtain⟨q,p,m⟩:=qM l;have a:=g.cor.row_point (i:=q) (e:=i) (by rw[zg p,m]);have m:=(g.cor.elen i l).1;have l:=(b.cor.elen f j).1;have i:=g.cor.plen;exact zqS o (l.trans i.symm) om (zqR s (m.trans i.symm) om a)
 have l:∀i,(c.over:Int)*rk aims (toV d.point) i=(d.over:Int)*rk aims (toV c.point) i:=by
  intro i;have a:=b.cor.all (rkV aims i) (x:=d.point) g.cor.plen;have g:=b.cor.point_sum (rkV aims i);have b:(c.edges.map fun e=>T.dotZ e.row.1 d.point*(rkV aims i).dot (toV e.loss)).sum=(d.over:Int)*(c.edges.map fun e=>e.row.2*(rkV aims i).dot (toV e.loss)).sum:=by
   rw[<-zcO];refine zbK fun f j=>?_
   rw[t f j,Int.mul_assoc]
  rw[b,<-g]at a;exact a
 rintro⟨k,_,_,o⟩;have:=l k;have a:0<(d.over:Int)*rk aims (toV c.point) k-(c.over:Int)*rk aims (toV d.point) k:=o;omega
theorem zqT{rows:List qO}(a:List (List Int×Int))(b:J4 n aims rows c):zh3 a c∈zdf (List.range a.length) 4:=by
 refine ziF _ _ _ zaM ?_;have d:(zh3 a c).length<=(c.edges.map fun e=>idxS a e.row).length:=zfy _ _ (zbD zaM List.nodup_range) (fun x f=>by
  obtain⟨g,a,e⟩:=QR.1 (ZF.1 f).2;exact qP.2 ⟨g,a,by simpa using e⟩)
 have a:=b.cor.len;have a:=b.cor.n4;simp at d;omega
theorem zqU{rows:List qO}{a:List (List Int×Int)}(f:∀r∈rows,∃h∈a,Par r.1 h)(o:a.length<=19)(l:List Cor)(b:∀c∈l,J4 n aims rows c)(j:l.Pairwise (Cor.gt aims)):l.length<=5036:=by
 have p:(l.map (zh3 a)).Nodup:=by
  refine List.pairwise_map.2 ?_;refine List.Pairwise.imp_of_mem (fun {d e} g i m=>?_) j;exact fun j=>znN f (b d g) (b e i) j m
 have d:=zfy _ (zdf (List.range a.length) 4) p (fun x f=>by
  obtain⟨c,e,rfl⟩:=qP.1 f;exact zqT a (b c e))
 rw[ziE,zah,zm]at d;have b:zcm a.length 4<=zcm 19 4:=cnt_le o;have a:zcm 19 4=5036:=dc;omega
theorem zhw{rows:List qO}(j:zeO n a rows):∀(f:Nat) (c:Cor),J4 n aims rows c->ZV aims rows f c= .limit->∃l:List Cor,l.length=f+1/\(∀d∈l,J4 n aims rows d)/\(c::l).Pairwise (Cor.gt aims)
 |0,c,h,hs=>by
  rw[ZV]at hs;cases hb:Qv c rows with
  |none=>simp[hb]at hs
  |some r=>
   obtain⟨g,i⟩:=zch hb;simp only[hb]at hs;cases a:Qe aims c r.1 r.2 with
   |none=>simp[a]at hs
   |some d=>
    obtain⟨b,e⟩:=(zdy j h g i).2 d a;exact⟨[d],rfl,fun x a=>by rw[qg.1 a];exact b,by simpa using e⟩
 |f+1,c,h,hs=>by
  rw[ZV]at hs;cases hb:Qv c rows with
  |none=>simp[hb]at hs
  |some r=>
   obtain⟨g,i⟩:=zch hb;simp only[hb]at hs;cases a:Qe aims c r.1 r.2 with
   |none=>simp[a]at hs
   |some d=>
    simp only[a]at hs;obtain⟨b,e⟩:=(zdy j h g i).2 d a;obtain⟨l,m,g,i⟩:=zhw j f d b hs;refine⟨d::l,by simp[m],fun x a=>?_,List.pairwise_cons.2 ⟨fun x a=>?_,i⟩⟩
    ·rcases zI.1 a with rfl|a
     ·exact b
     ·exact g x a
    ·rcases zI.1 a with rfl|a
     ·exact e
     ·exact Cor.gt_trans b.cor.pos (g x a).cor.pos e ((List.pairwise_cons.1 i).1 x a).ge
theorem zfR{rows:List qO}{o:List (List Int×Int)}{b:List (List Int×Int)}(g:zeO n o rows)(d:∀r∈rows,∃h∈b,Par r.1 h)(e:b.length<=19){f:Nat}(p:10000<=f)(h:J4 n aims rows c):ZV aims rows f c≠ .limit:=by
 intro i;obtain⟨l,_,j,m⟩:=zhw g f c h i;have:=zqU d e (c::l) (fun x a=>by
  rcases zI.1 a with q|a
  ·rw[q];exact h
  ·exact j x a) m
 simp at this;omega
structure SCnt (n:Nat)(base:List (List Int×Int))(H:List (List Int×Int))(rows:List qO):Prop where
 nodup:(rows.map fun r=>r.2).Nodup
 planes:∀r∈rows,r.2<=base.length->∃h∈H,Par r.1 h
 cuts:(rows.filter fun r=>decide (base.length<r.2)).length<=n+1
theorem SCnt.all{base:List (List Int×Int)}{rows:List qO}(h:SCnt n base a rows)(e:n<=4)(d:a.length<=14):∃b:List (List Int×Int),b.length<=19/\∀r∈rows,∃x∈b,Par r.1 x:=by
 refine⟨a++(rows.filter fun r=>decide (base.length<r.2)).map (fun r=>r.1),by have:=h.cuts;simp only[zM,zm];omega,fun r a=>?_⟩;by_cases b:r.2<=base.length
 ·obtain⟨x,e,d⟩:=h.planes r a b;exact⟨x,QN _ e,d⟩
 ·exact⟨r.1,J5 _ (qP.2 ⟨r,ZF.2 ⟨a,so⟩,rfl⟩),.inl rfl⟩
theorem SCnt.cut{base:List (List Int×Int)}{rows:List qO}(h:SCnt n base a rows)(g:Qy n aims c){num:Nat}(row:List Int×Int)(f:∀r∈rows,r.2<num)(hg:base.length<num):SCnt n base a (jw c base.length rows ++ [(row,num)]):=by
 have d:(jw c base.length rows).Sublist rows:=zaM;refine⟨?_,fun r a b=>?_,?_⟩
 ·rw[Z6];refine List.nodup_append.2 ⟨zbD (d.map _) h.nodup,sp,?_⟩;intro e e i b;obtain⟨r,a,rfl⟩:=qP.1 e;have:=f r (d.mem a);simp at b;omega
 ·rcases zU.1 a with a|a
  ·exact h.planes r (d.mem a) b
  ·rw[qg.1 a]at b;simp only at b;omega
 ·rw[je,zM];have b:((jw c base.length rows).filter fun r=>decide (base.length<r.2)).length<=n:=by
   have f:(((jw c base.length rows).filter fun r=>decide (base.length<r.2)).map fun r=>r.2).length<=(c.edges.map fun e=>e.num).length:=by
    refine zfy _ _ (zbD ((zaM.trans d).map _) h.nodup) (fun x b=>?_);obtain⟨r,a,rfl⟩:=qP.1 b;obtain⟨d,b⟩:=ZF.1 a;obtain⟨_,a⟩:=ZF.1 d;have b:base.length<r.2:=by simpa using b
    have d:restsOn c r.2=true:=by
     simp[b]at a;exact a
    obtain⟨e,a,b⟩:=QR.1 d;exact qP.2 ⟨e,a,by simpa using b⟩
   rw[zm,zm,g.len]at f;exact f
  have a:(([(row,num)]:List qO).filter fun r=>decide (base.length<r.2)).length<=1:=zF (jB _ _) sp;omega
end

section
open V4
variable {L:Nat->Int}{a x y:Int}
def zcu (mn:Nat->Int)(wd:Nat->Int)(L:Nat->Int):Int:=((((L 0-mn 0)*wd 1+(L 1-mn 1))*wd 2+(L 2-mn 2))*wd 3+(L 3-mn 3))*wd 4+(L 4-mn 4)
theorem zbE{b w:Int}(d:a<b)(f:x<=w-1)(g:0<=y)(e:1<=w):a*w+x<b*w+y:=by
 have h:=Int.mul_le_mul_of_nonneg_right (show a+1<=b by omega) (show 0<=w by omega);rw[Int.add_mul]at h;omega
theorem zrR{a f e:Nat->Int}(d:∀i,i<5->1<=f i)(j:∀i,i<5->a i<=L i/\L i<=a i+f i-1)(l:∀i,i<5->a i<=e i/\e i<=a i+f i-1){k:Nat}(p:k<5)(b:∀i,i<k->L i=e i)(q:L k<e k):zcu a f L<zcu a f e:=by
 have r:∀i,i<5->0<=L i-a i/\L i-a i<=f i-1/\0<=e i-a i:=fun i g=>by have:=j i g;have:=l i g;omega
 have o:L 0-a 0<e 0-a 0->zcu a f L<zcu a f e:=fun h=>zbE (zbE (zbE (zbE h (r 1 om).2.1 (r 1 om).2.2 (d 1 om)) (r 2 om).2.1 (r 2 om).2.2 (d 2 om)) (r 3 om).2.1 (r 3 om).2.2 (d 3 om)) (r 4 om).2.1 (r 4 om).2.2 (d 4 om)
 have m:k=0\/k=1\/k=2\/k=3\/k=4:=om;rcases m with rfl|rfl|rfl|rfl|rfl
 ·exact o om
 ·unfold zcu;rw[b 0 om];exact zbE (zbE (zbE om (r 2 om).2.1 (r 2 om).2.2 (d 2 om)) (r 3 om).2.1 (r 3 om).2.2 (d 3 om)) (r 4 om).2.1 (r 4 om).2.2 (d 4 om)
 ·unfold zcu;rw[b 0 om,b 1 om];exact zbE (zbE om (r 3 om).2.1 (r 3 om).2.2 (d 3 om)) (r 4 om).2.1 (r 4 om).2.2 (d 4 om)
 ·unfold zcu;rw[b 0 om,b 1 om,b 2 om];exact zbE om (r 4 om).2.1 (r 4 om).2.2 (d 4 om)
 ·unfold zcu;rw[b 0 om,b 1 om,b 2 om,b 3 om];omega
theorem zmI{a b:Nat->Int}(e:∀i,i<5->1<=b i)(d:∀i,i<5->a i<=L i):0<=zcu a b L:=by
 unfold zcu;have r:∀i,i<5->0<=L i-a i:=fun i a=>by have:=d i a;omega
 have w:∀i,i<5->0<=b i:=fun i a=>by have:=e i a;omega
 have a:∀{b d c:Int},0<=b->0<=d->0<=c->0<=b*d+c:=fun b d e=>by have:=zbw b d;omega
 exact a (a (a (a (r 0 om) (w 1 om) (r 1 om)) (w 2 om) (r 2 om)) (w 3 om) (r 3 om)) (w 4 om) (r 4 om)
theorem znO{d a:Nat->Int}(b:∀i,i<5->1<=a i)(e:∀i,i<5->d i<=L i/\L i<=d i+a i-1):zcu d a L<a 0*a 1*a 2*a 3*a 4:=by
 unfold zcu;have r:∀i,i<5->L i-d i<=a i-1:=fun i a=>by have:=e i a;omega
 have e:∀{a d w c:Int},a<d->1<=w->c<=w-1->a*w+c<d*w:=fun {a d w c} f b g=>by
  have h:=zbE (a:=a) (b:=d) (w:=w) (x:=c) (y:=0) f g (Int.le_refl 0) b;omega
 exact e (e (e (e (by have:=r 0 om;omega) (b 1 om) (r 1 om)) (b 2 om) (r 2 om)) (b 3 om) (r 3 om)) (b 4 om) (r 4 om)
theorem zgJ(b:0<a)(h:a*x<a*y):x<y:=Int.lt_of_mul_lt_mul_left h om
theorem zg3(b:0<a)(h:a*x<=a*y):x<=y:=zar h b
theorem zg4(b:0<a)(h:a*x=a*y):x=y:=QU om h
theorem zhv.further{aims:List Int}{P e d:V4}{o b a r:Nat}(ho:0<o)(f:0<b)(j:0<a)(B:r<5)(h:zhv aims P o r e b)(g:zaC (fun i=>(a:Int)*rk aims e i-(b:Int)*rk aims d i)):zhv aims P o r d a:=by
 have j:(0:Int)<o:=om;have w:(0:Int)<b:=om;have p:(0:Int)<a:=om;have s:∀k,(o:Int)*rk aims e k=(b:Int)*rk aims P k->(a:Int)*rk aims e k-(b:Int)*rk aims d k=0->(o:Int)*rk aims d k=(a:Int)*rk aims P k:=fun k f q=>by
  refine zg4 w ?_;have:(b:Int)*rk aims d k=(a:Int)*rk aims e k:=om;grind
 have x:∀k,(o:Int)*rk aims e k=(b:Int)*rk aims P k->0<(a:Int)*rk aims e k-(b:Int)*rk aims d k->(o:Int)*rk aims d k<(a:Int)*rk aims P k:=fun k f q=>by
  refine zgJ w ?_;have v:(b:Int)*rk aims d k<(a:Int)*rk aims e k:=om;have l:=Int.mul_lt_mul_of_pos_left v j;have y:(o:Int)*((b:Int)*rk aims d k)=(b:Int)*((o:Int)*rk aims d k):=by grind
  have j:(o:Int)*((a:Int)*rk aims e k)=(b:Int)*((a:Int)*rk aims P k):=by grind
  omega
 have m:∀k,(o:Int)*rk aims e k<(b:Int)*rk aims P k->0<=(a:Int)*rk aims e k-(b:Int)*rk aims d k->(o:Int)*rk aims d k<(a:Int)*rk aims P k:=fun k f q=>by
  refine zgJ w ?_;have v:(b:Int)*rk aims d k<=(a:Int)*rk aims e k:=om;have l:=ZI v (show 0<=(o:Int)by omega);have l:=Int.mul_lt_mul_of_pos_left f p;have y:(o:Int)*((b:Int)*rk aims d k)=(b:Int)*((o:Int)*rk aims d k):=by grind
  have j:(o:Int)*((a:Int)*rk aims e k)=(a:Int)*((o:Int)*rk aims e k):=by grind
  have j:(a:Int)*((b:Int)*rk aims P k)=(b:Int)*((a:Int)*rk aims P k):=by grind
  omega
 rcases h with ⟨i,z,f,q⟩|⟨f,q⟩
 ·rcases g with g|⟨l,A,p,u⟩
  ·exact .inl ⟨i,z,fun k j=>s k (f k j) (g k om),m i q (by have:(a:Int)*rk aims e i-(b:Int)*rk aims d i=0:=g i om;omega)⟩
  ·by_cases t:l<i
   ·exact .inl ⟨l,om,fun k j=>s k (f k om) (p k j),x l (f l t) u⟩
   ·refine .inl ⟨i,z,fun k j=>s k (f k j) (p k om),m i q ?_⟩;rcases zeM (zdq t)with m|m
    ·have:(a:Int)*rk aims e i-(b:Int)*rk aims d i=0:=p i m;omega
    ·subst m;exact zdI u
 ·have z:0<=(a:Int)*rk aims e r-(b:Int)*rk aims d r->rk aims d r<=(a:Int)*(rk aims P r/(o:Int)):=fun m=>by
   refine zg3 w ?_;have v:=ZI q (show 0<=(a:Int)by omega);have y:(a:Int)*((b:Int)*(rk aims P r/(o:Int)))=(b:Int)*((a:Int)*(rk aims P r/(o:Int))):=by grind
   omega
  rcases g with g|⟨l,A,p,u⟩
  ·exact .inr ⟨fun k j=>s k (f k j) (g k om),z (by have:(a:Int)*rk aims e r-(b:Int)*rk aims d r=0:=g r B;omega)⟩
  ·by_cases t:l<r
   ·exact .inl ⟨l,t,fun k j=>s k (f k om) (p k j),x l (f l t) u⟩
   ·refine .inr ⟨fun k j=>s k (f k j) (p k om),z ?_⟩;rcases zeM (zdq t)with m|m
    ·have:(a:Int)*rk aims e r-(b:Int)*rk aims d r=0:=p r m;omega
    ·subst m;exact zdI u
def jo (aims:List Int)(mx:Nat->Int)(P:V4)(o r:Nat)(i:Nat):Int:=if i<=r then rk aims P i/(o:Int)else mx i
theorem zoL{aims:List Int}{mx:Nat->Int}{P d:V4}{o b r a:Nat}(ho:0<o)(e:0<b)(u:a<5)(s:∀k,k<r->rk aims P k%(o:Int)=0)(f:∀k,k<a->rk aims d k%(b:Int)=0)(p:rk aims d a%(b:Int)≠0)(t:∀k,k<5->rk aims d k<=(b:Int)*mx k)(h:zhv aims P o r d b):
 ∃k,k<5/\(∀i,i<k->jo aims mx d b a i=jo aims mx P o r i)/\jo aims mx d b a k<jo aims mx P o r k:=by
 have m:(0:Int)<o:=om;have y:(0:Int)<b:=om;have j:∀k,k<r->(o:Int)*rk aims d k=(b:Int)*rk aims P k->rk aims d k=(b:Int)*(rk aims P k/(o:Int)):=fun k e g=>by
  have f:=jA (rk aims P k) (o:Int);rw[s k e]at f;refine zg4 m ?_;rw[g];grind
 have z:∀k,k<r->(o:Int)*rk aims d k=(b:Int)*rk aims P k->a≠k:=fun k e g l=>by
  subst l;rw[j a e g]at p;exact p (zcy _ _)
 have v:∀{x q:Int},x<=(b:Int)*q->x/(b:Int)<=q:=fun {x q} g=>by
  have:=Int.ediv_le_ediv y g;rwa [jI _ om]at this
 have w:∀{x q:Int},x<(b:Int)*q->x/(b:Int)<q:=fun {x q} g=>(Int.ediv_lt_iff_lt_mul y).2 (by rw[Qp];exact g)
 rcases h with ⟨i,g,f,q⟩|⟨f,q⟩
 ·have x:i<=a:=by
   refine Ze fun x=>?_
   exact z a om (f a om) rfl
  refine⟨i,om,fun k e=>?_,?_⟩
  ·unfold jo;rw[zQ om,zQ om,j k om (f k e)];exact jI _ om
  ·unfold jo;rw[zQ om,zQ om];refine w (zgJ m ?_);have m:=jA (rk aims P i) (o:Int);rw[s i g]at m;have:(o:Int)*((b:Int)*(rk aims P i/(o:Int)))=(b:Int)*rk aims P i:=by grind
   omega
 ·have y:r<=a:=by
   refine Ze fun x=>?_
   exact z a om (f a om) rfl
  have s:∀k,k<r->jo aims mx d b a k=jo aims mx P o r k:=fun k e=>by
   unfold jo;rw[zQ om,zQ om,j k e (f k e)];exact jI _ om
  have f:jo aims mx d b a r<=jo aims mx P o r r:=by
   unfold jo;rw[zQ y,zQ (zh _)];exact v q
  rcases jd f with f|j
  ·exact⟨r,om,s,f⟩
  ·
   have f:r≠a:=by
    intro l;subst l;unfold jo at j;rw[zQ (zh _),zQ (zh _)]at j;have m:=jA (rk aims d r) (b:Int);rw[j]at m;have f:=J3 (rk aims d r) (show(b:Int)≠0 by omega);omega
   have q:∀k,k<5->r<k->jo aims mx d b a k<=mx k:=fun k e f=>by
    unfold jo;split
    ·exact v (t k e)
    ·exact Int.le_refl _
   have v:jo aims mx d b a a<mx a:=by
    unfold jo;rw[zQ (zh _)];refine w ?_;have f:=t a u;rcases jd f with f|f
    ·exact f
    ·exact absurd (by rw[f];exact zcy _ _) p
   have l:∀k,r<k->jo aims mx P o r k=mx k:=fun k e=>by unfold jo;rw[zO om]
   have m:∀f k,r<k->k+f=a->(∀i,i<k->jo aims mx d b a i=jo aims mx P o r i)->∃k,k<5/\(∀i,i<k->jo aims mx d b a i=jo aims mx P o r i)/\jo aims mx d b a k<jo aims mx P o r k:=by
    intro f;induction f with
    |zero=>
     intro k e b g;have:k=a:=om;subst this;exact⟨k,u,g,by rw[l k e];exact v⟩
    |succ f d=>
     intro k e b g;have b:=q k om e;rcases jd b with b|b
     ·exact⟨k,om,g,by rw[l k e];exact b⟩
     ·refine d (k+1) om om (fun i d=>?_);by_cases d:i=k
      ·subst d;rw[b,l i e]
      ·exact g i om
   refine m (a-(r+1)) (r+1) om om (fun i g=>?_);by_cases a:i=r
   ·subst a;exact j
   ·exact s i om
end

section
open V4
variable {aims:List Int}{base:List (List Int×Int)}{c:Cor}{n r:Nat}{rg:Nat->Int×Int}
def zjm (n:Nat)(base:List (List Int×Int))(rg:Nat->Int×Int):Prop:=∀i,i<4->(i<n->(T.unitRow n i,(rg i).2)∈base/\((T.unitRow n i).map (fun z=>-z),-(rg i).1)∈base)/\(n<=i->rg i=(0,0))
def mxR (aims:List Int)(rg:Nat->Int×Int)(k:Nat):Int:=
 match k with
 |0=>(if aims.getD 0 0<=0 then aims.getD 0 0*(rg 0).1 else aims.getD 0 0*(rg 0).2)+(if aims.getD 1 0<=0 then aims.getD 1 0*(rg 1).1 else aims.getD 1 0*(rg 1).2)+(if aims.getD 2 0<=0 then aims.getD 2 0*(rg 2).1 else aims.getD 2 0*(rg 2).2)+(if aims.getD 3 0<=0 then aims.getD 3 0*(rg 3).1 else aims.getD 3 0*(rg 3).2)
 |i+1=>if aims.getD i 0<=0 then -(rg i).1 else(rg i).2
def mnR (aims:List Int)(rg:Nat->Int×Int)(k:Nat):Int:=
 match k with
 |0=>(if aims.getD 0 0<=0 then aims.getD 0 0*(rg 0).2 else aims.getD 0 0*(rg 0).1)+(if aims.getD 1 0<=0 then aims.getD 1 0*(rg 1).2 else aims.getD 1 0*(rg 1).1)+(if aims.getD 2 0<=0 then aims.getD 2 0*(rg 2).2 else aims.getD 2 0*(rg 2).1)+(if aims.getD 3 0<=0 then aims.getD 3 0*(rg 3).2 else aims.getD 3 0*(rg 3).1)
 |i+1=>if aims.getD i 0<=0 then -(rg i).2 else(rg i).1
def wdR (aims:List Int)(rg:Nat->Int×Int)(k:Nat):Int:=mxR aims rg k-mnR aims rg k+1
def bigB (aims:List Int)(rg:Nat->Int×Int):Int:=wdR aims rg 0*wdR aims rg 1*wdR aims rg 2*wdR aims rg 3*wdR aims rg 4
theorem zc4{rows:List qO}(a:Qy n aims c)(q:∀i r,base[i]? =E r->(r,i+1)∈rows)(hb:zjm n base rg)(u:∀r∈rows,0<=Z2 c r.1)(i:Nat)(g:i<4):(c.over:Int)*(rg i).1<=c.point.getD i 0/\c.point.getD i 0<=(c.over:Int)*(rg i).2:=by
 have b:=a.n4;obtain⟨m,o⟩:=hb i g;by_cases j:i<n
 ·obtain⟨x,y⟩:=m j;have l:∀r,r∈base->0<=Z2 c r:=fun r v=>by
   obtain⟨w,t,s⟩:=qM v;exact u _ (q w r (by rw[zg t,s]))
  have d:=l _ x;have e:=l _ y;unfold Z2 at d e;simp only at d e;have f:T.dotZ (T.unitRow n i) c.point=c.point.getD i 0:=by
   rw[QD (by rw[QS,a.plen]) (by rw[a.plen];exact b),zdp b j];obtain⟨z,A,B,C⟩:=zbJ (toV c.point);rcases lt4 g with rfl|rfl|rfl|rfl
   ·exact z
   ·exact A
   ·exact B
   ·exact C
  have p:T.dotZ ((T.unitRow n i).map fun D=>-D) c.point=- c.point.getD i 0:=by
   rw[QD (by simp[QS,a.plen]) (by rw[a.plen];exact b),zgl,smul_dot,<-QD (by rw[QS,a.plen]) (by rw[a.plen];exact b),f];omega
  rw[f]at d;rw[p]at e;have F:(rg i).2*(c.over:Int)=(c.over:Int)*(rg i).2:=Qp _ _;have I:-(rg i).1*(c.over:Int)=-((c.over:Int)*(rg i).1):=by grind
  omega
 ·rw[o om];have:c.point.getD i 0=0:=by rw[zk,qL (by rw[a.plen];omega)];rfl
  rw[this];simp
theorem zg5(a:Qy n aims c)(j:∀i,i<4->(c.over:Int)*(rg i).1<=c.point.getD i 0/\c.point.getD i 0<=(c.over:Int)*(rg i).2)(k:Nat)(b:k<5):(c.over:Int)*mnR aims rg k<=rk aims (toV c.point) k/\rk aims (toV c.point) k<=(c.over:Int)*mxR aims rg k:=by
 have one:∀i,i<4->(c.over:Int)*(if aims.getD i 0<=0 then aims.getD i 0*(rg i).2 else aims.getD i 0*(rg i).1)<=aims.getD i 0*c.point.getD i 0/\aims.getD i 0*c.point.getD i 0<=(c.over:Int)*(if aims.getD i 0<=0 then aims.getD i 0*(rg i).1 else aims.getD i 0*(rg i).2):=by
  intro i d;obtain⟨a,b⟩:=j i d;have f:(c.over:Int)*(aims.getD i 0*(rg i).1)=aims.getD i 0*((c.over:Int)*(rg i).1):=by grind
  have g:(c.over:Int)*(aims.getD i 0*(rg i).2)=aims.getD i 0*((c.over:Int)*(rg i).2):=by grind
  split
  ·rename_i e
   rw[f,g];exact⟨zbk e b,zbk e a⟩
  ·rename_i e
   rw[f,g];exact⟨ZI a om,ZI b om⟩
 cases k with
 |zero=>
  have e:=one 0 om;have e:=one 1 om;have e:=one 2 om;have e:=one 3 om;have e:rk aims (toV c.point) 0=aims.getD 0 0*c.point.getD 0 0+aims.getD 1 0*c.point.getD 1 0+aims.getD 2 0*c.point.getD 2 0+aims.getD 3 0*c.point.getD 3 0:=rfl;rw[e];unfold mnR mxR;simp only;rw[zbd,zbd,zbd,zbd,zbd,zbd];omega
 |succ i=>
  have d:i<4:=om;obtain⟨a,b⟩:=j i d;have f:(QV i).dot (toV c.point)=c.point.getD i 0:=by
   obtain⟨g,j,l,m⟩:=zbJ (toV c.point);rcases lt4 d with rfl|rfl|rfl|rfl
   ·exact g
   ·exact j
   ·exact l
   ·exact m
  have e:rk aims (toV c.point) (i+1)=(if aims.getD i 0<=0 then(QV i).smul (-1)else QV i).dot (toV c.point):=rfl;rw[e];unfold mnR mxR;simp only;split
  ·rw[smul_dot,f,zbc,zbc];omega
  ·rw[f];exact⟨a,b⟩
theorem wd_pos(h:∀i,i<4->(rg i).1<=(rg i).2)(k:Nat)(a:k<5):1<=wdR aims rg k:=by
 have one:∀i,i<4->(if aims.getD i 0<=0 then aims.getD i 0*(rg i).2 else aims.getD i 0*(rg i).1)<=(if aims.getD i 0<=0 then aims.getD i 0*(rg i).1 else aims.getD i 0*(rg i).2):=by
  intro i b;split
  ·rename_i a;exact zbk a (h i b)
  ·rename_i a;exact ZI (h i b) om
 unfold wdR;cases k with
 |zero=>
  have:=one 0 om;have:=one 1 om;have:=one 2 om;have:=one 3 om;unfold mxR mnR;simp only;omega
 |succ i=>
  have:=h i om;unfold mxR mnR;simp only;split<;>omega
theorem zh4(d:Qy n aims c)(b:∀i,i<4->(c.over:Int)*(rg i).1<=c.point.getD i 0/\c.point.getD i 0<=(c.over:Int)*(rg i).2)(r:Nat):
 (∀i,i<5->1<=wdR aims rg i)/\∀i,i<5->mnR aims rg i<=jo aims (mxR aims rg) (toV c.point) c.over r i/\jo aims (mxR aims rg) (toV c.point) c.over r i<=mnR aims rg i+wdR aims rg i-1:=by
 have a:=d.pos;have f:∀i,i<4->(rg i).1<=(rg i).2:=fun i a=>by
  obtain⟨_,_⟩:=b i a;exact zg3 (show 0<(c.over:Int)by omega) om
 have e:=wd_pos (aims:=aims) f;refine⟨e,fun i a=>?_⟩;obtain⟨f,g⟩:=zg5 d b i a;have b:=e i a;have a:mnR aims rg i+wdR aims rg i-1=mxR aims rg i:=by unfold wdR;omega
 rw[a];unfold wdR at b;unfold jo;split
 ·refine⟨(zbj om).2 (by rw[Qp];exact f),?_⟩;have:=Int.ediv_le_ediv (show 0<(c.over:Int)by omega) g;rwa [jI _ om]at this
 ·omega
theorem zeZ(p:Nat->Bool):∀(m s r:Nat) (rs:List Nat),(List.range' s m).filter p=r::rs->s<=r/\r<s+m/\p r=true/\∀k,s<=k->k<r->p k=false
 |0,s,r,rs,h=>by simp at h
 |m+1,s,r,rs,h=>by
  rw[List.range'_succ,Qz]at h;by_cases a:p s=true
  ·rw[zQ a]at h;simp only[za5]at h;obtain⟨rfl,_⟩:=h;exact⟨zh _,om,a,fun k b d=>om⟩
  ·rw[zO a]at h;obtain⟨b,d,b,d⟩:=zeZ p m (s+1) r rs h;refine⟨om,om,b,fun k b b=>?_⟩;by_cases e:k=s
   ·subst e;simpa using a
   ·exact d k om b
theorem zij(h:Qy n aims c){rs:List Nat}(hs:qU n aims c=r::rs):r<5/\rk aims (toV c.point) r%(c.over:Int)≠0/\∀k,k<r->rk aims (toV c.point) k%(c.over:Int)=0:=by
 have e:=h.n4;have a:=hs;unfold qU at a;rw[zd0]at a;obtain⟨_,_,_,b⟩:=zeZ _ _ _ _ _ a;have hm:=(za4 h (r:=r)).1 (by rw[hs];exact qA);refine⟨om,hm.2,fun k d=>?_⟩;have a:=b k om d;simp only[ne_eq,decide_not,Bool.not_eq_false',Z9]at a;rwa [zbi (by rw[h.aim,h.plen]) (by rw[h.plen];exact e) k om]at a
theorem zkE{d:Cor}(e:Qy n aims c)(g:Qy n aims d):zeN aims c d=true↔c.gt aims d:=by
 have i:=e.n4;unfold zeN;rw[decide_eq_true_iff];have f:(List.zipWith (fun a b=>a*(d.over:Int)-b*(c.over:Int)) c.point d.point).length=n:=by simp[e.plen,g.plen]
 rw[ziC (by rw[e.aim,f]) (by rw[f];exact i)];have j:toV (List.zipWith (fun a b=>a*(d.over:Int)-b*(c.over:Int)) c.point d.point)=((toV c.point).smul (d.over:Int)).add ((toV d.point).smul (-(c.over:Int))):=by
  have f:∀i,(List.zipWith (fun a b=>a*(d.over:Int)-b*(c.over:Int)) c.point d.point).getD i 0=(d.over:Int)*c.point.getD i 0+(-(c.over:Int))*d.point.getD i 0:=fun i=>by
   rw[JE sp (by rw[e.plen,g.plen])];grind
  exact ext' (f 0) (f 1) (f 2) (f 3)
 have e:∀i,rk aims (toV (List.zipWith (fun a b=>a*(d.over:Int)-b*(c.over:Int)) c.point d.point)) i=(d.over:Int)*rk aims (toV c.point) i-(c.over:Int)*rk aims (toV d.point) i:=fun i=>by
  rw[j,zhh,JH,JH];grind
 exact⟨fun h=>h.congr (fun i _=>e i),fun h=>h.congr (fun i _=>(e i).symm)⟩
theorem not_gt{d:Cor}(h:¬c.gt aims d):d.ge aims c:=by
 rcases zhg (fun i=>(d.over:Int)*rk aims (toV c.point) i-(c.over:Int)*rk aims (toV d.point) i)with a|a
 ·exact absurd a h
 ·exact a.congr (fun i _=>om)
theorem zka{c:Cor}{num:Nat}(h:Qy n aims c)(d:r<5)(b:rk aims (toV c.point) r%(c.over:Int)≠0)(a:∀e∈c.edges,e.num≠num):
 Qe aims c (Zd n aims c r) num=E (Z1 n aims c num r)/\∃j o,Exch n aims c (Zd n aims c r) num (Z1 n aims c num r) j o:=by
 have k:=zfx h d b;obtain⟨f,g⟩:=zht h (r:=Zd n aims c r) k.len (num:=num) a;have d:∃a,Qe aims c (Zd n aims c r) num=E a:=by
  cases hx:Qe aims c (Zd n aims c r) num with
  |some a=>exact⟨a,rfl⟩
  |none=>
   obtain⟨e,b,_⟩:=ziD h k;have:=f hx e b;omega
 obtain⟨a,b⟩:=d;have d:Z1 n aims c num r=a:=by unfold Z1;rw[b];rfl
 rw[d];exact⟨b,g a b⟩
theorem zkb{num:Nat}(e:∀r,r∈qU n aims c->Qy n aims (Z1 n aims c num r)):∀(rs:List Nat) (b:Option Nat) (r:Nat),(∀x∈rs,x∈qU n aims c)->(∀x,b=E x->x∈qU n aims c)->jF n aims c num rs b=E r->∀x,(x∈rs\/b=E x)->(Z1 n aims c num x).ge aims (Z1 n aims c num r)
 |[],b,r,_,_,h,x,a=>by
  rcases a with a|a
  ·simp at a
  ·rw[jF]at h;rw[h]at a;cases a;exact Xv _ _
 |y::rs,O,r,h1,h2,h,x,a=>by
  rw[jF]at h;have d:=zkb e rs (E y) r (fun x a=>h1 x (qq _ a)) (fun x a=>by cases a;exact h1 y qA) h;rcases a with a|a
  ·rcases zI.1 a with rfl|a
   ·exact d x (.inr rfl)
   ·exact d x (.inl a)
  ·cases a
 |y::rs,E b,r,h1,h2,h,x,a=>by
  rw[jF]at h;have i:=h1 y qA;have g:=h2 b rfl;have d:=zkb e rs _ r (fun x a=>h1 x (qq _ a)) (fun x a=>by
   split at a
   ·cases a;exact i
   ·cases a;exact g) h
  by_cases f:zeN aims (Z1 n aims c num b) (Z1 n aims c num y)=true
  ·rw[zQ f]at d;have j:=(zkE (e b g) (e y i)).1 f;have m:=d y (.inr rfl);rcases a with a|a
   ·rcases zI.1 a with rfl|a
    ·exact m
    ·exact d x (.inl a)
   ·cases a;exact Xw (e y i).pos j.ge m
  ·rw[zO f]at d;have j:=not_gt (fun h=>f ((zkE (e b g) (e y i)).2 h));have l:=d b (.inr rfl);rcases a with a|a
   ·rcases zI.1 a with rfl|a
    ·exact Xw (e b g).pos j l
    ·exact d x (.inl a)
   ·cases a;exact l
def CapOK (n:Nat)(aims:List Int)(rg:Nat->Int×Int)(pivots:Nat)(rows:List qO)(c:Cor)(cap:Int):Prop:=
 ∀c2 r rs,ZV aims rows pivots c= .ok c2->qU n aims c2=r::rs->zcu (mnR aims rg) (wdR aims rg) (jo aims (mxR aims rg) (toV c2.point) c2.over r)<cap
theorem zoM{rows:List qO}{a:List Zy}{b:List (List Int×Int)}(h:zcl n aims base rows c a b):∀r∈rows,r.2<base.length+a.length+1:=by
 intro r b;obtain⟨_,a⟩:=(h.rowsOK r b).1;have:=jQ a;have:=h.len;omega
theorem zqV{pivots:Nat}(ad:0<pivots){rows:List qO}{b:List Zy}{aa:List (List Int×Int)}(w:zjm n base rg)(h:zcl n aims base rows c b aa)(A:∀r∈rows,0<=Z2 c r.1){i:Nat}{rs:List Nat}(hs:qU n aims c=i::rs)(y:jF n aims c (base.length+b.length+1) (qU n aims c) O=E r):
 CapOK n aims rg pivots (jw c base.length rows ++ [(Zd n aims c r,base.length+b.length+1)]) c (zcu (mnR aims rg) (wdR aims rg) (jo aims (mxR aims rg) (toV c.point) c.over i)):=by
 intro j r2 af s a7;have a:=h.cor.cor;have ae:=a.n4;have q:∀o∈c.edges,o.num≠base.length+b.length+1:=fun o X=>by
  have:=zoM h _ (h.cor.edge o X);simp only at this;omega
 have e:∀x,x∈qU n aims c->x<5/\rk aims (toV c.point) x%(c.over:Int)≠0:=fun x d=>by
  have:=(za4 a (r:=x)).1 d;exact⟨om,this.2⟩
 have v:∀x,x∈qU n aims c->Qy n aims (Z1 n aims c (base.length+b.length+1) x):=fun x d=>by
  obtain⟨_,a9,ab,t⟩:=zka a (e x d).1 (e x d).2 q;exact t.cor
 have g:r∈qU n aims c:=by
  rcases zdr _ _ _ y with hm|hm
  ·exact hm
  ·cases hm
 have Q:i∈qU n aims c:=by rw[hs];exact qA
 have W:=zkb v _ O r (fun x d=>d) (fun x d=>by cases d) y i (.inl Q);obtain⟨l,z,U⟩:=zij a hs;have m:=zfx a (e r g).1 (e r g).2;have p:=h.cut h.cor (e r g).1 m;have T:Qv c (jw c base.length rows ++ [(Zd n aims c r,base.length+b.length+1)])=E (Zd n aims c r,base.length+b.length+1):=by
  unfold Qv;rw[List.find?_append];have hn:(jw c base.length rows).find? (fun r=>decide (Z2 c r.1<0))=O:=by
   rw[zeP];intro x d;have:=A x (zkD d);simp;omega
  rw[hn];have:=zhu a m;simp[this]
 obtain⟨a8,a9,ab,t⟩:=zka a (e r g).1 (e r g).2 q;have Y:(Z1 n aims c (base.length+b.length+1) r).ge aims j/\J4 n aims (jw c base.length rows ++ [(Zd n aims c r,base.length+b.length+1)]) j/\∀x∈(jw c base.length rows ++ [(Zd n aims c r,base.length+b.length+1)]),0<=Z2 j x.1:=by
  cases pivots with
  |zero=>omega
  |succ M=>
   rw[ZV,T]at s;simp only[a8]at s;have a0:=zm5 (r:=(Zd n aims c r,base.length+b.length+1)) p.cor t sp;obtain⟨s1,-⟩:=zbL p.rowsOK M _ a0;obtain⟨C,D,F⟩:=s1 j s;exact⟨D,C,F⟩
 obtain⟨N,f,P⟩:=Y;obtain⟨_,_,_,B⟩:=zka a l z q;have R:=znJ a l (zfx a l z) B;have Z:=Xw (v r g).pos W N;have S:=R.further a.pos B.cor.pos f.cor.pos l Z;have I:=zc4 a h.given w A;have u:=zc4 f.cor p.given w P;obtain⟨J,K,L⟩:=zij f.cor a7;obtain⟨k,a4,a5,a6⟩:=zoL (mx:=mxR aims rg) a.pos f.cor.pos J U L K (fun k m=>(zg5 f.cor u k m).2) S;obtain⟨w1,l1⟩:=zh4 a I i;obtain⟨_,l2⟩:=zh4 f.cor u r2;exact zrR w1 l2 l1 a4 a5 a6
theorem zf7{pivots:Nat}(hpv:10000<=pivots)(hbx:zjm n base rg){H:List (List Int×Int)}(hH:H.length<=14):∀(k:Nat) (rows:List qO) (c:Cor) (ls:List Zy) (led:List (List Int×Int)) (cap:Int),zcl n aims base rows c ls led->SCnt n base H rows->CapOK n aims rg pivots rows c cap->cap<=(k:Int)->∀m,goS n aims base.length pivots k rows c ls≠ .limit m
 |0,rows,c,ls,led,cap,h,hc,hcap,hk,m=>by
  rw[goS];obtain⟨s1,s2⟩:=zbL h.rowsOK pivots c h.cor;obtain⟨H',q1,q2⟩:=hc.all h.cor.cor.n4 hH;cases hs:ZV aims rows pivots c with
  |limit=>exact absurd hs (zfR h.rowsOK q2 q1 hpv h.cor)
  |none c' r=>intro he;cases he
  |ok c'=>
   obtain⟨a1,a2,a3⟩:=s1 c' hs;simp only;cases hd:jF n aims c' (base.length+ls.length+1) (qU n aims c') Option.none with
   |none=>intro he;cases he
   |some r=>
    exfalso
    cases hsp:qU n aims c' with
    |nil=>rw[hsp,jF]at hd;cases hd
    |cons r1 rs=>
     have h1:=hcap c' r1 rs hs hsp;obtain⟨w1,l1⟩:=zh4 a1.cor (zc4 a1.cor h.given hbx a3) r1;have h2:=zmI w1 (fun i hi=>(l1 i hi).1);have hk0:cap<=0:=by simpa using hk
     omega
 |k+1,rows,c,ls,led,cap,h,hc,hcap,hk,m=>by
  rw[goS];obtain⟨s1,s2⟩:=zbL h.rowsOK pivots c h.cor;obtain⟨H',q1,q2⟩:=hc.all h.cor.cor.n4 hH;cases hs:ZV aims rows pivots c with
  |limit=>exact absurd hs (zfR h.rowsOK q2 q1 hpv h.cor)
  |none c' r=>intro he;cases he
  |ok c'=>
   obtain⟨a1,a2,a3⟩:=s1 c' hs;simp only;cases hd:jF n aims c' (base.length+ls.length+1) (qU n aims c') Option.none with
   |none=>intro he;cases he
   |some r=>
    have n4:=a1.cor.n4;have hm:r∈qU n aims c':=by
     rcases zdr _ _ _ hd with hm|hm
     ·exact hm
     ·cases hm
    obtain⟨m1,m2⟩:=(za4 a1.cor).1 hm;have hi:=h.to a1;cases hsp:qU n aims c' with
    |nil=>rw[hsp]at hm;cases hm
    |cons r1 rs=>
     have h1:=hcap c' r1 rs hs hsp;have hcap':=zqV (pivots:=pivots) (by omega) hbx hi a3 hsp hd;refine zf7 hpv hbx hH k _ _ _ _ _ (hi.cut a1 (by omega) (zfx a1.cor (by omega) m2)) (hc.cut a1.cor _ (zoM hi) (by omega)) hcap' ?_ m;omega
end

section
open Go.RowKit
attribute [local go_sem] zD zW qJ
variable {w:H}
theorem QG.open{r:RW}{x:List Int×Int}(h:QG w r x):∃(fa:Option Addr) (fc:Nat) (t:WT) (ts:List WT),r=⟨(fa,ts.length,fc),t⟩/\ts.length=x.1.length/\ZS w 85 (V fa ts.length fc) 2 (ts.map WT.cells)/\(∀(i:Nat) (t:WT) (z:Int),ts[i]? =E t->x.1[i]? =E z->zy w t.val z)/\zy w t.val x.2:=by
 obtain⟨⟨fa,_,fc⟩,t⟩:=r;obtain⟨⟨ts,b,a,d⟩,hm⟩:=h;obtain⟨_,_,e⟩:=a.shape;rw[zm]at e;simp only[RW.fv,qp]at e;obtain⟨rfl,rfl,rfl⟩:=e;exact⟨fa,fc,t,ts,rfl,b,a,d,hm⟩
theorem zgL{g b j:Nat}{u v0 v1:Value}(d:b≠g)(h:w.cell? (Xd b j O)=E u):((w.setCell (Xd g 0 O) v0).setCell (Xd g 1 O) v1).cell? (Xd b j O)=E u:=by
 rw[Zj (w:=w) (a:=⟨b,j,O⟩)];·exact h
 ·exact(qC _ _ _ _ so).trans (qC _ _ _ _ so)
theorem ZS.lt{t:TypeId}{v:Value}{size:Nat}{a:List (List Value)}(h:ZS w t v size a):∀g,v.ownBlock=E g->g<w.heap.size:=by
 intro g a;rcases h with ⟨e,_⟩|⟨b,off,_,e,_,d,_⟩
 ·rw[e]at a;cases a
 ·rw[e]at a;have:b=g:=by simpa[Value.ownBlock]using a
  rw[<-this];exact d.lt
theorem ZS.wr2{U:Nat->Prop}{w':H}{t:TypeId}{v:Value}{size:Nat}{a:List (List Value)}(h:ZS w t v size a)(e:Wr U w w')(j:∀g,v.ownBlock=E g->¬U g):ZS w' t v size a:=by
 rcases h with h|⟨g,off,f,a,i,b,l⟩
 ·exact Or.inl h
 ·have d:=j g (by rw[a];rfl);exact Or.inr ⟨g,off,f,a,i,b.same (e.block g b.lt d),fun i a b j u f=>e.cell (p:=⟨g,off+i*size+j,O⟩) d (l i a b j u f)⟩
def AccI (w1:H)(gs n:Nat)(d:Nat->Int)(k:Nat)(M:Nat->Prop)(A:H):Prop:=
 Wr (fun b=>b=gs) w1 A/\k<=n/\(∃(t:WT) (fr:Nat×Nat),A.heap[gs]? =E (cl #[G t.b,t.sv] 85 fr)/\A.frozen? (Xd gs 0 O)=false/\A.frozen? (Xd gs 1 O)=false/\zy A t.val (d k))/\∀b,M b↔b=gs
theorem AccI.keep{w1 A B:H}{b n:Nat}{d:Nat->Int}{k:Nat}{M:Nat->Prop}(h:AccI w1 b n d k M A)(g:zn w1.heap.size A B):AccI w1 b n d k M B:=by
 obtain⟨j,l,⟨t,i,f,m,o,p⟩,q⟩:=h;have e:=g.block _ _ f (.inr rfl);exact⟨j.keep g,l,⟨t,i,e,(qw (w:=A) (a:=⟨b,0,O⟩) (e.trans f.symm)).trans m,(qw (w:=A) (a:=⟨b,1,O⟩) (e.trans f.symm)).trans o,p.keep g⟩,q⟩
theorem zm6(fa a:Option Addr)(fl fc d b:Nat)(w:H):
 Calls pg 246 #[ag #[V fa fl fc],V a d b] w fun e w'=>e=Xa (.func (.func 249) #[] #[pn (E ⟨w.heap.size+1,0,O⟩),pn (E ⟨w.heap.size+1+1,0,O⟩)])/\w'=((w.alloc (cl #[V fa fl fc] 98)).alloc (cl #[V fa fl fc] 96)).alloc (cl #[V a d b] 96):=by
 go_enter func246,ntmps246
 go_wp2_with fail
 refine(zex fa a fl fc d b _).mono ?_;rintro e a ⟨rfl,rfl⟩;go_wp2;go_ret;exact⟨sp,rfl⟩
theorem zoQ(K:Nat)(f:K+K<=1073741823)(w:H)(fa X:Option Addr)(fc Y:Nat)(ts Q:List WT)(zs xs:List Int)(h1:ts.length=zs.length)(h2:ZS w 85 (V fa ts.length fc) 2 (ts.map WT.cells))(s:∀(i:Nat) (t:WT) (z:Int),ts[i]? =E t->zs[i]? =E z->zy w t.val z)(ax:Q.length=xs.length)(ad:ZS w 85 (V X Q.length Y) 2 (Q.map WT.cells))(ay:∀(i:Nat) (t:WT) (z:Int),Q[i]? =E t->xs[i]? =E z->zy w t.val z)(hl:zs.length=xs.length)(hn:zs.length<=100000)(bz:∀z∈zs,z.natAbs<4294967296^K)(bx:∀z∈xs,z.natAbs<4294967296^K)(bm:∀a∈zs,∀b∈xs,(a*b).natAbs<4294967296^K)(bs:∀j,(T.dotZ (zs.take j) (xs.take j)).natAbs<4294967296^K):
 Calls pg 176 #[ag #[V fa ts.length fc],V X Q.length Y] w fun e w'=>∃t:WT,e=Xa t.val/\zy w' t.val (T.dotZ zs xs)/\Below w.heap.size w w':=by
 have an:Q.length=ts.length:=om;rw[an]at ad⊢;have H1:=zf h1;have H2:=zf h2;have H3:=zf s;have bc:=zf ax;have au:=zf ad;have aN:=zf ay;have aU:=zf an;have bg:ts.length<=100000:=om;have aR:=zf bz;have aQ:=zf bx;have aO:=zf bm;have aP:=zf bs;clear h1 h2 s ax ad ay an bz bx bm bs;have aX:Ext w (((w.alloc (cl #[V fa ts.length fc] 98)).alloc (cl #[G false,V O 0 0] 85)).alloc (cl #[G false,V O 0 0] 85)):=(((Xe w).alloc _).alloc _).alloc _;have aW:(((w.alloc (cl #[V fa ts.length fc] 98)).alloc (cl #[G false,V O 0 0] 85)).alloc (cl #[G false,V O 0 0] 85)).heap[w.heap.size]? =E (cl #[V fa ts.length fc] 98):=(qH _ _ _ so).trans (Xj w _ _).1;have af:(((w.alloc (cl #[V fa ts.length fc] 98)).alloc (cl #[G false,V O 0 0] 85)).alloc (cl #[G false,V O 0 0] 85)).heap[w.heap.size+1]? =E (cl #[G false,V O 0 0] 85):=(qH _ _ _ sp).trans (Xj w _ _).2;have ae:(((w.alloc (cl #[V fa ts.length fc] 98)).alloc (cl #[G false,V O 0 0] 85)).alloc (cl #[G false,V O 0 0] 85)).heap[w.heap.size+1+1]? =E (cl #[G false,V O 0 0] 85):=by
  have:=zC ((w.alloc (cl #[V fa ts.length fc] 98)).alloc (cl #[G false,V O 0 0] 85)) (cl #[G false,V O 0 0] 85);simpa using this
 refine Q0 func176 ntmps176 (h:=?_);gi_wp2;generalize (((w.alloc (cl #[V fa ts.length fc] 98)).alloc (cl #[G false,V O 0 0] 85)).alloc (cl #[G false,V O 0 0] 85))=v at *;refine(zq.2 (zm6 fa X ts.length fc ts.length Y v)).mono ?_;rintro e x ⟨rfl,aa⟩;have x1:Ext v x:=by rw[aa];exact(((Xe v).alloc _).alloc _).alloc _
 have k1:x.cell? ⟨v.heap.size+1,0,O⟩=E (V fa ts.length fc):=by rw[aa];exact(((Xe _).alloc _).cell (c_ 0 (Xj _ _ _).2))
 have k2:x.cell? ⟨v.heap.size+1+1,0,O⟩=E (V X ts.length Y):=by
  rw[aa];have:=c_ 0 (zC ((v.alloc (cl #[V fa ts.length fc] 98)).alloc (cl #[V fa ts.length fc] 96)) (cl #[V X ts.length Y] 96));simpa using this
 clear aa;have L:=aX.trans x1;have aZ:=(zd.1 ae).1;have a1:=(x1.block _ aZ).trans ae;have HR:=zf ((x1.block _ (zd.1 af).1).trans af);clear aW ae af;have bh:=x1.size;gi_wp2;refine ZT (zcz ts Q aU.out.symm fa X fc Y (v.heap.size+1) (v.heap.size+1+1) om) rfl (qW func249 kr rfl) (fun k ba W=>by rintro⟨t,_,_,_,rfl⟩;rfl)
  (AccI x (w.heap.size+1+1) ts.length (fun k=>T.dotZ (zs.take k) (xs.take k))) (fun _ _ _=>False) (fun b=>b=w.heap.size+1+1) ?hI ?hIx ?hC ?h0 ?round ?done ?stop
 case hI=>exact fun k a3 A bb h hk=>h.keep hk
 case hIx=>exact fun _ _ _ _ h _=>h
 case hC=>
  rintro k a3 A ⟨h1,h2,⟨t,fr,s,-⟩,h4⟩;refine⟨⟨h1.cell (p:=⟨v.heap.size+1,0,O⟩) so k1,h1.cell (p:=⟨v.heap.size+1+1,0,O⟩) so k2,((H2.out.ext L).wr2 h1 (fun ab hg e=>by have:=H2.out.lt ab hg;omega)).recs,((au.out.ext L).wr2 h1 (fun ab hg e=>by have:=au.out.lt ab hg;omega)).recs⟩,fun b u=>?_⟩;rw[(h4 b).1 u];exact(zd.1 s).1
 case h0=>exact⟨Xi _ _,qo _,⟨⟨false,O,0,0⟩,(0,0),a1,Xg a1,Xg a1,⟨false,V O 0 0,rfl,Xm _ _ _,rfl⟩⟩,fun b=>Qb⟩
 case round=>
  rintro l2 k ba a3 A b4 ⟨t0,s0,b8,b7,rfl⟩ ⟨h1,h2,⟨⟨l,g,o,m⟩,fr,s,aj,ak,Z⟩,h4⟩;have a9:k<zs.length:=by have:=H1.out;omega
  have a8:k<xs.length:=om;have hz:=zg a9;have aI:=zg a8;have aD:∀b,b=w.heap.size+1+1->qK x b:=fun b u=>by rw[u];exact zE a1 (by intro aL J;simp at J;rcases J with rfl|rfl<;>(intro n e;cases e))
  have ah:=((H3.out k t0 _ b8 hz).below L).wr h1 aD;have ai:=((aN.out k s0 _ b7 aI).below L).wr h1 aD;have aA:=aR.out _ (zJ a9);have aB:=aQ.out _ (zJ a8);have a0:=aO.out _ (zJ a9) _ (zJ a8);have av:=zf (T.dotZ_take a9 a8);have a5:=aP.out k;generalize zs[k]=z at *;generalize xs[k]=R at *;obtain⟨M,hdk⟩:∃M,T.dotZ (zs.take k) (xs.take k)=M:=⟨_,rfl⟩;have az:zy A (ag #[G l,V g o m]) M:=by rw[<-hdk];exact Z
  rw[hdk]at a5 av;have bd:=zf hdk;clear hz aI hdk Z;obtain⟨yb,ya,yl,yc⟩:=t0;obtain⟨pb,pa,pl,pc⟩:=s0;simp only[WT.val,WT.sv]at ah ai s⊢;unfold Zz;gi_wp2;refine⟨Xf (((Xe A).alloc _).alloc _),fun d al=>?_⟩;have xA:=((zn.alloc x.heap.size A (cl #[G yb,V ya yl yc] 85)).trans (zn.alloc x.heap.size _ (cl #[G pb,V pa pl pc] 85))).trans al;have e0:=al.block _ _ (Xj A (cl #[G yb,V ya yl yc] 85) (cl #[G pb,V pa pl pc] 85)).1 (.inr rfl);have e1:=al.block _ _ (Xj A (cl #[G yb,V ya yl yc] 85) (cl #[G pb,V pa pl pc] 85)).2 (.inr rfl);have N:=xA.block _ _ s (.inr rfl);have be:=(zd.1 s).1;have a6:=(zd.1 N).1;have a2:Hid (∀W,Ext d W->W.cell? (Xd A.heap.size 0 O)=E (G yb)/\W.cell? (Xd A.heap.size 1 O)=E (V ya yl yc)/\W.cell? ⟨A.heap.size+1,0,O⟩=E (G pb)/\W.cell? ⟨A.heap.size+1,1,O⟩=E (V pa pl pc)):=fun W hW=>⟨hW.cell (c_ 0 e0),hW.cell (c_ 1 e0),hW.cell (c_ 0 e1),hW.cell (c_ 1 e1)⟩
  have ap:d.cell? ⟨w.heap.size+1+1,0,O⟩=E (G l):=c_ 0 N;have aq:d.cell? ⟨w.heap.size+1+1,1,O⟩=E (V g o m):=c_ 1 N;have aJ:=(qw (w:=A) (a:=⟨w.heap.size+1+1,0,O⟩) (N.trans s.symm)).trans aj;have aK:=(qw (w:=A) (a:=⟨w.heap.size+1+1,1,O⟩) (N.trans s.symm)).trans ak;have aw:Hid (Calls pg 172 #[ag #[G yb,V ya yl yc],ag #[G pb,V pa pl pc]] d.drew fun e w'=>∃t:WT,e=Xa (ag #[G t.b,V t.s.1 t.s.2.1 t.s.2.2])/\zy w' (ag #[G t.b,V t.s.1 t.s.2.1 t.s.2.2]) (z*R)/\Below d.drew.heap.size d.drew w'):=by
   refine(zam d.drew _ _ z R K K f (ah.keep (xA.trans (zn.drew _ _))) (ai.keep (xA.trans (zn.drew _ _))) aA aB).mono ?_;rintro e w' ⟨aM,rfl,P,u⟩;obtain⟨t,rfl⟩:=P.shape;exact⟨t,rfl,P,u⟩
  have aT:Hid (∀W,Ext d W->∀ao,zy W ao (z*R)->Calls pg 142 #[ag #[G l,V g o m],ao] W fun e w'=>∃t:WT,e=Xa (ag #[G t.b,V t.s.1 t.s.2.1 t.s.2.2])/\zy w' (ag #[G t.b,V t.s.1 t.s.2.1 t.s.2.2]) (M+z*R)/\Below W.heap.size W w'):=by
   intro W hW ao hq;refine(zeF W _ _ M (z*R) K om ((az.keep xA).below hW) hq a5 a0).mono ?_;rintro e w' ⟨aM,rfl,P,u⟩;obtain⟨t,rfl⟩:=P.shape;exact⟨t,rfl,P,u⟩
  have aS:Hid (∀(q:H) (C:Bool) (B:Option Addr) (F D:Nat),Ext d q->zy q (ag #[G C,V B F D]) (M+z*R)->ZL a3 (AccI x (w.heap.size+1+1) ts.length (fun k=>T.dotZ (zs.take k) (xs.take k))) (fun _ _ _=>False) k A d .normal { tmps:=#[],defers:= [] } ((q.setCell ⟨w.heap.size+1+1,0,O⟩ (G C)).setCell ⟨w.heap.size+1+1,1,O⟩ (V B F D))):=by
   intro q C B F D y hq;have e4:=(y.block _ a6).trans N;have aG:Wr (fun b=>b=w.heap.size+1+1) q ((q.setCell ⟨w.heap.size+1+1,0,O⟩ (G C)).setCell ⟨w.heap.size+1+1,1,O⟩ (V B F D)):=(zv (U:=fun b=>b=w.heap.size+1+1) rfl _).trans (zv (U:=fun b=>b=w.heap.size+1+1) rfl _);have aF:=(Xf y).trans aG;have e5:((q.setCell ⟨w.heap.size+1+1,0,O⟩ (G C)).setCell ⟨w.heap.size+1+1,1,O⟩ (V B F D)).heap[w.heap.size+1+1]? =E (cl #[G C,V B F D] 85 fr):=by
    rw[Xk (Xk e4)];rfl
   have b5:∀b,b=w.heap.size+1+1->qK q b:=fun b u=>by rw[u];exact zE e4 (by intro aL J;simp at J;rcases J with rfl|rfl<;>(intro n e;cases e))
   have f4:=fun j=>qw (w:=d) (a:=⟨w.heap.size+1+1,j,O⟩) (y.block _ a6)
   refine⟨aF.mono (fun b u=>(h4 b).2 u),a3,⟨(h1.keep xA).trans aF,b4,⟨⟨C,B,F,D⟩,fr,e5,?_,?_,?_⟩,h4⟩,fun aM P=> .inl P⟩;·simpa using (f4 0).trans aJ
   ·simpa using (f4 1).trans aK
   ·have e6:=av.out;show zy _ _ (T.dotZ (zs.take (k+1)) (xs.take (k+1)))
    rw[e6];exact hq.wr aG b5
  obtain⟨b0,b1,b2,b3⟩:=a2.out d (Xe _);clear e0 e1 N h1 s aj ak ah ai az aA aB a0 a5;refine ZW ?_;refine jK (S:=fun W=>W.cell? (Xd A.heap.size 0 O)=E (G yb)/\W.cell? (Xd A.heap.size 1 O)=E (V ya yl yc)/\W.cell? ⟨A.heap.size+1,0,O⟩=E (G pb)/\W.cell? ⟨A.heap.size+1,1,O⟩=E (V pa pl pc)) kr (by rfl) (fun⟨a,w,h⟩=>h) ⟨b0,b1,b2,b3⟩ (fun a4=>?_);refine tkv 1 ?_;refine tkv 2 ?_;refine rd2 0 3 (h:=fun K f=>?_) (h1:=fun K f=>?_);go_simp;refine f.out _ _ am (h:=fun a4=>?_);clear f K;refine rd1 3 fun K f=>?_;go_simp;refine aw.out.mono ?_;rintro e A3 ⟨⟨qb,qa,ql,qc⟩,rfl,aE,a0⟩;have I:=ZG a0;have s3:=I.cell ap;have s4:=I.cell aq;go_wp2_with fail
  rotate_left;go_simp;refine aw.out.mono ?_;rintro e A3 ⟨⟨qb,qa,ql,qc⟩,rfl,aE,a0⟩;have I:=ZG a0;have s3:=I.cell ap;have s4:=I.cell aq;go_wp2_with fail
  refine f.out _ _ (by exact a2.out _ I) (h:=fun a4=>?_);clear f K;refine rd1 0 fun K f=>?_;go_simp;rotate_left;all_goals
   refine f.out _ _ (by exact a2.out _ I) (h:=fun a4=>?_);clear f K;refine rcl 4 (aT.out A3 I _ aE) ?_;rintro e q ⟨⟨C,B,F,D⟩,rfl,b6,a5⟩;have y:=I.trans (Xh a5);have bi:=y.cell ap;have r4:=y.cell aq;have bj:=(qw (w:=d) (a:=⟨w.heap.size+1+1,0,O⟩) (y.block _ a6)).trans aJ;have bl:=(qw (w:=d) (a:=⟨w.heap.size+1+1,1,O⟩) (y.block _ a6)).trans aK;refine bk (by exact a2.out _ y) fun a4=>?_
   refine rd1 5 fun K f=>?_;go_simp;refine f.out _ _ (by have f:=a2.out q y;exact⟨zgL om f.1,zgL om f.2.1,zgL om f.2.2.1,zgL om f.2.2.2⟩) (h:=fun a4=>?_);clear f K;refine zV kr ?_ _;exact aS.out q C B F D y b6
 case done=>
  rintro ar a3 A hD ⟨h1,h2,⟨⟨l,g,o,m⟩,fr,s,aj,ak,Z⟩,h4⟩ hd;simp only[WT.sv,WT.val]at s Z;have m0:=c_ 0 s;have m1:=c_ 1 s;have r1:=h1.some HR.out (fun e=>by have:w.heap.size+1=w.heap.size+1+1:=e;omega);have c0:=c_ 0 r1;have c1:=c_ 1 r1;have f0:=Xg (j:=0) r1;have f1:=Xg (j:=1) r1;have H5:Hid (zy A (ag #[G l,V g o m]) (T.dotZ zs xs)):=by
   have e:T.dotZ (zs.take ts.length) (xs.take ts.length)=T.dotZ zs xs:=by rw[zP (by have:=H1.out;omega),zP (by have:=H1.out;omega)]
   rw[<-e];exact Z
  have bf:=(zd.1 HR.out).1;clear Z;gi_wp2;have aC:((A.setCell ⟨w.heap.size+1,0,O⟩ (G l)).setCell ⟨w.heap.size+1,1,O⟩ (V g o m)).heap[ar]? =E (.deferred (E [])):=(qC _ _ _ _ so).trans ((qC _ _ _ _ so).trans hd);refine qh aC ?_;have a7:zn x.heap.size ((A.setCell ⟨w.heap.size+1,0,O⟩ (G l)).setCell ⟨w.heap.size+1,1,O⟩ (V g o m)) (((A.setCell ⟨w.heap.size+1,0,O⟩ (G l)).setCell ⟨w.heap.size+1,1,O⟩ (V g o m)).putObj ar (.deferred O)):=zn.putObj _ hD aC rfl;have aH:Wr (fun b=>b=w.heap.size+1) A ((A.setCell ⟨w.heap.size+1,0,O⟩ (G l)).setCell ⟨w.heap.size+1,1,O⟩ (V g o m)):=(zv (U:=fun b=>b=w.heap.size+1) rfl _).trans (zv (U:=fun b=>b=w.heap.size+1) rfl _);have e9:((A.setCell ⟨w.heap.size+1,0,O⟩ (G l)).setCell ⟨w.heap.size+1,1,O⟩ (V g o m)).heap[w.heap.size+1]? =E (cl #[G l,V g o m] 85):=by
   rw[Xk (Xk r1)];rfl
  have c9:=a7.cell (c_ 0 e9);have aV:=a7.cell (c_ 1 e9);have b9:=H5.out.wr aH (fun b u=>by rw[u];exact zE r1 (by intro aL J;simp at J;rcases J with rfl|rfl<;>(intro n e;cases e)));have aY:=(Qg L (h1.below (B:=w.heap.size) L.size (fun b u=>om))).trans (aH.below (by have:=L.size;have:=h1.size;omega) (fun b u=>om));exact⟨ag #[G l,V g o m],by simp[results,results176,go_sem,c9,aV],⟨l,g,o,m⟩,rfl,b9.keep a7,(a7.mono L.size).below aY (zh _) (zh _)⟩
 case stop=>exact fun _ _ _ _ _ _ h _=>h.elim
def BlI (w1:H)(g7:Nat)(n:Nat)(m:T.Tri)(q:Nat->Int×Nat)(k:Nat)(M:Nat->Prop)(A:H):Prop:=
 Wr (fun b=>b=g7) w1 A/\k<=n/\(∃(v:Value) (us:List T.Tri) (fr:Nat×Nat),us.length=k/\A.heap[g7]? =E (cl #[G m.b,m.up,m.down,v] 303 fr)/\A.frozen? (Xd g7 3 O)=false/\Grw w1.heap.size 87 3 A v (us.map T.Tri.cells)/\(∀(i:Nat) (u:T.Tri),us[i]? =E u->Qa A u.val (q i).1 (q i).2)/\∀b,M b↔b=g7\/v.ownBlock=E b)
theorem BlI.keep{w1 A B:H}{d n:Nat}{m:T.Tri}{q:Nat->Int×Nat}{k:Nat}{M:Nat->Prop}(h:BlI w1 d n m q k M A)(b:zn w1.heap.size A B):BlI w1 d n m q k M B:=by
 obtain⟨i,j,v,u,g,l,f,o,p,s,t⟩:=h;have e:=b.block _ _ f (.inr rfl);exact⟨i.keep b,j,v,u,g,l,e,(qw (w:=A) (a:=⟨d,3,O⟩) (e.trans f.symm)).trans o,p.keep b,fun i u d=>(s i u d).keep b,t⟩
theorem FList.open{fa:Option Addr}{fl fc:Nat}{a:List (Int×Nat)}(h:FList w (V fa fl fc) a):∃ts:List T.Tri,fl=ts.length/\ts.length=a.length/\ZS w 87 (V fa ts.length fc) 3 (ts.map T.Tri.cells)/\∀(i:Nat) (t:T.Tri) (q:Int×Nat),ts[i]? =E t->a[i]? =E q->Qa w t.val q.1 q.2:=by
 obtain⟨ts,b,a,d⟩:=h;obtain⟨_,_,e⟩:=a.shape;rw[zm]at e;simp only[qp]at e;obtain⟨rfl,rfl,rfl⟩:=e;exact⟨ts,rfl,b,a,d⟩
