import Derived.Test.YtfbkaflfnjinaaaGreatDoorShr1Z7
open Option renaming none->O,some->E
open Go.Value renaming slice->V,bool->G,string->gS,pointer->pn,tuple->tp,int->it,agg->ag
open Go.Obj renaming cells->cl
open Go renaming World->H
open Go.Proofs.Tryz renaming prog->pg
open Go.Proofs.Tryz
open Go.Ending renaming returned->Xa
open Go.IntKind renaming i64->Xb
open Go.Addr renaming mk->Xd
set_option linter.unusedSimpArgs false
set_option linter.unusedVariables false
set_option maxHeartbeats 4000000
set_option maxRecDepth 100000
namespace Go.Proofs.YtfbkaflfnjinaaaGreatDoor
namespace T
open Go.RowKit
theorem Cw (z)(h1:-1000000000<=z)(h2:z<=1000000000):IntKind.i64.wrap z=z:=by rw[IntKind.wrap_i64];omega
def eS (gs xs:L_):Int:=(List.zipWith (· * ·) gs xs).sum
theorem yZ {a xs:L_}{j}(hg)(d:j<xs.length):eS (a.take (j+1)) (xs.take (j+1))=eS (a.take j) (xs.take j)+a[j]*xs[j]:=by unfold eS;have b:(a.take j).length=(xs.take j).length:=g_;rw[ZQ hg,ZQ d,List.zipWith_append b,List.sum_append];simp
def fj (x:L_×U_×Int):R_:=
 (if x.2.1= [62,61]then []else [(x.1,x.2.2)])++(if x.2.1= [60,61]then []else [(x.1.map λz=>-z,-x.2.2)])
def fe (n i:Nat):L_:=(List.range n).map λk=>if k=i then 1 else 0
def gO (n i:Nat)(r:Int×Int):R_:= [(fe n i,r.2),((fe n i).map λz=>-z,-r.1)]
def eV (p:qF):R_:=p.rows.flatMap fj++(List.range p.n).flatMap λi=>gO p.n i (p.rg.getD i (0,0))
end T

section
open V4
variable {a_ x:L_}
theorem UH{n}{l:L_}(h:l.length=n)(e:n<=4):(n=0/\l= [])\/(n=1/\∃a,l= [a])\/(n=2/\∃a b,l= [a,b])\/(n=3/\∃a b c,l= [a,b,c])\/(n=4/\∃a b c d,l= [a,b,c,d]):=by match l,h with |[],h=>grind |[a],h=>grind |[a,b],h=>grind |[a,b,c],h=>grind |[a,b,c,d],h=>grind |a::b::c::d::e::r,h=>grind
theorem JE{f:Int->Int->Int}(a:f 0 0=0){xs ys:L_}(h:xs.length=ys.length)(i):(List.zipWith f xs ys).getD i 0=f (xs.getD i 0) (ys.getD i 0):=by grind
theorem QD{g}(h:g.length=x.length)(a:x.length<=4):T.eS g x=(fh g).dot (fh x):=by rcases UH rfl a with ⟨e,rfl⟩|⟨e,a,rfl⟩|⟨e,a,b,rfl⟩|⟨e,a,b,c,rfl⟩|⟨e,a,b,c,_,rfl⟩<;> rcases UH (l:=g) rfl om with ⟨a,rfl⟩|⟨a,b,rfl⟩|⟨a,b,d,rfl⟩|⟨a,b,d,e,rfl⟩|⟨a,b,d,e,_,rfl⟩<;> first|omega|(simp[T.eS,fh,dot];try omega)
theorem znH{l}{i}(h:l.length<=i)(b:i<4):(QV i).dot (fh l)=0:=by have a:l.getD i 0=0:=g_;obtain⟨d,e,f,g⟩:=D0 (fh l);rcases oF b with rfl|rfl|rfl|rfl;{rw[d];exact a};{rw[e];exact a};{rw[f];exact a};rw[g];exact a
def ZJ (over:Nat)(x:L_)(t:Int)(y:L_)(u:Int):L_:=List.zipWith (λa b=>(a*t+b*u)/(over)) x y
theorem I0(over)(x)(t)(y)(u)(h:x.length=y.length):(ZJ over x t y u).length=x.length:=by simp[ZJ,h]
theorem Pd{over:Nat}(ho:0<over){y}(h:x.length=y.length)(t u){z}(a:z.smul (over)=((fh x).smul t).add ((fh y).smul u)):fh (ZJ over x t y u)=z:=by
 have b:∀i d,over*d=t*x.getD i 0+u*y.getD i 0->(ZJ over x t y u).getD i 0=d:=by intro i d e;unfold ZJ;rw[JE sp h];(have:x.getD i 0*t+y.getD i 0*u=over*d:=by rw[e,Qp t,Qp u]);rw[this];exact jI _ om
 simp only[smul,add,fh,V4.mk.injEq]at a;exact ext' (b 0 _ a.1) (b 1 _ a.2.1) (b 2 _ a.2.2.1) (b 3 _ a.2.2.2)
def qT (a_ x:L_):L_:=T.eS a_ x::List.zipWith (λa r=>if a<=0 then -r else r) a_ x
def Qx:L_->Int
 |[]=>0
 |a::r=>if a.sign=0 then Qx r else a.sign
theorem CG(h:a_.length=x.length)(d:x.length<=4)(i:Nat)(m:i<5):(qT a_ x).getD i 0=rk a_ (fh x) i:=by cases i with |zero=>exact QD h d |succ i=>have e:(qT _ x).getD (i+1) 0=(List.zipWith _ a_ x).getD i 0:=rfl;rw[e,JE sp h];have f:rk _ _ (i+1)=(if a_.getD i 0<=0 then(QV i).smul (-1)else QV i).dot (fh x):=rfl;(have a:(QV i).dot (fh x)=x.getD i 0:=by obtain⟨g,j,k,l⟩:=D0 (fh x);rcases oF (show i<4 by omega)with rfl|rfl|rfl|rfl;{exact g};{exact j};{exact k};exact l);rw[f];split;{rw[iA,a];omega};omega
theorem OS:∀(l:L_),l.length<=5->(0<Qx l↔JK (λi=>l.getD i 0))
 |[],_=>by refine⟨λh=>by simp[Qx]at h,λ⟨k,_,_,b⟩=>by simp at b⟩ |a::r,g=>by rw[Qx];have d:=OS r (by simp at g;omega);split;{rename_i e;have f:=Kb.1 e;rw[d];constructor;{rintro⟨k,m,d,b⟩;(have j:k<r.length:=by refine Ze λj=>?_;have j:0<r.getD k 0:=b;rw[zk,qL om]at j;simp at j);refine⟨k+1,by simp at g;omega,λi g=>?_,b⟩;cases i with |zero=>exact f |succ i=>exact d i om};rintro⟨k,m,d,b⟩;cases k with |zero=>have j:0<a:=b;omega |succ k=>exact⟨k,om,λi g=>d (i+1) om,b⟩};rename_i e;have f:a≠0:=λj=>e (by rw[j];rfl);constructor;{intro h;exact⟨0,om,λi g=>absurd g (Nat.not_lt_zero _),Int.sign_pos_iff.1 h⟩};rintro⟨k,m,d,b⟩;cases k with |zero=>exact Int.sign_pos_iff.2 b |succ k=>exact absurd (d 0 om) f
theorem T5:∀(l:L_),Qx (l.map λz=>-z)=- Qx l
 |[]=>rfl |a::r=>by rw[Zk,Qx,Qx,Int.sign_neg,T5 r];have:(-a.sign=0)↔(a.sign=0):=om;simp only[this];split<;>rfl
theorem zoF(l)(a:l.length<=5):Qx l<0↔JK (λi=>-(l.getD i 0)):=by have h:=OS (l.map λz=>-z) g_;rw[T5]at h;grind
theorem JK.congr{f g}(h:JK f)(e:∀i,i<5->f i=g i):JK g:=by obtain⟨k,a,j,d⟩:=h;exact⟨k,a,λi b=>g_,g_⟩
theorem pV.congr{f g}(h:pV f)(e:∀i,i<5->f i=g i):pV g:=by rcases h with h|h;{exact .inl λi a=>g_};exact .inr (h.congr e)
theorem Nf(a_ x):(qT a_ x).length=min a_.length x.length+1:=by simp[qT]
theorem O3(h:a_.length=x.length)(d:x.length<=4):0<Qx (qT a_ x)↔JK (rk a_ (fh x)):=by rw[OS _ (by rw[Nf];omega)];exact⟨λb=>b.congr (λi a=>CG h d i a),λb=>b.congr (λi a=>(CG h d i a).symm)⟩
theorem sign_neg(h:a_.length=x.length)(d:x.length<=4):Qx (qT a_ x)<0↔JK (λi=>- rk a_ (fh x) i):=by rw[zoF _ (by rw[Nf];omega)];exact⟨λb=>b.congr (λi a=>by rw[CG h d i a]),λb=>b.congr (λi a=>by rw[CG h d i a])⟩
end

section
open V4
variable {i:Nat}
structure gE where
 row:L_×Int
 num:Nat
 eO:L_
structure fF where
 over:Nat
 eT:L_
 eN:List gE
def Z2 (c:fF)(r:L_×Int):Int:=r.2*(c.over)-T.eS r.1 c.eT
def Q5 (a_:L_)(over:Nat)(g:L_):List gE->Option (gE×Int)->Option (gE×Int)
 |[],b=>b
 |e::es,b=>
  if T.eS g e.eO<=0 then Q5 a_ over g es b
  else match b with
   |none=>Q5 a_ over g es (E (e,T.eS g e.eO))
   |some (o,pv)=>if Qx (qT a_ (ZJ over e.eO pv o.eO (-(T.eS g e.eO))))<0 then Q5 a_ over g es (E (e,T.eS g e.eO))else Q5 a_ over g es (E (o,pv))
theorem Gy(a_)(over)(g)(e)(es:List _)(b:Option (gE×Int)):Q5 a_ over g (e::es) b=
 if T.eS g e.eO<=0 then Q5 a_ over g es b
 else match b with
  |none=>Q5 a_ over g es (E (e,T.eS g e.eO))
  |some (o,pv)=>if Qx (qT a_ (ZJ over e.eO pv o.eO (-(T.eS g e.eO))))<0 then Q5 a_ over g es (E (e,T.eS g e.eO))else Q5 a_ over g es (E (o,pv)):=by cases b<;>rfl
def AK (over:Nat)(r:L_×Int)(num:Nat)(o:gE)(pv:Int)(es:List gE):List gE:=
 es.map λe=>if e.num=o.num then⟨r,num,e.eO⟩else⟨e.row,e.num,ZJ over e.eO pv o.eO (-(T.eS r.1 e.eO))⟩
def Qe (a_:L_)(c:fF)(r:L_×Int)(num:Nat):Option fF:=
 match Q5 a_ c.over r.1 c.eN O with
 |none=>O
 |some (o,pv)=>E ⟨pv.natAbs,ZJ c.over c.eT pv o.eO (Z2 c r),AK c.over r num o pv c.eN⟩
def eR (c:fF)(i:Nat):V4:=match c.eN[i]? with|some e=>fh e.row.1|none=>QV i
def eM (c:fF)(i:Nat):Int:=match c.eN[i]? with|some e=>e.row.2|none=>0
structure Qy (n:Nat)(a_:L_)(c:fF):Prop where
 n4:n<=4
 ld:a_.length=n
 len:c.eN.length=n
 fK:c.eT.length=n
 ij:∀e∈c.eN,e.row.1.length=n/\e.eO.length=n
 pos:0<c.over
 Cm:∃s:Int,(s=1\/s=-1)/\(c.over:Int)=s*Jb (eR c)/\(∀i e,c.eN[i]? =E e->fh e.eO=(QL (eR c) i).smul s)/\fh c.eT=(Ay (QL (eR c)) (eM c)).smul s
 lex:∀e∈c.eN,JK (rk a_ (fh e.eO))
 Hs:(c.eN.map gE.num).Nodup
theorem TY{s}(h:s=1\/s=-1):s*s=1:=by rcases h with rfl|rfl<;>rfl
theorem Ev{c}{e}(h:c.eN[i]? =E e):eR c i=fh e.row.1:=by unfold eR;rw[h]
theorem LC{c}(h:c.eN.length<=i):eR c i=QV i:=by unfold eR;rw[qL h]
theorem Gq{c}{e}(h:c.eN[i]? =E e):eM c i=e.row.2:=by unfold eM;rw[h]
theorem K0{c}(h:c.eN.length<=i):eM c i=0:=by unfold eM;rw[qL h]
theorem jQ{a:Type}{l:List a}{e:a}(h:l[i]? =E e):i<l.length:=(zo.1 h).1
section

variable {n:Nat} {a_:L_} {c:fF}
theorem Qy.lt (h:Qy n a_ c){i}{e}(a:c.eN[i]? =E e):i<4:=by have:=jQ a;have:=h.len;have:=h.n4;omega
theorem Qy.mem (h:Qy n a_ c){i:Nat}{e}(a:c.eN[i]? =E e):e.row.1.length=n/\e.eO.length=n:=h.ij e (zx a)
theorem Qy.mV (h:Qy n a_ c){i j:Nat}{e f}(a:c.eN[i]? =E e)(b:c.eN[j]? =E f):T.eS e.row.1 f.eO=if i=j then(c.over:Int)else 0:=by obtain⟨_,_,g,d,_⟩:=h.Cm;have k:=h.mem a;have k:=h.mem b;have k:=h.n4;rw[QD om om,d j f b,fq,<-Ev a,AP _ _ _ (h.lt a) (h.lt b)];grind
theorem Qy.nh (h:Qy n a_ c){i:Nat}{e}(a:c.eN[i]? =E e):T.eS e.row.1 c.eT=(c.over)*e.row.2:=by have⟨_,_,b,_,d⟩:=h.Cm;have f:=h.mem a;have f:=h.n4;have f:=h.fK;rw[QD om om,d,fq,<-Ev a,Lf _ _ _ (h.lt a),Gq a,b];grind
end
variable {a_:L_}{c:fF}{n:Nat}
theorem C8{g:Type}(f:g->Int):∀(l:List g),l.length<=4->(l.map f).sum=(l[0]?.map f).getD 0+(l[1]?.map f).getD 0+(l[2]?.map f).getD 0+(l[3]?.map f).getD 0
 |[],_=>rfl |[a],_=>sp |[a,b],_=>sp |[a,b,c],_=>by simp[Int.add_assoc] |[a,b,c,d],_=>by simp[Int.add_assoc] |a::b::c::d::e::r,h=>by simp at h
theorem Qy.complete(h:Qy n a_ c){x}(a:x.length=n)(g:V4):
 (c.over)*g.dot (fh x)=g.dot (fh c.eT)-(c.eN.map λe=>(e.row.2-T.eS e.row.1 x)*g.dot (fh e.eO)).sum:=by
 obtain⟨s,_,f,b,d⟩:=h.Cm;have a:=h.n4;have a:=h.len;have a:=qm (λv=>s*g.dot v) (OP (eR c) (fh x));simp only[fq,lq]at a;rw[C8 _ _ om,d,fq,R9];have a:∀i,i<4->((c.eN[i]?.map λe=>(e.row.2-T.eS e.row.1 x)*g.dot (fh e.eO)).getD 0)=s*(eM c i*g.dot (QL (eR c) i))-s*((eR c i).dot (fh x)*g.dot (QL (eR c) i)):=by intro i d;cases he:c.eN[i]? with |some e=>have j:=h.mem he;rw[Gq he,Ev he,qY,qB,b i e he,fq,QD om om];grind |none=>have b:=Ju.1 he;rw[K0 b,LC b,znH om d];simp
 grind
theorem Qy.nR(h:Qy n a_ c){j k:Nat}{o e:gE}(b:c.eN[j]? =E o)(d:c.eN[k]? =E e)(t:k≠j){g:L_}(hg:g.length=n)(u:T.eS g o.eO≠0):
 ∃s:Int,(s=1\/s=-1)/\fh (ZJ c.over e.eO (T.eS g o.eO) o.eO (-(T.eS g e.eO)))=(QL (xb (eR c) j (fh g)) k).smul s/\(fh (ZJ c.over e.eO (T.eS g o.eO) o.eO (-(T.eS g e.eO)))).smul (c.over:Int)=((fh e.eO).smul (T.eS g o.eO)).add ((fh o.eO).smul (-(T.eS g e.eO)))/\(c.over:Int)=s*Jb (eR c)/\fh o.eO=(QL (eR c) j).smul s:=by
 obtain⟨s,m,l,f,_⟩:=h.Cm;have a:=h.n4;have a:=h.mem b;have a:=h.mem d;have a:=TY m;have a:=f j o b;have i:=f k e d;have f:T.eS g o.eO=s*(fh g).dot (QL (eR c) j):=by rw[QD om om,a,fq]
 have p:T.eS g e.eO=s*(fh g).dot (QL (eR c) k):=by rw[QD om om,i,fq]
 have v:(fh g).dot _≠0:=λq=>u (by rw[f,q];simp);have q:=zlx _ j k (h.lt b) (h.lt d) t _ v;have d:((QL (xb (eR c) j (fh g)) k).smul s).smul (c.over:Int)=((fh e.eO).smul (T.eS g o.eO)).add ((fh o.eO).smul (-(T.eS g e.eO))):=by (have b:((QL (xb (eR c) j (fh g)) k).smul s).smul (c.over:Int)=(QL (xb (eR c) j (fh g)) k).smul (Jb (eR c)):=by rw[iW,l];congr 1;grind);rw[b,q,a,i,iW,iW,f,p];congr 2<;>grind
 have b:=Pd h.pos om _ _ d;grind
def BX (a_ g:L_)(done:List gE):Option (gE×Int)->Prop
 |none=>∀e∈done,T.eS g e.eO<=0
 |some (o,pv)=>o∈done/\pv=T.eS g o.eO/\0<pv/\∀e∈done,0<T.eS g e.eO->pV (λi=>pv*rk a_ (fh e.eO) i-T.eS g e.eO*rk a_ (fh o.eO) i)
theorem Hf(h:Qy n a_ c){g:L_}(hg:g.length=n):∀(es done:List gE) (b:Option (gE×Int)),c.eN=done++es->BX a_ g done b->BX a_ g c.eN (Q5 a_ c.over g es b)
 |[],done,b,j,d=>by rw[ZR]at j;rw[j];exact d |e::es,done,b,j,d=>by (have k:c.eN=(done ++ [e])++es:=by rw[j];simp);rw[Gy];by_cases i:T.eS g e.eO<=0;{rw[zQ i];refine Hf h hg es _ b k ?_;cases b with |none=>intro x a;rcases zU.1 a with a|a;{exact d x a};rw[qg.1 a];exact i |some s=>obtain⟨o,pv⟩:=s;obtain⟨l,f,m,q⟩:=d;refine⟨QN _ l,f,m,λx a f=>?_⟩;rcases zU.1 a with a|a;{exact q x a f};rw[qg.1 a]at f;omega};rw[zO i];cases b with |none=>refine Hf h hg es _ _ k ⟨sp,rfl,om,λx a f=>?_⟩;rcases zU.1 a with a|a;{have:=d x a;omega};rw[qg.1 a];exact .inl λi _=>Int.sub_self _ |some s=>obtain⟨o,pv⟩:=s;obtain⟨l,rfl,m,q⟩:=d;obtain⟨v,t,u⟩:=qM l;(have s:c.eN[v]? =E o:=by rw[j,zS t,zg t,u]);(have t:c.eN[done.length]? =E e:=by rw[j,zG (zh _)];simp);obtain⟨_,_,_,j,-⟩:=h.nR s t om hg om;have u:=h.mem s;have s:=h.mem t;have s:=h.n4;(have u:(ZJ c.over e.eO (T.eS g o.eO) o.eO (-(T.eS g e.eO))).length=n:=by rw[I0 _ _ _ _ _ om];omega);(have s:∀i,i<5->(c.over:Int)*rk a_ (fh (ZJ c.over e.eO (T.eS g o.eO) o.eO (-(T.eS g e.eO)))) i=T.eS g o.eO*rk a_ (fh e.eO) i-T.eS g e.eO*rk a_ (fh o.eO) i:=by intro i _;rw[<-JH,j,Il,JH,JH];grind);(have w:0<(c.over:Int):=by have:=h.pos;omega);have t:=sign_neg (a_:=a_) (x:=ZJ c.over e.eO (T.eS g o.eO) o.eO (-(T.eS g e.eO))) (by rw[h.ld,u]) om;simp only;split;{rename_i j;have u:=t.1 j;(have v:JK (λi=>T.eS g e.eO*rk a_ (fh o.eO) i-T.eS g o.eO*rk a_ (fh e.eO) i):=by refine u.comb (g:=λ_=>0) (p:=1) (q:=(c.over:Int)) (r:=0) (.inl λ_ _=>rfl) om w om (λi d=>?_);have:=s i d;grind);refine Hf h hg es _ _ k ⟨sp,rfl,om,λx a f=>?_⟩;rcases zU.1 a with a|a;{have u:=q x a f;refine u.comb v.n (p:=T.eS g o.eO) (q:=T.eS g e.eO) (r:=T.eS g x.eO) m om om (λi d=>?_);grind};rw[qg.1 a];exact .inl λi _=>Int.sub_self _};rename_i j;refine Hf h hg es _ _ k ⟨QN _ l,rfl,m,λx a f=>?_⟩;rcases zU.1 a with a|a;{exact q x a f};rw[qg.1 a];rcases Pm (λi=>- rk a_ (fh (ZJ c.over e.eO (T.eS g o.eO) o.eO (-(T.eS g e.eO)))) i)with a|a;{exact absurd (t.2 a) j};refine a.comb (g:=λ_=>0) (p:=1) (q:=(c.over:Int)) (r:=0) (.inl λ_ _=>rfl) om om om (λi d=>?_);have:=s i d;grind
end

section
open V4
theorem Wg {over:Nat}{r:L_×Int}{num:Nat}{o:gE}{pv:Int}{es:List gE}(g:(es.map gE.num).Nodup){j:Nat}(f:es[j]? =E o):
 (AK over r num o pv es)[j]? =E ⟨r,num,o.eO⟩/\∀i e,i≠j->es[i]? =E e->(AK over r num o pv es)[i]? =E ⟨e.row,e.num,ZJ over e.eO pv o.eO (-(T.eS r.1 e.eO))⟩:=by
 unfold AK;refine⟨g_,λi e h d=>?_⟩;have p:e.num≠o.num:=by intro l;have a:=jQ d;have b:=jQ f;have m:=Lt.1 g;(have g:(es.map gE.num)[i]'(by grind)=e.num:=by rw[Gh];rw[(zo.1 d).2]);(have k:(es.map gE.num)[j]'(by grind)=o.num:=by rw[Gh];rw[(zo.1 f).2]);rcases N7 h with h|h;{grind};grind
 grind
structure xL (n:Nat)(a_:L_)(c:fF)(r:L_×Int)(num:Nat)(c':fF)(j:Nat)(o:gE):Prop where
 fJ:Qy n a_ c'
 at_:c.eN[j]? =E o
 lI:0<T.eS r.1 o.eO
 over:(c'.over:Int)=T.eS r.1 o.eO
 eT:(fh c'.eT).smul (c.over:Int)=((fh c.eT).smul (T.eS r.1 o.eO)).add ((fh o.eO).smul (Z2 c r))
 new:c'.eN[j]? =E ⟨r,num,o.eO⟩
 q_:∀i e,i≠j->c.eN[i]? =E e->c'.eN[i]? =E ⟨e.row,e.num,ZJ c.over e.eO (T.eS r.1 o.eO) o.eO (-(T.eS r.1 e.eO))⟩
 least:∀e∈c.eN,0<T.eS r.1 e.eO->pV (λi=>T.eS r.1 o.eO*rk a_ (fh e.eO) i-T.eS r.1 e.eO*rk a_ (fh o.eO) i)
theorem OZ {n:Nat}{a_:L_}{c:fF}(h:Qy n a_ c){r:L_×Int}(I:r.1.length=n){num:Nat}(an:∀e∈c.eN,e.num≠num):
 (Qe a_ c r num=O->∀e∈c.eN,T.eS r.1 e.eO<=0)/\∀c',Qe a_ c r num=E c'->∃j o,xL n a_ c r num c' j o:=by have J:=Hf h I c.eN [] O rfl (λe z=>g_);unfold Qe;cases hL:Q5 a_ c.over r.1 c.eN O with |none=>rw[hL]at J;exact⟨λ_=>J,λc' l=>g_⟩ |some v=>obtain⟨o,pv⟩:=v;rw[hL]at J;obtain⟨Y,rfl,ae,a7⟩:=J;refine⟨(λl=>g_),λc' l=>?_⟩;simp only[qN]at l;obtain⟨j,a4,ak⟩:=qM Y;have u:c.eN[j]? =E o:=g_;obtain⟨m,q⟩:=Wg (over:=c.over) (r:=r) (num:=num) (pv:=T.eS r.1 o.eO) h.Hs u;obtain⟨s,hs,A,al,ad⟩:=h.Cm;have aw:=TY hs;have ah:=h.n4;have F:=h.mem u;have W:=h.lt u;have N:=al j o u;(have B:T.eS r.1 o.eO=s*(fh r.1).dot (QL (eR c) j):=by rw[QD om om,N,fq]);(have ao:(fh _).dot _≠0:=λM=>by rw[M]at B;simp at B;omega);have a1:c'.eN=AK c.over r num o (T.eS r.1 o.eO) c.eN:=g_;(have aj:c'.eN.length=n:=by rw[a1];simp[AK,h.len]);rw[<-a1]at m q;(have C:eR c'=xb (eR c) j (fh r.1):=by funext i;by_cases a:i=j;{subst a;rw[LK,Ev m]};rw[MV _ _ a];cases d:c.eN[i]? with |some e=>rw[Ev (q i e a d),Ev d] |none=>have D:=Ju.1 d;have:=h.len;rw[LC om,LC D]);(have hM:eM c'=λi=>if i=j then r.2 else eM c i:=by funext i;by_cases a:i=j;{subst a;rw[zQ rfl,Gq m]};rw[zO a];cases d:c.eN[i]? with |some e=>rw[Gq (q i e a d),Gq d] |none=>have D:=Ju.1 d;have:=h.len;rw[K0 om,K0 D]);have a9:(c'.over:Int)=T.eS r.1 o.eO:=g_;(have ap:(ZJ c.over c.eT (T.eS r.1 o.eO) o.eO (Z2 c r)).length=n:=by rw[I0 _ _ _ _ _ (by rw[h.fK,F.2])];exact h.fK);have R:c'.eT=ZJ c.over c.eT (T.eS r.1 o.eO) o.eO (Z2 c r):=g_;(have au:Z2 c r=s*(r.2*Jb (eR c)-(fh r.1).dot (Ay (QL (eR c)) (eM c))):=by unfold Z2;rw[QD (by rw[h.fK];omega) (by rw[h.fK];omega),ad,fq,A];grind);have af:=zjT _ (eM c) j W _ r.2 ao;rw[<-C,<-hM]at af;(have hz:((Ay (QL (eR c')) (eM c')).smul s).smul (c.over:Int)=((fh c.eT).smul (T.eS r.1 o.eO)).add ((fh o.eO).smul (Z2 c r)):=by (have e3:((Ay (QL (eR c')) (eM c')).smul s).smul (c.over:Int)=(Ay (QL (eR c')) (eM c')).smul (Jb (eR c)):=by rw[iW,A];congr 1;grind);rw[e3,af,ad,N,iW,iW,B,au];congr 2<;>grind);have aa:=Pd h.pos (by rw[h.fK,F.2]) _ _ hz;(have a6:∀i e,i≠j->c.eN[i]? =E e->fh (ZJ c.over e.eO (T.eS r.1 o.eO) o.eO (-(T.eS r.1 e.eO)))=(QL (eR c') i).smul s/\(fh (ZJ c.over e.eO (T.eS r.1 o.eO) o.eO (-(T.eS r.1 e.eO)))).smul (c.over:Int)=((fh e.eO).smul (T.eS r.1 o.eO)).add ((fh o.eO).smul (-(T.eS r.1 e.eO))):=by intro i e a d;obtain⟨s',_,K,L,c3,_⟩:=h.nR u d a I om;(have av:s'=s:=by (have hd:Jb (eR c)≠0:=λM=>by rw[M]at A;simp at A;have:=h.pos;omega);rw[A]at c3;exact(Int.eq_of_mul_eq_mul_right hd c3).symm);subst av;exact⟨by grind,L⟩);(have a2:(c'.over:Int)=s*Jb (eR c'):=by rw[a9,B,C,Kg _ _ W]);refine⟨j,o,⟨⟨ah,h.ld,aj,g_,?_,?_,⟨s,hs,a2,?_,g_⟩,?_,?_⟩,u,ae,a9,g_,m,q,a7⟩⟩;{intro e z;obtain⟨i,U,S⟩:=qM z;have b:c'.eN[i]? =E e:=g_;by_cases a:i=j;{grind};(have t:i<c.eN.length:=by rw[h.len];omega);have f:=zg t;rw[q i _ a f]at b;cases b;have hm:=h.mem f;exact⟨hm.1,by simp only;rw[I0 _ _ _ _ _ om];omega⟩};{omega};{intro i e b;by_cases a:i=j;{subst a;rw[m]at b;cases b;rw[C,TS _ _ W];omega};(have t:i<c.eN.length:=by have:=jQ b;rw[h.len];omega);grind};{intro e z;obtain⟨i,U,S⟩:=qM z;have b:c'.eN[i]? =E e:=g_;by_cases a:i=j;{subst a;rw[m]at b;cases b;exact h.lex o Y};(have t:i<c.eN.length:=by rw[h.len];omega);have f:=zg t;rw[q i _ a f]at b;cases b;obtain⟨K,L⟩:=a6 i _ a f;generalize hq:ZJ c.over c.eN[i].eO (T.eS r.1 o.eO) o.eO (-(T.eS r.1 c.eN[i].eO))=v at *;(have a5:∀k,k<5->(c.over:Int)*rk a_ (fh v) k=T.eS r.1 o.eO*rk a_ (fh c.eN[i].eO) k-T.eS r.1 c.eN[i].eO*rk a_ (fh o.eO) k:=by intro k _;rw[<-JH,L,Il,JH,JH];grind);(have ab:0<(c.over:Int):=by have:=h.pos;omega);show JK (rk _ (fh v));by_cases hg:T.eS r.1 c.eN[i].eO<=0;{refine(h.lex _ (zJ t)).comb (h.lex o Y).n (r:=- T.eS r.1 c.eN[i].eO) ab ae om (λk X=>?_);grind};have hN:=a7 _ (zJ t) om;have w:=hN.comb (q:=1) (r:=0) (.inl λ_ _=>rfl) ab om om (λk X=>by rw[a5 k X];grind);rcases w with w|w;{exfalso;have ar:=X_ w;have a3:=h.lt f;have:=AP (eR c') i i a3 a3;rw[zQ rfl]at this;(have h3:s*Jb (eR c')=(eR c' i).dot (fh v):=by rw[K,fq,this]);rw[ar,mQ,<-a2]at h3;omega};exact w};(have e1:c'.eN.map gE.num=(c.eN.map gE.num).set j num:=by refine Ku λi=>?_;rw[zR,KC];by_cases a:i=j;{grind};rw[zO (λe=>a e.symm),zR];cases d:c.eN[i]? with |some e=>grind |none=>have D:=Ju.1 d;have:=h.len;grind);rw[e1];refine Lt.2 λZ a0 P Q ai=>?_;have aq:=Lt.1 h.Hs;rw[List.getElem_set,List.getElem_set];(have a8:∀i (d:i<(c.eN.map gE.num).length),(c.eN.map gE.num)[i]≠num:=λi d=>by rw[Gh];exact an _ (zJ _));simp only[qX]at P Q;split<;>split;{omega};{exact(a8 a0 Q).symm};{exact a8 Z P};exact aq Z a0 P Q ai
end

section
open V4
variable {a_:L_}{i n:Nat}
def AE (a_:L_)(bs:List ((L_×Int)×Nat)):fF:=
 let es:=bs.filterMap λb=>if 0<Qx (qT a_ b.1.1)then E (⟨b.1,b.2,b.1.1⟩)else O
 ⟨1,es.foldl (λpt e=>ZJ 1 pt 1 e.eO e.row.2) (List.replicate es.length 0),es⟩
def DV (rg:Nat->Int×Int)(k:Nat):Nat->List ((L_×Int)×Nat):=λn=>
 (List.range n).flatMap λi=> [((T.fe n i,(rg i).2),k+2*i+1),(((T.fe n i).map λz=>-z,-(rg i).1),k+2*i+2)]
def yI (n:Nat)(a_:L_)(rg:Nat->Int×Int)(k i:Nat):gE:=
 if a_.getD i 0<=0 then⟨((T.fe n i).map λz=>-z,-(rg i).1),k+2*i+2,(T.fe n i).map λz=>-z⟩else⟨(T.fe n i,(rg i).2),k+2*i+1,T.fe n i⟩
theorem QS(n i):(T.fe n i).length=n:=by simp[T.fe]
theorem El(b:n<=4)(a:i<n):fh (T.fe n i)=QV i:=by
 have a:∀k,(T.fe n i).getD k 0=if i=k then 1 else 0:=by intro k;unfold T.fe;rw[zk,zR];by_cases b:k<n;{grind};grind
 exact ext' (a 0) (a 1) (a 2) (a 3)
theorem I9(l):fh (l.map λz=>-z)=(fh l).smul (-1):=by have a:∀k,(l.map λz=>-z).getD k 0=-1*l.getD k 0:=g_;exact ext' (a 0) (a 1) (a 2) (a 3)
theorem zlR(a_:L_)(i):(if a_.getD i 0<=0 then(-1)else 1)*(if a_.getD i 0<=0 then(-1)else 1)=1:=by split<;>rfl
theorem Ia(i j)(a:i<4)(b:j<4):(QV i).dot (QV j)=if i=j then 1 else 0:=by rcases oF a with rfl|rfl|rfl|rfl<;>rcases oF b with rfl|rfl|rfl|rfl<;>rfl
theorem PX(x)(i):x.dot (QV i)=(QV i).dot x:=B8 _ _
theorem Ur(b:i<4):JK (rk a_ ((QV i).smul (if a_.getD i 0<=0 then(-1)else 1))):=by
 have e:∀t,rk a_ ((QV i).smul t) 0=t*a_.getD i 0:=by intro t;show(fh a_).dot _=_;rw[fq,PX];obtain⟨a,d,f,g⟩:=D0 (fh a_);rcases oF b with rfl|rfl|rfl|rfl;{rw[a];rfl};{rw[d];rfl};{rw[f];rfl};rw[g];rfl
 have f:∀t k,k<4->rk a_ ((QV i).smul t) (k+1)=if k=i then t*(if a_.getD i 0<=0 then(-1:Int)else 1)else 0:=by intro t k a;show(if a_.getD k 0<=0 then(QV k).smul (-1)else QV k).dot _=_;rw[fq];by_cases d:k=i;{subst d;rw[zQ rfl];split;{rw[iA,Ia _ _ a a,zQ rfl];rfl};rw[Ia _ _ a a,zQ rfl]};rw[zO d];split;{rw[iA,Ia _ _ a b,zO d];simp};rw[Ia _ _ a b,zO d];simp
 by_cases d:a_.getD i 0=0;{refine⟨i+1,om,λk a=>?_,?_⟩;{cases k with |zero=>grind |succ k=>grind};grind};refine⟨0,om,λk a=>absurd a (Nat.not_lt_zero _),?_⟩;grind
theorem IA(a_)(rg)(k)(b:n<=4)(a:i<n):
 fh (yI n a_ rg k i).row.1=(QV i).smul (if a_.getD i 0<=0 then(-1)else 1)/\(yI n a_ rg k i).eO=(yI n a_ rg k i).row.1/\(yI n a_ rg k i).row.1.length=n:=by unfold yI;split;{exact⟨by rw[I9,El b a],rfl,by simp[QS]⟩};refine⟨?_,rfl,QS _ _⟩;show fh (T.fe n i)=_;rw[El b a];exact ext' (QT _).symm (QT _).symm (QT _).symm (QT _).symm
theorem Og(f:a_.length=n)(e:n<=4)(rg)(k):
 (DV rg k n).filterMap (λb=>if 0<Qx (qT a_ b.1.1)then E (⟨b.1,b.2,b.1.1⟩)else O)=(List.range n).map (yI n a_ rg k):=by
 unfold DV;rw[List.filterMap_flatMap,List.map_eq_flatMap];have p:∀i∈List.range n,List.filterMap (λb:(L_×Int)×Nat=>if 0<Qx (qT a_ b.1.1)then E (⟨b.1,b.2,b.1.1⟩:gE)else O) [((T.fe n i,(rg i).2),k+2*i+1),(((T.fe n i).map λz=>-z,-(rg i).1),k+2*i+2)]= [yI n a_ rg k i]:=by intro i d;have d:=Z8.1 d;have a:=Ur (a_:=a_) (i:=i) om;have l:=O3 (a_:=a_) (x:=T.fe n i) (by rw[QS,f]) (by rw[QS];omega);have m:=O3 (a_:=a_) (x:=(T.fe n i).map λz=>-z) (by simp[QS,f]) (by simp[QS];omega);rw[El e d]at l;rw[I9,El e d]at m;(have q:∀{x:V4},JK (rk a_ x)->¬JK (rk a_ (x.smul (-1))):=by intro x g h;refine g.not_neg (h.n.congr (λk g=>?_));rw[JH];omega);have one:∀x:V4,x.smul 1=x:=λx=>ext' (QT _) (QT _) (QT _) (QT _);unfold yI;by_cases o:a_.getD i 0<=0;{grind};grind
 clear f e;generalize List.range n=l at *;induction l with |nil=>rfl |cons a l e=>grind
theorem Pb:∀(es:List gE) (pt:L_) (n:Nat),pt.length=n->(∀e∈es,e.eO.length=n)->(es.foldl (λpt e=>ZJ 1 pt 1 e.eO e.row.2) pt).length=n/\∀g:V4,g.dot (fh (es.foldl (λpt e=>ZJ 1 pt 1 e.eO e.row.2) pt))=g.dot (fh pt)+(es.map λe=>e.row.2*g.dot (fh e.eO)).sum
 |[],pt,n,a,_=>⟨a,λg=>sp⟩ |e::es,pt,n,a,b=>by have d:=b e qA;(have f:(ZJ 1 pt 1 e.eO e.row.2).length=n:=by rw[I0 _ _ _ _ _ om];exact a);have⟨a,d⟩:=Pb es (ZJ 1 pt 1 e.eO e.row.2) n f (λx f=>b x (qq _ f));refine⟨a,λg=>?_⟩;have a:=Pd (over:=1) om om 1 e.row.2 (z:=((fh pt).smul 1).add ((fh e.eO).smul e.row.2)) (ext' (QT _) (QT _) (QT _) (QT _));rw[IQ,d g,a,lq,fq,fq,Zk,QI];omega
theorem zmF(q:a_.length=n)(l:n<=4)(rg:Nat->Int×Int)(k:Nat):
 Qy n a_ (AE a_ (DV rg k n))/\(AE a_ (DV rg k n)).eN=(List.range n).map (yI n a_ rg k):=by
 have d:(AE _ _).eN=(List.range n).map _:=Og q l rg k;have y:(AE a_ (DV rg k n)).eT=((List.range n).map (yI n a_ rg k)).foldl (λa e=>ZJ 1 a 1 e.eO e.row.2) (List.replicate n 0):=by show List.foldl _ _ _=_;rw[Og q l rg k];simp
 have A:(AE a_ (DV rg k n)).over=1:=rfl;refine⟨?_,d⟩;generalize AE a_ (DV rg k n)=c at *;have g:∀i e,c.eN[i]? =E e↔i<n/\e=yI n a_ rg k i:=g_;have z:c.eN.length=n:=g_;have s:∀e∈c.eN,e.row.1.length=n/\e.eO.length=n:=by intro e b;rw[d]at b;obtain⟨i,a,rfl⟩:=qP.1 b;have f:=IA a_ rg k l (Z8.1 a);exact⟨f.2.2,by grind⟩
 obtain⟨sg,G0⟩:∃sg,sg=λi=>if i<n then(if a_.getD i 0<=0 then(-1)else 1)else 1:=⟨_,rfl⟩;have o:∀i,sg i*sg i=1:=g_;have one:∀x:V4,x.smul 1=x:=λx=>ext' (QT _) (QT _) (QT _) (QT _);have p:∀i,eR c i=(QV i).smul (sg i):=by intro i;by_cases a:i<n;{rw[Ev ((g i _).2 ⟨a,rfl⟩),(IA _ _ k l a).1,G0];grind};rw[LC om,G0];grind
 have f:=funext p;have h:Jb (eR c)=sg 0*sg 1*sg 2*sg 3:=by rw[f];simp only[Jb,Cm,DU,dot,smul,QV];simp;grind
 have f:Jb (eR c)*Jb (eR c)=1:=g_;have t:Jb (eR c)=1\/Jb (eR c)=-1:=g_;have u:Jb (eR c)≠0:=om;have w:∀i e,c.eN[i]? =E e->fh e.eO=eR c i:=by intro i e b;have m:=(g i e).1 b;rw[Ev b,m.2,(IA a_ rg k l m.1).2.1]
 have v:∀i j,i<4->j<4->(eR c i).dot (eR c j)=if i=j then 1 else 0:=by intro i j a g;rw[p,p,iA,fq,Ia i j a g];split;{grind};simp
 refine⟨l,q,z,?_,s,om,⟨_,t,om,λi e b=>?_,?_⟩,λe b=>?_,?_⟩;{rw[y];exact(Pb _ _ n sp (λe b=>(s e g_).2)).1};{have o:i<4:=g_;rw[w i e b];refine LQ u (λj g=>?_);rw[fq,AP _ _ _ g o,v j i g o];grind};{refine LQ u (λj g=>?_);rw[fq,Lf _ _ _ g,y,(Pb _ _ n sp (λe b=>(s e g_).2)).2,<-d,C8 _ _ om];(have o:fh (List.replicate n 0)=V4.zero:=by (have f:∀k,(List.replicate n (0:Int)).getD k 0=0:=λk=>by grind);exact ext' (f 0) (f 1) (f 2) (f 3));(have f:∀i,i<4->(c.eN[i]?.map λe=>e.row.2*(eR c j).dot (fh e.eO)).getD 0=eM c i*(if j=i then 1 else 0):=by intro i a;cases b:c.eN[i]? with |some e=>rw[qY,qB,w i e b,v j i g a,Gq b] |none=>rw[K0 (Ju.1 b)];simp);rw[o,mQ,f 0 om,f 1 om,f 2 om,f 3 om];grind};{rw[d]at b;obtain⟨i,a,rfl⟩:=qP.1 b;have a:=Z8.1 a;rw[(IA _ _ k l a).2.1,(IA _ _ k l a).1];exact Ur om};rw[d,ye];refine Lt.2 λa b m a a=>?_;simp only[Gh,Function.comp,List.getElem_range];unfold yI;grind
end

section
open V4
variable {a:Type}
theorem Dz(f g:a->Int)(l:List a):(l.map λe=>f e+g e).sum=(l.map f).sum+(l.map g).sum:=by induction l with |nil=>rfl |cons a l a=>grind
theorem Ch(k:Int)(f:a->Int)(l:List a):(l.map λe=>k*f e).sum=k*(l.map f).sum:=by induction l with |nil=>simp |cons a l a=>grind
theorem AG{f g:a->Int}{l:List a}(h:∀e∈l,f e=g e):(l.map f).sum=(l.map g).sum:=by rw[NY h]
theorem UN{f:a->Int}{l:List a}(h:∀e∈l,0<=f e):0<=(l.map f).sum:=by induction l with |nil=>simp |cons a l b=>grind
theorem Mb{f:a->Int}{l:List a}(h:∀e∈l,f e=0):(l.map f).sum=0:=by induction l with |nil=>rfl |cons a l b=>grind
section

variable {n:Nat} {a_:L_} {c:fF}
theorem Qy.nj (h:Qy n a_ c)(g:V4):g.dot (fh c.eT)=(c.eN.map λe=>e.row.2*g.dot (fh e.eO)).sum:=by
 have b:=h.complete (x:=List.replicate n 0) sp g;have d:fh (List.replicate n 0)=V4.zero:=by (have a:∀k,(List.replicate n (0:Int)).getD k 0=0:=λk=>by grind);exact ext' (a 0) (a 1) (a 2) (a 3)
 rw[d,mQ,Int.mul_zero]at b;have a:(c.eN.map λe=>(e.row.2-T.eS e.row.1 (List.replicate n 0))*g.dot (fh e.eO)).sum=(c.eN.map λe=>e.row.2*g.dot (fh e.eO)).sum:=by refine AG λe f=>?_;have:=(h.ij e f).1;have f:=h.n4;rw[QD (by grind) so,d,mQ,Int.sub_zero]
 omega
theorem Qy.all (h:Qy n a_ c)(g:V4){x}(a:x.length=n):(c.over)*g.dot (fh x)=(c.eN.map λe=>T.eS e.row.1 x*g.dot (fh e.eO)).sum:=by
 rw[h.complete a g,h.nj g];have a:(c.eN.map λe=>e.row.2*g.dot (fh e.eO)).sum=(c.eN.map λe=>(e.row.2-T.eS e.row.1 x)*g.dot (fh e.eO)).sum+(c.eN.map λe=>T.eS e.row.1 x*g.dot (fh e.eO)).sum:=by rw[<-Dz];refine AG λe _=>?_;grind
 omega
end
def JQ (r o:L_×Int)(t:Int):L_×Int:=(List.zipWith (λf w=>f+w*t) r.1 o.1,r.2+o.2*t)
def Qu (r:L_×Int)(d:Nat):L_×Int:=(r.1.map λz=>z/(d),r.2/(d))
def AL (l:L_):Nat:=l.foldl (λd z=>Nat.gcd d z.natAbs) 0
def Zc (a_:L_)(over:Nat)(r:Nat)(e:gE):Nat:=((qT a_ e.eO).getD r 0%(over)).toNat
def Qf (n:Nat)(a_:L_)(c:fF)(r:Nat):L_×Int:=c.eN.foldl (λacc e=>JQ acc e.row (Zc a_ c.over r e)) (List.replicate n 0,0)
def Zm (n:Nat)(a_:L_)(c:fF)(r:Nat):Nat:=AL (Qu (Qf n a_ c r) c.over).1
def Zd (n:Nat)(a_:L_)(c:fF)(r:Nat):L_×Int:=Qu (Qu (Qf n a_ c r) c.over) (Zm n a_ c r)
theorem Tw (t:gE->Int):∀(es:List gE) (a:L_×Int) (n:Nat),a.1.length=n->(∀e∈es,e.row.1.length=n)->(es.foldl (λa e=>JQ a e.row (t e)) a).1.length=n/\
 (∀i,(es.foldl (λa e=>JQ a e.row (t e)) a).1.getD i 0=a.1.getD i 0+(es.map λe=>t e*e.row.1.getD i 0).sum)/\(es.foldl (λa e=>JQ a e.row (t e)) a).2=a.2+(es.map λe=>t e*e.row.2).sum
 |[],a,n,b,_=>⟨b,λi=>sp,sp⟩ |e::es,a,n,b,d=>by have f:=d e qA;(have k:(JQ a e.row (t e)).1.length=n:=by simp[JQ,b,f]);obtain⟨g,h,j⟩:=Tw t es (JQ a e.row (t e)) n k (λx k=>d x (qq _ k));refine⟨g,λi=>?_,?_⟩;{rw[IQ,h i];have:(JQ a e.row (t e)).1.getD i 0=a.1.getD i 0+e.row.1.getD i 0*t e:=JE (f:=λd w=>d+w*t e) sp (by rw[b,f]) i;rw[this,Zk,QI,Qp (t e)];omega};rw[IQ,j,Zk,QI,Qp (t e)];show a.2+e.row.2*t e+_=_;omega
theorem M_:∀(l:L_) (d:Nat),(l.foldl (λd z=>Nat.gcd d z.natAbs) d) ∣ d/\∀z∈l,(l.foldl (λd z=>Nat.gcd d z.natAbs) d) ∣ z.natAbs
 |[],d=>⟨Nat.dvd_refl _,λz h=>by simp at h⟩ |a::l,d=>by have⟨h1,h2⟩:=M_ l (Nat.gcd d a.natAbs);rw[IQ];refine⟨Nat.dvd_trans h1 (t_ _ _),λz b=>?_⟩;rcases zI.1 b with rfl|b;{exact Nat.dvd_trans h1 (wm _ _)};exact h2 z b
theorem SB (l){z}(h:z∈l):(AL l:Int) ∣ z:=BG.2 ((M_ l 0).2 z h)
theorem V5 {l}{z}(h:z∈l)(b:z≠0):0<AL l:=by rcases Qd (AL l)with a|a;{have:=SB l h;simp_all};omega
structure vU (n:Nat)(a_:L_)(c:fF)(r:Nat):Prop where
 shared:0<Zm n a_ c r
 len:(Zd n a_ c r).1.length=n
 row:∀i,(((c.over*Zm n a_ c r:Nat):Int))*(Zd n a_ c r).1.getD i 0=(c.eN.map λe=>(Zc a_ c.over r e:Int)*e.row.1.getD i 0).sum
 most:(Zd n a_ c r).2=(c.eN.map λe=>(Zc a_ c.over r e:Int)*e.row.2).sum/(((c.over*Zm n a_ c r:Nat):Int))
 rest:(c.eN.map λe=>(Zc a_ c.over r e:Int)*e.row.2).sum%(c.over:Int)=rk a_ (fh c.eT) r%(c.over:Int)
 part:(rk a_ (fh c.eT) r)%(c.over:Int)≠0
theorem GB {n}{a_}{c}(h:Qy n a_ c){r}(d:r<5){e}(b:e∈c.eN):((Zc a_ c.over r e))=rk a_ (fh e.eO) r%(c.over):=by unfold Zc;have a:=h.ij e b;have b:=h.n4;have b:=h.pos;rw[CG (by rw[h.ld,a.2]) om r d];have:=J3 (rk a_ (fh e.eO) r) (show(c.over:Int)≠0 by omega);omega
theorem Th {a:Type}{f g:a->Int}{m:Int}{l:List a}(h:∀e∈l,f e%m=g e%m):(l.map f).sum%m=(l.map g).sum%m:=by induction l with |nil=>rfl |cons a l b=>simp only[Zk,QI];rw[Int.add_emod,h a qA,b (λe a=>h e (qq _ a)),<-Int.add_emod]
theorem Fa {n:Nat}{a_:L_}{c:fF}(h:Qy n a_ c){r:Nat}(d:r<5)(s:rk a_ (fh c.eT) r%(c.over:Int)≠0):vU n a_ c r:=by
 have m:=h.n4;have a:=h.pos;have C:(c.over:Int)≠0:=om;obtain⟨b,g,k⟩:=Tw (λe=>(Zc a_ c.over r e)) _ (List.replicate n 0,0) n sp (λe a=>(h.ij e a).1);have f:(Qf n _ c r).1.length=n:=b;have b:∀i,(List.replicate n (0:Int)).getD i 0=0:=λj=>g_;have j:∀i,(Qf n _ c r).1.getD i 0=(c.eN.map λe=>(Zc _ _ r e)*e.row.1.getD i 0).sum:=λi=>by have:=g i;rw[show(List.replicate n (0:Int),(0)).1=List.replicate n 0 from rfl,b,Int.zero_add]at this;exact this
 have t:(Qf n a_ c r).2=(c.eN.map λe=>(Zc a_ c.over r e:Int)*e.row.2).sum:=by have:=k;rw[show(List.replicate n (0:Int),(0:Int)).2=0 from rfl,Int.zero_add]at this;exact this
 have l:∀i,(c.over:Int) ∣ (Qf n a_ c r).1.getD i 0:=by intro i;by_cases p:i<n;{have k:=h.all (yg a_ r) (x:=T.fe n i) (QS _ _);(have b:∀e∈c.eN,T.eS e.row.1 (T.fe n i)=e.row.1.getD i 0:=by intro e a;have:=(h.ij e a).1;rw[QD (by rw[this,QS]) (by rw[QS];omega),El m p,PX];obtain⟨g,o,q,u⟩:=D0 (fh e.row.1);rcases oF (show i<4 by omega)with rfl|rfl|rfl|rfl;{exact g};{exact o};{exact q};exact u);refine PC ?_;rw[j i];(have g:(c.eN.map λe=>(Zc a_ c.over r e:Int)*e.row.1.getD i 0).sum%(c.over:Int)=(c.eN.map λe=>T.eS e.row.1 (T.fe n i)*(yg a_ r).dot (fh e.eO)).sum%(c.over:Int):=by refine Th λe a=>?_;rw[GB h d a,b e a,Qp,Int.mul_emod,Int.emod_emod,<-Int.mul_emod];rfl);rw[g,<-k];simp};simp_all
 have k:(c.eN.map λe=>(Zc a_ c.over r e:Int)*e.row.2).sum%(c.over:Int)=rk a_ (fh c.eT) r%(c.over:Int):=by have o:=h.nj (yg a_ r);have:rk a_ (fh c.eT) r=(c.eN.map λe=>e.row.2*(yg a_ r).dot (fh e.eO)).sum:=o;rw[this];refine Th λe a=>?_;rw[GB h d a,Qp,Int.mul_emod,Int.emod_emod,<-Int.mul_emod];rfl
 have q:∀i,(Qu (Qf n a_ c r) c.over).1.getD i 0*(c.over:Int)=(Qf n a_ c r).1.getD i 0:=by intro i;(have:(Qu (Qf n a_ c r) c.over).1.getD i 0=(Qf n a_ c r).1.getD i 0/(c.over:Int):=by show((Qf n a_ c r).1.map λz=>z/(c.over:Int)).getD i 0=_;rw[zk,zR,zk];cases (Qf n a_ c r).1[i]?<;>simp);rw[this];exact Int.ediv_mul_cancel (l i)
 have A:(Qu (Qf n a_ c r) c.over).1.length=n:=by simp[Qu,f]
 have B:∃z∈(Qu (Qf n a_ c r) c.over).1,z≠0:=by refine Ze λf=>?_;(have u:∀i,(Qf n a_ c r).1.getD i 0=0:=by intro i;rw[<-q i];rw[zk];cases hh:(Qu (Qf n a_ c r) c.over).1[i]? with |none=>simp |some v=>have d:=Ze λd=>f ⟨v,zx hh,d⟩;grind);(have D:∀e∈c.eN,(Zc a_ c.over r e:Int)=0:=by intro f o;obtain⟨l,y,w⟩:=qM o;(have d:c.eN[l]? =E f:=by rw[zg y,w]);have w:=h.ij f o;(have b:(c.eN.map λe=>(Zc a_ c.over r e:Int)*T.eS e.row.1 f.eO).sum=0:=by (have g:∀e∈c.eN,(Zc a_ c.over r e:Int)*T.eS e.row.1 f.eO=(((Zc a_ c.over r e:Int)*e.row.1.getD 0 0*f.eO.getD 0 0+(Zc a_ c.over r e:Int)*e.row.1.getD 1 0*f.eO.getD 1 0)+(Zc a_ c.over r e:Int)*e.row.1.getD 2 0*f.eO.getD 2 0)+(Zc a_ c.over r e:Int)*e.row.1.getD 3 0*f.eO.getD 3 0:=by intro e a;have:=(h.ij e a).1;rw[QD (by omega) om];simp only[dot,fh];grind);rw[AG g,Dz,Dz,Dz];(have g:∀i,(c.eN.map λe=>(Zc a_ c.over r e:Int)*e.row.1.getD i 0*f.eO.getD i 0).sum=0:=by intro i;(have:(c.eN.map λe=>(Zc a_ c.over r e:Int)*e.row.1.getD i 0*f.eO.getD i 0).sum=f.eO.getD i 0*(c.eN.map λe=>(Zc a_ c.over r e:Int)*e.row.1.getD i 0).sum:=by rw[<-Ch];exact AG λe _=>Qp _ _);rw[this,<-j i,u i];simp);rw[g,g,g,g];rfl);(have o:(c.eN.map λe=>(Zc a_ c.over r e:Int)*T.eS e.row.1 f.eO).sum=(Zc a_ c.over r f:Int)*(c.over:Int):=by rw[C8 _ _ (by rw[h.len];omega)];(have g:∀i,i<4->((c.eN[i]?.map λe=>(Zc a_ c.over r e:Int)*T.eS e.row.1 f.eO).getD 0)=if i=l then(Zc a_ c.over r f:Int)*(c.over:Int)else 0:=by intro i p;by_cases f:i=l;{subst f;rw[d,zQ rfl,qY,qB,h.mV d d,zQ rfl]};rw[zO f];cases a:c.eN[i]? with |none=>rfl |some e=>rw[qY,qB,h.mV a d,zO f];simp);rw[g 0 om,g 1 om,g 2 om,g 3 om];rcases oF (h.lt d)with rfl|rfl|rfl|rfl<;>simp);rw[o]at b;rcases Int.mul_eq_zero.1 b with e|e;{omega};omega);(have:(c.eN.map λe=>(Zc a_ c.over r e:Int)*e.row.2).sum=0:=Mb λe a=>by grind);rw[this]at k;exact s (by simp_all)
 obtain⟨_,d,e⟩:=B;have a:0<Zm n _ c r:=V5 d e;refine⟨a,?_,λi=>?_,?_,k,s⟩;{show((Qu _ _).1.map _).length=n;grind};{(have b:(Zd n a_ c r).1.getD i 0*(Zm n a_ c r:Int)=(Qu (Qf n a_ c r) c.over).1.getD i 0:=by (have:(Zd n a_ c r).1.getD i 0=(Qu (Qf n a_ c r) c.over).1.getD i 0/(Zm n a_ c r:Int):=by show((Qu (Qf n a_ c r) c.over).1.map λz=>z/(Zm n a_ c r:Int)).getD i 0=_;rw[zk,zR,zk];cases (Qu (Qf n a_ c r) c.over).1[i]?<;>simp);rw[this];refine Int.ediv_mul_cancel ?_;rw[zk];cases hh:(Qu (Qf n a_ c r) c.over).1[i]? with |none=>simp |some v=>exact SB _ (zx hh));grind};show(Qu _ _).2/(Zm n _ c r)=_;rw[<-t,J0];exact Int.ediv_ediv_of_nonneg om
end

section
open V4
theorem MZ {g x}(h:g.length=x.length)(a:x.length<=4):T.eS g x=g.getD 0 0*x.getD 0 0+g.getD 1 0*x.getD 1 0+g.getD 2 0*x.getD 2 0+g.getD 3 0*x.getD 3 0:=QD h a
section

variable {n:Nat} {a_:L_} {c:fF} {r:Nat}
theorem MG (h:Qy n a_ c)(k:vU n a_ c r){x}(a:x.length=n):(((c.over*Zm n a_ c r:Nat)))*T.eS (Zd n a_ c r).1 x=(c.eN.map λe=>(Zc a_ c.over r e)*T.eS e.row.1 x).sum:=by
 have b:=h.n4;rw[MZ (by rw[k.len,a]) om];have b:∀e∈c.eN,(Zc a_ c.over r e:Int)*T.eS e.row.1 x=((x.getD 0 0*((Zc a_ c.over r e:Int)*e.row.1.getD 0 0)+x.getD 1 0*((Zc a_ c.over r e:Int)*e.row.1.getD 1 0))+x.getD 2 0*((Zc a_ c.over r e:Int)*e.row.1.getD 2 0))+x.getD 3 0*((Zc a_ c.over r e:Int)*e.row.1.getD 3 0):=by intro e d;have:=(h.ij e d).1;rw[MZ (by omega) om];grind
 rw[AG b,Dz,Dz,Dz,Ch,Ch,Ch,Ch,<-k.row 0,<-k.row 1,<-k.row 2,<-k.row 3];grind
theorem EG (h:Qy n a_ c)(k:vU n a_ c r):0<(((c.over*Zm n a_ c r:Nat):Int)):=by have:=QE h.pos k.shared;omega
theorem TC (h:Qy n a_ c)(k:vU n a_ c r){j:Nat}{f}(a:c.eN[j]? =E f):(Zm n a_ c r)*T.eS (Zd n a_ c r).1 f.eO=(Zc a_ c.over r f):=by
 have b:=h.n4;have d:=h.pos;have g:=MG h k (h.mem a).2;have l:(c.eN.map λe=>(Zc a_ c.over r e:Int)*T.eS e.row.1 f.eO).sum=(Zc a_ c.over r f:Int)*(c.over:Int):=by rw[C8 _ _ (by rw[h.len];omega)];(have b:∀i,i<4->((c.eN[i]?.map λe=>(Zc a_ c.over r e:Int)*T.eS e.row.1 f.eO).getD 0)=if i=j then(Zc a_ c.over r f:Int)*(c.over:Int)else 0:=by intro i d;by_cases d:i=j;{subst d;rw[a,zQ rfl,qY,qB,h.mV a a,zQ rfl]};rw[zO d];cases he:c.eN[i]? with |none=>rfl |some e=>rw[qY,qB,h.mV he a,zO d];simp);rw[b 0 om,b 1 om,b 2 om,b 3 om];rcases oF (h.lt a)with rfl|rfl|rfl|rfl<;>simp
 rw[l,J0]at g;refine QU (show(c.over:Int)≠0 by omega) ?_;grind
theorem zqO (h:Qy n a_ c)(k:vU n a_ c r):(Zm n a_ c r)*Z2 c (Zd n a_ c r)=(((c.over*Zm n a_ c r:Nat)))*(Zd n a_ c r).2-(c.eN.map λe=>(Zc a_ c.over r e)*e.row.2).sum:=by
 have a:=h.pos;have a:=MG h k h.fK;have b:(c.eN.map λe=>(Zc a_ c.over r e:Int)*T.eS e.row.1 c.eT).sum=(c.over:Int)*(c.eN.map λe=>(Zc a_ c.over r e:Int)*e.row.2).sum:=by rw[<-Ch];refine AG λe d=>?_;obtain⟨j,g,f⟩:=qM d;rw[h.nh (i:=j) (by grind)];grind
 rw[b]at a;refine QU (show(c.over:Int)≠0 by omega) ?_;unfold Z2;grind
theorem Uu (h:Qy n a_ c)(k:vU n a_ c r):(Zm n a_ c r)*Z2 c (Zd n a_ c r)<=-(rk a_ (fh c.eT) r%(c.over)):=by
 have a:=h.pos;have a:=EG h k;rw[zqO h k,k.most];generalize a:(c.eN.map λe=>(Zc a_ c.over r e:Int)*e.row.2).sum=S;have b:=k.rest;rw[a]at b;have a:=jA S (((c.over*Zm n a_ c r:Nat)));have a:(S%(((c.over*Zm n a_ c r:Nat))))%c.over=S%c.over:=Int.emod_emod_of_dvd _ sp;have a:(S%(((c.over*Zm n a_ c r:Nat):Int)))%c.over<=S%(((c.over*Zm n a_ c r:Nat):Int)):=by have a:=J3 S (show(((c.over*Zm n a_ c r:Nat):Int))≠0 by omega);have b:=jA (S%(((c.over*Zm n a_ c r:Nat):Int))) c.over;have b:0<=(S%(((c.over*Zm n a_ c r:Nat):Int)))/c.over:=Int.ediv_nonneg a om;have a:=Gt (show 0<=(c.over:Int)by omega) b;omega
 omega
theorem Uc (h:Qy n a_ c)(k:vU n a_ c r):Z2 c (Zd n a_ c r)<0:=by have a:=h.pos;have a:=k.shared;have a:=Uu h k;have a:=J3 (rk a_ (fh c.eT) r) (show(c.over:Int)≠0 by omega);have a:=k.part;refine Ze λa=>?_;have a:=Gt (show 0<=(Zm n a_ c r:Int)by omega) (show 0<=Z2 c (Zd n a_ c r)by omega);omega
theorem Yz (h:Qy n a_ c)(k:vU n a_ c r){x}(f:x.length=n)(d:∀e∈c.eN,T.eS e.row.1 x<=e.row.2):T.eS (Zd n a_ c r).1 x<=(Zd n a_ c r).2:=by
 have b:=EG h k;have a:=MG h k f;rw[k.most];apply(Lz b).2;rw[Qp,a];have:0<=(c.eN.map λe=>(Zc a_ c.over r e:Int)*e.row.2+(-1)*((Zc a_ c.over r e:Int)*T.eS e.row.1 x)).sum:=by refine UN λe a=>?_;have b:=ZI (d e a) (show 0<=(Zc a_ c.over r e:Int)by omega);omega
 rw[Dz,Ch]at this;omega
theorem OA (h:Qy n a_ c)(k:vU n a_ c r):∃e∈c.eN,0<T.eS (Zd n a_ c r).1 e.eO:=by
 refine Ze λg=>?_;have i:∀e∈c.eN,(Zc a_ c.over r e:Int)=0:=by intro e a;obtain⟨j,d,b⟩:=qM a;have l:=TC h k (j:=j) (f:=e) (by grind);have b:=k.shared;(have d:T.eS (Zd n a_ c r).1 e.eO<=0:=by refine Ze λb=>g ⟨e,a,om⟩);have:=MN (show 0<=(Zm n a_ c r:Int)by omega) d;omega
 have b:(c.eN.map λe=>(Zc _ _ r e)*e.row.2).sum=0:=Mb λe a=>by rw[i e a];simp
 have a:=k.rest;rw[b]at a;exact k.part (by simp_all)
end
def Kz (a_:L_)(P:V4)(o:Nat)(r:Nat)(P':V4)(o':Nat):Prop:=
 (∃i,i<r/\(∀k,k<i->(o)*rk a_ P' k=(o')*rk a_ P k)/\(o)*rk a_ P' i<(o')*rk a_ P i)\/
 ((∀k,k<r->(o)*rk a_ P' k=(o')*rk a_ P k)/\rk a_ P' r<=(o')*(rk a_ P r/(o)))
theorem znJ {n:Nat}{a_:L_}{c c':fF}{r num j:Nat}{o:gE}(h:Qy n a_ c)(I:r<5)(k:vU n a_ c r)(x:xL n a_ c (Zd n a_ c r) num c' j o):Kz a_ (fh c.eT) c.over r (fh c'.eT) c'.over:=by
 have U:=h.pos;have a:∀i,(c.over:Int)*rk a_ (fh c'.eT) i=(c'.over:Int)*rk a_ (fh c.eT) i+Z2 c (Zd n a_ c r)*rk a_ (fh o.eO) i:=by intro i;rw[<-JH,x.eT,Il,JH,JH,x.over]
 have D:=Uc h k;have p:=zx x.at_;obtain⟨i,_,f,F⟩:=h.lex o p;by_cases l:i<r;{refine .inl ⟨i,l,λq e=>?_,?_⟩;{grind};rw[a i];have:=Int.mul_neg_of_neg_of_pos D F;omega};refine .inr ⟨λq e=>?_,?_⟩;{grind};have J:=GB h I p;have A:=TC h k x.at_;have Y:=k.shared;have y:=Uu h k;have t:0<=rk a_ (fh o.eO) r:=g_;(have B:(Zc a_ c.over r o:Int)<=rk a_ (fh o.eO) r:=by rw[J];have P:=jA (rk a_ (fh o.eO) r) (c.over:Int);have w:0<=rk a_ (fh o.eO) r/(c.over:Int):=Int.ediv_nonneg t om;have Q:=Gt (show 0<=(c.over:Int)by omega) w;omega);have s:=x.over;have S:=x.lI;generalize R:(Zm n a_ c r:Int)=d at *;generalize X:Z2 c (Zd n a_ c r)=K at *;generalize W:T.eS (Zd n a_ c r).1 o.eO=pv at *;have z:0<d:=om;have v:=jA (rk a_ (fh c.eT) r) (c.over);have C:=J3 (rk a_ (fh c.eT) r) (show(c.over:Int)≠0 by omega);have g:=a r;generalize hm:rk a_ (fh c.eT) r%(c.over:Int)=m at *;generalize e:rk a_ (fh c.eT) r/(c.over:Int)=q at *;generalize hy:rk a_ (fh c'.eT) r=N at *;generalize Z:rk a_ (fh o.eO) r=u at *;rw[<-v,s]at g;rw[s];have s1:=Int.mul_le_mul_of_nonneg_right y t;(have s2:m*(d*pv)<=m*u:=by rw[A];exact ZI B C);(have L:d*(c.over*N)<=d*(c.over*(pv*q)):=by rw[g];grind);have M:=L6 L z;exact L6 M om
end

section
open V4
variable {a_:L_}{fG:R_}{n:Nat}
structure Zy where
 over:Nat
 parts:List (Nat×Int)
abbrev qO:=(L_×Int)×Nat
def Qv (c:fF)(rows:List qO):Option qO:=rows.find? λr=>decide (Z2 c r.1<0)
abbrev Au:=fF ⊕ (fF×qO) ⊕ Unit
theorem Au.cs{P:Au->Prop}(ok:∀c,P (.inl c))(no:∀c r,P (.inr (.inl (c,r))))(li:P (.inr (.inr ()))):∀o,P o
 |.inl c=>ok c |.inr (.inl (c,r))=>no c r |.inr (.inr ())=>li
abbrev XF:=@Au.cs
def ZV (a_:L_)(rows:List qO):Nat->fF->Au
 |0,c=>match Qv c rows with
  |none=> .inl c
  |some r=>match Qe a_ c r.1 r.2 with
   |none=> .inr (.inl (c,r))
   |some _=> .inr (.inr ())
 |f+1,c=>match Qv c rows with
  |none=> .inl c
  |some r=>match Qe a_ c r.1 r.2 with
   |none=> .inr (.inl (c,r))
   |some c'=>ZV a_ rows f c'
def qU (n:Nat)(a_:L_)(c:fF):N_:=(List.range (n+1)).filter λr=>decide ((qT a_ c.eT).getD r 0%(c.over)≠0)
def Z1 (n:Nat)(a_:L_)(c:fF)(num r:Nat):fF:=(Qe a_ c (Zd n a_ c r) num).getD ⟨0,[],[]⟩
def D5 (a_:L_)(c d:fF):Bool:=decide (0<Qx (qT a_ (List.zipWith (λa b=>a*(d.over)-b*(c.over)) c.eT d.eT)))
def jF (n:Nat)(a_:L_)(c:fF)(num:Nat):N_->Option Nat->Option Nat
 |[],b=>b
 |r::rs,O=>jF n a_ c num rs (E r)
 |r::rs,E b=>jF n a_ c num rs (E (if D5 a_ (Z1 n a_ c num b) (Z1 n a_ c num r)=true then r else b))
def QX (n:Nat)(a_:L_)(c:fF)(r:Nat):Zy:=
 ⟨c.over*Zm n a_ c r,(c.eN.map λe=>(e.num,(Zc a_ c.over r e:Int))).filter λp=>decide (p.2≠0)⟩
def mK (c:fF)(num:Nat):Bool:=c.eN.any λe=>decide (e.num=num)
def jw (c:fF)(given:Nat)(rows:List qO):List qO:=rows.filter λr=>!(decide (given<r.2) && !mK c r.2)
abbrev gD:=(fF×List Zy) ⊕ (fF×qO×List Zy) ⊕ Nat
theorem gD.cs{P:gD->Prop}(gr:∀c ls,P (.inl (c,ls)))(no:∀c r ls,P (.inr (.inl (c,r,ls))))(li:∀k,P (.inr (.inr k))):∀o,P o
 |.inl (c,ls)=>gr c ls |.inr (.inl (c,r,ls))=>no c r ls |.inr (.inr k)=>li k
abbrev Xw:=@gD.cs
def kq (n:Nat)(a_:L_)(given eP:Nat):Nat->List qO->fF->List Zy->gD
 |0,rows,c,ls=>match ZV a_ rows eP c with
  |.inr (.inr _)=> .inr (.inr ls.length)
  |.inr (.inl (c,r))=> .inr (.inl (c,r,ls))
  |.inl c'=>match jF n a_ c' (given+ls.length+1) (qU n a_ c') Option.none with
   |Option.none=> .inl (c',ls)
   |some _=> .inr (.inr ls.length)
 |k+1,rows,c,ls=>match ZV a_ rows eP c with
  |.inr (.inr _)=> .inr (.inr ls.length)
  |.inr (.inl (c,r))=> .inr (.inl (c,r,ls))
  |.inl c'=>match jF n a_ c' (given+ls.length+1) (qU n a_ c') Option.none with
   |Option.none=> .inl (c',ls)
   |some r=>kq n a_ given eP k (jw c' given rows ++ [(Zd n a_ c' r,given+ls.length+1)]) c' (ls ++ [QX n a_ c' r])
def Be (fG:R_)(r:qO):Prop:=1<=r.2/\fG[r.2-1]? =E r.1
theorem Be.same{r s}(h:Be fG r)(k:Be fG s)(e:r.2=s.2):r.1=s.1:=by have:=h.2;rw[e,k.2]at this;exact(Q8 this).symm
theorem Be.more{r}(h:Be fG r)(x):Be (fG++x) r:=⟨h.1,by rw[zS (jQ h.2)];exact h.2⟩
def D_ (n:Nat)(fG:R_)(rows:List qO):Prop:=∀r∈rows,Be fG r/\r.1.1.length=n
structure J4 (n:Nat)(a_:L_)(rows:List qO)(c:fF):Prop where
 fJ:Qy n a_ c
 fT:∀e∈c.eN,(e.row,e.num)∈rows
def fF.ge (a_:L_)(c d:fF):Prop:=pV (λi=>(d.over)*rk a_ (fh c.eT) i-(c.over)*rk a_ (fh d.eT) i)
def fF.gt (a_:L_)(c d:fF):Prop:=JK (λi=>(d.over)*rk a_ (fh c.eT) i-(c.over)*rk a_ (fh d.eT) i)
theorem fF.C6(a_)(c:fF):c.ge a_ c:= .inl λ_ _=>Int.sub_self _
abbrev XC:=@fF.C6
theorem fF.gt.ge{c d:fF}(h:c.gt a_ d):c.ge a_ d:= .inr h
theorem fF.B7{c d e:fF}(a:0<d.over)(h1:c.ge a_ d)(h2:d.ge a_ e):c.ge a_ e:=by refine pV.comb h1 h2 (p:=d.over) (q:=e.over) (r:=c.over) om om om (λi _=>?_);grind
abbrev XD:=@fF.B7
theorem fF.gt_trans{c d e:fF}(a:0<d.over)(b:0<e.over)(h1:c.gt a_ d)(h2:d.ge a_ e):c.gt a_ e:=by refine JK.comb h1 h2 (p:=d.over) (q:=e.over) (r:=c.over) om om om (λi _=>?_);grind
theorem Vl{c:fF}{rows:List qO}(f:D_ n fG rows)(h:J4 n a_ rows c){r:qO}(j:Be fG r)(b:Z2 c r.1<0):∀e∈c.eN,e.num≠r.2:=by intro e a g;have d:=(f _ (h.fT e a)).1;have f:e.row=r.1:=d.same j g;obtain⟨j,g,d⟩:=qM a;have a:=h.fJ.nh (by rw[zg g,d]);unfold Z2 at b;rw[<-f,a,Qp]at b;omega
theorem zrQ{c c'}{r}{num j}{o}(h:Qy n a_ c)(x:xL n a_ c r num c' j o)(a:Z2 c r<0):c.gt a_ c':=by
 refine JK.comb (h.lex o (zx x.at_)) (.inl λ_ _=>rfl) (p:=1) (q:=- Z2 c r) (r:=0) om om om (λi _=>?_);have:c.over*rk a_ (fh c'.eT) i=c'.over*rk a_ (fh c.eT) i+Z2 c r*rk a_ (fh o.eO) i:=by rw[<-JH,x.eT,Il,JH,JH,x.over]
 grind
theorem P2{c c'}{rows}{r}{j}{o}(h:J4 n a_ rows c)(x:xL n a_ c r.1 r.2 c' j o)(f:r∈rows):J4 n a_ rows c':=by refine⟨x.fJ,λe a=>?_⟩;have⟨i,d,b⟩:=qM a;have a:c'.eN[i]? =E e:=g_;by_cases b:i=j;{subst b;rw[x.new]at a;grind};(have e:i<c.eN.length:=by rw[h.fJ.len,<-x.fJ.len];exact d);have d:=zg e;rw[x.q_ i _ b d]at a;cases a;exact h.fT c.eN[i] (zJ e)
theorem Gm{c}{rows}(b:D_ n fG rows)(h:J4 n a_ rows c){r}(a:r∈rows)(d:Z2 c r.1<0):
 (Qe a_ c r.1 r.2=O->∀e∈c.eN,T.eS r.1.1 e.eO<=0)/\∀c',Qe a_ c r.1 r.2=E c'->J4 n a_ rows c'/\c.gt a_ c':=by obtain⟨f,g⟩:=OZ h.fJ (b r a).2 (Vl b h (b r a).1 d);refine⟨f,λc' b=>?_⟩;obtain⟨_,_,x⟩:=g _ b;exact⟨P2 h x a,zrQ h.fJ x d⟩
theorem Gn{c}{rows}{r}(h:Qv c rows=E r):r∈rows/\Z2 c r.1<0:=⟨List.mem_of_find?_eq_some h,by have:=List.find?_some h;grind⟩
theorem SX{c}{rows}(h:Qv c rows=O):∀r∈rows,0<=Z2 c r.1:=λr a=>by have:=N8.1 h r a;simp at this;exact this
theorem Ee{rows:List qO}(d:D_ n fG rows):∀(f:Nat) (c:fF),J4 n a_ rows c->
 (∀c',ZV a_ rows f c= .inl c'->J4 n a_ rows c'/\c.ge a_ c'/\∀r∈rows,0<=Z2 c' r.1)/\
 (∀c' r,ZV a_ rows f c= .inr (.inl (c',r))->J4 n a_ rows c'/\c.ge a_ c'/\r∈rows/\Z2 c' r.1<0/\∀e∈c'.eN,T.eS r.1.1 e.eO<=0)
 |0,c,h=>by
  rw[ZV];cases hb:Qv c rows with
  |none=>exact⟨λc' a=>by cases a;exact⟨h,XC _ _,SX hb⟩,λc' r a=>by cases a⟩
  |some r=>
   obtain⟨b1,b⟩:=Gn hb;cases hx:Qe a_ c r.1 r.2 with
   |none=>exact⟨λc' a=>by simp[hx]at a,λc' g a=>by simp only[hx]at a;cases a;exact⟨h,XC _ _,b1,b,(Gm d h b1 b).1 hx⟩⟩
   |some i=>exact⟨λc' a=>by simp[hx]at a,λc' g a=>by simp[hx]at a⟩
 |f+1,c,h=>by
  rw[ZV];cases hb:Qv c rows with
  |none=>exact⟨λc' a=>by cases a;exact⟨h,XC _ _,SX hb⟩,λc' r a=>by cases a⟩
  |some r=>
   obtain⟨b1,b⟩:=Gn hb;cases hx:Qe a_ c r.1 r.2 with
   |none=>exact⟨λc' a=>by simp[hx]at a,λc' g a=>by simp only[hx]at a;cases a;exact⟨h,XC _ _,b1,b,(Gm d h b1 b).1 hx⟩⟩
   |some i=>
    obtain⟨j,k⟩:=(Gm d h b1 b).2 i hx;obtain⟨l,m⟩:=Ee d f i j;simp only[hx];refine⟨λc' a=>?_,λc' g a=>?_⟩
    ·obtain⟨b,d,i⟩:=l c' a;exact⟨b,XD j.fJ.pos k.ge d,i⟩
    ·obtain⟨b,d,i⟩:=m c' g a;exact⟨b,XD j.fJ.pos k.ge d,i⟩
end

section
open V4
variable {a:List Zy}{a_:L_}{base fG:R_}{c:fF}{given n r:Nat}
def Bi (n:Nat)(base:R_)(x:L_):Prop:=x.length=n/\∀r∈base,T.eS r.1 x<=r.2
structure ko (n:Nat)(fG:R_)(l:Zy)(row:L_×Int):Prop where
 pos:0<l.over
 parts:∀p∈l.parts,0<p.2/\∃r,Be fG (r,p.1)
 len:row.1.length=n
 MF:∀i,(l.over:Int)*row.1.getD i 0=(l.parts.map λp=>p.2*(fG.getD (p.1-1) ([],0)).1.getD i 0).sum
 most:row.2=(l.parts.map λp=>p.2*(fG.getD (p.1-1) ([],0)).2).sum/(l.over:Int)
structure ou (n:Nat)(a_:L_)(base:R_)(rows:List qO)(c:fF)(ls:List Zy)(fG:R_):Prop where
 len:fG.length=base.length+ls.length
 first:fG.take base.length=base
 width:∀r∈fG,r.1.length=n
 fy:D_ n fG rows
 given:∀i r,base[i]? =E r->(r,i+1)∈rows
 fJ:J4 n a_ rows c
 valid:∀x,Bi n base x->∀r∈fG,T.eS r.1 x<=r.2
 lines:∀i l,ls[i]? =E l->∃row,fG[base.length+i]? =E row/\ko n (fG.take (base.length+i)) l row
theorem Mc{r}(h:Be fG r):fG.getD (r.2-1) ([],0)=r.1:=by rw[zk,h.2];rfl
theorem KV(f:Nat×Int->Int)(a:∀p,p.2=0->f p=0):∀l:List (Nat×Int),((l.filter λp=>decide (p.2≠0)).map f).sum=(l.map f).sum
 |[]=>rfl |p::l=>by rw[Qz];by_cases h:p.2=0;{simp only[h,ne_eq,not_true_eq_false,decide_false,F6,CC];rw[KV f a l,Zk,QI,a p h,Int.zero_add]};simp only[h,ne_eq,not_false_eq_true,decide_true,z8];rw[Zk,QI,KV f a l,Zk,QI]
theorem VY{rows}(d:D_ n fG rows)(h:J4 n a_ rows c)(a:r<5)(k:vU n a_ c r):ko n fG (QX n a_ c r) (Zd n a_ c r):=by
 have i:∀e∈c.eN,fG.getD (e.num-1) _=e.row:=λe b=>Mc (d _ (h.fT e b)).1;have f:∀(g:L_×Int->Int),((QX n a_ c r).parts.map λp=>p.2*g (fG.getD (p.1-1) ([],0))).sum=(c.eN.map λe=>(Zc a_ c.over r e:Int)*g e.row).sum:=by intro g;unfold QX;simp only;rw[KV _ (λp a=>by grind),ye];refine AG λe b=>?_;simp only[Function.comp];rw[i e b]
 refine⟨QE h.fJ.pos k.shared,λp a=>?_,k.len,λi=>?_,?_⟩;{unfold QX at a;simp only at a;rw[ZF]at a;obtain⟨g,j⟩:=a;obtain⟨e,b,rfl⟩:=qP.1 g;simp only[ne_eq,Z9]at j;simp only;exact⟨om,_,(d _ (h.fT e b)).1⟩};{rw[f (λr=>r.1.getD i 0)];exact k.row i};rw[f (λr=>r.2)];exact k.most
theorem PI{rows}{r}(h:r∈jw c given rows):r∈rows:=(ZF.1 h).1
theorem Va{rows}{e}(a:e∈c.eN)(h:(e.row,e.num)∈rows):(e.row,e.num)∈jw c given rows:=by refine ZF.2 ⟨h,?_⟩;have:mK c e.num=true:=QR.2 ⟨e,a,sp⟩;grind
theorem zmG{rows}{r}(h:r∈rows)(hg:r.2<=given):r∈jw c given rows:=by refine ZF.2 ⟨h,?_⟩;simp;omega
theorem ou.cut{rows:List qO}{a:fF}{g:List Zy}(h:ou n a_ base rows a g fG)(e:J4 n a_ rows c)(o:r<5)(k:vU n a_ c r):
 ou n a_ base (jw c base.length rows ++ [(Zd n a_ c r,base.length+g.length+1)]) c (g ++ [QX n a_ c r]) (fG ++ [Zd n a_ c r]):=by have m:=h.len;refine⟨g_,?_,?_,?_,?_,⟨e.fJ,λj l=>QN _ (Va l (e.fT j l))⟩,?_,?_⟩;{rw[Qq om];exact h.first};{intro x a;rcases zU.1 a with a|a;{exact h.width x a};rw[qg.1 a];exact k.len};{intro x a;rcases zU.1 a with a|a;{obtain⟨d,b⟩:=h.fy x (PI a);exact⟨d.more _,b⟩};rw[qg.1 a];refine⟨⟨sp,?_⟩,k.len⟩;grind};{intro i x b;refine QN _ (zmG (h.given i x b) ?_);grind};{intro x a y f;rcases zU.1 f with f|f;{exact h.valid x a y f};rw[qg.1 f];refine Yz e.fJ k a.1 (λj l=>?_);have d:=(h.fy _ (e.fT j l)).1;exact h.valid x a _ (zx d.2)};intro i l b;by_cases a:i<g.length;{rw[zS a]at b;obtain⟨row,a,f⟩:=h.lines i l b;grind};have d:=jQ b;simp at d;have a:i=g.length:=om;subst a;rw[zG (zh _)]at b;simp at b;subst b;refine⟨Zd n a_ c r,by rw[<-m,zG (zh _)];simp,?_⟩;rw[<-m,Qq (zh _),Zx];exact VY h.fy e o k
theorem ou.to{rows}{c'}(h:ou n a_ base rows c a fG)(b:J4 n a_ rows c'):ou n a_ base rows c' a fG:=⟨h.len,h.first,h.width,h.fy,h.given,b,h.valid,h.lines⟩
theorem Gd{num:Nat}:∀(rs:N_) (b:Option Nat) (r:Nat),jF n a_ c num rs b=E r->r∈rs\/b=E r
 |[],b,r,h=> .inr h |x::rs,O,r,h=>by rcases Gd rs (E x) r h with h|h;{exact .inl (qq _ h)};cases h;exact .inl qA |x::rs,E b,r,h=>by rcases Gd rs _ r h with h|h;{exact .inl (qq _ h)};split at h;{cases h;exact .inl qA};exact .inr h
theorem KS{num:Nat}:∀(rs:N_) (b:Option Nat),jF n a_ c num rs b=O->rs= []/\b=O
 |[],b,h=>⟨rfl,h⟩ |x::rs,O,h=>by have:=(KS rs (E x) h).2;cases this |x::rs,E b,h=>by have:=(KS rs _ h).2;cases this
theorem ED(h:Qy n a_ c):r∈qU n a_ c↔r<n+1/\rk a_ (fh c.eT) r%(c.over)≠0:=by unfold qU;rw[ZF,Z8];have d:=h.n4;constructor;{rintro⟨b,a⟩;rw[CG (by rw[h.ld,h.fK]) (by rw[h.fK];omega) r om]at a;grind};rintro⟨b,a⟩;rw[CG (by rw[h.ld,h.fK]) (by rw[h.fK];omega) r om];grind
def Ei (n:Nat)(a_:L_)(base:R_):gD->Prop
 |.inl (c,ls)=>∃rows fG,ou n a_ base rows c ls fG/\(∀r∈rows,0<=Z2 c r.1)/\qU n a_ c= []
 |.inr (.inl (c,r,ls))=>∃rows fG,ou n a_ base rows c ls fG/\r∈rows/\Z2 c r.1<0/\∀e∈c.eN,T.eS r.1.1 e.eO<=0
 |.inr (.inr _)=>True
theorem go_ok{eP:Nat}:∀(k:Nat) (rows:List qO) (c:fF) (ls:List Zy) (fG:R_),ou n a_ base rows c ls fG->Ei n a_ base (kq n a_ base.length eP k rows c ls)
 |0,rows,c,ls,fG,h=>by
  rw[kq];obtain⟨s1,s2⟩:=Ee h.fy eP c h.fJ;cases hs:ZV a_ rows eP c using XF with
  |li=>trivial
  |no c' r=>
   obtain⟨a1,a2,a3,a4,a5⟩:=s2 c' r hs;exact⟨rows,fG,h.to a1,a3,a4,a5⟩
  |ok c'=>
   obtain⟨a1,a2,a3⟩:=s1 c' hs;simp only;cases hd:jF n a_ c' (base.length+ls.length+1) (qU n a_ c') Option.none with
   |none=>exact⟨rows,fG,h.to a1,a3,(KS _ _ hd).1⟩
   |some r=>trivial
 |k+1,rows,c,ls,fG,h=>by
  rw[kq];obtain⟨s1,s2⟩:=Ee h.fy eP c h.fJ;cases hs:ZV a_ rows eP c using XF with
  |li=>trivial
  |no c' r=>
   obtain⟨a1,a2,a3,a4,a5⟩:=s2 c' r hs;exact⟨rows,fG,h.to a1,a3,a4,a5⟩
  |ok c'=>
   obtain⟨a1,a2,a3⟩:=s1 c' hs;simp only;cases hd:jF n a_ c' (base.length+ls.length+1) (qU n a_ c') Option.none with
   |none=>exact⟨rows,fG,h.to a1,a3,(KS _ _ hd).1⟩
   |some r=>
    have n4:=a1.fJ.n4;have hm:r∈qU n a_ c':=by
     rcases Gd _ _ _ hd with hm|hm
     ·exact hm
     ·cases hm
    obtain⟨m1,m2⟩:=(ED a1.fJ).1 hm;exact go_ok k _ _ _ _ (h.cut a1 (by omega) (Fa a1.fJ (by omega) m2))
theorem ou.ahead{rows}{b}(h:ou n a_ base rows c b fG){x}(a:Bi n base x):pV (λi=>rk a_ (fh c.eT) i-(c.over)*rk a_ (fh x) i):=by
 have g:=h.fJ.fJ;have j:∀i,rk a_ (fh c.eT) i-(c.over:Int)*rk a_ (fh x) i=(c.eN.map λe=>(e.row.2-T.eS e.row.1 x)*rk a_ (fh e.eO) i).sum:=by intro i;have:=g.complete a.1 (yg a_ i);show(yg a_ i).dot (fh c.eT)-(c.over:Int)*(yg a_ i).dot (fh x)=(c.eN.map λe=>(e.row.2-T.eS e.row.1 x)*(yg a_ i).dot (fh e.eO)).sum;omega
 have d:∀e∈c.eN,0<=e.row.2-T.eS e.row.1 x:=λe b=>by have f:=(h.fy _ (h.fJ.fT e b)).1;have:=h.valid x a e.row (zx f.2);omega
 have b:=g.lex;refine pV.congr ?_ (λi _=>(j i).symm);clear j g;revert d b;generalize c.eN=g;intro d b;induction g with |nil=>exact .inl λi _=>rfl |cons e g g=>have f:=g (λx a=>d x (qq _ a)) (λx a=>b x (qq _ a));refine pV.comb (b e qA).n f (p:=1) (r:=1) om (d e qA) om (λi _=>?_);grind
def JZ (c:fF):L_:=c.eT.map λz=>z/(c.over)
theorem TD(h:Qy n a_ c)(hs:qU n a_ c= []):(JZ c).length=n/\(fh (JZ c)).smul (c.over)=fh c.eT:=by
 have e:=h.n4;refine⟨by simp[JZ,h.fK],?_⟩;have d:∀i,(c.over:Int) ∣ c.eT.getD i 0:=by intro i;by_cases a:i<n;{(have a:rk a_ (fh c.eT) (i+1)%c.over=0:=by refine Ze λb=>?_;have:=(ED h).2 ⟨om,b⟩;rw[hs]at this;simp at this);rw[<-CG (by rw[h.ld,h.fK]) (by rw[h.fK];omega) _ om]at a;have e:(qT _ _).getD (i+1) 0=(List.zipWith _ a_ c.eT).getD i 0:=rfl;rw[e,JE sp (by rw[h.ld,h.fK])]at a;split at a;{exact Int.dvd_neg.1 (PC a)};exact PC a};(have:c.eT.getD i 0=0:=by rw[zk,qL (by rw[h.fK];omega)];rfl);simp_all
 have a:∀i,c.over*(JZ c).getD i 0=c.eT.getD i 0:=by intro i;(have:(JZ c).getD i 0=c.eT.getD i 0/c.over:=by unfold JZ;rw[zk,zR,zk];cases c.eT[i]?<;>simp);rw[this];exact Int.mul_ediv_cancel' (d i)
 exact ext' (a 0) (a 1) (a 2) (a 3)
theorem U4{rows}(h:ou n a_ base rows c a fG)(k:∀r∈rows,0<=Z2 c r.1)(hs:qU n a_ c= []):
 Bi n base (JZ c)/\∀x,Bi n base x->pV (λi=>rk a_ (fh (JZ c)) i-rk a_ (fh x) i):=by have a:=h.fJ.fJ;have b:=a.pos;have f:=a.n4;obtain⟨e,j⟩:=TD a hs;refine⟨⟨e,λr l=>?_⟩,λx m=>?_⟩;{obtain⟨i,d,b⟩:=qM l;have hm:=h.given i r g_;have b:=k _ hm;have d:=(h.fy _ hm).2;simp only at b d;unfold Z2 at b;rw[QD (by rw[d,a.fK]) (by rw[a.fK];omega),<-j,fq,Qp,<-Int.mul_sub]at b;rw[QD om om];(have a:0<=r.2-(fh r.1).dot (fh (JZ c)):=by refine Ze λa=>?_;have:=Int.mul_neg_of_pos_of_neg (show 0<(c.over:Int)by omega) (show r.2-(fh r.1).dot (fh (JZ c))<0 by omega);omega);omega};refine(h.ahead m).comb (p:=(c.over)) (q:=1) (r:=0) (.inl λ_ _=>rfl) om om om (λi _=>?_);rw[<-j,JH];grind
theorem znM{rows:List qO}{c:fF}(h:ou n a_ base rows c a fG){r:qO}(d:r∈rows)(j:Z2 c r.1<0)(hg:∀e∈c.eN,T.eS r.1.1 e.eO<=0):∀x,¬Bi n base x:=by
 intro x b;have a:=h.fJ.fJ;have f:=a.pos;have g:=a.n4;have f:=(h.fy _ d).2;have k:=h.valid x b _ (zx (h.fy _ d).1.2);have d:=a.complete b.1 (fh r.1.1);rw[<-QD (by rw[f,b.1]) (by rw[b.1];omega),<-QD (by rw[f,a.fK]) (by rw[a.fK];omega)]at d;have d:(c.eN.map λe=>(e.row.2-T.eS e.row.1 x)*(fh r.1.1).dot (fh e.eO)).sum<=0:=by (have:0<=(c.eN.map λe=>(-1)*((e.row.2-T.eS e.row.1 x)*(fh r.1.1).dot (fh e.eO))).sum:=by refine UN λe d=>?_;have i:=(h.fy _ (h.fJ.fT e d)).1;have l:=h.valid x b e.row (zx i.2);have b:=hg e d;have i:=(a.ij e d).2;rw[QD (by omega) (by omega)]at b;have:=MN (show 0<=e.row.2-T.eS e.row.1 x by omega) b;omega);rw[Ch]at this;omega
 unfold Z2 at j;have:=ZI k (show 0<=(c.over:Int)by omega);grind
end

section
open V4
variable {a:R_}{a_:L_}{c:fF}{n:Nat}{r:L_×Int}
theorem Ik{e:Type}[DecidableEq e]:∀(l L:List e),l.Nodup->(∀x∈l,x∈L)->l.length<=L.length
 |[],_,_,_=>sp |a::l,L,d,hs=>by have b:=hs a qA;have g:=Ik l (L.erase a) (List.nodup_cons.1 d).2 (λx e=>by have h:x≠a:=λf=>(List.nodup_cons.1 d).1 (by rw[<-f];exact e);exact(List.mem_erase_of_ne h).2 (hs x (qq _ e)));rw[List.length_erase_of_mem b]at g;have:0<L.length:=List.length_pos_of_mem b;simp only[qi];omega
def Cg:N_->Nat->List (N_)
 |[],_=> [[]]
 |_::_,0=> [[]]
 |a::l,k+1=>Cg l (k+1)++(Cg l k).map (λs=>a::s)
def tF:Nat->Nat->Nat
 |0,_=>1
 |_+1,0=>1
 |m+1,k+1=>tF m (k+1)+tF m k
theorem MR:∀(l:N_) (k:Nat),(Cg l k).length=tF l.length k
 |[],k=>by simp[Cg,tF] |a::l,0=>by simp[Cg,tF] |a::l,k+1=>by simp[Cg,tF,MR l (k+1),MR l k]
theorem Ol:∀(l:N_) (k:Nat) (s:N_),s.Sublist l->s.length<=k->s∈Cg l k
 |[],k,s,h,_=>by have:s= []:=List.sublist_nil.1 h;simp[Cg,this] |a::l,0,s,h,hk=>by have:s= []:=Qk.1 om;simp[Cg,this] |a::l,k+1,s,h,hk=>by rw[Cg,zU];cases h with |cons _ h=>exact .inl (Ol l (k+1) s h hk) |cons_cons _ h=>rename_i s';exact .inr (qP.2 ⟨s',Ol l k s' h (by simp at hk;omega),rfl⟩)
theorem zqQ:∀(m k:Nat),tF m k<=tF (m+1) k
 |0,0=>by simp[tF] |0,k+1=>by simp[tF] |m+1,0=>by simp[tF] |m+1,k+1=>by rw[tF,tF];exact Nat.le_add_right _ _
theorem EW{m M k}(h:m<=M):tF m k<=tF M k:=by induction h with |refl=>omega |step _ a=>exact zF a (zqQ _ _)
abbrev CR (r h:L_×Int):Prop:=r=h\/r=(h.1.map (λz=>-z),-h.2)
def uy (H:R_)(r:L_×Int):Nat:=H.findIdx λh=>decide (CR r h)
def GK (H:R_)(c:fF):N_:=(List.range H.length).filter λi=>c.eN.any λe=>decide (uy H e.row=i)
theorem P0{a:R_}(h:∃x∈a,CR r x):∃x,a[uy a r]? =E x/\CR r x:=by have⟨x,e,d⟩:=h;have b:uy a r<a.length:=List.findIdx_lt_length_of_exists ⟨x,e,g_⟩;refine⟨a[uy a r],zg b,?_⟩;have:=List.findIdx_getElem (w:=b);exact jU this
theorem VB{h}{P}{o}(d:CR r h)(a:r.1.length=P.length)(b:P.length<=4)(e:T.eS r.1 P=o*r.2):T.eS h.1 P=o*h.2:=by rcases d with rfl|rfl;{omega};simp only[zm]at a;simp only at e;rw[QD g_ b,I9,iA,<-QD a b]at e;grind
theorem Y0{h}{P}{o}(d:CR r h)(a:r.1.length=P.length)(b:P.length<=4)(e:T.eS h.1 P=o*h.2):T.eS r.1 P=o*r.2:=by rcases d with rfl|rfl;{omega};simp only[zm]at a;simp only;rw[QD g_ b,I9,iA,<-QD a b,e];grind
theorem znN{rows:List qO}{a:R_}(p:∀r∈rows,∃h∈a,CR r.1 h){d:fF}(b:J4 n a_ rows c)(g:J4 n a_ rows d)(e:GK a c=GK a d):¬c.gt a_ d:=by
 have f:=b.fJ.n4;have s:∀f∈c.eN,T.eS f.row.1 d.eT=(d.over:Int)*f.row.2:=by intro f j;obtain⟨_,o,m⟩:=P0 (p _ (b.fT f j));have hm:uy a f.row∈GK a c:=ZF.2 ⟨Z8.2 (jQ o),QR.2 ⟨f,j,sp⟩⟩;rw[e]at hm;obtain⟨i,k,l⟩:=QR.1 (ZF.1 hm).2;(have l:uy a i.row=uy a f.row:=by simpa using l);obtain⟨_,a,q⟩:=P0 (p _ (g.fT i k));simp only at o a;rw[l,o]at a;cases a;obtain⟨p,o,l⟩:=qM k;have a:=g.fJ.nh (i:=p) (e:=i) (by grind);have l:=(g.fJ.ij i k).1;have k:=(b.fJ.ij f j).1;have i:=g.fJ.fK;exact Y0 m (k.trans i.symm) om (VB q (l.trans i.symm) om a)
 have l:∀i,(c.over:Int)*rk a_ (fh d.eT) i=(d.over:Int)*rk a_ (fh c.eT) i:=by intro i;have a:=b.fJ.all (yg a_ i) (x:=d.eT) g.fJ.fK;have g:=b.fJ.nj (yg a_ i);(have b:(c.eN.map λe=>T.eS e.row.1 d.eT*(yg a_ i).dot (fh e.eO)).sum=(d.over:Int)*(c.eN.map λe=>e.row.2*(yg a_ i).dot (fh e.eO)).sum:=by rw[<-Ch];refine AG λf j=>?_;rw[s f j,Int.mul_assoc]);rw[b,<-g]at a;exact a
 rintro⟨k,_,_,m⟩;grind
theorem zqT{rows}(a)(b:J4 n a_ rows c):GK a c∈Cg (List.range a.length) 4:=by refine Ol _ _ _ Ke ?_;have d:(GK a c).length<=(c.eN.map λe=>uy a e.row).length:=Ik _ _ (KP Ke List.nodup_range) (λx f=>by have⟨g,a,e⟩:=QR.1 (ZF.1 f).2;grind);have a:=b.fJ.len;have a:=b.fJ.n4;grind
theorem V8{rows:List qO}{a:R_}(f:∀r∈rows,∃h∈a,CR r.1 h)(m:a.length<=19)(l:List fF)(b:∀c∈l,J4 n a_ rows c)(j:l.Pairwise (fF.gt a_)):l.length<=5036:=by
 have o:(l.map (GK a)).Nodup:=by refine List.pairwise_map.2 ?_;refine List.Pairwise.imp_of_mem (λ{d e} g i k=>?_) j;exact λj=>znN f (b d g) (b e i) j k
 have d:=Ik _ _ o (λx f=>by obtain⟨c,e,rfl⟩:=qP.1 f;exact zqT a (b c e));rw[MR,Lx,zm]at d;have b:tF _ 4<=tF _ 4:=EW m;have a:tF 19 4=5036:=dc;omega
theorem Tv{rows:List qO}{fG:R_}(i:D_ n fG rows):∀(f:Nat) (c:fF),J4 n a_ rows c->ZV a_ rows f c= .inr (.inr ())->∃l:List fF,l.length=f+1/\(∀d∈l,J4 n a_ rows d)/\(c::l).Pairwise (fF.gt a_)
 |0,c,h,hs=>by
  rw[ZV]at hs;cases hb:Qv c rows with
  |none=>simp[hb]at hs
  |some r=>
   obtain⟨b1,g⟩:=Gn hb;simp only[hb]at hs;cases a:Qe a_ c r.1 r.2 with
   |none=>simp[a]at hs
   |some d=>
    obtain⟨b,e⟩:=(Gm i h b1 g).2 d a;exact⟨[d],rfl,λx a=>by rw[qg.1 a];exact b,by simpa using e⟩
 |f+1,c,h,hs=>by
  rw[ZV]at hs;cases hb:Qv c rows with
  |none=>simp[hb]at hs
  |some r=>
   obtain⟨b1,g⟩:=Gn hb;simp only[hb]at hs;cases a:Qe a_ c r.1 r.2 with
   |none=>simp[a]at hs
   |some d=>
    simp only[a]at hs;obtain⟨b,e⟩:=(Gm i h b1 g).2 d a;obtain⟨l,k,g,j⟩:=Tv i f d b hs;refine⟨d::l,by simp[k],λx a=>?_,List.pairwise_cons.2 ⟨λx a=>?_,j⟩⟩
    ·rcases zI.1 a with rfl|a
     ·exact b
     ·exact g x a
    ·rcases zI.1 a with rfl|a
     ·exact e
     ·exact fF.gt_trans b.fJ.pos (g x a).fJ.pos e ((List.pairwise_cons.1 j).1 x a).ge
theorem SW{rows:List qO}{fG:R_}{b:R_}(i:D_ n fG rows)(d:∀r∈rows,∃h∈b,CR r.1 h)(g:b.length<=19){f:Nat}(o:10000<=f)(h:J4 n a_ rows c):ZV a_ rows f c≠ .inr (.inr ()):=by intro j;obtain⟨l,_,k,m⟩:=Tv i f c h j;have:=V8 d g _ (λx a=>by rcases zI.1 a with e|a;{exact e▸h};exact k x a) m;grind
structure sU (n:Nat)(base:R_)(H:R_)(rows:List qO):Prop where
 nodup:(rows.map λr=>r.2).Nodup
 planes:∀r∈rows,r.2<=base.length->∃h∈H,CR r.1 h
 fk:(rows.filter λr=>decide (base.length<r.2)).length<=n+1
theorem sU.all{base}{rows}(h:sU n base a rows)(e:n<=4)(d:a.length<=14):∃b:R_,b.length<=19/\∀r∈rows,∃x∈b,CR r.1 x:=by refine⟨a++(rows.filter λr=>decide (base.length<r.2)).map (λr=>r.1),by have:=h.fk;grind,λr a=>?_⟩;by_cases b:r.2<=base.length;{have⟨x,e,d⟩:=h.planes r a b;grind};grind
theorem sU.cut{base:R_}{rows:List qO}(h:sU n base a rows)(g:Qy n a_ c){num:Nat}(row:L_×Int)(f:∀r∈rows,r.2<num)(hg:base.length<num):sU n base a (jw c base.length rows ++ [(row,num)]):=by have d:(jw c base.length rows).Sublist _:=Ke;refine⟨?_,λr a b=>?_,?_⟩;{rw[Z6];refine List.nodup_append.2 ⟨KP (d.map _) h.nodup,sp,?_⟩;grind};{rcases zU.1 a with a|a;{exact h.planes r (d.mem a) b};grind};rw[je,zM];(have b:((jw c base.length rows).filter λr=>decide (base.length<r.2)).length<=n:=by (have f:(((jw c base.length rows).filter λr=>decide (base.length<r.2)).map λr=>r.2).length<=(c.eN.map λe=>e.num).length:=by refine Ik _ _ (KP ((Ke.trans d).map _) h.nodup) (λx b=>?_);obtain⟨r,a,rfl⟩:=qP.1 b;obtain⟨d,b⟩:=ZF.1 a;obtain⟨_,a⟩:=ZF.1 d;(have b:base.length<r.2:=by simpa using b);(have d:mK c r.2=true:=by simp[b]at a;exact a);obtain⟨e,a,b⟩:=QR.1 d;exact qP.2 ⟨e,a,by grind⟩);rw[zm,zm,g.len]at f;exact f);grind
end

section
open V4
variable {L wd:Nat->Int}{a x y:Int}
def xh (mn:Nat->Int)(wd:Nat->Int)(L:Nat->Int):Int:=((((L 0-mn 0)*wd 1+(L 1-mn 1))*wd 2+(L 2-mn 2))*wd 3+(L 3-mn 3))*wd 4+(L 4-mn 4)
theorem AU{b w:Int}(d:a<b)(f:x<=w-1)(g:0<=y)(e:1<=w):a*w+x<b*w+y:=by have h:=Int.mul_le_mul_of_nonneg_right (show a+1<=b by omega) (show 0<=w by omega);grind
theorem zrR{a e:Nat->Int}(d:∀i,i<5->1<=wd i)(g:∀i,i<5->a i<=L i/\L i<=a i+wd i-1)(j:∀i,i<5->a i<=e i/\e i<=a i+wd i-1){k:Nat}(o:k<5)(b:∀i,i<k->L i=e i)(p:L k<e k):xh a wd L<xh a wd e:=by have r:∀i,i<5->0<=L i-a i/\L i-a i<=wd i-1/\0<=e i-a i:=λi f=>g_;have m:L 0-a 0<e 0-a 0->xh a _ L<xh a _ e:=λh=>AU (AU (AU (AU h (r 1 om).2.1 (r 1 om).2.2 (d 1 om)) (r 2 om).2.1 (r 2 om).2.2 (d 2 om)) (r 3 om).2.1 (r 3 om).2.2 (d 3 om)) (r 4 om).2.1 (r 4 om).2.2 (d 4 om);have l:k=0\/k=1\/k=2\/k=3\/k=4:=om;rcases l with rfl|rfl|rfl|rfl|rfl;{omega};{unfold xh;rw[b 0 om];exact AU (AU (AU om (r 2 om).2.1 (r 2 om).2.2 (d 2 om)) (r 3 om).2.1 (r 3 om).2.2 (d 3 om)) (r 4 om).2.1 (r 4 om).2.2 (d 4 om)};{unfold xh;rw[b 0 om,b 1 om];exact AU (AU om (r 3 om).2.1 (r 3 om).2.2 (d 3 om)) (r 4 om).2.1 (r 4 om).2.2 (d 4 om)};{unfold xh;rw[b 0 om,b 1 om,b 2 om];exact AU om (r 4 om).2.1 (r 4 om).2.2 (d 4 om)};unfold xh;grind
theorem VU{a}(d:∀i,i<5->1<=wd i)(b:∀i,i<5->a i<=L i):0<=xh a wd L:=by
 unfold xh;have r:∀i,i<5->0<=L i-a i:=λi a=>g_;have w:∀i,i<5->0<=wd i:=λi a=>g_;have a:∀{b d c:Int},0<=b->0<=d->0<=c->0<=b*d+c:=λb d e=>by have:=Gt b d;omega
 exact a (a (a (a (r 0 om) (w 1 om) (r 1 om)) (w 2 om) (r 2 om)) (w 3 om) (r 3 om)) (w 4 om) (r 4 om)
theorem Wi{b}(a:∀i,i<5->1<=wd i)(d:∀i,i<5->b i<=L i/\L i<=b i+wd i-1):xh b wd L<wd 0*wd 1*wd 2*wd 3*wd 4:=by
 unfold xh;have r:∀i,i<5->L i-b i<=wd i-1:=λi b=>g_;have e:∀{b d w c:Int},b<d->1<=w->c<=w-1->b*w+c<d*w:=λ{b d w c} f a g=>by have h:=AU f g (Int.le_refl 0) a;omega
 exact e (e (e (e g_ (a 1 om) (r 1 om)) (a 2 om) (r 2 om)) (a 3 om) (r 3 om)) (a 4 om) (r 4 om)
theorem OV(b:0<a)(h:a*x<a*y):x<y:=Int.lt_of_mul_lt_mul_left h om
theorem T7(b:0<a)(h:a*x<=a*y):x<=y:=L6 h b
theorem TU(b:0<a)(h:a*x=a*y):x=y:=QU om h
theorem Kz.CU{a_:L_}{P e d:V4}{o b a r:Nat}(ho:0<o)(f:0<b)(j:0<a)(B:r<5)(h:Kz a_ P o r e b)(g:pV (λi=>(a:Int)*rk a_ e i-(b:Int)*rk a_ d i)):Kz a_ P o r d a:=by
 have j:(0:Int)<o:=om;have w:(0:Int)<b:=om;have p:(0:Int)<a:=om;have s:∀k,(o)*rk a_ e k=(b)*rk a_ P k->(a)*rk a_ e k-(b)*rk a_ d k=0->(o)*rk a_ d k=(a)*rk a_ P k:=λk f q=>by refine TU w ?_;grind
 have x:∀k,(o)*rk a_ e k=(b)*rk a_ P k->0<(a)*rk a_ e k-(b)*rk a_ d k->(o)*rk a_ d k<(a)*rk a_ P k:=λk f q=>by refine OV w ?_;have v:(b)*rk a_ d k<(a)*rk a_ e k:=om;have l:=Int.mul_lt_mul_of_pos_left v j;have y:(o)*((b)*rk a_ d k)=(b)*((o)*rk a_ d k):=g_;have j:(o)*((a)*rk a_ e k)=(b)*((a)*rk a_ P k):=g_;omega
 have m:∀k,(o)*rk a_ e k<(b)*rk a_ P k->0<=(a)*rk a_ e k-(b)*rk a_ d k->(o)*rk a_ d k<(a)*rk a_ P k:=λk f q=>by refine OV w ?_;have v:(b)*rk a_ d k<=(a)*rk a_ e k:=om;have l:=ZI v (show 0<=(o:Int)by omega);have l:=Int.mul_lt_mul_of_pos_left f p;grind
 rcases h with ⟨i,z,f,q⟩|⟨f,q⟩;{rcases g with g|⟨l,A,p,u⟩;{exact .inl ⟨i,z,λk j=>s k (f k j) (g k om),m i q g_⟩};by_cases t:l<i;{exact .inl ⟨l,om,λk j=>s k (f k om) (p k j),x l (f l t) u⟩};refine .inl ⟨i,z,λk j=>s k (f k j) (p k om),m i q ?_⟩;grind};(have z:0<=(a)*rk a_ e r-(b)*rk a_ d r->rk a_ d r<=(a)*(rk a_ P r/(o)):=λm=>by refine T7 w ?_;have v:=ZI q (show 0<=(a:Int)by omega);grind);rcases g with g|⟨l,A,p,u⟩;{exact .inr ⟨λk j=>s k (f k j) (g k om),z g_⟩};by_cases t:l<r;{exact .inl ⟨l,t,λk j=>s k (f k om) (p k j),x l (f l t) u⟩};refine .inr ⟨λk j=>s k (f k j) (p k om),z ?_⟩;grind
def jo (a_:L_)(mx:Nat->Int)(P:V4)(o r:Nat)(i:Nat):Int:=if i<=r then rk a_ P i/(o)else mx i
theorem zoL{a_:L_}{mx:Nat->Int}{P d:V4}{o b r a:Nat}(ho:0<o)(e:0<b)(u:a<5)(s:∀k,k<r->rk a_ P k%(o:Int)=0)(f:∀k,k<a->rk a_ d k%(b:Int)=0)(p:rk a_ d a%(b:Int)≠0)(t:∀k,k<5->rk a_ d k<=(b:Int)*mx k)(h:Kz a_ P o r d b):
 ∃k,k<5/\(∀i,i<k->jo a_ mx d b a i=jo a_ mx P o r i)/\jo a_ mx d b a k<jo a_ mx P o r k:=by
 have m:(0:Int)<o:=om;have y:(0:Int)<b:=om;have j:∀k,k<r->(o)*rk _ d k=(b)*rk a_ P k->rk a_ d k=(b)*(rk a_ P k/(o)):=λk e g=>by have f:=jA (rk a_ P k) (o);rw[s k e]at f;refine TU m ?_;rw[g];grind
 have z:∀k,k<r->(o)*rk _ d k=(b)*rk _ P k->a≠k:=λk e g l=>by subst l;rw[j a e g]at p;simp_all
 have v:∀{x q:Int},x<=(b)*q->x/(b)<=q:=λ{x q} g=>by have:=Int.ediv_le_ediv y g;rwa [jI _ om]at this
 have w:∀{x q:Int},x<(b)*q->x/(b)<q:=λ{x q} g=>(Int.ediv_lt_iff_lt_mul y).2 g_;rcases h with ⟨i,g,f,q⟩|⟨f,q⟩;{have x:i<=a:=g_;refine⟨i,om,λk e=>?_,?_⟩;{unfold jo;rw[zQ om,zQ om,j k om (f k e)];exact jI _ om};unfold jo;rw[zQ om,zQ om];refine w (OV m ?_);have m:=jA (rk a_ P i) (o);rw[s i g]at m;have:(o)*((b)*(rk a_ P i/(o)))=(b)*rk a_ P i:=g_;omega};have y:r<=a:=g_;(have s:∀k,k<r->jo _ mx d b a k=jo _ mx P o r k:=λk e=>by unfold jo;rw[zQ om,zQ om,j k e (f k e)];exact jI _ om);(have f:jo a_ mx d b a r<=jo a_ mx P o r r:=by unfold jo;rw[zQ y,zQ (zh _)];exact v q);rcases jd f with f|j;{grind};(have f:r≠a:=by intro l;subst l;unfold jo at j;rw[zQ (zh _),zQ (zh _)]at j;have m:=jA (rk a_ d r) (b:Int);rw[j]at m;have f:=J3 (rk a_ d r) (show(b:Int)≠0 by omega);omega);(have q:∀k,k<5->r<k->jo _ _ d b a k<=mx k:=λk e f=>by unfold jo;split;{exact v (t k e)};exact Int.le_refl _);(have v:jo a_ mx d b a a<mx a:=by unfold jo;rw[zQ (zh _)];refine w ?_;have f:=t a u;rcases jd f with f|f;{omega};simp_all);(have l:∀k,r<k->jo a_ _ P o r k=mx k:=λk e=>by unfold jo;rw[zO om]);grind
end

section
open V4
variable {a_:L_}{base:R_}{c:fF}{n r:Nat}{rg:Nat->Int×Int}
def Lv (n:Nat)(base:R_)(rg:Nat->Int×Int):Prop:=∀i,i<4->(i<n->(T.fe n i,(rg i).2)∈base/\((T.fe n i).map (λz=>-z),-(rg i).1)∈base)/\(n<=i->rg i=(0,0))
def w6 (a_:L_)(rg:Nat->Int×Int)(k:Nat):Int:=
 match k with
 |0=>(if a_.getD 0 0<=0 then a_.getD 0 0*(rg 0).1 else a_.getD 0 0*(rg 0).2)+(if a_.getD 1 0<=0 then a_.getD 1 0*(rg 1).1 else a_.getD 1 0*(rg 1).2)+(if a_.getD 2 0<=0 then a_.getD 2 0*(rg 2).1 else a_.getD 2 0*(rg 2).2)+(if a_.getD 3 0<=0 then a_.getD 3 0*(rg 3).1 else a_.getD 3 0*(rg 3).2)
 |i+1=>if a_.getD i 0<=0 then -(rg i).1 else(rg i).2
def wJ (a_:L_)(rg:Nat->Int×Int)(k:Nat):Int:=
 match k with
 |0=>(if a_.getD 0 0<=0 then a_.getD 0 0*(rg 0).2 else a_.getD 0 0*(rg 0).1)+(if a_.getD 1 0<=0 then a_.getD 1 0*(rg 1).2 else a_.getD 1 0*(rg 1).1)+(if a_.getD 2 0<=0 then a_.getD 2 0*(rg 2).2 else a_.getD 2 0*(rg 2).1)+(if a_.getD 3 0<=0 then a_.getD 3 0*(rg 3).2 else a_.getD 3 0*(rg 3).1)
 |i+1=>if a_.getD i 0<=0 then -(rg i).2 else(rg i).1
def m_ (a_:L_)(rg:Nat->Int×Int)(k:Nat):Int:=w6 a_ rg k-wJ a_ rg k+1
def ES (a_:L_)(rg:Nat->Int×Int):Int:=m_ a_ rg 0*m_ a_ rg 1*m_ a_ rg 2*m_ a_ rg 3*m_ a_ rg 4
theorem Kc{rows:List qO}(a:Qy n a_ c)(o:∀i r,base[i]? =E r->(r,i+1)∈rows)(hb:Lv n base rg)(s:∀r∈rows,0<=Z2 c r.1)(i:Nat)(g:i<4):(c.over:Int)*(rg i).1<=c.eT.getD i 0/\c.eT.getD i 0<=(c.over:Int)*(rg i).2:=by have b:=a.n4;obtain⟨k,l⟩:=hb i g;by_cases h:i<n;{obtain⟨v,w⟩:=k h;(have j:∀r,r∈base->0<=Z2 c r:=λr t=>by obtain⟨u,q,p⟩:=qM t;exact s _ (o u r g_));have d:=j _ v;have e:=j _ w;unfold Z2 at d e;simp only at d e;(have f:T.eS (T.fe n i) c.eT=c.eT.getD i 0:=by rw[QD (by rw[QS,a.fK]) (by rw[a.fK];omega),El b h];obtain⟨x,y,z,A⟩:=D0 (fh c.eT);rcases oF g with rfl|rfl|rfl|rfl;{exact x};{exact y};{exact z};exact A);(have m:T.eS ((T.fe n i).map λB=>-B) c.eT=- c.eT.getD i 0:=by rw[QD (by simp[QS,a.fK]) (by rw[a.fK];omega),I9,iA,<-QD (by rw[QS,a.fK]) (by rw[a.fK];omega),f];omega);grind};rw[l om];(have:c.eT.getD i 0=0:=by rw[zk,qL (by rw[a.fK];omega)];rfl);omega
theorem Rx(a:Qy n a_ c)(h:∀i,i<4->(c.over:Int)*(rg i).1<=c.eT.getD i 0/\c.eT.getD i 0<=(c.over:Int)*(rg i).2)(k:Nat)(b:k<5):(c.over:Int)*wJ a_ rg k<=rk a_ (fh c.eT) k/\rk a_ (fh c.eT) k<=(c.over:Int)*w6 a_ rg k:=by
 have one:∀i,i<4->(c.over:Int)*(if a_.getD i 0<=0 then a_.getD i 0*(rg i).2 else a_.getD i 0*(rg i).1)<=a_.getD i 0*c.eT.getD i 0/\a_.getD i 0*c.eT.getD i 0<=(c.over:Int)*(if a_.getD i 0<=0 then a_.getD i 0*(rg i).1 else a_.getD i 0*(rg i).2):=by intro i d;obtain⟨a,b⟩:=h i d;have f:(c.over:Int)*(a_.getD i 0*(rg i).1)=a_.getD i 0*((c.over:Int)*(rg i).1):=g_;have g:(c.over:Int)*(a_.getD i 0*(rg i).2)=a_.getD i 0*((c.over:Int)*(rg i).2):=g_;split;{rename_i e;rw[f,g];exact⟨MB e b,MB e a⟩};simp_all
 cases k with |zero=>have e:=one 0 om;have e:=one 1 om;have e:=one 2 om;have e:=one 3 om;have e:rk _ (fh _) 0=a_.getD 0 0*c.eT.getD 0 0+a_.getD 1 0*c.eT.getD 1 0+a_.getD 2 0*c.eT.getD 2 0+a_.getD 3 0*c.eT.getD 3 0:=rfl;rw[e];unfold wJ w6;grind |succ i=>have d:i<4:=om;obtain⟨a,b⟩:=h i d;(have f:(QV i).dot (fh c.eT)=c.eT.getD i 0:=by obtain⟨g,h,j,l⟩:=D0 (fh c.eT);rcases oF d with rfl|rfl|rfl|rfl;{exact g};{exact h};{exact j};exact l);have e:rk _ _ (i+1)=(if a_.getD i 0<=0 then(QV i).smul (-1)else QV i).dot (fh c.eT):=rfl;rw[e];unfold wJ w6;simp only;split;{rw[iA,f,KZ,KZ];omega};omega
theorem Fe(h:∀i,i<4->(rg i).1<=(rg i).2)(k)(a:k<5):1<=m_ a_ rg k:=by
 have one:∀i,i<4->(if a_.getD i 0<=0 then a_.getD i 0*(rg i).2 else a_.getD i 0*(rg i).1)<=(if a_.getD i 0<=0 then a_.getD i 0*(rg i).1 else a_.getD i 0*(rg i).2):=by intro i b;split;{rename_i a;exact MB a (h i b)};simp_all
 unfold m_;cases k with |zero=>have:=one 0 om;have:=one 1 om;have:=one 2 om;have:=one 3 om;unfold w6 wJ;grind |succ i=>have:=h i om;unfold w6 wJ;grind
theorem K7(d:Qy n a_ c)(b:∀i,i<4->(c.over)*(rg i).1<=c.eT.getD i 0/\c.eT.getD i 0<=(c.over)*(rg i).2)(r):
 (∀i,i<5->1<=m_ a_ rg i)/\∀i,i<5->wJ a_ rg i<=jo a_ (w6 a_ rg) (fh c.eT) c.over r i/\jo a_ (w6 a_ rg) (fh c.eT) c.over r i<=wJ a_ rg i+m_ a_ rg i-1:=by
 have a:=d.pos;have f:∀i,i<4->(rg i).1<=(rg i).2:=λi a=>by obtain⟨_,_⟩:=b i a;exact T7 (show 0<(c.over:Int)by omega) om
 have e:=Fe (a_:=a_) f;refine⟨e,λi a=>?_⟩;obtain⟨f,g⟩:=Rx d b i a;have b:=e i a;have a:wJ a_ rg i+m_ a_ rg i-1=w6 a_ rg i:=by unfold m_;omega
 rw[a];unfold m_ at b;unfold jo;split;{refine⟨(Lz om).2 g_,?_⟩;have:=Int.ediv_le_ediv (show 0<(c.over:Int)by omega) g;rwa [jI _ om]at this};omega
theorem Ut(p:Nat->Bool):∀(m s r:Nat) (rs:N_),(List.range' s m).filter p=r::rs->s<=r/\r<s+m/\p r=true/\∀k,s<=k->k<r->p k=false
 |0,s,r,rs,h=>by simp at h |m+1,s,r,rs,h=>by rw[List.range'_succ,Qz]at h;by_cases a:p s=true;{rw[zQ a]at h;simp only[Dy]at h;obtain⟨rfl,_⟩:=h;exact⟨zh _,om,a,λk b d=>om⟩};rw[zO a]at h;obtain⟨b,d,b,d⟩:=Ut p m (s+1) r rs h;refine⟨om,om,b,λk b b=>?_⟩;by_cases e:k=s;{subst e;simpa using a};exact d k om b
theorem Uf(h:Qy n a_ c){rs:N_}(hs:qU n a_ c=r::rs):r<5/\rk a_ (fh c.eT) r%(c.over)≠0/\∀k,k<r->rk a_ (fh c.eT) k%(c.over)=0:=by have e:=h.n4;have a:=hs;unfold qU at a;rw[Mz]at a;have⟨_,_,_,b⟩:=Ut _ _ _ _ _ a;have hm:=(ED h).1 (by rw[hs];exact qA);refine⟨om,hm.2,λk d=>?_⟩;have a:=b k om d;simp only[ne_eq,decide_not,Bool.not_eq_false',Z9]at a;rwa [CG (by rw[h.ld,h.fK]) (by rw[h.fK];omega) k om]at a
theorem S0{d:fF}(e:Qy n a_ c)(g:Qy n a_ d):D5 a_ c d=true↔c.gt a_ d:=by
 have h:=e.n4;unfold D5;rw[decide_eq_true_iff];have f:(List.zipWith (λa b=>a*(d.over:Int)-b*(c.over:Int)) c.eT d.eT).length=n:=by simp[e.fK,g.fK]
 rw[O3 (by rw[e.ld,f]) om];have h:fh (List.zipWith (λa b=>a*(d.over:Int)-b*(c.over:Int)) c.eT d.eT)=((fh c.eT).smul (d.over:Int)).add ((fh d.eT).smul (-(c.over:Int))):=by (have f:∀i,(List.zipWith (λa b=>a*(d.over:Int)-b*(c.over:Int)) c.eT d.eT).getD i 0=(d.over:Int)*c.eT.getD i 0+(-(c.over:Int))*d.eT.getD i 0:=λi=>by rw[JE sp (by rw[e.fK,g.fK])];grind);exact ext' (f 0) (f 1) (f 2) (f 3)
 have e:∀i,rk a_ (fh _) i=(d.over)*rk a_ (fh c.eT) i-(c.over)*rk a_ (fh d.eT) i:=λi=>by rw[h,Il,JH,JH];grind
 exact⟨λh=>h.congr (λi _=>e i),λh=>h.congr (λi _=>(e i).symm)⟩
theorem FE{d}(h:¬c.gt a_ d):d.ge a_ c:=by rcases Pm (λi=>d.over*rk a_ (fh c.eT) i-c.over*rk a_ (fh d.eT) i)with a|a;{exact absurd a h};exact a.congr (λi _=>om)
theorem Ox{c}{num}(h:Qy n a_ c)(d:r<5)(b:rk a_ (fh c.eT) r%(c.over)≠0)(a:∀e∈c.eN,e.num≠num):
 Qe a_ c (Zd n a_ c r) num=E (Z1 n a_ c num r)/\∃j o,xL n a_ c (Zd n a_ c r) num (Z1 n a_ c num r) j o:=by
 have k:=Fa h d b;obtain⟨f,g⟩:=OZ h k.len a;have d:∃a,Qe a_ c (Zd n a_ c r) num=E a:=by cases hx:Qe a_ c (Zd n a_ c r) num with |some a=>grind |none=>obtain⟨e,b,_⟩:=OA h k;grind
 obtain⟨a,b⟩:=d;have d:Z1 n a_ c num r=a:=by unfold Z1;rw[b];rfl
 grind
theorem PA{num:Nat}(e:∀r,r∈qU n a_ c->Qy n a_ (Z1 n a_ c num r)):∀(rs:N_) (b:Option Nat) (r:Nat),(∀x∈rs,x∈qU n a_ c)->(∀x,b=E x->x∈qU n a_ c)->jF n a_ c num rs b=E r->∀x,(x∈rs\/b=E x)->(Z1 n a_ c num x).ge a_ (Z1 n a_ c num r)
 |[],b,r,_,_,h,x,a=>by rcases a with a|a;{simp at a};rw[jF]at h;rw[h]at a;cases a;exact XC _ _ |y::rs,O,r,h1,h2,h,x,a=>by rw[jF]at h;have d:=PA e rs (E y) r (λx a=>h1 x (qq _ a)) (λx a=>by cases a;exact h1 y qA) h;rcases a with a|a;{rcases zI.1 a with rfl|a;{exact d x (.inr rfl)};exact d x (.inl a)};cases a |y::rs,E b,r,h1,h2,h,x,a=>by rw[jF]at h;have i:=h1 y qA;have g:=h2 b rfl;have d:=PA e rs _ r (λx a=>h1 x (qq _ a)) (λx a=>by split at a;{cases a;exact i};cases a;exact g) h;by_cases f:D5 a_ (Z1 n a_ c num b) (Z1 n a_ c num y)=true;{rw[zQ f]at d;have j:=(S0 (e b g) (e y i)).1 f;have l:=d y (.inr rfl);rcases a with a|a;{rcases zI.1 a with rfl|a;{exact l};exact d x (.inl a)};cases a;exact XD (e y i).pos j.ge l};rw[zO f]at d;have j:=FE (λh=>f ((S0 (e b g) (e y i)).2 h));have k:=d b (.inr rfl);rcases a with a|a;{rcases zI.1 a with rfl|a;{exact XD (e b g).pos j k};exact d x (.inl a)};cases a;exact k
def Eh (n:Nat)(a_:L_)(rg:Nat->Int×Int)(eP:Nat)(rows:List qO)(c:fF)(cap:Int):Prop:=
 ∀c2 r rs,ZV a_ rows eP c= .inl c2->qU n a_ c2=r::rs->xh (wJ a_ rg) (m_ a_ rg) (jo a_ (w6 a_ rg) (fh c2.eT) c2.over r)<cap
theorem Ub{rows}{a}{fG}(h:ou n a_ base rows c a fG):∀r∈rows,r.2<base.length+a.length+1:=by intro r b;have⟨_,a⟩:=(h.fy r b).1;have:=jQ a;have:=h.len;omega
theorem zqV{eP:Nat}(ab:0<eP){rows:List qO}{b:List Zy}{fG:R_}(v:Lv n base rg)(h:ou n a_ base rows c b fG)(z:∀r∈rows,0<=Z2 c r.1){i:Nat}{rs:N_}(hs:qU n a_ c=i::rs)(w:jF n a_ c (base.length+b.length+1) (qU n a_ c) O=E r):
 Eh n a_ rg eP (jw c base.length rows ++ [(Zd n a_ c r,base.length+b.length+1)]) c (xh (wJ a_ rg) (m_ a_ rg) (jo a_ (w6 a_ rg) (fh c.eT) c.over i)):=by
 intro j r2 ae q a7;have a:=h.fJ.fJ;have ad:=a.n4;have p:∀m∈c.eN,m.num≠base.length+b.length+1:=λm X=>by have:=Ub h _ (h.fJ.fT m X);omega
 have e:∀x,x∈qU n _ c->x<5/\rk _ _ x%(c.over)≠0:=λx d=>by have:=(ED a).1 d;exact⟨om,this.2⟩
 have u:∀x,x∈qU n _ c->Qy n _ (Z1 n _ c _ x):=λx d=>by obtain⟨_,a9,aa,s⟩:=Ox a (e x d).1 (e x d).2 p;exact s.fJ
 have g:r∈qU n a_ c:=by rcases Gd _ _ _ w with hm|hm;{omega};grind
 have Q:i∈qU n a_ c:=g_;have W:=PA u _ O r (λx d=>d) (λx d=>g_) w i (.inl Q);obtain⟨k,y,U⟩:=Uf a hs;have l:=Fa a (e r g).1 (e r g).2;have o:=h.cut h.fJ (e r g).1 l;have T:Qv c (jw c base.length rows ++ [(Zd n a_ c r,base.length+b.length+1)])=E (Zd n a_ c r,base.length+b.length+1):=by unfold Qv;rw[List.find?_append];(have hn:(jw c base.length rows).find? (λr=>decide (Z2 c r.1<0))=O:=by rw[N8];intro x d;have:=z x (PI d);simp;omega);rw[hn];have:=Uc a l;simp[this]
 obtain⟨a8,a9,aa,s⟩:=Ox a (e r g).1 (e r g).2 p;have Y:(Z1 n a_ c (base.length+b.length+1) r).ge a_ j/\J4 n a_ (jw c base.length rows ++ [(Zd n a_ c r,base.length+b.length+1)]) j/\∀x∈(jw c base.length rows ++ [(Zd n a_ c r,base.length+b.length+1)]),0<=Z2 j x.1:=by cases eP with |zero=>omega |succ M=>rw[ZV,T]at q;simp only[a8]at q;have a0:=P2 (r:=(Zd n _ c r,base.length+b.length+1)) o.fJ s sp;obtain⟨s1,-⟩:=Ee o.fy M _ a0;grind
 obtain⟨N,f,P⟩:=Y;obtain⟨_,_,_,A⟩:=Ox a k y p;have R:=znJ a k (Fa a k y) A;have Z:=XD (u r g).pos W N;have S:=R.CU a.pos A.fJ.pos f.fJ.pos k Z;have I:=Kc a h.given v z;have t:=Kc f.fJ o.given v P;obtain⟨J,K,L⟩:=Uf f.fJ a7;obtain⟨B,a4,a5,a6⟩:=zoL a.pos f.fJ.pos J U L K (λB l=>(Rx f.fJ t B l).2) S;obtain⟨w1,l1⟩:=K7 a I i;obtain⟨_,l2⟩:=K7 f.fJ t r2;exact zrR w1 l2 l1 a4 a5 a6
theorem ME{eP:Nat}(N5:10000<=eP)(MU:Lv n base rg){H:R_}(hH:H.length<=14):∀(k:Nat) (rows:List qO) (c:fF) (ls:List Zy) (fG:R_) (cap:Int),ou n a_ base rows c ls fG->sU n base H rows->Eh n a_ rg eP rows c cap->cap<=(k:Int)->∀m,kq n a_ base.length eP k rows c ls≠ .inr (.inr m)
 |0,rows,c,ls,fG,cap,h,hc,nv,hk,m=>by
  rw[kq];obtain⟨s1,s2⟩:=Ee h.fy eP c h.fJ;obtain⟨H',q1,q2⟩:=hc.all h.fJ.fJ.n4 hH;cases hs:ZV a_ rows eP c using XF with
  |li=>exact absurd hs (SW h.fy q2 q1 N5 h.fJ)
  |no c' r=>intro he;cases he
  |ok c'=>
   obtain⟨a1,a2,a3⟩:=s1 c' hs;simp only;cases hd:jF n a_ c' (base.length+ls.length+1) (qU n a_ c') Option.none with
   |none=>intro he;cases he
   |some r=>
    exfalso
    cases hsp:qU n a_ c' with
    |nil=>rw[hsp,jF]at hd;cases hd
    |cons r1 rs=>
     have h1:=nv c' r1 rs hs hsp;obtain⟨w1,l1⟩:=K7 a1.fJ (Kc a1.fJ h.given MU a3) r1;have h2:=VU w1 (λi hi=>(l1 i hi).1);have hk0:cap<=0:=by simpa using hk
     omega
 |k+1,rows,c,ls,fG,cap,h,hc,nv,hk,m=>by
  rw[kq];obtain⟨s1,s2⟩:=Ee h.fy eP c h.fJ;obtain⟨H',q1,q2⟩:=hc.all h.fJ.fJ.n4 hH;cases hs:ZV a_ rows eP c using XF with
  |li=>exact absurd hs (SW h.fy q2 q1 N5 h.fJ)
  |no c' r=>intro he;cases he
  |ok c'=>
   obtain⟨a1,a2,a3⟩:=s1 c' hs;simp only;cases hd:jF n a_ c' (base.length+ls.length+1) (qU n a_ c') Option.none with
   |none=>intro he;cases he
   |some r=>
    have n4:=a1.fJ.n4;have hm:r∈qU n a_ c':=by
     rcases Gd _ _ _ hd with hm|hm
     ·exact hm
     ·cases hm
    obtain⟨m1,m2⟩:=(ED a1.fJ).1 hm;have hi:=h.to a1;cases hsp:qU n a_ c' with
    |nil=>rw[hsp]at hm;cases hm
    |cons r1 rs=>
     have h1:=nv c' r1 rs hs hsp;have hcap':=zqV (eP:=eP) (by omega) MU hi a3 hsp hd;refine ME N5 MU hH k _ _ _ _ _ (hi.cut a1 (by omega) (Fa a1.fJ (by omega) m2)) (hc.cut a1.fJ _ (Ub hi) (by omega)) hcap' ?_ m;omega
end

section
open Go.RowKit
attribute [local go_sem] zD zW qJ
variable {w:H}
theorem QG.open{r}{x}(h:QG w r x):∃(fa:A_) (fc:Nat) (t:WT) (ts:List _),r=⟨(fa,ts.length,fc),t⟩/\ts.length=x.1.length/\ZS w 88 (V fa ts.length fc) 2 (ts.map WT.cells)/\(∀(i:Nat) t z,ts[i]? =E t->x.1[i]? =E z->zy w t.val z)/\zy w t.val x.2:=by obtain⟨⟨fa,_,fc⟩,t⟩:=r;obtain⟨⟨ts,b,a,d⟩,hm⟩:=h;obtain⟨_,_,e⟩:=a.shape;rw[zm]at e;simp only[RW.fv,qp]at e;obtain⟨rfl,rfl,rfl⟩:=e;exact⟨_,_,t,_,rfl,b,a,d,hm⟩
theorem Bf(K)(hK:K<=1073741823)(w)(r s)(x y)(h:QG w r x)(k:QG w s y)(hl:x.1.length=y.1.length)(hn:x.1.length<=100000)(bx:(∀z∈x.1,z.natAbs<4294967296^K)/\x.2.natAbs<4294967296^K)(al:(∀z∈y.1,z.natAbs<4294967296^K)/\y.2.natAbs<4294967296^K):
 C_ 96 #[r.val,s.val] w λe w'=>e=Xa (G (decide (x=y)))/\b_ w w':=by
 obtain⟨fa,l,⟨F,C,J,I⟩,a,rfl,b,p,g,hm⟩:=h.open;obtain⟨m,o,⟨N,L,Q,P⟩,ss,rfl,an,a2,ao,au⟩:=k.open;have ae:ss.length=a.length:=om;rw[ae]at a2⊢;simp only[RW.val,RW.fv,WT.sv,WT.val]at p hm a2 au⊢;have H1:=zf b;have H2:=zf p;have H3:=zf g;have aT:=zf an;have ax:=zf a2;have ay:=zf ao;have aE:=zf ae;have aW:a.length<=100000:=om;have ah:=zf bx;have ai:=zf al;clear b p g an a2 ao ae bx al h k;have a5:Ext w (((w.alloc (cl #[V fa a.length l,G F,V C J I] 90)).alloc (cl #[V m a.length o,G N,V L Q P] 90)).alloc (cl #[G false] 4)):=(((Xe w).alloc _).alloc _).alloc _;have a3:(((w.alloc _).alloc (cl #[V m a.length o,G N,V L Q P] 90)).alloc (cl #[G false] 4)).heap[w.heap.size]? =E (cl #[V fa a.length l,G F,V C J I] 90):=(qH _ _ _ so).trans (Xi w _ _).1;have a4:(((w.alloc (cl #[V fa a.length l,G F,V C J I] 90)).alloc _).alloc (cl #[G false] 4)).heap[w.heap.size+1]? =E (cl #[V m a.length o,G N,V L Q P] 90):=(qH _ _ _ sp).trans (Xi w _ _).2;have a9:(((w.alloc (cl #[V fa a.length l,G F,V C J I] 90)).alloc (cl #[V m a.length o,G N,V L Q P] 90)).alloc (cl #[G false] 4)).heap[w.heap.size+1+1]? =E (cl #[G false] 4):=by have:=zC ((w.alloc (cl #[V fa a.length l,G F,V C J I] 90)).alloc (cl #[V m a.length o,G N,V L Q P] 90)) (cl #[G false] 4);simpa using this
 refine Q0 func96 ntmps96 (h:=?_);gi_wp2;generalize World.alloc _ _=j at *;refine(zq.2 (Hl _ m _ l _ o j)).mono ?_;rintro e f ⟨rfl,a7⟩;have Y:Ext j f:=by rw[a7];exact((Xe j).alloc _).alloc _
 have k1:f.cell? (y_ j 0)=E (V fa a.length l):=by rw[a7];exact c_ 0 (Xi _ _ _).1
 have k2:f.cell? (x_ j 0)=E (V m a.length o):=by rw[a7];exact c_ 0 (Xi _ _ _).2
 clear a7;have t:=a5.trans Y;have HM:=zf (λa0 (q:Ext j a0)=>Xc (q.cell (c_ 0 a3)) (Xc (q.cell (c_ 1 a3)) (Xc (q.cell (c_ 2 a3)) (Xc (q.cell (c_ 0 a4)) (Xc (q.cell (c_ 1 a4)) (q.cell (c_ 2 a4)))))));have HR:=zf (λa0 (q:Ext j a0)=>eK q a9);clear a3 a4 a9;gi_wp2;refine ZT (G6 a _ aE.out.symm fa m l o _ _ om) rfl (qW func198 kr rfl) (λk aS a0=>g_) (kN f (w.heap.size+1+1) a.length (λi=>x.1.getD i 0=y.1.getD i 0)) (kL w (w.heap.size+1+1) (λi=>x.1.getD i 0=y.1.getD i 0)) (λa1=>a1=w.heap.size+1+1) ?hI ?hIx ?hC ?h0 ?round ?done ?stop;case hI=>exact λk M A aw h hk=>h.eL hk
 case hIx=>exact λc k A aw h hk=>h.eL hk t.size
 case hC=>rintro k M A ⟨b,p,g,U⟩;refine⟨⟨b.cell k1,b.cell k2,(H2.out.ext (t.trans b)).gy,(ax.out.ext (t.trans b)).gy⟩,λa1 hb=>?_⟩;have:=(zd.1 (HR.out A (Y.trans b))).1;grind
 case h0=>exact⟨Xe _,qo _,λi hi=>om,λa1=>Qb⟩
 case round=>rintro l2 k aS M A aN ⟨t0,s0,aR,aQ,rfl⟩ ⟨b,p,g,U⟩;(have aP:k<x.1.length:=by have:=H1.out;omega);have aO:k<y.1.length:=om;have hz:x.1[k]? =E (x.1.getD k 0):=g_;have af:y.1[k]? =E (y.1.getD k 0):=g_;have aa:=(H3.out k _ _ aR hz).below (t.trans b);have ab:=(ay.out k _ _ aQ af).below (t.trans b);have ap:=ah.out.1 _ (zx hz);have aq:=ai.out.1 _ (zx af);obtain⟨z,hzz⟩:∃z,x.1.getD k 0=z:=⟨_,rfl⟩;obtain⟨z',hzz'⟩:∃z,y.1.getD k 0=z:=⟨_,rfl⟩;rw[hzz]at aa ap;rw[hzz']at ab aq;have aj:=zf hzz;have ak:=zf hzz';clear hzz hz hzz' af;obtain⟨yb,ya,yl,yc⟩:=t0;obtain⟨pb,pa,pl,pc⟩:=s0;simp only[WT.val,WT.sv]at aa ab⊢;unfold Zz;gi_wp2;refine⟨Xh (((Xe A).alloc _).alloc _),λZ ad=>?_⟩;have xA:=((zn.alloc _ A _).trans (zn.alloc _ _ _)).trans ad;have xE:Ext f Z:=xA.below b (zh _) (zh _);have e0:=ad.block _ _ (Xi A (cl _ 88) _).1 (.inr rfl);have e1:=ad.block _ _ (Xi A _ (cl _ 88)).2 (.inr rfl);obtain ⟨d0,d1⟩:=d_ e0;obtain ⟨d2,d3⟩:=d_ e1;have aF:=aa.eL xA;have aG:=ab.eL xA;gi_wp2;refine(Zq _ (zq.2 (Ip Z _ _ z _ K hK aF aG ap aq))).mono ?_;rintro e d ⟨c,rfl,a6,u,aI,aJ,B⟩;have R:=xE.trans (Xg B);have S:=HR.out d (Y.trans R);have c3:=c_ 0 S;have f3:=Xf (j:=0) S;by_cases av:c=0;{have aB:=zf (u.1 av);have HF:Hid (ZL M (kN f _ _ _) (kL w (w.heap.size+1+1) (λi=>x.1.getD i 0=y.1.getD i 0)) k A Z .normal { tmps:=#[],defers:= [] } d):=⟨Xh B,M,⟨R,aN,λi hi=>by rcases Qc i k with h|h;{exact g i h};have:i=k:=om;rw[this,aj.out,ak.out];omega,U⟩,λy hy=> .inl hy⟩;clear a6 u;gi_wp2;exact HF.out};have aC:=zf (λh=>av (u.2 h));have HF:Hid (ZL M (kN f (w.heap.size+1+1) a.length (λi=>x.1.getD i 0=y.1.getD i 0)) (kL w _ (λi=>x.1.getD i 0=y.1.getD i 0)) k A Z .ret { tmps:=#[],defers:= [] } (d.setCell (w_ w 0) _)):=⟨(Xh B).trans (zv ((U _).2 rfl) _),rfl,(λh=>aC.out (aj.out.symm.trans (h.trans ak.out))),Below.setCell (t.trans R) so _,zN _ _ _ c3⟩;clear a6 u;gi_wp2;exact HF.out
 case done=>rintro D M A hD ⟨b,p,g,U⟩ W;have a8:=Y.trans b;obtain⟨_,_,_,_,_,_⟩:=HM.out A a8;(have az:Hid (x.1=y.1):=by rw[Hid];apply List.ext_getElem hl;intro i hi aM;have:x.1.getD i 0=y.1.getD i 0:=g i (by have:=H1.out;omega);rw[zk,zg hi,zk,zg aM]at this;exact this);have aD:=zf (Ip A _ _ _ _ K hK (hm.below (a5.trans a8)) (au.below (a5.trans a8)) ah.out.2 ai.out.2);clear g;gi_wp2;refine(zq.2 aD.out).mono ?_;rintro e d ⟨c,rfl,a6,u,aI,aJ,B⟩;have R:=a8.trans (Xg B);have S:=HR.out d R;have c3:=c_ 0 S;have f3:=Xf (j:=0) S;have aK:=((Xg B).block D (zd.1 W).1).trans W;have aU:=(zd.1 (HR.out f Y)).1;(have aA:Hid ((c == 0)=decide (x=y)):=by rw[Hid,Gu,beq_iff_eq,decide_eq_true_iff,u];exact⟨λh=>Prod.ext az.out h,λh=>by rw[h]⟩);clear a6 u;generalize aV:(c == 0)=v at *;gi_wp2;have ar:(d.setCell (w_ w 0) (G v)).heap[D]? =E (.deferred _):=(qC _ _ _ _ so).trans aK;refine qh ar ?_;have X:zn _ _ ((d.setCell _ _).putObj D (.deferred O)):=zn.putObj _ hD ar rfl;have c9:=X.cell (zN _ _ _ c3);have aH:b_ w (d.setCell (w_ w 0) (G v)):=Below.setCell (a5.trans R) so _;exact⟨G v,by simp[results,results96,go_sem,c9],by rw[aA.out],(X.mono t.size).below aH (zh _) (zh _)⟩
 case stop=>rintro D c k A hD hk ⟨rfl,b,p,g⟩ W;gi_wp2;refine qh W ?_;have X:zn _ A (A.putObj D (.deferred O)):=zn.putObj _ hD W rfl;have c9:=X.cell g;have aL:decide (x=y)=false:=g_;exact⟨G false,by simp[results,results96,go_sem,c9],g_,(X.mono t.size).below p (zh _) (zh _)⟩
theorem L9{g b j}{u d e}(f:b≠g)(h:w.cell? (Xd b j O)=E u):((w.setCell (Xd g 0 O) d).setCell (Xd g 1 O) e).cell? (Xd b j O)=E u:=by rw[Zj];{exact h};exact(qC _ _ _ _ so).trans (qC _ _ _ _ so)
theorem ZS.lt{t}{v}{size}{a}(h:ZS w t v size a):∀g,v.ownBlock=E g->g<w.heap.size:=by intro g a;rcases h with ⟨e,_⟩|⟨b,off,_,e,_,d,_⟩;{rw[e]at a;cases a};rw[e]at a;(have:b=g:=by simpa[Value.ownBlock]using a);rw[<-this];exact d.lt
theorem ZS.vf{U:Nat->Prop}{w':H}{t:TypeId}{v:Value}{size:Nat}{a:List (List Value)}(h:ZS w t v size a)(e:Wr U w w')(j:∀g,v.ownBlock=E g->¬U g):ZS w' t v size a:=by rcases h with h|⟨g,off,f,a,i,b,k⟩;{exact Or.inl h};have d:=j g (by rw[a];rfl);exact Or.inr ⟨g,_,f,a,i,b.same (e.block g b.lt d),λi cs a j u b=>e.cell d (k i cs a j u b)⟩
def AR (w1:H)(gs n:Nat)(d:Nat->Int)(k:Nat)(M:Nat->Prop)(A:H):Prop:=
 Wr (λb=>b=gs) w1 A/\k<=n/\(∃(t:WT) (fr:Nat×Nat),A.heap[gs]? =E (cl #[G t.b,t.sv] 88 fr)/\A.frozen? (Xd gs 0 O)=false/\A.frozen? (Xd gs 1 O)=false/\zy A t.val (d k))/\∀b,M b↔b=gs
theorem AR.eL{w1 A B:H}{b n:Nat}{d:Nat->Int}{k:Nat}{M:Nat->Prop}(h:AR w1 b n d k M A)(g:zn w1.heap.size A B):AR w1 b n d k M B:=by obtain⟨j,l,⟨t,i,f,m,o,p⟩,q⟩:=h;have e:=g.block _ _ f (.inr rfl);exact⟨j.eL g,l,⟨t,i,e,(qw (e.trans f.symm)).trans m,(qw (e.trans f.symm)).trans o,p.eL g⟩,q⟩
theorem TB(fa a:A_)(fl fc d b)(w):
 C_ 169 #[ag #[V fa fl fc],V a d b] w λe w'=>e=Xa (.func (.func 198) #[] #[p_ (w.heap.size+1) 0,p_ (w.heap.size+1+1) 0])/\w'=((w.alloc (cl #[V fa fl fc] 84)).alloc (cl #[V fa fl fc] 82)).alloc (cl #[V a d b] 82):=by go_enter func169,ntmps169;go_wp2_with fail;refine(Hl _ a _ _ d b _).mono ?_;rintro e a ⟨rfl,rfl⟩;go_wp2;go_ret;simp
theorem O4(K:Nat)(f:K+K<=1073741823)(w:H)(fa X:A_)(fc Y:Nat)(ts Q:List WT)(zs xs:L_)(h1:ts.length=zs.length)(h2:ZS w 88 (V fa ts.length fc) 2 (ts.map WT.cells))(q:∀(i:Nat) (t:WT) (z:Int),ts[i]? =E t->zs[i]? =E z->zy w t.val z)(ax:Q.length=xs.length)(ad:ZS w 88 (V X Q.length Y) 2 (Q.map WT.cells))(ay:∀(i:Nat) (t:WT) (z:Int),Q[i]? =E t->xs[i]? =E z->zy w t.val z)(hl:zs.length=xs.length)(hn:zs.length<=100000)(bz:∀z∈zs,z.natAbs<4294967296^K)(bx:∀z∈xs,z.natAbs<4294967296^K)(bm:∀a∈zs,∀b∈xs,(a*b).natAbs<4294967296^K)(bs:∀j,(T.eS (zs.take j) (xs.take j)).natAbs<4294967296^K):
 C_ 95 #[ag #[V fa ts.length fc],V X Q.length Y] w λe w'=>∃t:WT,e=Xa t.val/\zy w' t.val (T.eS zs xs)/\b_ w w':=by
 have an:Q.length=ts.length:=om;rw[an]at ad⊢;have H1:=zf h1;have H2:=zf h2;have H3:=zf q;have bc:=zf ax;have au:=zf ad;have aN:=zf ay;have aU:=zf an;have bg:ts.length<=100000:=om;have aR:=zf bz;have aQ:=zf bx;have aO:=zf bm;have aP:=zf bs;clear h1 h2 q ax ad ay an bz bx bm bs;have aX:Ext w (((w.alloc (cl #[V fa ts.length fc] 84)).alloc (cl #[G false,V_] 88)).alloc (cl #[G false,V_] 88)):=(((Xe w).alloc _).alloc _).alloc _;have aW:(((w.alloc _).alloc (cl #[G false,V_] 88)).alloc (cl #[G false,V_] 88)).heap[w.heap.size]? =E (cl #[V fa ts.length fc] 84):=(qH _ _ _ so).trans (Xi w _ _).1;have af:(((w.alloc (cl #[V fa ts.length fc] 84)).alloc _).alloc (cl #[G false,V_] 88)).heap[w.heap.size+1]? =E (cl #[G false,V_] 88):=(qH _ _ _ sp).trans (Xi w _ _).2;have ae:(((w.alloc (cl #[V fa ts.length fc] 84)).alloc (cl #[G false,V_] 88)).alloc (cl #[G false,V_] 88)).heap[w.heap.size+1+1]? =E (cl #[G false,V_] 88):=by have:=zC ((w.alloc (cl #[V fa ts.length fc] 84)).alloc (cl #[G false,V_] 88)) (cl #[G false,V_] 88);simpa using this
 refine Q0 func95 ntmps95 (h:=?_);gi_wp2;generalize (((w.alloc (cl #[V fa ts.length fc] 84)).alloc (cl #[G false,V_] 88)).alloc (cl #[G false,V_] 88))=u at *;refine(zq.2 (TB _ X _ _ _ Y u)).mono ?_;rintro e v ⟨rfl,aa⟩;have x1:Ext u v:=by rw[aa];exact(((Xe u).alloc _).alloc _).alloc _
 have k1:v.cell? (x_ u 0)=E (V fa ts.length fc):=by rw[aa];exact(((Xe _).alloc _).cell (c_ 0 (Xi _ _ _).2))
 have k2:v.cell? (w_ u 0)=E (V X ts.length Y):=by rw[aa];have:=c_ 0 (zC ((u.alloc (cl #[V fa ts.length fc] 84)).alloc (cl #[V fa ts.length fc] 82)) (cl #[V X ts.length Y] 82));simpa using this
 clear aa;have J:=aX.trans x1;have aZ:=(zd.1 ae).1;have a1:=(x1.block _ aZ).trans ae;have HR:=zf (eK x1 af);clear aW ae af;have bh:=x1.size;gi_wp2;refine ZT (G6 _ Q aU.out.symm fa X fc Y _ _ om) rfl (qW func198 kr rfl) (λk ba W=>g_) (AR v (w.heap.size+1+1) ts.length (λk=>T.eS (zs.take k) (xs.take k))) (λ_ _ _=>False) (λb=>b=w.heap.size+1+1) ?hI ?hIx ?hC ?h0 ?round ?done ?stop;case hI=>exact λk a3 A bb N hk=>N.eL hk
 case hIx=>grind
 case hC=>rintro k a3 A ⟨h1,h2,⟨t,fr,q,-⟩,h4⟩;refine⟨⟨h1.cell so k1,h1.cell so k2,((H2.out.ext J).vf h1 (λab hg e=>by have:=H2.out.lt _ hg;omega)).gy,((au.out.ext J).vf h1 (λab hg e=>by have:=au.out.lt _ hg;omega)).gy⟩,λb s=>?_⟩;grind
 case h0=>exact⟨Xk _ _,qo _,⟨⟨_,O,0,0⟩,_,a1,Xf a1,Xf a1,⟨_,_,rfl,Xo _ _ _,rfl⟩⟩,λb=>Qb⟩
 case round=>rintro l2 k ba a3 A b4 ⟨t0,s0,b8,b7,rfl⟩ ⟨h1,h2,⟨⟨h,g,m,l⟩,fr,q,aj,ak,Z⟩,h4⟩;(have a9:k<zs.length:=by have:=H1.out;omega);have a8:k<xs.length:=om;have hz:=zg a9;have aI:=zg a8;(have aD:∀b,b=w.heap.size+1+1->qK v b:=λb s=>by rw[s];exact zE a1 (by intro aL I;simp at I;rcases I with rfl|rfl<;>(intro n e;grind)));have ah:=((H3.out k _ _ b8 hz).below J).wr h1 aD;have ai:=((aN.out k _ _ b7 aI).below J).wr h1 aD;have aA:=aR.out _ (zJ a9);have aB:=aQ.out _ (zJ a8);have a0:=aO.out _ (zJ a9) _ (zJ a8);have av:=zf (T.yZ a9 a8);have a5:=aP.out k;generalize zs[k]=z at *;generalize xs[k]=R at *;obtain⟨L,AV⟩:∃L,T.eS (zs.take k) (xs.take k)=L:=⟨_,rfl⟩;(have az:zy A (ag #[G h,V g m l]) L:=by rw[<-AV];exact Z);rw[AV]at a5 av;have bd:=zf AV;clear hz aI AV Z;obtain⟨yb,ya,yl,yc⟩:=t0;obtain⟨pb,pa,pl,pc⟩:=s0;simp only[WT.val,WT.sv]at ah ai q⊢;unfold Zz;gi_wp2;refine⟨Xh (((Xe A).alloc _).alloc _),λd al=>?_⟩;have xA:=((zn.alloc _ A _).trans (zn.alloc _ _ _)).trans al;have e0:=al.block _ _ (Xi A (cl _ 88) _).1 (.inr rfl);have e1:=al.block _ _ (Xi A _ (cl _ 88)).2 (.inr rfl);have M:=xA.block _ _ q (.inr rfl);have be:=(zd.1 q).1;have a6:=(zd.1 M).1;have a2:Hid (∀W,Ext d W->W.cell? (y_ A 0)=E (G _)/\W.cell? (y_ A 1)=E (V _ _ _)/\W.cell? (x_ A 0)=E (G _)/\W.cell? (x_ A 1)=E (V _ _ _)):=λW hW=>⟨hW.cell (c_ 0 e0),hW.cell (c_ 1 e0),hW.cell (c_ 0 e1),hW.cell (c_ 1 e1)⟩;have ap:d.cell? (w_ w 0)=E (G h):=c_ 0 M;have aq:d.cell? (w_ w 1)=E (V g m l):=c_ 1 M;have aJ:=(qw (a:=(w_ w 0)) (M.trans q.symm)).trans aj;have aK:=(qw (a:=(w_ w 1)) (M.trans q.symm)).trans ak;(have aw:Hid (C_ 136 #[ag #[G yb,V ya yl yc],ag #[G pb,V pa pl pc]] d.drew λe w'=>∃t:WT,e=Xa (ag #[G t.b,V t.s.1 t.s.2.1 t.s.2.2])/\zy w' (ag #[G t.b,V t.s.1 t.s.2.1 t.s.2.2]) (z*R)/\Below d.drew.heap.size d.drew w'):=by refine(AB d.drew _ _ z R K K f (ah.eL (xA.trans (zn.drew _ _))) (ai.eL (xA.trans (zn.drew _ _))) aA aB).mono ?_;rintro e w' ⟨aM,rfl,P,s⟩;obtain⟨t,rfl⟩:=P.shape;exact⟨t,rfl,P,s⟩);(have aT:Hid (∀W,Ext d W->∀ao,zy W ao (z*R)->C_ 85 #[ag #[G h,V g m l],ao] W λe w'=>∃t:WT,e=Xa (ag #[G t.b,V t.s.1 t.s.2.1 t.s.2.2])/\zy w' (ag #[G t.b,V t.s.1 t.s.2.1 t.s.2.2]) (L+z*R)/\b_ W w'):=by intro W hW ao hq;refine(Fy W _ _ L (z*R) K om ((az.eL xA).below hW) hq a5 a0).mono ?_;rintro e w' ⟨aM,rfl,P,s⟩;obtain⟨t,rfl⟩:=P.shape;exact⟨t,rfl,P,s⟩);(have aS:Hid (∀(o:H) (B:Bool) (y:A_) (D C:Nat),Ext d o->zy o (ag #[G B,V y D C]) (L+z*R)->ZL a3 (AR v (w.heap.size+1+1) ts.length (λk=>T.eS (zs.take k) (xs.take k))) (λ_ _ _=>False) k A d .normal { tmps:=#[],defers:= [] } ((o.setCell (w_ w 0) (G B)).setCell (w_ w 1) (V y D C))):=by intro o B y D C x hq;have e4:=(x.block _ a6).trans M;have aG:Wr (λb=>b=w.heap.size+1+1) o ((o.setCell (w_ w 0) (G B)).setCell (w_ w 1) (V y D C)):=(zv (U:=λb=>b=w.heap.size+1+1) rfl _).trans (zv (U:=λb=>b=w.heap.size+1+1) rfl _);have aF:=(Xh x).trans aG;(have e5:((o.setCell (w_ w 0) (G B)).setCell (w_ w 1) (V y D C)).heap[w.heap.size+1+1]? =E (cl #[G B,V y D C] 88 fr):=by rw[Xl (Xl e4)];rfl);(have b5:∀b,b=w.heap.size+1+1->qK o b:=λb s=>by rw[s];exact zE e4 (by intro aL I;simp at I;rcases I with rfl|rfl<;>(intro n e;grind)));have f4:=λj=>qw (w:=d) (a:=(w_ w j)) (x.block _ a6);refine⟨aF.mono (λb s=>(h4 b).2 s),a3,⟨(h1.eL xA).trans aF,b4,⟨⟨B,y,D,C⟩,fr,e5,?_,?_,?_⟩,h4⟩,λaM P=> .inl P⟩;{simp_all};{simp_all};have e6:=av.out;show zy _ _ (T.eS _ _);rw[e6];exact hq.wr aG b5);obtain⟨b0,b1,b2,b3⟩:=a2.out d (Xe _);clear e0 e1 M h1 q aj ak ah ai az aA aB a0 a5;refine ZW ?_;refine jK (S:=λW=>W.cell? _=E _/\W.cell? _=E _/\W.cell? _=E _/\W.cell? _=E _) kr g_ (λ⟨a,w,N⟩=>N) ⟨b0,b1,b2,b3⟩ (λa4=>?_);refine ke 1 ?_;refine ke 2 ?_;refine qz 0 3 (h:=λK f=>?_) (h1:=λK f=>?_);go_simp;refine f.out _ _ am (h:=λa4=>?_);clear f K;refine fM 3 λK f=>?_;go_simp;refine aw.out.mono ?_;rintro e A3 ⟨⟨qb,qa,ql,qc⟩,rfl,aE,a0⟩;have F:=ZG a0;have s3:=F.cell ap;have s4:=F.cell aq;go_wp2_with fail;rotate_left;go_simp;refine aw.out.mono ?_;rintro e A3 ⟨⟨qb,qa,ql,qc⟩,rfl,aE,a0⟩;have F:=ZG a0;have s3:=F.cell ap;have s4:=F.cell aq;go_wp2_with fail;refine f.out _ _ (by exact a2.out _ F) (h:=λa4=>?_);clear f K;refine fM 0 λK f=>?_;go_simp;rotate_left;all_goals refine f.out _ _ (by exact a2.out _ F) (h:=λa4=>?_);clear f K;refine fV 4 (aT.out _ F _ aE) ?_;rintro e o ⟨⟨B,y,D,C⟩,rfl,b6,a5⟩;have x:=F.trans (Xg a5);have bi:=x.cell ap;have r4:=x.cell aq;have bj:=(qw (x.block _ a6)).trans aJ;have bl:=(qw (x.block _ a6)).trans aK;refine bk (by exact a2.out _ x) λa4=>?_;refine fM 5 λK f=>?_;go_simp;refine f.out _ _ (by have f:=a2.out o x;exact⟨L9 om f.1,L9 om f.2.1,L9 om f.2.2.1,L9 om f.2.2.2⟩) (h:=λa4=>?_);clear f K;refine zV kr ?_ _;exact aS.out o B y D C x b6
 case done=>rintro ar a3 A hD ⟨h1,h2,⟨⟨h,g,m,l⟩,fr,q,aj,ak,Z⟩,h4⟩ hd;simp only[WT.sv,WT.val]at q Z;obtain ⟨m0,m1⟩:=d_ q;have r1:=h1.some HR.out (λe=>om);obtain ⟨c0,c1⟩:=d_ r1;have f0:=Xf (j:=0) r1;have f1:=Xf (j:=1) r1;(have H5:Hid (zy A (ag #[G h,V g m l]) (T.eS zs xs)):=by (have e:T.eS (zs.take ts.length) (xs.take ts.length)=T.eS zs xs:=by rw[zP (by have:=H1.out;omega),zP (by have:=H1.out;omega)]);rw[<-e];exact Z);have bf:=(zd.1 HR.out).1;clear Z;gi_wp2;have aC:((A.setCell (x_ w 0) (G h)).setCell (x_ w 1) (V g m l)).heap[ar]? =E (.deferred _):=(qC _ _ _ _ so).trans ((qC _ _ _ _ so).trans hd);refine qh aC ?_;have a7:zn _ _ (((A.setCell _ _).setCell _ _).putObj _ (.deferred O)):=zn.putObj _ hD aC rfl;have aH:Wr _ A ((A.setCell (x_ w 0) (G h)).setCell (x_ w 1) (V g m l)):=(zv (U:=λb=>b=w.heap.size+1) rfl _).trans (zv (U:=λb=>b=w.heap.size+1) rfl _);(have e9:((A.setCell (x_ w 0) (G h)).setCell (x_ w 1) (V g m l)).heap[w.heap.size+1]? =E (cl #[G h,V g m l] 88):=by rw[Xl (Xl r1)];rfl);have c9:=a7.cell (c_ 0 e9);have aV:=a7.cell (c_ 1 e9);have b9:=H5.out.wr aH (λb s=>by rw[s];exact zE r1 (by intro aL I;simp at I;rcases I with rfl|rfl<;>(intro n e;grind)));have aY:=(Qg J (h1.below J.size (λb s=>om))).trans (aH.below g_ (λb s=>om));exact⟨ag #[G h,V g m l],by simp[results,results95,go_sem,c9,aV],⟨h,g,m,l⟩,rfl,b9.eL a7,(a7.mono J.size).below aY (zh _) (zh _)⟩
 grind
end

section
open Go.RowKit
variable {a:List (Int×Nat)×(Int×Nat)}{w w':H}
theorem uG(K:Nat)(t:K+K<=1073741823)(w:H)(r:RW)(x:L_×Int)(h:QG w r x)(pa:A_)(d p:Nat)(xs:L_)(I:Zo w (V pa d p) xs)(q:x.1.length=xs.length)(J:x.1.length<=100000)(y:∀z∈x.1,z.natAbs<4294967296^K)(v:∀z∈xs,z.natAbs<4294967296^K)(bm:∀a∈x.1,∀b∈xs,(a*b).natAbs<4294967296^K)(o:∀j,(T.eS (x.1.take j) (xs.take j)).natAbs<4294967296^K)(u:x.2.natAbs<4294967296^K):
 C_ 168 #[r.val,V pa d p] w λe w'=>e=Xa (G (decide (T.eS x.1 xs<=x.2)))/\b_ w w':=by
 obtain⟨fa,f,⟨i,g,l,k⟩,m,rfl,C,D,F,hm⟩:=h.open;obtain⟨L,A,s,B⟩:=I;obtain⟨_,_,e⟩:=s.shape;rw[zm]at e;simp only[qp]at e;obtain⟨rfl,rfl,rfl⟩:=e;simp only[RW.val,RW.fv,WT.sv,WT.val]at hm⊢;have I:=zf (λW (d)=>O4 K t W _ _ f p m L _ _ C (D.ext d) (λp t z a b=>(F p t z a b).below d) A (s.ext d) (λp t z a b=>(B p t z a b).below d) q J y v bm o);have t:(T.eS x.1 xs).natAbs<4294967296^K:=by have:=o x.1.length;rw[Zx,q,Zx]at this;exact this
 have J:Hid (∀W (d:Ext w W) q,zy W q (T.eS x.1 xs)->C_ 46 #[q,ag #[G i,V g l k]] W λe w'=>∃c:Int,e=Xa (i_ c)/\decide (c<=0)=decide (T.eS x.1 xs<=x.2)/\b_ W w'):=by intro W d q p;refine(Ip W _ _ _ x.2 K om p (hm.below d) t u).mono ?_;rintro e w' ⟨c,rfl,_,_,_,_,p⟩;refine⟨c,rfl,?_,p⟩;rw[LY];omega
 have q:Ext w (w.alloc (cl #[V fa m.length f,G i,V g l k] 90)):=(Xe w).alloc _;have p:=zC w (cl #[V fa m.length f,G i,V g l k] 90);clear C D F A s B y v bm o u t;go_enter func168,ntmps168;go_wp2_with fail;generalize w.alloc (cl #[V fa m.length f,G i,V g l k] 90)=o at *;have s:=zf (λW (d:Ext o W)=>Xc (d.cell (c_ 0 p)) (Xc (d.cell (c_ 1 p)) (d.cell (c_ 2 p))));have d:=Xe o;obtain⟨_,_,_⟩:=s.out o d;clear p;go_region_held3 (λW=>W.cell? (y_ w 0)=E (V fa m.length f)/\W.cell? (y_ w 1)=E (G i)/\W.cell? (y_ w 2)=E (V g l k)) (first|(exact s.out _ ea)|go_keep) (first|(go_at_call 46;have d:=d;refine(J.out i (q.trans d) _ k).mono ?_;rintro e l ⟨c,rfl,g,f⟩;have m:=d.trans (Xg f))|(go_at_call 95;refine(I.out _ (by first|exact q.drew|exact q)).mono ?_;rintro e i ⟨⟨_,_,_,_⟩,rfl,k,f⟩;have d:=(by first|exact ZG f|exact Xg f);simp only[WT.val,WT.sv]));all_goals have d:=zf g;clear g;go_wp2;go_ret;exact⟨sp,q.trans m⟩
structure BT where
 m:T.fH
 f:S_
def BT.fv (b:BT):Value:=V b.f.1 b.f.2.1 b.f.2.2
def BT.val (b:BT):Value:=ag #[G b.m.b,b.m.up,b.m.down,b.fv]
def gQ (w:H)(b:BT)(acc:List (Int×Nat)×(Int×Nat)):Prop:=mE w b.fv acc.1/\Qa w b.m.val acc.2.1 acc.2.2
theorem gQ.eL{B}{b}(h:gQ w b a)(d:zn B w w'):gQ w' b a:=⟨h.1.eL d,h.2.eL d⟩
theorem gQ.ext{b}(h:gQ w b a)(d:Ext w w'):gQ w' b a:=h.eL (B:=0) (zn.eU d)
theorem gQ.wr{U}{b}(h:gQ w b a)(e:Wr U w w')(d:∀k,U k->¬qQ w k 194/\qK w k):gQ w' b a:=⟨h.1.wr e d,h.2.wr e (λk a=>(d k a).2)⟩
theorem si(w):Qa w (ag #[G false,V_,V_]) 0 1:=⟨false,_,_,rfl,Xo _ _ _,rfl,Xo _ _ _,om,rfl⟩
attribute [local go_sem] zD zW qJ
theorem uw:(Tryz.prog.info? 194).map (λi=>(i.zero,i.size,i.bytes))=E (E (ag #[G false,V_,V_]),3,56):=kr
def LS (q:Nat->Int×Nat)(A:H)(i:Nat)(u:T.fH):Prop:=Qa A u.val (q i).1 (q i).2
theorem mE.open{fa:A_}{fl fc}{a}(h:mE w (V fa fl fc) a):∃ts:List _,fl=ts.length/\ts.length=a.length/\ZS w 194 (V fa ts.length fc) 3 (ts.map T.fH.cells)/\∀(i:Nat) t q,ts[i]? =E t->a[i]? =E q->Qa w t.val q.1 q.2:=by obtain⟨ts,b,a,d⟩:=h;obtain⟨_,_,e⟩:=a.shape;grind
theorem ru(K:Nat)(hK:K+K+1<=1073741800)(w:World)(b:BT)(r:RW)(z:T.fH)(acc:List (Int×Nat)×(Int×Nat))(x:L_×Int)(fz:Int×Nat)(hb:gQ w b acc)(hr:QG w r x)(hz:Qa w z.val fz.1 fz.2)(hl:acc.1.length=x.1.length)(hn:acc.1.length<=100000)(ba:(∀a∈acc.1,a.1.natAbs<4294967296^K/\a.2<4294967296^K)/\acc.2.1.natAbs<4294967296^K/\acc.2.2<4294967296^K)(bx:(∀g∈x.1,g.natAbs<4294967296^K/\(fz.1*g).natAbs<4294967296^K)/\x.2.natAbs<4294967296^K/\(fz.1*x.2).natAbs<4294967296^K)(bf:fz.1.natAbs<4294967296^K/\fz.2<4294967296^K):
 Calls Tryz.prog 178 #[b.val,r.val,z.val] w λe w'=>∃b':BT,e=Xa b'.val/\gQ w' b' (List.zipWith (λa g=>iV a (gN (g,1) fz)) acc.1 x.1,iV acc.2 (gN (x.2,1) fz))/\b_ w w':=by
 obtain⟨⟨mb,⟨ma,ml,mc⟩,⟨na,nl,nc⟩⟩,fa,fl,fc⟩:=b;obtain⟨hbl,hbm⟩:=hb;obtain⟨ts,rfl,h1,h2,h3⟩:=hbl.open;obtain⟨ga,gc,⟨wb,wa,wl,wc⟩,ss,rfl,h1',h2',h3',hm'⟩:=hr.open;obtain⟨zb,⟨za,zl,zc⟩,⟨ya,yl,yc⟩⟩:=z;have hss:ss.length=ts.length:=om;rw[hss]at h2'⊢;simp only[BT.val,BT.fv,RW.val,RW.fv,WT.sv,WT.val,T.fH.val,T.fH.up,T.fH.down]at hbm hm' hz h2⊢;have H1:=zf h1;have H2:=zf h2;have H3:=zf h3;have H1':=zf h1';have H2':=zf h2';have H3':=zf h3';have HSS:=zf hss;have FQ:ts.length<=100000:=om;have HBA:=zf ba;have HBX:=zf bx;have HBF:=zf bf;have HPT0:Hid (∀W p n p0 q0 n0,Ext w W->Qa W p p0 q0->zy W n n0->p0.natAbs<4294967296^K->q0<4294967296^K->n0.natAbs<4294967296^K->(fz.1*n0).natAbs<4294967296^K->Calls Tryz.prog 234 #[p,n,.agg #[.bool zb,.slice za zl zc,.slice ya yl yc]] W λe w'=>∃t:T.fH,e=Xa t.val/\Qa w' t.val (iV (p0,q0) (gN (n0,1) fz)).1 (iV (p0,q0) (gN (n0,1) fz)).2/\b_ W w'):=by intro W p n p0 q0 n0 hW hp hn b1 b2 b3 b4;refine(qy K hK W p n _ p0 n0 fz.1 q0 fz.2 hp hn (hz.below hW) b1 b2 b3 HBF.out.1 HBF.out.2 b4).mono ?_;rintro e w' ⟨t,rfl,ht,hb⟩;obtain⟨t,rfl,-⟩:=ht.shape;exact⟨t,rfl,ht,hb⟩
 clear h1 h2 h3 h1' h2' h3' hss ba bx bf hbl hr;obtain⟨n0,n1,n2,n3,hX0⟩:=Dm w (.cells #[.bool mb,.slice ma ml mc,.slice na nl nc,.slice fa ts.length fc] 197) (.cells #[.slice ga ts.length gc,.bool wb,.slice wa wl wc] 90) (.cells #[.bool zb,.slice za zl zc,.slice ya yl yc] 194) (.cells #[.bool false,.slice none 0 0,.slice none 0 0,.slice none 0 0] 197);refine Q0 Tryz.func178 Tryz.ntmps178 (h:=?_);gi_wp2;generalize World.alloc _ _=w0 at *;have hs0:=(zd.1 n3).1;have HKB:=zf (λW (hW:Ext _ W)=>Xc (eK hW n0) (Xc (eK hW n1) (Xc (eK hW n2) ((hW.block _ hs0).trans n3))));clear n0 n1 n2 n3;refine(zq.2 (HPT0.out _ _ _ _ _ _ hX0 (hbm.below hX0) (hm'.below hX0) HBA.out.2.1 HBA.out.2.2 HBX.out.2.1 HBX.out.2.2)).mono ?_;rintro e wA ⟨⟨vb,⟨va,vl,vc⟩,⟨ua,ul,uc⟩⟩,rfl,hv,hbA⟩;simp only[T.fH.val,T.fH.up,T.fH.down]at hv⊢;have xA:=Xg hbA;have hkb:=HKB.out _ (xA.alloc (.cells #[.bool vb,.slice va vl vc,.slice ua ul uc,.slice none 0 0] 197));have b3:=ze _ _ 3 _ _ _ hkb.1;have r0:=ze _ _ 0 _ _ _ hkb.2.1;gi_wp2;have hN7:=zC wA (.cells #[.bool vb,.slice va vl vc,.slice ua ul uc,.slice none 0 0] 197);have xB:Ext _ (wA.alloc (.cells #[.bool vb,.slice va vl vc,.slice ua ul uc,.slice none 0 0] 197)):=xA.alloc _;have hv2:=hv.below ((Xe _).alloc (.cells #[.bool vb,.slice va vl vc,.slice ua ul uc,.slice none 0 0] 197));generalize hwB:World.alloc _ _=wB at *;obtain⟨g7,hg7⟩:∃g7,wA.heap.size=g7:=⟨_,rfl⟩;rw[hg7]at hN7⊢;have hg7w:w0.heap.size<=g7:=by have h2:=xA.size;omega
 obtain⟨q,hq⟩:∃q,q=λi=>iV (acc.1.getD i (0,1)) (gN (x.1.getD i 0,1) fz):=⟨_,rfl⟩;have HQ:=zf hq;clear hq;clear hwB hbA hg7 xA hv;refine(zq.2 (uz _ _ _ _ _ _ _)).mono ?_;rintro e w1 ⟨rfl,hw1⟩;have x1:Ext wB w1:=by rw[hw1];exact((Xe wB).alloc _).alloc _
 have k1:w1.cell? ⟨wB.heap.size,0,none⟩=some (.slice fa ts.length fc):=by rw[hw1];exact ze _ _ 0 _ _ _ (Xi _ _ _).1
 have k2:w1.cell? ⟨wB.heap.size+1,0,none⟩=some (.slice ga ts.length gc):=by rw[hw1];exact ze _ _ 0 _ _ _ (Xi _ _ _).2
 clear hw1;have x01:=xB.trans x1;have xw1:=hX0.trans x01;have n1:=eK x1 hN7;have hg71:=(zd.1 n1).1;have hg7B:=(zd.1 hN7).1;have HM1:=zf (hv2.below x1);clear hN7 hkb b3 r0 hv2;gi_wp2;refine ZT (sM _ _ HSS.out.symm fa ga fc gc _ _ om) rfl (qW Tryz.func271 rfl rfl) (λk v W=>g_) (xz 194 3 197 (λv=>#[.bool vb,.slice va vl vc,.slice ua ul uc,v]) T.fH.cells (LS q) w1 w1.heap.size g7 ts.length) (λ_ _ _=>False) (λb=>b=g7) ?hI ?hIx ?hC ?h0 ?round ?done ?stop;case hI=>exact λk M A B ⟨h1,v,us,h2,h3,h4⟩ hk=>⟨h1,v,us,h2,h3.eL hk,λi u hu=>Qa.eL (h4 i u hu) hk⟩
 case hIx=>grind
 case hC=>rintro k M A ⟨h1,v,us,h2,h3,h4⟩;have hxA:=qk xw1 h3.1 (λb hb=>om);exact⟨⟨h3.1.cell g_ k1,h3.1.cell g_ k2,(H2.out.ext hxA).gy,(H2'.out.ext hxA).gy⟩,h3.lt⟩
 case h0=>exact⟨qo _,_,_,rfl,XE n1,λi u hu=>g_⟩
 case round=>rintro l2 k v M A hkN ⟨t0,s0,ht0,hs0',rfl⟩ ⟨h1,v,us,hus,hG,hEv⟩;(have hka:k<acc.1.length:=by have:=H1.out;omega);have hkx:k<x.1.length:=om;have hqa:acc.1[k]? =some (acc.1.getD k (0,1)):=g_;have hqx:x.1[k]? =some (x.1.getD k 0):=g_;have hxA:=qk xw1 hG.1 (λb hb=>om);have h0A:=qk x01 hG.1 (λb hb=>om);have hF0:=(H3.out k _ _ ht0 hqa).below hxA;have hW0:=(H3'.out k _ _ hs0' hqx).below hxA;have ba:=HBA.out.1 _ (zx hqa);have bx:=HBX.out.1 _ (zx hqx);obtain⟨va',vc',rfl⟩:=hG.2.2.1.shape;rw[zm]at hG;obtain⟨eb,⟨ea,el,ec⟩,⟨da,dl,dc⟩⟩:=t0;obtain⟨pb,pa,pl,pc⟩:=s0;have hul:us.length<=100000:=om;(have HQK:Hid (q k=iV (acc.1.getD k (0,1)) (gN (x.1.getD k 0,1) fz)):=by rw[HQ.out];rfl);generalize acc.1.getD k (0,1)=pq at *;generalize x.1.getD k 0=z0 at *;simp only[WT.val,WT.sv,T.fH.val,T.fH.up,T.fH.down]at hF0 hW0⊢;clear hqa hqx ht0 hs0';have HGJ:=zf hG;have HUS:=zf hus;have HEV:=zf hEv;clear hus hEv;unfold Zz;gi_wp2;refine⟨Xh (((Xe A).alloc _).alloc _),λA2 hk2=>?_⟩;obtain⟨xA,e0,e1,hs2⟩:=TE hk2;have e2:=xA.block _ _ hG.2.1 (.inr rfl);have e3:=xA.block _ _ (HKB.out A h0A).2.2.1 (.inr rfl);have hsA:=hG.1.size;have G2:=hG.eL xA;have hvlt:∀b,(Value.slice _ _ _).ownBlock=some b->b<A.heap.size/\b≠g7/\(b=g7\/w1.heap.size<=b):=λb hb=>⟨(hG.2.2.1.type b hb).1.lt,hG.2.2.2.1 b hb⟩;have HKEEP:=zf (λW (hW:Wr (λb=>(Value.slice _ _ _).ownBlock=some b) _ W)=>have q0:=hW.some e0 (λe=>by have:=hvlt _ e;omega);have q1:=hW.some e1 (λe=>g_);have q2:=hW.some e2 (λe=>g_);have q3:=hW.some e3 (λe=>g_);Xc (ze _ _ 3 _ _ _ q2) (Xc (ze _ _ 0 _ _ _ q0) (Xc (ze _ _ 1 _ _ _ q0) (Xc (ze _ _ 2 _ _ _ q0) (Xc (ze _ _ 0 _ _ _ q1) (Xc (ze _ _ 1 _ _ _ q1) (Xc (ze _ _ 0 _ _ _ q3) (Xc (ze _ _ 1 _ _ _ q3) (ze _ _ 2 _ _ _ q3)))))))));have HFZ:=zf (λW (hW:Wr (λb=>(Value.slice _ _ _).ownBlock=some b) _ W)=>(Xf (hW.some e2 (λe=>by have:=hvlt _ e;omega)):W.frozen? ⟨_,3,_⟩=false));have CB:=qk xw1 G2.1 (λb hb=>om);have HPT:=zf (λW (hW)=>HPT0.out W _ _ _ _ _ (CB.trans hW) ((hF0.eL xA).below hW) ((hW0.eL xA).below hW) ba.1 ba.2 bx.1 bx.2);have HMO:=zf (λA4 A5 g5 fU (u) (hy) (hu:Qa A4 u.val _ _) own grow at5 gF=>xz.more (V:=LS q) (j:=3) (A5:=A5) (g5:=g5) (fU:=fU) (u:=u) (a:={ tmps:=#[],defers:= [] }) (λ_ _ _ _ _ h hw hu=>Qa.wr h hw (λb hb=>(hu b hb).1)) (λ_ _ h=>Qa.eL h xA) HUS.out HGJ.out HEV.out xA hy om hkN (by rw[LS,HQK.out];exact hu) own grow at5 gF);clear hF0 hW0 ba bx e0 e1 e2 e3 hG;refine ZW ?_;refine Gz 9 (S:=λW=>W.cell? ⟨_,3,_⟩=some (.slice _ _ _)/\W.cell? ⟨_,0,_⟩=some (.bool _)/\W.cell? ⟨_,1,_⟩=some (.slice _ _ _)/\W.cell? ⟨_,2,_⟩=some (.slice _ _ _)/\W.cell? ⟨_,0,_⟩=some (.bool _)/\W.cell? ⟨_,1,_⟩=some (.slice _ _ _)/\W.cell? ⟨_,0,_⟩=some (.bool _)/\W.cell? ⟨_,1,_⟩=some (.slice _ _ _)/\W.cell? ⟨_,2,_⟩=some (.slice _ _ _)) hm sp (λ⟨a,w,h⟩=>h) (HKEEP.out A2 (Xk _ _)) (h:=λhHeld=>?_);refine gx [0,1,2,3,4] ?_;refine fV 5 (HPT.out _ (Xe _).drew) ?_;rintro e A3 ⟨⟨qb,⟨qa,ql,qc⟩,⟨ra,rl,rc⟩⟩,rfl,hq3,hb3⟩;have x3:=ZG hb3;have x4:Ext _ (A3.alloc (.cells #[.bool qb,.slice qa ql qc,.slice ra rl rc] 194)):=x3.alloc _;have hu4:=hq3.below ((Xe A3).alloc (.cells #[.bool qb,.slice qa ql qc,.slice ra rl rc] 194));simp only[T.fH.val,T.fH.up,T.fH.down];refine bk (HKEEP.out _ (Xh x3)) λhHeld=>?_;refine fM 6 λK hK=>?_;go_simp;refine hK.out _ _ (HKEEP.out _ (Xh x4)) (h:=λhHeld=>?_);clear hK K;refine fM 7 λK hK=>?_;refine B_ uw Tryz.underlying195 (G2.2.2.1.ext x4) (by have:=x3.size;omega) ?_;intro g5 fU A5 own5 grow5 at5 lt5 dig5;have x5:=(Xh x4).trans (Qh grow5 (λg hg=>hg));have HF:=zf (HMO.out _ _ _ _ ⟨_,_,_⟩ x4 hu4 own5 grow5 (at5.imp id (λe=>by simp[e])) dig5);have s8:=(HKEEP.out _ x5).1;clear own5 grow5 at5 lt5 dig5;refine hK.out _ _ (HKEEP.out _ x5) (h:=λhHeld=>?_);clear hK K;have f8:=HFZ.out _ x5;refine ke 8 ?_;refine zV rfl (Er (h:=?_)) _;go_simp;exact HF.out
 case done=>rintro D M A hD ⟨h1,v,us,h2,h3,h4⟩ hd;obtain⟨ka,kc,rfl⟩:=h3.2.2.1.shape;rw[zm]at h3;have x0A:=qk x01 h3.1 (λb hb=>om);have m0:=ze _ _ 0 _ _ _ h3.2.1;have m1:=ze _ _ 1 _ _ _ h3.2.1;have m2:=ze _ _ 2 _ _ _ h3.2.1;have m3:=ze _ _ 3 _ _ _ h3.2.1;have r1:=(HKB.out A x0A).2.2.2;obtain⟨e9,hw9,⟨c0,c1,c2,c3⟩,f0,f1,f2,f3⟩:=A0 r1 (.bool vb) (.slice va vl vc) (.slice ua ul uc) (.slice ka us.length kc);(have HBV:Hid (gQ A ⟨⟨vb,(va,vl,vc),(ua,ul,uc)⟩,(ka,us.length,kc)⟩ (List.zipWith (λa g=>iV a (gN (g,1) fz)) acc.1 x.1,iV acc.2 (gN (x.2,1) fz))):=by refine⟨⟨us,?_,h3.2.2.1.list,λi u q hu hq=>?_⟩,(HM1.out).wr h3.1 (λb hb=>by rcases hb with rfl|rfl<;>exact zE n1 (ff rfl))⟩;{rw[jY,<-hl,F_,h2];exact H1.out};have hi:=(zo.1 hu).1;have hi1:i<acc.1.length:=g_;have hi2:i<x.1.length:=om;rw[List.getElem?_zipWith,zg hi1,zg hi2]at hq;simp only[qN]at hq;have h9:=h4 i u hu;simp only[LS,HQ.out,zk,zg hi1,zg hi2,qB]at h9;rw[<-hq];exact h9);have HV9:=zf (HBV.out.wr hw9 (λb hb=>by rw[hb];exact⟨λht=>absurd (ht.one ⟨_,_,r1⟩) g_,zE r1 (ff rfl)⟩));have HD9:=zf (hw9.some hd (λe=>om));have HE9:=zf e9;have HB9:=zf (qk (hX0.trans x0A) hw9 (λb hb=>om));clear h1 h2 h3 h4 r1 hw9 e9;gi_wp2;refine qh HD9.out ?_;have hkD:=zn.putObj (B:=w.heap.size) (.deferred none) om HD9.out rfl;have e9:=hkD.block _ _ HE9.out (.inr rfl);exact⟨.agg #[.bool _,.slice _ _ _,.slice _ _ _,.slice _ _ _],by simp[results,Tryz.results178,go_sem,ze _ _ 0 _ _ _ e9,ze _ _ 1 _ _ _ e9,ze _ _ 2 _ _ _ e9,ze _ _ 3 _ _ _ e9],⟨⟨vb,(va,vl,vc),(ua,ul,uc)⟩,(ka,us.length,kc)⟩,rfl,HV9.out.eL hkD,hkD.below HB9.out (zh _) (zh _)⟩
 case stop=>exact λ_ _ _ _ _ _ h _=>h.elim
end

section
open V4
def nk (p:qF)(i:Nat):Int×Int:=p.rg.getD i (0,0)
def vh (p:qF):Nat:=(p.rows.flatMap T.fj).length
def jf (p:qF):List qO:=(T.eV p).zipIdx.map λx=>(x.1,x.2+1)
def CF (p:qF):fF:=AE p.mx (DV (nk p) (vh p) p.n)
def kQ (p:qF)(fk eP:Nat):gD:=kq p.n p.mx (T.eV p).length eP (min fk 20000) (jf p) (CF p) []
structure Bx (p:qF):Prop where
 n0:0<p.n
 n4:p.n<=4
 m:p.mx.length=p.n
 g:p.rg.length=p.n
 l:p.rows.length<=6
 c:∀x∈p.rows,x.1.length=p.n
theorem lF.done {i}{p}(h:lF i p)(a:2+p.n<=i):Bx p:=⟨(h.n om).1,(h.n om).2,h.m om,by rw[h.g];omega,h.l,λx a=>(h.c x a).1⟩
theorem GA {p}{r}:r∈jf p↔∃i,(T.eV p)[i]? =E r.1/\r.2=i+1:=by unfold jf;rw[qP];constructor;{grind};rintro⟨i,a,b⟩;exact⟨(r.1,i),List.mem_zipIdx_iff_getElem?.2 a,g_⟩
theorem SM {p}(h:Bx p):∀r∈T.eV p,r.1.length=p.n:=by intro r a;unfold T.eV at a;rcases zU.1 a with a|a;{have⟨x,d,a⟩:=jj.1 a;unfold T.fj at a;have b:=h.c x d;grind};have⟨_,_,a⟩:=jj.1 a;unfold T.gO at a;rcases zI.1 a with rfl|a;{exact QS _ _};rw[qg.1 a,zm];exact QS _ _
theorem Oi {p}{i}(d:i<p.n):(T.eV p)[vh p+2*i]? =E (T.fe p.n i,(nk p i).2)/\(T.eV p)[vh p+2*i+1]? =E ((T.fe p.n i).map (λz=>-z),-(nk p i).1):=by
 have g:∀(f:Nat->(L_×Int)×(L_×Int)) (n i:Nat),i<n->((List.range n).flatMap λi=> [(f i).1,(f i).2])[2*i]? =E (f i).1/\((List.range n).flatMap λi=> [(f i).1,(f i).2])[2*i+1]? =E (f i).2:=by intro f n;induction n with |zero=>omega |succ n b=>intro i h;(have a:∀m,((List.range m).flatMap λi=> [(f i).1,(f i).2]).length=2*m:=by intro m;induction m with |zero=>rfl |succ m b=>rw[J6,ZX,zM,b];grind);rw[J6,ZX];by_cases e:i<n;{grind};obtain rfl:i=n:=om;simp_all
 unfold T.eV;rw[F4,zG (by unfold vh;omega),zG (by unfold vh;omega)];have a:vh p+2*i-(p.rows.flatMap T.fj).length=2*i:=by unfold vh;omega
 have b:vh p+(2*i+1)-(p.rows.flatMap T.fj).length=2*i+1:=by unfold vh;omega
 rw[a,b];exact g (λi=>((T.fe _ i,(nk p i).2),((T.fe _ i).map _,-(nk p i).1))) _ i d
theorem boxed {p}(h:Bx p):Lv p.n (T.eV p) (nk p):=by intro i _;refine⟨λa=>?_,λa=>?_⟩;{have⟨b,d⟩:=Oi a;grind};unfold nk;rw[zk,qL (by rw[h.g];omega)];rfl
theorem KE {p}(h:Bx p):ou p.n p.mx (T.eV p) (jf p) (CF p) [] (T.eV p):=by obtain⟨b,g⟩:=zmF h.m h.n4 (nk p) (vh p);have f:=SM h;refine⟨sp,Zx,f,λr a=>?_,λi r a=>?_,⟨b,λe e=>?_⟩,λx b r a=>b.2 r a,λi l b=>g_⟩;{obtain⟨i,b,d⟩:=GA.1 a;exact⟨⟨om,g_⟩,f _ (zx b)⟩};{exact GA.2 ⟨i,a,rfl⟩};unfold CF at e;rw[g]at e;obtain⟨i,a,rfl⟩:=qP.1 e;obtain⟨b,d⟩:=Oi (Z8.1 a);refine GA.2 ?_;unfold yI;grind
def LZ (p:qF):R_:=(p.rows.map λx=>(x.1,x.2.2))++((List.range p.n).map (λi=>(T.fe p.n i,(nk p i).2))++(List.range p.n).map λi=>(T.fe p.n i,(nk p i).1))
theorem Sk {p}(h:Bx p):(LZ p).length<=14:=by have a:=h.l;have a:=h.n4;unfold LZ;grind
theorem Od (p):sU p.n (T.eV p) (LZ p) (jf p):=by refine⟨?_,λr b _=>?_,?_⟩;{(have:(jf p).map (λr=>r.2)=(List.range (T.eV p).length).map (· + 1):=by unfold jf;rw[ye];apply Ku;intro i;rw[zR,zR,List.getElem?_zipIdx];by_cases a:i<(T.eV p).length;{grind};grind);rw[this];exact List.Pairwise.map _ (λa a h=>om) (List.nodup_range)};{have⟨i,a,_⟩:=GA.1 b;have hm:=zx a;unfold T.eV at hm;rcases zU.1 hm with hm|hm;{have⟨x,d,hm⟩:=jj.1 hm;refine⟨(x.1,x.2.2),QN _ (qP.2 ⟨x,d,rfl⟩),?_⟩;unfold T.fj at hm;rcases zU.1 hm with hm|hm;{split at hm;{cases hm};exact .inl (qg.1 hm)};split at hm;{cases hm};exact .inr (qg.1 hm)};have⟨k,d,hm⟩:=jj.1 hm;unfold T.gO at hm;rcases zI.1 hm with hm|hm;{exact⟨_,J5 _ (QN _ (qP.2 ⟨k,d,rfl⟩)),.inl hm⟩};exact⟨_,J5 _ (J5 _ (qP.2 ⟨k,d,rfl⟩)),.inr (qg.1 hm)⟩};(have:(jf p).filter (λr=>decide ((T.eV p).length<r.2))= []:=by rw[List.filter_eq_nil_iff];intro r b;have⟨i,a,_⟩:=GA.1 b;have:=(zo.1 a).1;simp;omega);grind
theorem Ui {p}(h:Bx p)(fk eP):
 (∀c b,kQ p fk eP= .inl (c,b)->Bi p.n (T.eV p) (JZ c)/\∀x,Bi p.n (T.eV p) x->pV (λi=>rk p.mx (fh (JZ c)) i-rk p.mx (fh x) i))/\
 (∀c r b,kQ p fk eP= .inr (.inl (c,r,b))->∀x,¬Bi p.n (T.eV p) x):=by have d:=go_ok (eP:=eP) (min fk 20000) _ _ _ _ (KE h);refine⟨λc b a=>?_,λc r b a=>?_⟩;{unfold kQ at a;rw[a]at d;obtain⟨rows,fG,b,e,f⟩:=d;exact U4 b e f};unfold kQ at a;rw[a]at d;obtain⟨rows,fG,b,e,f,a⟩:=d;exact znM b e f a
theorem YO {p:qF}(h:Bx p){fk eP:Nat}(j:10000<=eP)(b:(∀i,i<4->(nk p i).1<=(nk p i).2)->ES p.mx (nk p)<=(min fk 20000:Nat))(m:Nat):kQ p fk eP≠ .inr (.inr m):=by have a:=KE h;by_cases k:∀i,i<4->(nk p i).1<=(nk p i).2;{refine ME j (boxed h) (Sk h) _ _ _ _ _ _ a (Od p) (λf r t g o=>?_) (b k) m;obtain⟨b,l,d⟩:=(Ee a.fy _ _ a.fJ).1 f g;have e:=Kc b.fJ a.given (boxed h) d;obtain⟨q,s⟩:=K7 b.fJ e r;exact Wi q s};refine ME j (boxed h) (Sk h) _ _ _ _ _ 0 a (Od p) (λf r t g o=>?_) om m;obtain⟨b,l,d⟩:=(Ee a.fy _ _ a.fJ).1 f g;have e:=Kc b.fJ a.given (boxed h) d;exfalso;apply k;intro i f;obtain⟨a,d⟩:=e i f;have e:=b.fJ.pos;exact L6 (Int.le_trans a d) om
end

section
open V4
variable {A B C:Nat}{l:L_}{x y:Int}
def fO (B:Nat)(x:Int):Prop:=-(B)<=x/\x<=(B)
theorem C1:fO B x↔x.natAbs<=B:=by unfold fO;omega
theorem fO.mono(h:fO B x)(a:B<=C):fO C x:=by unfold fO at *;omega
theorem fO.zero(B):fO B 0:=by unfold fO;omega
abbrev Xt:=@fO.zero
theorem fO.add(h:fO A x)(k:fO B y):fO (A+B) (x+y):=by unfold fO at *;omega
theorem fO.sub(h:fO A x)(k:fO B y):fO (A+B) (x-y):=by unfold fO at *;omega
theorem fO.neg(h:fO A x):fO A (-x):=by unfold fO at *;omega
theorem fO.mul(h:fO A x)(k:fO B y):fO (A*B) (x*y):=by rw[C1]at *;rw[rM];exact Z7 h k
theorem fO.ofNat(h:A<=B):fO B (A):=by unfold fO;omega
abbrev Xr:=@fO.ofNat
def jk (B:Nat)(x:V4):Prop:=fO B x.a/\fO B x.b/\fO B x.c/\fO B x.d
theorem jk.mono{x}(h:jk B x)(a:B<=C):jk C x:=⟨h.1.mono a,h.2.1.mono a,h.2.2.1.mono a,h.2.2.2.mono a⟩
theorem jk.add{x y}(h:jk A x)(k:jk B y):jk (A+B) (x.add y):=⟨h.1.add k.1,h.2.1.add k.2.1,h.2.2.1.add k.2.2.1,h.2.2.2.add k.2.2.2⟩
theorem jk.smul{t}{y}(h:fO A t)(k:jk B y):jk (A*B) (y.smul t):=⟨h.mul k.1,h.mul k.2.1,h.mul k.2.2.1,h.mul k.2.2.2⟩
theorem jk.dot{x y}(h:jk A x)(k:jk B y):fO (4*(A*B)) (x.dot y):=((((h.1.mul k.1).add (h.2.1.mul k.2.1)).add (h.2.2.1.mul k.2.2.1)).add (h.2.2.2.mul k.2.2.2)).mono om
theorem jk.sign{s}{x}(h:jk B x)(hs:s=1\/s=-1):jk B (x.smul s):=(jk.smul (A:=1) (by unfold fO;omega) h).mono om
theorem Az{p q r s}(a:fO B p)(b:fO B q)(d:fO B r)(hs:fO B s):fO (2*(B*B)) (p*q-r*s):=((a.mul b).sub (d.mul hs)).mono om
theorem KM{p q r z:Int}(a:fO B p)(b:fO B q)(d:fO B r)(e:fO C x)(f:fO C y)(g:fO C z):fO (3*(B*C)) (p*x-q*y+r*z):=(((a.mul e).sub (b.mul f)).add (d.mul g)).mono om
theorem J_{u v w:V4}(a:jk B u)(f:jk B v)(o:jk B w):jk (6*(B*(B*B))) (DU u v w):=by obtain⟨j,k,l,m⟩:=a;obtain⟨a,b,d,e⟩:=f;obtain⟨f,g,h,i⟩:=o;have o:3*(B*(2*(B*B)))=6*(B*(B*B)):=g_;rw[<-o];exact⟨KM k l m (Az d i e h) (Az b i e g) (Az b h d g),(KM j l m (Az d i e h) (Az a i e f) (Az a h d f)).neg,KM j k m (Az b i e g) (Az a i e f) (Az a g b f),(KM j k l (Az b h d g) (Az a h d f) (Az a g b f)).neg⟩
theorem RP{R}(h:∀i,jk B (R i))(j):jk (6*(B*(B*B))) (QL R j):=by unfold QL;split;{exact J_ (h 1) (h 2) (h 3)};{exact(J_ (h 0) (h 2) (h 3)).sign (.inr rfl)};{exact J_ (h 0) (h 1) (h 3)};exact(J_ (h 0) (h 1) (h 2)).sign (.inr rfl)
def JL (B:Nat):Nat:=24*(B*(B*(B*B)))
theorem FF{R}(h:∀i,jk B (R i)):fO (JL B) (Jb R):=by refine((h 0).dot (J_ (h 1) (h 2) (h 3))).mono (jm ?_);unfold JL;grind
theorem FD{L}{m}(a:∀i,jk A (L i))(hm:∀i,fO B (m i)):jk (4*(B*A)) (Ay L m):=((((jk.smul (hm 0) (a 0)).add (jk.smul (hm 1) (a 1))).add (jk.smul (hm 2) (a 2))).add (jk.smul (hm 3) (a 3))).mono om
def Zu (B:Nat)(l:L_):Prop:=∀z∈l,fO B z
theorem Zu.at(h:Zu B l)(i):fO B (l.getD i 0):=by rw[zk];by_cases a:i<l.length;{rw[zg a];exact h _ (zJ a)};rw[qL om];exact Xt B
theorem Zu.fh(h:Zu B l):jk B (fh l):=⟨h.at 0,h.at 1,h.at 2,h.at 3⟩
theorem jk.list(k:l.length<=4)(h:jk B (Go.Proofs.YtfbkaflfnjinaaaGreatDoor.fh l)):Zu B l:=by intro z j;obtain⟨i,g,rfl⟩:=qM j;have e:l[i]=l.getD i 0:=g_;rw[e];obtain⟨a,b,d,f⟩:=h;rcases oF (show i<4 by omega)with rfl|rfl|rfl|rfl;{exact a};{exact b};{exact d};exact f
def Jm (B:Nat)(r:L_×Int):Prop:=Zu B r.1/\fO B r.2
structure Px (B:Nat)(c:fF):Prop where
 over:c.over<=JL B
 eT:Zu (JL B) c.eT
 eN:∀e∈c.eN,Jm B e.row/\Zu (JL B) e.eO
theorem zrS(a:1<=B)(i):jk B (QV i):=by unfold QV jk fO;simp only;omega
theorem Ga{n:Nat}{a_:L_}{c:fF}(h:Qy n a_ c)(g:1<=B)(d:∀e∈c.eN,Jm B e.row):Px B c:=by
 obtain⟨_,f,_,l,m⟩:=h.Cm;have j:=h.n4;have b:∀i,jk B (eR c i):=by intro i;unfold eR;cases a:c.eN[i]? with |none=>exact zrS g i |some e=>exact(d e (zx a)).1.fh
 have k:∀i,fO B (eM c i):=by intro i;unfold eM;cases a:c.eN[i]? with |none=>exact Xt B |some e=>exact(d e (zx a)).2
 have o:6*(B*(B*B))<=JL B:=by unfold JL;have:B*(B*B)<=B*(B*(B*B)):=Jd _ g;omega
 refine⟨?_,?_,λe a=>⟨d e a,?_⟩⟩;{have d:=FF b;unfold fO at d;grind};{refine jk.list (by rw[h.fK];omega) ?_;rw[m];refine((FD (RP b) k).sign f).mono (jm ?_);unfold JL;grind};obtain⟨i,d,rfl⟩:=qM a;refine jk.list (by rw[(h.ij _ a).2];omega) ?_;rw[l i _ (zg d)];exact((RP b i).sign f).mono o
theorem O6{a:Type}{f:a->Int}:∀(l:List a),(∀e∈l,fO B (f e))->fO (l.length*B) (l.map f).sum
 |[],_=>by simpa using Xt 0 |x::l,h=>by rw[Zk,QI,qi];refine((h x (qA)).add (O6 l λe b=>h e (qq _ b))).mono (jm ?_);rw[Zg];omega
theorem TF{n:Nat}{a_:L_}{c:fF}{r:Nat}(h:Qy n a_ c)(f:r<5)(k:vU n a_ c r)(l:∀e∈c.eN,Jm B e.row):Jm (4*B) (Zd n a_ c r):=by
 have i:=h.n4;have a:=h.pos;have d:=k.shared;have j:=QE a d;have p:∀e∈c.eN,Zc a_ c.over r e<c.over:=by intro e a;have b:=GB h f a;have m:=Ij (rk a_ (fh e.eO) r) (show(0:Int)<(c.over:Int)by omega);omega
 have o:c.eN.length<=4:=by rw[h.len];exact i
 have g:∀f:gE->Int,(∀e∈c.eN,fO B (f e))->fO ((c.over*Zm n a_ c r)*(4*B)) (c.eN.map λe=>(Zc a_ c.over r e:Int)*f e).sum:=by intro f f;refine(O6 (B:=c.over*B) c.eN λe a=>((Xr (uZ (p e a))).mul (f e a))).mono ?_;have b:c.eN.length*(c.over*B)<=4*(c.over*B):=zZ _ o;(have m:4*(c.over*B)=c.over*(4*B):=by rw[jq]);have f:c.over*(4*B)<=(c.over*Zm n a_ c r)*(4*B):=zZ _ (JM _ d);omega
 have m:=k.row;have f:=k.most;generalize c.over*Zm n a_ c r=D at g j m f;constructor;{refine jk.list (by rw[k.len];omega) ?_;(have d:∀i,fO (4*B) ((Zd n a_ c r).1.getD i 0):=by intro i;have b:=g (λe=>e.row.1.getD i 0) (λe a=>(l e a).1.at i);rw[<-m i,C1,rM,Q9]at b;rw[C1];exact Nat.le_of_mul_le_mul_left b j);exact⟨d 0,d 1,d 2,d 3⟩};have b:=g (λe=>e.row.2) (λe a=>(l e a).2);rw[f];generalize (c.eN.map λe=>(Zc a_ c.over r e:Int)*e.row.2).sum=s at *;obtain⟨a,d⟩:=b;have b:(0)<(D:Int):=om;rw[J0]at a d;constructor;{refine(Lz b).2 ?_;grind};exact Int.ediv_le_of_le_mul b g_
end

section
open Go.RowKit
variable {A w w1:H}{B N b d g k:Nat}{M:Nat->Prop}{q:Nat->Int}{z:Int}
theorem MX{l}(h:Zu B l)(j):Zu B (l.take j):=λz a=>h z (ZY a)
theorem Bg{A:Nat}:∀{zs xs:L_},Zu A zs->Zu B xs->fO (zs.length*(A*B)) (T.eS zs xs)
 |[],_,_,_=>by simpa[T.eS]using Xt _ |z::zs,[],_,_=>by simpa[T.eS]using Xt _ |z::zs,x::xs,h,k=>by (have e:T.eS (z::zs) (x::xs)=z*x+T.eS zs xs:=by simp[T.eS]);rw[e,qi];refine(((h z qA).mul (k x qA)).add (Bg (λy a=>h y (qq _ a)) (λy a=>k y (qq _ a)))).mono (jm ?_);rw[Zg];omega
theorem fO.lt(h:fO B z)(a:B<N):z.natAbs<N:=qu (C1.1 h) a
theorem NB(K:Nat)(o:K+K<=1073741823)(w:H)(v u:Value)(zs xs:L_)(h:Zo w v zs)(k:Zo w u xs)(q:zs.length=xs.length)(a:zs.length<=4){A:Nat}(b:Zu A zs)(d:Zu B xs)(p:A<4294967296^K)(hb:B<4294967296^K)(hm:4*(A*B)<4294967296^K):
 C_ 95 #[ag #[v],u] w λe w'=>∃t:WT,e=Xa t.val/\zy w' t.val (T.eS zs xs)/\b_ w w':=by obtain⟨z,l,a,m⟩:=h;obtain⟨y,s,f,x⟩:=k;obtain⟨fa,g,rfl⟩:=a.shape;obtain⟨i,j,rfl⟩:=f.shape;rw[zm]at a f⊢;rw[zm];refine O4 K o w _ i g j z y _ _ l a m s f x q om (λz a=>(b z a).lt p) (λz a=>(d z a).lt hb) (λa g f i=>((b a g).mul (d f i)).lt om) (λj=>?_);refine(Bg (MX b j) (MX d j)).lt (qu ?_ hm);exact zZ _ g_
theorem zy.put{t:WT}{a:A_}{l cap}{b'}(h:zy w t.val z)(b:w.cell? (Xd g 0 O)=E (G b'))(d:w.cell? (Xd g 1 O)=E (V a l cap)):
 zy ((w.setCell (Xd g 0 O) (G t.b)).setCell (Xd g 1 O) t.sv) t.val z:=by obtain⟨_,_,_,_,a,f,e⟩:=h.parts;obtain⟨_,_,_,_⟩:=t;simp only[WT.val,WT.sv,Eg,Array.mk.injEq,Dy,Value.bool.injEq,qp,yV]at a;obtain⟨rfl,rfl,rfl,rfl⟩:=a;exact QJ f e b d
theorem Rj(K:Nat)(g:K+K<=1073741823)(w:H)(v u:Value)(zs xs:L_)(h:Zo w v zs)(k:Zo w u xs)(j:zs.length=xs.length)(l:zs.length<=4){A:Nat}(d:Zu A zs)(f:Zu B xs)(i:A<4294967296^K)(hb:B<4294967296^K)(hm:4*(A*B)<4294967296^K):
 C_ 73 #[ag #[v],u] w λe w'=>∃t:WT,e=Xa t.val/\zy w' t.val (T.eS zs xs)/\b_ w w':=by have b:=zf (λW (a)=>NB K g W v u _ _ (h.ext a) (k.ext a) j l d f i hb hm);have d:=Xm (w.alloc (cl #[v] 97)) (G false) (V_) 88;have a:=uX w (cl #[v] 97) (cl #[G false,V_] 88);rw[zL]at d;clear h k;go_enter func73,ntmps73;go_wp2_with fail;refine(b.out _ (((Xe w).alloc _).alloc _)).mono ?_;rintro e b ⟨t,rfl,j,b⟩;obtain⟨g,i,_,_,_⟩:=d.below b;have f:=zf (j.put g i);have q:=a.trans (b.mono a.size);obtain⟨m,l,p,o⟩:=t;simp only[WT.val,WT.sv]at f⊢;clear b a d j;go_wp2;exact zH (v:=ag #[G m,V l p o]) (by simp[results,results73,go_sem,g,i]) rfl ⟨⟨m,l,p,o⟩,rfl,f.out,(q.setCell sp _).setCell sp _⟩
structure CT where
 a:S_
 o:S_
 p:S_
 e:S_
def eW (x:S_):Value:=V x.1 x.2.1 x.2.2
def CT.val (c:CT):Value:=ag #[eW c.a,eW c.o,eW c.p,eW c.e]
theorem Nd{W:H}{o:Obj}(h:Wr (λk=>k=g) w W)(hb:w.heap[b]? =E o)(a:b≠g):W.heap[b]? =E o:=(h.block b (zd.1 hb).1 a).trans hb
theorem zrT{W}(h:Wr (λk=>k=g) w W)(a b):Wr (λk=>k=g) w ((W.setCell (Xd g 0 O) a).setCell (Xd g 1 O) b):=(h.trans (zv (U:=λk=>k=g) rfl a)).trans (zv (U:=λk=>k=g) rfl b)
theorem UB(K:Nat)(hK:K+K<=1073741823)(w:H)(c:CT)(r:NT)(over:Nat)(pt g:L_)(m:Int)(ho:eY w (eW c.o) over)(hp:Zo w (eW c.p) pt)(hg:Zo w r.fv g)(hm:zy w r.t.val m)(hl:g.length=pt.length)(hn:g.length<=4){A:Nat}(hA:Zu A g)(hB:Zu B pt)(Rh:fO A m)(VJ:over<=B)(ha:A<4294967296^K)(hb:B<4294967296^K)(Lo:4*(A*B)<4294967296^K):
 C_ 121 #[c.val,r.val] w λe w'=>∃t:WT,e=Xa t.val/\zy w' t.val (m*(over:Int)-T.eS g pt)/\b_ w w':=by obtain⟨⟨aa,al,ac⟩,⟨oa,ol,oc⟩,⟨pa,pl,pc⟩,⟨ea,el,ec⟩⟩:=c;obtain⟨⟨fa,fl,fc⟩,⟨tb,⟨ta,tl,tc⟩⟩,nn⟩:=r;simp only[CT.val,NT.val,eW,NT.fv,WT.sv,WT.val]at *;obtain⟨n0,n1,n2,hX⟩:=xw w (cl #[V aa al ac,V oa ol oc,V pa pl pc,V ea el ec] 100) (cl #[V fa fl fc,G tb,V ta tl tc,i_ nn] 92) (cl #[G false,V_] 88);go_enter Tryz.func121,Tryz.ntmps121;go_wp2_with fail;generalize (((w.alloc (cl #[V aa al ac,V oa ol oc,V pa pl pc,V ea el ec] 100)).alloc (cl #[V fa fl fc,G tb,V ta tl tc,i_ nn] 92)).alloc (cl #[G false,V_] 88))=w0 at *;have HK:=zf (λW (hW:Wr (λk=>k=w.heap.size+1+1) _ W)=>have q0:=Nd hW n0 om;have q1:=Nd hW n1 om;Xc (ze _ _ 1 _ _ _ q0) (Xc (ze _ _ 2 _ _ _ q0) (Xc (ze _ _ 0 _ _ _ q1) (Xc (ze _ _ 1 _ _ _ q1) (ze _ _ 2 _ _ _ q1)))));have hb3:(m*(over)).natAbs<4294967296^K:=(Rh.mul (Xr VJ)).lt om;have hb4:=(Bg hA hB).lt (qu (zZ _ hn) Lo);have HF:=zf (λW1 (h1:Ext w W1)=>Ep W1 _ _ (ho.below h1));have HT:=zf (λW1 t (h1:Ext w W1) (ht)=>AB W1 _ t m over K K hK (hm.below h1) ht (Rh.lt ha) om);have HA:=zf (λW1 (h1)=>NB K hK W1 _ _ g _ (hg.ext h1) (hp.ext h1) hl hn hA hB ha hb Lo);refine ZO (S:=λW=>W.cell? (y_ w 1)=E (V _ _ _)/\W.cell? (y_ w 2)=E (V _ _ _)/\W.cell? (x_ w 0)=E (V _ _ _)/\W.cell? (x_ w 1)=E (G _)/\W.cell? (x_ w 2)=E (V _ _ _)) rfl (HK.out w0 (Xk _ _)) (λhHeld=>?_);refine gx [0,1,2,3,4,7,8,9,10,11] ?_;refine fV 5 (HF.out _ hX.drew) ?_;rintro e wA ⟨tA,rfl,hA1,hbA⟩;have xA:=ZG hbA;refine bk (HK.out _ (Xh xA)) λhHeld=>?_;refine fV 6 (HT.out _ _ (hX.trans xA) hA1) ?_;rintro e wB ⟨tB,rfl,hB1,hbB⟩;have xB:=xA.trans (Xg hbB);refine bk (HK.out _ (Xh xB)) λhHeld=>?_;refine fV 12 (HA.out _ (hX.trans xB)) ?_;rintro e wC ⟨tC,rfl,hC1,hbC⟩;have xC:=xB.trans (Xg hbC);refine bk (HK.out _ (Xh xC)) λhHeld=>?_;refine fV 13 (ML _ _ _ _ _ _ om (hB1.below (Xg hbC)) hC1 hb3 hb4) ?_;rintro e wD ⟨tD,rfl,hD1,hbD⟩;have xD:=xC.trans (Xg hbD);obtain⟨⟨db,⟨da,dl,dc⟩⟩,rfl⟩:=hD1.shape;have q2:=eK xD n2;have c0:=ze _ _ 0 _ _ _ q2;have c1:=ze _ _ 1 _ _ _ q2;have f0:=Xf (j:=0) q2;have f1:=Xf (j:=1) q2;have HP:=zf (hD1.put c0 c1);have HB:=zf (hX.trans xD);simp only[WT.val,WT.sv]at HP⊢;refine bk (HK.out _ (Xh xD)) λhHeld=>?_;refine fM 14 λK hK=>?_;go_simp;refine hK.out _ _ (HK.out _ (zrT (Xh xD) _ _)) (h:=λhHeld=>?_);refine zV rfl ?_ _;go_wp2;exact zH (by simp[results,Tryz.results121,go_sem,c0,c1]) rfl ⟨⟨_,_,_,_⟩,rfl,HP.out,(HB.out.setCell g_ _).setCell g_ _⟩
attribute [local go_sem] zD zW qJ
def Av (w1:H)(b0 g gm N:Nat)(q:Nat->Int)(k:Nat)(M:Nat->Prop)(A:H):Prop:=
 Wr (λb=>b=g\/b=gm) w1 A/\k<=N/\∃(v:Value) (us:List _),us.length=k/\A.heap[g]? =E (cl #[v] 82)/\f_ b0 88 2 A v (us.map WT.cells)/\(∀i u,us[i]? =E u->zy A u.val (q i))/\(∀b,v.ownBlock=E b->b=gm\/w1.heap.size<=b)/\∀b,M b↔b=g\/v.ownBlock=E b
theorem Av.eL{B:H}(h:Av w1 b g d N q k M A)(a:zn w1.heap.size A B):Av w1 b g d N q k M B:=by obtain⟨b,d,v,o,e,f,i,j,l,m⟩:=h;exact⟨b.eL a,d,v,o,e,a.block _ _ f (.inr rfl),i.eL a,λi u b=>(j i u b).eL a,l,m⟩
theorem Av.list{a:Nat}{zs:L_}(h:Av w1 a g b zs.length q zs.length M A)(k:∀i,i<zs.length->q i=zs.getD i 0):∃f:S_,A.heap[g]? =E (cl #[eW f] 82)/\Zo A (eW f) zs:=by obtain⟨_,_,_,l,d,e,a,j,_,_⟩:=h;obtain⟨b,c,rfl⟩:=a.shape;refine⟨(b,_,c),e,l,d,a.list,λi t z b a=>?_⟩;have:=j i t b;have b:=(zo.1 a).1;rw[k i b,zk,a]at this;exact this
theorem Av.lt{a:Nat}(h:Av w1 a g d N q k M A):∀b,M b->b<A.heap.size:=by obtain⟨_,_,_,_,_,d,e,_,_,f⟩:=h;intro b a;rcases(f b).1 a with rfl|a;{grind};exact(e.type b a).1.lt
theorem Av.more{A2 A4 A5:H}{e g5 fU:Nat}{v:Value}{a:List WT}{u:WT}(h:Av w1 d g e N q k M A)(F:k<N)(L:q k=z)(l:zn w1.heap.size A A2)(m:Ext A2 A4)(D:g<w1.heap.size)(o:g≠e)(t:A.heap[g]? =E (cl #[v] 82))(w:a.length=k)(s:f_ d 88 2 A v (a.map WT.cells))(I:∀(i:Nat) (u:WT),a[i]? =E u->zy A u.val (q i))(J:zy A4 u.val z)(own:A5.ownsRow d 88 2 (V (E (Xd g5 0 O)) (a.length+1) fU) (a.length+1) ((a.map WT.cells).flatten++u.cells))(grow:A4.grownBy A5 v.ownBlock)(y:v.ownBlock=E g5\/A4.heap.size<=g5)(gF:qK A5 g5):
 Wr M A2 (A5.setCell (Xd g 0 O) (V (E (Xd g5 0 O)) (a.length+1) fU))/\∃f,Av w1 d g e N q (k+1) f (A5.setCell (Xd g 0 O) (V (E (Xd g5 0 O)) (a.length+1) fU))/\∀b,f b->M b\/A.heap.size<=b:=by obtain⟨B,_,x,_,_,o,_,_,p,C⟩:=h;have K:x=v:=g_;subst K;have t:kC _ 2 _ (λv=>#[v]) _ _ d g e x a M A:=⟨B,o,s,λb d=>⟨λe=>g_,p b d⟩,C⟩;have x:Wr (λb=>A.heap.size<=b) _ _:=Xh m;obtain⟨o,f,e,B⟩:=t.more (j:=0) l x D own rfl grow y gF rfl;have p:=λb d=>((t.fresh l x).gU (by obtain⟨_,_,rfl⟩:=s.shape;exact ff rfl) b d).1;exact⟨(Xh m).trans o,f,⟨e.1,F,_,_,g_,e.2.1,e.2.2.1,oo w (λi t a=>(((I i t a).eL l).below m).wr o p) (L▸J.wr o p),λb d=>(e.2.2.2.1 b d).2,e.2.2.2.2⟩,B⟩
def Ll (q:Nat->Int×Nat)(A:H)(i:Nat)(u:WT):Prop:=zy A u.val (q i).1
def Rv (w1:H)(g4 r2 r3 n:Nat)(m:WT)(q:Nat->Int×Nat)(k:Nat)(M:Nat->Prop)(A:H):Prop:=
 ∃M0,xz 88 2 90 (λv=>#[v,G m.b,m.sv]) WT.cells (Ll q) w1 w1.heap.size g4 n k M0 A/\(∀b,M b↔M0 b\/b=r2\/b=r3)/\∀i,i<k->(q i).2=1
def Gr (w:H)(r2 r3:Nat)(q:Nat->Int×Nat)(c:Code)(k:Nat)(A:H):Prop:=c= .ret/\¬(q k).2=1/\b_ w A/\A.cell? (Xd r2 0 O)=E (V_)/\A.cell? (Xd r2 1 O)=E (G false)/\A.cell? (Xd r2 2 O)=E (V_)/\A.cell? (Xd r3 0 O)=E (G false)
theorem uC{r s:Nat}(m:r≠s){g h j l:Value}{e f:TypeId}(h1:w.heap[r]? =E (cl #[g,h,j] e))(h2:w.heap[s]? =E (cl #[l] f))(a b c d:Value):
 ((((w.setCell (Xd r 0 O) a).setCell (Xd r 1 O) b).setCell (Xd r 2 O) c).setCell (Xd s 0 O) d).heap[r]? =E (cl #[a,b,c] e)/\((((w.setCell (Xd r 0 O) a).setCell (Xd r 1 O) b).setCell (Xd r 2 O) c).setCell (Xd s 0 O) d).heap[s]? =E (cl #[d] f)/\Wr (λk=>k=r\/k=s) w ((((w.setCell (Xd r 0 O) a).setCell (Xd r 1 O) b).setCell (Xd r 2 O) c).setCell (Xd s 0 O) d):=by have e:=Xl (i:=0) (v:=a) h1;have f:=Xl (i:=1) (v:=b) e;have e:=Xl (i:=2) (v:=c) f;refine⟨(qC _ _ _ _ so).trans e,?_,?_⟩;{exact Xl ((qC _ _ _ _ so).trans ((qC _ _ _ _ so).trans ((qC _ _ _ _ so).trans h2)))};exact(((zv (.inl rfl) _).trans (zv (.inl rfl) _)).trans (zv (.inl rfl) _)).trans (zv (.inr rfl) _)
theorem Gr.eL{B:H}{C:Nat}{q:Nat->Int×Nat}{c:Code}(h:Gr w b d q c k A)(a:zn C A B)(l:w.heap.size<=C):Gr w b d q c k B:=by obtain⟨b,d,e,f,g,i,j⟩:=h;exact⟨b,d,a.below e l (zh _),a.cell f,a.cell g,a.cell i,a.cell j⟩
theorem uu(K:Nat)(hK:K<=1073741800)(w:World)(b:BT)(acc:List (Int×Nat)×(Int×Nat))(hb:gQ w b acc)(hn:acc.1.length<=100000)(ba:(∀a∈acc.1,a.1.natAbs<4294967296^K/\a.2<4294967296^K)/\acc.2.1.natAbs<4294967296^K/\acc.2.2<4294967296^K):
 Calls Tryz.prog 101 #[b.val] w λe w'=>(∃r:RW,(fD acc=none/\e=Xa (.tuple #[r.val,.bool false]))\/(∃row,fD acc=some row/\e=Xa (.tuple #[r.val,.bool true])/\QG w' r row/\∀g,r.fv.ownBlock=some g->w.heap.size<=g))/\b_ w w':=by
 obtain⟨⟨mb,⟨ma,ml,mc⟩,⟨na,nl,nc⟩⟩,fa,fl,fc⟩:=b;obtain⟨hbl,hbm⟩:=hb;obtain⟨ts,rfl,h1,h2,h3⟩:=hbl.open;simp only[BT.val,BT.fv,T.fH.val,T.fH.up,T.fH.down]at hbm h2⊢;have H1:=zf h1;have H2:=zf h2;have H3:=zf h3;have FQ:ts.length<=100000:=by omega
 have HBA:=zf ba;have HFL0:Hid (∀W p p0 q0,Qa W p p0 q0->p0.natAbs<4294967296^K->q0<4294967296^K->Calls Tryz.prog 179 #[p] W λe w'=>∃t:WT,e=Xa t.val/\zy w' t.val (p0/(q0:Int))/\b_ W w'):=by intro W p p0 q0 hp b1 b2;refine(z7 K (by omega) (Cs K hK) W p p0 q0 hp b1 b2).mono ?_;rintro e w' ⟨t,rfl,ht,hb⟩;obtain⟨t,rfl⟩:=ht.shape;exact⟨t,rfl,ht,hb⟩
 clear h1 h2 h3 ba hbl;obtain⟨n0,n1,n2,hX0⟩:=xw w (.cells #[.bool mb,.slice ma ml mc,.slice na nl nc,.slice fa ts.length fc] 197) (.cells #[.slice none 0 0,.bool false,.slice none 0 0] 90) (.cells #[.bool false] 4);refine Q0 Tryz.func101 Tryz.ntmps101 (h:=?_);gi_wp2;generalize World.alloc _ _=w0 at *;have hs0:=(zd.1 n2).1;have HKB:=zf (λW (hW:Ext w0 W)=>Xc (eK hW n0) (Xc (eK hW n1) ((hW.block _ hs0).trans n2)));clear n0 n1 n2;refine(zq.2 (HFL0.out w0 _ acc.2.1 acc.2.2 (hbm.below hX0) HBA.out.2.1 HBA.out.2.2)).mono ?_;rintro e wA ⟨⟨vb,va,vl,vc⟩,rfl,hv,hbA⟩;simp only[WT.val,WT.sv]at hv⊢;have xA:Ext w0 wA:=Xg hbA;have b3:=ze _ _ 3 _ _ _ (HKB.out _ (xA.alloc (.cells #[.slice none 0 0,.bool vb,.slice va vl vc] 90))).1;gi_wp2;have hN4:=zC wA (.cells #[.slice none 0 0,.bool vb,.slice va vl vc] 90);have xB:Ext w0 (wA.alloc (.cells #[.slice none 0 0,.bool vb,.slice va vl vc] 90)):=xA.alloc _;have hv2:=hv.below ((Xe wA).alloc (.cells #[.slice none 0 0,.bool vb,.slice va vl vc] 90));generalize hwB:World.alloc _ _=wB at *;obtain⟨g4,hg4⟩:∃g4,wA.heap.size=g4:=⟨_,rfl⟩;rw[hg4]at hN4⊢;have hg4w:w0.heap.size<=g4:=by have h2:=xA.size;omega
 clear hwB hbA hg4 xA hv;refine(zq.2 (pP fa ts.length fc wB)).mono ?_;rintro e w1 ⟨rfl,hw1⟩;have x1:Ext wB w1:=by rw[hw1];exact(Xe wB).alloc _
 have k1:w1.cell? ⟨wB.heap.size,0,none⟩=some (.slice fa ts.length fc):=by rw[hw1];exact ze _ _ 0 _ _ _ (zC _ _)
 clear hw1;have x01:=xB.trans x1;have xw1:=hX0.trans x01;have n1:w1.heap[g4]? =some (.cells #[.slice none 0 0,.bool vb,.slice va vl vc] 90):=eK x1 hN4;have hg41:g4<w1.heap.size:=(zd.1 n1).1;have hg4B:g4<wB.heap.size:=(zd.1 hN4).1;have HM1:=zf (hv2.below x1);obtain⟨q,hq⟩:∃q:Nat->Int×Nat,q=λi=>acc.1.getD i (0,1):=⟨_,rfl⟩;have HQ:=zf hq;clear hN4 b3 hv2 hq;gi_wp2;refine ZT (og ts fa fc wB.heap.size (by omega)) rfl (qW Tryz.func236 (by kernel_rfl) rfl) (λk v W=>by rintro⟨t,_,rfl⟩;rfl) (Rv w1 g4 (w.heap.size+1) (w.heap.size+1+1) ts.length ⟨vb,va,vl,vc⟩ q) (Gr w (w.heap.size+1) (w.heap.size+1+1) q) (λb=>b=g4\/b=w.heap.size+1\/b=w.heap.size+1+1) ?hI ?hIx ?hC ?h0 ?round ?done ?stop;case hI=>exact λk M A B ⟨M0,⟨h1,v,us,h2,h3,h4⟩,h5,h6⟩ hk=>⟨M0,⟨h1,v,us,h2,h3.eL hk,λi u hu=>zy.eL (h4 i u hu) hk⟩,h5,h6⟩
 case hIx=>exact λc k A B h hk=>h.eL hk xw1.size
 case hC=>rintro k M A ⟨M0,⟨h1,v,us,h2,h3,h4⟩,h5,h6⟩;have hxA:Ext w A:=qk xw1 h3.1 (λb hb=>by omega);have hlt:=h3.lt;have hs1:=h3.1.size;exact⟨⟨h3.1.cell (p:=⟨wB.heap.size,0,none⟩) (by simp;omega) k1,(H2.out.ext hxA).gy⟩,λb hb=>((h5 b).1 hb).elim (hlt b) (λh=>by omega)⟩
 case h0=>exact⟨λb=>b=g4,⟨qo _,_,[],rfl,XE n1,λi u hu=>by simp at hu⟩,λb=>Qb,λi hi=>by omega⟩
 case round=>rintro l2 k v M A hkN ⟨t0,ht0,rfl⟩ ⟨M0,⟨h1,v,us,hus,hG,hEv⟩,hM,h0⟩;(have hka:k<acc.1.length:=by have:=H1.out;omega);(have hqa:acc.1[k]? =some (acc.1.getD k (0,1)):=by rw[zk,zg hka];rfl);have hxA:Ext w A:=qk xw1 hG.1 (λb hb=>by omega);have h0A:Ext w0 A:=qk x01 hG.1 (λb hb=>by omega);have hF0:=(H3.out k t0 _ ht0 hqa).below hxA;have ba:=HBA.out.1 _ (zx hqa);(have HQK:Hid (q k=acc.1.getD k (0,1)):=by rw[HQ.out];rfl);obtain⟨⟨p0,q0⟩,hpq⟩:∃pq,acc.1.getD k (0,1)=pq:=⟨_,rfl⟩;rw[hpq]at hF0 ba HQK;clear hqa hpq;obtain⟨eb,⟨ea,el,ec⟩,⟨da,dl,dc⟩⟩:=t0;obtain⟨ka,kc,rfl⟩:=hG.2.2.1.shape;rw[zm]at hG;(have hul:us.length<=100000:=by omega);simp only[WT.sv,T.fH.val,T.fH.up,T.fH.down]at hF0 hG⊢;have HUS:=zf hus;clear hus;unfold Zz;gi_wp2;refine⟨Xh ((Xe A).alloc _),λA2 hk2=>?_⟩;obtain⟨xA,e0,hs2⟩:=D8 hk2;have d0:=ze _ _ 0 _ _ _ e0;have d1:=ze _ _ 1 _ _ _ e0;have d2:=ze _ _ 2 _ _ _ e0;have hF2:=hF0.eL xA;have G2:=hG.eL xA;have CB:Ext w A2:=qk xw1 G2.1 (λb hb=>by omega);have h02:Ext w0 A2:=qk x01 G2.1 (λb hb=>by omega);have hsA:=hG.1.size;refine ZW ?_;refine xj ?_;refine xj ?_;refine Qt (by rfl) (λ⟨a,w,h⟩=>h) ?_;by_cases hq1:q0=1;{subst hq1;go_wp2_with fail;refine(Iw A2 _ p0 hF2).mono ?_;rintro e A3 ⟨rfl,hb3⟩;have x3:Ext A2 A3:=Xg hb3;go_wp2_with fail;refine(show(Code.cond _ _ _).wpIn _ _ _ _ _ _ from GH rfl (wpIn_skip ?_));have e2:=(x3.block _ (zd.1 G2.2.1).1).trans G2.2.1;have f0:=eK x3 e0;have hvlt:∀b,(Value.slice ka us.length kc).ownBlock=some b->b<A.heap.size/\b≠g4:=λb hb=>⟨(hG.2.2.1.type b hb).1.lt,(hG.2.2.2.1 b hb).1⟩;have HKEEP:=zf (λW (hW:Wr (λb=>(Value.slice ka us.length kc).ownBlock=some b) A3 W)=>have q0:=hW.some f0 (λe=>by have:=hvlt _ e;omega);have q2:=hW.some e2 (λe=>by have:=hvlt _ e;omega);Xc (ze _ _ 0 _ _ _ q2) (Xc (ze _ _ 0 _ _ _ q0) (Xc (ze _ _ 1 _ _ _ q0) (ze _ _ 2 _ _ _ q0))));have HFZ:=zf (λW (hW:Wr (λb=>(Value.slice ka us.length kc).ownBlock=some b) A3 W)=>(Xf (hW.some e2 (λe=>by have:=hvlt _ e;omega)):W.frozen? ⟨g4,0,none⟩=false));have HFL:=zf (HFL0.out A3.drew _ p0 1 (hF2.below x3.drew) ba.1 ba.2);(have e1p:p0/((1:Nat):Int)=p0:=by simp);rw[e1p]at HFL;(have HMO:Hid (∀A4 A5 g5 fU (u:WT),Ext A3 A4->zy A4 u.val p0->A5.ownsRow w1.heap.size 88 2 (.slice (some ⟨g5,0,none⟩) (us.length+1) fU) (us.length+1) ((us.map WT.cells).flatten++u.cells)->A4.grownBy A5 (Value.slice ka us.length kc).ownBlock->((Value.slice ka us.length kc).ownBlock=some g5\/A4.heap.size<=g5)->qK A5 g5->ZL M (Rv w1 g4 (w.heap.size+1) (w.heap.size+1+1) ts.length ⟨vb,va,vl,vc⟩ q) (Gr w (w.heap.size+1) (w.heap.size+1+1) q) k A A2 .normal { tmps:=#[],defers:= [] } (A5.setCell ⟨g4,0,none⟩ (.slice (some ⟨g5,0,none⟩) (us.length+1) fU))):=by intro A4 A5 g5 fU u hy hu own grow at5 gF;obtain⟨m1,M',m2,m3⟩:=xz.more (V:=Ll q) (j:=0) (N:=ts.length) (u:=u) (a:={ tmps:=#[],defers:= [] }) (λ_ _ _ _ _ h hw hu=>zy.wr h hw (λb hb=>(hu b hb).1)) (λ_ _ h=>zy.eL h xA) HUS.out hG hEv xA (x3.trans hy) (by omega) hkN (by rw[Ll,HQK.out];exact hu) own grow at5 gF;exact⟨m1.mono (λb hb=>(hM b).2 (.inl hb)),_,⟨M',m2,λb=>Qb,λi hi=>by rcases Qc i k with h|h;{exact h0 i h};rw[show i=k by omega,HQK.out]⟩,λb hb=>hb.elim (λh=>(m3 b h).imp (λh=>(hM b).2 (.inl h)) id) (λh=> .inl ((hM b).2 (.inr h)))⟩);clear e0 e2 f0 hF0 hF2 ba d0 d1 d2 hb3 hG;refine(show(Code.region _ _ _).wpIn _ _ _ _ _ _ from Gz 9 (S:=λW=>W.cell? ⟨g4,0,none⟩=some (.slice ka us.length kc)/\W.cell? ⟨A.heap.size,0,none⟩=some (.bool eb)/\W.cell? ⟨A.heap.size,1,none⟩=some (.slice ea el ec)/\W.cell? ⟨A.heap.size,2,none⟩=some (.slice da dl dc)) hm (by rfl) (λ⟨a,w,h⟩=>h) (HKEEP.out A3 (Xk _ _)) (h:=λhHeld=>?_));refine gx [0,1,2,3] ?_;refine fV 4 HFL.out ?_;rintro e A4 ⟨⟨qb,qa,ql,qc⟩,rfl,hq4,hb4⟩;have x4:Ext A3 A4:=ZG hb4;have x5:Ext A3 (A4.alloc (.cells #[.bool qb,.slice qa ql qc] 88)):=x4.alloc _;have hu5:=hq4.below ((Xe A4).alloc (.cells #[.bool qb,.slice qa ql qc] 88));simp only[WT.val,WT.sv];refine bk (HKEEP.out _ (Xh x4)) λhHeld=>?_;refine fM 5 λK hK=>?_;go_simp;refine hK.out _ _ (HKEEP.out _ (Xh x5)) (h:=λhHeld=>?_);clear hK K;refine fM 6 λK hK=>?_;refine B_ AD Tryz.underlying82 (G2.2.2.1.ext (x3.trans x5)) (by have:=x3.size;have:=x4.size;omega) ?_;intro g6 cap6 A6 own6 grow6 at6 lt6 dig6;have x6:Wr (λb=>(Value.slice ka us.length kc).ownBlock=some b) A3 A6:=(Xh x5).trans (Qh grow6 (λg hg=>hg));have HF:=zf (HMO.out _ A6 g6 cap6 ⟨qb,qa,ql,qc⟩ x5 hu5 own6 grow6 (at6.imp id (λe=>by simp[e])) dig6);have s8:=(HKEEP.out _ x6).1;clear own6 grow6 at6 lt6 dig6;refine hK.out _ _ (HKEEP.out _ x6) (h:=λhHeld=>?_);clear hK K;have f8:=HFZ.out _ x6;refine gx [7,8] ?_;refine zV (by kernel_rfl) (Er (h:=?_)) _;go_simp;exact HF.out};go_wp2_with fail;refine(Hu A2 _ p0 q0 hF2 hq1).mono ?_;rintro e A3 ⟨rfl,hb3⟩;have x3:Ext A2 A3:=Xg hb3;go_wp2_with fail;refine(show(Code.cond _ _ _).wpIn _ _ _ _ _ _ from Fm rfl (xj ?_));obtain⟨-,r2,r3⟩:=HKB.out A3 (h02.trans x3);obtain⟨-,-,⟨c0,c1,c2⟩,f0,f1,f2⟩:=mP r2 (.bool false) (.bool false) (.bool false);have c3:=ze _ _ 0 _ _ _ r3;have f3:A3.frozen? ⟨w.heap.size+1+1,0,none⟩=false:=Xf r3;obtain⟨u2,u3,u4⟩:=uC (by omega) r2 r3 (.slice none 0 0) (.bool false) (.slice none 0 0) (.bool false);have u5:=(Xh (T:=λb=>b=w.heap.size+1\/b=w.heap.size+1+1) x3).trans u4;have HX:Hid (Wr M A2 _/\Gr w (w.heap.size+1) (w.heap.size+1+1) q .ret k _):=⟨u5.mono (λb hb=>(hM b).2 (.inr hb)),rfl,by rw[HQK.out];exact hq1,qk CB u5 (λb hb=>by omega),ze _ _ 0 _ _ _ u2,ze _ _ 1 _ _ _ u2,ze _ _ 2 _ _ _ u2,ze _ _ 0 _ _ _ u3⟩;clear u2 u3 u4 u5 r2 r3 e0 hF0 hF2 ba d0 d1 d2 hb3 CB;refine Qt (by rfl) (λ⟨a,w,h⟩=>h) ?_;go_wp2_with fail;refine(show Code.ret.wpIn _ _ _ _ _ _ from wpIn_ret ?_);exact HX.out
 case done=>rintro D M A hD ⟨M0,⟨h1,v,us,h2,h3,h4⟩,h5,h0⟩ hd;obtain⟨ka,kc,rfl⟩:=h3.2.2.1.shape;rw[zm]at h3;simp only[WT.sv]at h3;have x0A:Ext w0 A:=qk x01 h3.1 (λb hb=>by omega);have m0:=ze _ _ 0 _ _ _ h3.2.1;have m1:=ze _ _ 1 _ _ _ h3.2.1;have m2:=ze _ _ 2 _ _ _ h3.2.1;obtain⟨-,r2,r3⟩:=HKB.out A x0A;obtain⟨-,-,⟨c0,c1,c2⟩,f0,f1,f2⟩:=mP r2 (.bool false) (.bool false) (.bool false);have c3:=ze _ _ 0 _ _ _ r3;have f3:A.frozen? ⟨w.heap.size+1+1,0,none⟩=false:=Xf r3;(have HRV:Hid (QG A ⟨(ka,us.length,kc),⟨vb,va,vl,vc⟩⟩ (acc.1.map Prod.fst,acc.2.1/(acc.2.2:Int))):=by refine⟨⟨us,?_,h3.2.2.1.list,λi u z hu hz=>?_⟩,(HM1.out).wr h3.1 (λb hb=>by rcases hb with rfl|rfl<;>exact zE n1 (ff rfl))⟩;{rw[zm,h2];exact H1.out};have hi:=(zo.1 hu).1;(have hi1:i<acc.1.length:=by have:=H1.out;omega);rw[zR,zg hi1]at hz;simp only[qY,qN]at hz;have h9:=h4 i u hu;simp only[Ll,HQ.out,zk,zg hi1,qB]at h9;rw[<-hz];exact h9);(have HFS:Hid (fD acc=some (acc.1.map Prod.fst,acc.2.1/(acc.2.2:Int))):=by unfold Hid fD;rw[zQ];rw[Zi];intro a ha;obtain⟨i,hi,rfl⟩:=qM ha;have h9:=h0 i (by have:=H1.out;omega);simp only[HQ.out,zk,zg hi,qB]at h9;exact wh h9);(have HFR:Hid (∀g,(Value.slice ka us.length kc).ownBlock=some g->w.heap.size<=g):=λg hg=>by have:=(h3.2.2.1.type g hg).2;have:=xw1.size;omega);obtain⟨u2,u3,u4⟩:=uC (by omega) r2 r3 (.slice ka us.length kc) (.bool vb) (.slice va vl vc) (.bool true);have HU:=zf (Xc u2 (Xc u3 u4));have HD9:=zf (u4.some hd (λe=>by omega));have HV9:=zf (HRV.out.wr u4 (λb hb=>by rcases hb with rfl|rfl;{exact⟨λht=>absurd (ht.one ⟨_,_,r2⟩) (by decide),zE r2 (ff rfl)⟩};exact⟨λht=>absurd (ht.one ⟨_,_,r3⟩) (by decide),zE r3 (ff rfl)⟩));have HB9:=zf (qk (hX0.trans x0A) u4 (λb hb=>by omega));clear h1 h2 h3 h4 h5 h0 u2 u3 u4 r2 r3;gi_wp2;refine qh HD9.out ?_;have hkD:=zn.putObj (B:=w.heap.size) (.deferred none) (by omega) HD9.out rfl;have d0:=hkD.cell (ze _ _ 0 _ _ _ HU.out.1);have d1:=hkD.cell (ze _ _ 1 _ _ _ HU.out.1);have d2:=hkD.cell (ze _ _ 2 _ _ _ HU.out.1);have d3:=hkD.cell (ze _ _ 0 _ _ _ HU.out.2.1);exact⟨.tuple #[.agg #[.slice ka us.length kc,.bool vb,.slice va vl vc],.bool true],by simp[results,Tryz.results101,go_sem,d0,d1,d2,d3],⟨⟨(ka,us.length,kc),⟨vb,va,vl,vc⟩⟩,.inr ⟨_,_,HFS.out,rfl,HV9.out.eL hkD,HFR.out⟩⟩,hkD.below HB9.out (zh _) (zh _)⟩
 case stop=>rintro D c k A hD hk ⟨rfl,h1,h2,h3,h4,h5,h6⟩ hd;gi_wp2;refine qh hd ?_;have hkD:zn w1.heap.size A (A.putObj D (.deferred none)):=zn.putObj _ hD hd rfl;have d0:=hkD.cell h3;have d1:=hkD.cell h4;have d2:=hkD.cell h5;have d3:=hkD.cell h6;(have hfn:fD acc=none:=by (have hka:k<acc.1.length:=by have:=H1.out;omega);unfold fD;rw[zO];rw[Bool.not_eq_true,List.all_eq_false];refine⟨acc.1[k],zJ hka,?_⟩;(have h1':¬(acc.1.getD k (0,1)).2=1:=by rw[HQ.out]at h1;exact h1);rw[zk,zg hka]at h1';simpa using h1');exact⟨.tuple #[.agg #[.slice none 0 0,.bool false,.slice none 0 0],.bool false],by simp[results,Tryz.results101,go_sem,d0,d1,d2,d3],⟨⟨(none,0,0),⟨false,none,0,0⟩⟩,.inl ⟨hfn,rfl⟩⟩,(hkD.mono xw1.size).below h2 (zh _) (zh _)⟩
end

section
open Go.RowKit
variable {d:DP}{w w':H}{x:Nat×Int×Nat}
theorem sF(s)(m)(w)(hs:s.size<=1000000000):
 C_ 167 #[gS s,i_ (m:Nat)] w λe w'=>∃(a:A_) (l c:Nat),e=Xa (tp #[V a l c,G (T.lO s.data.toList m)])/\(T.lO s.data.toList m=true->eY w' (V a l c) (ZE s.data.toList))/\b_ w w':=by have g:ByteArray.mk s.data.toList.toArray=s:=rfl;cases h:T.lO s.data.toList m with |true=>obtain⟨b,d,f⟩:=F0 h;rw[AX]at b d;refine(gM s m w hs b d f).mono ?_;rintro e w' ⟨_,rfl,b,d⟩;obtain⟨a,l,c,rfl⟩:=b.slice;grind |false=>have b:=wV h;rw[g]at b;refine(iQ s m w om b).mono ?_;rintro e w' ⟨rfl,rfl⟩;exact⟨O,0,0,rfl,(λh=>g_),qf _ _⟩
theorem rz(s)(m)(w)(hs:s.size<=1000000000):
 C_ 267 #[gS s,i_ (m:Nat)] w λe w'=>∃t:T.fH,e=Xa (tp #[t.val,G (T.kZ (Lib.trimPrefix s.data.toList [45]) m)])/\(T.kZ (Lib.trimPrefix s.data.toList [45]) m=true->Qa w' t.val (T.rP s.data.toList) (T.rQ s.data.toList))/\b_ w w':=by cases h:T.kZ (Lib.trimPrefix s.data.toList [45]) m with |true=>refine(mN s m w hs h).mono ?_;rintro e w' ⟨_,rfl,b,a⟩;obtain⟨t,rfl,-⟩:=b.shape;grind |false=>refine(nE s m w hs h).mono ?_;rintro e w' ⟨f,b,l,c,d,i,g,rfl,a⟩;exact⟨⟨f,(b,l,c),(d,i,g)⟩,rfl,(λh=>g_),a⟩
theorem pF{l}{m M}(b:l.length<=m)(a:l.length<=M):T.lO l M=T.lO l m:=by unfold T.lO;rw[wh b,wh a]
theorem rY(L:U_)(c):(Lib.cut L [c]).1.length<=L.length/\(Lib.cut L [c]).2.1.length<=L.length:=by unfold Lib.cut;grind
theorem Am{l}{m M}(b:l.length<=m)(a:l.length<=M):T.kZ l M=T.kZ l m:=by obtain⟨_,_⟩:=rY l 47;unfold T.kZ;rw[pF (m:=m) om om,pF (m:=m) (M:=M) om om]
def iz (w:H)(d:DP)(x:Nat×Int×Nat):Prop:=eY w d.rv x.1/\Qa w d.f.val x.2.1 x.2.2
theorem iz.eL{B}(h:iz w d x)(a:zn B w w'):iz w' d x:=⟨h.1.eL a,h.2.eL a⟩
theorem iz.ext(h:iz w d x)(a:Ext w w'):iz w' d x:=h.eL (B:=0) (zn.eU a)
theorem iz.wr{U}(h:iz w d x)(b:Wr U w w')(a:∀k,U k->qK w k):iz w' d x:=⟨h.1.wr b a,h.2.wr b a⟩
theorem wQ{g}(a b c d):Wr (λk=>k=g) w ((((w.setCell (Xd g 0 O) a).setCell (Xd g 1 O) b).setCell (Xd g 2 O) c).setCell (Xd g 3 O) d):=(((zv (U:=λk=>k=g) rfl _).trans (zv (U:=λk=>k=g) rfl _)).trans (zv (U:=λk=>k=g) rfl _)).trans (zv (U:=λk=>k=g) rfl _)
theorem sE(s)(hs:s.size<=1000000000)(w):
 C_ 231 #[gS s] w λe w'=>∃d,e=Xa (tp #[d.val,G (T.fL s.data.toList)])/\(T.fL s.data.toList=true->iz w' d (T.kg s.data.toList,T.mH s.data.toList,T.rO s.data.toList))/\b_ w w':=by
 obtain⟨C,M⟩:=rY s.data.toList 58;rw[AX]at C M;have N:=λW=>Ag s W om;unfold T.fL T.kg T.mH T.rO;rw[AX];have ht:=gJ (Lib.cut s.data.toList [58]).2.1 [45];generalize Lib.cut s.data.toList [58]=cc at *;obtain⟨a,b,_⟩:=cc;simp only at N C M ht⊢;have a1:(ByteArray.mk a.toArray).data.toList=a:=sp;have eb:(ByteArray.mk b.toArray).data.toList=b:=sp;have Q:=λW=>sF ⟨a.toArray⟩ 9223372036854775807 W (by rw[wL];omega);have R:=λW=>rz ⟨b.toArray⟩ 9223372036854775807 W (by rw[wL];omega);rw[a1,pF C om]at Q;rw[eb,Am (m:=s.size) om om]at R;have a3:=zf N;have HP:=zf Q;have HQ:=zf R;clear N Q R a1 eb C M ht;generalize ZE a=n at *;generalize T.rP b=a8 at *;generalize T.rQ b=a9 at *;generalize T.lO a s.size=a5 at *;generalize T.kZ (Lib.trimPrefix b [45]) s.size=a6 at *;have a2:Ext w (w.alloc (cl #[V_,G false,V_,V_] 295)):=(Xe w).alloc _;have K:=zC w (cl #[V_,G false,V_,V_] 295);go_enter func231,ntmps231;go_wp2_with fail;refine(a3.out _).mono ?_;rintro e w1 ⟨rfl,_,rfl⟩;go_wp2_with fail;refine(HP.out _).mono ?_;rintro e w2 ⟨X,Z,Y,rfl,hv,L⟩;have x2:=a2.trans (Xg (JJ L));have U:=((Xg (JJ L)).block _ (zd.1 K).1).trans K;go_wp2_with fail;refine(HQ.out _).mono ?_;rintro e i ⟨⟨u,⟨t,x,v⟩,⟨y,A,z⟩⟩,rfl,P,B⟩;simp only[T.fH.val,T.fH.up,T.fH.down]at P⊢;have x3:=x2.trans (Xg B);have h:=((Xg B).block _ (zd.1 U).1).trans U;have HV:=zf (λI=>(hv I).below (Xg B));have HF:=zf P;clear hv P L B U x2 a2 K;have a7:=(zd.1 h).1;obtain ⟨c0,c1,c2,c3⟩:=eI h;have f0:=Xf (j:=0) h;have f1:=Xf (j:=1) h;have f2:=Xf (j:=2) h;have f3:=Xf (j:=3) h;have a0:=zf (λa b c d=>Xc (T.o_ (a':=a) (b':=b) (c':=c) (d':=d) h) (wQ (w:=i) (g:=w.heap.size) a b c d));have a4:Hid (qK i _):=zE h (by intro aa hu;simp at hu;rcases hu with rfl|rfl|rfl|rfl<;>(intro n e;grind));have F:Hid (∀a b c d,Wr (λS=>S=w.heap.size) i (((((i.setCell (y_ w 0) a).setCell (y_ w 1) b).setCell (y_ w 2) c).setCell (y_ w 3) d).alloc (cl #[G u,V t x v,V y A z] 194))/\(((((i.setCell (y_ w 0) a).setCell (y_ w 1) b).setCell (y_ w 2) c).setCell (y_ w 3) d).alloc (cl #[G u,V t x v,V y A z] 194)).heap[w.heap.size]? =E (cl #[a,b,c,d] 295)):=by intro a b c d;have J:=a0.out a b c d;exact⟨J.2.trans (Xh ((Xe _).alloc _)),(qH _ _ _ (zd.1 J.1).1).trans J.1⟩
 clear h a0;have D:Hid (∀W,Wr (λS=>S=w.heap.size) i W->b_ w W):=λW hW=>Qg x3 (hW.below om (λb hb=>om));cases a5 with |false=>go_wp2_with fail;obtain⟨j,f⟩:=F.out (V_) (G false) (V_) (V_);obtain ⟨k,o,p,q⟩:=eI f;refine⟨rfl,tp #[ag #[V_,G _,V_,V_],G _],by simp[results,results231,go_sem,k,o,p,q],⟨(O,0,0),⟨false,(O,0,0),(O,0,0)⟩⟩,rfl,(λI=>g_),D.out _ j⟩ |true=>cases a6 with |false=>go_wp2_with fail;obtain⟨j,f⟩:=F.out (V_) (G false) (V_) (V_);obtain ⟨k,o,p,q⟩:=eI f;refine⟨rfl,tp #[ag #[V_,G _,V_,V_],G _],by simp[results,results231,go_sem,k,o,p,q],⟨⟨(O,0,0),⟨false,(O,0,0),(O,0,0)⟩⟩,rfl⟩,D.out _ j⟩ |true=>go_wp2_with fail;obtain⟨j,f⟩:=F.out (V X Z Y) (G u) (V t x v) (V y A z);obtain ⟨k,o,p,q⟩:=eI f;refine⟨rfl,tp #[ag #[V X Z Y,G u,V t x v,V y A z],G _],by simp[results,results231,go_sem,k,o,p,q],⟨(X,Z,Y),⟨u,(t,x,v),(y,A,z)⟩⟩,rfl,?_,D.out _ j⟩;exact iz.wr ⟨HV.out trivial,HF.out trivial⟩ j (λb hb=>by rw[hb];exact a4.out)
attribute [local go_sem] zD zW qJ
theorem vB(a:A_)(l c)(w):
 C_ 173 #[V a l c] w λe w'=>e=Xa (.func (.func 230) #[] #[p_ w.heap.size 0])/\w'=w.alloc (cl #[V a l c] 28):=by go_enter func173,ntmps173;go_wp2;go_ret;simp
def Hg (ts:List ST)(k:Nat)(v:W_)(W:H):Prop:=
 ∃t d,ts[k]? =E t/\v=#[d.val,G (T.fL t.s.data.toList)]/\(T.fL t.s.data.toList=true->iz W d (T.kg t.s.data.toList,T.mH t.s.data.toList,T.rO t.s.data.toList))
theorem uO(ts)(ao:A_)(cap bt)(hn:ts.length<=1000000)(FQ:∀t∈ts,t.s.size<=1000000000):
 Ja pg 230 #[p_ bt 0] ts.length (Hg ts) (λW=>W.cell? (Xd bt 0 O)=E (V ao ts.length cap)/\T.iT W (V ao ts.length cap) 1 (ts.map ST.cells)):=by
 intro l J Jx M0 W hJ hJx hC hY h0;have hc:=(hC 0 _ W h0).1.1;have HC:=zf hC;have HY:=zf hY;have HTS:=zf FQ;clear hY hC FQ;refine rV Tryz.func230 Tryz.ntmps230 (h:=?_);gi_wp2;gi_loopw [7] (λi wr=>∃(k:Nat) (M:Nat->Prop),i=i_ (k:Int)/\k<=ts.length/\J k M wr/\W.heap.size<=wr.heap.size) (λi _=>ts.length-(intOf i).toNat);case atStart=>grind
 case round=>obtain⟨k,M,rfl,hk,hj,hle⟩:=hrel;by_cases hkn:k<ts.length;{have htk:=zg hkn;obtain⟨g,off,rfl,hg,hcell⟩:=(HC.out k M _ hj).1.2.at (by intro e;rw[QB]at e;grind);have hcs:=hcell k _ (by rw[zR,htk];rfl);have HYK:=zf (λWW (d) hp hjj=>HY.out k #[d.val,G _] M WW hkn ⟨_,d,htk,rfl,hp⟩ hjj);have HRP:=zf (λWW=>sE _ (HTS.out _ (zJ hkn)) WW);clear hcell htk;generalize ts[k]=t at *;obtain⟨ts0⟩:=t;have c0:=hcs 0 _ rfl;simp only[qV,jM]at c0;clear hcs hc;gi_wp2;refine(zq.2 (HRP.out _)).mono ?_;rintro e W2 ⟨⟨⟨ra,rl,rc⟩,⟨fb,⟨fa,fl,fc⟩,⟨da,dl,dc⟩⟩⟩,rfl,hp,hb2⟩;have HYD:=zf (HYK.out _ _ hp (hJ _ _ _ _ hj (zn.eU hb2)));simp only[DP.val,DP.rv,T.fH.up,T.fH.down]at HYD⊢;have hs2:=hb2.size;clear hp HYK HRP;generalize T.fL ts0.data.toList=ok at *;gi_wp2;refine jr HYD.out ?_ ?_;{rintro W3 ⟨hw3,M3,hj3,_⟩;gi_wp2;go_roundw;(case rel=>exact⟨_,_,g_,hkn,hj3,by have:=hw3.size;omega⟩);case measure=>simp[intOf];omega};intro W3 hj3;gi_wp2;refine zH (qI rfl _ _ _) rfl ?_;grind};gi_wp2;go_end0;grind
end

section
variable {n:Nat}{v:Value}{w w':H}
def lf (last:Bool)(x:U_×Bool):Option (List (Nat×Int×Nat)):=
 if x.2=true/\(Zb x.1).headD []=(if last=true then [101,110,100]else [99,117,116])/\((Zb x.1).drop 1).all T.fL=true then E (((Zb x.1).drop 1).map T.iN)else O
def gY (p:qF)(kind:Int)(z:Int)(row:L_×Int):Bool:=
 if kind=1 then decide (row=(p.mx,z))else decide (row.1=List.replicate p.n 0)&&decide (row.2<0)
def fI (n:Nat)(goal:L_×Int->Bool):Nat->R_->List (U_×Bool)->Nat×Nat
 |_,_,[]=>(5,1)
 |k,rows,x::r=>
  match lf r.isEmpty x with
  |none=>(5,k+1)
  |some ps=>match eZ rows ps (List.replicate n (0,1),(0,1))with
   |.error e=>(e,k+1)
   |.ok acc=>
    if r.isEmpty=true then(if ((fD acc).map goal).getD false=true then(0,0)else(12,k+1))
    else match fD acc with
     |none=>(11,k+1)
     |some row=>fI n goal (k+1) (rows ++ [row]) r
def oq (l:U_):Bool:=T.lO (Lib.trimPrefix l [45]) 100
def iO (rows:R_)(x:L_):Bool:=rows.all λr=>decide (T.eS r.1 x<=r.2)
def fu (p:qF)(kind:Int)(pt:List (U_))(v:U_):Except Nat Int:=
 if kind=2 then .ok 0
 else if kind≠1\/oq v=false\/pt.length≠p.n\/pt.all oq=false then .error 7
 else if iO (T.eV p) (pt.map T.wZ)=true/\T.eS p.mx (pt.map T.wZ)=T.wZ v then .ok (T.wZ v)else .error 8
def fS (s:U_)(kind:Int)(pt:List (U_))(v log:U_):Nat×Nat:=
 match JY s with
 |.error e=>e
 |.ok p=>match fu p kind pt v with
  |.error e=>(e,0)
  |.ok z=>if 20000<log.length then(4,0)else fI p.n (gY p kind z) 0 (T.eV p) (QW log)
theorem DR{l:U_}{m}(h:T.kZ (Lib.trimPrefix l [45]) m=true):Sz (10^m) (10^m) (T.rP l,T.rQ l):=by
 unfold T.kZ at h;simp only[Qj,Bool.or_eq_true,Bool.not_eq_true',Z9]at h;obtain⟨d,a⟩:=h;have b:T.rA l<10^m:=T.mT d;have b:0<T.rD l/\T.rD l<=10^m:=by unfold T.rD T.pR;rcases a with a|⟨a,e⟩;{grind};split;{exact⟨Z3 e,uZ (T.mT a)⟩};omega
 have f:Nat.gcd (T.rA l) _ ∣ T.rD l:=wm _ _;have i:Nat.gcd _ (T.rD l) ∣ T.rA l:=t_ _ _;have g:0<Nat.gcd (T.rA l) _:=Nat.gcd_pos_of_pos_right _ b.1;have e:0<T.rQ l:=Nat.div_pos (AH b.1 f) g;refine⟨e,?_,zF (xx _ _) b.2⟩;have b:(T.rP l).natAbs=T.rA l/Nat.gcd (T.rA l) (T.rD l):=by unfold T.rP;have f:(Nat.gcd (T.rA l) (T.rD l):Int) ∣ sg (Lib.hasPrefix l [45]) (T.rA l):=BG.2 (by rw[lY];omega);rw[Int.natAbs_ediv_of_dvd f,Q9,lY]
 show(T.rP l).natAbs<=10^m*T.rQ l;rw[b];have d:=xx (T.rA l) (Nat.gcd (T.rA l) (T.rD l));have a:10^m*1<=10^m*T.rQ l:=Zr _ e;omega
theorem wO{l}(h:T.fL l=true):Sz (10^l.length) (10^l.length) (T.iN l).2:=by unfold T.fL at h;rw[Qj]at h;exact DR h.2
def iM (ws:List (U_)):Nat:=(ws.map λl=>l.length+1).sum
theorem Dx(s l):10^s+10^l<=10^(s+(l+1)):=by have a:10^(s+(l+1))=10*(10^s*10^l):=g_;have a:0<10^s:=DC om;have b:0<10^l:=DC om;have d:10^s*1<=10^s*10^l:=Zr _ b;have b:1*10^l<=10^s*10^l:=zZ _ a;omega
theorem tW{R:Nat}{rows:R_}(i:iy n R rows):∀(a:List (U_)) (s:Nat) (d b:List (Int×Nat)×(Int×Nat)),(∀l∈a,T.fL l=true)->nQ (R*10^s) (10^s) d->d.1.length=n->eZ rows (a.map T.iN) d= .ok b->nQ (R*10^(s+iM a)) (10^(s+iM a)) b/\b.1.length=n
 |[],s,d,b,_,e,f,h=>by simp only[L2,eZ,Except.ok.injEq]at h;subst h;exact⟨by simpa[iM]using e,f⟩ |l::a,s,d,b,g,e,f,h=>by rw[Zk,eZ]at h;by_cases h1:(T.iN l).1<1\/rows.length<(T.iN l).1;{rw[zQ h1]at h;cases h};rw[zO h1]at h;by_cases h2:(T.iN l).2.1<=0;{rw[zQ h2]at h;cases h};rw[zO h2]at h;obtain⟨b1,j⟩:=BZ i (wO (g l qA)) h1 e f;(have d:s+iM (l::a)=s+(l.length+1)+iM a:=by simp[iM];omega);rw[d];(have e:10^s*10^l.length<=10^(s+(l.length+1)):=by rw[<-Q6];exact ZD om om);(have d:R*10^s+R*10^l.length<=R*10^(s+(l.length+1)):=by rw[<-Zs];exact Zr _ (Dx _ _));refine tW i a (s+(l.length+1)) _ b (λx a=>g x (qq _ a)) ⟨λa b=>(b1.1 a b).mono d e,b1.2.mono d e⟩ j h
theorem Bv(n R):nQ (R*10^0) (10^0) (List.replicate n ((0),1),((0),1)):=⟨λa a=>by rw[(List.mem_replicate.1 a).2];exact⟨Nat.one_pos,sp,sp⟩,⟨Nat.one_pos,sp,sp⟩⟩
theorem CV{R:Nat}{rows:R_}(i:iy n R rows){a:List (U_)}(g:∀l∈a,T.fL l=true){S:Nat}(f:iM a<=S)(k:Nat)(b:List (Int×Nat)×(Int×Nat))(h:eZ rows ((a.map T.iN).take k) (List.replicate n (0,1),(0,1))= .ok b):nQ (R*10^S) (10^S) b/\b.1.length=n:=by
 rw[<-List.map_take]at h;obtain⟨d,e⟩:=tW i _ 0 _ b (λl b=>g l (ZY b)) (Bv n R) sp h;have i:0+iM (a.take k)<=S:=by
  refine zF ?_ f;rw[qt];clear h d e g f;unfold iM;conv=>rhs;rw[<-FL k a]
  rw[Z6,List.sum_append];omega
 have b:10^(0+iM _)<=10^S:=ZD om i;exact⟨⟨λa f=>(d.1 a f).mono (Zr _ b) b,d.2.mono (Zr _ b) b⟩,e⟩
theorem BQ{M:Nat}{z:Int}{q:Nat}(a:0<q)(h:z.natAbs<=M*q):(z/(q:Int)).natAbs<=M:=by
 have b:z<=(M*q:Nat):=om;have d:-((M*q:Nat))<=z:=om;have a:(0)<(q:Int):=om;have e:z/(q:Int)<=M:=by have:=Int.ediv_le_ediv a b;rw[J0,Int.mul_ediv_cancel _ om]at this;exact this
 have b:-(M:Int)<=z/(q:Int):=by have:=Int.ediv_le_ediv a d;rw[J0,<-Int.neg_mul,Int.mul_ediv_cancel _ om]at this;exact this
 omega
theorem wz{M D}{a}(b:nQ M D a)(e:a.1.length=n){row}(h:fD a=E row):row.1.length=n/\(∀z∈row.1,z.natAbs<=M)/\row.2.natAbs<=M:=by unfold fD at h;split at h;{rename_i d;rw[qN]at h;subst h;refine⟨g_,λz f=>?_,BQ b.2.pos b.2.up⟩;obtain⟨a,e,rfl⟩:=qP.1 f;have f:=Zi.1 d a e;have d:=(b.1 a e).up;grind};grind
theorem pT:∀(f:Nat) (l:U_),l.length<f->iM (pW f l)=l.length+1
 |0,l,h=>om |f+1,l,h=>by rw[pW];have b:=DW 32 l;by_cases a:(Lib.cut l [32]).2.2=true;{rw[zQ a]at b⊢;have:=pT f (Lib.cut l [32]).2.1 om;simp only[iM,Zk,QI]at this⊢;omega};rw[zO a]at b⊢;rw[LO (c:=32) (l:=l) (by simpa using a)];simp[iM]
theorem nF(l):iM ((Zb l).drop 1)<=l.length:=by have h:=pT (l.length+1) l om;have a:Zb l=pW _ l:=rfl;rw[a];cases hx:pW (l.length+1) l with |nil=>simp[iM] |cons a r=>rw[hx]at h;simp only[iM,Zk,QI,List.drop_succ_cons,Q2]at h⊢;omega
theorem oK:∀(f:Nat) (l:U_),((JA f l).map λx=>x.1.length).sum<=l.length
 |0,l=>by simp[JA] |f+1,l=>by rw[JA];split;{simp};have a:=DW 10 l;have:=oK f (Lib.cut l [10]).2.1;simp only[Zk,QI];omega
theorem Aj(l):((QW l).map λx=>x.1.length).sum<=l.length:=oK _ l
theorem tq{L}{p}(f:lF L p)(a:2+p.n<=L):iy p.n (10^40) (T.eV p):=by
 have j:p.rg.length=p.n:=by have:=f.g;omega
 intro r a;unfold T.eV at a;rcases zU.1 a with a|a;{obtain⟨x,b,a⟩:=jj.1 a;obtain⟨g,_⟩:=f.c x b;obtain⟨d,e⟩:=f.br x b;unfold T.fj at a;grind};obtain⟨i,k,a⟩:=jj.1 a;have h:i<p.rg.length:=g_;have hm:p.rg.getD i (0,0)∈p.rg:=g_;obtain⟨d,e⟩:=f.bg _ hm;(have f:∀z∈T.fe p.n i,z.natAbs<=10^40:=by intro z b;unfold T.fe at b;obtain⟨_,_,rfl⟩:=qP.1 b;split;{omega};omega);(have h:(T.fe p.n i).length=p.n:=by simp[T.fe]);unfold T.gO at a;grind
open Go.RowKit
theorem yK{a}(e:w.heap[a]? =E (cl (madeCells #[G false,V_,V_] (n*3)) 194)):ZS w 194 (V (E (Xd a 0 O)) n n) 3 ((List.replicate n (⟨false,(O,0,0),(O,0,0)⟩)).map T.fH.cells):=by refine Or.inr ⟨a,0,n,sp,sp,⟨_,_,e⟩,λi cs b j u a=>?_⟩;rw[zR,H9]at b;by_cases d:i<n;{rw[zQ d]at b;simp only[qY,qN,T.fH.cells,T.fH.up,T.fH.down]at b;subst b;obtain⟨f,g,h⟩:=T.yO d;rw[qt];refine(ze _ _ _ _ _ _ e).trans ?_;grind};grind
theorem uM(n:Nat)(A:n<=100000)(w:H):
 Calls pg 174 #[it Xb (n:Nat)] w fun e w'=>∃b:BT,e=Xa b.val/\gQ w' b (List.replicate n (0,1),(0,1))/\Below w.heap.size w w':=by
 obtain⟨u,g,i,j,k⟩:=Zn uw;have z:∀W:H,(Instr.makeSlice 195 (it Xb (n:Nat)) (it Xb (n:Nat))).run pg W= .ok (V (E (Xd W.heap.size 0 O)) n n) (W.alloc (cl (madeCells #[G false,V O 0 0,V O 0 0] (n*3)) 194)):=by
  intro W;have:=run_make (P:=pg) W 195 194 u _ underlying195 g i Xb Xb (n:Int) (n:Int) om om (by rw[k];omega) om;rw[j,jT]at this;exact this
 have y:Ext w (w.alloc (cl #[G false,V O 0 0,V O 0 0,V O 0 0] 197)):=(Xe w).alloc _;have x:=zC w (cl #[G false,V O 0 0,V O 0 0,V O 0 0] 197);have B:(w.alloc (cl #[G false,V O 0 0,V O 0 0,V O 0 0] 197)).heap.size=w.heap.size+1:=sp;clear g i j k;go_enter func174,ntmps174
 go_wp2_with fail
 obtain⟨d,v⟩:=Xi w (cl #[G false,V O 0 0,V O 0 0,V (E ⟨w.heap.size+1,0,O⟩) n n] 197) (cl (madeCells #[G false,V O 0 0,V O 0 0] (n*3)) 194);have l:=c_ 0 d;have m:=c_ 1 d;have o:=c_ 2 d;have p:=c_ 3 d;refine⟨rfl,ag #[G false,V O 0 0,V O 0 0,V (E ⟨w.heap.size+1,0,O⟩) n n],by simp[results,results174,go_sem,l,m,o,p],⟨⟨false,(O,0,0),(O,0,0)⟩,(E ⟨w.heap.size+1,0,O⟩,n,n)⟩,rfl,⟨⟨List.replicate n ⟨false,(O,0,0),(O,0,0)⟩,sp,yK v,fun t D C a f=>?_⟩,si _⟩,((qf _ _).alloc (zh _) _).alloc sp _⟩;rw[H9]at a f;by_cases h:t<n
 ·rw[zQ h]at a f;have q:=Q8 a;have s:=Q8 f;subst q;subst s;exact si _
 ·rw[zO h]at a;cases a
attribute [local go_sem] zD zW qJ
structure DL where
 n:Int
 e:Bool
 p:S_
def DL.pv (d:DL):Value:=V d.p.1 d.p.2.1 d.p.2.2
def DL.val (d:DL):Value:=ag #[i_ d.n,G d.e,d.pv]
def iw (w:H)(v:Value)(ps:List (Nat×Int×Nat)):Prop:=
 ∃ds:List _,ds.length=ps.length/\ZS w 295 v 4 (ds.map DP.cells)/\∀(i:Nat) d x,ds[i]? =E d->ps[i]? =E x->iz w d x
theorem iw.eL{B}{b}(h:iw w v b)(a:zn B w w'):iw w' v b:=by obtain⟨f,b,d,e⟩:=h;exact⟨f,b,d.eL a,λi t z b d=>(e i t z b d).eL a⟩
theorem iw.ext{a}(h:iw w v a)(b:Ext w w'):iw w' v a:=h.eL (B:=0) (zn.eU b)
theorem iw.wr{U}{a}(h:iw w v a)(d:Wr U w w')(b:∀k,U k->¬qQ w k 295/\qK w k):iw w' v a:=by obtain⟨g,a,e,f⟩:=h;exact⟨g,a,e.wr d (λk a=>(b k a).1),λi t z e g=>(f i t z e g).wr d (λk a=>(b k a).2)⟩
def l_ (last:Bool):U_:=if last=true then [101,110,100]else [99,117,116]
theorem lN(last)(w):C_ 172 #[G last] w λe w'=>e=Xa (gS ⟨(l_ last).toArray⟩)/\w'=w:=by cases last<;> {go_enter func172,ntmps172;go_wp2;go_ret;exact⟨rfl,rfl⟩}
theorem Co:(Tryz.prog.info? 295).map (λi=>(i.zero,i.size,i.bytes))=E (E (ag #[V_,G false,V_,V_]),4,80):=kr
theorem vK(s)(hs:s.length<=90000)(w0:H):
 C_ 170 #[.func (.func 229) #[] #[p_ w0.heap.size 0]] (w0.alloc (cl #[gS ⟨s.toArray⟩] 9)) λe w'=>∃(g off cap:Nat) (c:U_) (ts:List _),e=Xa (V (E (Xd g off O)) (ts.length+1) cap)/\Zb s=c::ts.map (λt=>t.s.data.toList)/\ts.length+1<=cap/\ZS w' 9 (V (E (Xd g off O)) (ts.length+1) cap) 1 ([gS ⟨c.toArray⟩]::ts.map ST.cells)/\Below (w0.alloc (cl #[gS ⟨s.toArray⟩] 9)).heap.size (w0.alloc (cl #[gS ⟨s.toArray⟩] 9)) w':=by have d:=(NF (s.length+1) s).1;have a:=(SQ s om w0.heap.size).seq;have b:((Zb s).map EF).length=((Zb s).map λl=>(⟨l.toArray⟩:ByteArray)).length:=sp;rw[b]at a;refine(sO _ _ _ _ _ a (qW func229 kr rfl) (λk v W x b a=>?_) (λk v W a=>?_) (by rw[zm];exact zF d om) _ (c_ 0 (zC _ _)) (λA B d f=>?_)).mono ?_;{rw[zR]at a b;cases h:(Zb s)[k]? with |none=>grind |some y=>rw[h]at b a;simp only[qY,qN]at b a;exact⟨⟨⟨_⟩⟩,a.symm,b⟩};{rw[zR]at a;cases h:(Zb s)[k]? with |none=>grind |some y=>rw[h]at a;simp only[qY,qN]at a;rw[<-a];rfl};{exact JV sp A B d f};rintro e w' ⟨v,ts,rfl,b,a,f,_,j⟩;(have k:ts=(Zb s).map λl=>(⟨⟨l.toArray⟩⟩:ST):=by apply Ku;intro i;rw[zR];rw[zm]at b;cases h:(Zb s)[i]? with |none=>grind |some y=>have d:i<ts.length:=g_;have b:=f i _ ⟨_⟩ (zg d) (by rw[zR,h];rfl);rw[zg d,qY,qN];rw[<-b]);subst k;have b:Zb s=(Lib.cut s _).1::(if (Lib.cut s _).2.2=true then pW _ _ else []):=rfl;generalize (Lib.cut s [32]).1=c at b;generalize (if (Lib.cut s [32]).2.2=true then pW s.length (Lib.cut s [32]).2.1 else [])=r at b;rw[b,Zk,Zk]at a;have d:=a;rcases d with ⟨_,h⟩|⟨g,off,cap,rfl,d,-⟩;{grind};simp only[zm,qi]at a d;refine⟨g,off,cap,c,r.map (λl=>(⟨⟨l.toArray⟩⟩)),sp,?_,g_,by rw[zm];exact a,j⟩;rw[b,ye];congr 1;rw[show((λt=>t.s.data.toList) ∘ λl=>(⟨⟨l.toArray⟩⟩:ST))=id from funext λl=>sp,List.map_id]
def gg (l:U_):Nat×Int×Nat:=(T.kg l,T.mH l,T.rO l)
def gd (last:Bool)(x:U_×Bool):Bool:=x.2&&(decide ((Zb x.1).headD []=l_ last)&&((Zb x.1).drop 1).all T.fL)
theorem Cv(last)(x):lf last x=if gd last x=true then E (((Zb x.1).drop 1).map T.iN)else O:=by unfold lf gd l_;grind
def MC (q:Nat->U_)(A:H)(i:Nat)(d:DP):Prop:=iz A d (gg (q i))
def Rc (w1:H)(g5 r2 r3 n:Nat)(z:Int)(last:Bool)(q:Nat->U_)(k:Nat)(M:Nat->Prop)(A:H):Prop:=
 ∃M0,xz 295 4 132 (λv=>#[i_ z,G last,v]) DP.cells (MC q) w1 w1.heap.size g5 n k M0 A/\(∀b,M b↔M0 b\/b=r2\/b=r3)/\∀i,i<k->T.fL (q i)=true
def GW (w:H)(r2 r3:Nat)(z:Int)(q:Nat->U_)(c:Code)(k:Nat)(A:H):Prop:=c= .ret/\T.fL (q k)=false/\b_ w A/\A.cell? (Xd r2 0 O)=E (i_ z)/\A.cell? (Xd r2 1 O)=E (G false)/\A.cell? (Xd r2 2 O)=E (V_)/\A.cell? (Xd r3 0 O)=E (G false)
theorem GW.eL{A B:H}{b d C:Nat}{z:Int}{q:Nat->U_}{c:Code}{k:Nat}(h:GW w b d z q c k A)(a:zn C A B)(l:w.heap.size<=C):GW w b d z q c k B:=by obtain⟨b,d,e,f,g,i,j⟩:=h;exact⟨b,d,a.below e l (zh _),a.cell f,a.cell g,a.cell i,a.cell j⟩
theorem ZS.tail{t}{g off cap}{cs}{a}(b:n=a.length)(h:ZS w t (V (E (Xd g off O)) (n+1) cap) 1 (cs::a)):(cap=1->ZS w t (V (E (Xd g off O)) n 0) 1 a)/\(¬cap=1->ZS w t (V (E ⟨g,off+1,O⟩) n (cap-1)) 1 a):=by subst b;rcases h with ⟨h,_⟩|⟨_,_,_,a,b,d,f⟩;{grind};simp only[qp,qN,Jg]at a;obtain⟨⟨rfl,rfl,_⟩,_,rfl⟩:=a;rw[qi]at b;refine⟨λe=> .inr ⟨g,_,0,rfl,om,d,λi b a=>?_⟩,λe=> .inr ⟨g,_,_,rfl,om,d,λi b a j u d=>?_⟩⟩;{grind};have:=f (i+1) b g_ j u d;grind
end

section
open Go.RowKit
variable {a d e:Value}{b g:Nat}{w:H}
theorem Pr(a):T.iu a=if a.length=2/\a.getD 0 []=ud then vN (a.getD 1 [])else 0:=by unfold T.iu vN T.DF ud;grind
theorem Yg(a):Cj 2 (λk x=>if k=0 then decide (x=ud)else decide (vN x≠0)) a=decide (T.iu a≠0):=by unfold Cj;rw[LY,Pr];grind
theorem Yr(s:U_)(hs:s.length<=2000)(f h c:Nat)(g cap:Nat)(w:H)(hg:g≠c)(a:2<=cap)(b:cap<=9223372036854775807)(j:∀i fv,[QY f,K5 h][i]? =E fv->w.cell? (Xd g i O)=E fv)(u:w.cell? (Xd f 0 O)=E (gS ⟨ud.toArray⟩))(y:f≠c)(h1:w.cell? (Xd h 0 O)=E (p_ c 0))(B:h≠c)(m:w.cell? (Xd c 0 O)=E (i_ 0))(q:w.frozen? (Xd c 0 O)=false):
 C_ 153 #[gS ⟨s.toArray⟩,V (E (Xd g 0 O)) 2 cap] w λe w'=>
  e=Xa (G (decide (T.iu (Zb s)≠0)))/\Wr (λk=>k=c) w w'/\(T.iu (Zb s)≠0->w'.cell? (Xd c 0 O)=E (i_ (T.iu (Zb s):Nat))):=by have d:c<w.heap.size:=zw m;have l:=MA s hs _ (λk x=>if k=0 then decide (x=ud)else decide (vN x≠0)) (λk=>k=c) (λpre A=>∃z,A.cell? _=E (i_ z)/\A.frozen? _=false/\(1<pre.length->z=(vN (pre.getD 1 [])))) g _ w (λx t=>t▸d) hg sp om b j (λpre A a d o=>by obtain⟨z,a,b,j⟩:=d;exact⟨z,o.cell a,(o.frozen a).trans b,j⟩) (λpre A o o v d o o o=>by obtain⟨z,a,b,j⟩:=d;exact⟨z,(qj _ _ _ _ so).trans a,by simp_all,j⟩) ?_ ⟨0,m,q,λo=>g_⟩;{have d: [QY f,K5 h].length=2:=rfl;rw[d,Yg]at l;refine l.mono ?_;rintro e w' ⟨rfl,m,l⟩;refine⟨rfl,m,λq=>?_⟩;obtain⟨z,a,b,j⟩:=l g_;have d:=q;rw[Pr]at d;have q:=Pr (Zb s);grind};intro k fv d;match k,d with |0,d=>simp at d;subst d;refine⟨_,f,rfl,N1,λpre x W q t m l=>?_⟩;refine(OJ x _ f W (m.cell y u)).mono ?_;rintro e f ⟨rfl,rfl⟩;obtain rfl:pre= []:=QZ q;obtain⟨z,a,b,j⟩:=l;exact⟨rfl,Xk _ _,λ_=>⟨z,a,b,λo=>g_⟩⟩ |1,d=>simp at d;subst d;refine⟨_,h,rfl,VA,λpre x W q t m l=>?_⟩;obtain⟨z,a,b,j⟩:=l;refine(X6 x h c z W (m.cell B h1) a b om).mono ?_;rintro e f ⟨rfl,a,h⟩;refine⟨rfl,?_,λf=>⟨_,h g_,?_,λ_=>?_⟩⟩;{rcases a with rfl|rfl;{exact Xk _ _};exact Xs (T:=λk=>k=c) (Xp _ _) rfl _};{rcases a with rfl|rfl;{omega};simp_all};grind |k+2,d=>grind
theorem zl1(s:U_)(hs:s.length<=2000)(a:Nat)(X u:Value)(w:H)(h:DQ w a qF.none X u):
 C_ 80 #[p_ a 0,gS ⟨s.toArray⟩] w λe w'=>
  e=Xa (G (decide (T.iu (Zb s)≠0)))/\Wr (λk=>k=a) w w'/\(T.iu (Zb s)≠0->∃t,DQ w' a ⟨T.iu (Zb s),[],[],[]⟩ t u/\∀k,t.ownBlock=E k->w.heap.size<=k):=by obtain⟨R,F,N,P,Q⟩:=Zn Tryz.vQ;have a0:=h.box.2.2.2.2;have z:b_ w ((((w.alloc (cl #[i_ 0] 3)).alloc (cl #[gS ⟨ud.toArray⟩] 9)).alloc (cl #[p_ w.heap.size 0] 265)).alloc (cl #[QY (w.heap.size+1),K5 (w.heap.size+1+1)] 262)):=(xu w _ _ _).alloc so _;obtain⟨q,S,U,W⟩:=Lg w (cl #[i_ 0] 3) (cl #[gS ⟨ud.toArray⟩] 9) (cl #[p_ w.heap.size 0] 265) (cl #[QY (w.heap.size+1),K5 (w.heap.size+1+1)] 262);have l:=zf (Yr s hs _ _ _ (w.heap.size+1+1+1) 2 _ om om om (λo fv b=>by rw[ze _ _ _ _ _ _ W];grind) (ze _ _ _ _ _ _ S) om (ze _ _ _ _ _ _ U) om (ze _ _ _ _ _ _ q) (ZK _ _ _ _ _ q));have v:=zf h;have K:=SY (Zb s);obtain⟨n,hn⟩:∃n,T.iu (Zb s)=n:=⟨_,rfl⟩;rw[hn]at l K⊢;go_enter func80,ntmps80;go_wp2_with fail;refine(KW _ _).mono ?_;rintro e Y ⟨rfl,rfl⟩;go_wp2_with fail;refine(Wn _ _).mono ?_;rintro e Y ⟨rfl,rfl⟩;go_wp2_with fail;refine l.out.mono ?_;rintro e i ⟨rfl,L,B⟩;have M:=(Xh z).trans L;have d:=M.below (zh _) (λk e=>om);by_cases f:n=0;{subst f;go_wp2;go_ret;exact⟨sp,Xh d,λh=>absurd rfl h⟩};have hc:=B f;have j:=v.out.below d;have A:=j.box;obtain⟨x,_,y,_,m⟩:=A;have C:decide (n≠0)=true:=g_;rw[C];go_wp2_with (at_make;refine wpList_make_full _ rfl _ _ _ rfl 0 122 R _ 6 underlying59 F N P _ _ _ _ n rfl rfl rfl rfl g_ mo (qo _) ?_;intro Z J D;have g:=(qf _ _).grown D (zh _) (λk h=>g_);have q0:=(g.cell m).trans x;have q2:=(g.frozen m).trans y);go_ret;refine⟨by simp_all,Xs (T:=λk=>k=a) (Xh (d.trans (g.mono d.size))) rfl _,λ_=>⟨_,(j.below g).xN (XZ J) ?_ ?_ sp,λk I=>?_⟩⟩;{omega};{intro e;have:=(((j.rows).choose_spec.2.1).lt _ e).2;omega};simp[Value.ownBlock]at I;have:=d.size;omega
theorem IX{B}{a}(h:Below B a w):Below B a w.drew:=⟨h.os,h.tape,h.output,h.size,h.block⟩
theorem SN(a n)(b:A_)(cap)(w)(h:w.cell? (Xd a 0 O)=E (V b n cap))(d:n<=1000):
 C_ 43 #[p_ a 0] w λe w'=>e=Xa (i_ ((2+n:Nat)))/\w'=w:=by go_enter func43,ntmps43;go_wp2;go_ret;simp
theorem DQ.vv{d}{p}{f}(h:DQ w d p f a):∃b e,a=V b p.rows.length e:=by obtain⟨_,a,b,_⟩:=h.rows;rw[<-a];obtain⟨_,a|⟨_,_,_,d,_⟩⟩:=b;{grind};grind
theorem DQ.sx{d}{p}{b}(h:DQ w d p b e)(f:0<p.n):∃a zs,b=V (E (Xd a 0 O)) p.n p.n/\kB w a zs/\EN p zs:=by rcases h.mY with b|⟨a,zs,b,_,d,e⟩;{omega};grind
def wY (f:Nat)(args:W_)(i:Nat)(p:qF)(ws:List (U_))(gp:Nat)(vC vR:Value)(B:Nat)(w:H):Prop:=
 C_ f args w λe w'=>e=Xa (G (jD i p ws).isSome)/\Wr (Own gp vC vR) w w'/\∀q,jD i p ws=E q->∃vC' vR',DQ w' gp q vC' vR'/\∀k,Own gp vC' vR' k->Own gp vC vR k\/B<=k
theorem Ym(l:U_)(e:l.length<=2000)(a B:Nat)(b d:Value)(w:H)(h:DQ w a qF.none b d)(g:B<=w.heap.size):
 wY 80 #[p_ a 0,gS ⟨l.toArray⟩] 0 qF.none (Zb l) a b d B w:=by refine(zl1 l e a b d w h).mono ?_;rintro e a ⟨rfl,b,i⟩;have a:jD 0 qF.none (Zb l)=if T.iu (Zb l)=0 then .none else E ⟨T.iu (Zb l),[],[],[]⟩:=rfl;rw[a];refine⟨?_,b.mono (λk e=>Or.inl e),λq a=>?_⟩;{grind};by_cases b:T.iu (Zb l)=0;{grind};rw[zO b]at a;injection a with a;subst a;obtain⟨j,a,f⟩:=i b;refine⟨j,d,a,λk a=>?_⟩;rcases a with e|e|e;{exact Or.inl (Or.inl e)};{grind};exact Or.inl (Or.inr (Or.inr e))
theorem Y8(l)(hl:l.length<=2000)(gp B)(p)(vC vR)(w)(h:DQ w gp p vC vR)(hn:0<p.n/\p.n<=4)(LJ:p.rg= []):
 wY 81 #[p_ gp 0,gS ⟨l.toArray⟩] 1 p (Zb l) gp vC vR B w:=by
 obtain⟨bc,zs,rfl,hz,hc⟩:=h.sx hn.1;apply(Wz l hl _ _ _ _ _ w h.box hn.2 hz hc.1).mono;rintro e w' ⟨rfl,hw,hq⟩;have ht:jD 1 p (Zb l)=if xm uU p.n (Zb l)=true then E { p with mx:=((Zb l).drop 1).map T.wZ } else .none:=by unfold jD xm;rw[zO om,zQ rfl];simp only[Z9]
 rw[ht];refine⟨?_,hw.mono (λk e=>Or.inr (Or.inl (by rw[e];rfl))),λq hqe=>?_⟩;{grind};by_cases h0:xm uU p.n (Zb l)=true;{rw[zQ h0]at hqe;injection hqe with hqe;subst hqe;exact⟨_,_,h.sj rfl hn.1 hw (hq h0) (zqG hc LJ (jU h0).1) rfl rfl,λk hk=>Or.inl hk⟩};grind
theorem Vv(i)(l)(hl:l.length<=2000)(gp B)(p)(vC vR)(w)(h:DQ w gp p vC vR)(hn:0<p.n/\p.n<=4)(h2:2<=i)(hi:i<=1+p.n)(LJ:p.rg.length=i-2):
 wY 82 #[p_ gp 0,gS ⟨l.toArray⟩,i_ ((i-2:Nat))] i p (Zb l) gp vC vR B w:=by
 obtain⟨bc,zs,rfl,hz,hc⟩:=h.sx hn.1;apply(zk7 l hl _ _ _ _ _ _ w h.box hn.2 om hz hc.1).mono;rintro e w' ⟨rfl,hw,hq⟩;have ht:jD i p (Zb l)=if xm Je 2 (Zb l)=true then E { p with rg:=p.rg ++ [(T.wZ ((Zb l).getD 1 []),T.wZ ((Zb l).getD 2 []))] } else .none:=by unfold jD xm;rw[zO om,zO om,zQ hi];simp only[Z9]
 rw[ht];refine⟨?_,hw.mono (λk e=>Or.inr (Or.inl (by rw[e];rfl))),λq hqe=>?_⟩;{grind};by_cases h0:xm Je 2 (Zb l)=true;{rw[zQ h0]at hqe;injection hqe with hqe;subst hqe;exact⟨_,_,h.sj rfl hn.1 hw (hq h0) (XA hc LJ om (jU h0).1) rfl rfl,λk hk=>Or.inl hk⟩};grind
theorem Y5(i:Nat)(l:U_)(j:l.length<=2000)(a B:Nat)(p:qF)(e d:Value)(w:H)(h:DQ w a p e d)(b:0<p.n/\p.n<=4)(h2:2<=i)(f:¬i<=1+p.n)(k:p.rows.length<6)(g:B<=w.heap.size):
 wY 83 #[p_ a 0,gS ⟨l.toArray⟩] i p (Zb l) a e d B w:=by
 obtain⟨e,_,rfl,_,_⟩:=h.sx b.1;refine(Wd l j a e p d w h b.1 b.2 om).mono ?_;rintro e a ⟨rfl,b,j⟩;have a:jD i p (Zb l)=if Af p.n (Zb l)=true then E { p with rows:=p.rows ++ [rowOf p.n (Zb l)] } else .none:=by unfold jD Af rowOf;rw[zO om,zO om,zO f];simp only[Z9,k,true_and]
 rw[a];refine⟨?_,b,λq a=>?_⟩;{grind};by_cases b:Af p.n (Zb l)=true;{rw[zQ b]at a;injection a with a;subst a;obtain⟨k,d,f⟩:=j b;refine⟨_,k,d,λk d=>?_⟩;rcases d with e|e|e;{exact Or.inl (Or.inl e)};{exact Or.inl (Or.inr (Or.inl e))};exact(f k e).imp (λe=>Or.inr (Or.inr e)) (λe=>zF g e)};grind
theorem Y4(i:Nat)(l:U_)(b1 C:Bool)(b:Nat)(p:qF)(o s:Value)(w:H)(h:DQ w b p o s)(f:lF i p)(y:l.length<=2000)(hi:i<=100000):
 C_ 42 #[p_ b 0,ag #[i_ ((i+1:Nat):Int),gS ⟨l.toArray⟩,G b1,G C]] w λe w'=>
  e=Xa (G (jD i p (Zb l)).isSome)/\Wr (Own b o s) w w'/\∀q,jD i p (Zb l)=E q->∃L M,DQ w' b q L M/\∀k,Own b L M k->Own b o s k\/w.heap.size<=k:=by obtain⟨_,_,a1⟩:=h.vv;have d:b_ w (w.alloc (cl #[i_ ((i+1:Nat)),gS ⟨l.toArray⟩,G b1,G C] 115)):=(qf _ _).alloc (zh _) _;have a:=h.below d;obtain⟨u,Q,R,S,T⟩:=a.box;have x:=d.size;by_cases D:i=0;{subst D;obtain rfl:=f.z rfl;have g:=zf (Ym l y b _ o s _ a x);clear a h f;go_enter func42,ntmps42;go_wp2_with fail;refine g.out.mono ?_;rintro e t ⟨rfl,m,j⟩;go_wp2;go_ret;exact⟨rfl,(Xh d).trans m,j⟩};have z:=f.n om;obtain⟨P,_,a0,_,_⟩:=h.sx z.1;by_cases F:i=1;{subst F;have g:=zf (Y8 l y b w.heap.size p o s _ a z (QZ (by have:=f.g;omega)));clear a h f;go_enter func42,ntmps42;go_wp2_with fail;refine g.out.mono ?_;rintro e t ⟨rfl,m,j⟩;go_wp2;go_ret;exact⟨rfl,(Xh d).trans m,j⟩};rw[a0]at u;have v:((i+1:Nat))=(i:Int)+1:=sp;rw[v]at d a u Q R S T x;have A:=zf (λ(W) (Y:W.cell? _=E (V (E (Xd P 0 O)) _ p.n))=>SN b p.n _ _ W Y om);have a:=a.eL (zn.drew 0 _);have d:=IX d;have x:=d.size;have a2:¬(i:Int)+1=1:=om;have a3:¬(i:Int)+1=2:=om;by_cases B:i<=1+p.n;{have g:=zf (Vv i l y b w.heap.size p o s _ a z om B (by have:=f.g;omega));have U:(i)+1<=2+(p.n:Int):=om;have J:((i-2:Nat))=(i:Int)+1-2-1:=om;rw[J]at g;clear a h f J v;go_enter func42,ntmps42;go_wp2_with fail;go_region_with (go_at_call 43;refine(A.out _ am).mono ?_;rintro e t ⟨rfl,rfl⟩);(all_goals go_wp2_with fail);(all_goals refine g.out.mono ?_);(all_goals rintro e t ⟨rfl,m,j⟩);(all_goals go_wp2);(all_goals go_ret);all_goals exact⟨rfl,(Xh d).trans m,j⟩};have U:¬(i)+1<=2+(p.n:Int):=om;subst a1;by_cases I:p.rows.length<6;{have g:=zf (Y5 i l y b _ p o _ _ a z om B I x);have X:(p.rows.length:Int)<6:=om;clear a h f v;go_enter func42,ntmps42;go_wp2_with fail;go_region_with (go_at_call 43;refine(A.out _ am).mono ?_;rintro e t ⟨rfl,rfl⟩);(all_goals go_wp2_with fail);(all_goals refine g.out.mono ?_);(all_goals rintro e t ⟨rfl,m,j⟩);(all_goals go_wp2);(all_goals go_ret);all_goals exact⟨rfl,(Xh d).trans m,j⟩};(have K:jD i p (Zb l)= .none:=by unfold jD;rw[zO D,zO F,zO B,zO (λZ=>I Z.1)]);have N:=zf K;have X:¬(p.rows.length:Int)<6:=om;clear a h f v K;go_enter func42,ntmps42;go_wp2_with fail;go_region_with (go_at_call 43;refine(A.out _ am).mono ?_;rintro e t ⟨rfl,rfl⟩);(all_goals go_wp2);(all_goals go_ret);(all_goals rw[N.out]);all_goals exact⟨rfl,Xh d,λq hq=>g_⟩
theorem kB.mj{zs}{z z'}(h:kB w b zs)(d:w.cell? (Xd g 0 O)=E (i_ z)):kB (w.setCell (Xd g 0 O) (i_ z')) b zs:=by by_cases f:g=b;{subst f;refine⟨h.1.setCell d sp,λj e=>?_⟩;have⟨_,_,_,c,e,_⟩:=h.2 0 om;rw[Ql,d]at e;cases e};exact h.setCell d sp f _
theorem DQ.mj{p}{z z'}(h:DQ w b p a d)(hg:¬Own b a d g)(i:w.cell? (Xd g 0 O)=E (i_ z)):DQ (w.setCell (Xd g 0 O) (i_ z')) b p a d:=by have d:b≠g:=λe=>hg (Or.inl e.symm);have same:∀k,k≠g->(w.setCell (Xd g 0 O) (i_ z')).heap[k]? =w.heap[k]?:=λk a=>qC _ _ _ _ a;refine⟨h.box.same (same b d) sp,h.vT.same (same b d),?_,λk a=>⟨(h.kU k a).1.same (same k (λe=>hg (e▸Or.inr (Or.inr a)))),(h.kU k a).2⟩,?_⟩;{rcases h.mY with b|⟨j,m,b,d,f,l⟩;{grind};exact Or.inr ⟨j,m,b,d,f.mj i,l⟩};obtain⟨j,b,d,f⟩:=h.rows;refine⟨j,b,GR d (λk a=>same k (λe=>hg (e▸Or.inr (Or.inr a)))),λd r row a b=>?_⟩;obtain⟨e,j,k,l,m⟩:=f d r _ a b;exact⟨e,j,k.mj i,l,m.setCell i sp _⟩
theorem kB.eX{j}{zs}{y v}(h:kB w b zs)(f:w.cell? (Xd g j O)=E y)(k:∀n,y≠it .u32 n)(l:∀n,v≠it .u32 n)(i:w.cell? (Xd g 0 O)=E d)(hb:∀x,d≠G x):kB (w.setCell (Xd g j O) v) b zs:=by by_cases e:g=b;{subst e;refine⟨h.1.setCell f l,λd d=>?_⟩;have⟨x,_,_,c,d,_⟩:=h.2 0 om;rw[Ql,i]at d;injection d with d;exact absurd d (hb x)};exact h.setCell f k e _
theorem DQ.eX{j}{p}{y v}(h:DQ w b p a d)(hg:¬Own b a d g)(l:w.cell? (Xd g j O)=E y)(i:∀n,y≠it .u32 n)(o:∀n,v≠it .u32 n)(m:w.cell? (Xd g 0 O)=E e)(hb:∀x,e≠G x):DQ (w.setCell (Xd g j O) v) b p a d:=by have d:b≠g:=λe=>hg (Or.inl e.symm);have same:∀k,k≠g->(w.setCell (Xd g j O) v).heap[k]? =w.heap[k]?:=λk a=>qC _ _ _ _ a;refine⟨h.box.same (same b d) sp,h.vT.same (same b d),?_,λk a=>⟨(h.kU k a).1.same (same k (λe=>hg (e▸Or.inr (Or.inr a)))),(h.kU k a).2⟩,?_⟩;{rcases h.mY with b|⟨q,t,b,d,f,s⟩;{grind};exact Or.inr ⟨q,t,b,d,f.eX l i o m hb,s⟩};have⟨q,b,d,f⟩:=h.rows;refine⟨q,b,GR d (λk a=>same k (λe=>hg (e▸Or.inr (Or.inr a)))),λd r row a b=>?_⟩;have⟨e,k,q,s,t⟩:=f d r _ a b;exact⟨e,k,q.eX l i o m hb,s,t.setCell l i _⟩
theorem DQ.lt{a}{p}{b}(h:DQ w a p b d):∀k,Own a b d k->k<w.heap.size:=by intro k a;rcases a with e|e|e;{rw[e];exact h.box.2.2.2.2};{rcases h.mY with ⟨_,a⟩|⟨_,_,a,_,b,_⟩;{rw[a]at e;cases e};rw[a]at e;simp[Value.ownBlock]at e;rw[<-e];exact b.lt};have⟨_,_,a,_⟩:=h.rows;exact(a.lt k e).2
theorem SU{a}:∀{j k:Nat} {v:W_},(tY j a)[k]? =E v->∃x last,a[k]? =E x/\v=rI (j+k) x last:=by induction a with |nil=>intro j k v h;simp[tY]at h |cons y r d=>intro j k v h;cases k with |zero=>simp[tY]at h;grind |succ k=>rw[tY,jg]at h;grind
theorem Nn{a:List (U_×Bool)}{i}{p}{y:U_×Bool}(d:a[i]? =E y):ju i p (a.drop i)=if y.2=false then .error (i+1)else match jD i p (Zb y.1)with|.none=> .error (i+1)|some q=>ju (i+1) q (a.drop (i+1)):=by have⟨b,a⟩:=zo.1 d;rw[jt b,a,ju];rfl
theorem zqY(s)(k:Nat)(x)(h:(QW s)[k]? =E x):x.1.length<=s.length:=(IF s.length s).2 x (zx h)
attribute [local go_sem] zD zW qJ
def Bz (w:H)(LL:List (U_×Bool))(k:Nat)(p:qF)(vC vR:Value)(A:H):Prop:=
 DQ A (w.heap.size+1+1) p vC vR/\lF k p/\ju 0 qF.none LL=ju k p (LL.drop k)/\A.cell? ⟨w.heap.size+1+1+1,0,O⟩=E (i_ ((k)+1))/\A.frozen? ⟨w.heap.size+1+1+1,0,O⟩=false/\
  Zh A w.heap.size (V_) (V_)/\A.cell? ⟨w.heap.size+1,0,O⟩=E (i_ 0)/\A.frozen? ⟨w.heap.size+1,0,O⟩=false/\b_ w A/\(∀x,Own (w.heap.size+1+1) vC vR x->x=w.heap.size+1+1\/w.heap.size+1+1+1+1<x)/\w.heap.size+1+1+1+1<A.heap.size
theorem Bz.eL{C:Nat}{A A':H}{b:List (U_×Bool)}{k:Nat}{p:qF}(h:Bz w b k p d e A)(a:zn C A A')(s:w.heap.size<=C):Bz w b k p d e A':=by obtain⟨e,i,j,b,l,m,d,o,q,f,g⟩:=h;exact⟨e.eL a,i,j,a.cell b,(a.frozen b).trans l,m.eL a,a.cell d,(a.frozen d).trans o,a.below q s (zh _),f,zK g a.size⟩
theorem Bz.step{A2 b:H}{d:List (U_×Bool)}{k:Nat}{p q:qF}{g f i:Value}{y:U_×Bool}(h:Bz w d k p e g A2)(a:Wr (Own (w.heap.size+1+1) e g) A2 b)(D:DQ b (w.heap.size+1+1) q f i)(ho:∀x,Own (w.heap.size+1+1) f i x->Own (w.heap.size+1+1) e g x\/A2.heap.size<=x)(F:d[k]? =E y)(I:y.2=true)(u:jD k p (Zb y.1)=E q):
 b.cell? ⟨w.heap.size+1+1+1,0,O⟩=E (i_ ((k:Int)+1))/\b.frozen? ⟨w.heap.size+1+1+1,0,O⟩=false/\Hid (Bz w d (k+1) q f i (b.setCell ⟨w.heap.size+1+1+1,0,O⟩ (i_ ((k:Int)+1+1)))):=by
 obtain⟨_,A,B,l,z,o,s,C,t,j,_⟩:=h;have d:w.heap.size+1+1+1<A2.heap.size:=zw l;have d:∀x,x<=w.heap.size+1+1+1+1->x≠w.heap.size+1+1->¬Own _ e g x:=λx v e e=>by rcases j x e with e|e<;>omega
 have g:=a.cell (p:=(v_ w 0)) (d _ sp sp) l;have m:=(a.frozen (p:=(v_ w 0)) (d _ sp sp) (zw l)).trans z;have l:=o.same (a.block _ o.2.2.2.2 (d _ om om)) a.size;have o:=a.cell (p:=(x_ w 0)) (d _ sp sp) s;have z:=(a.frozen (p:=(x_ w 0)) (d _ sp sp) (zw s)).trans C;have d:∀x,Own _ f i x->x=w.heap.size+1+1\/w.heap.size+1+1+1+1<x:=λx v=>by rcases ho x v with e|e;{exact j x e};omega
 refine⟨g,m,D.mj (λe=>g_) g,A.step u,?_,?_,by simp_all,?_,?_,by simp_all,?_,d,by have:=a.size;simp;omega⟩;{rw[B,Nn F,zO g_,u]};{rw[zN _ _ _ g];simp};{exact l.same (qC _ _ _ _ g_) sp};{rw[qj _ _ _ _ g_];omega};have d:=a.below t.size (λx e=>g_);exact(t.trans d).setCell so _
