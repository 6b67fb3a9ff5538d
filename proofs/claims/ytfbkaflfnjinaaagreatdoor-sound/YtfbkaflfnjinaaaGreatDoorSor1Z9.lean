import Derived.Test.YtfbkaflfnjinaaaGreatDoorSor1Z7
open Option renaming none->O,some->E
open Go.Value renaming slice->V,bool->G,string->gS,pointer->pn,tuple->tp,int->it,agg->ag
open Go.Obj renaming cells->cl
open Go renaming World->H
open Go.Proofs.Tryz renaming prog->pg
open Go.Proofs.Tryz
open Go.Ending renaming returned->Xa
open Go.IntKind renaming i64->Xb
open Go.Addr renaming mk->Xd
set_option linter.unusedSimpArgs false
set_option linter.unusedVariables false
set_option maxHeartbeats 4000000
set_option maxRecDepth 100000
open Go.Lib renaming trimPrefix->kag,decDigits->kad,cut->kaa,itoa->kae
open List renaming replicate->kaf,range->kal,zipWith->kaq
open Nat renaming gcd->R8
open Go.World renaming alloc->kah,setCell->kas
open Or renaming inr->kac,inl->kai
open Go.Value renaming ownBlock->kaj
namespace Go.Proofs.YtfbkaflfnjinaaaGreatDoor
open Go.RowKit
attribute [local go_sem] zD zW qJ
namespace T
theorem Bv (z)(h1:-1000000000<=z)(h2:z<=1000000000):IntKind.i64.wrap z=z:=by rw[IntKind.wrap_i64];omega
def eO (gs xs:L_):Int:=(kaq (· * ·) gs xs).sum
theorem AM {a xs:L_}{j}(hg)(d:j<xs.length):eO (a.take (j+1)) (xs.take (j+1))=eO (a.take j) (xs.take j)+a[j]*xs[j]:=by unfold eO;have b:(a.take j).length=(xs.take j).length:=g_;rw[ZQ hg,ZQ d,List.zipWith_append b,List.sum_append];simp
def fk (x:L_×U_×Int):R_:=
 (if x.2.1= [62,61]then []else [(x.1,x.2.2)])++(if x.2.1= [60,61]then []else [(x.1.map λz=>-z,-x.2.2)])
def fh (n i:Nat):L_:=(kal n).map λk=>if k=i then 1 else 0
def gK (n i:Nat)(r:Int×Int):R_:= [(fh n i,r.2),((fh n i).map λz=>-z,-r.1)]
def eV (p:qF):R_:=p.rows.flatMap fk++(kal p.n).flatMap λi=>gK p.n i (p.rg.getD i (0,0))
end T
section
open V4
variable {a_ x:L_}
theorem VC{n}{l:L_}(h:l.length=n)(e:n<=4):(n=0/\l= [])\/(n=1/\∃a,l= [a])\/(n=2/\∃a b,l= [a,b])\/(n=3/\∃a b c,l= [a,b,c])\/(n=4/\∃a b c d,l= [a,b,c,d]):=by match l,h with |[],h=>grind |[a],h=>grind |[a,b],h=>grind |[a,b,c],h=>grind |[a,b,c,d],h=>grind |a::b::c::d::e::r,h=>grind
theorem JE{f:Int->Int->Int}(a:f 0 0=0){xs ys:L_}(h:xs.length=ys.length)(i):(kaq f xs ys).getD i 0=f (xs.getD i 0) (ys.getD i 0):=by grind
theorem QD{g}(h:g.length=x.length)(a:x.length<=4):T.eO g x=(fm g).dot (fm x):=by rcases VC rfl a with ⟨e,rfl⟩|⟨e,a,rfl⟩|⟨e,a,b,rfl⟩|⟨e,a,b,c,rfl⟩|⟨e,a,b,c,_,rfl⟩<;> rcases VC (l:=g) rfl om with ⟨a,rfl⟩|⟨a,b,rfl⟩|⟨a,b,d,rfl⟩|⟨a,b,d,e,rfl⟩|⟨a,b,d,e,_,rfl⟩<;> first|omega|(simp[T.eO,fm,dot];try omega)
theorem XT{l}{i}(h:l.length<=i)(b:i<4):(QV i).dot (fm l)=0:=by have a:l.getD i 0=0:=g_;obtain⟨d,e,f,g⟩:=DE<|fm l;rcases nt b with rfl|rfl|rfl|rfl;{rw[d];exact a};{rw[e];exact a};{rw[f];exact a};rw[g];exact a
def ZJ (over:Nat)(x:L_)(t:Int)(y:L_)(u:Int):L_:=kaq (λa b=>(a*t+b*u)/(over)) x y
theorem KR(over)(x)(t)(y)(u)(h:x.length=y.length):(ZJ over x t y u).length=x.length:=by simp[ZJ,h]
theorem NY{over:Nat}(ho:0<over){y}(h:x.length=y.length)(t u){z}(a:z.smul (over)=((fm x).smul t).add ((fm y).smul u)):fm (ZJ over x t y u)=z:=by
 have b:∀i d,over*d=t*x.getD i 0+u*y.getD i 0->(ZJ over x t y u).getD i 0=d:=by intro i d e;unfold ZJ;rw[JE sp h];(have:x.getD i 0*t+y.getD i 0*u=over*d:=by rw[e,Qp t,Qp u]);rw[this];exact jI _ om
 simp only[smul,add,fm,V4.mk.injEq]at a;exact ext' (b 0 _ a.1) (b 1 _ a.2.1) (b 2 _ a.2.2.1) (b 3 _ a.2.2.2)
def qT (a_ x:L_):L_:=T.eO a_ x::kaq (λa r=>if a<=0 then -r else r) a_ x
def Qx:L_->Int
 |[]=>0
 |a::r=>if a.sign=0 then Qx r else a.sign
theorem Df(h:a_.length=x.length)(d:x.length<=4)(i:Nat)(m:i<5):(qT a_ x).getD i 0=rk a_ (fm x) i:=by cases i with |zero=>exact QD h d |succ i=>have e:(qT _ x).getD (i+1) 0=(kaq _ a_ x).getD i 0:=rfl;rw[e,JE sp h];have f:rk _ _ (i+1)=(if a_.getD i 0<=0 then(QV i).smul (-1)else QV i).dot (fm x):=rfl;(have a:(QV i).dot (fm x)=x.getD i 0:=by obtain⟨g,j,k,l⟩:=DE<|fm x;rcases nt (show i<4 by omega)with rfl|rfl|rfl|rfl;{exact g};{exact j};{exact k};exact l);rw[f];split;{rw[iF,a];omega};omega
theorem OR:∀(l:L_),l.length<=5->(0<Qx l↔JK (λi=>l.getD i 0))
 |[],_=>by refine⟨λh=>by simp[Qx]at h,λ⟨k,_,_,b⟩=>by simp at b⟩ |a::r,g=>by rw[Qx];have d:=OR r (by simp at g;omega);split;{rename_i e;have f:=PN.1 e;rw[d];constructor;{rintro⟨k,m,d,b⟩;(have j:k<r.length:=by refine Ze λj=>?_;have j:0<r.getD k 0:=b;rw[zk,qL om]at j;simp at j);refine⟨k+1,by simp at g;omega,λi g=>?_,b⟩;cases i with |zero=>exact f |succ i=>exact d i om};rintro⟨k,m,d,b⟩;cases k with |zero=>have j:0<a:=b;omega |succ k=>exact⟨k,om,λi g=>d (i+1) om,b⟩};rename_i e;have f:a≠0:=λj=>e (by rw[j];rfl);constructor;{intro h;exact⟨0,om,λi g=>absurd g<|Nat.not_lt_zero _,Int.sign_pos_iff.1 h⟩};rintro⟨k,m,d,b⟩;cases k with |zero=>exact Int.sign_pos_iff.2 b |succ k=>exact absurd (d 0 om) f
theorem R6:∀(l:L_),Qx (l.map λz=>-z)=- Qx l
 |[]=>rfl |a::r=>by rw[Zk,Qx,Qx,Int.sign_neg,R6 r];have:(-a.sign=0)↔(a.sign=0):=om;simp only[this];split<;>rfl
theorem Yw(l)(a:l.length<=5):Qx l<0↔JK (λi=>-(l.getD i 0)):=by have h:=OR (l.map λz=>-z) g_;rw[R6]at h;grind
theorem JK.congr{f g}(h:JK f)(e:∀i,i<5->f i=g i):JK g:=by obtain⟨k,a,j,d⟩:=h;exact⟨k,a,λi b=>g_,g_⟩
theorem qz.congr{f g}(h:qz f)(e:∀i,i<5->f i=g i):qz g:=by rcases h with h|h;{exact .inl λi a=>g_};exact .inr (h.congr e)
theorem NR(a_ x):(qT a_ x).length=min a_.length x.length+1:=by simp[qT]
theorem Nz(h:a_.length=x.length)(d:x.length<=4):0<Qx (qT a_ x)↔JK (rk a_ (fm x)):=by rw[OR _ (by rw[NR];omega)];exact⟨λb=>b.congr λi a=>Df h d i a,λb=>b.congr λi a=>(Df h d i a).symm⟩
theorem sign_neg(h:a_.length=x.length)(d:x.length<=4):Qx (qT a_ x)<0↔JK (λi=>- rk a_ (fm x) i):=by rw[Yw _ (by rw[NR];omega)];exact⟨λb=>b.congr λi a=>by rw[Df h d i a],λb=>b.congr λi a=>by rw[Df h d i a]⟩
end
section
open V4
variable {i:Nat}
structure gQ where
 row:L_×Int
 num:Nat
 eT:L_
structure fF where
 over:Nat
 eW:L_
 eN:List gQ
def Z2 (c:fF)(r:L_×Int):Int:=r.2*(c.over)-T.eO r.1 c.eW
def Q5 (a_:L_)(over:Nat)(g:L_):List gQ->Option (gQ×Int)->Option (gQ×Int)
 |[],b=>b
 |e::es,b=>
  if T.eO g e.eT<=0 then Q5 a_ over g es b
  else match b with
   |none=>Q5 a_ over g es (E (e,T.eO g e.eT))
   |some (o,pv)=>if Qx (qT a_ (ZJ over e.eT pv o.eT (-(T.eO g e.eT))))<0 then Q5 a_ over g es (E (e,T.eO g e.eT))else Q5 a_ over g es (E (o,pv))
theorem G5(a_)(over)(g)(e)(es:List _)(b:Option (gQ×Int)):Q5 a_ over g (e::es) b=
 if T.eO g e.eT<=0 then Q5 a_ over g es b
 else match b with
  |none=>Q5 a_ over g es (E (e,T.eO g e.eT))
  |some (o,pv)=>if Qx (qT a_ (ZJ over e.eT pv o.eT (-(T.eO g e.eT))))<0 then Q5 a_ over g es (E (e,T.eO g e.eT))else Q5 a_ over g es (E (o,pv)):=by cases b<;>rfl
def Bk (over:Nat)(r:L_×Int)(num:Nat)(o:gQ)(pv:Int)(es:List gQ):List gQ:=
 es.map λe=>if e.num=o.num then⟨r,num,e.eT⟩else⟨e.row,e.num,ZJ over e.eT pv o.eT (-(T.eO r.1 e.eT))⟩
def Qe (a_:L_)(c:fF)(r:L_×Int)(num:Nat):Option fF:=
 match Q5 a_ c.over r.1 c.eN O with
 |none=>O
 |some (o,pv)=>E ⟨pv.natAbs,ZJ c.over c.eW pv o.eT (Z2 c r),Bk c.over r num o pv c.eN⟩
def eR (c:fF)(i:Nat):V4:=match c.eN[i]? with|some e=>fm e.row.1|none=>QV i
def eM (c:fF)(i:Nat):Int:=match c.eN[i]? with|some e=>e.row.2|none=>0
structure Qy (n:Nat)(a_:L_)(c:fF):Prop where
 n4:n<=4
 kX:a_.length=n
 len:c.eN.length=n
 fN:c.eW.length=n
 iw:∀e∈c.eN,e.row.1.length=n/\e.eT.length=n
 pos:0<c.over
 Cb:∃s:Int,(s=1\/s=-1)/\(c.over:Int)=s*Jb (eR c)/\(∀i e,c.eN[i]? =E e->fm e.eT=(QL (eR c) i).smul s)/\fm c.eW=(Bo (QL (eR c)) (eM c)).smul s
 lex:∀e∈c.eN,JK (rk a_ (fm e.eT))
 I6:(c.eN.map gQ.num).Nodup
theorem Rz{s}(h:s=1\/s=-1):s*s=1:=by rcases h with rfl|rfl<;>rfl
theorem Fb{c}{e}(h:c.eN[i]? =E e):eR c i=fm e.row.1:=by unfold eR;rw[h]
theorem Li{c}(h:c.eN.length<=i):eR c i=QV i:=by unfold eR;rw[qL h]
theorem Ho{c}{e}(h:c.eN[i]? =E e):eM c i=e.row.2:=by unfold eM;rw[h]
theorem LA{c}(h:c.eN.length<=i):eM c i=0:=by unfold eM;rw[qL h]
theorem jQ{a:Type}{l:List a}{e:a}(h:l[i]? =E e):i<l.length:=(zo.1 h).1
section
variable {n:Nat} {a_:L_} {c:fF}
theorem Qy.lt (h:Qy n a_ c){i}{e}(a:c.eN[i]? =E e):i<4:=by have:=jQ a;have:=h.len;have:=h.n4;omega
theorem Qy.mem (h:Qy n a_ c){i:Nat}{e}(a:c.eN[i]? =E e):e.row.1.length=n/\e.eT.length=n:=h.iw e (zx a)
theorem Qy.mZ (h:Qy n a_ c){i j:Nat}{e f}(a:c.eN[i]? =E e)(b:c.eN[j]? =E f):T.eO e.row.1 f.eT=if i=j then(c.over:Int)else 0:=by obtain⟨_,_,g,d,_⟩:=h.Cb;have k:=h.mem a;have k:=h.mem b;have k:=h.n4;rw[QD om om,d j f b,fA,<-Fb a,Bb _ _ _ (h.lt a)<|h.lt b];grind
theorem Qy.nR (h:Qy n a_ c){i:Nat}{e}(a:c.eN[i]? =E e):T.eO e.row.1 c.eW=(c.over)*e.row.2:=by have⟨_,_,b,_,d⟩:=h.Cb;have f:=h.mem a;have f:=h.n4;have f:=h.fN;rw[QD om om,d,fA,<-Fb a,MO _ _ _<|h.lt a,Ho a,b];grind
end
variable {a_:L_}{c:fF}{n:Nat}
theorem DG{g:Type}(f:g->Int):∀(l:List g),l.length<=4->(l.map f).sum=(l[0]?.map f).getD 0+(l[1]?.map f).getD 0+(l[2]?.map f).getD 0+(l[3]?.map f).getD 0
 |[],_=>rfl |[a],_=>sp |[a,b],_=>sp |[a,b,c],_=>by simp[Int.add_assoc] |[a,b,c,d],_=>by simp[Int.add_assoc] |a::b::c::d::e::r,h=>by simp at h
theorem Qy.complete(h:Qy n a_ c){x}(a:x.length=n)(g:V4):
 (c.over)*g.dot (fm x)=g.dot (fm c.eW)-(c.eN.map λe=>(e.row.2-T.eO e.row.1 x)*g.dot (fm e.eT)).sum:=by
 obtain⟨s,_,f,b,d⟩:=h.Cb;have a:=h.n4;have a:=h.len;have a:=qm (λv=>s*g.dot v)<|OT (eR c)<|fm x;simp only[fA,lO]at a;rw[DG _ _ om,d,fA,TZ];have a:∀i,i<4->((c.eN[i]?.map λe=>(e.row.2-T.eO e.row.1 x)*g.dot (fm e.eT)).getD 0)=s*(eM c i*g.dot (QL (eR c) i))-s*((eR c i).dot (fm x)*g.dot (QL (eR c) i)):=by intro i d;cases he:c.eN[i]? with |some e=>have j:=h.mem he;rw[Ho he,Fb he,qY,qB,b i e he,fA,QD om om];grind |none=>have b:=Ju.1 he;rw[LA b,Li b,XT om d];simp
 grind
theorem Qy.nZ(h:Qy n a_ c){j k:Nat}{o e:gQ}(b:c.eN[j]? =E o)(d:c.eN[k]? =E e)(t:k≠j){g:L_}(hg:g.length=n)(u:T.eO g o.eT≠0):
 ∃s:Int,(s=1\/s=-1)/\fm (ZJ c.over e.eT (T.eO g o.eT) o.eT (-(T.eO g e.eT)))=(QL (xI (eR c) j (fm g)) k).smul s/\(fm (ZJ c.over e.eT (T.eO g o.eT) o.eT (-(T.eO g e.eT)))).smul (c.over:Int)=((fm e.eT).smul (T.eO g o.eT)).add ((fm o.eT).smul (-(T.eO g e.eT)))/\(c.over:Int)=s*Jb (eR c)/\fm o.eT=(QL (eR c) j).smul s:=by
 obtain⟨s,m,l,f,_⟩:=h.Cb;have a:=h.n4;have a:=h.mem b;have a:=h.mem d;have a:=Rz m;have a:=f j o b;have i:=f k e d;have f:T.eO g o.eT=s*(fm g).dot (QL (eR c) j):=by rw[QD om om,a,fA]
 have p:T.eO g e.eT=s*(fm g).dot (QL (eR c) k):=by rw[QD om om,i,fA]
 have v:(fm g).dot _≠0:=λq=>u (by rw[f,q];simp);have q:=zlx _ j k (h.lt b) (h.lt d) t _ v;have d:((QL (xI (eR c) j<|fm g) k).smul s).smul (c.over:Int)=((fm e.eT).smul<|T.eO g o.eT).add ((fm o.eT).smul<|-(T.eO g e.eT)):=by (have b:((QL (xI (eR c) j<|fm g) k).smul s).smul (c.over:Int)=(QL (xI (eR c) j<|fm g) k).smul (Jb<|eR c):=by rw[iY,l];congr 1;grind);rw[b,q,a,i,iY,iY,f,p];congr 2<;>grind
 have b:=NY h.pos om _ _ d;grind
def CI (a_ g:L_)(done:List gQ):Option (gQ×Int)->Prop
 |none=>∀e∈done,T.eO g e.eT<=0
 |some (o,pv)=>o∈done/\pv=T.eO g o.eT/\0<pv/\∀e∈done,0<T.eO g e.eT->qz (λi=>pv*rk a_ (fm e.eT) i-T.eO g e.eT*rk a_ (fm o.eT) i)
theorem KD(h:Qy n a_ c){g:L_}(hg:g.length=n):∀(es done:List gQ) (b:Option (gQ×Int)),c.eN=done++es->CI a_ g done b->CI a_ g c.eN (Q5 a_ c.over g es b)
 |[],done,b,j,d=>by rw[ZR]at j;rw[j];exact d |e::es,done,b,j,d=>by (have k:c.eN=(done ++ [e])++es:=by rw[j];simp);rw[G5];by_cases i:T.eO g e.eT<=0;{rw[zQ i];refine KD h hg es _ b k ?_;cases b with |none=>intro x a;rcases zU.1 a with a|a;{exact d x a};rw[qg.1 a];exact i |some s=>obtain⟨o,pv⟩:=s;obtain⟨l,f,m,q⟩:=d;refine⟨QN _ l,f,m,λx a f=>?_⟩;rcases zU.1 a with a|a;{exact q x a f};rw[qg.1 a]at f;omega};rw[zO i];cases b with |none=>refine KD h hg es _ _ k ⟨sp,rfl,om,λx a f=>?_⟩;rcases zU.1 a with a|a;{have:=d x a;omega};rw[qg.1 a];exact .inl λi _=>Int.sub_self _ |some s=>obtain⟨o,pv⟩:=s;obtain⟨l,rfl,m,q⟩:=d;obtain⟨v,t,u⟩:=qM l;(have s:c.eN[v]? =E o:=by rw[j,zS t,zg t,u]);(have t:c.eN[done.length]? =E e:=by rw[j,zG<|zh _];simp);obtain⟨_,_,_,j,-⟩:=h.nZ s t om hg om;have u:=h.mem s;have s:=h.mem t;have s:=h.n4;(have u:(ZJ c.over e.eT (T.eO g o.eT) o.eT<|-(T.eO g e.eT)).length=n:=by rw[KR _ _ _ _ _ om];omega);(have s:∀i,i<5->(c.over:Int)*rk a_ (fm<|ZJ c.over e.eT (T.eO g o.eT) o.eT<|-(T.eO g e.eT)) i=T.eO g o.eT*rk a_ (fm e.eT) i-T.eO g e.eT*rk a_ (fm o.eT) i:=by intro i _;rw[<-JH,j,KH,JH,JH];grind);(have w:0<(c.over:Int):=by have:=h.pos;omega);have t:=sign_neg (a_:=a_) (x:=ZJ c.over e.eT (T.eO g o.eT) o.eT<|-(T.eO g e.eT)) (by rw[h.kX,u]) om;simp only;split;{rename_i j;have u:=t.1 j;(have v:JK (λi=>T.eO g e.eT*rk a_ (fm o.eT) i-T.eO g o.eT*rk a_ (fm e.eT) i):=by refine u.comb (g:=λ_=>0) (p:=1) (q:=(c.over:Int)) (r:=0) (.inl λ_ _=>rfl) om w om λi d=>?_;have:=s i d;grind);refine KD h hg es _ _ k ⟨sp,rfl,om,λx a f=>?_⟩;rcases zU.1 a with a|a;{have u:=q x a f;refine u.comb v.n (p:=T.eO g o.eT) (q:=T.eO g e.eT) (r:=T.eO g x.eT) m om om λi d=>?_;grind};rw[qg.1 a];exact .inl λi _=>Int.sub_self _};rename_i j;refine KD h hg es _ _ k ⟨QN _ l,rfl,m,λx a f=>?_⟩;rcases zU.1 a with a|a;{exact q x a f};rw[qg.1 a];rcases Po (λi=>- rk a_ (fm<|ZJ c.over e.eT (T.eO g o.eT) o.eT<|-(T.eO g e.eT)) i)with a|a;{exact absurd (t.2 a) j};refine a.comb (g:=λ_=>0) (p:=1) (q:=(c.over:Int)) (r:=0) (.inl λ_ _=>rfl) om om om λi d=>?_;have:=s i d;grind
end
section
open V4
theorem zqH {over:Nat}{r:L_×Int}{num:Nat}{o:gQ}{pv:Int}{es:List gQ}(g:(es.map gQ.num).Nodup){j:Nat}(f:es[j]? =E o):
 (Bk over r num o pv es)[j]? =E ⟨r,num,o.eT⟩/\∀i e,i≠j->es[i]? =E e->(Bk over r num o pv es)[i]? =E ⟨e.row,e.num,ZJ over e.eT pv o.eT (-(T.eO r.1 e.eT))⟩:=by
 unfold Bk;refine⟨g_,λi e h d=>?_⟩;have p:e.num≠o.num:=by intro l;have a:=jQ d;have b:=jQ f;have m:=LM.1 g;(have g:(es.map gQ.num)[i]'(by grind)=e.num:=by rw[GY];rw[(zo.1 d).2]);(have k:(es.map gQ.num)[j]'(by grind)=o.num:=by rw[GY];rw[(zo.1 f).2]);rcases NK h with h|h;{grind};grind
 grind
structure yD (n:Nat)(a_:L_)(c:fF)(r:L_×Int)(num:Nat)(c':fF)(j:Nat)(o:gQ):Prop where
 fL:Qy n a_ c'
 at_:c.eN[j]? =E o
 lQ:0<T.eO r.1 o.eT
 over:(c'.over:Int)=T.eO r.1 o.eT
 eW:(fm c'.eW).smul (c.over:Int)=((fm c.eW).smul (T.eO r.1 o.eT)).add ((fm o.eT).smul (Z2 c r))
 new:c'.eN[j]? =E ⟨r,num,o.eT⟩
 rT:∀i e,i≠j->c.eN[i]? =E e->c'.eN[i]? =E ⟨e.row,e.num,ZJ c.over e.eT (T.eO r.1 o.eT) o.eT (-(T.eO r.1 e.eT))⟩
 least:∀e∈c.eN,0<T.eO r.1 e.eT->qz (λi=>T.eO r.1 o.eT*rk a_ (fm e.eT) i-T.eO r.1 e.eT*rk a_ (fm o.eT) i)
theorem Od {n:Nat}{a_:L_}{c:fF}(h:Qy n a_ c){r:L_×Int}(I:r.1.length=n){num:Nat}(an:∀e∈c.eN,e.num≠num):
 (Qe a_ c r num=O->∀e∈c.eN,T.eO r.1 e.eT<=0)/\∀c',Qe a_ c r num=E c'->∃j o,yD n a_ c r num c' j o:=by have J:=KD h I c.eN [] O rfl λe z=>g_;unfold Qe;cases hL:Q5 a_ c.over r.1 c.eN O with |none=>rw[hL]at J;exact⟨λ_=>J,λc' l=>g_⟩ |some v=>obtain⟨o,pv⟩:=v;rw[hL]at J;obtain⟨Y,rfl,ae,a7⟩:=J;refine⟨(λl=>g_),λc' l=>?_⟩;simp only[qN]at l;obtain⟨j,a4,ak⟩:=qM Y;have u:c.eN[j]? =E o:=g_;obtain⟨m,q⟩:=zqH (over:=c.over) (r:=r) (num:=num) (pv:=T.eO r.1 o.eT) h.I6 u;obtain⟨s,hs,A,al,ad⟩:=h.Cb;have aw:=Rz hs;have ah:=h.n4;have F:=h.mem u;have W:=h.lt u;have N:=al j o u;(have B:T.eO r.1 o.eT=s*(fm r.1).dot (QL (eR c) j):=by rw[QD om om,N,fA]);(have ao:(fm _).dot _≠0:=λM=>by rw[M]at B;simp at B;omega);have a1:c'.eN=Bk c.over r num o (T.eO r.1 o.eT) c.eN:=g_;(have aj:c'.eN.length=n:=by rw[a1];simp[Bk,h.len]);rw[<-a1]at m q;(have C:eR c'=xI (eR c) j (fm r.1):=by funext i;by_cases a:i=j;{subst a;rw[Mo,Fb m]};rw[Oc _ _ a];cases d:c.eN[i]? with |some e=>rw[Fb<|q i e a d,Fb d] |none=>have D:=Ju.1 d;have:=h.len;rw[Li om,Li D]);(have hM:eM c'=λi=>if i=j then r.2 else eM c i:=by funext i;by_cases a:i=j;{subst a;rw[zQ rfl,Ho m]};rw[zO a];cases d:c.eN[i]? with |some e=>rw[Ho<|q i e a d,Ho d] |none=>have D:=Ju.1 d;have:=h.len;rw[LA om,LA D]);have a9:(c'.over:Int)=T.eO r.1 o.eT:=g_;(have ap:(ZJ c.over c.eW (T.eO r.1 o.eT) o.eT<|Z2 c r).length=n:=by rw[KR _ _ _ _ _<|by rw[h.fN,F.2]];exact h.fN);have R:c'.eW=ZJ c.over c.eW (T.eO r.1 o.eT) o.eT (Z2 c r):=g_;(have au:Z2 c r=s*(r.2*Jb (eR c)-(fm r.1).dot (Bo (QL<|eR c)<|eM c)):=by unfold Z2;rw[QD (by rw[h.fN];omega) (by rw[h.fN];omega),ad,fA,A];grind);have af:=zjT _ (eM c) j W _ r.2 ao;rw[<-C,<-hM]at af;(have hz:((Bo (QL<|eR c')<|eM c').smul s).smul (c.over:Int)=((fm c.eW).smul<|T.eO r.1 o.eT).add ((fm o.eT).smul<|Z2 c r):=by (have e3:((Bo (QL<|eR c')<|eM c').smul s).smul (c.over:Int)=(Bo (QL<|eR c')<|eM c').smul (Jb<|eR c):=by rw[iY,A];congr 1;grind);rw[e3,af,ad,N,iY,iY,B,au];congr 2<;>grind);have aa:=NY h.pos (by rw[h.fN,F.2]) _ _ hz;(have a6:∀i e,i≠j->c.eN[i]? =E e->fm (ZJ c.over e.eT (T.eO r.1 o.eT) o.eT<|-(T.eO r.1 e.eT))=(QL (eR c') i).smul s/\(fm<|ZJ c.over e.eT (T.eO r.1 o.eT) o.eT<|-(T.eO r.1 e.eT)).smul (c.over:Int)=((fm e.eT).smul<|T.eO r.1 o.eT).add ((fm o.eT).smul<|-(T.eO r.1 e.eT)):=by intro i e a d;obtain⟨s',_,K,L,c3,_⟩:=h.nZ u d a I om;(have av:s'=s:=by (have hd:Jb (eR c)≠0:=λM=>by rw[M]at A;simp at A;have:=h.pos;omega);rw[A]at c3;exact(Int.eq_of_mul_eq_mul_right hd c3).symm);subst av;exact⟨by grind,L⟩);(have a2:(c'.over:Int)=s*Jb (eR c'):=by rw[a9,B,C,Iz _ _ W]);refine⟨j,o,⟨⟨ah,h.kX,aj,g_,?_,?_,⟨s,hs,a2,?_,g_⟩,?_,?_⟩,u,ae,a9,g_,m,q,a7⟩⟩;{intro e z;obtain⟨i,U,S⟩:=qM z;have b:c'.eN[i]? =E e:=g_;by_cases a:i=j;{grind};(have t:i<c.eN.length:=by rw[h.len];omega);have f:=zg t;rw[q i _ a f]at b;cases b;have hm:=h.mem f;exact⟨hm.1,by simp only;rw[KR _ _ _ _ _ om];omega⟩};{omega};{intro i e b;by_cases a:i=j;{subst a;rw[m]at b;cases b;rw[C,Tc _ _ W];omega};(have t:i<c.eN.length:=by have:=jQ b;rw[h.len];omega);grind};{intro e z;obtain⟨i,U,S⟩:=qM z;have b:c'.eN[i]? =E e:=g_;by_cases a:i=j;{subst a;rw[m]at b;cases b;exact h.lex o Y};(have t:i<c.eN.length:=by rw[h.len];omega);have f:=zg t;rw[q i _ a f]at b;cases b;obtain⟨K,L⟩:=a6 i _ a f;generalize hq:ZJ c.over c.eN[i].eT (T.eO r.1 o.eT) o.eT (-(T.eO r.1 c.eN[i].eT))=v at *;(have a5:∀k,k<5->(c.over:Int)*rk a_ (fm v) k=T.eO r.1 o.eT*rk a_ (fm c.eN[i].eT) k-T.eO r.1 c.eN[i].eT*rk a_ (fm o.eT) k:=by intro k _;rw[<-JH,L,KH,JH,JH];grind);(have ab:0<(c.over:Int):=by have:=h.pos;omega);show JK (rk _<|fm v);by_cases hg:T.eO r.1 c.eN[i].eT<=0;{refine(h.lex _<|zJ t).comb (h.lex o Y).n (r:=- T.eO r.1 c.eN[i].eT) ab ae om λk X=>?_;grind};have hN:=a7 _ (zJ t) om;have w:=hN.comb (q:=1) (r:=0) (.inl λ_ _=>rfl) ab om om (λk X=>by rw[a5 k X];grind);rcases w with w|w;{exfalso;have ar:=XJ w;have a3:=h.lt f;have:=Bb (eR c') i i a3 a3;rw[zQ rfl]at this;(have h3:s*Jb (eR c')=(eR c' i).dot (fm v):=by rw[K,fA,this]);rw[ar,mM,<-a2]at h3;omega};exact w};(have e1:c'.eN.map gQ.num=(c.eN.map gQ.num).set j num:=by refine I1 λi=>?_;rw[zR,Mf];by_cases a:i=j;{grind};rw[zO λe=>a e.symm,zR];cases d:c.eN[i]? with |some e=>grind |none=>have D:=Ju.1 d;have:=h.len;grind);rw[e1];refine LM.2 λZ a0 P Q ai=>?_;have aq:=LM.1 h.I6;rw[List.getElem_set,List.getElem_set];(have a8:∀i (d:i<(c.eN.map gQ.num).length),(c.eN.map gQ.num)[i]≠num:=λi d=>by rw[GY];exact an _<|zJ _);simp only[qX]at P Q;split<;>split;{omega};{exact(a8 a0 Q).symm};{exact a8 Z P};exact aq Z a0 P Q ai
end
section
open V4
variable {a_:L_}{i n:Nat}
def Be (a_:L_)(bs:List ((L_×Int)×Nat)):fF:=
 let es:=bs.filterMap λb=>if 0<Qx (qT a_ b.1.1)then E (⟨b.1,b.2,b.1.1⟩)else O
 ⟨1,es.foldl (λpt e=>ZJ 1 pt 1 e.eT e.row.2) (kaf es.length 0),es⟩
def Ez (rg:Nat->Int×Int)(k:Nat):Nat->List ((L_×Int)×Nat):=λn=>
 (kal n).flatMap λi=> [((T.fh n i,(rg i).2),k+2*i+1),(((T.fh n i).map λz=>-z,-(rg i).1),k+2*i+2)]
def z7 (n:Nat)(a_:L_)(rg:Nat->Int×Int)(k i:Nat):gQ:=
 if a_.getD i 0<=0 then⟨((T.fh n i).map λz=>-z,-(rg i).1),k+2*i+2,(T.fh n i).map λz=>-z⟩else⟨(T.fh n i,(rg i).2),k+2*i+1,T.fh n i⟩
theorem QS(n i):(T.fh n i).length=n:=by simp[T.fh]
theorem EY(b:n<=4)(a:i<n):fm (T.fh n i)=QV i:=by
 have a:∀k,(T.fh n i).getD k 0=if i=k then 1 else 0:=by intro k;unfold T.fh;rw[zk,zR];by_cases b:k<n;{grind};grind
 exact ext' (a 0) (a 1) (a 2) (a 3)
theorem Ka(l):fm (l.map λz=>-z)=(fm l).smul (-1):=by have a:∀k,(l.map λz=>-z).getD k 0=-1*l.getD k 0:=g_;exact ext' (a 0) (a 1) (a 2) (a 3)
theorem zlR(a_:L_)(i):(if a_.getD i 0<=0 then(-1)else 1)*(if a_.getD i 0<=0 then(-1)else 1)=1:=by split<;>rfl
theorem IV(i j)(a:i<4)(b:j<4):(QV i).dot (QV j)=if i=j then 1 else 0:=by rcases nt a with rfl|rfl|rfl|rfl<;>rcases nt b with rfl|rfl|rfl|rfl<;>rfl
theorem Tf(x)(i):x.dot (QV i)=(QV i).dot x:=CH _ _
theorem Vt(b:i<4):JK (rk a_ ((QV i).smul (if a_.getD i 0<=0 then(-1)else 1))):=by
 have e:∀t,rk a_ ((QV i).smul t) 0=t*a_.getD i 0:=by intro t;show(fm a_).dot _=_;rw[fA,Tf];obtain⟨a,d,f,g⟩:=DE<|fm a_;rcases nt b with rfl|rfl|rfl|rfl;{rw[a];rfl};{rw[d];rfl};{rw[f];rfl};rw[g];rfl
 have f:∀t k,k<4->rk a_ ((QV i).smul t) (k+1)=if k=i then t*(if a_.getD i 0<=0 then(-1:Int)else 1)else 0:=by intro t k a;show(if a_.getD k 0<=0 then(QV k).smul (-1)else QV k).dot _=_;rw[fA];by_cases d:k=i;{subst d;rw[zQ rfl];split;{rw[iF,IV _ _ a a,zQ rfl];rfl};rw[IV _ _ a a,zQ rfl]};rw[zO d];split;{rw[iF,IV _ _ a b,zO d];simp};rw[IV _ _ a b,zO d];simp
 by_cases d:a_.getD i 0=0;{refine⟨i+1,om,λk a=>?_,?_⟩;{cases k with |zero=>grind |succ k=>grind};grind};refine⟨0,om,λk a=>absurd a<|Nat.not_lt_zero _,?_⟩;grind
theorem Kj(a_)(rg)(k)(b:n<=4)(a:i<n):
 fm (z7 n a_ rg k i).row.1=(QV i).smul (if a_.getD i 0<=0 then(-1)else 1)/\(z7 n a_ rg k i).eT=(z7 n a_ rg k i).row.1/\(z7 n a_ rg k i).row.1.length=n:=by unfold z7;split;{exact⟨by rw[Ka,EY b a],rfl,by simp[QS]⟩};refine⟨?_,rfl,QS _ _⟩;show fm (T.fh n i)=_;rw[EY b a];exact ext' (QT _).symm (QT _).symm (QT _).symm (QT _).symm
theorem M_(f:a_.length=n)(e:n<=4)(rg)(k):
 (Ez rg k n).filterMap (λb=>if 0<Qx (qT a_ b.1.1)then E (⟨b.1,b.2,b.1.1⟩)else O)=(kal n).map (z7 n a_ rg k):=by
 unfold Ez;rw[List.filterMap_flatMap,List.map_eq_flatMap];have p:∀i∈kal n,List.filterMap (λb:(L_×Int)×Nat=>if 0<Qx (qT a_ b.1.1)then E (⟨b.1,b.2,b.1.1⟩:gQ)else O) [((T.fh n i,(rg i).2),k+2*i+1),(((T.fh n i).map λz=>-z,-(rg i).1),k+2*i+2)]= [z7 n a_ rg k i]:=by intro i d;have d:=Z8.1 d;have a:=Vt (a_:=a_) (i:=i) om;have l:=Nz (a_:=a_) (x:=T.fh n i) (by rw[QS,f]) (by rw[QS];omega);have m:=Nz (a_:=a_) (x:=(T.fh n i).map λz=>-z) (by simp[QS,f]) (by simp[QS];omega);rw[EY e d]at l;rw[Ka,EY e d]at m;(have q:∀{x:V4},JK (rk a_ x)->¬JK (rk a_<|x.smul<|-1):=by intro x g h;refine g.not_neg<|h.n.congr λk g=>?_;rw[JH];omega);have one:∀x:V4,x.smul 1=x:=λx=>ext' (QT _) (QT _) (QT _)<|QT _;unfold z7;by_cases o:a_.getD i 0<=0;{grind};grind
 clear f e;generalize kal n=l at *;induction l with |nil=>rfl |cons a l e=>grind
theorem Rs:∀(es:List gQ) (pt:L_) (n:Nat),pt.length=n->(∀e∈es,e.eT.length=n)->(es.foldl (λpt e=>ZJ 1 pt 1 e.eT e.row.2) pt).length=n/\∀g:V4,g.dot (fm (es.foldl (λpt e=>ZJ 1 pt 1 e.eT e.row.2) pt))=g.dot (fm pt)+(es.map λe=>e.row.2*g.dot (fm e.eT)).sum
 |[],pt,n,a,_=>⟨a,λg=>sp⟩ |e::es,pt,n,a,b=>by have d:=b e qA;(have f:(ZJ 1 pt 1 e.eT e.row.2).length=n:=by rw[KR _ _ _ _ _ om];exact a);have⟨a,d⟩:=Rs es (ZJ 1 pt 1 e.eT e.row.2) n f λx f=>b x<|qq _ f;refine⟨a,λg=>?_⟩;have a:=NY (over:=1) om om 1 e.row.2 (z:=((fm pt).smul 1).add<|(fm e.eT).smul e.row.2)<|ext' (QT _) (QT _) (QT _)<|QT _;rw[Kq,d g,a,lO,fA,fA,Zk,QI];omega
theorem Wf(q:a_.length=n)(l:n<=4)(rg:Nat->Int×Int)(k:Nat):
 Qy n a_ (Be a_ (Ez rg k n))/\(Be a_ (Ez rg k n)).eN=(kal n).map (z7 n a_ rg k):=by
 have d:(Be _ _).eN=(kal n).map _:=M_ q l rg k;have y:(Be a_<|Ez rg k n).eW=((kal n).map<|z7 n a_ rg k).foldl (λa e=>ZJ 1 a 1 e.eT e.row.2) (kaf n 0):=by show List.foldl _ _ _=_;rw[M_ q l rg k];simp
 have A:(Be a_<|Ez rg k n).over=1:=rfl;refine⟨?_,d⟩;generalize Be a_ (Ez rg k n)=c at *;have g:∀i e,c.eN[i]? =E e↔i<n/\e=z7 n a_ rg k i:=g_;have z:c.eN.length=n:=g_;have s:∀e∈c.eN,e.row.1.length=n/\e.eT.length=n:=by intro e b;rw[d]at b;obtain⟨i,a,rfl⟩:=qP.1 b;have f:=Kj a_ rg k l<|Z8.1 a;exact⟨f.2.2,by grind⟩
 obtain⟨sg,Ib⟩:∃sg,sg=λi=>if i<n then(if a_.getD i 0<=0 then(-1)else 1)else 1:=⟨_,rfl⟩;have o:∀i,sg i*sg i=1:=g_;have one:∀x:V4,x.smul 1=x:=λx=>ext' (QT _) (QT _) (QT _)<|QT _;have p:∀i,eR c i=(QV i).smul (sg i):=by intro i;by_cases a:i<n;{rw[Fb<|(g i _).2 ⟨a,rfl⟩,(Kj _ _ k l a).1,Ib];grind};rw[Li om,Ib];grind
 have f:=funext p;have h:Jb (eR c)=sg 0*sg 1*sg 2*sg 3:=by rw[f];simp only[Jb,Cb,DZ,dot,smul,QV];simp;grind
 have f:Jb (eR c)*Jb (eR c)=1:=g_;have t:Jb (eR c)=1\/Jb (eR c)=-1:=g_;have u:Jb (eR c)≠0:=om;have w:∀i e,c.eN[i]? =E e->fm e.eT=eR c i:=by intro i e b;have m:=(g i e).1 b;rw[Fb b,m.2,(Kj a_ rg k l m.1).2.1]
 have v:∀i j,i<4->j<4->(eR c i).dot (eR c j)=if i=j then 1 else 0:=by intro i j a g;rw[p,p,iF,fA,IV i j a g];split;{grind};simp
 refine⟨l,q,z,?_,s,om,⟨_,t,om,λi e b=>?_,?_⟩,λe b=>?_,?_⟩;{rw[y];exact(Rs _ _ n sp λe b=>(s e g_).2).1};{have o:i<4:=g_;rw[w i e b];refine LU u λj g=>?_;rw[fA,Bb _ _ _ g o,v j i g o];grind};{refine LU u λj g=>?_;rw[fA,MO _ _ _ g,y,(Rs _ _ n sp λe b=>(s e g_).2).2,<-d,DG _ _ om];(have o:fm (kaf n 0)=V4.zero:=by (have f:∀k,(kaf n (0:Int)).getD k 0=0:=λk=>by grind);exact ext' (f 0) (f 1) (f 2)<|f 3);(have f:∀i,i<4->(c.eN[i]?.map λe=>e.row.2*(eR c j).dot (fm e.eT)).getD 0=eM c i*(if j=i then 1 else 0):=by intro i a;cases b:c.eN[i]? with |some e=>rw[qY,qB,w i e b,v j i g a,Ho b] |none=>rw[LA<|Ju.1 b];simp);rw[o,mM,f 0 om,f 1 om,f 2 om,f 3 om];grind};{rw[d]at b;obtain⟨i,a,rfl⟩:=qP.1 b;have a:=Z8.1 a;rw[(Kj _ _ k l a).2.1,(Kj _ _ k l a).1];exact Vt om};rw[d,ym];refine LM.2 λa b m a a=>?_;simp only[GY,Function.comp,List.getElem_range];unfold z7;grind
end
section
open V4
variable {a:Type}
theorem Eu(f g:a->Int)(l:List a):(l.map λe=>f e+g e).sum=(l.map f).sum+(l.map g).sum:=by induction l with |nil=>rfl |cons a l a=>grind
theorem BD(k:Int)(f:a->Int)(l:List a):(l.map λe=>k*f e).sum=k*(l.map f).sum:=by induction l with |nil=>simp |cons a l a=>grind
theorem Bq{f g:a->Int}{l:List a}(h:∀e∈l,f e=g e):(l.map f).sum=(l.map g).sum:=by rw[NB h]
theorem Ua{f:a->Int}{l:List a}(h:∀e∈l,0<=f e):0<=(l.map f).sum:=by induction l with |nil=>simp |cons a l b=>grind
theorem MW{f:a->Int}{l:List a}(h:∀e∈l,f e=0):(l.map f).sum=0:=by induction l with |nil=>rfl |cons a l b=>grind
section
variable {n:Nat} {a_:L_} {c:fF}
theorem Qy.nN (h:Qy n a_ c)(g:V4):g.dot (fm c.eW)=(c.eN.map λe=>e.row.2*g.dot (fm e.eT)).sum:=by
 have b:=h.complete (x:=kaf n 0) sp g;have d:fm (kaf n 0)=V4.zero:=by (have a:∀k,(kaf n (0:Int)).getD k 0=0:=λk=>by grind);exact ext' (a 0) (a 1) (a 2) (a 3)
 rw[d,mM,Int.mul_zero]at b;have a:(c.eN.map λe=>(e.row.2-T.eO e.row.1 (kaf n 0))*g.dot (fm e.eT)).sum=(c.eN.map λe=>e.row.2*g.dot (fm e.eT)).sum:=by refine Bq λe f=>?_;have:=(h.iw e f).1;have f:=h.n4;rw[QD (by grind) so,d,mM,Int.sub_zero]
 omega
theorem Qy.all (h:Qy n a_ c)(g:V4){x}(a:x.length=n):(c.over)*g.dot (fm x)=(c.eN.map λe=>T.eO e.row.1 x*g.dot (fm e.eT)).sum:=by
 rw[h.complete a g,h.nN g];have a:(c.eN.map λe=>e.row.2*g.dot (fm e.eT)).sum=(c.eN.map λe=>(e.row.2-T.eO e.row.1 x)*g.dot (fm e.eT)).sum+(c.eN.map λe=>T.eO e.row.1 x*g.dot (fm e.eT)).sum:=by rw[<-Eu];refine Bq λe _=>?_;grind
 omega
end
def JQ (r o:L_×Int)(t:Int):L_×Int:=(kaq (λf w=>f+w*t) r.1 o.1,r.2+o.2*t)
def Qu (r:L_×Int)(d:Nat):L_×Int:=(r.1.map λz=>z/(d),r.2/(d))
def Ba (l:L_):Nat:=l.foldl (λd z=>R8 d z.natAbs) 0
def Zc (a_:L_)(over:Nat)(r:Nat)(e:gQ):Nat:=((qT a_ e.eT).getD r 0%(over)).toNat
def Qf (n:Nat)(a_:L_)(c:fF)(r:Nat):L_×Int:=c.eN.foldl (λacc e=>JQ acc e.row (Zc a_ c.over r e)) (kaf n 0,0)
def Zm (n:Nat)(a_:L_)(c:fF)(r:Nat):Nat:=Ba (Qu (Qf n a_ c r) c.over).1
def Zd (n:Nat)(a_:L_)(c:fF)(r:Nat):L_×Int:=Qu (Qu (Qf n a_ c r) c.over) (Zm n a_ c r)
theorem SU (t:gQ->Int):∀(es:List gQ) (a:L_×Int) (n:Nat),a.1.length=n->(∀e∈es,e.row.1.length=n)->(es.foldl (λa e=>JQ a e.row (t e)) a).1.length=n/\
 (∀i,(es.foldl (λa e=>JQ a e.row (t e)) a).1.getD i 0=a.1.getD i 0+(es.map λe=>t e*e.row.1.getD i 0).sum)/\(es.foldl (λa e=>JQ a e.row (t e)) a).2=a.2+(es.map λe=>t e*e.row.2).sum
 |[],a,n,b,_=>⟨b,λi=>sp,sp⟩ |e::es,a,n,b,d=>by have f:=d e qA;(have k:(JQ a e.row<|t e).1.length=n:=by simp[JQ,b,f]);obtain⟨g,h,j⟩:=SU t es (JQ a e.row<|t e) n k λx k=>d x<|qq _ k;refine⟨g,λi=>?_,?_⟩;{rw[Kq,h i];have:(JQ a e.row<|t e).1.getD i 0=a.1.getD i 0+e.row.1.getD i 0*t e:=JE (f:=λd w=>d+w*t e) sp (by rw[b,f]) i;rw[this,Zk,QI,Qp<|t e];omega};rw[Kq,j,Zk,QI,Qp<|t e];show a.2+e.row.2*t e+_=_;omega
theorem On:∀(l:L_) (d:Nat),(l.foldl (λd z=>R8 d z.natAbs) d) ∣ d/\∀z∈l,(l.foldl (λd z=>R8 d z.natAbs) d) ∣ z.natAbs
 |[],d=>⟨Nat.dvd_refl _,λz h=>by simp at h⟩ |a::l,d=>by have⟨h1,h2⟩:=On l (R8 d a.natAbs);rw[Kq];refine⟨Nat.dvd_trans h1<|vq _ _,λz b=>?_⟩;rcases zI.1 b with rfl|b;{exact Nat.dvd_trans h1<|wv _ _};exact h2 z b
theorem Sd (l){z}(h:z∈l):(Ba l:Int) ∣ z:=BV.2 ((On l 0).2 z h)
theorem Y1 {l}{z}(h:z∈l)(b:z≠0):0<Ba l:=by rcases Qd (Ba l)with a|a;{have:=Sd l h;simp_all};omega
structure wg (n:Nat)(a_:L_)(c:fF)(r:Nat):Prop where
 shared:0<Zm n a_ c r
 len:(Zd n a_ c r).1.length=n
 row:∀i,(((c.over*Zm n a_ c r:Nat):Int))*(Zd n a_ c r).1.getD i 0=(c.eN.map λe=>(Zc a_ c.over r e:Int)*e.row.1.getD i 0).sum
 most:(Zd n a_ c r).2=(c.eN.map λe=>(Zc a_ c.over r e:Int)*e.row.2).sum/(((c.over*Zm n a_ c r:Nat):Int))
 rest:(c.eN.map λe=>(Zc a_ c.over r e:Int)*e.row.2).sum%(c.over:Int)=rk a_ (fm c.eW) r%(c.over:Int)
 part:(rk a_ (fm c.eW) r)%(c.over:Int)≠0
theorem Ig {n}{a_}{c}(h:Qy n a_ c){r}(d:r<5){e}(b:e∈c.eN):((Zc a_ c.over r e))=rk a_ (fm e.eT) r%(c.over):=by unfold Zc;have a:=h.iw e b;have b:=h.n4;have b:=h.pos;rw[Df (by rw[h.kX,a.2]) om r d];have:=J3 (rk a_ (fm e.eT) r) (show(c.over:Int)≠0 by omega);omega
theorem UZ {a:Type}{f g:a->Int}{m:Int}{l:List a}(h:∀e∈l,f e%m=g e%m):(l.map f).sum%m=(l.map g).sum%m:=by induction l with |nil=>rfl |cons a l b=>simp only[Zk,QI];rw[Int.add_emod,h a qA,b λe a=>h e<|qq _ a,<-Int.add_emod]
theorem FI {n:Nat}{a_:L_}{c:fF}(h:Qy n a_ c){r:Nat}(d:r<5)(s:rk a_ (fm c.eW) r%(c.over:Int)≠0):wg n a_ c r:=by
 have m:=h.n4;have a:=h.pos;have C:(c.over:Int)≠0:=om;obtain⟨b,g,k⟩:=SU (λe=>(Zc a_ c.over r e)) _ (kaf n 0,0) n sp λe a=>(h.iw e a).1;have f:(Qf n _ c r).1.length=n:=b;have b:∀i,(kaf n (0:Int)).getD i 0=0:=λj=>g_;have j:∀i,(Qf n _ c r).1.getD i 0=(c.eN.map λe=>(Zc _ _ r e)*e.row.1.getD i 0).sum:=λi=>by have:=g i;rw[show(kaf n (0:Int),(0)).1=kaf n 0 from rfl,b,Int.zero_add]at this;exact this
 have t:(Qf n a_ c r).2=(c.eN.map λe=>(Zc a_ c.over r e:Int)*e.row.2).sum:=by have:=k;rw[show(kaf n (0:Int),(0:Int)).2=0 from rfl,Int.zero_add]at this;exact this
 have l:∀i,(c.over:Int) ∣ (Qf n a_ c r).1.getD i 0:=by intro i;by_cases p:i<n;{have k:=h.all (z6 a_ r) (x:=T.fh n i)<|QS _ _;(have b:∀e∈c.eN,T.eO e.row.1 (T.fh n i)=e.row.1.getD i 0:=by intro e a;have:=(h.iw e a).1;rw[QD (by rw[this,QS]) (by rw[QS];omega),EY m p,Tf];obtain⟨g,o,q,u⟩:=DE<|fm e.row.1;rcases nt (show i<4 by omega)with rfl|rfl|rfl|rfl;{exact g};{exact o};{exact q};exact u);refine P5 ?_;rw[j i];(have g:(c.eN.map λe=>(Zc a_ c.over r e:Int)*e.row.1.getD i 0).sum%(c.over:Int)=(c.eN.map λe=>T.eO e.row.1 (T.fh n i)*(z6 a_ r).dot (fm e.eT)).sum%(c.over:Int):=by refine UZ λe a=>?_;rw[Ig h d a,b e a,Qp,Int.mul_emod,Int.emod_emod,<-Int.mul_emod];rfl);rw[g,<-k];simp};simp_all
 have k:(c.eN.map λe=>(Zc a_ c.over r e:Int)*e.row.2).sum%(c.over:Int)=rk a_ (fm c.eW) r%(c.over:Int):=by have o:=h.nN<|z6 a_ r;have:rk a_ (fm c.eW) r=(c.eN.map λe=>e.row.2*(z6 a_ r).dot (fm e.eT)).sum:=o;rw[this];refine UZ λe a=>?_;rw[Ig h d a,Qp,Int.mul_emod,Int.emod_emod,<-Int.mul_emod];rfl
 have q:∀i,(Qu (Qf n a_ c r) c.over).1.getD i 0*(c.over:Int)=(Qf n a_ c r).1.getD i 0:=by intro i;(have:(Qu (Qf n a_ c r) c.over).1.getD i 0=(Qf n a_ c r).1.getD i 0/(c.over:Int):=by show((Qf n a_ c r).1.map λz=>z/(c.over:Int)).getD i 0=_;rw[zk,zR,zk];cases (Qf n a_ c r).1[i]?<;>simp);rw[this];exact Int.ediv_mul_cancel (l i)
 have A:(Qu (Qf n a_ c r) c.over).1.length=n:=by simp[Qu,f]
 have B:∃z∈(Qu (Qf n a_ c r) c.over).1,z≠0:=by refine Ze λf=>?_;(have u:∀i,(Qf n a_ c r).1.getD i 0=0:=by intro i;rw[<-q i];rw[zk];cases hh:(Qu (Qf n a_ c r) c.over).1[i]? with |none=>simp |some v=>have d:=Ze λd=>f ⟨v,zx hh,d⟩;grind);(have D:∀e∈c.eN,(Zc a_ c.over r e:Int)=0:=by intro f o;obtain⟨l,y,w⟩:=qM o;(have d:c.eN[l]? =E f:=by rw[zg y,w]);have w:=h.iw f o;(have b:(c.eN.map λe=>(Zc a_ c.over r e:Int)*T.eO e.row.1 f.eT).sum=0:=by (have g:∀e∈c.eN,(Zc a_ c.over r e:Int)*T.eO e.row.1 f.eT=(((Zc a_ c.over r e:Int)*e.row.1.getD 0 0*f.eT.getD 0 0+(Zc a_ c.over r e:Int)*e.row.1.getD 1 0*f.eT.getD 1 0)+(Zc a_ c.over r e:Int)*e.row.1.getD 2 0*f.eT.getD 2 0)+(Zc a_ c.over r e:Int)*e.row.1.getD 3 0*f.eT.getD 3 0:=by intro e a;have:=(h.iw e a).1;rw[QD (by omega) om];simp only[dot,fm];grind);rw[Bq g,Eu,Eu,Eu];(have g:∀i,(c.eN.map λe=>(Zc a_ c.over r e:Int)*e.row.1.getD i 0*f.eT.getD i 0).sum=0:=by intro i;(have:(c.eN.map λe=>(Zc a_ c.over r e:Int)*e.row.1.getD i 0*f.eT.getD i 0).sum=f.eT.getD i 0*(c.eN.map λe=>(Zc a_ c.over r e:Int)*e.row.1.getD i 0).sum:=by rw[<-BD];exact Bq λe _=>Qp _ _);rw[this,<-j i,u i];simp);rw[g,g,g,g];rfl);(have o:(c.eN.map λe=>(Zc a_ c.over r e:Int)*T.eO e.row.1 f.eT).sum=(Zc a_ c.over r f:Int)*(c.over:Int):=by rw[DG _ _ (by rw[h.len];omega)];(have g:∀i,i<4->((c.eN[i]?.map λe=>(Zc a_ c.over r e:Int)*T.eO e.row.1 f.eT).getD 0)=if i=l then(Zc a_ c.over r f:Int)*(c.over:Int)else 0:=by intro i p;by_cases f:i=l;{subst f;rw[d,zQ rfl,qY,qB,h.mZ d d,zQ rfl]};rw[zO f];cases a:c.eN[i]? with |none=>rfl |some e=>rw[qY,qB,h.mZ a d,zO f];simp);rw[g 0 om,g 1 om,g 2 om,g 3 om];rcases nt (h.lt d)with rfl|rfl|rfl|rfl<;>simp);rw[o]at b;rcases Int.mul_eq_zero.1 b with e|e;{omega};omega);(have:(c.eN.map λe=>(Zc a_ c.over r e:Int)*e.row.2).sum=0:=MW λe a=>by grind);rw[this]at k;exact s (by simp_all)
 obtain⟨_,d,e⟩:=B;have a:0<Zm n _ c r:=Y1 d e;refine⟨a,?_,λi=>?_,?_,k,s⟩;{show((Qu _ _).1.map _).length=n;grind};{(have b:(Zd n a_ c r).1.getD i 0*(Zm n a_ c r:Int)=(Qu (Qf n a_ c r) c.over).1.getD i 0:=by (have:(Zd n a_ c r).1.getD i 0=(Qu (Qf n a_ c r) c.over).1.getD i 0/(Zm n a_ c r:Int):=by show((Qu (Qf n a_ c r) c.over).1.map λz=>z/(Zm n a_ c r:Int)).getD i 0=_;rw[zk,zR,zk];cases (Qu (Qf n a_ c r) c.over).1[i]?<;>simp);rw[this];refine Int.ediv_mul_cancel ?_;rw[zk];cases hh:(Qu (Qf n a_ c r) c.over).1[i]? with |none=>simp |some v=>exact Sd _<|zx hh);grind};show(Qu _ _).2/(Zm n _ c r)=_;rw[<-t,J0];exact Int.ediv_ediv_of_nonneg om
end
section
open V4
theorem Pk {g x}(h:g.length=x.length)(a:x.length<=4):T.eO g x=g.getD 0 0*x.getD 0 0+g.getD 1 0*x.getD 1 0+g.getD 2 0*x.getD 2 0+g.getD 3 0*x.getD 3 0:=QD h a
section
variable {n:Nat} {a_:L_} {c:fF} {r:Nat}
theorem Py (h:Qy n a_ c)(k:wg n a_ c r){x}(a:x.length=n):(((c.over*Zm n a_ c r:Nat)))*T.eO (Zd n a_ c r).1 x=(c.eN.map λe=>(Zc a_ c.over r e)*T.eO e.row.1 x).sum:=by
 have b:=h.n4;rw[Pk (by rw[k.len,a]) om];have b:∀e∈c.eN,(Zc a_ c.over r e:Int)*T.eO e.row.1 x=((x.getD 0 0*((Zc a_ c.over r e:Int)*e.row.1.getD 0 0)+x.getD 1 0*((Zc a_ c.over r e:Int)*e.row.1.getD 1 0))+x.getD 2 0*((Zc a_ c.over r e:Int)*e.row.1.getD 2 0))+x.getD 3 0*((Zc a_ c.over r e:Int)*e.row.1.getD 3 0):=by intro e d;have:=(h.iw e d).1;rw[Pk (by omega) om];grind
 rw[Bq b,Eu,Eu,Eu,BD,BD,BD,BD,<-k.row 0,<-k.row 1,<-k.row 2,<-k.row 3];grind
theorem Fo (h:Qy n a_ c)(k:wg n a_ c r):0<(((c.over*Zm n a_ c r:Nat):Int)):=by have:=QE h.pos k.shared;omega
theorem Tw (h:Qy n a_ c)(k:wg n a_ c r){j:Nat}{f}(a:c.eN[j]? =E f):(Zm n a_ c r)*T.eO (Zd n a_ c r).1 f.eT=(Zc a_ c.over r f):=by
 have b:=h.n4;have d:=h.pos;have g:=Py h k (h.mem a).2;have l:(c.eN.map λe=>(Zc a_ c.over r e:Int)*T.eO e.row.1 f.eT).sum=(Zc a_ c.over r f:Int)*(c.over:Int):=by rw[DG _ _ (by rw[h.len];omega)];(have b:∀i,i<4->((c.eN[i]?.map λe=>(Zc a_ c.over r e:Int)*T.eO e.row.1 f.eT).getD 0)=if i=j then(Zc a_ c.over r f:Int)*(c.over:Int)else 0:=by intro i d;by_cases d:i=j;{subst d;rw[a,zQ rfl,qY,qB,h.mZ a a,zQ rfl]};rw[zO d];cases he:c.eN[i]? with |none=>rfl |some e=>rw[qY,qB,h.mZ he a,zO d];simp);rw[b 0 om,b 1 om,b 2 om,b 3 om];rcases nt (h.lt a)with rfl|rfl|rfl|rfl<;>simp
 rw[l,J0]at g;refine QU (show(c.over:Int)≠0 by omega) ?_;grind
theorem zqO (h:Qy n a_ c)(k:wg n a_ c r):(Zm n a_ c r)*Z2 c (Zd n a_ c r)=(((c.over*Zm n a_ c r:Nat)))*(Zd n a_ c r).2-(c.eN.map λe=>(Zc a_ c.over r e)*e.row.2).sum:=by
 have a:=h.pos;have a:=Py h k h.fN;have b:(c.eN.map λe=>(Zc a_ c.over r e:Int)*T.eO e.row.1 c.eW).sum=(c.over:Int)*(c.eN.map λe=>(Zc a_ c.over r e:Int)*e.row.2).sum:=by rw[<-BD];refine Bq λe d=>?_;obtain⟨j,g,f⟩:=qM d;rw[h.nR (i:=j)<|by grind];grind
 rw[b]at a;refine QU (show(c.over:Int)≠0 by omega) ?_;unfold Z2;grind
theorem VS (h:Qy n a_ c)(k:wg n a_ c r):(Zm n a_ c r)*Z2 c (Zd n a_ c r)<=-(rk a_ (fm c.eW) r%(c.over)):=by
 have a:=h.pos;have a:=Fo h k;rw[zqO h k,k.most];generalize a:(c.eN.map λe=>(Zc a_ c.over r e:Int)*e.row.2).sum=S;have b:=k.rest;rw[a]at b;have a:=jA S<|((c.over*Zm n a_ c r:Nat));have a:(S%(((c.over*Zm n a_ c r:Nat))))%c.over=S%c.over:=Int.emod_emod_of_dvd _ sp;have a:(S%(((c.over*Zm n a_ c r:Nat):Int)))%c.over<=S%(((c.over*Zm n a_ c r:Nat):Int)):=by have a:=J3 S (show(((c.over*Zm n a_ c r:Nat):Int))≠0 by omega);have b:=jA (S%(((c.over*Zm n a_ c r:Nat):Int))) c.over;have b:0<=(S%(((c.over*Zm n a_ c r:Nat):Int)))/c.over:=Int.ediv_nonneg a om;have a:=Gc (show 0<=(c.over:Int)by omega) b;omega
 omega
theorem RP (h:Qy n a_ c)(k:wg n a_ c r):Z2 c (Zd n a_ c r)<0:=by have a:=h.pos;have a:=k.shared;have a:=VS h k;have a:=J3 (rk a_ (fm c.eW) r) (show(c.over:Int)≠0 by omega);have a:=k.part;refine Ze λa=>?_;have a:=Gc (show 0<=(Zm n a_ c r:Int)by omega) (show 0<=Z2 c (Zd n a_ c r)by omega);omega
theorem Wo (h:Qy n a_ c)(k:wg n a_ c r){x}(f:x.length=n)(d:∀e∈c.eN,T.eO e.row.1 x<=e.row.2):T.eO (Zd n a_ c r).1 x<=(Zd n a_ c r).2:=by
 have b:=Fo h k;have a:=Py h k f;rw[k.most];apply(Mq b).2;rw[Qp,a];have:0<=(c.eN.map λe=>(Zc a_ c.over r e:Int)*e.row.2+(-1)*((Zc a_ c.over r e:Int)*T.eO e.row.1 x)).sum:=by refine Ua λe a=>?_;have b:=ZI (d e a) (show 0<=(Zc a_ c.over r e:Int)by omega);omega
 rw[Eu,BD]at this;omega
theorem NV (h:Qy n a_ c)(k:wg n a_ c r):∃e∈c.eN,0<T.eO (Zd n a_ c r).1 e.eT:=by
 refine Ze λg=>?_;have i:∀e∈c.eN,(Zc a_ c.over r e:Int)=0:=by intro e a;obtain⟨j,d,b⟩:=qM a;have l:=Tw h k (j:=j) (f:=e) (by grind);have b:=k.shared;(have d:T.eO (Zd n a_ c r).1 e.eT<=0:=by refine Ze λb=>g ⟨e,a,om⟩);have:=Nf (show 0<=(Zm n a_ c r:Int)by omega) d;omega
 have b:(c.eN.map λe=>(Zc _ _ r e)*e.row.2).sum=0:=MW λe a=>by rw[i e a];simp
 have a:=k.rest;rw[b]at a;exact k.part (by simp_all)
end
def IC (a_:L_)(P:V4)(o:Nat)(r:Nat)(P':V4)(o':Nat):Prop:=
 (∃i,i<r/\(∀k,k<i->(o)*rk a_ P' k=(o')*rk a_ P k)/\(o)*rk a_ P' i<(o')*rk a_ P i)\/
 ((∀k,k<r->(o)*rk a_ P' k=(o')*rk a_ P k)/\rk a_ P' r<=(o')*(rk a_ P r/(o)))
theorem YJ {n:Nat}{a_:L_}{c c':fF}{r num j:Nat}{o:gQ}(h:Qy n a_ c)(I:r<5)(k:wg n a_ c r)(x:yD n a_ c (Zd n a_ c r) num c' j o):IC a_ (fm c.eW) c.over r (fm c'.eW) c'.over:=by
 have U:=h.pos;have a:∀i,(c.over:Int)*rk a_ (fm c'.eW) i=(c'.over:Int)*rk a_ (fm c.eW) i+Z2 c (Zd n a_ c r)*rk a_ (fm o.eT) i:=by intro i;rw[<-JH,x.eW,KH,JH,JH,x.over]
 have D:=RP h k;have p:=zx x.at_;obtain⟨i,_,f,F⟩:=h.lex o p;by_cases l:i<r;{refine .inl ⟨i,l,λq e=>?_,?_⟩;{grind};rw[a i];have:=Int.mul_neg_of_neg_of_pos D F;omega};refine .inr ⟨λq e=>?_,?_⟩;{grind};have J:=Ig h I p;have A:=Tw h k x.at_;have Y:=k.shared;have y:=VS h k;have t:0<=rk a_ (fm o.eT) r:=g_;(have B:(Zc a_ c.over r o:Int)<=rk a_ (fm o.eT) r:=by rw[J];have P:=jA (rk a_ (fm o.eT) r) (c.over:Int);have w:0<=rk a_ (fm o.eT) r/(c.over:Int):=Int.ediv_nonneg t om;have Q:=Gc (show 0<=(c.over:Int)by omega) w;omega);have s:=x.over;have S:=x.lQ;generalize R:(Zm n a_ c r:Int)=d at *;generalize X:Z2 c (Zd n a_ c r)=K at *;generalize W:T.eO (Zd n a_ c r).1 o.eT=pv at *;have z:0<d:=om;have v:=jA (rk a_ (fm c.eW) r)<|c.over;have C:=J3 (rk a_ (fm c.eW) r) (show(c.over:Int)≠0 by omega);have g:=a r;generalize hm:rk a_ (fm c.eW) r%(c.over:Int)=m at *;generalize e:rk a_ (fm c.eW) r/(c.over:Int)=q at *;generalize hy:rk a_ (fm c'.eW) r=N at *;generalize Z:rk a_ (fm o.eT) r=u at *;rw[<-v,s]at g;rw[s];have s1:=Int.mul_le_mul_of_nonneg_right y t;(have s2:m*(d*pv)<=m*u:=by rw[A];exact ZI B C);(have L:d*(c.over*N)<=d*(c.over*(pv*q)):=by rw[g];grind);have M:=Lq L z;exact Lq M om
end
section
open V4
variable {a_:L_}{fJ:R_}{n:Nat}
structure Zy where
 over:Nat
 parts:List (Nat×Int)
abbrev qO:=(L_×Int)×Nat
def Qv (c:fF)(rows:List qO):Option qO:=rows.find? λr=>decide (Z2 c r.1<0)
abbrev AL:=fF ⊕ (fF×qO) ⊕ Unit
theorem AL.cs{P:AL->Prop}(ok:∀c,P (.inl c))(no:∀c r,P (.inr (.inl (c,r))))(li:P (.inr (.inr ()))):∀o,P o
 |.inl c=>ok c |.inr (.inl (c,r))=>no c r |.inr (.inr ())=>li
abbrev XF:=@AL.cs
def ZV (a_:L_)(rows:List qO):Nat->fF->AL
 |0,c=>match Qv c rows with
  |none=> .inl c
  |some r=>match Qe a_ c r.1 r.2 with
   |none=> .inr (.inl (c,r))
   |some _=> .inr (.inr ())
 |f+1,c=>match Qv c rows with
  |none=> .inl c
  |some r=>match Qe a_ c r.1 r.2 with
   |none=> .inr (.inl (c,r))
   |some c'=>ZV a_ rows f c'
def qU (n:Nat)(a_:L_)(c:fF):N_:=(kal (n+1)).filter λr=>decide ((qT a_ c.eW).getD r 0%(c.over)≠0)
def Z1 (n:Nat)(a_:L_)(c:fF)(num r:Nat):fF:=(Qe a_ c (Zd n a_ c r) num).getD ⟨0,[],[]⟩
def E4 (a_:L_)(c d:fF):Bool:=decide (0<Qx (qT a_ (kaq (λa b=>a*(d.over)-b*(c.over)) c.eW d.eW)))
def jF (n:Nat)(a_:L_)(c:fF)(num:Nat):N_->Option Nat->Option Nat
 |[],b=>b
 |r::rs,O=>jF n a_ c num rs (E r)
 |r::rs,E b=>jF n a_ c num rs (E (if E4 a_ (Z1 n a_ c num b) (Z1 n a_ c num r)=true then r else b))
def QX (n:Nat)(a_:L_)(c:fF)(r:Nat):Zy:=
 ⟨c.over*Zm n a_ c r,(c.eN.map λe=>(e.num,(Zc a_ c.over r e:Int))).filter λp=>decide (p.2≠0)⟩
def mY (c:fF)(num:Nat):Bool:=c.eN.any λe=>decide (e.num=num)
def jw (c:fF)(given:Nat)(rows:List qO):List qO:=rows.filter λr=>!(decide (given<r.2) && !mY c r.2)
abbrev gO:=(fF×List Zy) ⊕ (fF×qO×List Zy) ⊕ Nat
theorem gO.cs{P:gO->Prop}(gr:∀c ls,P (.inl (c,ls)))(no:∀c r ls,P (.inr (.inl (c,r,ls))))(li:∀k,P (.inr (.inr k))):∀o,P o
 |.inl (c,ls)=>gr c ls |.inr (.inl (c,r,ls))=>no c r ls |.inr (.inr k)=>li k
abbrev Xw:=@gO.cs
def ku (n:Nat)(a_:L_)(given eS:Nat):Nat->List qO->fF->List Zy->gO
 |0,rows,c,ls=>match ZV a_ rows eS c with
  |.inr (.inr _)=> .inr (.inr ls.length)
  |.inr (.inl (c,r))=> .inr (.inl (c,r,ls))
  |.inl c'=>match jF n a_ c' (given+ls.length+1) (qU n a_ c') Option.none with
   |Option.none=> .inl (c',ls)
   |some _=> .inr (.inr ls.length)
 |k+1,rows,c,ls=>match ZV a_ rows eS c with
  |.inr (.inr _)=> .inr (.inr ls.length)
  |.inr (.inl (c,r))=> .inr (.inl (c,r,ls))
  |.inl c'=>match jF n a_ c' (given+ls.length+1) (qU n a_ c') Option.none with
   |Option.none=> .inl (c',ls)
   |some r=>ku n a_ given eS k (jw c' given rows ++ [(Zd n a_ c' r,given+ls.length+1)]) c' (ls ++ [QX n a_ c' r])
def BO (fJ:R_)(r:qO):Prop:=1<=r.2/\fJ[r.2-1]? =E r.1
theorem BO.same{r s}(h:BO fJ r)(k:BO fJ s)(e:r.2=s.2):r.1=s.1:=by have:=h.2;rw[e,k.2]at this;exact(Q8 this).symm
theorem BO.more{r}(h:BO fJ r)(x):BO (fJ++x) r:=⟨h.1,by rw[zS<|jQ h.2];exact h.2⟩
def Fj (n:Nat)(fJ:R_)(rows:List qO):Prop:=∀r∈rows,BO fJ r/\r.1.1.length=n
structure J4 (n:Nat)(a_:L_)(rows:List qO)(c:fF):Prop where
 fL:Qy n a_ c
 fY:∀e∈c.eN,(e.row,e.num)∈rows
def fF.ge (a_:L_)(c d:fF):Prop:=qz (λi=>(d.over)*rk a_ (fm c.eW) i-(c.over)*rk a_ (fm d.eW) i)
def fF.gt (a_:L_)(c d:fF):Prop:=JK (λi=>(d.over)*rk a_ (fm c.eW) i-(c.over)*rk a_ (fm d.eW) i)
theorem fF.Em(a_)(c:fF):c.ge a_ c:= .inl λ_ _=>Int.sub_self _
abbrev XC:=@fF.Em
theorem fF.gt.ge{c d:fF}(h:c.gt a_ d):c.ge a_ d:= .inr h
theorem fF.Ck{c d e:fF}(a:0<d.over)(h1:c.ge a_ d)(h2:d.ge a_ e):c.ge a_ e:=by refine qz.comb h1 h2 (p:=d.over) (q:=e.over) (r:=c.over) om om om λi _=>?_;grind
abbrev XD:=@fF.Ck
theorem fF.gt_trans{c d e:fF}(a:0<d.over)(b:0<e.over)(h1:c.gt a_ d)(h2:d.ge a_ e):c.gt a_ e:=by refine JK.comb h1 h2 (p:=d.over) (q:=e.over) (r:=c.over) om om om λi _=>?_;grind
theorem Y6{c:fF}{rows:List qO}(f:Fj n fJ rows)(h:J4 n a_ rows c){r:qO}(j:BO fJ r)(b:Z2 c r.1<0):∀e∈c.eN,e.num≠r.2:=by intro e a g;have d:=(f _<|h.fY e a).1;have f:e.row=r.1:=d.same j g;obtain⟨j,g,d⟩:=qM a;have a:=h.fL.nR (by rw[zg g,d]);unfold Z2 at b;rw[<-f,a,Qp]at b;omega
theorem Ye{c c'}{r}{num j}{o}(h:Qy n a_ c)(x:yD n a_ c r num c' j o)(a:Z2 c r<0):c.gt a_ c':=by
 refine JK.comb (h.lex o<|zx x.at_) (.inl λ_ _=>rfl) (p:=1) (q:=- Z2 c r) (r:=0) om om om λi _=>?_;have:c.over*rk a_ (fm c'.eW) i=c'.over*rk a_ (fm c.eW) i+Z2 c r*rk a_ (fm o.eT) i:=by rw[<-JH,x.eW,KH,JH,JH,x.over]
 grind
theorem Vr{c c'}{rows}{r}{j}{o}(h:J4 n a_ rows c)(x:yD n a_ c r.1 r.2 c' j o)(f:r∈rows):J4 n a_ rows c':=by refine⟨x.fL,λe a=>?_⟩;have⟨i,d,b⟩:=qM a;have a:c'.eN[i]? =E e:=g_;by_cases b:i=j;{subst b;rw[x.new]at a;grind};(have e:i<c.eN.length:=by rw[h.fL.len,<-x.fL.len];exact d);have d:=zg e;rw[x.rT i _ b d]at a;cases a;exact h.fY c.eN[i] (zJ e)
theorem Io{c}{rows}(b:Fj n fJ rows)(h:J4 n a_ rows c){r}(a:r∈rows)(d:Z2 c r.1<0):
 (Qe a_ c r.1 r.2=O->∀e∈c.eN,T.eO r.1.1 e.eT<=0)/\∀c',Qe a_ c r.1 r.2=E c'->J4 n a_ rows c'/\c.gt a_ c':=by obtain⟨f,g⟩:=Od h.fL (b r a).2<|Y6 b h (b r a).1 d;refine⟨f,λc' b=>?_⟩;obtain⟨_,_,x⟩:=g _ b;exact⟨Vr h x a,Ye h.fL x d⟩
theorem Hg{c}{rows}{r}(h:Qv c rows=E r):r∈rows/\Z2 c r.1<0:=⟨List.mem_of_find?_eq_some h,by have:=List.find?_some h;grind⟩
theorem Ur{c}{rows}(h:Qv c rows=O):∀r∈rows,0<=Z2 c r.1:=λr a=>by have:=P8.1 h r a;simp at this;exact this
theorem EH{rows:List qO}(d:Fj n fJ rows):∀(f:Nat) (c:fF),J4 n a_ rows c->
 (∀c',ZV a_ rows f c= .inl c'->J4 n a_ rows c'/\c.ge a_ c'/\∀r∈rows,0<=Z2 c' r.1)/\
 (∀c' r,ZV a_ rows f c= .inr (.inl (c',r))->J4 n a_ rows c'/\c.ge a_ c'/\r∈rows/\Z2 c' r.1<0/\∀e∈c'.eN,T.eO r.1.1 e.eT<=0)
 |0,c,h=>by
  rw[ZV];cases hb:Qv c rows with
  |none=>exact⟨λc' a=>by cases a;exact⟨h,XC _ _,Ur hb⟩,λc' r a=>by cases a⟩
  |some r=>
   obtain⟨b1,b⟩:=Hg hb;cases hx:Qe a_ c r.1 r.2 with
   |none=>exact⟨λc' a=>by simp[hx]at a,λc' g a=>by simp only[hx]at a;cases a;exact⟨h,XC _ _,b1,b,(Io d h b1 b).1 hx⟩⟩
   |some i=>exact⟨λc' a=>by simp[hx]at a,λc' g a=>by simp[hx]at a⟩
 |f+1,c,h=>by
  rw[ZV];cases hb:Qv c rows with
  |none=>exact⟨λc' a=>by cases a;exact⟨h,XC _ _,Ur hb⟩,λc' r a=>by cases a⟩
  |some r=>
   obtain⟨b1,b⟩:=Hg hb;cases hx:Qe a_ c r.1 r.2 with
   |none=>exact⟨λc' a=>by simp[hx]at a,λc' g a=>by simp only[hx]at a;cases a;exact⟨h,XC _ _,b1,b,(Io d h b1 b).1 hx⟩⟩
   |some i=>
    obtain⟨j,k⟩:=(Io d h b1 b).2 i hx;obtain⟨l,m⟩:=EH d f i j;simp only[hx];refine⟨λc' a=>?_,λc' g a=>?_⟩
    ·obtain⟨b,d,i⟩:=l c' a;exact⟨b,XD j.fL.pos k.ge d,i⟩
    ·obtain⟨b,d,i⟩:=m c' g a;exact⟨b,XD j.fL.pos k.ge d,i⟩
end
section
open V4
variable {a:List Zy}{a_:L_}{base fJ:R_}{c:fF}{given n r:Nat}
def tO (n:Nat)(base:R_)(x:L_):Prop:=x.length=n/\∀r∈base,T.eO r.1 x<=r.2
structure kM (n:Nat)(fJ:R_)(l:Zy)(row:L_×Int):Prop where
 pos:0<l.over
 parts:∀p∈l.parts,0<p.2/\∃r,BO fJ (r,p.1)
 len:row.1.length=n
 NJ:∀i,(l.over:Int)*row.1.getD i 0=(l.parts.map λp=>p.2*(fJ.getD (p.1-1) ([],0)).1.getD i 0).sum
 most:row.2=(l.parts.map λp=>p.2*(fJ.getD (p.1-1) ([],0)).2).sum/(l.over:Int)
structure pS (n:Nat)(a_:L_)(base:R_)(rows:List qO)(c:fF)(ls:List Zy)(fJ:R_):Prop where
 len:fJ.length=base.length+ls.length
 first:fJ.take base.length=base
 width:∀r∈fJ,r.1.length=n
 fD:Fj n fJ rows
 given:∀i r,base[i]? =E r->(r,i+1)∈rows
 fL:J4 n a_ rows c
 valid:∀x,tO n base x->∀r∈fJ,T.eO r.1 x<=r.2
 lines:∀i l,ls[i]? =E l->∃row,fJ[base.length+i]? =E row/\kM n (fJ.take (base.length+i)) l row
theorem Ls{r}(h:BO fJ r):fJ.getD (r.2-1) ([],0)=r.1:=by rw[zk,h.2];rfl
theorem LN(f:Nat×Int->Int)(a:∀p,p.2=0->f p=0):∀l:List (Nat×Int),((l.filter λp=>decide (p.2≠0)).map f).sum=(l.map f).sum
 |[]=>rfl |p::l=>by rw[Qz];by_cases h:p.2=0;{simp only[h,ne_eq,not_true_eq_false,decide_false,GW,BC];rw[LN f a l,Zk,QI,a p h,Int.zero_add]};simp only[h,ne_eq,not_false_eq_true,decide_true,yq];rw[Zk,QI,LN f a l,Zk,QI]
theorem zqP{rows}(d:Fj n fJ rows)(h:J4 n a_ rows c)(a:r<5)(k:wg n a_ c r):kM n fJ (QX n a_ c r) (Zd n a_ c r):=by
 have i:∀e∈c.eN,fJ.getD (e.num-1) _=e.row:=λe b=>Ls (d _<|h.fY e b).1;have f:∀(g:L_×Int->Int),((QX n a_ c r).parts.map λp=>p.2*g (fJ.getD (p.1-1) ([],0))).sum=(c.eN.map λe=>(Zc a_ c.over r e:Int)*g e.row).sum:=by intro g;unfold QX;simp only;rw[LN _ λp a=>by grind,ym];refine Bq λe b=>?_;simp only[Function.comp];rw[i e b]
 refine⟨QE h.fL.pos k.shared,λp a=>?_,k.len,λi=>?_,?_⟩;{unfold QX at a;simp only at a;rw[ZF]at a;obtain⟨g,j⟩:=a;obtain⟨e,b,rfl⟩:=qP.1 g;simp only[ne_eq,Z9]at j;simp only;exact⟨om,_,(d _<|h.fY e b).1⟩};{rw[f λr=>r.1.getD i 0];exact k.row i};rw[f λr=>r.2];exact k.most
theorem Vn{rows}{r}(h:r∈jw c given rows):r∈rows:=(ZF.1 h).1
theorem znL{rows}{e}(a:e∈c.eN)(h:(e.row,e.num)∈rows):(e.row,e.num)∈jw c given rows:=by refine ZF.2 ⟨h,?_⟩;have:mY c e.num=true:=QR.2 ⟨e,a,sp⟩;grind
theorem WM{rows}{r}(h:r∈rows)(hg:r.2<=given):r∈jw c given rows:=by refine ZF.2 ⟨h,?_⟩;simp;omega
theorem pS.cut{rows:List qO}{a:fF}{g:List Zy}(h:pS n a_ base rows a g fJ)(e:J4 n a_ rows c)(o:r<5)(k:wg n a_ c r):
 pS n a_ base (jw c base.length rows ++ [(Zd n a_ c r,base.length+g.length+1)]) c (g ++ [QX n a_ c r]) (fJ ++ [Zd n a_ c r]):=by have m:=h.len;refine⟨g_,?_,?_,?_,?_,⟨e.fL,λj l=>QN _<|znL l<|e.fY j l⟩,?_,?_⟩;{rw[Qq om];exact h.first};{intro x a;rcases zU.1 a with a|a;{exact h.width x a};rw[qg.1 a];exact k.len};{intro x a;rcases zU.1 a with a|a;{obtain⟨d,b⟩:=h.fD x<|Vn a;exact⟨d.more _,b⟩};rw[qg.1 a];refine⟨⟨sp,?_⟩,k.len⟩;grind};{intro i x b;refine QN _<|WM (h.given i x b) ?_;grind};{intro x a y f;rcases zU.1 f with f|f;{exact h.valid x a y f};rw[qg.1 f];refine Wo e.fL k a.1 λj l=>?_;have d:=(h.fD _<|e.fY j l).1;exact h.valid x a _<|zx d.2};intro i l b;by_cases a:i<g.length;{rw[zS a]at b;obtain⟨row,a,f⟩:=h.lines i l b;grind};have d:=jQ b;simp at d;have a:i=g.length:=om;subst a;rw[zG<|zh _]at b;simp at b;subst b;refine⟨Zd n a_ c r,by rw[<-m,zG<|zh _];simp,?_⟩;rw[<-m,Qq<|zh _,Zx];exact zqP h.fD e o k
theorem pS.to{rows}{c'}(h:pS n a_ base rows c a fJ)(b:J4 n a_ rows c'):pS n a_ base rows c' a fJ:=⟨h.len,h.first,h.width,h.fD,h.given,b,h.valid,h.lines⟩
theorem F9{num:Nat}:∀(rs:N_) (b:Option Nat) (r:Nat),jF n a_ c num rs b=E r->r∈rs\/b=E r
 |[],b,r,h=> .inr h |x::rs,O,r,h=>by rcases F9 rs (E x) r h with h|h;{exact .inl (qq _ h)};cases h;exact .inl qA |x::rs,E b,r,h=>by rcases F9 rs _ r h with h|h;{exact .inl (qq _ h)};split at h;{cases h;exact .inl qA};exact .inr h
theorem Md{num:Nat}:∀(rs:N_) (b:Option Nat),jF n a_ c num rs b=O->rs= []/\b=O
 |[],b,h=>⟨rfl,h⟩ |x::rs,O,h=>by have:=(Md rs (E x) h).2;cases this |x::rs,E b,h=>by have:=(Md rs _ h).2;cases this
theorem EE(h:Qy n a_ c):r∈qU n a_ c↔r<n+1/\rk a_ (fm c.eW) r%(c.over)≠0:=by unfold qU;rw[ZF,Z8];have d:=h.n4;constructor;{rintro⟨b,a⟩;rw[Df (by rw[h.kX,h.fN]) (by rw[h.fN];omega) r om]at a;grind};rintro⟨b,a⟩;rw[Df (by rw[h.kX,h.fN]) (by rw[h.fN];omega) r om];grind
def Fl (n:Nat)(a_:L_)(base:R_):gO->Prop
 |.inl (c,ls)=>∃rows fJ,pS n a_ base rows c ls fJ/\(∀r∈rows,0<=Z2 c r.1)/\qU n a_ c= []
 |.inr (.inl (c,r,ls))=>∃rows fJ,pS n a_ base rows c ls fJ/\r∈rows/\Z2 c r.1<0/\∀e∈c.eN,T.eO r.1.1 e.eT<=0
 |.inr (.inr _)=>True
theorem go_ok{eS:Nat}:∀(k:Nat) (rows:List qO) (c:fF) (ls:List Zy) (fJ:R_),pS n a_ base rows c ls fJ->Fl n a_ base (ku n a_ base.length eS k rows c ls)
 |0,rows,c,ls,fJ,h=>by
  rw[ku];obtain⟨s1,s2⟩:=EH h.fD eS c h.fL;cases hs:ZV a_ rows eS c using XF with
  |li=>trivial
  |no c' r=>
   obtain⟨a1,a2,a3,a4,a5⟩:=s2 c' r hs;exact⟨rows,fJ,h.to a1,a3,a4,a5⟩
  |ok c'=>
   obtain⟨a1,a2,a3⟩:=s1 c' hs;simp only;cases hd:jF n a_ c' (base.length+ls.length+1) (qU n a_ c') Option.none with
   |none=>exact⟨rows,fJ,h.to a1,a3,(Md _ _ hd).1⟩
   |some r=>trivial
 |k+1,rows,c,ls,fJ,h=>by
  rw[ku];obtain⟨s1,s2⟩:=EH h.fD eS c h.fL;cases hs:ZV a_ rows eS c using XF with
  |li=>trivial
  |no c' r=>
   obtain⟨a1,a2,a3,a4,a5⟩:=s2 c' r hs;exact⟨rows,fJ,h.to a1,a3,a4,a5⟩
  |ok c'=>
   obtain⟨a1,a2,a3⟩:=s1 c' hs;simp only;cases hd:jF n a_ c' (base.length+ls.length+1) (qU n a_ c') Option.none with
   |none=>exact⟨rows,fJ,h.to a1,a3,(Md _ _ hd).1⟩
   |some r=>
    have n4:=a1.fL.n4;have hm:r∈qU n a_ c':=by
     rcases F9 _ _ _ hd with hm|hm
     ·exact hm
     ·cases hm
    obtain⟨m1,m2⟩:=(EE a1.fL).1 hm;exact go_ok k _ _ _ _ (h.cut a1 (by omega)<|FI a1.fL (by omega) m2)
theorem pS.ahead{rows}{b}(h:pS n a_ base rows c b fJ){x}(a:tO n base x):qz (λi=>rk a_ (fm c.eW) i-(c.over)*rk a_ (fm x) i):=by
 have g:=h.fL.fL;have j:∀i,rk a_ (fm c.eW) i-(c.over:Int)*rk a_ (fm x) i=(c.eN.map λe=>(e.row.2-T.eO e.row.1 x)*rk a_ (fm e.eT) i).sum:=by intro i;have:=g.complete a.1<|z6 a_ i;show(z6 a_ i).dot (fm c.eW)-(c.over:Int)*(z6 a_ i).dot (fm x)=(c.eN.map λe=>(e.row.2-T.eO e.row.1 x)*(z6 a_ i).dot (fm e.eT)).sum;omega
 have d:∀e∈c.eN,0<=e.row.2-T.eO e.row.1 x:=λe b=>by have f:=(h.fD _<|h.fL.fY e b).1;have:=h.valid x a e.row<|zx f.2;omega
 have b:=g.lex;refine qz.congr ?_ λi _=>(j i).symm;clear j g;revert d b;generalize c.eN=g;intro d b;induction g with |nil=>exact .inl λi _=>rfl |cons e g g=>have f:=g (λx a=>d x<|qq _ a) λx a=>b x<|qq _ a;refine qz.comb (b e qA).n f (p:=1) (r:=1) om (d e qA) om λi _=>?_;grind
def JZ (c:fF):L_:=c.eW.map λz=>z/(c.over)
theorem SB(h:Qy n a_ c)(hs:qU n a_ c= []):(JZ c).length=n/\(fm (JZ c)).smul (c.over)=fm c.eW:=by
 have e:=h.n4;refine⟨by simp[JZ,h.fN],?_⟩;have d:∀i,(c.over:Int) ∣ c.eW.getD i 0:=by intro i;by_cases a:i<n;{(have a:rk a_ (fm c.eW) (i+1)%c.over=0:=by refine Ze λb=>?_;have:=(EE h).2 ⟨om,b⟩;rw[hs]at this;simp at this);rw[<-Df (by rw[h.kX,h.fN]) (by rw[h.fN];omega) _ om]at a;have e:(qT _ _).getD (i+1) 0=(kaq _ a_ c.eW).getD i 0:=rfl;rw[e,JE sp<|by rw[h.kX,h.fN]]at a;split at a;{exact Int.dvd_neg.1<|P5 a};exact P5 a};(have:c.eW.getD i 0=0:=by rw[zk,qL (by rw[h.fN];omega)];rfl);simp_all
 have a:∀i,c.over*(JZ c).getD i 0=c.eW.getD i 0:=by intro i;(have:(JZ c).getD i 0=c.eW.getD i 0/c.over:=by unfold JZ;rw[zk,zR,zk];cases c.eW[i]?<;>simp);rw[this];exact Int.mul_ediv_cancel' (d i)
 exact ext' (a 0) (a 1) (a 2) (a 3)
theorem TQ{rows}(h:pS n a_ base rows c a fJ)(k:∀r∈rows,0<=Z2 c r.1)(hs:qU n a_ c= []):
 tO n base (JZ c)/\∀x,tO n base x->qz (λi=>rk a_ (fm (JZ c)) i-rk a_ (fm x) i):=by have a:=h.fL.fL;have b:=a.pos;have f:=a.n4;obtain⟨e,j⟩:=SB a hs;refine⟨⟨e,λr l=>?_⟩,λx m=>?_⟩;{obtain⟨i,d,b⟩:=qM l;have hm:=h.given i r g_;have b:=k _ hm;have d:=(h.fD _ hm).2;simp only at b d;unfold Z2 at b;rw[QD (by rw[d,a.fN]) (by rw[a.fN];omega),<-j,fA,Qp,<-Int.mul_sub]at b;rw[QD om om];(have a:0<=r.2-(fm r.1).dot (fm<|JZ c):=by refine Ze λa=>?_;have:=Int.mul_neg_of_pos_of_neg (show 0<(c.over:Int)by omega) (show r.2-(fm r.1).dot (fm<|JZ c)<0 by omega);omega);omega};refine(h.ahead m).comb (p:=(c.over)) (q:=1) (r:=0) (.inl λ_ _=>rfl) om om om λi _=>?_;rw[<-j,JH];grind
theorem znM{rows:List qO}{c:fF}(h:pS n a_ base rows c a fJ){r:qO}(d:r∈rows)(j:Z2 c r.1<0)(hg:∀e∈c.eN,T.eO r.1.1 e.eT<=0):∀x,¬tO n base x:=by
 intro x b;have a:=h.fL.fL;have f:=a.pos;have g:=a.n4;have f:=(h.fD _ d).2;have k:=h.valid x b _<|zx (h.fD _ d).1.2;have d:=a.complete b.1<|fm r.1.1;rw[<-QD (by rw[f,b.1]) (by rw[b.1];omega),<-QD (by rw[f,a.fN]) (by rw[a.fN];omega)]at d;have d:(c.eN.map λe=>(e.row.2-T.eO e.row.1 x)*(fm r.1.1).dot (fm e.eT)).sum<=0:=by (have:0<=(c.eN.map λe=>(-1)*((e.row.2-T.eO e.row.1 x)*(fm r.1.1).dot (fm e.eT))).sum:=by refine Ua λe d=>?_;have i:=(h.fD _<|h.fL.fY e d).1;have l:=h.valid x b e.row<|zx i.2;have b:=hg e d;have i:=(a.iw e d).2;rw[QD (by omega)<|by omega]at b;have:=Nf (show 0<=e.row.2-T.eO e.row.1 x by omega) b;omega);rw[BD]at this;omega
 unfold Z2 at j;have:=ZI k (show 0<=(c.over:Int)by omega);grind
end
section
open V4
variable {a:R_}{a_:L_}{c:fF}{n:Nat}{r:L_×Int}
theorem IQ{e:Type}[DecidableEq e]:∀(l L:List e),l.Nodup->(∀x∈l,x∈L)->l.length<=L.length
 |[],_,_,_=>sp |a::l,L,d,hs=>by have b:=hs a qA;have g:=IQ l (L.erase a) (List.nodup_cons.1 d).2 (λx e=>by have h:x≠a:=λf=>(List.nodup_cons.1 d).1 (by rw[<-f];exact e);exact(List.mem_erase_of_ne h).2<|hs x<|qq _ e);rw[List.length_erase_of_mem b]at g;have:0<L.length:=List.length_pos_of_mem b;simp only[qi];omega
def Cq:N_->Nat->List (N_)
 |[],_=> [[]]
 |_::_,0=> [[]]
 |a::l,k+1=>Cq l (k+1)++(Cq l k).map (λs=>a::s)
def tX:Nat->Nat->Nat
 |0,_=>1
 |_+1,0=>1
 |m+1,k+1=>tX m (k+1)+tX m k
theorem Oj:∀(l:N_) (k:Nat),(Cq l k).length=tX l.length k
 |[],k=>by simp[Cq,tX] |a::l,0=>by simp[Cq,tX] |a::l,k+1=>by simp[Cq,tX,Oj l (k+1),Oj l k]
theorem NZ:∀(l:N_) (k:Nat) (s:N_),s.Sublist l->s.length<=k->s∈Cq l k
 |[],k,s,h,_=>by have:s= []:=List.sublist_nil.1 h;simp[Cq,this] |a::l,0,s,h,hk=>by have:s= []:=Qk.1 om;simp[Cq,this] |a::l,k+1,s,h,hk=>by rw[Cq,zU];cases h with |cons _ h=>exact .inl (NZ l (k+1) s h hk) |cons_cons _ h=>rename_i s';exact .inr (qP.2 ⟨s',NZ l k s' h (by simp at hk;omega),rfl⟩)
theorem zqQ:∀(m k:Nat),tX m k<=tX (m+1) k
 |0,0=>by simp[tX] |0,k+1=>by simp[tX] |m+1,0=>by simp[tX] |m+1,k+1=>by rw[tX,tX];exact Nat.le_add_right _ _
theorem GS{m M k}(h:m<=M):tX m k<=tX M k:=by induction h with |refl=>omega |step _ a=>exact zF a (zqQ _ _)
abbrev Dp (r h:L_×Int):Prop:=r=h\/r=(h.1.map (λz=>-z),-h.2)
def ve (H:R_)(r:L_×Int):Nat:=H.findIdx λh=>decide (Dp r h)
def Ij (H:R_)(c:fF):N_:=(kal H.length).filter λi=>c.eN.any λe=>decide (ve H e.row=i)
theorem SM{a:R_}(h:∃x∈a,Dp r x):∃x,a[ve a r]? =E x/\Dp r x:=by have⟨x,e,d⟩:=h;have b:ve a r<a.length:=List.findIdx_lt_length_of_exists ⟨x,e,g_⟩;refine⟨a[ve a r],zg b,?_⟩;have:=List.findIdx_getElem (w:=b);exact jU this
theorem zqR{h}{P}{o}(d:Dp r h)(a:r.1.length=P.length)(b:P.length<=4)(e:T.eO r.1 P=o*r.2):T.eO h.1 P=o*h.2:=by rcases d with rfl|rfl;{omega};simp only[zm]at a;simp only at e;rw[QD g_ b,Ka,iF,<-QD a b]at e;grind
theorem Yg{h}{P}{o}(d:Dp r h)(a:r.1.length=P.length)(b:P.length<=4)(e:T.eO h.1 P=o*h.2):T.eO r.1 P=o*r.2:=by rcases d with rfl|rfl;{omega};simp only[zm]at a;simp only;rw[QD g_ b,Ka,iF,<-QD a b,e];grind
theorem znN{rows:List qO}{a:R_}(p:∀r∈rows,∃h∈a,Dp r.1 h){d:fF}(b:J4 n a_ rows c)(g:J4 n a_ rows d)(e:Ij a c=Ij a d):¬c.gt a_ d:=by
 have f:=b.fL.n4;have s:∀f∈c.eN,T.eO f.row.1 d.eW=(d.over:Int)*f.row.2:=by intro f j;obtain⟨_,o,m⟩:=SM<|p _<|b.fY f j;have hm:ve a f.row∈Ij a c:=ZF.2 ⟨Z8.2<|jQ o,QR.2 ⟨f,j,sp⟩⟩;rw[e]at hm;obtain⟨i,k,l⟩:=QR.1 (ZF.1 hm).2;(have l:ve a i.row=ve a f.row:=by simpa using l);obtain⟨_,a,q⟩:=SM<|p _<|g.fY i k;simp only at o a;rw[l,o]at a;cases a;obtain⟨p,o,l⟩:=qM k;have a:=g.fL.nR (i:=p) (e:=i) (by grind);have l:=(g.fL.iw i k).1;have k:=(b.fL.iw f j).1;have i:=g.fL.fN;exact Yg m (k.trans i.symm) om (zqR q (l.trans i.symm) om a)
 have l:∀i,(c.over:Int)*rk a_ (fm d.eW) i=(d.over:Int)*rk a_ (fm c.eW) i:=by intro i;have a:=b.fL.all (z6 a_ i) (x:=d.eW) g.fL.fN;have g:=b.fL.nN<|z6 a_ i;(have b:(c.eN.map λe=>T.eO e.row.1 d.eW*(z6 a_ i).dot (fm e.eT)).sum=(d.over:Int)*(c.eN.map λe=>e.row.2*(z6 a_ i).dot (fm e.eT)).sum:=by rw[<-BD];refine Bq λf j=>?_;rw[s f j,Int.mul_assoc]);rw[b,<-g]at a;exact a
 rintro⟨k,_,_,m⟩;grind
theorem XA{rows}(a)(b:J4 n a_ rows c):Ij a c∈Cq (kal a.length) 4:=by refine NZ _ _ _ K8 ?_;have d:(Ij a c).length<=(c.eN.map λe=>ve a e.row).length:=IQ _ _ (M8 K8 List.nodup_range) (λx f=>by have⟨g,a,e⟩:=QR.1 (ZF.1 f).2;grind);have a:=b.fL.len;have a:=b.fL.n4;grind
theorem YL{rows:List qO}{a:R_}(f:∀r∈rows,∃h∈a,Dp r.1 h)(m:a.length<=19)(l:List fF)(b:∀c∈l,J4 n a_ rows c)(j:l.Pairwise (fF.gt a_)):l.length<=5036:=by
 have o:(l.map<|Ij a).Nodup:=by refine List.pairwise_map.2 ?_;refine List.Pairwise.imp_of_mem (λ{d e} g i k=>?_) j;exact λj=>znN f (b d g) (b e i) j k
 have d:=IQ _ _ o (λx f=>by obtain⟨c,e,rfl⟩:=qP.1 f;exact XA a<|b c e);rw[Oj,Lg,zm]at d;have b:tX _ 4<=tX _ 4:=GS m;have a:tX 19 4=5036:=dc;omega
theorem TX{rows:List qO}{fJ:R_}(i:Fj n fJ rows):∀(f:Nat) (c:fF),J4 n a_ rows c->ZV a_ rows f c= .inr (.inr ())->∃l:List fF,l.length=f+1/\(∀d∈l,J4 n a_ rows d)/\(c::l).Pairwise (fF.gt a_)
 |0,c,h,hs=>by
  rw[ZV]at hs;cases hb:Qv c rows with
  |none=>simp[hb]at hs
  |some r=>
   obtain⟨b1,g⟩:=Hg hb;simp only[hb]at hs;cases a:Qe a_ c r.1 r.2 with
   |none=>simp[a]at hs
   |some d=>
    obtain⟨b,e⟩:=(Io i h b1 g).2 d a;exact⟨[d],rfl,λx a=>by rw[qg.1 a];exact b,by simpa using e⟩
 |f+1,c,h,hs=>by
  rw[ZV]at hs;cases hb:Qv c rows with
  |none=>simp[hb]at hs
  |some r=>
   obtain⟨b1,g⟩:=Hg hb;simp only[hb]at hs;cases a:Qe a_ c r.1 r.2 with
   |none=>simp[a]at hs
   |some d=>
    simp only[a]at hs;obtain⟨b,e⟩:=(Io i h b1 g).2 d a;obtain⟨l,k,g,j⟩:=TX i f d b hs;refine⟨d::l,by simp[k],λx a=>?_,List.pairwise_cons.2 ⟨λx a=>?_,j⟩⟩
    ·rcases zI.1 a with rfl|a
     ·exact b
     ·exact g x a
    ·rcases zI.1 a with rfl|a
     ·exact e
     ·exact fF.gt_trans b.fL.pos (g x a).fL.pos e ((List.pairwise_cons.1 j).1 x a).ge
theorem VU{rows:List qO}{fJ:R_}{b:R_}(i:Fj n fJ rows)(d:∀r∈rows,∃h∈b,Dp r.1 h)(g:b.length<=19){f:Nat}(o:10000<=f)(h:J4 n a_ rows c):ZV a_ rows f c≠ .inr (.inr ()):=by intro j;obtain⟨l,_,k,m⟩:=TX i f c h j;have:=YL d g _ (λx a=>by rcases zI.1 a with e|a;{exact e▸h};exact k x a) m;grind
structure sZ (n:Nat)(base:R_)(H:R_)(rows:List qO):Prop where
 nodup:(rows.map λr=>r.2).Nodup
 planes:∀r∈rows,r.2<=base.length->∃h∈H,Dp r.1 h
 fq:(rows.filter λr=>decide (base.length<r.2)).length<=n+1
theorem sZ.all{base}{rows}(h:sZ n base a rows)(e:n<=4)(d:a.length<=14):∃b:R_,b.length<=19/\∀r∈rows,∃x∈b,Dp r.1 x:=by refine⟨a++(rows.filter λr=>decide (base.length<r.2)).map (λr=>r.1),by have:=h.fq;grind,λr a=>?_⟩;by_cases b:r.2<=base.length;{have⟨x,e,d⟩:=h.planes r a b;grind};grind
theorem sZ.cut{base:R_}{rows:List qO}(h:sZ n base a rows)(g:Qy n a_ c){num:Nat}(row:L_×Int)(f:∀r∈rows,r.2<num)(hg:base.length<num):sZ n base a (jw c base.length rows ++ [(row,num)]):=by have d:(jw c base.length rows).Sublist _:=K8;refine⟨?_,λr a b=>?_,?_⟩;{rw[Z6];refine List.nodup_append.2 ⟨M8 (d.map _) h.nodup,sp,?_⟩;grind};{rcases zU.1 a with a|a;{exact h.planes r (d.mem a) b};grind};rw[je,zM];(have b:((jw c base.length rows).filter λr=>decide (base.length<r.2)).length<=n:=by (have f:(((jw c base.length rows).filter λr=>decide (base.length<r.2)).map λr=>r.2).length<=(c.eN.map λe=>e.num).length:=by refine IQ _ _ (M8 ((K8.trans d).map _) h.nodup) λx b=>?_;obtain⟨r,a,rfl⟩:=qP.1 b;obtain⟨d,b⟩:=ZF.1 a;obtain⟨_,a⟩:=ZF.1 d;(have b:base.length<r.2:=by simpa using b);(have d:mY c r.2=true:=by simp[b]at a;exact a);obtain⟨e,a,b⟩:=QR.1 d;exact qP.2 ⟨e,a,by grind⟩);rw[zm,zm,g.len]at f;exact f);grind
end
section
open V4
variable {L wd:Nat->Int}{a x y:Int}
def yt (mn:Nat->Int)(wd:Nat->Int)(L:Nat->Int):Int:=((((L 0-mn 0)*wd 1+(L 1-mn 1))*wd 2+(L 2-mn 2))*wd 3+(L 3-mn 3))*wd 4+(L 4-mn 4)
theorem CV{b w:Int}(d:a<b)(f:x<=w-1)(g:0<=y)(e:1<=w):a*w+x<b*w+y:=by have h:=Int.mul_le_mul_of_nonneg_right (show a+1<=b by omega) (show 0<=w by omega);grind
theorem zrR{a e:Nat->Int}(d:∀i,i<5->1<=wd i)(g:∀i,i<5->a i<=L i/\L i<=a i+wd i-1)(j:∀i,i<5->a i<=e i/\e i<=a i+wd i-1){k:Nat}(o:k<5)(b:∀i,i<k->L i=e i)(p:L k<e k):yt a wd L<yt a wd e:=by have r:∀i,i<5->0<=L i-a i/\L i-a i<=wd i-1/\0<=e i-a i:=λi f=>g_;have m:L 0-a 0<e 0-a 0->yt a _ L<yt a _ e:=λh=>CV (CV (CV (CV h (r 1 om).2.1 (r 1 om).2.2<|d 1 om) (r 2 om).2.1 (r 2 om).2.2<|d 2 om) (r 3 om).2.1 (r 3 om).2.2<|d 3 om) (r 4 om).2.1 (r 4 om).2.2<|d 4 om;have l:k=0\/k=1\/k=2\/k=3\/k=4:=om;rcases l with rfl|rfl|rfl|rfl|rfl;{omega};{unfold yt;rw[b 0 om];exact CV (CV (CV om (r 2 om).2.1 (r 2 om).2.2<|d 2 om) (r 3 om).2.1 (r 3 om).2.2<|d 3 om) (r 4 om).2.1 (r 4 om).2.2<|d 4 om};{unfold yt;rw[b 0 om,b 1 om];exact CV (CV om (r 3 om).2.1 (r 3 om).2.2<|d 3 om) (r 4 om).2.1 (r 4 om).2.2<|d 4 om};{unfold yt;rw[b 0 om,b 1 om,b 2 om];exact CV om (r 4 om).2.1 (r 4 om).2.2<|d 4 om};unfold yt;grind
theorem zmI{a}(d:∀i,i<5->1<=wd i)(b:∀i,i<5->a i<=L i):0<=yt a wd L:=by
 unfold yt;have r:∀i,i<5->0<=L i-a i:=λi a=>g_;have w:∀i,i<5->0<=wd i:=λi a=>g_;have a:∀{b d c:Int},0<=b->0<=d->0<=c->0<=b*d+c:=λb d e=>by have:=Gc b d;omega
 exact a (a (a (a (r 0 om) (w 1 om)<|r 1 om) (w 2 om)<|r 2 om) (w 3 om)<|r 3 om) (w 4 om) (r 4 om)
theorem znO{b}(a:∀i,i<5->1<=wd i)(d:∀i,i<5->b i<=L i/\L i<=b i+wd i-1):yt b wd L<wd 0*wd 1*wd 2*wd 3*wd 4:=by
 unfold yt;have r:∀i,i<5->L i-b i<=wd i-1:=λi b=>g_;have e:∀{b d w c:Int},b<d->1<=w->c<=w-1->b*w+c<d*w:=λ{b d w c} f a g=>by have h:=CV f g (Int.le_refl 0) a;omega
 exact e (e (e (e g_ (a 1 om)<|r 1 om) (a 2 om)<|r 2 om) (a 3 om)<|r 3 om) (a 4 om) (r 4 om)
theorem N8(b:0<a)(h:a*x<a*y):x<y:=Int.lt_of_mul_lt_mul_left h om
theorem UH(b:0<a)(h:a*x<=a*y):x<=y:=Lq h b
theorem TB(b:0<a)(h:a*x=a*y):x=y:=QU om h
theorem IC.Ed{a_:L_}{P e d:V4}{o b a r:Nat}(ho:0<o)(f:0<b)(j:0<a)(B:r<5)(h:IC a_ P o r e b)(g:qz (λi=>(a:Int)*rk a_ e i-(b:Int)*rk a_ d i)):IC a_ P o r d a:=by
 have j:(0:Int)<o:=om;have w:(0:Int)<b:=om;have p:(0:Int)<a:=om;have s:∀k,(o)*rk a_ e k=(b)*rk a_ P k->(a)*rk a_ e k-(b)*rk a_ d k=0->(o)*rk a_ d k=(a)*rk a_ P k:=λk f q=>by refine TB w ?_;grind
 have x:∀k,(o)*rk a_ e k=(b)*rk a_ P k->0<(a)*rk a_ e k-(b)*rk a_ d k->(o)*rk a_ d k<(a)*rk a_ P k:=λk f q=>by refine N8 w ?_;have v:(b)*rk a_ d k<(a)*rk a_ e k:=om;have l:=Int.mul_lt_mul_of_pos_left v j;have y:(o)*((b)*rk a_ d k)=(b)*((o)*rk a_ d k):=g_;have j:(o)*((a)*rk a_ e k)=(b)*((a)*rk a_ P k):=g_;omega
 have m:∀k,(o)*rk a_ e k<(b)*rk a_ P k->0<=(a)*rk a_ e k-(b)*rk a_ d k->(o)*rk a_ d k<(a)*rk a_ P k:=λk f q=>by refine N8 w ?_;have v:(b)*rk a_ d k<=(a)*rk a_ e k:=om;have l:=ZI v (show 0<=(o:Int)by omega);have l:=Int.mul_lt_mul_of_pos_left f p;grind
 rcases h with ⟨i,z,f,q⟩|⟨f,q⟩;{rcases g with g|⟨l,A,p,u⟩;{exact .inl ⟨i,z,λk j=>s k (f k j)<|g k om,m i q g_⟩};by_cases t:l<i;{exact .inl ⟨l,om,λk j=>s k (f k om)<|p k j,x l (f l t) u⟩};refine .inl ⟨i,z,λk j=>s k (f k j)<|p k om,m i q ?_⟩;grind};(have z:0<=(a)*rk a_ e r-(b)*rk a_ d r->rk a_ d r<=(a)*(rk a_ P r/(o)):=λm=>by refine UH w ?_;have v:=ZI q (show 0<=(a:Int)by omega);grind);rcases g with g|⟨l,A,p,u⟩;{exact .inr ⟨λk j=>s k (f k j)<|g k om,z g_⟩};by_cases t:l<r;{exact .inl ⟨l,t,λk j=>s k (f k om)<|p k j,x l (f l t) u⟩};refine .inr ⟨λk j=>s k (f k j)<|p k om,z ?_⟩;grind
def jo (a_:L_)(mx:Nat->Int)(P:V4)(o r:Nat)(i:Nat):Int:=if i<=r then rk a_ P i/(o)else mx i
theorem XR{a_:L_}{mx:Nat->Int}{P d:V4}{o b r a:Nat}(ho:0<o)(e:0<b)(u:a<5)(s:∀k,k<r->rk a_ P k%(o:Int)=0)(f:∀k,k<a->rk a_ d k%(b:Int)=0)(p:rk a_ d a%(b:Int)≠0)(t:∀k,k<5->rk a_ d k<=(b:Int)*mx k)(h:IC a_ P o r d b):
 ∃k,k<5/\(∀i,i<k->jo a_ mx d b a i=jo a_ mx P o r i)/\jo a_ mx d b a k<jo a_ mx P o r k:=by
 have m:(0:Int)<o:=om;have y:(0:Int)<b:=om;have j:∀k,k<r->(o)*rk _ d k=(b)*rk a_ P k->rk a_ d k=(b)*(rk a_ P k/(o)):=λk e g=>by have f:=jA (rk a_ P k)<|o;rw[s k e]at f;refine TB m ?_;rw[g];grind
 have z:∀k,k<r->(o)*rk _ d k=(b)*rk _ P k->a≠k:=λk e g l=>by subst l;rw[j a e g]at p;simp_all
 have v:∀{x q:Int},x<=(b)*q->x/(b)<=q:=λ{x q} g=>by have:=Int.ediv_le_ediv y g;rwa [jI _ om]at this
 have w:∀{x q:Int},x<(b)*q->x/(b)<q:=λ{x q} g=>(Int.ediv_lt_iff_lt_mul y).2 g_;rcases h with ⟨i,g,f,q⟩|⟨f,q⟩;{have x:i<=a:=g_;refine⟨i,om,λk e=>?_,?_⟩;{unfold jo;rw[zQ om,zQ om,j k om<|f k e];exact jI _ om};unfold jo;rw[zQ om,zQ om];refine w<|N8 m ?_;have m:=jA (rk a_ P i)<|o;rw[s i g]at m;have:(o)*((b)*(rk a_ P i/(o)))=(b)*rk a_ P i:=g_;omega};have y:r<=a:=g_;(have s:∀k,k<r->jo _ mx d b a k=jo _ mx P o r k:=λk e=>by unfold jo;rw[zQ om,zQ om,j k e<|f k e];exact jI _ om);(have f:jo a_ mx d b a r<=jo a_ mx P o r r:=by unfold jo;rw[zQ y,zQ<|zh _];exact v q);rcases jd f with f|j;{grind};(have f:r≠a:=by intro l;subst l;unfold jo at j;rw[zQ<|zh _,zQ<|zh _]at j;have m:=jA (rk a_ d r) (b:Int);rw[j]at m;have f:=J3 (rk a_ d r) (show(b:Int)≠0 by omega);omega);(have q:∀k,k<5->r<k->jo _ _ d b a k<=mx k:=λk e f=>by unfold jo;split;{exact v<|t k e};exact Int.le_refl _);(have v:jo a_ mx d b a a<mx a:=by unfold jo;rw[zQ<|zh _];refine w ?_;have f:=t a u;rcases jd f with f|f;{omega};simp_all);(have l:∀k,r<k->jo a_ _ P o r k=mx k:=λk e=>by unfold jo;rw[zO om]);grind
end
section
open V4
variable {a_:L_}{base:R_}{c:fF}{n r:Nat}{rg:Nat->Int×Int}
def Mc (n:Nat)(base:R_)(rg:Nat->Int×Int):Prop:=∀i,i<4->(i<n->(T.fh n i,(rg i).2)∈base/\((T.fh n i).map (λz=>-z),-(rg i).1)∈base)/\(n<=i->rg i=(0,0))
def xg (a_:L_)(rg:Nat->Int×Int)(k:Nat):Int:=
 match k with
 |0=>(if a_.getD 0 0<=0 then a_.getD 0 0*(rg 0).1 else a_.getD 0 0*(rg 0).2)+(if a_.getD 1 0<=0 then a_.getD 1 0*(rg 1).1 else a_.getD 1 0*(rg 1).2)+(if a_.getD 2 0<=0 then a_.getD 2 0*(rg 2).1 else a_.getD 2 0*(rg 2).2)+(if a_.getD 3 0<=0 then a_.getD 3 0*(rg 3).1 else a_.getD 3 0*(rg 3).2)
 |i+1=>if a_.getD i 0<=0 then -(rg i).1 else(rg i).2
def xz (a_:L_)(rg:Nat->Int×Int)(k:Nat):Int:=
 match k with
 |0=>(if a_.getD 0 0<=0 then a_.getD 0 0*(rg 0).2 else a_.getD 0 0*(rg 0).1)+(if a_.getD 1 0<=0 then a_.getD 1 0*(rg 1).2 else a_.getD 1 0*(rg 1).1)+(if a_.getD 2 0<=0 then a_.getD 2 0*(rg 2).2 else a_.getD 2 0*(rg 2).1)+(if a_.getD 3 0<=0 then a_.getD 3 0*(rg 3).2 else a_.getD 3 0*(rg 3).1)
 |i+1=>if a_.getD i 0<=0 then -(rg i).2 else(rg i).1
def nv (a_:L_)(rg:Nat->Int×Int)(k:Nat):Int:=xg a_ rg k-xz a_ rg k+1
def Gt (a_:L_)(rg:Nat->Int×Int):Int:=nv a_ rg 0*nv a_ rg 1*nv a_ rg 2*nv a_ rg 3*nv a_ rg 4
theorem I3{rows:List qO}(a:Qy n a_ c)(o:∀i r,base[i]? =E r->(r,i+1)∈rows)(hb:Mc n base rg)(s:∀r∈rows,0<=Z2 c r.1)(i:Nat)(g:i<4):(c.over:Int)*(rg i).1<=c.eW.getD i 0/\c.eW.getD i 0<=(c.over:Int)*(rg i).2:=by have b:=a.n4;obtain⟨k,l⟩:=hb i g;by_cases h:i<n;{obtain⟨v,w⟩:=k h;(have j:∀r,r∈base->0<=Z2 c r:=λr t=>by obtain⟨u,q,p⟩:=qM t;exact s _<|o u r g_);have d:=j _ v;have e:=j _ w;unfold Z2 at d e;simp only at d e;(have f:T.eO (T.fh n i) c.eW=c.eW.getD i 0:=by rw[QD (by rw[QS,a.fN]) (by rw[a.fN];omega),EY b h];obtain⟨x,y,z,A⟩:=DE<|fm c.eW;rcases nt g with rfl|rfl|rfl|rfl;{exact x};{exact y};{exact z};exact A);(have m:T.eO ((T.fh n i).map λB=>-B) c.eW=- c.eW.getD i 0:=by rw[QD (by simp[QS,a.fN]) (by rw[a.fN];omega),Ka,iF,<-QD (by rw[QS,a.fN]) (by rw[a.fN];omega),f];omega);grind};rw[l om];(have:c.eW.getD i 0=0:=by rw[zk,qL (by rw[a.fN];omega)];rfl);omega
theorem TH(a:Qy n a_ c)(h:∀i,i<4->(c.over:Int)*(rg i).1<=c.eW.getD i 0/\c.eW.getD i 0<=(c.over:Int)*(rg i).2)(k:Nat)(b:k<5):(c.over:Int)*xz a_ rg k<=rk a_ (fm c.eW) k/\rk a_ (fm c.eW) k<=(c.over:Int)*xg a_ rg k:=by
 have one:∀i,i<4->(c.over:Int)*(if a_.getD i 0<=0 then a_.getD i 0*(rg i).2 else a_.getD i 0*(rg i).1)<=a_.getD i 0*c.eW.getD i 0/\a_.getD i 0*c.eW.getD i 0<=(c.over:Int)*(if a_.getD i 0<=0 then a_.getD i 0*(rg i).1 else a_.getD i 0*(rg i).2):=by intro i d;obtain⟨a,b⟩:=h i d;have f:(c.over:Int)*(a_.getD i 0*(rg i).1)=a_.getD i 0*((c.over:Int)*(rg i).1):=g_;have g:(c.over:Int)*(a_.getD i 0*(rg i).2)=a_.getD i 0*((c.over:Int)*(rg i).2):=g_;split;{rename_i e;rw[f,g];exact⟨Rp e b,Rp e a⟩};simp_all
 cases k with |zero=>have e:=one 0 om;have e:=one 1 om;have e:=one 2 om;have e:=one 3 om;have e:rk _ (fm _) 0=a_.getD 0 0*c.eW.getD 0 0+a_.getD 1 0*c.eW.getD 1 0+a_.getD 2 0*c.eW.getD 2 0+a_.getD 3 0*c.eW.getD 3 0:=rfl;rw[e];unfold xz xg;grind |succ i=>have d:i<4:=om;obtain⟨a,b⟩:=h i d;(have f:(QV i).dot (fm c.eW)=c.eW.getD i 0:=by obtain⟨g,h,j,l⟩:=DE<|fm c.eW;rcases nt d with rfl|rfl|rfl|rfl;{exact g};{exact h};{exact j};exact l);have e:rk _ _ (i+1)=(if a_.getD i 0<=0 then(QV i).smul (-1)else QV i).dot (fm c.eW):=rfl;rw[e];unfold xz xg;simp only;split;{rw[iF,f,MR,MR];omega};omega
theorem Fw(h:∀i,i<4->(rg i).1<=(rg i).2)(k)(a:k<5):1<=nv a_ rg k:=by
 have one:∀i,i<4->(if a_.getD i 0<=0 then a_.getD i 0*(rg i).2 else a_.getD i 0*(rg i).1)<=(if a_.getD i 0<=0 then a_.getD i 0*(rg i).1 else a_.getD i 0*(rg i).2):=by intro i b;split;{rename_i a;exact Rp a<|h i b};simp_all
 unfold nv;cases k with |zero=>have:=one 0 om;have:=one 1 om;have:=one 2 om;have:=one 3 om;unfold xg xz;grind |succ i=>have:=h i om;unfold xg xz;grind
theorem LP(d:Qy n a_ c)(b:∀i,i<4->(c.over)*(rg i).1<=c.eW.getD i 0/\c.eW.getD i 0<=(c.over)*(rg i).2)(r):
 (∀i,i<5->1<=nv a_ rg i)/\∀i,i<5->xz a_ rg i<=jo a_ (xg a_ rg) (fm c.eW) c.over r i/\jo a_ (xg a_ rg) (fm c.eW) c.over r i<=xz a_ rg i+nv a_ rg i-1:=by
 have a:=d.pos;have f:∀i,i<4->(rg i).1<=(rg i).2:=λi a=>by obtain⟨_,_⟩:=b i a;exact UH (show 0<(c.over:Int)by omega) om
 have e:=Fw (a_:=a_) f;refine⟨e,λi a=>?_⟩;obtain⟨f,g⟩:=TH d b i a;have b:=e i a;have a:xz a_ rg i+nv a_ rg i-1=xg a_ rg i:=by unfold nv;omega
 rw[a];unfold nv at b;unfold jo;split;{refine⟨(Mq om).2 g_,?_⟩;have:=Int.ediv_le_ediv (show 0<(c.over:Int)by omega) g;rwa [jI _ om]at this};omega
theorem V1(p:Nat->Bool):∀(m s r:Nat) (rs:N_),(List.range' s m).filter p=r::rs->s<=r/\r<s+m/\p r=true/\∀k,s<=k->k<r->p k=false
 |0,s,r,rs,h=>by simp at h |m+1,s,r,rs,h=>by rw[List.range'_succ,Qz]at h;by_cases a:p s=true;{rw[zQ a]at h;simp only[Dd]at h;obtain⟨rfl,_⟩:=h;exact⟨zh _,om,a,λk b d=>om⟩};rw[zO a]at h;obtain⟨b,d,b,d⟩:=V1 p m (s+1) r rs h;refine⟨om,om,b,λk b b=>?_⟩;by_cases e:k=s;{subst e;simpa using a};exact d k om b
theorem Ty(h:Qy n a_ c){rs:N_}(hs:qU n a_ c=r::rs):r<5/\rk a_ (fm c.eW) r%(c.over)≠0/\∀k,k<r->rk a_ (fm c.eW) k%(c.over)=0:=by have e:=h.n4;have a:=hs;unfold qU at a;rw[OG]at a;have⟨_,_,_,b⟩:=V1 _ _ _ _ _ a;have hm:=(EE h).1 (by rw[hs];exact qA);refine⟨om,hm.2,λk d=>?_⟩;have a:=b k om d;simp only[ne_eq,decide_not,Bool.not_eq_false',Z9]at a;rwa [Df (by rw[h.kX,h.fN]) (by rw[h.fN];omega) k om]at a
theorem Vp{d:fF}(e:Qy n a_ c)(g:Qy n a_ d):E4 a_ c d=true↔c.gt a_ d:=by
 have h:=e.n4;unfold E4;rw[decide_eq_true_iff];have f:(kaq (λa b=>a*(d.over:Int)-b*(c.over:Int)) c.eW d.eW).length=n:=by simp[e.fN,g.fN]
 rw[Nz (by rw[e.kX,f]) om];have h:fm (kaq (λa b=>a*(d.over:Int)-b*(c.over:Int)) c.eW d.eW)=((fm c.eW).smul (d.over:Int)).add ((fm d.eW).smul<|-(c.over:Int)):=by (have f:∀i,(kaq (λa b=>a*(d.over:Int)-b*(c.over:Int)) c.eW d.eW).getD i 0=(d.over:Int)*c.eW.getD i 0+(-(c.over:Int))*d.eW.getD i 0:=λi=>by rw[JE sp<|by rw[e.fN,g.fN]];grind);exact ext' (f 0) (f 1) (f 2) (f 3)
 have e:∀i,rk a_ (fm _) i=(d.over)*rk a_ (fm c.eW) i-(c.over)*rk a_ (fm d.eW) i:=λi=>by rw[h,KH,JH,JH];grind
 exact⟨λh=>h.congr λi _=>e i,λh=>h.congr λi _=>(e i).symm⟩
theorem F_{d}(h:¬c.gt a_ d):d.ge a_ c:=by rcases Po (λi=>d.over*rk a_ (fm c.eW) i-c.over*rk a_ (fm d.eW) i)with a|a;{exact absurd a h};exact a.congr (λi _=>om)
theorem OL{c}{num}(h:Qy n a_ c)(d:r<5)(b:rk a_ (fm c.eW) r%(c.over)≠0)(a:∀e∈c.eN,e.num≠num):
 Qe a_ c (Zd n a_ c r) num=E (Z1 n a_ c num r)/\∃j o,yD n a_ c (Zd n a_ c r) num (Z1 n a_ c num r) j o:=by
 have k:=FI h d b;obtain⟨f,g⟩:=Od h k.len a;have d:∃a,Qe a_ c (Zd n a_ c r) num=E a:=by cases hx:Qe a_ c (Zd n a_ c r) num with |some a=>grind |none=>obtain⟨e,b,_⟩:=NV h k;grind
 obtain⟨a,b⟩:=d;have d:Z1 n a_ c num r=a:=by unfold Z1;rw[b];rfl
 grind
theorem Pm{num:Nat}(e:∀r,r∈qU n a_ c->Qy n a_ (Z1 n a_ c num r)):∀(rs:N_) (b:Option Nat) (r:Nat),(∀x∈rs,x∈qU n a_ c)->(∀x,b=E x->x∈qU n a_ c)->jF n a_ c num rs b=E r->∀x,(x∈rs\/b=E x)->(Z1 n a_ c num x).ge a_ (Z1 n a_ c num r)
 |[],b,r,_,_,h,x,a=>by rcases a with a|a;{simp at a};rw[jF]at h;rw[h]at a;cases a;exact XC _ _ |y::rs,O,r,h1,h2,h,x,a=>by rw[jF]at h;have d:=Pm e rs (E y) r (λx a=>h1 x<|qq _ a) (λx a=>by cases a;exact h1 y qA) h;rcases a with a|a;{rcases zI.1 a with rfl|a;{exact d x<|.inr rfl};exact d x<|.inl a};cases a |y::rs,E b,r,h1,h2,h,x,a=>by rw[jF]at h;have i:=h1 y qA;have g:=h2 b rfl;have d:=Pm e rs _ r (λx a=>h1 x<|qq _ a) (λx a=>by split at a;{cases a;exact i};cases a;exact g) h;by_cases f:E4 a_ (Z1 n a_ c num b) (Z1 n a_ c num y)=true;{rw[zQ f]at d;have j:=(Vp (e b g)<|e y i).1 f;have l:=d y<|.inr rfl;rcases a with a|a;{rcases zI.1 a with rfl|a;{exact l};exact d x<|.inl a};cases a;exact XD (e y i).pos j.ge l};rw[zO f]at d;have j:=F_ λh=>f<|(Vp (e b g)<|e y i).2 h;have k:=d b<|.inr rfl;rcases a with a|a;{rcases zI.1 a with rfl|a;{exact XD (e b g).pos j k};exact d x<|.inl a};cases a;exact k
def EX (n:Nat)(a_:L_)(rg:Nat->Int×Int)(eS:Nat)(rows:List qO)(c:fF)(cap:Int):Prop:=
 ∀c2 r rs,ZV a_ rows eS c= .inl c2->qU n a_ c2=r::rs->yt (xz a_ rg) (nv a_ rg) (jo a_ (xg a_ rg) (fm c2.eW) c2.over r)<cap
theorem T5{rows}{a}{fJ}(h:pS n a_ base rows c a fJ):∀r∈rows,r.2<base.length+a.length+1:=by intro r b;have⟨_,a⟩:=(h.fD r b).1;have:=jQ a;have:=h.len;omega
theorem zqV{eS:Nat}(ab:0<eS){rows:List qO}{b:List Zy}{fJ:R_}(v:Mc n base rg)(h:pS n a_ base rows c b fJ)(z:∀r∈rows,0<=Z2 c r.1){i:Nat}{rs:N_}(hs:qU n a_ c=i::rs)(w:jF n a_ c (base.length+b.length+1) (qU n a_ c) O=E r):
 EX n a_ rg eS (jw c base.length rows ++ [(Zd n a_ c r,base.length+b.length+1)]) c (yt (xz a_ rg) (nv a_ rg) (jo a_ (xg a_ rg) (fm c.eW) c.over i)):=by
 intro j r2 ae q a7;have a:=h.fL.fL;have ad:=a.n4;have p:∀m∈c.eN,m.num≠base.length+b.length+1:=λm X=>by have:=T5 h _<|h.fL.fY m X;omega
 have e:∀x,x∈qU n _ c->x<5/\rk _ _ x%(c.over)≠0:=λx d=>by have:=(EE a).1 d;exact⟨om,this.2⟩
 have u:∀x,x∈qU n _ c->Qy n _ (Z1 n _ c _ x):=λx d=>by obtain⟨_,a9,aa,s⟩:=OL a (e x d).1 (e x d).2 p;exact s.fL
 have g:r∈qU n a_ c:=by rcases F9 _ _ _ w with hm|hm;{omega};grind
 have Q:i∈qU n a_ c:=g_;have W:=Pm u _ O r (λx d=>d) (λx d=>g_) w i<|.inl Q;obtain⟨k,y,U⟩:=Ty a hs;have l:=FI a (e r g).1 (e r g).2;have o:=h.cut h.fL (e r g).1 l;have T:Qv c (jw c base.length rows ++ [(Zd n a_ c r,base.length+b.length+1)])=E (Zd n a_ c r,base.length+b.length+1):=by unfold Qv;rw[List.find?_append];(have hn:(jw c base.length rows).find? (λr=>decide (Z2 c r.1<0))=O:=by rw[P8];intro x d;have:=z x<|Vn d;simp;omega);rw[hn];have:=RP a l;simp[this]
 obtain⟨a8,a9,aa,s⟩:=OL a (e r g).1 (e r g).2 p;have Y:(Z1 n a_ c (base.length+b.length+1) r).ge a_ j/\J4 n a_ (jw c base.length rows ++ [(Zd n a_ c r,base.length+b.length+1)]) j/\∀x∈(jw c base.length rows ++ [(Zd n a_ c r,base.length+b.length+1)]),0<=Z2 j x.1:=by cases eS with |zero=>omega |succ M=>rw[ZV,T]at q;simp only[a8]at q;have a0:=Vr (r:=(Zd n _ c r,base.length+b.length+1)) o.fL s sp;obtain⟨s1,-⟩:=EH o.fD M _ a0;grind
 obtain⟨N,f,P⟩:=Y;obtain⟨_,_,_,A⟩:=OL a k y p;have R:=YJ a k (FI a k y) A;have Z:=XD (u r g).pos W N;have S:=R.Ed a.pos A.fL.pos f.fL.pos k Z;have I:=I3 a h.given v z;have t:=I3 f.fL o.given v P;obtain⟨J,K,L⟩:=Ty f.fL a7;obtain⟨B,a4,a5,a6⟩:=XR a.pos f.fL.pos J U L K (λB l=>(TH f.fL t B l).2) S;obtain⟨w1,l1⟩:=LP a I i;obtain⟨_,l2⟩:=LP f.fL t r2;exact zrR w1 l2 l1 a4 a5 a6
theorem NI{eS:Nat}(O4:10000<=eS)(OS:Mc n base rg){H:R_}(hH:H.length<=14):∀(k:Nat) (rows:List qO) (c:fF) (ls:List Zy) (fJ:R_) (cap:Int),pS n a_ base rows c ls fJ->sZ n base H rows->EX n a_ rg eS rows c cap->cap<=(k:Int)->∀m,ku n a_ base.length eS k rows c ls≠ .inr (.inr m)
 |0,rows,c,ls,fJ,cap,h,hc,nw,hk,m=>by
  rw[ku];obtain⟨s1,s2⟩:=EH h.fD eS c h.fL;obtain⟨H',q1,q2⟩:=hc.all h.fL.fL.n4 hH;cases hs:ZV a_ rows eS c using XF with
  |li=>exact absurd hs (VU h.fD q2 q1 O4 h.fL)
  |no c' r=>intro he;cases he
  |ok c'=>
   obtain⟨a1,a2,a3⟩:=s1 c' hs;simp only;cases hd:jF n a_ c' (base.length+ls.length+1) (qU n a_ c') Option.none with
   |none=>intro he;cases he
   |some r=>
    exfalso
    cases hsp:qU n a_ c' with
    |nil=>rw[hsp,jF]at hd;cases hd
    |cons r1 rs=>
     have h1:=nw c' r1 rs hs hsp;obtain⟨w1,l1⟩:=LP a1.fL (I3 a1.fL h.given OS a3) r1;have h2:=zmI w1 λi hi=>(l1 i hi).1;have hk0:cap<=0:=by simpa using hk
     omega
 |k+1,rows,c,ls,fJ,cap,h,hc,nw,hk,m=>by
  rw[ku];obtain⟨s1,s2⟩:=EH h.fD eS c h.fL;obtain⟨H',q1,q2⟩:=hc.all h.fL.fL.n4 hH;cases hs:ZV a_ rows eS c using XF with
  |li=>exact absurd hs (VU h.fD q2 q1 O4 h.fL)
  |no c' r=>intro he;cases he
  |ok c'=>
   obtain⟨a1,a2,a3⟩:=s1 c' hs;simp only;cases hd:jF n a_ c' (base.length+ls.length+1) (qU n a_ c') Option.none with
   |none=>intro he;cases he
   |some r=>
    have n4:=a1.fL.n4;have hm:r∈qU n a_ c':=by
     rcases F9 _ _ _ hd with hm|hm
     ·exact hm
     ·cases hm
    obtain⟨m1,m2⟩:=(EE a1.fL).1 hm;have hi:=h.to a1;cases hsp:qU n a_ c' with
    |nil=>rw[hsp]at hm;cases hm
    |cons r1 rs=>
     have h1:=nw c' r1 rs hs hsp;have hcap':=zqV (eS:=eS) (by omega) OS hi a3 hsp hd;refine NI O4 OS hH k _ _ _ _ _ (hi.cut a1 (by omega)<|FI a1.fL (by omega) m2) (hc.cut a1.fL _ (T5 hi)<|by omega) hcap' ?_ m;omega
end
section
variable {w:H}
theorem QG.open{r}{x}(h:QG w r x):∃(fa:A_) (fc:Nat) (t:WT) (ts:List _),r=⟨(fa,ts.length,fc),t⟩/\ts.length=x.1.length/\ZS w 88 (V fa ts.length fc) 2 (ts.map WT.cells)/\(∀(i:Nat) t z,ts[i]? =E t->x.1[i]? =E z->zy w t.val z)/\zy w t.val x.2:=by obtain⟨⟨fa,_,fc⟩,t⟩:=r;obtain⟨⟨ts,b,a,d⟩,hm⟩:=h;obtain⟨_,_,e⟩:=a.shape;rw[zm]at e;simp only[RW.fv,qp]at e;obtain⟨rfl,rfl,rfl⟩:=e;exact⟨_,_,t,_,rfl,b,a,d,hm⟩
theorem B5(K)(hK:K<=1073741823)(w)(r s)(x y)(h:QG w r x)(k:QG w s y)(hl:x.1.length=y.1.length)(hn:x.1.length<=100000)(bx:(∀z∈x.1,z.natAbs<4294967296^K)/\x.2.natAbs<4294967296^K)(al:(∀z∈y.1,z.natAbs<4294967296^K)/\y.2.natAbs<4294967296^K):
 C_ 96 #[r.val,s.val] w λe w'=>e=Xa (G (decide (x=y)))/\b_ w w':=by
 obtain⟨fa,l,⟨F,C,J,I⟩,a,rfl,b,p,g,hm⟩:=h.open;obtain⟨m,o,⟨N,L,Q,P⟩,ss,rfl,an,a2,ao,au⟩:=k.open;have ae:ss.length=a.length:=om;rw[ae]at a2⊢;simp only[RW.val,RW.fv,WT.sv,WT.val]at p hm a2 au⊢;have H1:=zf b;have H2:=zf p;have H3:=zf g;have aT:=zf an;have ax:=zf a2;have ay:=zf ao;have aE:=zf ae;have aW:a.length<=100000:=om;have ah:=zf bx;have ai:=zf al;clear b p g an a2 ao ae bx al h k;have a5:Ext w (((w.alloc<|cl #[V fa a.length l,G F,V C J I] 90).alloc<|cl #[V m a.length o,G N,V L Q P] 90).alloc<|cl #[G false] 4):=(((Xe w).alloc _).alloc _).alloc _;have a3:(((w.alloc _).alloc<|cl #[V m a.length o,G N,V L Q P] 90).alloc<|cl #[G false] 4).heap[w.heap.size]? =E (cl #[V fa a.length l,G F,V C J I] 90):=(qH _ _ _ so).trans (Xi w _ _).1;have a4:(((w.alloc<|cl #[V fa a.length l,G F,V C J I] 90).alloc _).alloc<|cl #[G false] 4).heap[w.heap.size+1]? =E (cl #[V m a.length o,G N,V L Q P] 90):=(qH _ _ _ sp).trans (Xi w _ _).2;have a9:(((w.alloc<|cl #[V fa a.length l,G F,V C J I] 90).alloc<|cl #[V m a.length o,G N,V L Q P] 90).alloc<|cl #[G false] 4).heap[w.heap.size+1+1]? =E (cl #[G false] 4):=by have:=zC ((w.alloc<|cl #[V fa a.length l,G F,V C J I] 90).alloc<|cl #[V m a.length o,G N,V L Q P] 90)<|cl #[G false] 4;simpa using this
 refine Q0 func96 ntmps96 (h:=?_);gi_wp2;generalize kah _ _=j at *;refine(zq.2<|Kz _ m _ l _ o j).mono<|eU λf a7=>?_;have Y:Ext j f:=by rw[a7];exact((Xe j).alloc _).alloc _
 have k1:f.cell? (y_ j 0)=E (V fa a.length l):=by rw[a7];exact c_ 0 (Xi _ _ _).1
 have k2:f.cell? (x_ j 0)=E (V m a.length o):=by rw[a7];exact c_ 0 (Xi _ _ _).2
 clear a7;have t:=a5.trans Y;have HM:=zf λa0 (q:Ext j a0)=>Xc (q.cell<|c_ 0 a3)<|Xc (q.cell<|c_ 1 a3)<|Xc (q.cell<|c_ 2 a3)<|Xc (q.cell<|c_ 0 a4)<|Xc (q.cell<|c_ 1 a4)<|q.cell<|c_ 2 a4;have HR:=zf λa0 (q:Ext j a0)=>eK q a9;clear a3 a4 a9;gi_wp2;refine ZT (Ic a _ aE.out.symm fa m l o _ _ om) rfl (qW func198 kr rfl) (λk aS a0=>g_) (kP f (w.heap.size+1+1) a.length λi=>x.1.getD i 0=y.1.getD i 0) (kO w (w.heap.size+1+1) λi=>x.1.getD i 0=y.1.getD i 0) (λa1=>a1=w.heap.size+1+1) ?hI ?hIx ?hC ?h0 ?round ?done ?stop;case hI=>exact λk M A aw h hk=>h.eL hk
 case hIx=>exact λc k A aw h hk=>h.eL hk t.size
 case hC=>rintro k M A ⟨b,p,g,U⟩;refine⟨⟨b.cell k1,b.cell k2,(H2.out.ext<|t.trans b).gD,(ax.out.ext<|t.trans b).gD⟩,λa1 hb=>?_⟩;have:=(zd.1<|HR.out A<|Y.trans b).1;grind
 case h0=>exact⟨Xe _,qo _,λi hi=>om,λa1=>Qb⟩
 case round=>rintro l2 k aS M A aN ⟨t0,s0,aR,aQ,rfl⟩ ⟨b,p,g,U⟩;(have aP:k<x.1.length:=by have:=H1.out;omega);have aO:k<y.1.length:=om;have hz:x.1[k]? =E (x.1.getD k 0):=g_;have af:y.1[k]? =E (y.1.getD k 0):=g_;have aa:=(H3.out k _ _ aR hz).below<|t.trans b;have ab:=(ay.out k _ _ aQ af).below<|t.trans b;have ap:=ah.out.1 _<|zx hz;have aq:=ai.out.1 _<|zx af;obtain⟨z,hzz⟩:∃z,x.1.getD k 0=z:=⟨_,rfl⟩;obtain⟨z',hzz'⟩:∃z,y.1.getD k 0=z:=⟨_,rfl⟩;rw[hzz]at aa ap;rw[hzz']at ab aq;have aj:=zf hzz;have ak:=zf hzz';clear hzz hz hzz' af;obtain⟨yb,ya,yl,yc⟩:=t0;obtain⟨pb,pa,pl,pc⟩:=s0;simp only[WT.val,WT.sv]at aa ab⊢;unfold Zz;gi_wp2;refine⟨Xh<|((Xe A).alloc _).alloc _,λZ ad=>?_⟩;have xA:=((zn.alloc _ A _).trans<|zn.alloc _ _ _).trans ad;have xE:Ext f Z:=xA.below b (zh _)<|zh _;have e0:=ad.block _ _ (Xi A (cl _ 88) _).1<|.inr rfl;have e1:=ad.block _ _ (Xi A _<|cl _ 88).2<|.inr rfl;obtain ⟨d0,d1⟩:=d_ e0;obtain ⟨d2,d3⟩:=d_ e1;have aF:=aa.eL xA;have aG:=ab.eL xA;gi_wp2;refine(Zq _<|zq.2<|KU Z _ _ z _ K hK aF aG ap aq).mono<|gP λd c ⟨a6,u,aI,aJ,B⟩=>?_;have R:=xE.trans<|Xg B;have S:=HR.out d<|Y.trans R;have c3:=c_ 0 S;have f3:=Xf (j:=0) S;by_cases av:c=0;{have aB:=zf<|u.1 av;have HF:Hid (ZL M (kP f _ _ _) (kO w (w.heap.size+1+1) λi=>x.1.getD i 0=y.1.getD i 0) k A Z .normal { tmps:=#[],defers:= [] } d):=⟨Xh B,M,⟨R,aN,λi hi=>by rcases Qc i k with h|h;{exact g i h};have:i=k:=om;rw[this,aj.out,ak.out];omega,U⟩,λy hy=> .inl hy⟩;clear a6 u;gi_wp2;exact HF.out};have aC:=zf λh=>av<|u.2 h;have HF:Hid (ZL M (kP f (w.heap.size+1+1) a.length λi=>x.1.getD i 0=y.1.getD i 0) (kO w _ λi=>x.1.getD i 0=y.1.getD i 0) k A Z .ret { tmps:=#[],defers:= [] }<|d.setCell (w_ w 0) _):=⟨(Xh B).trans<|zv ((U _).2 rfl) _,rfl,(λh=>aC.out<|aj.out.symm.trans<|h.trans ak.out),Below.setCell (t.trans R) so _,zN _ _ _ c3⟩;clear a6 u;gi_wp2;exact HF.out
 case done=>rintro D M A hD ⟨b,p,g,U⟩ W;have a8:=Y.trans b;obtain⟨_,_,_,_,_,_⟩:=HM.out A a8;(have az:Hid (x.1=y.1):=by rw[Hid];apply List.ext_getElem hl;intro i hi aM;have:x.1.getD i 0=y.1.getD i 0:=g i (by have:=H1.out;omega);rw[zk,zg hi,zk,zg aM]at this;exact this);have aD:=zf<|KU A _ _ _ _ K hK (hm.below<|a5.trans a8) (au.below<|a5.trans a8) ah.out.2 ai.out.2;clear g;gi_wp2;refine(zq.2 aD.out).mono<|gP λd c ⟨a6,u,aI,aJ,B⟩=>?_;have R:=a8.trans<|Xg B;have S:=HR.out d R;have c3:=c_ 0 S;have f3:=Xf (j:=0) S;have aK:=((Xg B).block D (zd.1 W).1).trans W;have aU:=(zd.1<|HR.out f Y).1;(have aA:Hid ((c == 0)=decide (x=y)):=by rw[Hid,Hy,beq_iff_eq,decide_eq_true_iff,u];exact⟨λh=>Prod.ext az.out h,λh=>by rw[h]⟩);clear a6 u;generalize aV:(c == 0)=v at *;gi_wp2;have ar:(d.setCell (w_ w 0)<|G v).heap[D]? =E (.deferred _):=(qC _ _ _ _ so).trans aK;refine qh ar ?_;have X:zn _ _ ((d.setCell _ _).putObj D<|.deferred O):=zn.putObj _ hD ar rfl;have c9:=X.cell<|zN _ _ _ c3;have aH:b_ w (d.setCell (w_ w 0)<|G v):=Below.setCell (a5.trans R) so _;exact⟨G v,by simp[results,results96,go_sem,c9],by rw[aA.out],(X.mono t.size).below aH (zh _)<|zh _⟩
 case stop=>rintro D c k A hD hk ⟨rfl,b,p,g⟩ W;gi_wp2;refine qh W ?_;have X:zn _ A (A.putObj D<|.deferred O):=zn.putObj _ hD W rfl;have c9:=X.cell g;have aL:decide (x=y)=false:=g_;exact⟨G false,by simp[results,results96,go_sem,c9],g_,(X.mono t.size).below p (zh _)<|zh _⟩
theorem LZ{g b j}{u d e}(f:b≠g)(h:w.cell? (Xd b j O)=E u):((w.setCell (Xd g 0 O) d).setCell (Xd g 1 O) e).cell? (Xd b j O)=E u:=by rw[Zj];{exact h};exact(qC _ _ _ _ so).trans (qC _ _ _ _ so)
theorem ZS.lt{t}{v}{size}{a}(h:ZS w t v size a):∀g,v.ownBlock=E g->g<w.heap.size:=by intro g a;rcases h with ⟨e,_⟩|⟨b,off,_,e,_,d,_⟩;{rw[e]at a;cases a};rw[e]at a;(have:b=g:=by simpa[kaj]using a);rw[<-this];exact d.lt
theorem ZS.vU{U:Nat->Prop}{w':H}{t:TypeId}{v:Value}{size:Nat}{a:List (List Value)}(h:ZS w t v size a)(e:Wr U w w')(j:∀g,v.ownBlock=E g->¬U g):ZS w' t v size a:=by rcases h with h|⟨g,off,f,a,i,b,k⟩;{exact kai h};have d:=j g (by rw[a];rfl);exact kac ⟨g,_,f,a,i,b.same<|e.block g b.lt d,λi cs a j u b=>e.cell d<|k i cs a j u b⟩
def Ch (w1:H)(gs n:Nat)(d:Nat->Int)(k:Nat)(M:Nat->Prop)(A:H):Prop:=
 Wr (λb=>b=gs) w1 A/\k<=n/\(∃(t:WT) (fr:Nat×Nat),A.heap[gs]? =E (cl #[G t.b,t.sv] 88 fr)/\A.frozen? (Xd gs 0 O)=false/\A.frozen? (Xd gs 1 O)=false/\zy A t.val (d k))/\∀b,M b↔b=gs
theorem Ch.eL{w1 A B:H}{b n:Nat}{d:Nat->Int}{k:Nat}{M:Nat->Prop}(h:Ch w1 b n d k M A)(g:zn w1.heap.size A B):Ch w1 b n d k M B:=by obtain⟨j,l,⟨t,i,f,m,o,p⟩,q⟩:=h;have e:=g.block _ _ f<|.inr rfl;exact⟨j.eL g,l,⟨t,i,e,(qw<|e.trans f.symm).trans m,(qw<|e.trans f.symm).trans o,p.eL g⟩,q⟩
theorem SI(fa a:A_)(fl fc d b)(w):
 C_ 169 #[ag #[V fa fl fc],V a d b] w λe w'=>e=Xa (.func (.func 198) #[] #[p_ (w.heap.size+1) 0,p_ (w.heap.size+1+1) 0])/\w'=((w.alloc (cl #[V fa fl fc] 84)).alloc (cl #[V fa fl fc] 82)).alloc (cl #[V a d b] 82):=by go_enter func169,ntmps169;go_wp2_with fail;refine(Kz _ a _ _ d b _).mono<|fB ?_;go_wp2;go_ret;simp
theorem PK(K:Nat)(f:K+K<=1073741823)(w:H)(fa X:A_)(fc Y:Nat)(ts Q:List WT)(zs xs:L_)(h1:ts.length=zs.length)(h2:ZS w 88 (V fa ts.length fc) 2 (ts.map WT.cells))(q:∀(i:Nat) (t:WT) (z:Int),ts[i]? =E t->zs[i]? =E z->zy w t.val z)(ax:Q.length=xs.length)(ad:ZS w 88 (V X Q.length Y) 2 (Q.map WT.cells))(ay:∀(i:Nat) (t:WT) (z:Int),Q[i]? =E t->xs[i]? =E z->zy w t.val z)(hl:zs.length=xs.length)(hn:zs.length<=100000)(bz:∀z∈zs,z.natAbs<4294967296^K)(bx:∀z∈xs,z.natAbs<4294967296^K)(bm:∀a∈zs,∀b∈xs,(a*b).natAbs<4294967296^K)(bs:∀j,(T.eO (zs.take j) (xs.take j)).natAbs<4294967296^K):
 C_ 95 #[ag #[V fa ts.length fc],V X Q.length Y] w λe w'=>∃t:WT,e=Xa t.val/\zy w' t.val (T.eO zs xs)/\b_ w w':=by
 have an:Q.length=ts.length:=om;rw[an]at ad⊢;have H1:=zf h1;have H2:=zf h2;have H3:=zf q;have bc:=zf ax;have au:=zf ad;have aN:=zf ay;have aU:=zf an;have bg:ts.length<=100000:=om;have aR:=zf bz;have aQ:=zf bx;have aO:=zf bm;have aP:=zf bs;clear h1 h2 q ax ad ay an bz bx bm bs;have aX:Ext w (((w.alloc<|cl #[V fa ts.length fc] 84).alloc<|cl #[G false,V_] 88).alloc<|cl #[G false,V_] 88):=(((Xe w).alloc _).alloc _).alloc _;have aW:(((w.alloc _).alloc<|cl #[G false,V_] 88).alloc<|cl #[G false,V_] 88).heap[w.heap.size]? =E (cl #[V fa ts.length fc] 84):=(qH _ _ _ so).trans (Xi w _ _).1;have af:(((w.alloc<|cl #[V fa ts.length fc] 84).alloc _).alloc<|cl #[G false,V_] 88).heap[w.heap.size+1]? =E (cl #[G false,V_] 88):=(qH _ _ _ sp).trans (Xi w _ _).2;have ae:(((w.alloc<|cl #[V fa ts.length fc] 84).alloc<|cl #[G false,V_] 88).alloc<|cl #[G false,V_] 88).heap[w.heap.size+1+1]? =E (cl #[G false,V_] 88):=by have:=zC ((w.alloc<|cl #[V fa ts.length fc] 84).alloc<|cl #[G false,V_] 88)<|cl #[G false,V_] 88;simpa using this
 refine Q0 func95 ntmps95 (h:=?_);gi_wp2;generalize (((w.alloc<|cl #[V fa ts.length fc] 84).alloc<|cl #[G false,V_] 88).alloc<|cl #[G false,V_] 88)=u at *;refine(zq.2<|SI _ X _ _ _ Y u).mono<|eU λv aa=>?_;have x1:Ext u v:=by rw[aa];exact(((Xe u).alloc _).alloc _).alloc _
 have k1:v.cell? (x_ u 0)=E (V fa ts.length fc):=by rw[aa];exact(((Xe _).alloc _).cell<|c_ 0 (Xi _ _ _).2)
 have k2:v.cell? (w_ u 0)=E (V X ts.length Y):=by rw[aa];have:=c_ 0<|zC ((u.alloc<|cl #[V fa ts.length fc] 84).alloc<|cl #[V fa ts.length fc] 82)<|cl #[V X ts.length Y] 82;simpa using this
 clear aa;have J:=aX.trans x1;have aZ:=(zd.1 ae).1;have a1:=(x1.block _ aZ).trans ae;have HR:=zf<|eK x1 af;clear aW ae af;have bh:=x1.size;gi_wp2;refine ZT (Ic _ Q aU.out.symm fa X fc Y _ _ om) rfl (qW func198 kr rfl) (λk ba W=>g_) (Ch v (w.heap.size+1+1) ts.length λk=>T.eO (zs.take k)<|xs.take k) (λ_ _ _=>False) (λb=>b=w.heap.size+1+1) ?hI ?hIx ?hC ?h0 ?round ?done ?stop;case hI=>exact λk a3 A bb N hk=>N.eL hk
 case hIx=>grind
 case hC=>rintro k a3 A ⟨h1,h2,⟨t,fr,q,-⟩,h4⟩;refine⟨⟨h1.cell so k1,h1.cell so k2,((H2.out.ext J).vU h1 λab hg e=>by have:=H2.out.lt _ hg;omega).gD,((au.out.ext J).vU h1 λab hg e=>by have:=au.out.lt _ hg;omega).gD⟩,λb s=>?_⟩;grind
 case h0=>exact⟨Xk _ _,qo _,⟨⟨_,O,0,0⟩,_,a1,Xf a1,Xf a1,⟨_,_,rfl,Xo _ _ _,rfl⟩⟩,λb=>Qb⟩
 case round=>rintro l2 k ba a3 A b4 ⟨t0,s0,b8,b7,rfl⟩ ⟨h1,h2,⟨⟨h,g,m,l⟩,fr,q,aj,ak,Z⟩,h4⟩;(have a9:k<zs.length:=by have:=H1.out;omega);have a8:k<xs.length:=om;have hz:=zg a9;have aI:=zg a8;(have aD:∀b,b=w.heap.size+1+1->qK v b:=λb s=>by rw[s];exact zE a1 (by intro aL I;simp at I;rcases I with rfl|rfl<;>(intro n e;grind)));have ah:=((H3.out k _ _ b8 hz).below J).wr h1 aD;have ai:=((aN.out k _ _ b7 aI).below J).wr h1 aD;have aA:=aR.out _<|zJ a9;have aB:=aQ.out _<|zJ a8;have a0:=aO.out _ (zJ a9) _<|zJ a8;have av:=zf<|T.AM a9 a8;have a5:=aP.out k;generalize zs[k]=z at *;generalize xs[k]=R at *;obtain⟨L,BZ⟩:∃L,T.eO (zs.take k) (xs.take k)=L:=⟨_,rfl⟩;(have az:zy A (ag #[G h,V g m l]) L:=by rw[<-BZ];exact Z);rw[BZ]at a5 av;have bd:=zf BZ;clear hz aI BZ Z;obtain⟨yb,ya,yl,yc⟩:=t0;obtain⟨pb,pa,pl,pc⟩:=s0;simp only[WT.val,WT.sv]at ah ai q⊢;unfold Zz;gi_wp2;refine⟨Xh<|((Xe A).alloc _).alloc _,λd al=>?_⟩;have xA:=((zn.alloc _ A _).trans<|zn.alloc _ _ _).trans al;have e0:=al.block _ _ (Xi A (cl _ 88) _).1<|.inr rfl;have e1:=al.block _ _ (Xi A _<|cl _ 88).2<|.inr rfl;have M:=xA.block _ _ q<|.inr rfl;have be:=(zd.1 q).1;have a6:=(zd.1 M).1;have a2:Hid (∀W,Ext d W->W.cell? (y_ A 0)=E (G _)/\W.cell? (y_ A 1)=E (V _ _ _)/\W.cell? (x_ A 0)=E (G _)/\W.cell? (x_ A 1)=E (V _ _ _)):=λW hW=>⟨hW.cell<|c_ 0 e0,hW.cell<|c_ 1 e0,hW.cell<|c_ 0 e1,hW.cell<|c_ 1 e1⟩;have ap:d.cell? (w_ w 0)=E (G h):=c_ 0 M;have aq:d.cell? (w_ w 1)=E (V g m l):=c_ 1 M;have aJ:=(qw (a:=(w_ w 0))<|M.trans q.symm).trans aj;have aK:=(qw (a:=(w_ w 1))<|M.trans q.symm).trans ak;(have aw:Hid (C_ 136 #[ag #[G yb,V ya yl yc],ag #[G pb,V pa pl pc]] d.drew λe w'=>∃t:WT,e=Xa (ag #[G t.b,V t.s.1 t.s.2.1 t.s.2.2])/\zy w' (ag #[G t.b,V t.s.1 t.s.2.1 t.s.2.2]) (z*R)/\Below d.drew.heap.size d.drew w'):=by refine(AZ d.drew _ _ z R K K f (ah.eL<|xA.trans<|zn.drew _ _) (ai.eL<|xA.trans<|zn.drew _ _) aA aB).mono ?_;rintro e w' ⟨aM,rfl,P,s⟩;obtain⟨t,rfl⟩:=P.shape;exact⟨t,rfl,P,s⟩);(have aT:Hid (∀W,Ext d W->∀ao,zy W ao (z*R)->C_ 85 #[ag #[G h,V g m l],ao] W λe w'=>∃t:WT,e=Xa (ag #[G t.b,V t.s.1 t.s.2.1 t.s.2.2])/\zy w' (ag #[G t.b,V t.s.1 t.s.2.1 t.s.2.2]) (L+z*R)/\b_ W w'):=by intro W hW ao hq;refine(FV W _ _ L (z*R) K om ((az.eL xA).below hW) hq a5 a0).mono<|eP λw' aM P s=>?_;obtain⟨t,rfl⟩:=P.shape;exact⟨t,rfl,P,s⟩);(have aS:Hid (∀(o:H) (B:Bool) (y:A_) (D C:Nat),Ext d o->zy o (ag #[G B,V y D C]) (L+z*R)->ZL a3 (Ch v (w.heap.size+1+1) ts.length λk=>T.eO (zs.take k)<|xs.take k) (λ_ _ _=>False) k A d .normal { tmps:=#[],defers:= [] } ((o.setCell (w_ w 0)<|G B).setCell (w_ w 1)<|V y D C)):=by intro o B y D C x hq;have e4:=(x.block _ a6).trans M;have aG:Wr (λb=>b=w.heap.size+1+1) o ((o.setCell (w_ w 0)<|G B).setCell (w_ w 1)<|V y D C):=(zv (U:=λb=>b=w.heap.size+1+1) rfl _).trans<|zv (U:=λb=>b=w.heap.size+1+1) rfl _;have aF:=(Xh x).trans aG;(have e5:((o.setCell (w_ w 0)<|G B).setCell (w_ w 1)<|V y D C).heap[w.heap.size+1+1]? =E (cl #[G B,V y D C] 88 fr):=by rw[Xl<|Xl e4];rfl);(have b5:∀b,b=w.heap.size+1+1->qK o b:=λb s=>by rw[s];exact zE e4 (by intro aL I;simp at I;rcases I with rfl|rfl<;>(intro n e;grind)));have f4:=λj=>qw (w:=d) (a:=(w_ w j))<|x.block _ a6;refine⟨aF.mono λb s=>(h4 b).2 s,a3,⟨(h1.eL xA).trans aF,b4,⟨⟨B,y,D,C⟩,fr,e5,?_,?_,?_⟩,h4⟩,λaM P=> .inl P⟩;{simp_all};{simp_all};have e6:=av.out;show zy _ _ (T.eO _ _);rw[e6];exact hq.wr aG b5);obtain⟨b0,b1,b2,b3⟩:=a2.out d<|Xe _;clear e0 e1 M h1 q aj ak ah ai az aA aB a0 a5;refine ZW ?_;refine jK (S:=λW=>W.cell? _=E _/\W.cell? _=E _/\W.cell? _=E _/\W.cell? _=E _) kr g_ (λ⟨a,w,N⟩=>N) ⟨b0,b1,b2,b3⟩ λa4=>?_;refine iX 1 ?_;refine iX 2 ?_;refine rN 0 3 (h:=λK f=>?_) (h1:=λK f=>?_);go_simp;refine f.out _ _ am (h:=λa4=>?_);clear f K;refine fR 3 λK f=>?_;go_simp;refine aw.out.mono<|eP λA3 ⟨qb,qa,ql,qc⟩ aE a0=>?_;have F:=ZG a0;have s3:=F.cell ap;have s4:=F.cell aq;go_wp2_with fail;rotate_left;go_simp;refine aw.out.mono<|eP λA3 ⟨qb,qa,ql,qc⟩ aE a0=>?_;have F:=ZG a0;have s3:=F.cell ap;have s4:=F.cell aq;go_wp2_with fail;refine f.out _ _ (by exact a2.out _ F) (h:=λa4=>?_);clear f K;refine fR 0 λK f=>?_;go_simp;rotate_left;all_goals refine f.out _ _ (by exact a2.out _ F) (h:=λa4=>?_);clear f K;refine fV 4 (aT.out _ F _ aE)<|eP λo ⟨B,y,D,C⟩ b6 a5=>?_;have x:=F.trans<|Xg a5;have bi:=x.cell ap;have r4:=x.cell aq;have bj:=(qw<|x.block _ a6).trans aJ;have bl:=(qw<|x.block _ a6).trans aK;refine bk (by exact a2.out _ x) λa4=>?_;refine fR 5 λK f=>?_;go_simp;refine f.out _ _ (by have f:=a2.out o x;exact⟨LZ om f.1,LZ om f.2.1,LZ om f.2.2.1,LZ om f.2.2.2⟩) (h:=λa4=>?_);clear f K;refine zV kr ?_ _;exact aS.out o B y D C x b6
 case done=>rintro ar a3 A hD ⟨h1,h2,⟨⟨h,g,m,l⟩,fr,q,aj,ak,Z⟩,h4⟩ hd;simp only[WT.sv,WT.val]at q Z;obtain ⟨m0,m1⟩:=d_ q;have r1:=h1.some HR.out λe=>om;obtain ⟨c0,c1⟩:=d_ r1;have f0:=Xf (j:=0) r1;have f1:=Xf (j:=1) r1;(have H5:Hid (zy A (ag #[G h,V g m l])<|T.eO zs xs):=by (have e:T.eO (zs.take ts.length) (xs.take ts.length)=T.eO zs xs:=by rw[zP (by have:=H1.out;omega),zP (by have:=H1.out;omega)]);rw[<-e];exact Z);have bf:=(zd.1 HR.out).1;clear Z;gi_wp2;have aC:((A.setCell (x_ w 0)<|G h).setCell (x_ w 1)<|V g m l).heap[ar]? =E (.deferred _):=(qC _ _ _ _ so).trans<|(qC _ _ _ _ so).trans hd;refine qh aC ?_;have a7:zn _ _ (((A.setCell _ _).setCell _ _).putObj _<|.deferred O):=zn.putObj _ hD aC rfl;have aH:Wr _ A ((A.setCell (x_ w 0)<|G h).setCell (x_ w 1)<|V g m l):=(zv (U:=λb=>b=w.heap.size+1) rfl _).trans<|zv (U:=λb=>b=w.heap.size+1) rfl _;(have e9:((A.setCell (x_ w 0)<|G h).setCell (x_ w 1)<|V g m l).heap[w.heap.size+1]? =E (cl #[G h,V g m l] 88):=by rw[Xl<|Xl r1];rfl);have c9:=a7.cell<|c_ 0 e9;have aV:=a7.cell<|c_ 1 e9;have b9:=H5.out.wr aH (λb s=>by rw[s];exact zE r1 (by intro aL I;simp at I;rcases I with rfl|rfl<;>(intro n e;grind)));have aY:=(Qg J<|h1.below J.size λb s=>om).trans<|aH.below g_ λb s=>om;exact⟨ag #[G h,V g m l],by simp[results,results95,go_sem,c9,aV],⟨h,g,m,l⟩,rfl,b9.eL a7,(a7.mono J.size).below aY (zh _)<|zh _⟩
 grind
end
section
variable {a:List (Int×Nat)×(Int×Nat)}{w w':H}
theorem ug(K:Nat)(t:K+K<=1073741823)(w:H)(r:RW)(x:L_×Int)(h:QG w r x)(pa:A_)(d p:Nat)(xs:L_)(I:Zo w (V pa d p) xs)(q:x.1.length=xs.length)(J:x.1.length<=100000)(y:∀z∈x.1,z.natAbs<4294967296^K)(v:∀z∈xs,z.natAbs<4294967296^K)(bm:∀a∈x.1,∀b∈xs,(a*b).natAbs<4294967296^K)(o:∀j,(T.eO (x.1.take j) (xs.take j)).natAbs<4294967296^K)(u:x.2.natAbs<4294967296^K):
 C_ 168 #[r.val,V pa d p] w λe w'=>e=Xa (G (decide (T.eO x.1 xs<=x.2)))/\b_ w w':=by
 obtain⟨fa,f,⟨i,g,l,k⟩,m,rfl,C,D,F,hm⟩:=h.open;obtain⟨L,A,s,B⟩:=I;obtain⟨_,_,e⟩:=s.shape;rw[zm]at e;simp only[qp]at e;obtain⟨rfl,rfl,rfl⟩:=e;simp only[RW.val,RW.fv,WT.sv,WT.val]at hm⊢;have I:=zf λW (d)=>PK K t W _ _ f p m L _ _ C (D.ext d) (λp t z a b=>(F p t z a b).below d) A (s.ext d) (λp t z a b=>(B p t z a b).below d) q J y v bm o;have t:(T.eO x.1 xs).natAbs<4294967296^K:=by have:=o x.1.length;rw[Zx,q,Zx]at this;exact this
 have J:Hid (∀W (d:Ext w W) q,zy W q (T.eO x.1 xs)->C_ 46 #[q,ag #[G i,V g l k]] W λe w'=>∃c:Int,e=Xa (i_ c)/\decide (c<=0)=decide (T.eO x.1 xs<=x.2)/\b_ W w'):=by intro W d q p;refine(KU W _ _ _ x.2 K om p (hm.below d) t u).mono<|gP λw' c ⟨_,_,_,_,p⟩=>?_;refine⟨c,rfl,?_,p⟩;rw[MP];omega
 have q:Ext w (w.alloc<|cl #[V fa m.length f,G i,V g l k] 90):=(Xe w).alloc _;have p:=zC w<|cl #[V fa m.length f,G i,V g l k] 90;clear C D F A s B y v bm o u t;go_enter func168,ntmps168;go_wp2_with fail;generalize w.alloc (cl #[V fa m.length f,G i,V g l k] 90)=o at *;have s:=zf λW (d:Ext o W)=>Xc (d.cell<|c_ 0 p)<|Xc (d.cell<|c_ 1 p)<|d.cell<|c_ 2 p;have d:=Xe o;obtain⟨_,_,_⟩:=s.out o d;clear p;go_region_held3 (λW=>W.cell? (y_ w 0)=E (V fa m.length f)/\W.cell? (y_ w 1)=E (G i)/\W.cell? (y_ w 2)=E (V g l k)) (first|(exact s.out _ ea)|go_keep) (first|(go_at_call 46;have d:=d;refine(J.out i (q.trans d) _ k).mono<|eP λl c g f=>?_;have m:=d.trans<|Xg f)|(go_at_call 95;refine(I.out _<|by first|exact q.drew|exact q).mono<|eP λi ⟨_,_,_,_⟩ k f=>?_;have d:=(by first|exact ZG f|exact Xg f);simp only[WT.val,WT.sv]));all_goals have d:=zf g;clear g;go_wp2;go_ret;exact⟨sp,q.trans m⟩
structure BT where
 m:T.fK
 f:S_
def BT.fv (b:BT):Value:=V b.f.1 b.f.2.1 b.f.2.2
def BT.val (b:BT):Value:=ag #[G b.m.b,b.m.up,b.m.down,b.fv]
def gY (w:H)(b:BT)(acc:List (Int×Nat)×(Int×Nat)):Prop:=m_ w b.fv acc.1/\Qa w b.m.val acc.2.1 acc.2.2
theorem gY.eL{B}{b}(h:gY w b a)(d:zn B w w'):gY w' b a:=⟨h.1.eL d,h.2.eL d⟩
theorem gY.ext{b}(h:gY w b a)(d:Ext w w'):gY w' b a:=h.eL (B:=0) (zn.eX d)
theorem gY.wr{U}{b}(h:gY w b a)(e:Wr U w w')(d:∀k,U k->¬qQ w k 194/\qK w k):gY w' b a:=⟨h.1.wr e d,h.2.wr e λk a=>(d k a).2⟩
theorem r8(w):Qa w (ag #[G false,V_,V_]) 0 1:=⟨false,_,_,rfl,Xo _ _ _,rfl,Xo _ _ _,om,rfl⟩
theorem ux:(Tryz.prog.info? 194).map (λi=>(i.zero,i.size,i.bytes))=E (E (ag #[G false,V_,V_]),3,56):=kr
def Mw (q:Nat->Int×Nat)(A:H)(i:Nat)(u:T.fK):Prop:=Qa A u.val (q i).1 (q i).2
theorem m_.open{fa:A_}{fl fc}{a}(h:m_ w (V fa fl fc) a):∃ts:List _,fl=ts.length/\ts.length=a.length/\ZS w 194 (V fa ts.length fc) 3 (ts.map T.fK.cells)/\∀(i:Nat) t q,ts[i]? =E t->a[i]? =E q->Qa w t.val q.1 q.2:=by obtain⟨ts,b,a,d⟩:=h;obtain⟨_,_,e⟩:=a.shape;grind
theorem rM(K:Nat)(hK:K+K+1<=1073741800)(w:World)(b:BT)(r:RW)(z:T.fK)(acc:List (Int×Nat)×(Int×Nat))(x:L_×Int)(fz:Int×Nat)(hb:gY w b acc)(hr:QG w r x)(hz:Qa w z.val fz.1 fz.2)(hl:acc.1.length=x.1.length)(hn:acc.1.length<=100000)(ba:(∀a∈acc.1,a.1.natAbs<4294967296^K/\a.2<4294967296^K)/\acc.2.1.natAbs<4294967296^K/\acc.2.2<4294967296^K)(bx:(∀g∈x.1,g.natAbs<4294967296^K/\(fz.1*g).natAbs<4294967296^K)/\x.2.natAbs<4294967296^K/\(fz.1*x.2).natAbs<4294967296^K)(bf:fz.1.natAbs<4294967296^K/\fz.2<4294967296^K):
 Calls Tryz.prog 178 #[b.val,r.val,z.val] w λe w'=>∃b':BT,e=Xa b'.val/\gY w' b' (kaq (λa g=>iH a (gN (g,1) fz)) acc.1 x.1,iH acc.2 (gN (x.2,1) fz))/\b_ w w':=by
 obtain⟨⟨mb,⟨ma,ml,mc⟩,⟨na,nl,nc⟩⟩,fa,fl,fc⟩:=b;obtain⟨hbl,hbm⟩:=hb;obtain⟨ts,rfl,h1,h2,h3⟩:=hbl.open;obtain⟨ga,gc,⟨wb,wa,wl,wc⟩,ss,rfl,h1',h2',h3',hm'⟩:=hr.open;obtain⟨zb,⟨za,zl,zc⟩,⟨ya,yl,yc⟩⟩:=z;have hss:ss.length=ts.length:=om;rw[hss]at h2'⊢;simp only[BT.val,BT.fv,RW.val,RW.fv,WT.sv,WT.val,T.fK.val,T.fK.up,T.fK.down]at hbm hm' hz h2⊢;have H1:=zf h1;have H2:=zf h2;have H3:=zf h3;have H1':=zf h1';have H2':=zf h2';have H3':=zf h3';have HSS:=zf hss;have Gy:ts.length<=100000:=om;have HBA:=zf ba;have HBX:=zf bx;have HBF:=zf bf;have HPT0:Hid (∀W p n p0 q0 n0,Ext w W->Qa W p p0 q0->zy W n n0->p0.natAbs<4294967296^K->q0<4294967296^K->n0.natAbs<4294967296^K->(fz.1*n0).natAbs<4294967296^K->Calls Tryz.prog 234 #[p,n,.agg #[.bool zb,.slice za zl zc,.slice ya yl yc]] W λe w'=>∃t:T.fK,e=Xa t.val/\Qa w' t.val (iH (p0,q0)<|gN (n0,1) fz).1 (iH (p0,q0)<|gN (n0,1) fz).2/\b_ W w'):=by intro W p n p0 q0 n0 hW hp hn b1 b2 b3 b4;refine(rE K hK W p n _ p0 n0 fz.1 q0 fz.2 hp hn (hz.below hW) b1 b2 b3 HBF.out.1 HBF.out.2 b4).mono<|eP λw' t ht hb=>?_;obtain⟨t,rfl,-⟩:=ht.shape;exact⟨t,rfl,ht,hb⟩
 clear h1 h2 h3 h1' h2' h3' hss ba bx bf hbl hr;obtain⟨n0,n1,n2,n3,hX0⟩:=En w (.cells #[.bool mb,.slice ma ml mc,.slice na nl nc,.slice fa ts.length fc] 197) (.cells #[.slice ga ts.length gc,.bool wb,.slice wa wl wc] 90) (.cells #[.bool zb,.slice za zl zc,.slice ya yl yc] 194)<|.cells #[.bool false,.slice none 0 0,.slice none 0 0,.slice none 0 0] 197;refine Q0 Tryz.func178 Tryz.ntmps178 (h:=?_);gi_wp2;generalize kah _ _=w0 at *;have hs0:=(zd.1 n3).1;have HKB:=zf λW (hW:Ext _ W)=>Xc (eK hW n0)<|Xc (eK hW n1)<|Xc (eK hW n2)<|(hW.block _ hs0).trans n3;clear n0 n1 n2 n3;refine(zq.2<|HPT0.out _ _ _ _ _ _ hX0 (hbm.below hX0) (hm'.below hX0) HBA.out.2.1 HBA.out.2.2 HBX.out.2.1 HBX.out.2.2).mono<|eP λwA ⟨vb,⟨va,vl,vc⟩,⟨ua,ul,uc⟩⟩ hv hbA=>?_;simp only[T.fK.val,T.fK.up,T.fK.down]at hv⊢;have xA:=Xg hbA;have hkb:=HKB.out _<|xA.alloc<|.cells #[.bool vb,.slice va vl vc,.slice ua ul uc,.slice none 0 0] 197;have b3:=ze _ _ 3 _ _ _ hkb.1;have r0:=ze _ _ 0 _ _ _ hkb.2.1;gi_wp2;have hN7:=zC wA<|.cells #[.bool vb,.slice va vl vc,.slice ua ul uc,.slice none 0 0] 197;have xB:Ext _ (wA.alloc<|.cells #[.bool vb,.slice va vl vc,.slice ua ul uc,.slice none 0 0] 197):=xA.alloc _;have hv2:=hv.below<|(Xe _).alloc<|.cells #[.bool vb,.slice va vl vc,.slice ua ul uc,.slice none 0 0] 197;generalize hwB:kah _ _=wB at *;obtain⟨g7,hg7⟩:∃g7,wA.heap.size=g7:=⟨_,rfl⟩;rw[hg7]at hN7⊢;have hg7w:w0.heap.size<=g7:=by have h2:=xA.size;omega
 obtain⟨q,hq⟩:∃q,q=λi=>iH (acc.1.getD i (0,1)) (gN (x.1.getD i 0,1) fz):=⟨_,rfl⟩;have HQ:=zf hq;clear hq;clear hwB hbA hg7 xA hv;refine(zq.2<|uY _ _ _ _ _ _ _).mono<|eU λw1 hw1=>?_;have x1:Ext wB w1:=by rw[hw1];exact((Xe wB).alloc _).alloc _
 have k1:w1.cell? ⟨wB.heap.size,0,none⟩=some (.slice fa ts.length fc):=by rw[hw1];exact ze _ _ 0 _ _ _ (Xi _ _ _).1
 have k2:w1.cell? ⟨wB.heap.size+1,0,none⟩=some (.slice ga ts.length gc):=by rw[hw1];exact ze _ _ 0 _ _ _ (Xi _ _ _).2
 clear hw1;have x01:=xB.trans x1;have xw1:=hX0.trans x01;have n1:=eK x1 hN7;have hg71:=(zd.1 n1).1;have hg7B:=(zd.1 hN7).1;have HM1:=zf<|hv2.below x1;clear hN7 hkb b3 r0 hv2;gi_wp2;refine ZT (sY _ _ HSS.out.symm fa ga fc gc _ _ om) rfl (qW Tryz.func271 rfl rfl) (λk v W=>g_) (yd 194 3 197 (λv=>#[.bool vb,.slice va vl vc,.slice ua ul uc,v]) T.fK.cells (Mw q) w1 w1.heap.size g7 ts.length) (λ_ _ _=>False) (λb=>b=g7) ?hI ?hIx ?hC ?h0 ?round ?done ?stop;case hI=>exact λk M A B ⟨h1,v,us,h2,h3,h4⟩ hk=>⟨h1,v,us,h2,h3.eL hk,λi u hu=>Qa.eL (h4 i u hu) hk⟩
 case hIx=>grind
 case hC=>rintro k M A ⟨h1,v,us,h2,h3,h4⟩;have hxA:=qk xw1 h3.1 λb hb=>om;exact⟨⟨h3.1.cell g_ k1,h3.1.cell g_ k2,(H2.out.ext hxA).gD,(H2'.out.ext hxA).gD⟩,h3.lt⟩
 case h0=>exact⟨qo _,_,_,rfl,XE n1,λi u hu=>g_⟩
 case round=>rintro l2 k v M A hkN ⟨t0,s0,ht0,hs0',rfl⟩ ⟨h1,v,us,hus,hG,hEv⟩;(have hka:k<acc.1.length:=by have:=H1.out;omega);have hkx:k<x.1.length:=om;have hqa:acc.1[k]? =some (acc.1.getD k (0,1)):=g_;have hqx:x.1[k]? =some (x.1.getD k 0):=g_;have hxA:=qk xw1 hG.1 λb hb=>om;have h0A:=qk x01 hG.1 λb hb=>om;have hF0:=(H3.out k _ _ ht0 hqa).below hxA;have hW0:=(H3'.out k _ _ hs0' hqx).below hxA;have ba:=HBA.out.1 _<|zx hqa;have bx:=HBX.out.1 _<|zx hqx;obtain⟨va',vc',rfl⟩:=hG.2.2.1.shape;rw[zm]at hG;obtain⟨eb,⟨ea,el,ec⟩,⟨da,dl,dc⟩⟩:=t0;obtain⟨pb,pa,pl,pc⟩:=s0;have hul:us.length<=100000:=om;(have HQK:Hid (q k=iH (acc.1.getD k (0,1)) (gN (x.1.getD k 0,1) fz)):=by rw[HQ.out];rfl);generalize acc.1.getD k (0,1)=pq at *;generalize x.1.getD k 0=z0 at *;simp only[WT.val,WT.sv,T.fK.val,T.fK.up,T.fK.down]at hF0 hW0⊢;clear hqa hqx ht0 hs0';have HGJ:=zf hG;have HUS:=zf hus;have HEV:=zf hEv;clear hus hEv;unfold Zz;gi_wp2;refine⟨Xh<|((Xe A).alloc _).alloc _,λA2 hk2=>?_⟩;obtain⟨xA,e0,e1,hs2⟩:=Um hk2;have e2:=xA.block _ _ hG.2.1<|.inr rfl;have e3:=xA.block _ _ (HKB.out A h0A).2.2.1<|.inr rfl;have hsA:=hG.1.size;have G2:=hG.eL xA;have hvlt:∀b,(Value.slice _ _ _).ownBlock=some b->b<A.heap.size/\b≠g7/\(b=g7\/w1.heap.size<=b):=λb hb=>⟨(hG.2.2.1.type b hb).1.lt,hG.2.2.2.1 b hb⟩;have HKEEP:=zf (λW (hW:Wr (λb=>(Value.slice _ _ _).ownBlock=some b) _ W)=>have q0:=hW.some e0 (λe=>by have:=hvlt _ e;omega);have q1:=hW.some e1 λe=>g_;have q2:=hW.some e2 λe=>g_;have q3:=hW.some e3 λe=>g_;Xc (ze _ _ 3 _ _ _ q2) (Xc (ze _ _ 0 _ _ _ q0)<|Xc (ze _ _ 1 _ _ _ q0)<|Xc (ze _ _ 2 _ _ _ q0)<|Xc (ze _ _ 0 _ _ _ q1)<|Xc (ze _ _ 1 _ _ _ q1)<|Xc (ze _ _ 0 _ _ _ q3)<|Xc (ze _ _ 1 _ _ _ q3)<|ze _ _ 2 _ _ _ q3));have HFZ:=zf (λW (hW:Wr (λb=>(Value.slice _ _ _).ownBlock=some b) _ W)=>(Xf (hW.some e2 λe=>by have:=hvlt _ e;omega):W.frozen? ⟨_,3,_⟩=false));have Dn:=qk xw1 G2.1 λb hb=>om;have HPT:=zf λW (hW)=>HPT0.out W _ _ _ _ _ (Dn.trans hW) ((hF0.eL xA).below hW) ((hW0.eL xA).below hW) ba.1 ba.2 bx.1 bx.2;have HMO:=zf (λA4 A5 g5 fZ (u) (hy) (hu:Qa A4 u.val _ _) own grow at5 gF=>yd.more (V:=Mw q) (j:=3) (A5:=A5) (g5:=g5) (fZ:=fZ) (u:=u) (a:={ tmps:=#[],defers:= [] }) (λ_ _ _ _ _ h hw hu=>Qa.wr h hw λb hb=>(hu b hb).1) (λ_ _ h=>Qa.eL h xA) HUS.out HGJ.out HEV.out xA hy om hkN (by rw[Mw,HQK.out];exact hu) own grow at5 gF);clear hF0 hW0 ba bx e0 e1 e2 e3 hG;refine ZW ?_;refine Hv 9 (S:=λW=>W.cell? ⟨_,3,_⟩=some (.slice _ _ _)/\W.cell? ⟨_,0,_⟩=some (.bool _)/\W.cell? ⟨_,1,_⟩=some (.slice _ _ _)/\W.cell? ⟨_,2,_⟩=some (.slice _ _ _)/\W.cell? ⟨_,0,_⟩=some (.bool _)/\W.cell? ⟨_,1,_⟩=some (.slice _ _ _)/\W.cell? ⟨_,0,_⟩=some (.bool _)/\W.cell? ⟨_,1,_⟩=some (.slice _ _ _)/\W.cell? ⟨_,2,_⟩=some (.slice _ _ _)) hm sp (λ⟨a,w,h⟩=>h) (HKEEP.out A2<|Xk _ _) (h:=λhHeld=>?_);refine fO [0,1,2,3,4] ?_;refine fV 5 (HPT.out _ (Xe _).drew)<|eP λA3 ⟨qb,⟨qa,ql,qc⟩,⟨ra,rl,rc⟩⟩ hq3 hb3=>?_;have x3:=ZG hb3;have x4:Ext _ (A3.alloc<|.cells #[.bool qb,.slice qa ql qc,.slice ra rl rc] 194):=x3.alloc _;have hu4:=hq3.below<|(Xe A3).alloc<|.cells #[.bool qb,.slice qa ql qc,.slice ra rl rc] 194;simp only[T.fK.val,T.fK.up,T.fK.down];refine bk (HKEEP.out _<|Xh x3) λhHeld=>?_;refine fR 6 λK hK=>?_;go_simp;refine hK.out _ _ (HKEEP.out _<|Xh x4) (h:=λhHeld=>?_);clear hK K;refine fR 7 λK hK=>?_;refine B7 ux Tryz.underlying195 (G2.2.2.1.ext x4) (by have:=x3.size;omega) ?_;intro g5 fZ A5 own5 grow5 at5 lt5 dig5;have x5:=(Xh x4).trans<|Qh grow5 λg hg=>hg;have HF:=zf (HMO.out _ _ _ _ ⟨_,_,_⟩ x4 hu4 own5 grow5 (at5.imp id λe=>by simp[e]) dig5);have s8:=(HKEEP.out _ x5).1;clear own5 grow5 at5 lt5 dig5;refine hK.out _ _ (HKEEP.out _ x5) (h:=λhHeld=>?_);clear hK K;have f8:=HFZ.out _ x5;refine iX 8 ?_;refine zV rfl (E_ (h:=?_)) _;go_simp;exact HF.out
 case done=>rintro D M A hD ⟨h1,v,us,h2,h3,h4⟩ hd;obtain⟨ka,kc,rfl⟩:=h3.2.2.1.shape;rw[zm]at h3;have x0A:=qk x01 h3.1 λb hb=>om;have m0:=ze _ _ 0 _ _ _ h3.2.1;have m1:=ze _ _ 1 _ _ _ h3.2.1;have m2:=ze _ _ 2 _ _ _ h3.2.1;have m3:=ze _ _ 3 _ _ _ h3.2.1;have r1:=(HKB.out A x0A).2.2.2;obtain⟨e9,hw9,⟨c0,c1,c2,c3⟩,f0,f1,f2,f3⟩:=B9 r1 (.bool vb) (.slice va vl vc) (.slice ua ul uc)<|.slice ka us.length kc;(have HBV:Hid (gY A ⟨⟨vb,(va,vl,vc),(ua,ul,uc)⟩,(ka,us.length,kc)⟩ (kaq (λa g=>iH a<|gN (g,1) fz) acc.1 x.1,iH acc.2<|gN (x.2,1) fz)):=by refine⟨⟨us,?_,h3.2.2.1.list,λi u q hu hq=>?_⟩,(HM1.out).wr h3.1 λb hb=>by rcases hb with rfl|rfl<;>exact zE n1<|fj rfl⟩;{rw[jY,<-hl,EV,h2];exact H1.out};have hi:=(zo.1 hu).1;have hi1:i<acc.1.length:=g_;have hi2:i<x.1.length:=om;rw[List.getElem?_zipWith,zg hi1,zg hi2]at hq;simp only[qN]at hq;have h9:=h4 i u hu;simp only[Mw,HQ.out,zk,zg hi1,zg hi2,qB]at h9;rw[<-hq];exact h9);have HV9:=zf (HBV.out.wr hw9 λb hb=>by rw[hb];exact⟨λht=>absurd (ht.one ⟨_,_,r1⟩) g_,zE r1<|fj rfl⟩);have HD9:=zf<|hw9.some hd λe=>om;have HE9:=zf e9;have HB9:=zf<|qk (hX0.trans x0A) hw9 λb hb=>om;clear h1 h2 h3 h4 r1 hw9 e9;gi_wp2;refine qh HD9.out ?_;have hkD:=zn.putObj (B:=w.heap.size) (.deferred none) om HD9.out rfl;have e9:=hkD.block _ _ HE9.out<|.inr rfl;exact⟨.agg #[.bool _,.slice _ _ _,.slice _ _ _,.slice _ _ _],by simp[results,Tryz.results178,go_sem,ze _ _ 0 _ _ _ e9,ze _ _ 1 _ _ _ e9,ze _ _ 2 _ _ _ e9,ze _ _ 3 _ _ _ e9],⟨⟨vb,(va,vl,vc),(ua,ul,uc)⟩,(ka,us.length,kc)⟩,rfl,HV9.out.eL hkD,hkD.below HB9.out (zh _)<|zh _⟩
 case stop=>exact λ_ _ _ _ _ _ h _=>h.elim
end
section
open V4
def mF (p:qF)(i:Nat):Int×Int:=p.rg.getD i (0,0)
def vP (p:qF):Nat:=(p.rows.flatMap T.fk).length
def jf (p:qF):List qO:=(T.eV p).zipIdx.map λx=>(x.1,x.2+1)
def Dt (p:qF):fF:=Be p.mx (Ez (mF p) (vP p) p.n)
def kT (p:qF)(fq eS:Nat):gO:=ku p.n p.mx (T.eV p).length eS (min fq 20000) (jf p) (Dt p) []
structure Bc (p:qF):Prop where
 n0:0<p.n
 n4:p.n<=4
 m:p.mx.length=p.n
 g:p.rg.length=p.n
 l:p.rows.length<=6
 c:∀x∈p.rows,x.1.length=p.n
theorem lN.done {i}{p}(h:lN i p)(a:2+p.n<=i):Bc p:=⟨(h.n om).1,(h.n om).2,h.m om,by rw[h.g];omega,h.l,λx a=>(h.c x a).1⟩
theorem Hp {p}{r}:r∈jf p↔∃i,(T.eV p)[i]? =E r.1/\r.2=i+1:=by unfold jf;rw[qP];constructor;{grind};rintro⟨i,a,b⟩;exact⟨(r.1,i),List.mem_zipIdx_iff_getElem?.2 a,g_⟩
theorem Rb {p}(h:Bc p):∀r∈T.eV p,r.1.length=p.n:=by intro r a;unfold T.eV at a;rcases zU.1 a with a|a;{have⟨x,d,a⟩:=jj.1 a;unfold T.fk at a;have b:=h.c x d;grind};have⟨_,_,a⟩:=jj.1 a;unfold T.gK at a;rcases zI.1 a with rfl|a;{exact QS _ _};rw[qg.1 a,zm];exact QS _ _
theorem LD {p}{i}(d:i<p.n):(T.eV p)[vP p+2*i]? =E (T.fh p.n i,(mF p i).2)/\(T.eV p)[vP p+2*i+1]? =E ((T.fh p.n i).map (λz=>-z),-(mF p i).1):=by
 have g:∀(f:Nat->(L_×Int)×(L_×Int)) (n i:Nat),i<n->((kal n).flatMap λi=> [(f i).1,(f i).2])[2*i]? =E (f i).1/\((kal n).flatMap λi=> [(f i).1,(f i).2])[2*i+1]? =E (f i).2:=by intro f n;induction n with |zero=>omega |succ n b=>intro i h;(have a:∀m,((kal m).flatMap λi=> [(f i).1,(f i).2]).length=2*m:=by intro m;induction m with |zero=>rfl |succ m b=>rw[J6,ZX,zM,b];grind);rw[J6,ZX];by_cases e:i<n;{grind};obtain rfl:i=n:=om;simp_all
 unfold T.eV;rw[Gs,zG (by unfold vP;omega),zG (by unfold vP;omega)];have a:vP p+2*i-(p.rows.flatMap T.fk).length=2*i:=by unfold vP;omega
 have b:vP p+(2*i+1)-(p.rows.flatMap T.fk).length=2*i+1:=by unfold vP;omega
 rw[a,b];exact g (λi=>((T.fh _ i,(mF p i).2),((T.fh _ i).map _,-(mF p i).1))) _ i d
theorem boxed {p}(h:Bc p):Mc p.n (T.eV p) (mF p):=by intro i _;refine⟨λa=>?_,λa=>?_⟩;{have⟨b,d⟩:=LD a;grind};unfold mF;rw[zk,qL (by rw[h.g];omega)];rfl
theorem Ms {p}(h:Bc p):pS p.n p.mx (T.eV p) (jf p) (Dt p) [] (T.eV p):=by obtain⟨b,g⟩:=Wf h.m h.n4 (mF p)<|vP p;have f:=Rb h;refine⟨sp,Zx,f,λr a=>?_,λi r a=>?_,⟨b,λe e=>?_⟩,λx b r a=>b.2 r a,λi l b=>g_⟩;{obtain⟨i,b,d⟩:=Hp.1 a;exact⟨⟨om,g_⟩,f _<|zx b⟩};{exact Hp.2 ⟨i,a,rfl⟩};unfold Dt at e;rw[g]at e;obtain⟨i,a,rfl⟩:=qP.1 e;obtain⟨b,d⟩:=LD<|Z8.1 a;refine Hp.2 ?_;unfold z7;grind
def Mg (p:qF):R_:=(p.rows.map λx=>(x.1,x.2.2))++((kal p.n).map (λi=>(T.fh p.n i,(mF p i).2))++(kal p.n).map λi=>(T.fh p.n i,(mF p i).1))
theorem T4 {p}(h:Bc p):(Mg p).length<=14:=by have a:=h.l;have a:=h.n4;unfold Mg;grind
theorem O8 (p):sZ p.n (T.eV p) (Mg p) (jf p):=by refine⟨?_,λr b _=>?_,?_⟩;{(have:(jf p).map (λr=>r.2)=(kal (T.eV p).length).map (· + 1):=by unfold jf;rw[ym];apply I1;intro i;rw[zR,zR,List.getElem?_zipIdx];by_cases a:i<(T.eV p).length;{grind};grind);rw[this];exact List.Pairwise.map _ (λa a h=>om)<|List.nodup_range};{have⟨i,a,_⟩:=Hp.1 b;have hm:=zx a;unfold T.eV at hm;rcases zU.1 hm with hm|hm;{have⟨x,d,hm⟩:=jj.1 hm;refine⟨(x.1,x.2.2),QN _<|qP.2 ⟨x,d,rfl⟩,?_⟩;unfold T.fk at hm;rcases zU.1 hm with hm|hm;{split at hm;{cases hm};exact .inl<|qg.1 hm};split at hm;{cases hm};exact .inr<|qg.1 hm};have⟨k,d,hm⟩:=jj.1 hm;unfold T.gK at hm;rcases zI.1 hm with hm|hm;{exact⟨_,J5 _<|QN _<|qP.2 ⟨k,d,rfl⟩,.inl hm⟩};exact⟨_,J5 _<|J5 _<|qP.2 ⟨k,d,rfl⟩,.inr<|qg.1 hm⟩};(have:(jf p).filter (λr=>decide ((T.eV p).length<r.2))= []:=by rw[List.filter_eq_nil_iff];intro r b;have⟨i,a,_⟩:=Hp.1 b;have:=(zo.1 a).1;simp;omega);grind
theorem SS {p}(h:Bc p)(fq eS):
 (∀c b,kT p fq eS= .inl (c,b)->tO p.n (T.eV p) (JZ c)/\∀x,tO p.n (T.eV p) x->qz (λi=>rk p.mx (fm (JZ c)) i-rk p.mx (fm x) i))/\
 (∀c r b,kT p fq eS= .inr (.inl (c,r,b))->∀x,¬tO p.n (T.eV p) x):=by have d:=go_ok (eS:=eS) (min fq 20000) _ _ _ _ (Ms h);refine⟨λc b a=>?_,λc r b a=>?_⟩;{unfold kT at a;rw[a]at d;obtain⟨rows,fJ,b,e,f⟩:=d;exact TQ b e f};unfold kT at a;rw[a]at d;obtain⟨rows,fJ,b,e,f,a⟩:=d;exact znM b e f a
theorem YC {p:qF}(h:Bc p){fq eS:Nat}(j:10000<=eS)(b:(∀i,i<4->(mF p i).1<=(mF p i).2)->Gt p.mx (mF p)<=(min fq 20000:Nat))(m:Nat):kT p fq eS≠ .inr (.inr m):=by have a:=Ms h;by_cases k:∀i,i<4->(mF p i).1<=(mF p i).2;{refine NI j (boxed h) (T4 h) _ _ _ _ _ _ a (O8 p) (λf r t g o=>?_) (b k) m;obtain⟨b,l,d⟩:=(EH a.fD _ _ a.fL).1 f g;have e:=I3 b.fL a.given (boxed h) d;obtain⟨q,s⟩:=LP b.fL e r;exact znO q s};refine NI j (boxed h) (T4 h) _ _ _ _ _ 0 a (O8 p) (λf r t g o=>?_) om m;obtain⟨b,l,d⟩:=(EH a.fD _ _ a.fL).1 f g;have e:=I3 b.fL a.given (boxed h) d;exfalso;apply k;intro i f;obtain⟨a,d⟩:=e i f;have e:=b.fL.pos;exact Lq (Int.le_trans a d) om
end
section
open V4
variable {A B C:Nat}{l:L_}{x y:Int}
def fM (B:Nat)(x:Int):Prop:=-(B)<=x/\x<=(B)
theorem Ec:fM B x↔x.natAbs<=B:=by unfold fM;omega
theorem fM.mono(h:fM B x)(a:B<=C):fM C x:=by unfold fM at *;omega
theorem fM.zero(B):fM B 0:=by unfold fM;omega
abbrev Xt:=@fM.zero
theorem fM.add(h:fM A x)(k:fM B y):fM (A+B) (x+y):=by unfold fM at *;omega
theorem fM.sub(h:fM A x)(k:fM B y):fM (A+B) (x-y):=by unfold fM at *;omega
theorem fM.neg(h:fM A x):fM A (-x):=by unfold fM at *;omega
theorem fM.mul(h:fM A x)(k:fM B y):fM (A*B) (x*y):=by rw[Ec]at *;rw[sn];exact Z7 h k
theorem fM.ofNat(h:A<=B):fM B (A):=by unfold fM;omega
abbrev Xr:=@fM.ofNat
def jk (B:Nat)(x:V4):Prop:=fM B x.a/\fM B x.b/\fM B x.c/\fM B x.d
theorem jk.mono{x}(h:jk B x)(a:B<=C):jk C x:=⟨h.1.mono a,h.2.1.mono a,h.2.2.1.mono a,h.2.2.2.mono a⟩
theorem jk.add{x y}(h:jk A x)(k:jk B y):jk (A+B) (x.add y):=⟨h.1.add k.1,h.2.1.add k.2.1,h.2.2.1.add k.2.2.1,h.2.2.2.add k.2.2.2⟩
theorem jk.smul{t}{y}(h:fM A t)(k:jk B y):jk (A*B) (y.smul t):=⟨h.mul k.1,h.mul k.2.1,h.mul k.2.2.1,h.mul k.2.2.2⟩
theorem jk.dot{x y}(h:jk A x)(k:jk B y):fM (4*(A*B)) (x.dot y):=((((h.1.mul k.1).add<|h.2.1.mul k.2.1).add<|h.2.2.1.mul k.2.2.1).add<|h.2.2.2.mul k.2.2.2).mono om
theorem jk.sign{s}{x}(h:jk B x)(hs:s=1\/s=-1):jk B (x.smul s):=(jk.smul (A:=1) (by unfold fM;omega) h).mono om
theorem Bm{p q r s}(a:fM B p)(b:fM B q)(d:fM B r)(hs:fM B s):fM (2*(B*B)) (p*q-r*s):=((a.mul b).sub<|d.mul hs).mono om
theorem Lh{p q r z:Int}(a:fM B p)(b:fM B q)(d:fM B r)(e:fM C x)(f:fM C y)(g:fM C z):fM (3*(B*C)) (p*x-q*y+r*z):=(((a.mul e).sub<|b.mul f).add<|d.mul g).mono om
theorem Ki{u v w:V4}(a:jk B u)(f:jk B v)(o:jk B w):jk (6*(B*(B*B))) (DZ u v w):=by obtain⟨j,k,l,m⟩:=a;obtain⟨a,b,d,e⟩:=f;obtain⟨f,g,h,i⟩:=o;have o:3*(B*(2*(B*B)))=6*(B*(B*B)):=g_;rw[<-o];exact⟨Lh k l m (Bm d i e h) (Bm b i e g)<|Bm b h d g,(Lh j l m (Bm d i e h) (Bm a i e f)<|Bm a h d f).neg,Lh j k m (Bm b i e g) (Bm a i e f)<|Bm a g b f,(Lh j k l (Bm b h d g) (Bm a h d f)<|Bm a g b f).neg⟩
theorem VH{R}(h:∀i,jk B (R i))(j):jk (6*(B*(B*B))) (QL R j):=by unfold QL;split;{exact Ki (h 1) (h 2)<|h 3};{exact(Ki (h 0) (h 2)<|h 3).sign<|.inr rfl};{exact Ki (h 0) (h 1)<|h 3};exact(Ki (h 0) (h 1)<|h 2).sign (.inr rfl)
def JL (B:Nat):Nat:=24*(B*(B*(B*B)))
theorem FX{R}(h:∀i,jk B (R i)):fM (JL B) (Jb R):=by refine((h 0).dot<|Ki (h 1) (h 2)<|h 3).mono<|jm ?_;unfold JL;grind
theorem Gr{L}{m}(a:∀i,jk A (L i))(hm:∀i,fM B (m i)):jk (4*(B*A)) (Bo L m):=((((jk.smul (hm 0)<|a 0).add<|jk.smul (hm 1)<|a 1).add<|jk.smul (hm 2)<|a 2).add<|jk.smul (hm 3)<|a 3).mono om
def Zu (B:Nat)(l:L_):Prop:=∀z∈l,fM B z
theorem Zu.at(h:Zu B l)(i):fM B (l.getD i 0):=by rw[zk];by_cases a:i<l.length;{rw[zg a];exact h _<|zJ a};rw[qL om];exact Xt B
theorem Zu.fm(h:Zu B l):jk B (fm l):=⟨h.at 0,h.at 1,h.at 2,h.at 3⟩
theorem jk.list(k:l.length<=4)(h:jk B (Go.Proofs.YtfbkaflfnjinaaaGreatDoor.fm l)):Zu B l:=by intro z j;obtain⟨i,g,rfl⟩:=qM j;have e:l[i]=l.getD i 0:=g_;rw[e];obtain⟨a,b,d,f⟩:=h;rcases nt (show i<4 by omega)with rfl|rfl|rfl|rfl;{exact a};{exact b};{exact d};exact f
def Jm (B:Nat)(r:L_×Int):Prop:=Zu B r.1/\fM B r.2
structure Ro (B:Nat)(c:fF):Prop where
 over:c.over<=JL B
 eW:Zu (JL B) c.eW
 eN:∀e∈c.eN,Jm B e.row/\Zu (JL B) e.eT
theorem zrS(a:1<=B)(i):jk B (QV i):=by unfold QV jk fM;simp only;omega
theorem FG{n:Nat}{a_:L_}{c:fF}(h:Qy n a_ c)(g:1<=B)(d:∀e∈c.eN,Jm B e.row):Ro B c:=by
 obtain⟨_,f,_,l,m⟩:=h.Cb;have j:=h.n4;have b:∀i,jk B (eR c i):=by intro i;unfold eR;cases a:c.eN[i]? with |none=>exact zrS g i |some e=>exact(d e<|zx a).1.fm
 have k:∀i,fM B (eM c i):=by intro i;unfold eM;cases a:c.eN[i]? with |none=>exact Xt B |some e=>exact(d e<|zx a).2
 have o:6*(B*(B*B))<=JL B:=by unfold JL;have:B*(B*B)<=B*(B*(B*B)):=Jd _ g;omega
 refine⟨?_,?_,λe a=>⟨d e a,?_⟩⟩;{have d:=FX b;unfold fM at d;grind};{refine jk.list (by rw[h.fN];omega) ?_;rw[m];refine((Gr (VH b) k).sign f).mono<|jm ?_;unfold JL;grind};obtain⟨i,d,rfl⟩:=qM a;refine jk.list (by rw[(h.iw _ a).2];omega) ?_;rw[l i _<|zg d];exact((VH b i).sign f).mono o
theorem Pv{a:Type}{f:a->Int}:∀(l:List a),(∀e∈l,fM B (f e))->fM (l.length*B) (l.map f).sum
 |[],_=>by simpa using Xt 0 |x::l,h=>by rw[Zk,QI,qi];refine((h x (qA)).add (Pv l λe b=>h e (qq _ b))).mono (jm ?_);rw[Zg];omega
theorem SL{n:Nat}{a_:L_}{c:fF}{r:Nat}(h:Qy n a_ c)(f:r<5)(k:wg n a_ c r)(l:∀e∈c.eN,Jm B e.row):Jm (4*B) (Zd n a_ c r):=by
 have i:=h.n4;have a:=h.pos;have d:=k.shared;have j:=QE a d;have p:∀e∈c.eN,Zc a_ c.over r e<c.over:=by intro e a;have b:=Ig h f a;have m:=IP (rk a_ (fm e.eT) r) (show(0:Int)<(c.over:Int)by omega);omega
 have o:c.eN.length<=4:=by rw[h.len];exact i
 have g:∀f:gQ->Int,(∀e∈c.eN,fM B<|f e)->fM ((c.over*Zm n a_ c r)*(4*B)) (c.eN.map λe=>(Zc a_ c.over r e:Int)*f e).sum:=by intro f f;refine(Pv (B:=c.over*B) c.eN λe a=>((Xr<|vK<|p e a).mul<|f e a)).mono ?_;have b:c.eN.length*(c.over*B)<=4*(c.over*B):=zZ _ o;(have m:4*(c.over*B)=c.over*(4*B):=by rw[jq]);have f:c.over*(4*B)<=(c.over*Zm n a_ c r)*(4*B):=zZ _<|JM _ d;omega
 have m:=k.row;have f:=k.most;generalize c.over*Zm n a_ c r=D at g j m f;constructor;{refine jk.list (by rw[k.len];omega) ?_;(have d:∀i,fM (4*B) ((Zd n a_ c r).1.getD i 0):=by intro i;have b:=g (λe=>e.row.1.getD i 0) λe a=>(l e a).1.at i;rw[<-m i,Ec,sn,Q9]at b;rw[Ec];exact Nat.le_of_mul_le_mul_left b j);exact⟨d 0,d 1,d 2,d 3⟩};have b:=g (λe=>e.row.2) λe a=>(l e a).2;rw[f];generalize (c.eN.map λe=>(Zc a_ c.over r e:Int)*e.row.2).sum=s at *;obtain⟨a,d⟩:=b;have b:(0)<(D:Int):=om;rw[J0]at a d;constructor;{refine(Mq b).2 ?_;grind};exact Int.ediv_le_of_le_mul b g_
end
section
variable {A w w1:H}{B N b d g k:Nat}{M:Nat->Prop}{q:Nat->Int}{z:Int}
theorem T7:∀{zs xs:L_} {i:Nat} {z x:Int},zs[i]? =E z->xs[i]? =E x->T.eO (zs.take (i+1)) (xs.take (i+1))=T.eO (zs.take i) (xs.take i)+z*x
 |[],_,_,_,_,h,_=>by simp at h |_::_,[],_,_,_,_,h=>by simp at h |a::zs,b::xs,0,z,x,h,k=>by simp at h k;subst h k;simp[T.eO] |a::zs,b::xs,i+1,z,x,h,k=>by have j:=T7 (zs:=zs) (xs:=xs) (i:=i) (by simpa using h) (by simpa using k);(have g:∀(c d:Int) (e f:L_),T.eO (c::e) (d::f)=c*d+T.eO e f:=λc d e f=>by simp[T.eO]);rw[Hx,Hx,Hx,Hx,g,g,j];omega
theorem MY(w:H)(u v:Value)(zs xs:L_)(Q:Jf w u zs)(R:Jf w v xs)(l:zs.length=xs.length)(hn:zs.length<=4)(X:Zu 1000000 zs)(U:Zu 1000000000000 xs):
 C_ 13 #[u,v] w λe w'=>e=Xa (i_ (T.eO zs xs))/\b_ w w':=by
 obtain⟨_,_,rfl,P⟩:=Q;obtain⟨_,_,rfl,o⟩:=R;rw[<-l]at o⊢;have B:=zf P;have C:=zf o;have d:=zf l;go_enter func13,ntmps13;go_wp2;go_loopw [5,6] (λY b wr=>∃(i:Nat) (m:Int),i<=zs.length/\Y=i_ m/\b=i_ (i:Nat)/\fM (i*1000000000000000000) m/\Hid (m=T.eO (zs.take i) (xs.take i))/\Ext w wr) (λ_ b _=>((zs.length:Int)-intOf b).toNat);case atStart=>exact⟨0,0,om,rfl,rfl,Xt _,rfl,Xe _⟩
 case round=>obtain⟨i,m,_,rfl,rfl,hm,f,a⟩:=hrel;by_cases j:i<zs.length;{obtain⟨K,off,rfl,_,M⟩:=B.out om;obtain⟨L,Z,rfl,_,N⟩:=C.out om;have k:i<xs.length:=om;have q:=zg j;have p:=zg k;have I:=a.cell<|M i _ q;have J:=a.cell<|N i _ p;have F:=X _<|zJ j;have D:=U _<|zJ k;have t:=zf<|T7 q p;generalize zs[i]=z at *;generalize xs[i]=x at *;have g:=F.mul D;have h:=hm.add g;have w1:wrap64 _=z*x:=Go.IntWalk.wrap64_in _ (by unfold fM at g;omega);have w2:wrap64 _=m+z*x:=Go.IntWalk.wrap64_in _ (by unfold fM at h;omega);(have a1:IntKind.i64.wrap (m+IntKind.i64.wrap (z*x))=m+z*x:=by rw[Go.IntWalk.i64_left,Go.IntWalk.i64_left,w1,w2]);(have A:Hid (m+z*x=T.eO (zs.take<|i+1) (xs.take<|i+1)):=by rw[Hid,t.out,f.out]);have s:=zf (h.mono<|show i*1000000000000000000+1000000*1000000000000<=(i+1)*1000000000000000000 by omega);have y0:=Xe wr;go_wp2;refine ZO (S:=λW=>W.cell? ⟨K,_,O⟩=E _/\W.cell? ⟨L,_,O⟩=E _) kr ⟨I,J⟩ λa0=>?_;refine fO [0,1,2,3,4,5,6,7,8,9,10,11] ?_;refine zV kr ?_ _;go_wp2;go_roundw;(case rel=>exact⟨_,_,om,rfl,g_,s.out,A,a.drew⟩);case measure=>simp[intOf];omega};obtain rfl:i=zs.length:=om;have y:Hid (m=T.eO zs xs):=g_;go_wp2;go_ret;exact⟨by rw[<-y.out];rfl,a⟩
theorem M9{l}(h:Zu B l)(j):Zu B (l.take j):=λz a=>h z (ZY a)
theorem Br{A:Nat}:∀{zs xs:L_},Zu A zs->Zu B xs->fM (zs.length*(A*B)) (T.eO zs xs)
 |[],_,_,_=>by simpa[T.eO]using Xt _ |z::zs,[],_,_=>by simpa[T.eO]using Xt _ |z::zs,x::xs,h,k=>by (have e:T.eO (z::zs) (x::xs)=z*x+T.eO zs xs:=by simp[T.eO]);rw[e,qi];refine(((h z qA).mul (k x qA)).add (Br (λy a=>h y (qq _ a)) (λy a=>k y (qq _ a)))).mono (jm ?_);rw[Zg];omega
theorem fM.lt(h:fM B z)(a:B<N):z.natAbs<N:=qu (Ec.1 h) a
theorem Nv(K:Nat)(o:K+K<=1073741823)(w:H)(v u:Value)(zs xs:L_)(h:Zo w v zs)(k:Zo w u xs)(q:zs.length=xs.length)(a:zs.length<=4){A:Nat}(b:Zu A zs)(d:Zu B xs)(p:A<4294967296^K)(hb:B<4294967296^K)(hm:4*(A*B)<4294967296^K):
 C_ 95 #[ag #[v],u] w λe w'=>∃t:WT,e=Xa t.val/\zy w' t.val (T.eO zs xs)/\b_ w w':=by obtain⟨z,l,a,m⟩:=h;obtain⟨y,s,f,x⟩:=k;obtain⟨fa,g,rfl⟩:=a.shape;obtain⟨i,j,rfl⟩:=f.shape;rw[zm]at a f⊢;rw[zm];refine PK K o w _ i g j z y _ _ l a m s f x q om (λz a=>(b z a).lt p) (λz a=>(d z a).lt hb) (λa g f i=>((b a g).mul<|d f i).lt om) λj=>?_;refine(Br (M9 b j)<|M9 d j).lt<|qu ?_ hm;exact zZ _ g_
theorem zy.put{t:WT}{a:A_}{l cap}{b'}(h:zy w t.val z)(b:w.cell? (Xd g 0 O)=E (G b'))(d:w.cell? (Xd g 1 O)=E (V a l cap)):
 zy ((w.setCell (Xd g 0 O) (G t.b)).setCell (Xd g 1 O) t.sv) t.val z:=by obtain⟨_,_,_,_,a,f,e⟩:=h.parts;obtain⟨_,_,_,_⟩:=t;simp only[WT.val,WT.sv,EN,Array.mk.injEq,Dd,Value.bool.injEq,qp,Bg]at a;obtain⟨rfl,rfl,rfl,rfl⟩:=a;exact QJ f e b d
theorem RQ(K:Nat)(g:K+K<=1073741823)(w:H)(v u:Value)(zs xs:L_)(h:Zo w v zs)(k:Zo w u xs)(j:zs.length=xs.length)(l:zs.length<=4){A:Nat}(d:Zu A zs)(f:Zu B xs)(i:A<4294967296^K)(hb:B<4294967296^K)(hm:4*(A*B)<4294967296^K):
 C_ 73 #[ag #[v],u] w λe w'=>∃t:WT,e=Xa t.val/\zy w' t.val (T.eO zs xs)/\b_ w w':=by have b:=zf λW (a)=>Nv K g W v u _ _ (h.ext a) (k.ext a) j l d f i hb hm;have d:=Xm (w.alloc<|cl #[v] 97) (G false) (V_) 88;have a:=vI w (cl #[v] 97)<|cl #[G false,V_] 88;rw[zL]at d;clear h k;go_enter func73,ntmps73;go_wp2_with fail;refine(b.out _<|((Xe w).alloc _).alloc _).mono<|eP λb t j b=>?_;obtain⟨g,i,_,_,_⟩:=d.below b;have f:=zf<|j.put g i;have q:=a.trans<|b.mono a.size;obtain⟨m,l,p,o⟩:=t;simp only[WT.val,WT.sv]at f⊢;clear b a d j;go_wp2;exact zH (v:=ag #[G m,V l p o]) (by simp[results,results73,go_sem,g,i]) rfl ⟨⟨m,l,p,o⟩,rfl,f.out,(q.setCell sp _).setCell sp _⟩
structure CT where
 a:S_
 o:S_
 p:S_
 e:S_
def eY (x:S_):Value:=V x.1 x.2.1 x.2.2
def CT.val (c:CT):Value:=ag #[eY c.a,eY c.o,eY c.p,eY c.e]
theorem PI{W:H}{o:Obj}(h:Wr (λk=>k=g) w W)(hb:w.heap[b]? =E o)(a:b≠g):W.heap[b]? =E o:=(h.block b (zd.1 hb).1 a).trans hb
theorem YB{W}(h:Wr (λk=>k=g) w W)(a b):Wr (λk=>k=g) w ((W.setCell (Xd g 0 O) a).setCell (Xd g 1 O) b):=(h.trans<|zv (U:=λk=>k=g) rfl a).trans (zv (U:=λk=>k=g) rfl b)
theorem Ta(K:Nat)(hK:K+K<=1073741823)(w:H)(c:CT)(r:NT)(over:Nat)(pt g:L_)(m:Int)(ho:fe w (eY c.o) over)(hp:Zo w (eY c.p) pt)(hg:Zo w r.fv g)(hm:zy w r.t.val m)(hl:g.length=pt.length)(hn:g.length<=4){A:Nat}(hA:Zu A g)(hB:Zu B pt)(Tm:fM A m)(hBo:over<=B)(ha:A<4294967296^K)(hb:B<4294967296^K)(MS:4*(A*B)<4294967296^K):
 C_ 121 #[c.val,r.val] w λe w'=>∃t:WT,e=Xa t.val/\zy w' t.val (m*(over:Int)-T.eO g pt)/\b_ w w':=by obtain⟨⟨aa,al,ac⟩,⟨oa,ol,oc⟩,⟨pa,pl,pc⟩,⟨ea,el,ec⟩⟩:=c;obtain⟨⟨fa,fl,fc⟩,⟨tb,⟨ta,tl,tc⟩⟩,nn⟩:=r;simp only[CT.val,NT.val,eY,NT.fv,WT.sv,WT.val]at *;obtain⟨n0,n1,n2,hX⟩:=xj w (cl #[V aa al ac,V oa ol oc,V pa pl pc,V ea el ec] 100) (cl #[V fa fl fc,G tb,V ta tl tc,i_ nn] 92)<|cl #[G false,V_] 88;go_enter Tryz.func121,Tryz.ntmps121;go_wp2_with fail;generalize (((w.alloc<|cl #[V aa al ac,V oa ol oc,V pa pl pc,V ea el ec] 100).alloc<|cl #[V fa fl fc,G tb,V ta tl tc,i_ nn] 92).alloc<|cl #[G false,V_] 88)=w0 at *;have HK:=zf λW (hW:Wr (λk=>k=w.heap.size+1+1) _ W)=>have q0:=PI hW n0 om;have q1:=PI hW n1 om;Xc (ze _ _ 1 _ _ _ q0) (Xc (ze _ _ 2 _ _ _ q0)<|Xc (ze _ _ 0 _ _ _ q1)<|Xc (ze _ _ 1 _ _ _ q1)<|ze _ _ 2 _ _ _ q1);have hb3:(m*(over)).natAbs<4294967296^K:=(Tm.mul<|Xr hBo).lt om;have hb4:=(Br hA hB).lt<|qu (zZ _ hn) MS;have HF:=zf λW1 (h1:Ext w W1)=>Fm W1 _ _<|ho.below h1;have HT:=zf λW1 t (h1:Ext w W1) (ht)=>AZ W1 _ t m over K K hK (hm.below h1) ht (Tm.lt ha) om;have HA:=zf λW1 (h1)=>Nv K hK W1 _ _ g _ (hg.ext h1) (hp.ext h1) hl hn hA hB ha hb MS;refine ZO (S:=λW=>W.cell? (y_ w 1)=E (V _ _ _)/\W.cell? (y_ w 2)=E (V _ _ _)/\W.cell? (x_ w 0)=E (V _ _ _)/\W.cell? (x_ w 1)=E (G _)/\W.cell? (x_ w 2)=E (V _ _ _)) rfl (HK.out w0<|Xk _ _) λhHeld=>?_;refine fO [0,1,2,3,4,7,8,9,10,11] ?_;refine fV 5 (HF.out _ hX.drew)<|eP λwA tA hA1 hbA=>?_;have xA:=ZG hbA;refine bk (HK.out _<|Xh xA) λhHeld=>?_;refine fV 6 (HT.out _ _ (hX.trans xA) hA1)<|eP λwB tB hB1 hbB=>?_;have xB:=xA.trans<|Xg hbB;refine bk (HK.out _<|Xh xB) λhHeld=>?_;refine fV 12 (HA.out _<|hX.trans xB)<|eP λwC tC hC1 hbC=>?_;have xC:=xB.trans<|Xg hbC;refine bk (HK.out _<|Xh xC) λhHeld=>?_;refine fV 13 (PW _ _ _ _ _ _ om (hB1.below<|Xg hbC) hC1 hb3 hb4)<|eP λwD tD hD1 hbD=>?_;have xD:=xC.trans<|Xg hbD;obtain⟨⟨db,⟨da,dl,dc⟩⟩,rfl⟩:=hD1.shape;have q2:=eK xD n2;have c0:=ze _ _ 0 _ _ _ q2;have c1:=ze _ _ 1 _ _ _ q2;have f0:=Xf (j:=0) q2;have f1:=Xf (j:=1) q2;have HP:=zf<|hD1.put c0 c1;have HB:=zf<|hX.trans xD;simp only[WT.val,WT.sv]at HP⊢;refine bk (HK.out _<|Xh xD) λhHeld=>?_;refine fR 14 λK hK=>?_;go_simp;refine hK.out _ _ (HK.out _<|YB (Xh xD) _ _) (h:=λhHeld=>?_);refine zV rfl ?_ _;go_wp2;exact zH (by simp[results,Tryz.results121,go_sem,c0,c1]) rfl ⟨⟨_,_,_,_⟩,rfl,HP.out,(HB.out.setCell g_ _).setCell g_ _⟩
def Am (w1:H)(b0 g gm N:Nat)(q:Nat->Int)(k:Nat)(M:Nat->Prop)(A:H):Prop:=
 Wr (λb=>b=g\/b=gm) w1 A/\k<=N/\∃(v:Value) (us:List _),us.length=k/\A.heap[g]? =E (cl #[v] 82)/\gh b0 88 2 A v (us.map WT.cells)/\(∀i u,us[i]? =E u->zy A u.val (q i))/\(∀b,v.ownBlock=E b->b=gm\/w1.heap.size<=b)/\∀b,M b↔b=g\/v.ownBlock=E b
theorem Am.eL{B:H}(h:Am w1 b g d N q k M A)(a:zn w1.heap.size A B):Am w1 b g d N q k M B:=by obtain⟨b,d,v,o,e,f,i,j,l,m⟩:=h;exact⟨b.eL a,d,v,o,e,a.block _ _ f<|.inr rfl,i.eL a,λi u b=>(j i u b).eL a,l,m⟩
theorem Am.list{a:Nat}{zs:L_}(h:Am w1 a g b zs.length q zs.length M A)(k:∀i,i<zs.length->q i=zs.getD i 0):∃f:S_,A.heap[g]? =E (cl #[eY f] 82)/\Zo A (eY f) zs:=by obtain⟨_,_,_,l,d,e,a,j,_,_⟩:=h;obtain⟨b,c,rfl⟩:=a.shape;refine⟨(b,_,c),e,l,d,a.list,λi t z b a=>?_⟩;have:=j i t b;have b:=(zo.1 a).1;rw[k i b,zk,a]at this;exact this
theorem Am.lt{a:Nat}(h:Am w1 a g d N q k M A):∀b,M b->b<A.heap.size:=by obtain⟨_,_,_,_,_,d,e,_,_,f⟩:=h;intro b a;rcases(f b).1 a with rfl|a;{grind};exact(e.type b a).1.lt
theorem Am.more{A2 A4 A5:H}{e g5 fZ:Nat}{v:Value}{a:List WT}{u:WT}(h:Am w1 d g e N q k M A)(F:k<N)(L:q k=z)(l:zn w1.heap.size A A2)(m:Ext A2 A4)(D:g<w1.heap.size)(o:g≠e)(t:A.heap[g]? =E (cl #[v] 82))(w:a.length=k)(s:gh d 88 2 A v (a.map WT.cells))(I:∀(i:Nat) (u:WT),a[i]? =E u->zy A u.val (q i))(J:zy A4 u.val z)(own:A5.ownsRow d 88 2 (V (E (Xd g5 0 O)) (a.length+1) fZ) (a.length+1) ((a.map WT.cells).flatten++u.cells))(grow:A4.grownBy A5 v.ownBlock)(y:v.ownBlock=E g5\/A4.heap.size<=g5)(gF:qK A5 g5):
 Wr M A2 (A5.setCell (Xd g 0 O) (V (E (Xd g5 0 O)) (a.length+1) fZ))/\∃f,Am w1 d g e N q (k+1) f (A5.setCell (Xd g 0 O) (V (E (Xd g5 0 O)) (a.length+1) fZ))/\∀b,f b->M b\/A.heap.size<=b:=by obtain⟨B,_,x,_,_,o,_,_,p,C⟩:=h;have K:x=v:=g_;subst K;have t:kI _ 2 _ (λv=>#[v]) _ _ d g e x a M A:=⟨B,o,s,λb d=>⟨λe=>g_,p b d⟩,C⟩;have x:Wr (λb=>A.heap.size<=b) _ _:=Xh m;obtain⟨o,f,e,B⟩:=t.more (j:=0) l x D own rfl grow y gF rfl;have p:=λb d=>((t.fresh l x).h_ (by obtain⟨_,_,rfl⟩:=s.shape;exact fj rfl) b d).1;exact⟨(Xh m).trans o,f,⟨e.1,F,_,_,g_,e.2.1,e.2.2.1,oQ w (λi t a=>(((I i t a).eL l).below m).wr o p)<|L▸J.wr o p,λb d=>(e.2.2.2.1 b d).2,e.2.2.2.2⟩,B⟩
def LJ (q:Nat->Int×Nat)(A:H)(i:Nat)(u:WT):Prop:=zy A u.val (q i).1
def SX (w1:H)(g4 r2 r3 n:Nat)(m:WT)(q:Nat->Int×Nat)(k:Nat)(M:Nat->Prop)(A:H):Prop:=
 ∃M0,yd 88 2 90 (λv=>#[v,G m.b,m.sv]) WT.cells (LJ q) w1 w1.heap.size g4 n k M0 A/\(∀b,M b↔M0 b\/b=r2\/b=r3)/\∀i,i<k->(q i).2=1
def Ht (w:H)(r2 r3:Nat)(q:Nat->Int×Nat)(c:Code)(k:Nat)(A:H):Prop:=c= .ret/\¬(q k).2=1/\b_ w A/\A.cell? (Xd r2 0 O)=E (V_)/\A.cell? (Xd r2 1 O)=E (G false)/\A.cell? (Xd r2 2 O)=E (V_)/\A.cell? (Xd r3 0 O)=E (G false)
theorem vD{r s:Nat}(m:r≠s){g h j l:Value}{e f:TypeId}(h1:w.heap[r]? =E (cl #[g,h,j] e))(h2:w.heap[s]? =E (cl #[l] f))(a b c d:Value):
 ((((w.setCell (Xd r 0 O) a).setCell (Xd r 1 O) b).setCell (Xd r 2 O) c).setCell (Xd s 0 O) d).heap[r]? =E (cl #[a,b,c] e)/\((((w.setCell (Xd r 0 O) a).setCell (Xd r 1 O) b).setCell (Xd r 2 O) c).setCell (Xd s 0 O) d).heap[s]? =E (cl #[d] f)/\Wr (λk=>k=r\/k=s) w ((((w.setCell (Xd r 0 O) a).setCell (Xd r 1 O) b).setCell (Xd r 2 O) c).setCell (Xd s 0 O) d):=by have e:=Xl (i:=0) (v:=a) h1;have f:=Xl (i:=1) (v:=b) e;have e:=Xl (i:=2) (v:=c) f;refine⟨(qC _ _ _ _ so).trans e,?_,?_⟩;{exact Xl<|(qC _ _ _ _ so).trans<|(qC _ _ _ _ so).trans<|(qC _ _ _ _ so).trans h2};exact(((zv (.inl rfl) _).trans<|zv (.inl rfl) _).trans<|zv (.inl rfl) _).trans (zv (.inr rfl) _)
theorem Ht.eL{B:H}{C:Nat}{q:Nat->Int×Nat}{c:Code}(h:Ht w b d q c k A)(a:zn C A B)(l:w.heap.size<=C):Ht w b d q c k B:=by obtain⟨b,d,e,f,g,i,j⟩:=h;exact⟨b,d,a.below e l<|zh _,a.cell f,a.cell g,a.cell i,a.cell j⟩
theorem uR(K:Nat)(hK:K<=1073741800)(w:World)(b:BT)(acc:List (Int×Nat)×(Int×Nat))(hb:gY w b acc)(hn:acc.1.length<=100000)(ba:(∀a∈acc.1,a.1.natAbs<4294967296^K/\a.2<4294967296^K)/\acc.2.1.natAbs<4294967296^K/\acc.2.2<4294967296^K):
 Calls Tryz.prog 101 #[b.val] w λe w'=>(∃r:RW,(fC acc=none/\e=Xa (.tuple #[r.val,.bool false]))\/(∃row,fC acc=some row/\e=Xa (.tuple #[r.val,.bool true])/\QG w' r row/\∀g,r.fv.ownBlock=some g->w.heap.size<=g))/\b_ w w':=by
 obtain⟨⟨mb,⟨ma,ml,mc⟩,⟨na,nl,nc⟩⟩,fa,fl,fc⟩:=b;obtain⟨hbl,hbm⟩:=hb;obtain⟨ts,rfl,h1,h2,h3⟩:=hbl.open;simp only[BT.val,BT.fv,T.fK.val,T.fK.up,T.fK.down]at hbm h2⊢;have H1:=zf h1;have H2:=zf h2;have H3:=zf h3;have Gy:ts.length<=100000:=by omega
 have HBA:=zf ba;have HFL0:Hid (∀W p p0 q0,Qa W p p0 q0->p0.natAbs<4294967296^K->q0<4294967296^K->Calls Tryz.prog 179 #[p] W λe w'=>∃t:WT,e=Xa t.val/\zy w' t.val (p0/(q0:Int))/\b_ W w'):=by intro W p p0 q0 hp b1 b2;refine(yZ K (by omega) (Cw K hK) W p p0 q0 hp b1 b2).mono<|eP λw' t ht hb=>?_;obtain⟨t,rfl⟩:=ht.shape;exact⟨t,rfl,ht,hb⟩
 clear h1 h2 h3 ba hbl;obtain⟨n0,n1,n2,hX0⟩:=xj w (.cells #[.bool mb,.slice ma ml mc,.slice na nl nc,.slice fa ts.length fc] 197) (.cells #[.slice none 0 0,.bool false,.slice none 0 0] 90)<|.cells #[.bool false] 4;refine Q0 Tryz.func101 Tryz.ntmps101 (h:=?_);gi_wp2;generalize kah _ _=w0 at *;have hs0:=(zd.1 n2).1;have HKB:=zf λW (hW:Ext w0 W)=>Xc (eK hW n0)<|Xc (eK hW n1)<|(hW.block _ hs0).trans n2;clear n0 n1 n2;refine(zq.2<|HFL0.out w0 _ acc.2.1 acc.2.2 (hbm.below hX0) HBA.out.2.1 HBA.out.2.2).mono<|eP λwA ⟨vb,va,vl,vc⟩ hv hbA=>?_;simp only[WT.val,WT.sv]at hv⊢;have xA:Ext w0 wA:=Xg hbA;have b3:=ze _ _ 3 _ _ _ (HKB.out _<|xA.alloc<|.cells #[.slice none 0 0,.bool vb,.slice va vl vc] 90).1;gi_wp2;have hN4:=zC wA<|.cells #[.slice none 0 0,.bool vb,.slice va vl vc] 90;have xB:Ext w0 (wA.alloc<|.cells #[.slice none 0 0,.bool vb,.slice va vl vc] 90):=xA.alloc _;have hv2:=hv.below<|(Xe wA).alloc<|.cells #[.slice none 0 0,.bool vb,.slice va vl vc] 90;generalize hwB:kah _ _=wB at *;obtain⟨g4,hg4⟩:∃g4,wA.heap.size=g4:=⟨_,rfl⟩;rw[hg4]at hN4⊢;have hg4w:w0.heap.size<=g4:=by have h2:=xA.size;omega
 clear hwB hbA hg4 xA hv;refine(zq.2<|qv fa ts.length fc wB).mono<|eU λw1 hw1=>?_;have x1:Ext wB w1:=by rw[hw1];exact(Xe wB).alloc _
 have k1:w1.cell? ⟨wB.heap.size,0,none⟩=some (.slice fa ts.length fc):=by rw[hw1];exact ze _ _ 0 _ _ _ (zC _ _)
 clear hw1;have x01:=xB.trans x1;have xw1:=hX0.trans x01;have n1:w1.heap[g4]? =some (.cells #[.slice none 0 0,.bool vb,.slice va vl vc] 90):=eK x1 hN4;have hg41:g4<w1.heap.size:=(zd.1 n1).1;have hg4B:g4<wB.heap.size:=(zd.1 hN4).1;have HM1:=zf<|hv2.below x1;obtain⟨q,hq⟩:∃q:Nat->Int×Nat,q=λi=>acc.1.getD i (0,1):=⟨_,rfl⟩;have HQ:=zf hq;clear hN4 b3 hv2 hq;gi_wp2;refine ZT (oJ ts fa fc wB.heap.size<|by omega) rfl (qW Tryz.func236 (by kernel_rfl) rfl) (λk v W=>by rintro⟨t,_,rfl⟩;rfl) (SX w1 g4 (w.heap.size+1) (w.heap.size+1+1) ts.length ⟨vb,va,vl,vc⟩ q) (Ht w (w.heap.size+1) (w.heap.size+1+1) q) (λb=>b=g4\/b=w.heap.size+1\/b=w.heap.size+1+1) ?hI ?hIx ?hC ?h0 ?round ?done ?stop;case hI=>exact λk M A B ⟨M0,⟨h1,v,us,h2,h3,h4⟩,h5,h6⟩ hk=>⟨M0,⟨h1,v,us,h2,h3.eL hk,λi u hu=>zy.eL (h4 i u hu) hk⟩,h5,h6⟩
 case hIx=>exact λc k A B h hk=>h.eL hk xw1.size
 case hC=>rintro k M A ⟨M0,⟨h1,v,us,h2,h3,h4⟩,h5,h6⟩;have hxA:Ext w A:=qk xw1 h3.1 (λb hb=>by omega);have hlt:=h3.lt;have hs1:=h3.1.size;exact⟨⟨h3.1.cell (p:=⟨wB.heap.size,0,none⟩) (by simp;omega) k1,(H2.out.ext hxA).gD⟩,λb hb=>((h5 b).1 hb).elim (hlt b) λh=>by omega⟩
 case h0=>exact⟨λb=>b=g4,⟨qo _,_,[],rfl,XE n1,λi u hu=>by simp at hu⟩,λb=>Qb,λi hi=>by omega⟩
 case round=>rintro l2 k v M A hkN ⟨t0,ht0,rfl⟩ ⟨M0,⟨h1,v,us,hus,hG,hEv⟩,hM,h0⟩;(have hka:k<acc.1.length:=by have:=H1.out;omega);(have hqa:acc.1[k]? =some (acc.1.getD k (0,1)):=by rw[zk,zg hka];rfl);have hxA:Ext w A:=qk xw1 hG.1 (λb hb=>by omega);have h0A:Ext w0 A:=qk x01 hG.1 (λb hb=>by omega);have hF0:=(H3.out k t0 _ ht0 hqa).below hxA;have ba:=HBA.out.1 _<|zx hqa;(have HQK:Hid (q k=acc.1.getD k (0,1)):=by rw[HQ.out];rfl);obtain⟨⟨p0,q0⟩,hpq⟩:∃pq,acc.1.getD k (0,1)=pq:=⟨_,rfl⟩;rw[hpq]at hF0 ba HQK;clear hqa hpq;obtain⟨eb,⟨ea,el,ec⟩,⟨da,dl,dc⟩⟩:=t0;obtain⟨ka,kc,rfl⟩:=hG.2.2.1.shape;rw[zm]at hG;(have hul:us.length<=100000:=by omega);simp only[WT.sv,T.fK.val,T.fK.up,T.fK.down]at hF0 hG⊢;have HUS:=zf hus;clear hus;unfold Zz;gi_wp2;refine⟨Xh<|(Xe A).alloc _,λA2 hk2=>?_⟩;obtain⟨xA,e0,hs2⟩:=Fk hk2;have d0:=ze _ _ 0 _ _ _ e0;have d1:=ze _ _ 1 _ _ _ e0;have d2:=ze _ _ 2 _ _ _ e0;have hF2:=hF0.eL xA;have G2:=hG.eL xA;have Dn:Ext w A2:=qk xw1 G2.1 (λb hb=>by omega);have h02:Ext w0 A2:=qk x01 G2.1 (λb hb=>by omega);have hsA:=hG.1.size;refine ZW ?_;refine yj ?_;refine yj ?_;refine Qt (by rfl) (λ⟨a,w,h⟩=>h) ?_;by_cases hq1:q0=1;{subst hq1;go_wp2_with fail;refine(Kl A2 _ p0 hF2).mono<|eU λA3 hb3=>?_;have x3:Ext A2 A3:=Xg hb3;go_wp2_with fail;refine(show(Code.cond _ _ _).wpIn _ _ _ _ _ _ from G3 rfl (wpIn_skip ?_));have e2:=(x3.block _ (zd.1 G2.2.1).1).trans G2.2.1;have f0:=eK x3 e0;have hvlt:∀b,(Value.slice ka us.length kc).ownBlock=some b->b<A.heap.size/\b≠g4:=λb hb=>⟨(hG.2.2.1.type b hb).1.lt,(hG.2.2.2.1 b hb).1⟩;have HKEEP:=zf (λW (hW:Wr (λb=>(Value.slice ka us.length kc).ownBlock=some b) A3 W)=>have q0:=hW.some f0 (λe=>by have:=hvlt _ e;omega);have q2:=hW.some e2 (λe=>by have:=hvlt _ e;omega);Xc (ze _ _ 0 _ _ _ q2) (Xc (ze _ _ 0 _ _ _ q0)<|Xc (ze _ _ 1 _ _ _ q0)<|ze _ _ 2 _ _ _ q0));have HFZ:=zf (λW (hW:Wr (λb=>(Value.slice ka us.length kc).ownBlock=some b) A3 W)=>(Xf (hW.some e2 λe=>by have:=hvlt _ e;omega):W.frozen? ⟨g4,0,none⟩=false));have HFL:=zf<|HFL0.out A3.drew _ p0 1 (hF2.below x3.drew) ba.1 ba.2;(have e1p:p0/((1:Nat):Int)=p0:=by simp);rw[e1p]at HFL;(have HMO:Hid (∀A4 A5 g5 fZ (u:WT),Ext A3 A4->zy A4 u.val p0->A5.ownsRow w1.heap.size 88 2 (.slice (some ⟨g5,0,none⟩) (us.length+1) fZ) (us.length+1) ((us.map WT.cells).flatten++u.cells)->A4.grownBy A5 (Value.slice ka us.length kc).ownBlock->((Value.slice ka us.length kc).ownBlock=some g5\/A4.heap.size<=g5)->qK A5 g5->ZL M (SX w1 g4 (w.heap.size+1) (w.heap.size+1+1) ts.length ⟨vb,va,vl,vc⟩ q) (Ht w (w.heap.size+1) (w.heap.size+1+1) q) k A A2 .normal { tmps:=#[],defers:= [] } (A5.setCell ⟨g4,0,none⟩<|.slice (some ⟨g5,0,none⟩) (us.length+1) fZ)):=by intro A4 A5 g5 fZ u hy hu own grow at5 gF;obtain⟨m1,M',m2,m3⟩:=yd.more (V:=LJ q) (j:=0) (N:=ts.length) (u:=u) (a:={ tmps:=#[],defers:= [] }) (λ_ _ _ _ _ h hw hu=>zy.wr h hw λb hb=>(hu b hb).1) (λ_ _ h=>zy.eL h xA) HUS.out hG hEv xA (x3.trans hy) (by omega) hkN (by rw[LJ,HQK.out];exact hu) own grow at5 gF;exact⟨m1.mono λb hb=>(hM b).2<|.inl hb,_,⟨M',m2,λb=>Qb,λi hi=>by rcases Qc i k with h|h;{exact h0 i h};rw[show i=k by omega,HQK.out]⟩,λb hb=>hb.elim (λh=>(m3 b h).imp (λh=>(hM b).2<|.inl h) id) λh=> .inl<|(hM b).2<|.inr h⟩);clear e0 e2 f0 hF0 hF2 ba d0 d1 d2 hb3 hG;refine(show(Code.region _ _ _).wpIn _ _ _ _ _ _ from Hv 9 (S:=λW=>W.cell? ⟨g4,0,none⟩=some (.slice ka us.length kc)/\W.cell? ⟨A.heap.size,0,none⟩=some (.bool eb)/\W.cell? ⟨A.heap.size,1,none⟩=some (.slice ea el ec)/\W.cell? ⟨A.heap.size,2,none⟩=some (.slice da dl dc)) hm (by rfl) (λ⟨a,w,h⟩=>h) (HKEEP.out A3<|Xk _ _) (h:=λhHeld=>?_));refine fO [0,1,2,3] ?_;refine fV 4 HFL.out<|eP λA4 ⟨qb,qa,ql,qc⟩ hq4 hb4=>?_;have x4:Ext A3 A4:=ZG hb4;have x5:Ext A3 (A4.alloc<|.cells #[.bool qb,.slice qa ql qc] 88):=x4.alloc _;have hu5:=hq4.below<|(Xe A4).alloc<|.cells #[.bool qb,.slice qa ql qc] 88;simp only[WT.val,WT.sv];refine bk (HKEEP.out _<|Xh x4) λhHeld=>?_;refine fR 5 λK hK=>?_;go_simp;refine hK.out _ _ (HKEEP.out _<|Xh x5) (h:=λhHeld=>?_);clear hK K;refine fR 6 λK hK=>?_;refine B7 Bf Tryz.underlying82 (G2.2.2.1.ext<|x3.trans x5) (by have:=x3.size;have:=x4.size;omega) ?_;intro g6 cap6 A6 own6 grow6 at6 lt6 dig6;have x6:Wr (λb=>(Value.slice ka us.length kc).ownBlock=some b) A3 A6:=(Xh x5).trans<|Qh grow6 λg hg=>hg;have HF:=zf (HMO.out _ A6 g6 cap6 ⟨qb,qa,ql,qc⟩ x5 hu5 own6 grow6 (at6.imp id λe=>by simp[e]) dig6);have s8:=(HKEEP.out _ x6).1;clear own6 grow6 at6 lt6 dig6;refine hK.out _ _ (HKEEP.out _ x6) (h:=λhHeld=>?_);clear hK K;have f8:=HFZ.out _ x6;refine fO [7,8] ?_;refine zV (by kernel_rfl) (E_ (h:=?_)) _;go_simp;exact HF.out};go_wp2_with fail;refine(Ku A2 _ p0 q0 hF2 hq1).mono<|eU λA3 hb3=>?_;have x3:Ext A2 A3:=Xg hb3;go_wp2_with fail;refine(show(Code.cond _ _ _).wpIn _ _ _ _ _ _ from Gw rfl (yj ?_));obtain⟨-,r2,r3⟩:=HKB.out A3<|h02.trans x3;obtain⟨-,-,⟨c0,c1,c2⟩,f0,f1,f2⟩:=nr r2 (.bool false) (.bool false)<|.bool false;have c3:=ze _ _ 0 _ _ _ r3;have f3:A3.frozen? ⟨w.heap.size+1+1,0,none⟩=false:=Xf r3;obtain⟨u2,u3,u4⟩:=vD (by omega) r2 r3 (.slice none 0 0) (.bool false) (.slice none 0 0)<|.bool false;have u5:=(Xh (T:=λb=>b=w.heap.size+1\/b=w.heap.size+1+1) x3).trans u4;have HX:Hid (Wr M A2 _/\Ht w (w.heap.size+1) (w.heap.size+1+1) q .ret k _):=⟨u5.mono λb hb=>(hM b).2<|.inr hb,rfl,by rw[HQK.out];exact hq1,qk Dn u5 λb hb=>by omega,ze _ _ 0 _ _ _ u2,ze _ _ 1 _ _ _ u2,ze _ _ 2 _ _ _ u2,ze _ _ 0 _ _ _ u3⟩;clear u2 u3 u4 u5 r2 r3 e0 hF0 hF2 ba d0 d1 d2 hb3 Dn;refine Qt (by rfl) (λ⟨a,w,h⟩=>h) ?_;go_wp2_with fail;refine(show Code.ret.wpIn _ _ _ _ _ _ from wpIn_ret ?_);exact HX.out
 case done=>rintro D M A hD ⟨M0,⟨h1,v,us,h2,h3,h4⟩,h5,h0⟩ hd;obtain⟨ka,kc,rfl⟩:=h3.2.2.1.shape;rw[zm]at h3;simp only[WT.sv]at h3;have x0A:Ext w0 A:=qk x01 h3.1 (λb hb=>by omega);have m0:=ze _ _ 0 _ _ _ h3.2.1;have m1:=ze _ _ 1 _ _ _ h3.2.1;have m2:=ze _ _ 2 _ _ _ h3.2.1;obtain⟨-,r2,r3⟩:=HKB.out A x0A;obtain⟨-,-,⟨c0,c1,c2⟩,f0,f1,f2⟩:=nr r2 (.bool false) (.bool false)<|.bool false;have c3:=ze _ _ 0 _ _ _ r3;have f3:A.frozen? ⟨w.heap.size+1+1,0,none⟩=false:=Xf r3;(have HRV:Hid (QG A ⟨(ka,us.length,kc),⟨vb,va,vl,vc⟩⟩ (acc.1.map Prod.fst,acc.2.1/(acc.2.2:Int))):=by refine⟨⟨us,?_,h3.2.2.1.list,λi u z hu hz=>?_⟩,(HM1.out).wr h3.1 λb hb=>by rcases hb with rfl|rfl<;>exact zE n1<|fj rfl⟩;{rw[zm,h2];exact H1.out};have hi:=(zo.1 hu).1;(have hi1:i<acc.1.length:=by have:=H1.out;omega);rw[zR,zg hi1]at hz;simp only[qY,qN]at hz;have h9:=h4 i u hu;simp only[LJ,HQ.out,zk,zg hi1,qB]at h9;rw[<-hz];exact h9);(have HFS:Hid (fC acc=some (acc.1.map Prod.fst,acc.2.1/(acc.2.2:Int))):=by unfold Hid fC;rw[zQ];rw[Zi];intro a ha;obtain⟨i,hi,rfl⟩:=qM ha;have h9:=h0 i (by have:=H1.out;omega);simp only[HQ.out,zk,zg hi,qB]at h9;exact wz h9);(have HFR:Hid (∀g,(Value.slice ka us.length kc).ownBlock=some g->w.heap.size<=g):=λg hg=>by have:=(h3.2.2.1.type g hg).2;have:=xw1.size;omega);obtain⟨u2,u3,u4⟩:=vD (by omega) r2 r3 (.slice ka us.length kc) (.bool vb) (.slice va vl vc)<|.bool true;have HU:=zf<|Xc u2<|Xc u3 u4;have HD9:=zf (u4.some hd λe=>by omega);have HV9:=zf (HRV.out.wr u4 λb hb=>by rcases hb with rfl|rfl;{exact⟨λht=>absurd (ht.one ⟨_,_,r2⟩)<|by decide,zE r2<|fj rfl⟩};exact⟨λht=>absurd (ht.one ⟨_,_,r3⟩)<|by decide,zE r3<|fj rfl⟩);have HB9:=zf (qk (hX0.trans x0A) u4 λb hb=>by omega);clear h1 h2 h3 h4 h5 h0 u2 u3 u4 r2 r3;gi_wp2;refine qh HD9.out ?_;have hkD:=zn.putObj (B:=w.heap.size) (.deferred none) (by omega) HD9.out rfl;have d0:=hkD.cell<|ze _ _ 0 _ _ _ HU.out.1;have d1:=hkD.cell<|ze _ _ 1 _ _ _ HU.out.1;have d2:=hkD.cell<|ze _ _ 2 _ _ _ HU.out.1;have d3:=hkD.cell<|ze _ _ 0 _ _ _ HU.out.2.1;exact⟨.tuple #[.agg #[.slice ka us.length kc,.bool vb,.slice va vl vc],.bool true],by simp[results,Tryz.results101,go_sem,d0,d1,d2,d3],⟨⟨(ka,us.length,kc),⟨vb,va,vl,vc⟩⟩,.inr ⟨_,_,HFS.out,rfl,HV9.out.eL hkD,HFR.out⟩⟩,hkD.below HB9.out (zh _)<|zh _⟩
 case stop=>rintro D c k A hD hk ⟨rfl,h1,h2,h3,h4,h5,h6⟩ hd;gi_wp2;refine qh hd ?_;have hkD:zn w1.heap.size A (A.putObj D<|.deferred none):=zn.putObj _ hD hd rfl;have d0:=hkD.cell h3;have d1:=hkD.cell h4;have d2:=hkD.cell h5;have d3:=hkD.cell h6;(have hfn:fC acc=none:=by (have hka:k<acc.1.length:=by have:=H1.out;omega);unfold fC;rw[zO];rw[Bool.not_eq_true,List.all_eq_false];refine⟨acc.1[k],zJ hka,?_⟩;(have h1':¬(acc.1.getD k (0,1)).2=1:=by rw[HQ.out]at h1;exact h1);rw[zk,zg hka]at h1';simpa using h1');exact⟨.tuple #[.agg #[.slice none 0 0,.bool false,.slice none 0 0],.bool false],by simp[results,Tryz.results101,go_sem,d0,d1,d2,d3],⟨⟨(none,0,0),⟨false,none,0,0⟩⟩,.inl ⟨hfn,rfl⟩⟩,(hkD.mono xw1.size).below h2 (zh _)<|zh _⟩
end
section
variable {d:DP}{w w':H}{x:Nat×Int×Nat}
theorem tN(s)(m)(w)(hs:s.size<=1000000000):
 C_ 167 #[gS s,i_ (m:Nat)] w λe w'=>∃(a:A_) (l c:Nat),e=Xa (tp #[V a l c,G (T.lK s.data.toList m)])/\(T.lK s.data.toList m=true->fe w' (V a l c) (ZE s.data.toList))/\b_ w w':=by have g:ByteArray.mk s.data.toList.toArray=s:=rfl;cases h:T.lK s.data.toList m with |true=>obtain⟨b,d,f⟩:=Gp h;rw[BJ]at b d;refine(gW s m w hs b d f).mono<|eP λw' _ b d=>?_;obtain⟨a,l,c,rfl⟩:=b.slice;grind |false=>have b:=xH h;rw[g]at b;refine(iR s m w om b).mono<|fB ?_;exact⟨O,0,0,rfl,(λh=>g_),qf _ _⟩
theorem rO(s)(m)(w)(hs:s.size<=1000000000):
 C_ 267 #[gS s,i_ (m:Nat)] w λe w'=>∃t:T.fK,e=Xa (tp #[t.val,G (T.lu (kag s.data.toList [45]) m)])/\(T.lu (kag s.data.toList [45]) m=true->Qa w' t.val (T.rP s.data.toList) (T.rQ s.data.toList))/\b_ w w':=by cases h:T.lu (kag s.data.toList [45]) m with |true=>refine(mG s m w hs h).mono ?_;rintro e w' ⟨_,rfl,b,a⟩;obtain⟨t,rfl,-⟩:=b.shape;grind |false=>refine(nM s m w hs h).mono ?_;rintro e w' ⟨f,b,l,c,d,i,g,rfl,a⟩;exact⟨⟨f,(b,l,c),(d,i,g)⟩,rfl,(λh=>g_),a⟩
theorem pY{l}{m M}(b:l.length<=m)(a:l.length<=M):T.lK l M=T.lK l m:=by unfold T.lK;rw[wz b,wz a]
theorem rW(L:U_)(c):(kaa L [c]).1.length<=L.length/\(kaa L [c]).2.1.length<=L.length:=by unfold kaa;grind
theorem yM{l}{m M}(b:l.length<=m)(a:l.length<=M):T.lu l M=T.lu l m:=by obtain⟨_,_⟩:=rW l 47;unfold T.lu;rw[pY (m:=m) om om,pY (m:=m) (M:=M) om om]
def iD (w:H)(d:DP)(x:Nat×Int×Nat):Prop:=fe w d.rv x.1/\Qa w d.f.val x.2.1 x.2.2
theorem iD.eL{B}(h:iD w d x)(a:zn B w w'):iD w' d x:=⟨h.1.eL a,h.2.eL a⟩
theorem iD.ext(h:iD w d x)(a:Ext w w'):iD w' d x:=h.eL (B:=0) (zn.eX a)
theorem iD.wr{U}(h:iD w d x)(b:Wr U w w')(a:∀k,U k->qK w k):iD w' d x:=⟨h.1.wr b a,h.2.wr b a⟩
theorem xZ{g}(a b c d):Wr (λk=>k=g) w ((((w.setCell (Xd g 0 O) a).setCell (Xd g 1 O) b).setCell (Xd g 2 O) c).setCell (Xd g 3 O) d):=(((zv (U:=λk=>k=g) rfl _).trans<|zv (U:=λk=>k=g) rfl _).trans<|zv (U:=λk=>k=g) rfl _).trans (zv (U:=λk=>k=g) rfl _)
theorem tv(s)(hs:s.size<=1000000000)(w):
 C_ 231 #[gS s] w λe w'=>∃d,e=Xa (tp #[d.val,G (T.fT s.data.toList)])/\(T.fT s.data.toList=true->iD w' d (T.ko s.data.toList,T.mK s.data.toList,T.sE s.data.toList))/\b_ w w':=by
 obtain⟨C,M⟩:=rW s.data.toList 58;rw[BJ]at C M;have N:=λW=>zi s W om;unfold T.fT T.ko T.mK T.sE;rw[BJ];have ht:=gV (kaa s.data.toList [58]).2.1 [45];generalize kaa s.data.toList [58]=cc at *;obtain⟨a,b,_⟩:=cc;simp only at N C M ht⊢;have a1:(ByteArray.mk a.toArray).data.toList=a:=sp;have eb:(ByteArray.mk b.toArray).data.toList=b:=sp;have Q:=λW=>tN ⟨a.toArray⟩ 9223372036854775807 W (by rw[xJ];omega);have R:=λW=>rO ⟨b.toArray⟩ 9223372036854775807 W (by rw[xJ];omega);rw[a1,pY C om]at Q;rw[eb,yM (m:=s.size) om om]at R;have a3:=zf N;have HP:=zf Q;have HQ:=zf R;clear N Q R a1 eb C M ht;generalize ZE a=n at *;generalize T.rP b=a8 at *;generalize T.rQ b=a9 at *;generalize T.lK a s.size=a5 at *;generalize T.lu (kag b [45]) s.size=a6 at *;have a2:Ext w (w.alloc<|cl #[V_,G false,V_,V_] 295):=(Xe w).alloc _;have K:=zC w<|cl #[V_,G false,V_,V_] 295;go_enter func231,ntmps231;go_wp2_with fail;refine(a3.out _).mono ?_;rintro e w1 ⟨rfl,_,rfl⟩;go_wp2_with fail;refine(HP.out _).mono ?_;rintro e w2 ⟨X,Z,Y,rfl,hv,L⟩;have x2:=a2.trans<|Xg<|JJ L;have U:=((Xg<|JJ L).block _ (zd.1 K).1).trans K;go_wp2_with fail;refine(HQ.out _).mono<|eP λi ⟨u,⟨t,x,v⟩,⟨y,A,z⟩⟩ P B=>?_;simp only[T.fK.val,T.fK.up,T.fK.down]at P⊢;have x3:=x2.trans<|Xg B;have h:=((Xg B).block _ (zd.1 U).1).trans U;have HV:=zf λI=>(hv I).below<|Xg B;have HF:=zf P;clear hv P L B U x2 a2 K;have a7:=(zd.1 h).1;obtain ⟨c0,c1,c2,c3⟩:=eI h;have f0:=Xf (j:=0) h;have f1:=Xf (j:=1) h;have f2:=Xf (j:=2) h;have f3:=Xf (j:=3) h;have a0:=zf λa b c d=>Xc (T.pV (a':=a) (b':=b) (c':=c) (d':=d) h)<|xZ (w:=i) (g:=w.heap.size) a b c d;have a4:Hid (qK i _):=zE h (by intro aa hu;simp at hu;rcases hu with rfl|rfl|rfl|rfl<;>(intro n e;grind));have F:Hid (∀a b c d,Wr (λS=>S=w.heap.size) i (((((i.setCell (y_ w 0) a).setCell (y_ w 1) b).setCell (y_ w 2) c).setCell (y_ w 3) d).alloc<|cl #[G u,V t x v,V y A z] 194)/\(((((i.setCell (y_ w 0) a).setCell (y_ w 1) b).setCell (y_ w 2) c).setCell (y_ w 3) d).alloc<|cl #[G u,V t x v,V y A z] 194).heap[w.heap.size]? =E (cl #[a,b,c,d] 295)):=by intro a b c d;have J:=a0.out a b c d;exact⟨J.2.trans<|Xh<|(Xe _).alloc _,(qH _ _ _ (zd.1 J.1).1).trans J.1⟩
 clear h a0;have D:Hid (∀W,Wr (λS=>S=w.heap.size) i W->b_ w W):=λW hW=>Qg x3<|hW.below om λb hb=>om;cases a5 with |false=>go_wp2_with fail;obtain⟨j,f⟩:=F.out (V_) (G false) (V_)<|V_;obtain ⟨k,o,p,q⟩:=eI f;refine⟨rfl,tp #[ag #[V_,G _,V_,V_],G _],by simp[results,results231,go_sem,k,o,p,q],⟨(O,0,0),⟨false,(O,0,0),(O,0,0)⟩⟩,rfl,(λI=>g_),D.out _ j⟩ |true=>cases a6 with |false=>go_wp2_with fail;obtain⟨j,f⟩:=F.out (V_) (G false) (V_)<|V_;obtain ⟨k,o,p,q⟩:=eI f;refine⟨rfl,tp #[ag #[V_,G _,V_,V_],G _],by simp[results,results231,go_sem,k,o,p,q],⟨⟨(O,0,0),⟨false,(O,0,0),(O,0,0)⟩⟩,rfl⟩,D.out _ j⟩ |true=>go_wp2_with fail;obtain⟨j,f⟩:=F.out (V X Z Y) (G u) (V t x v)<|V y A z;obtain ⟨k,o,p,q⟩:=eI f;refine⟨rfl,tp #[ag #[V X Z Y,G u,V t x v,V y A z],G _],by simp[results,results231,go_sem,k,o,p,q],⟨(X,Z,Y),⟨u,(t,x,v),(y,A,z)⟩⟩,rfl,?_,D.out _ j⟩;exact iD.wr ⟨HV.out trivial,HF.out trivial⟩ j (λb hb=>by rw[hb];exact a4.out)
theorem wK(a:A_)(l c)(w):
 C_ 173 #[V a l c] w λe w'=>e=Xa (.func (.func 230) #[] #[p_ w.heap.size 0])/\w'=w.alloc (cl #[V a l c] 28):=by go_enter func173,ntmps173;go_wp2;go_ret;simp
def KO (ts:List ST)(k:Nat)(v:W_)(W:H):Prop:=
 ∃t d,ts[k]? =E t/\v=#[d.val,G (T.fT t.s.data.toList)]/\(T.fT t.s.data.toList=true->iD W d (T.ko t.s.data.toList,T.mK t.s.data.toList,T.sE t.s.data.toList))
theorem ue(ts)(ao:A_)(cap bt)(hn:ts.length<=1000000)(Gy:∀t∈ts,t.s.size<=1000000000):
 Ja pg 230 #[p_ bt 0] ts.length (KO ts) (λW=>W.cell? (Xd bt 0 O)=E (V ao ts.length cap)/\T.kB W (V ao ts.length cap) 1 (ts.map ST.cells)):=by
 intro l J Jx M0 W hJ hJx hC hY h0;have hc:=(hC 0 _ W h0).1.1;have HC:=zf hC;have HY:=zf hY;have HTS:=zf Gy;clear hY hC Gy;refine sF Tryz.func230 Tryz.ntmps230 (h:=?_);gi_wp2;gi_loopw [7] (λi wr=>∃(k:Nat) (M:Nat->Prop),i=i_ (k:Int)/\k<=ts.length/\J k M wr/\W.heap.size<=wr.heap.size) (λi _=>ts.length-(intOf i).toNat);case atStart=>grind
 case round=>obtain⟨k,M,rfl,hk,hj,hle⟩:=hrel;by_cases hkn:k<ts.length;{have htk:=zg hkn;obtain⟨g,off,rfl,hg,hcell⟩:=(HC.out k M _ hj).1.2.at (by intro e;rw[QB]at e;grind);have hcs:=hcell k _ (by rw[zR,htk];rfl);have HYK:=zf λWW (d) hp hjj=>HY.out k #[d.val,G _] M WW hkn ⟨_,d,htk,rfl,hp⟩ hjj;have HRP:=zf λWW=>tv _ (HTS.out _<|zJ hkn) WW;clear hcell htk;generalize ts[k]=t at *;obtain⟨ts0⟩:=t;have c0:=hcs 0 _ rfl;simp only[qV,jM]at c0;clear hcs hc;gi_wp2;refine(zq.2<|HRP.out _).mono<|eP λW2 ⟨⟨ra,rl,rc⟩,⟨fb,⟨fa,fl,fc⟩,⟨da,dl,dc⟩⟩⟩ hp hb2=>?_;have HYD:=zf<|HYK.out _ _ hp<|hJ _ _ _ _ hj<|zn.eX hb2;simp only[DP.val,DP.rv,T.fK.up,T.fK.down]at HYD⊢;have hs2:=hb2.size;clear hp HYK HRP;generalize T.fT ts0.data.toList=ok at *;gi_wp2;refine jr HYD.out ?_ ?_;{rintro W3 ⟨hw3,M3,hj3,_⟩;gi_wp2;go_roundw;(case rel=>exact⟨_,_,g_,hkn,hj3,by have:=hw3.size;omega⟩);case measure=>simp[intOf];omega};intro W3 hj3;gi_wp2;refine zH (qI rfl _ _ _) rfl ?_;grind};gi_wp2;go_end0;grind
end
section
variable {n:Nat}{v:Value}{w w':H}
def nk (last:Bool)(x:U_×Bool):Option (List (Nat×Int×Nat)):=
 if x.2=true/\(Zb x.1).headD []=(if last=true then [101,110,100]else [99,117,116])/\((Zb x.1).drop 1).all T.fT=true then E (((Zb x.1).drop 1).map T.iM)else O
def ie (p:qF)(kind:Int)(z:Int)(row:L_×Int):Bool:=
 if kind=1 then decide (row=(p.mx,z))else decide (row.1=kaf p.n 0)&&decide (row.2<0)
def fS (n:Nat)(goal:L_×Int->Bool):Nat->R_->List (U_×Bool)->Nat×Nat
 |_,_,[]=>(5,1)
 |k,rows,x::r=>
  match nk r.isEmpty x with
  |none=>(5,k+1)
  |some ps=>match ff rows ps (kaf n (0,1),(0,1))with
   |.error e=>(e,k+1)
   |.ok acc=>
    if r.isEmpty=true then(if ((fC acc).map goal).getD false=true then(0,0)else(12,k+1))
    else match fC acc with
     |none=>(11,k+1)
     |some row=>fS n goal (k+1) (rows ++ [row]) r
def lq (l:U_):Bool:=T.lK (kag l [45]) 100
def iT (rows:R_)(x:L_):Bool:=rows.all λr=>decide (T.eO r.1 x<=r.2)
def fy (p:qF)(kind:Int)(pt:List (U_))(v:U_):Except Nat Int:=
 if kind=2 then .ok 0
 else if kind≠1\/lq v=false\/pt.length≠p.n\/pt.all lq=false then .error 7
 else if iT (T.eV p) (pt.map T.wZ)=true/\T.eO p.mx (pt.map T.wZ)=T.wZ v then .ok (T.wZ v)else .error 8
def gU (s:U_)(kind:Int)(pt:List (U_))(v log:U_):Nat×Nat:=
 match JY s with
 |.error e=>e
 |.ok p=>match fy p kind pt v with
  |.error e=>(e,0)
  |.ok z=>if 20000<log.length then(4,0)else fS p.n (ie p kind z) 0 (T.eV p) (QW log)
theorem Dw{l:U_}{m}(h:T.lu (kag l [45]) m=true):Sz (10^m) (10^m) (T.rP l,T.rQ l):=by
 unfold T.lu at h;simp only[Qj,Bool.or_eq_true,Bool.not_eq_true',Z9]at h;obtain⟨d,a⟩:=h;have b:T.rA l<10^m:=T.mO d;have b:0<T.rD l/\T.rD l<=10^m:=by unfold T.rD T.pE;rcases a with a|⟨a,e⟩;{grind};split;{exact⟨Z3 e,vK<|T.mO a⟩};omega
 have f:R8 (T.rA l) _ ∣ T.rD l:=wv _ _;have i:R8 _ (T.rD l) ∣ T.rA l:=vq _ _;have g:0<R8 (T.rA l) _:=Nat.gcd_pos_of_pos_right _ b.1;have e:0<T.rQ l:=Nat.div_pos (Bl b.1 f) g;refine⟨e,?_,zF (xR _ _) b.2⟩;have b:(T.rP l).natAbs=T.rA l/R8 (T.rA l) (T.rD l):=by unfold T.rP;have f:(R8 (T.rA l) (T.rD l):Int) ∣ sg (Lib.hasPrefix l [45]) (T.rA l):=BV.2 (by rw[l9];omega);rw[Int.natAbs_ediv_of_dvd f,Q9,l9]
 show(T.rP l).natAbs<=10^m*T.rQ l;rw[b];have d:=xR (T.rA l)<|R8 (T.rA l)<|T.rD l;have a:10^m*1<=10^m*T.rQ l:=Zr _ e;omega
theorem sL{l}(h:T.fT l=true):Sz (10^l.length) (10^l.length) (T.iM l).2:=by unfold T.fT at h;rw[Qj]at h;exact Dw h.2
def iW (ws:List (U_)):Nat:=(ws.map λl=>l.length+1).sum
theorem Ei(s l):10^s+10^l<=10^(s+(l+1)):=by have a:10^(s+(l+1))=10*(10^s*10^l):=g_;have a:0<10^s:=Dc om;have b:0<10^l:=Dc om;have d:10^s*1<=10^s*10^l:=Zr _ b;have b:1*10^l<=10^s*10^l:=zZ _ a;omega
theorem uJ{R:Nat}{rows:R_}(i:iA n R rows):∀(a:List (U_)) (s:Nat) (d b:List (Int×Nat)×(Int×Nat)),(∀l∈a,T.fT l=true)->nU (R*10^s) (10^s) d->d.1.length=n->ff rows (a.map T.iM) d= .ok b->nU (R*10^(s+iW a)) (10^(s+iW a)) b/\b.1.length=n
 |[],s,d,b,_,e,f,h=>by simp only[MA,ff,Except.ok.injEq]at h;subst h;exact⟨by simpa[iW]using e,f⟩ |l::a,s,d,b,g,e,f,h=>by rw[Zk,ff]at h;by_cases h1:(T.iM l).1<1\/rows.length<(T.iM l).1;{rw[zQ h1]at h;cases h};rw[zO h1]at h;by_cases h2:(T.iM l).2.1<=0;{rw[zQ h2]at h;cases h};rw[zO h2]at h;obtain⟨b1,j⟩:=CY i (sL<|g l qA) h1 e f;(have d:s+iW (l::a)=s+(l.length+1)+iW a:=by simp[iW];omega);rw[d];(have e:10^s*10^l.length<=10^(s+(l.length+1)):=by rw[<-Q6];exact ZD om om);(have d:R*10^s+R*10^l.length<=R*10^(s+(l.length+1)):=by rw[<-Zs];exact Zr _<|Ei _ _);refine uJ i a (s+(l.length+1)) _ b (λx a=>g x<|qq _ a) ⟨λa b=>(b1.1 a b).mono d e,b1.2.mono d e⟩ j h
theorem C3(n R):nU (R*10^0) (10^0) (kaf n ((0),1),((0),1)):=⟨λa a=>by rw[(List.mem_replicate.1 a).2];exact⟨Nat.one_pos,sp,sp⟩,⟨Nat.one_pos,sp,sp⟩⟩
theorem DN{R:Nat}{rows:R_}(i:iA n R rows){a:List (U_)}(g:∀l∈a,T.fT l=true){S:Nat}(f:iW a<=S)(k:Nat)(b:List (Int×Nat)×(Int×Nat))(h:ff rows ((a.map T.iM).take k) (kaf n (0,1),(0,1))= .ok b):nU (R*10^S) (10^S) b/\b.1.length=n:=by
 rw[<-List.map_take]at h;obtain⟨d,e⟩:=uJ i _ 0 _ b (λl b=>g l<|ZY b) (C3 n R) sp h;have i:0+iW (a.take k)<=S:=by
  refine zF ?_ f;rw[qt];clear h d e g f;unfold iW;conv=>rhs;rw[<-Fh k a]
  rw[Z6,List.sum_append];omega
 have b:10^(0+iW _)<=10^S:=ZD om i;exact⟨⟨λa f=>(d.1 a f).mono (Zr _ b) b,d.2.mono (Zr _ b) b⟩,e⟩
theorem BL{M:Nat}{z:Int}{q:Nat}(a:0<q)(h:z.natAbs<=M*q):(z/(q:Int)).natAbs<=M:=by
 have b:z<=(M*q:Nat):=om;have d:-((M*q:Nat))<=z:=om;have a:(0)<(q:Int):=om;have e:z/(q:Int)<=M:=by have:=Int.ediv_le_ediv a b;rw[J0,Int.mul_ediv_cancel _ om]at this;exact this
 have b:-(M:Int)<=z/(q:Int):=by have:=Int.ediv_le_ediv a d;rw[J0,<-Int.neg_mul,Int.mul_ediv_cancel _ om]at this;exact this
 omega
theorem wJ{M D}{a}(b:nU M D a)(e:a.1.length=n){row}(h:fC a=E row):row.1.length=n/\(∀z∈row.1,z.natAbs<=M)/\row.2.natAbs<=M:=by unfold fC at h;split at h;{rename_i d;rw[qN]at h;subst h;refine⟨g_,λz f=>?_,BL b.2.pos b.2.up⟩;obtain⟨a,e,rfl⟩:=qP.1 f;have f:=Zi.1 d a e;have d:=(b.1 a e).up;grind};grind
theorem pM:∀(f:Nat) (l:U_),l.length<f->iW (ri f l)=l.length+1
 |0,l,h=>om |f+1,l,h=>by rw[ri];have b:=Ef 32 l;by_cases a:(kaa l [32]).2.2=true;{rw[zQ a]at b⊢;have:=pM f (kaa l [32]).2.1 om;simp only[iW,Zk,QI]at this⊢;omega};rw[zO a]at b⊢;rw[Lw (c:=32) (l:=l)<|by simpa using a];simp[iW]
theorem ny(l):iW ((Zb l).drop 1)<=l.length:=by have h:=pM (l.length+1) l om;have a:Zb l=ri _ l:=rfl;rw[a];cases hx:ri (l.length+1) l with |nil=>simp[iW] |cons a r=>rw[hx]at h;simp only[iW,Zk,QI,List.drop_succ_cons,Q2]at h⊢;omega
theorem pI:∀(f:Nat) (l:U_),((JA f l).map λx=>x.1.length).sum<=l.length
 |0,l=>by simp[JA] |f+1,l=>by rw[JA];split;{simp};have a:=Ef 10 l;have:=pI f (kaa l [10]).2.1;simp only[Zk,QI];omega
theorem AW(l):((QW l).map λx=>x.1.length).sum<=l.length:=pI _ l
theorem sP{L}{p}(f:lN L p)(a:2+p.n<=L):iA p.n (10^40) (T.eV p):=by
 have j:p.rg.length=p.n:=by have:=f.g;omega
 intro r a;unfold T.eV at a;rcases zU.1 a with a|a;{obtain⟨x,b,a⟩:=jj.1 a;obtain⟨g,_⟩:=f.c x b;obtain⟨d,e⟩:=f.br x b;unfold T.fk at a;grind};obtain⟨i,k,a⟩:=jj.1 a;have h:i<p.rg.length:=g_;have hm:p.rg.getD i (0,0)∈p.rg:=g_;obtain⟨d,e⟩:=f.bg _ hm;(have f:∀z∈T.fh p.n i,z.natAbs<=10^40:=by intro z b;unfold T.fh at b;obtain⟨_,_,rfl⟩:=qP.1 b;split;{omega};omega);(have h:(T.fh p.n i).length=p.n:=by simp[T.fh]);unfold T.gK at a;grind
theorem yH{a}(e:w.heap[a]? =E (cl (madeCells #[G false,V_,V_] (n*3)) 194)):ZS w 194 (V (E (Xd a 0 O)) n n) 3 ((kaf n (⟨false,(O,0,0),(O,0,0)⟩)).map T.fK.cells):=by refine kac ⟨a,0,n,sp,sp,⟨_,_,e⟩,λi cs b j u a=>?_⟩;rw[zR,KQ]at b;by_cases d:i<n;{rw[zQ d]at b;simp only[qY,qN,T.fK.cells,T.fK.up,T.fK.down]at b;subst b;obtain⟨f,g,h⟩:=T.yK d;rw[qt];refine(ze _ _ _ _ _ _ e).trans ?_;grind};grind
theorem uZ(n:Nat)(A:n<=100000)(w:H):
 Calls pg 174 #[it Xb (n:Nat)] w fun e w'=>∃b:BT,e=Xa b.val/\gY w' b (kaf n (0,1),(0,1))/\Below w.heap.size w w':=by
 obtain⟨u,g,i,j,k⟩:=Zn ux;have z:∀W:H,(Instr.makeSlice 195 (it Xb (n:Nat))<|it Xb (n:Nat)).run pg W= .ok (V (E<|Xd W.heap.size 0 O) n n) (W.alloc<|cl (madeCells #[G false,V O 0 0,V O 0 0]<|n*3) 194):=by
  intro W;have:=run_make (P:=pg) W 195 194 u _ underlying195 g i Xb Xb (n:Int) (n:Int) om om (by rw[k];omega) om;rw[j,jT]at this;exact this
 have y:Ext w (w.alloc<|cl #[G false,V O 0 0,V O 0 0,V O 0 0] 197):=(Xe w).alloc _;have x:=zC w<|cl #[G false,V O 0 0,V O 0 0,V O 0 0] 197;have B:(w.alloc<|cl #[G false,V O 0 0,V O 0 0,V O 0 0] 197).heap.size=w.heap.size+1:=sp;clear g i j k;go_enter func174,ntmps174
 go_wp2_with fail
 obtain⟨d,v⟩:=Xi w (cl #[G false,V O 0 0,V O 0 0,V (E ⟨w.heap.size+1,0,O⟩) n n] 197)<|cl (madeCells #[G false,V O 0 0,V O 0 0]<|n*3) 194;have l:=c_ 0 d;have m:=c_ 1 d;have o:=c_ 2 d;have p:=c_ 3 d;refine⟨rfl,ag #[G false,V O 0 0,V O 0 0,V (E ⟨w.heap.size+1,0,O⟩) n n],by simp[results,results174,go_sem,l,m,o,p],⟨⟨false,(O,0,0),(O,0,0)⟩,(E ⟨w.heap.size+1,0,O⟩,n,n)⟩,rfl,⟨⟨kaf n ⟨false,(O,0,0),(O,0,0)⟩,sp,yH v,fun t D C a f=>?_⟩,r8 _⟩,((qf _ _).alloc (zh _) _).alloc sp _⟩;rw[KQ]at a f;by_cases h:t<n
 ·rw[zQ h]at a f;have q:=Q8 a;have s:=Q8 f;subst q;subst s;exact r8 _
 ·rw[zO h]at a;cases a
structure DL where
 n:Int
 e:Bool
 p:S_
def DL.pv (d:DL):Value:=V d.p.1 d.p.2.1 d.p.2.2
def DL.val (d:DL):Value:=ag #[i_ d.n,G d.e,d.pv]
def iE (w:H)(v:Value)(ps:List (Nat×Int×Nat)):Prop:=
 ∃ds:List _,ds.length=ps.length/\ZS w 295 v 4 (ds.map DP.cells)/\∀(i:Nat) d x,ds[i]? =E d->ps[i]? =E x->iD w d x
theorem iE.eL{B}{b}(h:iE w v b)(a:zn B w w'):iE w' v b:=by obtain⟨f,b,d,e⟩:=h;exact⟨f,b,d.eL a,λi t z b d=>(e i t z b d).eL a⟩
theorem iE.ext{a}(h:iE w v a)(b:Ext w w'):iE w' v a:=h.eL (B:=0) (zn.eX b)
theorem iE.wr{U}{a}(h:iE w v a)(d:Wr U w w')(b:∀k,U k->¬qQ w k 295/\qK w k):iE w' v a:=by obtain⟨g,a,e,f⟩:=h;exact⟨g,a,e.wr d λk a=>(b k a).1,λi t z e g=>(f i t z e g).wr d λk a=>(b k a).2⟩
def mq (last:Bool):U_:=if last=true then [101,110,100]else [99,117,116]
theorem lW(last)(w):C_ 172 #[G last] w λe w'=>e=Xa (gS ⟨(mq last).toArray⟩)/\w'=w:=by cases last<;> {go_enter func172,ntmps172;go_wp2;go_ret;exact⟨rfl,rfl⟩}
theorem CO:(Tryz.prog.info? 295).map (λi=>(i.zero,i.size,i.bytes))=E (E (ag #[V_,G false,V_,V_]),4,80):=kr
theorem wj(s)(hs:s.length<=90000)(w0:H):
 C_ 170 #[.func (.func 229) #[] #[p_ w0.heap.size 0]] (w0.alloc (cl #[gS ⟨s.toArray⟩] 9)) λe w'=>∃(g off cap:Nat) (c:U_) (ts:List _),e=Xa (V (E (Xd g off O)) (ts.length+1) cap)/\Zb s=c::ts.map (λt=>t.s.data.toList)/\ts.length+1<=cap/\ZS w' 9 (V (E (Xd g off O)) (ts.length+1) cap) 1 ([gS ⟨c.toArray⟩]::ts.map ST.cells)/\Below (w0.alloc (cl #[gS ⟨s.toArray⟩] 9)).heap.size (w0.alloc (cl #[gS ⟨s.toArray⟩] 9)) w':=by have d:=(P4 (s.length+1) s).1;have a:=(Uy s om w0.heap.size).seq;have b:((Zb s).map EK).length=((Zb s).map λl=>(⟨l.toArray⟩:ByteArray)).length:=sp;rw[b]at a;refine(sX _ _ _ _ _ a (qW func229 kr rfl) (λk v W x b a=>?_) (λk v W a=>?_) (by rw[zm];exact zF d om) _ (c_ 0<|zC _ _) λA B d f=>?_).mono ?_;{rw[zR]at a b;cases h:(Zb s)[k]? with |none=>grind |some y=>rw[h]at b a;simp only[qY,qN]at b a;exact⟨⟨⟨_⟩⟩,a.symm,b⟩};{rw[zR]at a;cases h:(Zb s)[k]? with |none=>grind |some y=>rw[h]at a;simp only[qY,qN]at a;rw[<-a];rfl};{exact JV sp A B d f};rintro e w' ⟨v,ts,rfl,b,a,f,_,j⟩;(have k:ts=(Zb s).map λl=>(⟨⟨l.toArray⟩⟩:ST):=by apply I1;intro i;rw[zR];rw[zm]at b;cases h:(Zb s)[i]? with |none=>grind |some y=>have d:i<ts.length:=g_;have b:=f i _ ⟨_⟩ (zg d) (by rw[zR,h];rfl);rw[zg d,qY,qN];rw[<-b]);subst k;have b:Zb s=(kaa s _).1::(if (kaa s _).2.2=true then ri _ _ else []):=rfl;generalize (kaa s [32]).1=c at b;generalize (if (kaa s [32]).2.2=true then ri s.length (kaa s [32]).2.1 else [])=r at b;rw[b,Zk,Zk]at a;have d:=a;rcases d with ⟨_,h⟩|⟨g,off,cap,rfl,d,-⟩;{grind};simp only[zm,qi]at a d;refine⟨g,off,cap,c,r.map λl=>(⟨⟨l.toArray⟩⟩),sp,?_,g_,by rw[zm];exact a,j⟩;rw[b,ym];congr 1;rw[show((λt=>t.s.data.toList) ∘ λl=>(⟨⟨l.toArray⟩⟩:ST))=id from funext λl=>sp,List.map_id]
def gi (l:U_):Nat×Int×Nat:=(T.ko l,T.mK l,T.sE l)
def gj (last:Bool)(x:U_×Bool):Bool:=x.2&&(decide ((Zb x.1).headD []=mq last)&&((Zb x.1).drop 1).all T.fT)
theorem C2(last)(x):nk last x=if gj last x=true then E (((Zb x.1).drop 1).map T.iM)else O:=by unfold nk gj mq;grind
def OU (q:Nat->U_)(A:H)(i:Nat)(d:DP):Prop:=iD A d (gi (q i))
def Ud (w1:H)(g5 r2 r3 n:Nat)(z:Int)(last:Bool)(q:Nat->U_)(k:Nat)(M:Nat->Prop)(A:H):Prop:=
 ∃M0,yd 295 4 132 (λv=>#[i_ z,G last,v]) DP.cells (OU q) w1 w1.heap.size g5 n k M0 A/\(∀b,M b↔M0 b\/b=r2\/b=r3)/\∀i,i<k->T.fT (q i)=true
def Hz (w:H)(r2 r3:Nat)(z:Int)(q:Nat->U_)(c:Code)(k:Nat)(A:H):Prop:=c= .ret/\T.fT (q k)=false/\b_ w A/\A.cell? (Xd r2 0 O)=E (i_ z)/\A.cell? (Xd r2 1 O)=E (G false)/\A.cell? (Xd r2 2 O)=E (V_)/\A.cell? (Xd r3 0 O)=E (G false)
theorem Hz.eL{A B:H}{b d C:Nat}{z:Int}{q:Nat->U_}{c:Code}{k:Nat}(h:Hz w b d z q c k A)(a:zn C A B)(l:w.heap.size<=C):Hz w b d z q c k B:=by obtain⟨b,d,e,f,g,i,j⟩:=h;exact⟨b,d,a.below e l<|zh _,a.cell f,a.cell g,a.cell i,a.cell j⟩
theorem ZS.tail{t}{g off cap}{cs}{a}(b:n=a.length)(h:ZS w t (V (E (Xd g off O)) (n+1) cap) 1 (cs::a)):(cap=1->ZS w t (V (E (Xd g off O)) n 0) 1 a)/\(¬cap=1->ZS w t (V (E ⟨g,off+1,O⟩) n (cap-1)) 1 a):=by subst b;rcases h with ⟨h,_⟩|⟨_,_,_,a,b,d,f⟩;{grind};simp only[qp,qN,Jg]at a;obtain⟨⟨rfl,rfl,_⟩,_,rfl⟩:=a;rw[qi]at b;refine⟨λe=> .inr ⟨g,_,0,rfl,om,d,λi b a=>?_⟩,λe=> .inr ⟨g,_,_,rfl,om,d,λi b a j u d=>?_⟩⟩;{grind};have:=f (i+1) b g_ j u d;grind
end
section
variable {a d e:Value}{b g:Nat}{w:H}
theorem Ol(a):T.iB a=if a.length=2/\a.getD 0 []=vo then wO (a.getD 1 [])else 0:=by unfold T.iB wO T.D0 vo;grind
theorem X5(a):B4 2 (λk x=>if k=0 then decide (x=vo)else decide (wO x≠0)) a=decide (T.iB a≠0):=by unfold B4;rw[MP,Ol];grind
theorem XG(s:U_)(hs:s.length<=2000)(f h c:Nat)(g cap:Nat)(w:H)(hg:g≠c)(a:2<=cap)(b:cap<=9223372036854775807)(j:∀i fv,[QY f,Lr h][i]? =E fv->w.cell? (Xd g i O)=E fv)(u:w.cell? (Xd f 0 O)=E (gS ⟨vo.toArray⟩))(y:f≠c)(h1:w.cell? (Xd h 0 O)=E (p_ c 0))(B:h≠c)(m:w.cell? (Xd c 0 O)=E (i_ 0))(q:w.frozen? (Xd c 0 O)=false):
 C_ 153 #[gS ⟨s.toArray⟩,V (E (Xd g 0 O)) 2 cap] w λe w'=>
  e=Xa (G (decide (T.iB (Zb s)≠0)))/\Wr (λk=>k=c) w w'/\(T.iB (Zb s)≠0->w'.cell? (Xd c 0 O)=E (i_ (T.iB (Zb s):Nat))):=by have d:c<w.heap.size:=zw m;have l:=Ni s hs _ (λk x=>if k=0 then decide (x=vo)else decide (wO x≠0)) (λk=>k=c) (λpre A=>∃z,A.cell? _=E (i_ z)/\A.frozen? _=false/\(1<pre.length->z=(wO<|pre.getD 1 []))) g _ w (λx t=>t▸d) hg sp om b j (λpre A a d o=>by obtain⟨z,a,b,j⟩:=d;exact⟨z,o.cell a,(o.frozen a).trans b,j⟩) (λpre A o o v d o o o=>by obtain⟨z,a,b,j⟩:=d;exact⟨z,(qj _ _ _ _ so).trans a,by simp_all,j⟩) ?_ ⟨0,m,q,λo=>g_⟩;{have d: [QY f,Lr h].length=2:=rfl;rw[d,X5]at l;refine l.mono<|eU λw' ⟨m,l⟩=>?_;refine⟨rfl,m,λq=>?_⟩;obtain⟨z,a,b,j⟩:=l g_;have d:=q;rw[Ol]at d;have q:=Ol<|Zb s;grind};intro k fv d;match k,d with |0,d=>simp at d;subst d;refine⟨_,f,rfl,Pp,λpre x W q t m l=>?_⟩;refine(P3 x _ f W<|m.cell y u).mono ?_;rintro e f ⟨rfl,rfl⟩;obtain rfl:pre= []:=QZ q;obtain⟨z,a,b,j⟩:=l;exact⟨rfl,Xk _ _,λ_=>⟨z,a,b,λo=>g_⟩⟩ |1,d=>simp at d;subst d;refine⟨_,h,rfl,zqt,λpre x W q t m l=>?_⟩;obtain⟨z,a,b,j⟩:=l;refine(YO x h c z W (m.cell B h1) a b om).mono<|eU λf ⟨a,h⟩=>?_;refine⟨rfl,?_,λf=>⟨_,h g_,?_,λ_=>?_⟩⟩;{rcases a with rfl|rfl;{exact Xk _ _};exact Xs (T:=λk=>k=c) (Xp _ _) rfl _};{rcases a with rfl|rfl;{omega};simp_all};grind |k+2,d=>grind
theorem WK(s:U_)(hs:s.length<=2000)(a:Nat)(X u:Value)(w:H)(h:DQ w a qF.none X u):
 C_ 80 #[p_ a 0,gS ⟨s.toArray⟩] w λe w'=>
  e=Xa (G (decide (T.iB (Zb s)≠0)))/\Wr (λk=>k=a) w w'/\(T.iB (Zb s)≠0->∃t,DQ w' a ⟨T.iB (Zb s),[],[],[]⟩ t u/\∀k,t.ownBlock=E k->w.heap.size<=k):=by obtain⟨R,F,N,P,Q⟩:=Zn Tryz.vV;have a0:=h.box.2.2.2.2;have z:b_ w ((((w.alloc<|cl #[i_ 0] 3).alloc<|cl #[gS ⟨vo.toArray⟩] 9).alloc<|cl #[p_ w.heap.size 0] 265).alloc<|cl #[QY<|w.heap.size+1,Lr<|w.heap.size+1+1] 262):=(xe w _ _ _).alloc so _;obtain⟨q,S,U,W⟩:=Lx w (cl #[i_ 0] 3) (cl #[gS ⟨vo.toArray⟩] 9) (cl #[p_ w.heap.size 0] 265)<|cl #[QY<|w.heap.size+1,Lr<|w.heap.size+1+1] 262;have l:=zf (XG s hs _ _ _ (w.heap.size+1+1+1) 2 _ om om om (λo fv b=>by rw[ze _ _ _ _ _ _ W];grind) (ze _ _ _ _ _ _ S) om (ze _ _ _ _ _ _ U) om (ze _ _ _ _ _ _ q)<|ZK _ _ _ _ _ q);have v:=zf h;have K:=Ti<|Zb s;obtain⟨n,hn⟩:∃n,T.iB (Zb s)=n:=⟨_,rfl⟩;rw[hn]at l K⊢;go_enter func80,ntmps80;go_wp2_with fail;refine(ML _ _).mono ?_;rintro e Y ⟨rfl,rfl⟩;go_wp2_with fail;refine(zlA _ _).mono<|fB ?_;go_wp2_with fail;refine l.out.mono<|eU λi ⟨L,B⟩=>?_;have M:=(Xh z).trans L;have d:=M.below (zh _) λk e=>om;by_cases f:n=0;{subst f;go_wp2;go_ret;exact⟨sp,Xh d,λh=>absurd rfl h⟩};have hc:=B f;have j:=v.out.below d;have A:=j.box;obtain⟨x,_,y,_,m⟩:=A;have C:decide (n≠0)=true:=g_;rw[C];go_wp2_with (at_make;refine wpList_make_full _ rfl _ _ _ rfl 0 122 R _ 6 underlying59 F N P _ _ _ _ n rfl rfl rfl rfl g_ mo (qo _) ?_;intro Z J D;have g:=(qf _ _).grown D (zh _) λk h=>g_;have q0:=(g.cell m).trans x;have q2:=(g.frozen m).trans y);go_ret;refine⟨by simp_all,Xs (T:=λk=>k=a) (Xh<|d.trans<|g.mono d.size) rfl _,λ_=>⟨_,(j.below g).An (zoC J) ?_ ?_ sp,λk I=>?_⟩⟩;{omega};{intro e;have:=(((j.rows).choose_spec.2.1).lt _ e).2;omega};simp[kaj]at I;have:=d.size;omega
theorem IJ{B}{a}(h:Below B a w):Below B a w.drew:=⟨h.os,h.tape,h.output,h.size,h.block⟩
theorem UC(a n)(b:A_)(cap)(w)(h:w.cell? (Xd a 0 O)=E (V b n cap))(d:n<=1000):
 C_ 43 #[p_ a 0] w λe w'=>e=Xa (i_ ((2+n:Nat)))/\w'=w:=by go_enter func43,ntmps43;go_wp2;go_ret;simp
theorem DQ.wS{d}{p}{f}(h:DQ w d p f a):∃b e,a=V b p.rows.length e:=by obtain⟨_,a,b,_⟩:=h.rows;rw[<-a];obtain⟨_,a|⟨_,_,_,d,_⟩⟩:=b;{grind};grind
theorem DQ.tf{d}{p}{b}(h:DQ w d p b e)(f:0<p.n):∃a zs,b=V (E (Xd a 0 O)) p.n p.n/\kG w a zs/\F2 p zs:=by rcases h.mI with b|⟨a,zs,b,_,d,e⟩;{omega};grind
def xx (f:Nat)(args:W_)(i:Nat)(p:qF)(ws:List (U_))(gp:Nat)(vC vR:Value)(B:Nat)(w:H):Prop:=
 C_ f args w λe w'=>e=Xa (G (jD i p ws).isSome)/\Wr (Own gp vC vR) w w'/\∀q,jD i p ws=E q->∃vC' vR',DQ w' gp q vC' vR'/\∀k,Own gp vC' vR' k->Own gp vC vR k\/B<=k
theorem Yh(l:U_)(e:l.length<=2000)(a B:Nat)(b d:Value)(w:H)(h:DQ w a qF.none b d)(g:B<=w.heap.size):
 xx 80 #[p_ a 0,gS ⟨l.toArray⟩] 0 qF.none (Zb l) a b d B w:=by refine(WK l e a b d w h).mono ?_;rintro e a ⟨rfl,b,i⟩;have a:jD 0 qF.none (Zb l)=if T.iB (Zb l)=0 then .none else E ⟨T.iB<|Zb l,[],[],[]⟩:=rfl;rw[a];refine⟨?_,b.mono λk e=>kai e,λq a=>?_⟩;{grind};by_cases b:T.iB (Zb l)=0;{grind};rw[zO b]at a;injection a with a;subst a;obtain⟨j,a,f⟩:=i b;refine⟨j,d,a,λk a=>?_⟩;rcases a with e|e|e;{exact kai<|kai e};{grind};exact kai (kac<|kac e)
theorem Yy(l)(hl:l.length<=2000)(gp B)(p)(vC vR)(w)(h:DQ w gp p vC vR)(hn:0<p.n/\p.n<=4)(Mp:p.rg= []):
 xx 81 #[p_ gp 0,gS ⟨l.toArray⟩] 1 p (Zb l) gp vC vR B w:=by
 obtain⟨bc,zs,rfl,hz,hc⟩:=h.tf hn.1;refine(V9 l hl _ _ _ _ _ w h.box hn.2 hz hc.1).mono<|eU λw' ⟨hw,hq⟩=>?_;have ht:jD 1 p (Zb l)=if ye vi p.n (Zb l)=true then E { p with mx:=((Zb l).drop 1).map T.wZ } else .none:=by unfold jD ye;rw[zO om,zQ rfl];simp only[Z9]
 rw[ht];refine⟨?_,hw.mono λk e=>kac<|kai (by rw[e];rfl),λq hqe=>?_⟩;{grind};by_cases h0:ye vi p.n (Zb l)=true;{rw[zQ h0]at hqe;injection hqe with hqe;subst hqe;exact⟨_,_,h.sj rfl hn.1 hw (hq h0) (X0 hc Mp (jU h0).1) rfl rfl,λk hk=>kai hk⟩};grind
theorem znQ(i)(l)(hl:l.length<=2000)(gp B)(p)(vC vR)(w)(h:DQ w gp p vC vR)(hn:0<p.n/\p.n<=4)(h2:2<=i)(hi:i<=1+p.n)(Mp:p.rg.length=i-2):
 xx 82 #[p_ gp 0,gS ⟨l.toArray⟩,i_ ((i-2:Nat))] i p (Zb l) gp vC vR B w:=by
 obtain⟨bc,zs,rfl,hz,hc⟩:=h.tf hn.1;refine(XH l hl _ _ _ _ _ _ w h.box hn.2 om hz hc.1).mono<|eU λw' ⟨hw,hq⟩=>?_;have ht:jD i p (Zb l)=if ye Je 2 (Zb l)=true then E { p with rg:=p.rg ++ [(T.wZ<|(Zb l).getD 1 [],T.wZ<|(Zb l).getD 2 [])] } else .none:=by unfold jD ye;rw[zO om,zO om,zQ hi];simp only[Z9]
 rw[ht];refine⟨?_,hw.mono λk e=>kac<|kai (by rw[e];rfl),λq hqe=>?_⟩;{grind};by_cases h0:ye Je 2 (Zb l)=true;{rw[zQ h0]at hqe;injection hqe with hqe;subst hqe;exact⟨_,_,h.sj rfl hn.1 hw (hq h0) (znE hc Mp om (jU h0).1) rfl rfl,λk hk=>kai hk⟩};grind
theorem Yc(i:Nat)(l:U_)(j:l.length<=2000)(a B:Nat)(p:qF)(e d:Value)(w:H)(h:DQ w a p e d)(b:0<p.n/\p.n<=4)(h2:2<=i)(f:¬i<=1+p.n)(k:p.rows.length<6)(g:B<=w.heap.size):
 xx 83 #[p_ a 0,gS ⟨l.toArray⟩] i p (Zb l) a e d B w:=by
 obtain⟨e,_,rfl,_,_⟩:=h.tf b.1;refine(zmE l j a e p d w h b.1 b.2 om).mono<|eU λa ⟨b,j⟩=>?_;have a:jD i p (Zb l)=if AX p.n (Zb l)=true then E { p with rows:=p.rows ++ [rowOf p.n<|Zb l] } else .none:=by unfold jD AX rowOf;rw[zO om,zO om,zO f];simp only[Z9,k,true_and]
 rw[a];refine⟨?_,b,λq a=>?_⟩;{grind};by_cases b:AX p.n (Zb l)=true;{rw[zQ b]at a;injection a with a;subst a;obtain⟨k,d,f⟩:=j b;refine⟨_,k,d,λk d=>?_⟩;rcases d with e|e|e;{exact kai<|kai e};{exact kai<|kac<|kai e};exact(f k e).imp (λe=>kac<|kac e) λe=>zF g e};grind
theorem zoT(i:Nat)(l:U_)(b1 C:Bool)(b:Nat)(p:qF)(o s:Value)(w:H)(h:DQ w b p o s)(f:lN i p)(y:l.length<=2000)(hi:i<=100000):
 C_ 42 #[p_ b 0,ag #[i_ ((i+1:Nat):Int),gS ⟨l.toArray⟩,G b1,G C]] w λe w'=>
  e=Xa (G (jD i p (Zb l)).isSome)/\Wr (Own b o s) w w'/\∀q,jD i p (Zb l)=E q->∃L M,DQ w' b q L M/\∀k,Own b L M k->Own b o s k\/w.heap.size<=k:=by obtain⟨_,_,a1⟩:=h.wS;have d:b_ w (w.alloc<|cl #[i_<|(i+1:Nat),gS ⟨l.toArray⟩,G b1,G C] 115):=(qf _ _).alloc (zh _) _;have a:=h.below d;obtain⟨u,Q,R,S,T⟩:=a.box;have x:=d.size;by_cases D:i=0;{subst D;obtain rfl:=f.z rfl;have g:=zf<|Yh l y b _ o s _ a x;clear a h f;go_enter func42,ntmps42;go_wp2_with fail;refine g.out.mono<|eU λt ⟨m,j⟩=>?_;go_wp2;go_ret;exact⟨rfl,(Xh d).trans m,j⟩};have z:=f.n om;obtain⟨P,_,a0,_,_⟩:=h.tf z.1;by_cases F:i=1;{subst F;have g:=zf (Yy l y b w.heap.size p o s _ a z<|QZ (by have:=f.g;omega));clear a h f;go_enter func42,ntmps42;go_wp2_with fail;refine g.out.mono<|eU λt ⟨m,j⟩=>?_;go_wp2;go_ret;exact⟨rfl,(Xh d).trans m,j⟩};rw[a0]at u;have v:((i+1:Nat))=(i:Int)+1:=sp;rw[v]at d a u Q R S T x;have A:=zf λ(W) (Y:W.cell? _=E (V (E<|Xd P 0 O) _ p.n))=>UC b p.n _ _ W Y om;have a:=a.eL<|zn.drew 0 _;have d:=IJ d;have x:=d.size;have a2:¬(i:Int)+1=1:=om;have a3:¬(i:Int)+1=2:=om;by_cases B:i<=1+p.n;{have g:=zf (znQ i l y b w.heap.size p o s _ a z om B (by have:=f.g;omega));have U:(i)+1<=2+(p.n:Int):=om;have J:((i-2:Nat))=(i:Int)+1-2-1:=om;rw[J]at g;clear a h f J v;go_enter func42,ntmps42;go_wp2_with fail;go_region_with (go_at_call 43;refine(A.out _ am).mono ?_;rintro e t ⟨rfl,rfl⟩);(all_goals go_wp2_with fail);(all_goals refine g.out.mono ?_);(all_goals rintro e t ⟨rfl,m,j⟩);(all_goals go_wp2);(all_goals go_ret);all_goals exact⟨rfl,(Xh d).trans m,j⟩};have U:¬(i)+1<=2+(p.n:Int):=om;subst a1;by_cases I:p.rows.length<6;{have g:=zf<|Yc i l y b _ p o _ _ a z om B I x;have X:(p.rows.length:Int)<6:=om;clear a h f v;go_enter func42,ntmps42;go_wp2_with fail;go_region_with (go_at_call 43;refine(A.out _ am).mono ?_;rintro e t ⟨rfl,rfl⟩);(all_goals go_wp2_with fail);(all_goals refine g.out.mono ?_);(all_goals rintro e t ⟨rfl,m,j⟩);(all_goals go_wp2);(all_goals go_ret);all_goals exact⟨rfl,(Xh d).trans m,j⟩};(have K:jD i p (Zb l)= .none:=by unfold jD;rw[zO D,zO F,zO B,zO λZ=>I Z.1]);have N:=zf K;have X:¬(p.rows.length:Int)<6:=om;clear a h f v K;go_enter func42,ntmps42;go_wp2_with fail;go_region_with (go_at_call 43;refine(A.out _ am).mono<|fB ?_);(all_goals go_wp2);(all_goals go_ret);(all_goals rw[N.out]);all_goals exact⟨rfl,Xh d,λq hq=>g_⟩
theorem kG.mX{zs}{z z'}(h:kG w b zs)(d:w.cell? (Xd g 0 O)=E (i_ z)):kG (w.setCell (Xd g 0 O) (i_ z')) b zs:=by by_cases f:g=b;{subst f;refine⟨h.1.setCell d sp,λj e=>?_⟩;have⟨_,_,_,c,e,_⟩:=h.2 0 om;rw[Ql,d]at e;cases e};exact h.setCell d sp f _
theorem DQ.mX{p}{z z'}(h:DQ w b p a d)(hg:¬Own b a d g)(i:w.cell? (Xd g 0 O)=E (i_ z)):DQ (w.setCell (Xd g 0 O) (i_ z')) b p a d:=by have d:b≠g:=λe=>hg<|kai e.symm;have same:∀k,k≠g->(w.setCell (Xd g 0 O)<|i_ z').heap[k]? =w.heap[k]?:=λk a=>qC _ _ _ _ a;refine⟨h.box.same (same b d) sp,h.wP.same<|same b d,?_,λk a=>⟨(h.lz k a).1.same<|same k λe=>hg<|e▸kac (kac a),(h.lz k a).2⟩,?_⟩;{rcases h.mI with b|⟨j,m,b,d,f,l⟩;{grind};exact kac ⟨j,m,b,d,f.mX i,l⟩};obtain⟨j,b,d,f⟩:=h.rows;refine⟨j,b,Ii d λk a=>same k λe=>hg<|e▸kac (kac a),λd r row a b=>?_⟩;obtain⟨e,j,k,l,m⟩:=f d r _ a b;exact⟨e,j,k.mX i,l,m.setCell i sp _⟩
theorem kG.eZ{j}{zs}{y v}(h:kG w b zs)(f:w.cell? (Xd g j O)=E y)(k:∀n,y≠it .u32 n)(l:∀n,v≠it .u32 n)(i:w.cell? (Xd g 0 O)=E d)(hb:∀x,d≠G x):kG (w.setCell (Xd g j O) v) b zs:=by by_cases e:g=b;{subst e;refine⟨h.1.setCell f l,λd d=>?_⟩;have⟨x,_,_,c,d,_⟩:=h.2 0 om;rw[Ql,i]at d;injection d with d;exact absurd d<|hb x};exact h.setCell f k e _
theorem DQ.eZ{j}{p}{y v}(h:DQ w b p a d)(hg:¬Own b a d g)(l:w.cell? (Xd g j O)=E y)(i:∀n,y≠it .u32 n)(o:∀n,v≠it .u32 n)(m:w.cell? (Xd g 0 O)=E e)(hb:∀x,e≠G x):DQ (w.setCell (Xd g j O) v) b p a d:=by have d:b≠g:=λe=>hg<|kai e.symm;have same:∀k,k≠g->(w.setCell (Xd g j O) v).heap[k]? =w.heap[k]?:=λk a=>qC _ _ _ _ a;refine⟨h.box.same (same b d) sp,h.wP.same<|same b d,?_,λk a=>⟨(h.lz k a).1.same<|same k λe=>hg<|e▸kac (kac a),(h.lz k a).2⟩,?_⟩;{rcases h.mI with b|⟨q,t,b,d,f,s⟩;{grind};exact kac ⟨q,t,b,d,f.eZ l i o m hb,s⟩};have⟨q,b,d,f⟩:=h.rows;refine⟨q,b,Ii d λk a=>same k λe=>hg<|e▸kac (kac a),λd r row a b=>?_⟩;have⟨e,k,q,s,t⟩:=f d r _ a b;exact⟨e,k,q.eZ l i o m hb,s,t.setCell l i _⟩
theorem DQ.lt{a}{p}{b}(h:DQ w a p b d):∀k,Own a b d k->k<w.heap.size:=by intro k a;rcases a with e|e|e;{rw[e];exact h.box.2.2.2.2};{rcases h.mI with ⟨_,a⟩|⟨_,_,a,_,b,_⟩;{rw[a]at e;cases e};rw[a]at e;simp[kaj]at e;rw[<-e];exact b.lt};have⟨_,_,a,_⟩:=h.rows;exact(a.lt k e).2
theorem UK{a}:∀{j k:Nat} {v:W_},(uq j a)[k]? =E v->∃x last,a[k]? =E x/\v=sI (j+k) x last:=by induction a with |nil=>intro j k v h;simp[uq]at h |cons y r d=>intro j k v h;cases k with |zero=>simp[uq]at h;grind |succ k=>rw[uq,jg]at h;grind
theorem Nl{a:List (U_×Bool)}{i}{p}{y:U_×Bool}(d:a[i]? =E y):ju i p (a.drop i)=if y.2=false then .error (i+1)else match jD i p (Zb y.1)with|.none=> .error (i+1)|some q=>ju (i+1) q (a.drop (i+1)):=by have⟨b,a⟩:=zo.1 d;rw[jt b,a,ju];rfl
theorem zqY(s)(k:Nat)(x)(h:(QW s)[k]? =E x):x.1.length<=s.length:=(K_ s.length s).2 x (zx h)
def C5 (w:H)(LL:List (U_×Bool))(k:Nat)(p:qF)(vC vR:Value)(A:H):Prop:=
 DQ A (w.heap.size+1+1) p vC vR/\lN k p/\ju 0 qF.none LL=ju k p (LL.drop k)/\A.cell? ⟨w.heap.size+1+1+1,0,O⟩=E (i_ ((k)+1))/\A.frozen? ⟨w.heap.size+1+1+1,0,O⟩=false/\
  Zh A w.heap.size (V_) (V_)/\A.cell? ⟨w.heap.size+1,0,O⟩=E (i_ 0)/\A.frozen? ⟨w.heap.size+1,0,O⟩=false/\b_ w A/\(∀x,Own (w.heap.size+1+1) vC vR x->x=w.heap.size+1+1\/w.heap.size+1+1+1+1<x)/\w.heap.size+1+1+1+1<A.heap.size
theorem C5.eL{C:Nat}{A A':H}{b:List (U_×Bool)}{k:Nat}{p:qF}(h:C5 w b k p d e A)(a:zn C A A')(s:w.heap.size<=C):C5 w b k p d e A':=by obtain⟨e,i,j,b,l,m,d,o,q,f,g⟩:=h;exact⟨e.eL a,i,j,a.cell b,(a.frozen b).trans l,m.eL a,a.cell d,(a.frozen d).trans o,a.below q s<|zh _,f,zK g a.size⟩
theorem C5.step{A2 b:H}{d:List (U_×Bool)}{k:Nat}{p q:qF}{g f i:Value}{y:U_×Bool}(h:C5 w d k p e g A2)(a:Wr (Own (w.heap.size+1+1) e g) A2 b)(D:DQ b (w.heap.size+1+1) q f i)(ho:∀x,Own (w.heap.size+1+1) f i x->Own (w.heap.size+1+1) e g x\/A2.heap.size<=x)(F:d[k]? =E y)(I:y.2=true)(u:jD k p (Zb y.1)=E q):
 b.cell? ⟨w.heap.size+1+1+1,0,O⟩=E (i_ ((k:Int)+1))/\b.frozen? ⟨w.heap.size+1+1+1,0,O⟩=false/\Hid (C5 w d (k+1) q f i (b.setCell ⟨w.heap.size+1+1+1,0,O⟩ (i_ ((k:Int)+1+1)))):=by
 obtain⟨_,A,B,l,z,o,s,C,t,j,_⟩:=h;have d:w.heap.size+1+1+1<A2.heap.size:=zw l;have d:∀x,x<=w.heap.size+1+1+1+1->x≠w.heap.size+1+1->¬Own _ e g x:=λx v e e=>by rcases j x e with e|e<;>omega
 have g:=a.cell (p:=(v_ w 0)) (d _ sp sp) l;have m:=(a.frozen (p:=(v_ w 0)) (d _ sp sp)<|zw l).trans z;have l:=o.same (a.block _ o.2.2.2.2<|d _ om om) a.size;have o:=a.cell (p:=(x_ w 0)) (d _ sp sp) s;have z:=(a.frozen (p:=(x_ w 0)) (d _ sp sp)<|zw s).trans C;have d:∀x,Own _ f i x->x=w.heap.size+1+1\/w.heap.size+1+1+1+1<x:=λx v=>by rcases ho x v with e|e;{exact j x e};omega
 refine⟨g,m,D.mX (λe=>g_) g,A.step u,?_,?_,by simp_all,?_,?_,by simp_all,?_,d,by have:=a.size;simp;omega⟩;{rw[B,Nl F,zO g_,u]};{rw[zN _ _ _ g];simp};{exact l.same (qC _ _ _ _ g_) sp};{rw[qj _ _ _ _ g_];omega};have d:=a.below t.size λx e=>g_;exact(t.trans d).setCell so _
end
def At:L_->L_->L_->Bool
 |m::ms,x::xs,y::ys=>if x=y then At ms xs ys else(decide (y<x) == decide (0<m))
 |_,_,_=>false
theorem O9:∀{c xs ys:L_},(∀(j:Nat) (x y:Int),xs[j]? =E x->ys[j]? =E y->x=y)->At c xs ys=false
 |[],_,_,_=>by simp[At] |_::_,[],_,_=>by simp[At] |_::_,_::_,[],_=>by simp[At] |m::c,x::xs,y::ys,h=>by rw[At,zQ (h 0 x y rfl rfl)];exact O9 (λj a b d hb=>h (j+1) a b (by simpa using d) (by simpa using hb))
theorem Ll:∀{e xs ys:L_} {i:Nat} {m x y:Int},(∀(j:Nat) (x y:Int),j<i->xs[j]? =E x->ys[j]? =E y->x=y)->e[i]? =E m->xs[i]? =E x->ys[i]? =E y->x≠y->At e xs ys=(decide (y<x) == decide (0<m))
 |[],_,_,_,_,_,_,_,h,_,_,_=>by simp at h |_::_,[],_,_,_,_,_,_,_,h,_,_=>by simp at h |_::_,_::_,[],_,_,_,_,_,_,_,h,_=>by simp at h |a::e,b::xs,c::ys,0,m,x,y,_,h1,h2,d,f=>by simp at h1 h2 d;subst h1 h2 d;rw[At,zO f] |a::e,b::xs,c::ys,i+1,m,x,y,h,h1,h2,d,f=>by rw[At,zQ (h 0 b c om rfl rfl)];exact Ll (i:=i) (λj p q l g k=>h (j+1) p q om (by simpa using g) (by simpa using k)) (by simpa using h1) (by simpa using h2) (by simpa using d) f
theorem zk8 (w:H)(vM vL vH vG vS vR u v:Value)(mx xs ys:L_)(hM:Jf w vM mx)(hu:Jf w u xs)(hv:Jf w v ys)(hl:xs.length=mx.length)(UB:ys.length=mx.length)(hn:mx.length<=4):
 C_ 27 #[ag #[vM,vL,vH,vG,vS,vR],u,v] w λe w'=>e=Xa (G (At mx xs ys))/\b_ w w':=by
 obtain⟨n0,x0⟩:=gE w<|cl #[vM,vL,vH,vG,vS,vR] 25;obtain⟨mo,mp,rfl,hm⟩:=hM;obtain⟨ao,cap,rfl,hr⟩:=hu;obtain⟨bo,cbp,rfl,hs⟩:=hv;have HL:=zf<|Xc hl UB;rw[hl]at hr⊢;rw[UB]at hs⊢;have HMX:=zf hm;have HR:=zf hr;have HS:=zf hs;go_enter Tryz.func27,Tryz.ntmps27;go_wp2;generalize kah _ _=w0 at *;go_loopw [7] (λiv wr=>∃(i:Nat),i<=mx.length/\iv=i_ (i:Nat)/\Hid (∀(j:Nat) (x y:Int),j<i->xs[j]? =E x->ys[j]? =E y->x=y)/\Ext w0 wr) (λiv _=>((mx.length:Int)-intOf iv).toNat);case atStart=>exact⟨0,by omega,rfl,λj x y hj=>by omega,Xe _⟩
 case round=>obtain⟨i,hil,rfl,HQ,xr⟩:=hrel;by_cases hin:i<mx.length;{obtain⟨hL1,hL2⟩:=HL.out;obtain⟨gm,om,rfl,hgm,hcm⟩:=HMX.out (by omega);obtain⟨g,off,rfl,hg,hcell⟩:=HR.out (by omega);obtain⟨g',off',rfl,hg',hcell'⟩:=HS.out (by omega);have hmi:=zg hin;have hxi:=zg (show i<xs.length by omega);have hyi:=zg (show i<ys.length by omega);have cm:=(x0.trans xr).cell<|hcm i _ hmi;have c0:=(x0.trans xr).cell<|hcell i _ hxi;have c1:=(x0.trans xr).cell<|hcell' i _ hyi;have cb:=xr.cell<|ze _ _ 0 _ _ _ n0;have HA:=zf<|Ll (λj x y=>HQ.out j x y) hmi hxi hyi;have HXY:=zf<|Xc hxi hyi;generalize mx[i]=m at *;generalize xs[i]=x at *;generalize ys[i]=y at *;go_wp2;refine ZO (S:=λW=>W.cell? ⟨g,off+i,O⟩=E (i_ x)/\W.cell? ⟨g',off'+i,O⟩=E (i_ y)) (by kernel_rfl) ⟨c0,c1⟩ λhHeld=>?_;by_cases hxy:x=y;{refine iX 0 ?_;refine fO [1,2,3,4,5,6,7,8] ?_;refine zV (by kernel_rfl) ?_ _;go_wp2;go_roundw;(case rel=>refine⟨i+1,by omega,by go_num,λj a b hj ha hb=>?_,xr.drew⟩;by_cases hji:j<i;{exact HQ.out j a b hji ha hb};(obtain rfl:j=i:=by omega);rw[HXY.out.1]at ha;rw[HXY.out.2]at hb;cases ha;cases hb;exact hxy);case measure=>simp[intOf];omega};refine iX 0 ?_;refine fO [1,2,3,4,5,6,7,8] ?_;refine zV (by kernel_rfl) ?_ _;go_wp2;refine ZO (S:=λW=>W.cell? ⟨g,off+i,O⟩=E (i_ x)/\W.cell? ⟨g',off'+i,O⟩=E (i_ y)/\W.cell? (y_ w 0)=E (V (E<|Xd gm om O) mx.length mp)/\W.cell? ⟨gm,om+i,O⟩=E (i_ m)) (by kernel_rfl) ⟨c0,c1,cb,cm⟩ λhHeld=>?_;have HA2:=zf<|HA.out hxy;refine fO [0,1,2,3,4,5,6,7,8,9,10,11,12,13,14,15,16] ?_;refine zV (by kernel_rfl) ?_ _;go_wp2;go_ret;exact⟨by rw[HA2.out];rfl,(x0.trans xr).drew.drew⟩};(obtain rfl:i=mx.length:=by omega);have HF:Hid (At mx xs ys=false):=O9 (λj x y hx hy=>HQ.out j x y (by have:=(zo.1 hx).1;have:=HL.out.1;omega) hx hy);go_wp2;go_ret;exact⟨by rw[HF.out];rfl,x0.trans xr⟩
def KS (w:H)(v:Value)(zs:List ByteArray):Prop:=
 ∃ao cap,v=V ao zs.length cap/\(0<zs.length->∃g off,ao=E (Xd g off O)/\g<w.heap.size/\∀i z,zs[i]? =E z->w.cell? ⟨g,off+i,O⟩=E (gS z))
theorem NM (a:A_)(n cap)(b:A_)(m c)(w):
 C_ 60 #[ag #[V a n cap,V b m c]] w λe w'=>e=Xa (.func (.func 115) #[] #[p_ w.heap.size 0])/\w'=w.alloc (cl #[V a n cap,V b m c] 62):=by go_enter func60,ntmps60;go_wp2;go_ret;simp
section
open Go.ChangeShapes Go.WideShapes Go.ChangeAt Go.RowKit
def NQ (P:Program)(f:FuncId)(fn:Func)(s:ChangeSpec)(c:OpenClaim):Bool:=c.wf (OpenSpec.ofChange s)
def NH (P:Program)(f:FuncId)(fn:Func)(s:ChangeSpec)(c:OpenClaim):Bool:=laidOutB P
def P1 (P:Program)(f:FuncId)(fn:Func)(s:ChangeSpec)(c:OpenClaim):Bool:=mapsRowed P
def PD (P:Program)(f:FuncId)(fn:Func)(s:ChangeSpec)(c:OpenClaim):Bool:=fn.params.all (P.readableRec ·)
def O0 (P:Program)(f:FuncId)(fn:Func)(s:ChangeSpec)(c:OpenClaim):Bool:=namedTie P c.named s.vars
def NO (P:Program)(f:FuncId)(fn:Func)(s:ChangeSpec)(c:OpenClaim):Bool:=(c.stops == [])
def NA (P:Program)(f:FuncId)(fn:Func)(s:ChangeSpec)(c:OpenClaim):Bool:=(P.stops == [])
def Rk (P:Program)(f:FuncId)(fn:Func)(s:ChangeSpec)(c:OpenClaim):Bool:=(c.knobs == [])
def PV (P:Program)(f:FuncId)(fn:Func)(s:ChangeSpec)(c:OpenClaim):Bool:=(P.stopKnobs == [])
def P7 (P:Program)(f:FuncId)(fn:Func)(s:ChangeSpec)(c:OpenClaim):Bool:=(c.inPlace == P.inPlace f)
def GH (P:Program)(f:FuncId)(fn:Func)(s:ChangeSpec)(c:OpenClaim):Bool:=(c.unfollowed == P.unfollowed f)
def FE (P:Program)(f:FuncId)(fn:Func)(s:ChangeSpec)(c:OpenClaim):Bool:=(c.recurses == P.recurses f)
def FH (P:Program)(f:FuncId)(fn:Func)(s:ChangeSpec)(c:OpenClaim):Bool:=(c.named == P.varsNamed f)
def FT (P:Program)(f:FuncId)(fn:Func)(s:ChangeSpec)(c:OpenClaim):Bool:=(c.maps == (fn.params.toList++s.plain.varTypes P).any (P.mapsRec ·))
def Fx (P:Program)(f:FuncId)(fn:Func)(s:ChangeSpec)(c:OpenClaim):Bool:=(c.ifaces == (fn.params.toList++s.plain.varTypes P).any (P.ifacesRec ·))
def Gk (P:Program)(f:FuncId)(fn:Func)(s:ChangeSpec)(c:OpenClaim):Bool:=(c.mapsOut == P.mapsAmong fn.resultTypes.toList)
def Gf (P:Program)(f:FuncId)(fn:Func)(s:ChangeSpec)(c:OpenClaim):Bool:=(c.loops == (fn.params.toList++s.plain.varTypes P).any (P.loopsFrom ·))
def FL (P:Program)(f:FuncId)(fn:Func)(s:ChangeSpec)(c:OpenClaim):Bool:=(c.wideKeys == (fn.params.toList++s.plain.varTypes P++fn.resultTypes.toList).any (P.wideKeysFrom ·))
def FY (P:Program)(f:FuncId)(fn:Func)(s:ChangeSpec)(c:OpenClaim):Bool:=s.vars.all (P.varReadable ·)
def FA (P:Program)(f:FuncId)(fn:Func)(s:ChangeSpec)(c:OpenClaim):Bool:=fn.resultTypes.all (λt=>P.readableRec t&&decide (t<P.types.size))
def Gq (P:Program)(f:FuncId)(fn:Func)(s:ChangeSpec)(c:OpenClaim):Bool:=(c.ifacesOut == fn.resultTypes.toList.any (P.ifacesRec ·))
def GX (P:Program)(f:FuncId)(fn:Func)(s:ChangeSpec)(c:OpenClaim):Bool:=(c.loopsOut == fn.resultTypes.toList.any (P.loopsFrom ·))
def FF (P:Program)(f:FuncId)(fn:Func)(s:ChangeSpec)(c:OpenClaim):Bool:=(c.plainKeys == P.plainKeys)
def FB (P:Program)(f:FuncId)(fn:Func)(s:ChangeSpec)(c:OpenClaim):Bool:=c.shortTexts.isNone
def Fu (P:Program)(f:FuncId)(fn:Func)(s:ChangeSpec)(c:OpenClaim):Bool:=P.stopsHeard
def GF (P:Program)(f:FuncId)(fn:Func)(s:ChangeSpec)(c:OpenClaim):Bool:=P.mayEnter
def F5 (P:Program)(f:FuncId)(fn:Func)(s:ChangeSpec)(c:OpenClaim):Bool:=(c.lifted == P.liftsFinal)
def FN (P:Program)(f:FuncId)(fn:Func)(s:ChangeSpec)(c:OpenClaim):Bool:=(P.make == E c.make)
def Gh (P:Program)(f:FuncId)(fn:Func)(s:ChangeSpec)(c:OpenClaim):Bool:=(c.kinds == (if c.domain.isEmpty then []else fn.params.toList.map λt=>match P.underlying t with|some (.int k)=>E k|_=>O))
def GB (P:Program)(f:FuncId)(fn:Func)(s:ChangeSpec)(c:OpenClaim):Bool:=(c.pinned == c.pinnedBy)
def GO (P:Program)(f:FuncId)(fn:Func)(s:ChangeSpec)(c:OpenClaim):Bool:=(c.veiled == (fn.params.toList++s.plain.varTypes P++fn.resultTypes.toList).any (P.veiledRec ·))
def FO (P:Program)(f:FuncId)(fn:Func)(s:ChangeSpec)(c:OpenClaim):Bool:=c.veiledFits P fn.params.toList (fn.params.toList++s.plain.varTypes P++fn.resultTypes.toList)
theorem XK {P}{f}{a}{s}{c}(b:NQ P f a s c=true)(h1:NH P f a s c=true)(h2:P1 P f a s c=true)(A:PD P f a s c=true)(D:O0 P f a s c=true)(F:NO P f a s c=true)(I:NA P f a s c=true)(J:Rk P f a s c=true)(K:PV P f a s c=true)(L:P7 P f a s c=true)(d:GH P f a s c=true)(e:FE P f a s c=true)(g:FH P f a s c=true)(h:FT P f a s c=true)(i:Fx P f a s c=true)(j:Gk P f a s c=true)(k:Gf P f a s c=true)(l:FL P f a s c=true)(m:FY P f a s c=true)(o:FA P f a s c=true)(p:Gq P f a s c=true)(q:GX P f a s c=true)(r:FF P f a s c=true)(t:FB P f a s c=true)(u:Fu P f a s c=true)(v:GF P f a s c=true)(w:F5 P f a s c=true)(x:FN P f a s c=true)(y:Gh P f a s c=true)(z:GB P f a s c=true)(B:GO P f a s c=true)(C:FO P f a s c=true):joinedFacts P f a s c=true:=by unfold joinedFacts;unfold NQ at b;unfold NH at h1;unfold P1 at h2;unfold PD at A;unfold O0 at D;unfold NO at F;unfold NA at I;unfold Rk at J;unfold PV at K;unfold P7 at L;unfold GH at d;unfold FE at e;unfold FH at g;unfold FT at h;unfold Fx at i;unfold Gk at j;unfold Gf at k;unfold FL at l;unfold FY at m;unfold FA at o;unfold Gq at p;unfold GX at q;unfold FF at r;unfold FB at t;unfold Fu at u;unfold GF at v;unfold F5 at w;unfold FN at x;unfold Gh at y;unfold GB at z;unfold GO at B;unfold FO at C;simp only[b,h1,h2,A,D,F,I,J,K,L,d,e,g,h,i,j,k,l,m,o,p,q,r,t,u,v,w,x,z,B,C,Bool.and_true,Bool.and_self,Ca];omega
theorem Wj:(laidOutB pg)=true:=by kernel_rfl
theorem Wu (f)(a)(s)(c):NH pg f a s c=true:=Wj
theorem jq2:(mapsRowed pg)=true:=by kernel_rfl
theorem jp2 (f)(a)(s)(c):P1 pg f a s c=true:=jq2
theorem jq6:((Tryz.prog.stops == []))=true:=by kernel_rfl
theorem jp6 (f)(a)(s)(c):NA pg f a s c=true:=jq6
theorem Ys:((Tryz.prog.stopKnobs == []))=true:=by kernel_rfl
theorem jp8 (f)(a)(s)(c):PV pg f a s c=true:=Ys
theorem O7:(Tryz.prog.stopsHeard)=true:=by kernel_rfl
theorem Pq (f)(a)(s)(c):Fu pg f a s c=true:=O7
theorem NW:(Tryz.prog.mayEnter)=true:=by kernel_rfl
theorem Ng (f)(a)(s)(c):GF pg f a s c=true:=NW
theorem zrV:false=Tryz.prog.looks []:=by kernel_rfl
end
def pW (ts:List ST)(i:Nat):U_:=(ts.map λt=>t.s.data.toList).getD i []
theorem tL (z:Int)(x:U_×Bool)(last:Bool)(hx:x.1.length<=90000)(w:World):
 Calls Tryz.prog 99 #[.agg #[.int Xb z,.string ⟨x.1.toArray⟩,.bool x.2,.bool last]] w λe w'=>∃d:DL,e=Xa (.tuple #[d.val,.bool (gj last x)])/\d.n=z/\(gj last x=true->d.e=last/\iE w' d.pv (((Zb x.1).drop 1).map gi))/\b_ w w':=by
 obtain⟨s,en⟩:=x;simp only at hx⊢;have HNO:Hid (∀W,gj last (s,en)=false->b_ w W->∃d:DL,Ending.returned (.tuple #[.agg #[.int Xb z,.bool false,.slice none 0 0],.bool false])=Xa (.tuple #[d.val,.bool<|gj last (s,en)])/\d.n=z/\(gj last (s,en)=true->d.e=last/\iE W d.pv (((Zb s).drop 1).map gi))/\b_ w W):=λW h hb=>by rw[h];exact⟨⟨z,false,(none,0,0)⟩,rfl,rfl,(λh=>by cases h),hb⟩
 have HYES:Hid (∀W (p:S_),gj last (s,en)=true->iE W (.slice p.1 p.2.1 p.2.2) (((Zb s).drop 1).map gi)->b_ w W->∃d:DL,Ending.returned (.tuple #[.agg #[.int Xb z,.bool last,.slice p.1 p.2.1 p.2.2],.bool true])=Xa (.tuple #[d.val,.bool<|gj last (s,en)])/\d.n=z/\(gj last (s,en)=true->d.e=last/\iE W d.pv (((Zb s).drop 1).map gi))/\b_ w W):=λW p h hp hb=>by rw[h];exact⟨⟨z,last,p⟩,rfl,rfl,λ_=>⟨rfl,hp⟩,hb⟩
 obtain⟨n0,n1,n2,n3,n4,hX0⟩:=Lz w (.cells #[.int Xb z,.string ⟨s.toArray⟩,.bool en,.bool last] 115) (.cells #[.int Xb 0,.bool false,.slice none 0 0] 132) (.cells #[.bool false] 4) (.cells #[.int Xb z,.bool false,.slice none 0 0] 132)<|.cells #[.int Xb z,.bool last,.slice none 0 0] 132;refine Q0 Tryz.func99 Tryz.ntmps99 (h:=?_);gi_wp2;generalize kah _ _=w0 at *;have hlt5:=(zd.1 n4).1;have HKB:=zf λW (hW:Ext w0 W)=>Xc (eK hW n0)<|Xc (eK hW n1)<|Xc (eK hW n2)<|Xc (eK hW n3)<|(hW.block _ hlt5).trans n4;clear n0 n1 n2 n3 n4;refine(zq.2<|UR _ w0).mono<|fB ?_;have HCO:=zf (wj s (by omega) w0);gi_wp2;refine(zq.2 HCO.out).mono ?_;rintro e w2 ⟨g,off,cap,c,ts,rfl,hcr,nw,hl2,hbw⟩;have x2:Ext w0 w2:=((Xe w0).alloc _).trans<|Xg hbw;clear HCO hbw;have HCR:=zf hcr;have HT:=zf (hl2.tail<|by simp);have hwl:=P4 (s.length+1) s;rw[show ri (s.length+1) s=c::ts.map (λt=>t.s.data.toList)from hcr]at hwl;have hrl:ts.length<=90000:=by have:=hwl.1;simp at this;omega
 have HTZ:Hid (∀t∈ts,t.s.size<=1000000000):=λt ht=>by have h1:=hwl.2 t.s.data.toList<|qq _<|List.mem_map_of_mem ht;rw[BJ]at h1;omega
 have q0:w2.cell? ⟨g,off,none⟩=some (.string ⟨c.toArray⟩):=by rcases hl2 with ⟨h,_⟩|⟨g',off',DR,h1,h2,h3,h4⟩;{cases h};simp only[qp,qN,Jg]at h1;obtain⟨⟨rfl,rfl,_⟩,_,_⟩:=h1;have:=h4 0 _ rfl 0 _ rfl;simpa using this
 clear hcr hl2 hwl nw;obtain⟨a0,r1,r2,r4,-⟩:=HKB.out w2 x2;have p2:=ze _ _ 2 _ _ _ a0;have p3:=ze _ _ 3 _ _ _ a0;obtain⟨-,-,⟨m0,m1,m2⟩,-⟩:=nr r4 (.bool false) (.bool false)<|.bool false;obtain⟨-,-,⟨c0,c1,c2⟩,f0,f1,f2⟩:=nr r1 (.bool false) (.bool false)<|.bool false;have c3:=ze _ _ 0 _ _ _ r2;have f3:w2.frozen? ⟨w.heap.size+1+1,0,none⟩=false:=Xf r2;obtain⟨u2,u3,u4⟩:=vD (by omega) r1 r2 (.int Xb z) (.bool false) (.slice none 0 0)<|.bool false;have HU:=zf (Xc u2<|Xc u3<|qk (hX0.trans x2) u4 λb hb=>by omega);clear a0 u2 u3 u4 r1 r2 r4;cases en with |false=>gi_wp2;refine nK (wpIn_wide.2<|wp_region_held (S:=λW=>W.cell? ⟨w.heap.size,2,none⟩=some (.bool false)/\W.cell? ⟨w.heap.size,3,none⟩=some (.bool last)/\W.cell? ⟨g,off,none⟩=some (.string ⟨c.toArray⟩)) (by kernel_rfl) ?_);have hHeld:w2.drew.cell? ⟨w.heap.size,2,none⟩=some (.bool false)/\w2.drew.cell? ⟨w.heap.size,3,none⟩=some (.bool last)/\w2.drew.cell? ⟨g,off,none⟩=some (.string ⟨c.toArray⟩):=⟨p2,p3,q0⟩;show wpAnyH _ _ _ _ _ _ _ _ w2.drew;refine fO [0,1,2,3,4,5,6,7,8,9,10,11] ?_;refine zV (by kernel_rfl) ?_ _;refine⟨rfl,?_⟩;gi_wp2;have d0:=ze _ _ 0 _ _ _ HU.out.1;have d1:=ze _ _ 1 _ _ _ HU.out.1;have d2:=ze _ _ 2 _ _ _ HU.out.1;have d3:=ze _ _ 0 _ _ _ HU.out.2.1;exact⟨.tuple #[.agg #[.int Xb z,.bool false,.slice none 0 0],.bool false],by simp[results,Tryz.results99,go_sem,d0,d1,d2,d3],HNO.out _ rfl<|Below.drawn HU.out.2.2 1⟩ |true=>by_cases hcf:c=mq last;{subst hcf;clear m0 m1 m2 c0 c1 c2 c3 f0 f1 f2 f3 HU;by_cases hc1:cap=1;(all_goals try subst hc1);all_goals gi_wp2;refine nK (wpIn_wide.2<|wp_region_held (S:=λW=>W.cell? ⟨w.heap.size,2,none⟩=some (.bool true)/\W.cell? ⟨w.heap.size,3,none⟩=some (.bool last)/\W.cell? ⟨g,off,none⟩=some (.string ⟨(mq last).toArray⟩)) (by kernel_rfl) ?_);have hHeld:w2.drew.cell? ⟨w.heap.size,2,none⟩=some (.bool true)/\w2.drew.cell? ⟨w.heap.size,3,none⟩=some (.bool last)/\w2.drew.cell? ⟨g,off,none⟩=some (.string ⟨(mq last).toArray⟩):=⟨p2,p3,q0⟩;show wpAnyH _ _ _ _ _ _ _ _ w2.drew;refine fO [0,1,2,3,4,5,6,7,8] ?_;refine fV 9 (lW last _) ?_;rintro e w3 ⟨rfl,rfl⟩;refine bk (by assumption) λhHeld=>?_;refine fO [10,11] ?_;refine zV (by kernel_rfl) ?_ _;refine⟨rfl,?_⟩;gi_wp2;refine(zq.2<|wK _ ts.length _ w2.drew).mono<|eU λw3 hw3=>?_;(have x23:Ext w2 w3:=by rw[hw3];exact(Xe w2).drew.alloc _);(first |obtain⟨ad,cp,hvs⟩:∃ad cp,Value.slice ad ts.length cp= .slice (some ⟨g,off,none⟩) ts.length 0:=⟨_,_,rfl⟩;(have k1:w3.cell? ⟨w2.heap.size,0,none⟩=some (.slice ad ts.length cp):=by rw[hw3,hvs];exact ze _ _ 0 _ _ _<|zC w2.drew _);have HTL:=zf ((HT.out.1<|by first|trivial|rfl).ext x23);rw[<-hvs]at HTL |obtain⟨ad,cp,hvs⟩:∃ad cp,Value.slice ad ts.length cp= .slice (some ⟨g,off+1,none⟩) ts.length (cap-1):=⟨_,_,rfl⟩;(have k1:w3.cell? ⟨w2.heap.size,0,none⟩=some (.slice ad ts.length cp):=by rw[hw3,hvs];exact ze _ _ 0 _ _ _<|zC w2.drew _);have HTL:=zf<|(HT.out.2 hc1).ext x23;rw[<-hvs]at HTL);clear hw3 hvs;have x3:=x2.trans x23;have xw3:=hX0.trans x3;have n5:=(HKB.out w3 x3).2.2.2.2;have h53:w.heap.size+1+1+1+1<w3.heap.size:=(zd.1 n5).1;have hs23:=x23.size;have hs02:=x2.size;clear q0 p2 p3 hHeld;gi_wp2;refine ZT (ue ts ad cp w2.heap.size (by omega) HTZ.out) rfl (qW Tryz.func230 (by kernel_rfl) rfl) (λk v W=>by rintro⟨t,d,_,rfl,_⟩;rfl) (Ud w3 (w.heap.size+1+1+1+1) (w.heap.size+1) (w.heap.size+1+1) ts.length z last<|pW ts) (Hz w (w.heap.size+1) (w.heap.size+1+1) z<|pW ts) (λb=>b=w.heap.size+1+1+1+1\/b=w.heap.size+1\/b=w.heap.size+1+1) ?hI ?hIx ?hC ?h0 ?round ?done ?stop;(case hI=>exact λk M A B ⟨M0,⟨h1,v,us,h2,h3,h4⟩,h5,h6⟩ hk=>⟨M0,⟨h1,v,us,h2,h3.eL hk,λi u hu=>iD.eL (h4 i u hu) hk⟩,h5,h6⟩);(case hIx=>exact λc k A B h hk=>h.eL hk xw3.size);(case hC=>rintro k M A ⟨M0,⟨h1,v,us,h2,h3,h4⟩,h5,h6⟩;have hlt:=h3.lt;have hs1:=h3.1.size;exact⟨⟨h3.1.cell (p:=⟨w2.heap.size,0,none⟩) (by simp;omega) k1,(HTL.out.wr h3.1 λb hb ht=>by rcases hb with rfl|rfl<;>exact absurd (ht.one ⟨_,_,n5⟩)<|by decide).gD⟩,λb hb=>((h5 b).1 hb).elim (hlt b) λh=>by omega⟩);(case h0=>exact⟨λb=>b=w.heap.size+1+1+1+1,⟨qo _,_,[],rfl,XE n5,λi u hu=>by simp at hu⟩,λb=>Qb,λi hi=>by omega⟩);(case round=>rintro l2 k v M A hkN ⟨t0,⟨⟨ra,rl,rc⟩,⟨fb,⟨fa,fl,fc⟩,⟨da,dl,dc⟩⟩⟩,ht0,rfl,hp0⟩ ⟨M0,⟨h1,v,us,hus,hG,hEv⟩,hM,h0⟩;(have hqk:(pW ts) k=t0.s.data.toList:=by show(ts.map λt=>t.s.data.toList).getD k []=_;rw[zk,zR,ht0];rfl);have HPX:Hid (T.fT t0.s.data.toList=true->iD A ⟨(ra,rl,rc),⟨fb,(fa,fl,fc),(da,dl,dc)⟩⟩ (gi t0.s.data.toList)):=hp0;clear hp0 ht0;generalize t0.s.data.toList=ql at *;have HQK:=zf hqk;clear hqk;obtain⟨ka,kc,rfl⟩:=hG.2.2.1.shape;rw[zm]at hG;(have hul:us.length<=100000:=by omega);have HUS:=zf hus;clear hus;have hstop:∀q,Hid q->q:=λ_ h=>h;obtain⟨ok,hok⟩:∃ok,T.fT ql=ok:=⟨_,rfl⟩;rw[hok];have HOK:=zf hok;clear hok;simp only[DP.val,DP.rv,T.fK.up,T.fK.down];unfold Zz;gi_wp2;refine⟨Xh<|(Xe A).alloc _,λA2 hk2=>?_⟩;obtain⟨xA,e0,hs2⟩:=Fk hk2;have G2:=hG.eL xA;have Dn:Ext w A2:=qk xw3 G2.1 (λb hb=>by omega);have hv2:=G2.1;have e2:=G2.2.1;refine ZW ?_;refine yj ?_;refine yj ?_;refine Qt (by rfl) (λ⟨a,w,h⟩=>h) ?_;cases ok with |true=>go_wp2_with fail;refine(show(Code.cond _ _ _).wpIn _ _ _ _ _ _ from G3 rfl (wpIn_skip ?_));have d0:=ze _ _ 0 _ _ _ e0;have d1:=ze _ _ 1 _ _ _ e0;have d2:=ze _ _ 2 _ _ _ e0;have d3:=ze _ _ 3 _ _ _ e0;have c2:=ze _ _ 2 _ _ _ e2;have hne:(Value.slice ka us.length kc).ownBlock≠some (w.heap.size+1+1+1+1):=λe=>(hG.2.2.2.1 _ e).1 rfl;have x4:Ext A2 (A2.alloc<|.cells #[.slice ra rl rc,.bool fb,.slice fa fl fc,.slice da dl dc] 295):=(Xe A2).alloc _;(have HMO:Hid (∀A5 g5 fZ,A5.ownsRow w3.heap.size 295 4 (.slice (some ⟨g5,0,none⟩) (us.length+1) fZ) (us.length+1) ((us.map DP.cells).flatten ++ [.slice ra rl rc,.bool fb,.slice fa fl fc,.slice da dl dc])->(A2.alloc<|.cells #[.slice ra rl rc,.bool fb,.slice fa fl fc,.slice da dl dc] 295).grownBy A5 (Value.slice ka us.length kc).ownBlock->((Value.slice ka us.length kc).ownBlock=some g5\/g5=A2.heap.size+1)->qK A5 g5->ZL M (Ud w3 (w.heap.size+1+1+1+1) (w.heap.size+1) (w.heap.size+1+1) ts.length z last<|pW ts) (Hz w (w.heap.size+1) (w.heap.size+1+1) z<|pW ts) k A A2 .normal { tmps:=#[],defers:= [] } (A5.setCell ⟨w.heap.size+1+1+1+1,2,none⟩<|.slice (some ⟨g5,0,none⟩) (us.length+1) fZ)):=by intro A5 g5 fZ own grow at5 gF;obtain⟨m1,M',m2,m3⟩:=yd.more (V:=OU<|pW ts) (j:=2) (N:=ts.length) (u:=⟨(ra,rl,rc),⟨fb,(fa,fl,fc),(da,dl,dc)⟩⟩) (a:={ tmps:=#[],defers:= [] }) (λ_ _ _ _ _ h hw hu=>iD.wr h hw λb hb=>(hu b hb).1) (λ_ _ h=>iD.eL h xA) HUS.out hG hEv xA x4 (by omega) hkN (by rw[OU,HQK.out];exact((HPX.out HOK.out).eL xA).ext x4) own grow (at5.imp id λe=>by simp[e]) gF;exact⟨m1.mono λb hb=>(hM b).2<|.inl hb,_,⟨M',m2,λb=>Qb,λi hi=>by rcases Qc i k with h|h;{exact h0 i h};rw[show i=k by omega,HQK.out];exact HOK.out⟩,λb hb=>hb.elim (λh=>(m3 b h).imp (λh=>(hM b).2<|.inl h) id) λh=> .inl<|(hM b).2<|.inr h⟩);clear e0 hG Dn;refine(show(Code.region _ _ _).wpIn _ _ _ _ _ _ from Qt (by rfl) (λ⟨a,w,h⟩=>h) ?_);go_wp2_with (at_builtin;refine hstop _ ?_);unfold Hid;refine Hl CO Tryz.underlying130 (G2.2.2.1.ext x4) (by have:=G2.1.size;omega) ?_;intro g4 cap4 A4 own4 grow4 at4 nt dig4;have b4:=(Qh (U:=λb=>(Value.slice ka us.length kc).ownBlock=some b) grow4 λg h=>h).some (eK x4 e2) hne;have t2:=ze _ _ 2 _ _ _ b4;have tf2:A4.frozen? ⟨w.heap.size+1+1+1+1,2,none⟩=false:=Xf b4;have HF:=zf<|HMO.out A4 g4 cap4 own4 grow4 at4 dig4;clear own4 grow4 at4 nt dig4 b4;go_wp2_with fail;exact HF.out |false=>go_wp2_with fail;refine(show(Code.cond _ _ _).wpIn _ _ _ _ _ _ from Gw rfl (yj ?_));obtain⟨-,r1,r2,r4,-⟩:=HKB.out w3 x3;have r1:=hv2.some r1 (by omega);have r2:=hv2.some r2 (by omega);have r4:=hv2.some r4 (by omega);obtain⟨-,-,⟨m0,m1,m2⟩,-⟩:=nr r4 (.bool false) (.bool false)<|.bool false;obtain⟨-,-,⟨c0,c1,c2⟩,f0,f1,f2⟩:=nr r1 (.bool false) (.bool false)<|.bool false;have c3:=ze _ _ 0 _ _ _ r2;have f3:A2.frozen? ⟨w.heap.size+1+1,0,none⟩=false:=Xf r2;obtain⟨u2,u3,u4⟩:=vD (by omega) r1 r2 (.int Xb z) (.bool false) (.slice none 0 0)<|.bool false;have HX:Hid (Wr M A2 _/\Hz w (w.heap.size+1) (w.heap.size+1+1) z (pW ts) .ret k _):=⟨u4.mono λb hb=>(hM b).2<|.inr hb,rfl,by rw[HQK.out];exact HOK.out,qk Dn u4 λb hb=>by omega,ze _ _ 0 _ _ _ u2,ze _ _ 1 _ _ _ u2,ze _ _ 2 _ _ _ u2,ze _ _ 0 _ _ _ u3⟩;clear u2 u3 u4 r1 r2 r4 e0 e2 hv2 Dn hG G2;refine Qt (by rfl) (λ⟨a,w,h⟩=>h) ?_;go_wp2_with fail;refine(show Code.ret.wpIn _ _ _ _ _ _ from wpIn_ret ?_);exact HX.out);(case done=>rintro D M A hD ⟨M0,⟨h1,v,us,h2,h3,h4⟩,h5,h0⟩ hd;obtain⟨ka,kc,rfl⟩:=h3.2.2.1.shape;rw[zm]at h3;have n0:=ze _ _ 0 _ _ _ h3.2.1;have n1:=ze _ _ 1 _ _ _ h3.2.1;have n2:=ze _ _ 2 _ _ _ h3.2.1;obtain⟨-,r1,r2,-,-⟩:=HKB.out w3 x3;have r1:=h3.1.some r1 (by omega);have r2:=h3.1.some r2 (by omega);obtain⟨-,-,⟨c0,c1,c2⟩,f0,f1,f2⟩:=nr r1 (.bool false) (.bool false)<|.bool false;have c3:=ze _ _ 0 _ _ _ r2;have f3:A.frozen? ⟨w.heap.size+1+1,0,none⟩=false:=Xf r2;(have HLO:Hid (gj last (s,true)=true):=by unfold Hid gj;simp only[HCR.out,List.headD_cons,List.drop_one,List.tail_cons,decide_true,Ca];rw[Zi];intro y hy;obtain⟨i,hi,rfl⟩:=qM hy;have h9:T.fT ((ts.map λt=>t.s.data.toList).getD i [])=true:=h0 i (by rw[zm]at hi;exact hi);rw[zk,zg hi]at h9;exact h9);(have HPL:Hid (iE A (.slice ka us.length kc)<|((Zb s).drop 1).map gi):=by refine⟨us,?_,h3.2.2.1.list,λi u y hu hy=>?_⟩;{rw[HCR.out,List.drop_one,List.tail_cons,zm,zm,h2]};rw[HCR.out,List.drop_one,List.tail_cons,zR]at hy;(have hi:i<(ts.map λt=>t.s.data.toList).length:=by have:=(zo.1 hu).1;rw[zm];omega);rw[zg hi]at hy;simp only[qY,qN]at hy;have h9:iD A u (gi<|(ts.map λt=>t.s.data.toList).getD i []):=h4 i u hu;rw[zk,zg hi]at h9;rw[<-hy];exact h9);obtain⟨u2,u3,u4⟩:=vD (by omega) r1 r2 (.int Xb z) (.bool last) (.slice ka us.length kc)<|.bool true;have HU:=zf<|Xc u2 u3;have HD9:=zf (u4.some hd λe=>by omega);have HV9:=zf (HPL.out.wr u4 λb hb=>by rcases hb with rfl|rfl;{exact⟨λht=>absurd (ht.one ⟨_,_,r1⟩)<|by decide,zE r1<|fj rfl⟩};exact⟨λht=>absurd (ht.one ⟨_,_,r2⟩)<|by decide,zE r2<|fj rfl⟩);have HB9:=zf (qk (qk xw3 h3.1 λb hb=>by omega) u4 λb hb=>by omega);clear h1 h2 h3 h4 h5 h0 u2 u3 u4 r1 r2;gi_wp2;refine qh HD9.out ?_;have hkD:=zn.putObj (B:=w.heap.size) (.deferred none) (by omega) HD9.out rfl;have d0:=hkD.cell<|ze _ _ 0 _ _ _ HU.out.1;have d1:=hkD.cell<|ze _ _ 1 _ _ _ HU.out.1;have d2:=hkD.cell<|ze _ _ 2 _ _ _ HU.out.1;have d3:=hkD.cell<|ze _ _ 0 _ _ _ HU.out.2;refine⟨.tuple #[.agg #[.int Xb z,.bool last,.slice ka us.length kc],.bool true],by simp[results,Tryz.results99,go_sem,d0,d1,d2,d3],?_⟩;exact HYES.out _ (ka,us.length,kc) HLO.out (HV9.out.eL hkD)<|hkD.below HB9.out (zh _)<|zh _);case stop=>rintro D c k A hD hk ⟨rfl,h1,h2,h3,h4,h5,h6⟩ hd;gi_wp2;refine qh hd ?_;have hkD:zn w3.heap.size A (A.putObj D<|.deferred none):=zn.putObj _ hD hd rfl;have d0:=hkD.cell h3;have d1:=hkD.cell h4;have d2:=hkD.cell h5;have d3:=hkD.cell h6;(have hfn:gj last (s,true)=false:=by unfold gj;simp only[HCR.out,List.headD_cons,List.drop_one,List.tail_cons,decide_true,Ca];rw[List.all_eq_false];(have hi:k<(ts.map λt=>t.s.data.toList).length:=by rw[zm];exact hk);refine⟨_,zJ hi,?_⟩;have h9:T.fT ((ts.map λt=>t.s.data.toList).getD k [])=false:=h1;rw[zk,zg hi]at h9;simpa using h9);exact⟨.tuple #[.agg #[.int Xb z,.bool false,.slice none 0 0],.bool false],by simp[results,Tryz.results99,go_sem,d0,d1,d2,d3],HNO.out _ hfn<|(hkD.mono xw3.size).below h2 (zh _)<|zh _⟩};(have hne:(c == mq last)=false:=by simpa using hcf);(have HNK:Hid (gj last (s,true)=false):=by unfold Hid gj;simp only[HCR.out,List.headD_cons];rw[J2 hcf];rfl);gi_wp2;refine nK (wpIn_wide.2<|wp_region_held (S:=λW=>W.cell? ⟨w.heap.size,2,none⟩=some (.bool true)/\W.cell? ⟨w.heap.size,3,none⟩=some (.bool last)/\W.cell? ⟨g,off,none⟩=some (.string ⟨c.toArray⟩)) (by kernel_rfl) ?_);have hHeld:w2.drew.cell? ⟨w.heap.size,2,none⟩=some (.bool true)/\w2.drew.cell? ⟨w.heap.size,3,none⟩=some (.bool last)/\w2.drew.cell? ⟨g,off,none⟩=some (.string ⟨c.toArray⟩):=⟨p2,p3,q0⟩;show wpAnyH _ _ _ _ _ _ _ _ w2.drew;refine fO [0,1,2,3,4,5,6,7,8] ?_;refine fV 9 (lW last _)<|fB ?_;refine bk (by assumption) λhHeld=>?_;refine fO [10,11] ?_;refine zV (by kernel_rfl) ?_ _;refine⟨rfl,?_⟩;gi_wp2;have d0:=ze _ _ 0 _ _ _ HU.out.1;have d1:=ze _ _ 1 _ _ _ HU.out.1;have d2:=ze _ _ 2 _ _ _ HU.out.1;have d3:=ze _ _ 0 _ _ _ HU.out.2.1;exact⟨.tuple #[.agg #[.int Xb z,.bool false,.slice none 0 0],.bool false],by simp[results,Tryz.results99,go_sem,d0,d1,d2,d3],HNO.out _ HNK.out<|Below.drawn HU.out.2.2 1⟩
theorem S3 (w:H)(a b c d f):(((((w.alloc a).alloc b).alloc c).alloc d).alloc f).heap[w.heap.size]? =E a/\(((((w.alloc a).alloc b).alloc c).alloc d).alloc f).heap[w.heap.size+1]? =E b/\(((((w.alloc a).alloc b).alloc c).alloc d).alloc f).heap[w.heap.size+1+1]? =E c/\(((((w.alloc a).alloc b).alloc c).alloc d).alloc f).heap[w.heap.size+1+1+1]? =E d/\(((((w.alloc a).alloc b).alloc c).alloc d).alloc f).heap[w.heap.size+1+1+1+1]? =E f:=by have⟨g,h,i,j⟩:=Lx w a b c d;have k:((((w.alloc a).alloc b).alloc c).alloc d).heap.size=w.heap.size+1+1+1+1:=sp;have e:=qR ((((w.alloc a).alloc b).alloc c).alloc d) f;rw[k]at e;refine⟨?_,?_,?_,?_,e⟩;{rw[qH _ _ _ om];omega};{rw[qH _ _ _ om];omega};{rw[qH _ _ _ om];omega};rw[qH _ _ _ om];omega
theorem C5.start (w)(a)(s):
 C5 w a 0 qF.none (V_) (V_) (((((w.alloc (cl #[V_,V_] 62)).alloc (cl #[i_ 0] 3)).alloc (cl #[V_,V_] 62)).alloc (cl #[i_ 1] 3)).alloc (cl #[gS s] 9)):=by
 have⟨b,d,a,f,h⟩:=S3 w (cl #[V_,V_] 62) (cl #[i_ 0] 3) (cl #[V_,V_] 62) (cl #[i_ 1] 3)<|cl #[gS s] 9;have c:∀g,kaj (V_)=E g->False:=λg e=>by cases e
 refine⟨⟨⟨ze _ _ _ _ _ _ a,ze _ _ _ _ _ _ a,ZK _ _ _ _ _ a,ZK _ _ _ _ _ a,Jw a⟩,zE a λv a=>?_,kai ⟨rfl,rfl⟩,λg e=>(c g e).elim,[],rfl,Ih _ _ _ _,λi r row g i=>g_⟩,lN.start,sp,ze _ _ _ _ _ _ f,ZK _ _ _ _ _ f,⟨ze _ _ _ _ _ _ b,ze _ _ _ _ _ _ b,ZK _ _ _ _ _ b,ZK _ _ _ _ _ b,Jw b⟩,ze _ _ _ _ _ _ d,ZK _ _ _ _ _ d,?_,λx b=>?_,Jw h⟩;{simp only[zI,zY,Zp]at a;intro n e;grind};{exact((xe w _ _ _).alloc so _).alloc so _};rcases b with e|e|e;{omega};{grind};grind
theorem OZ {w X}{k:Nat}{b}(hb:Zh X w.heap.size (V_) (V_))(h1:X.cell? ⟨w.heap.size+1,0,O⟩=E (i_ b))(i:b_ w X)(M)(a:M w.heap.size/\M (w.heap.size+1)):
 Wr M X (((X.setCell (Xd w.heap.size 0 O) (V_)).setCell (Xd w.heap.size 1 O) (V_)).setCell ⟨w.heap.size+1,0,O⟩ (i_ ((k)+1))).drew/\
  Zh (((X.setCell (Xd w.heap.size 0 O) (V_)).setCell (Xd w.heap.size 1 O) (V_)).setCell ⟨w.heap.size+1,0,O⟩ (i_ ((k)+1))).drew w.heap.size (V_) (V_)/\
  (((X.setCell (Xd w.heap.size 0 O) (V_)).setCell (Xd w.heap.size 1 O) (V_)).setCell ⟨w.heap.size+1,0,O⟩ (i_ ((k)+1))).drew.cell? ⟨w.heap.size+1,0,O⟩=E (i_ ((k)+1))/\
  b_ w (((X.setCell (Xd w.heap.size 0 O) (V_)).setCell (Xd w.heap.size 1 O) (V_)).setCell ⟨w.heap.size+1,0,O⟩ (i_ ((k)+1))).drew:=by
 obtain⟨c,d,e,f,g⟩:=hb;have h:(X.setCell (y_ w 0)<|V_).cell? (y_ w 1)=E (V_):=by rw[zA _ _ _ _ sp];exact d
 have d:((X.setCell (y_ w 0)<|V_).setCell (y_ w 1)<|V_).cell? (x_ w 0)=E (i_ b):=by rw[qj _ _ _ _ sp,qj _ _ _ _ sp];exact h1
 refine⟨(((Xk M X).setCell a.1 _).setCell a.1 _).setCell a.2 _ |>.trans (Xp _ _),⟨?_,?_,by simp_all,by simp_all,by simp_all⟩,zN _ _ _ d,?_⟩;{show World.cell? (kas _ _ _) _=_;rw[qj _ _ _ _ sp,zA _ _ _ _ sp];exact zN _ _ _ c};{show World.cell? (kas _ _ _) _=_;rw[qj _ _ _ _ sp];exact zN _ _ _ h};exact IJ (((i.setCell (zh _) _).setCell (zh _) _).setCell sp _)
theorem zlc (s)(hs:s.length<=2000)(w):
 C_ 29 #[gS ⟨s.toArray⟩] w λe w'=>b_ w w'/\
  (
   (∃k,ju 0 qF.none (QW s)= .error k/\e=Xa (tp #[ag #[V_,V_],i_ (k)]))\/
   ∃p,ju 0 qF.none (QW s)= .ok p/\(((QW s).length<2+p.n/\e=Xa (tp #[ag #[V_,V_],i_ (((QW s).length+1:Nat))]))\/
    (¬(QW s).length<2+p.n/\∃f b,e=Xa (tp #[ag #[f,b],i_ 0])/\DQ w' (w.heap.size+1+1) p f b/\lN (QW s).length p/\∀x,Own (w.heap.size+1+1) f b x->w.heap.size<=x))):=by
 have hm:Tryz.prog.follows .mixedOrders=true:=kr;have u:=zf<|wV s om<|w.heap.size+1+1+1+1;have t:=zf λk x (S)=>zF (zqY s k x S) hs;have a:(QW s).length<=2000:=zF (K_ _ s).1 hs;obtain⟨d,hLL⟩:∃d,QW s=d:=⟨_,rfl⟩;rw[hLL]at u t a⊢;clear hLL;have F:=zf<|C5.start w d ⟨s.toArray⟩;refine Q0 func29 ntmps29 (h:=?_);gi_wp2;refine(zq.2<|Bx _ _).mono ?_;rintro e a ⟨rfl,rfl⟩;gi_wp2;refine Fs u.out rfl (qW func78 kr rfl) (λc hv=>?_) (λk M A=>k<=d.length/\∃p f b,Hid (C5 w d k p f b A)/\A.cell? ⟨w.heap.size+1+1+1+1,0,O⟩=E (gS ⟨s.toArray⟩)/\∀x,M x↔(x=w.heap.size\/x=w.heap.size+1\/x=w.heap.size+1+1+1)\/Own (w.heap.size+1+1) f b x) (λX k A=>X= .ret/\Hid (ju 0 qF.none d= .error (k+1)/\Zh A w.heap.size (V_) (V_)/\A.cell? (x_ w 0)=E (i_<|(k)+1)/\b_ w A)) (λx=>(x=w.heap.size\/x=w.heap.size+1\/x=w.heap.size+1+1+1)\/Own (w.heap.size+1+1) (V_) (V_) x) ?hI ?hIx ?hC ?h0 ?round ?done ?stop;case hI=>rintro k M A a ⟨r,p,f,b,h,v,y⟩ o;exact⟨r,p,f,b,h.out.eL o so,o.cell v,y⟩
 case hIx=>rintro X k A a ⟨r,h⟩ o;exact⟨r,h.out.1,h.out.2.1.eL o,o.cell h.out.2.2.1,o.below h.out.2.2.2 so<|zh _⟩
 case hC=>rintro k M A ⟨r,p,f,b,h,v,y⟩;refine⟨v,λx K=>?_⟩;have a:=h.out.2.2.2.2.2.2.2.2.2.2;rcases(y x).1 K with e|e;{omega};exact h.out.1.lt x e
 case h0=>refine⟨qo _,_,_,_,F.out,?_,λ_=>Qb⟩;exact ze _ _ _ _ _ _ (S3 w _ _ _ _ _).2.2.2.2
 case round=>rintro P k c M A hv ⟨_,p,f,b,l,T,i⟩;obtain⟨z,last,L,rfl⟩:=UK hv;rw[qt];have a:=(zo.1 L).1;have C:=t.out k z L;unfold Zz sI;gi_wp2;refine⟨Xh<|(qf _ _).alloc (zh _) _,λm a=>?_⟩;have q:=(zn.alloc _ A _).trans a;have c:Hid (C5 w d k p f b m):=l.out.eL q so;have N:m.cell? (y_ A 0)=E (i_ _):=a.cell<|ze _ _ _ _ _ _<|qR A _;have l1:m.cell? (y_ A 1)=E (gS ⟨_⟩):=a.cell<|ze _ _ _ _ _ _<|qR A _;have U:m.cell? (y_ A 2)=E (G _):=a.cell<|ze _ _ _ _ _ _<|qR A _;have l3:m.cell? (y_ A 3)=E (G _):=a.cell<|ze _ _ _ _ _ _<|qR A _;have D:=l.out.2.2.2.2.2.2.2.2.2.2;have D:A.heap.size<m.heap.size:=zw N;have a0:=q.cell T;(have a1:¬Own _ f b A.heap.size:=λe=>by have:=l.out.1.lt _ e;omega);(have a5:¬Own _ f b (w.heap.size+1+1+1+1):=λe=>by rcases l.out.2.2.2.2.2.2.2.2.2.1 _ e with e|e<;>omega);clear a q l T;cases hye:z.2 with |false=>rw[hye]at U;(have W:Hid (ju 0 qF.none d= .error (k+1)):=by rw[Hid,c.out.2.2.1,Nl L,zQ hye]);obtain⟨_,_,_,_,_,q,I,Y,J,_,_⟩:=c.out;have D:=zf<|OZ (k:=k) q I J M ⟨(i _).2<|.inl<|.inl rfl,(i _).2<|.inl<|.inr<|.inl rfl⟩;obtain⟨f0,f1,f2,f3,f4⟩:=q;clear c t F u i;gi_wp2;gi_region_o;(all_goals gi_wp2);all_goals exact⟨D.out.1,rfl,W.out,D.out.2⟩ |true=>rw[hye]at U;have R:=zf<|zoT k _ true last _ p f b m c.out.1 c.out.2.1 C om;have a:((k+1:Nat))=(k:Int)+1:=sp;rw[a]at R;clear a;gi_wp2;refine(Zq P<|zq.2 R.out).mono<|eU λC ⟨a,Z⟩=>?_;have a2:=a.mono λx e=>(i x).2<|.inr e;cases htk:jD k p (Zb z.1)with |none=>(have W:Hid (ju 0 qF.none d= .error (k+1)):=by rw[Hid,c.out.2.2.1,Nl L,zO<|by grind,htk]);obtain⟨_,_,_,_,_,q,I,Y,J,m,_⟩:=c.out;(have P:¬Own _ f b w.heap.size:=λe=>by rcases m _ e with e|e<;>omega);(have Q:¬Own _ f b (w.heap.size+1):=λe=>by rcases m _ e with e|e<;>omega);have z:=q.same (a.block _ q.2.2.2.2 P) a.size;have a3:=a.cell (p:=(x_ w 0)) Q I;have a4:=(a.frozen (p:=(x_ w 0)) Q<|zw I).trans Y;have a4:=J.trans<|a.below J.size λx e=>g_;have D:=zf<|OZ (k:=k) z a3 a4 M ⟨(i _).2<|.inl<|.inl rfl,(i _).2<|.inl<|.inr<|.inl rfl⟩;obtain⟨f0,f1,f2,f3,f4⟩:=z;have a3:=a.cell a1 N;clear c t F u i q Z htk R N l1 U l3 I Y J a;simp only[Option.isSome];gi_wp2;gi_region_o;(all_goals gi_wp2);all_goals exact⟨a2.trans D.out.1,rfl,W.out,D.out.2⟩ |some q=>obtain⟨D,I,z,m⟩:=Z q htk;obtain⟨_,_,J⟩:=c.out.step a z m L hye htk;have a3:=a.cell a1 N;have c:=a.cell a5 a0;have a:=(i _).2<|.inl<|.inr<|.inr rfl;simp only[Option.isSome];clear htk R Z N l1 U l3 t F u a0;gi_wp2;refine⟨a2.setCell a _,_,⟨om,q,D,I,J,?_,λ_=>Qb⟩,λx K=>?_⟩;{rw[qj _ _ _ _ sp];omega};grind
 case stop=>rintro D X k A c o ⟨rfl,S⟩ z;(have I:w.heap.size+1+1+1+1<D:=by simp at c;omega);have a:zn w.heap.size A _:=zn.putObj (.deferred O) om z rfl;obtain⟨r,h,v,y⟩:=S.out;have m:=a.cell h.1;have o:=a.cell h.2.1;have q:=a.cell v;have C:=a.below y (zh _)<|zh _;clear h v y S;gi_wp2;refine qh z ?_;refine⟨tp #[ag #[V_,V_],i_<|(k)+1],by simp[results,results29,go_sem,m,o,q],C,kai ⟨_,r,sp⟩⟩
 case done=>rintro D M A c ⟨r,p,f,b,l,T,i⟩ z;rw[M6]at l r;(have I:w.heap.size+1+1+1+1<D:=by simp at c;omega);obtain⟨v,N,q3,_,_,C,S,_,Y,M,_⟩:=l.out;(have y:Hid (ju 0 qF.none d= .ok p):=by rw[Hid,q3,List.drop_length];rfl);(have b:p.n<=4:=by by_cases b:d.length=0;{rw[N.z b];simp[qF.none]};exact(N.n om).2);(obtain⟨b,c,hvC⟩:∃b c,f=V b p.n c:=by rcases v.mI with ⟨h0,h⟩|⟨_,_,h,_⟩;{grind};grind);obtain⟨f,h,I⟩:=v.wS;obtain⟨d0,_,_,_,_⟩:=v.box;subst hvC;have J:=zf λ(W) (r:W.cell? (w_ w 0)=E _)=>UC _ p.n b c W r om;have r:=zf<|OZ (k:=d.length) C S Y (λ_=>True) ⟨trivial,trivial⟩;obtain⟨R,L,_,_,_⟩:=C;subst I;(have P:¬Own _ _ _ w.heap.size:=λe=>by rcases M _ e with e|e<;>omega);(have Q:¬Own _ _ _ (w.heap.size+1):=λe=>by rcases M _ e with e|e<;>omega);have C:=Jw z;(have C:(((A.setCell (y_ w 0)<|V_).setCell (y_ w 1)<|V_).setCell (x_ w 0)<|i_<|(d.length:Int)+1).drew.drew.heap[D]? =E (.deferred<|E []):=by show(kas _ _ _).heap[D]? =_;rw[qC _ _ _ _ so,qC _ _ _ _ so,qC _ _ _ _ so];exact z);(have I:(((A.setCell (y_ w 0)<|V b p.n c).setCell (y_ w 1)<|V f p.rows.length h).setCell (x_ w 0)<|i_ 0).drew.heap[D]? =E (.deferred<|E []):=by show(kas _ _ _).heap[D]? =_;rw[qC _ _ _ _ so,qC _ _ _ _ so,qC _ _ _ _ so];exact z);have z:(A.setCell (y_ w 0) _).cell? _=E (V b p.n c):=zN _ _ _ R;(have D:(A.setCell (y_ w 0)<|V b p.n c).cell? (y_ w 1)=E (V_):=by rw[zA _ _ _ _ sp];exact L);have Z:((A.setCell _ _).setCell _ _).cell? _=E (V f p.rows.length h):=zN _ _ _ D;(have o3:((A.setCell (y_ w 0)<|V b p.n c).setCell (y_ w 1)<|V f p.rows.length h).cell? (y_ w 0)=E (V b p.n c):=by rw[zA _ _ _ _ sp];exact z);(have L:((A.setCell (y_ w 0)<|V b p.n c).setCell (y_ w 1)<|V f p.rows.length h).cell? (x_ w 0)=E (i_ 0):=by rw[qj _ _ _ _ sp,qj _ _ _ _ sp];exact S);have X:=zf<|(((v.eZ P R sp sp R sp).eZ P D sp sp z sp).mX (z':=0) Q L).eL<|zn.drew 0 _;(have S:(((A.setCell (y_ w 0)<|V b p.n c).setCell (y_ w 1)<|V f p.rows.length h).setCell (x_ w 0)<|i_ 0).drew.cell? (y_ w 0)=E (V b p.n c):=by show World.cell? (kas _ _ _) _=_;rw[qj _ _ _ _ sp];exact o3);(have U:(((A.setCell (y_ w 0)<|V b p.n c).setCell (y_ w 1)<|V f p.rows.length h).setCell (x_ w 0)<|i_ 0).drew.cell? (y_ w 1)=E (V f p.rows.length h):=by show World.cell? (kas _ _ _) _=_;rw[qj _ _ _ _ sp];exact Z);have W:(((A.setCell (y_ w 0)<|V b p.n c).setCell (y_ w 1)<|V f p.rows.length h).setCell _ _).drew.cell? _=E (i_ 0):=zN _ _ _ L;have R:b_ w (((A.setCell (y_ w 0)<|V b p.n c).setCell (y_ w 1)<|V f p.rows.length h).setCell _<|i_ 0).drew:=IJ<|((Y.setCell (p:=(y_ w 0)) (zh _) _).setCell (p:=(y_ w 1)) (zh _) _).setCell (p:=(x_ w 0)) sp _;have Y:=zf N;(have A:Hid (∀x,Own _ _ _ x->w.heap.size<=x):=λx K=>by rcases M x K with e|e<;>omega);clear z D Z o3 L i T F u t q3 P Q v l;gi_wp2;refine He ?_;gi_region_with_o (refine(zq.2<|J.out _<|by exact d0).mono ?_;rintro e i ⟨rfl,rfl⟩);(all_goals simp only[]);(all_goals by_cases l:d.length<2+p.n);{have i:(d.length)+1<=2+(p.n:Int):=om;gi_wp2;refine He ?_;gi_region_o;(all_goals simp only[]);(all_goals gi_wp2);(all_goals refine qh C ?_);(all_goals have a:=zn.putObj (B:=w.heap.size) (.deferred O) om C rfl);(all_goals have m:=a.cell<|r.out.2.1.1);(all_goals have o:=a.cell<|r.out.2.1.2.1);(all_goals have q:=a.cell<|r.out.2.2.1);all_goals exact⟨tp #[ag #[V_,V_],i_<|(d.length)+1],by simp[results,results29,go_sem,m,o,q],a.below (IJ r.out.2.2.2) (zh _)<|zh _,kac ⟨p,y.out,kai ⟨l,sp⟩⟩⟩};{have i:¬(d.length)+1<=2+(p.n:Int):=om;gi_wp2;refine qh I ?_;have a:=zn.putObj (B:=w.heap.size) (.deferred O) om I rfl;have m:=a.cell S;have o:=a.cell U;have q:=a.cell W;exact⟨_,by simp[results,results29,go_sem,m,o,q],a.below R (zh _)<|zh _,kac ⟨p,y.out,kac ⟨om,_,_,rfl,X.out.eL a,Y.out,A.out⟩⟩⟩};{have i:(d.length)+1<=2+(p.n:Int):=om;gi_wp2;refine He ?_;gi_region_o;(all_goals simp only[]);(all_goals gi_wp2);(all_goals refine qh C ?_);(all_goals have a:=zn.putObj (B:=w.heap.size) (.deferred O) om C rfl);(all_goals have m:=a.cell<|r.out.2.1.1);(all_goals have o:=a.cell<|r.out.2.1.2.1);(all_goals have q:=a.cell<|r.out.2.2.1);all_goals exact⟨tp #[ag #[V_,V_],i_<|(d.length)+1],by simp[results,results29,go_sem,m,o,q],a.below (IJ r.out.2.2.2) (zh _)<|zh _,kac ⟨p,y.out,kai ⟨l,sp⟩⟩⟩};have i:¬(d.length)+1<=2+(p.n:Int):=om;gi_wp2;refine qh I ?_;have a:=zn.putObj (B:=w.heap.size) (.deferred O) om I rfl;have m:=a.cell S;have o:=a.cell U;have q:=a.cell W;exact⟨_,by simp[results,results29,go_sem,m,o,q],a.below R (zh _)<|zh _,kac ⟨p,y.out,kac ⟨om,_,_,rfl,X.out.eL a,Y.out,A.out⟩⟩⟩
 obtain⟨_,a⟩:=Jq.1 hv;obtain⟨x,last,_,rfl⟩:=UK a;rfl
theorem Yn {rg:List _}{k}(a:k<rg.length):tI k (rg.drop k)=if 7<(rg.getD k (0,0)).2-(rg.getD k (0,0)).1 then E k else tI (k+1) (rg.drop (k+1)):=by rw[jt a,tI,zk,zg a];rfl
theorem U2 {n}(h:n<10^40):n<4294967296^5:=EZ h dc
def DA (rg:List (Int×Int)):Nat:=match tI 0 rg with|some k=>k+3|.none=>0
theorem UF (d n)(s:A_)(cap)(f)(x:Nat->Nat->Value)(b)(rg)(w)(h:w.cell? (Xd d 0 O)=E (V s n cap))(h2:w.cell? (Xd d 1 O)=E f)(q:n<=4)(g:0<n->s=E (Xd b 0 O))(r:rg.length=n)
 (m:∀i j,i<n->j<6->w.cell? ⟨b,i*6+j,O⟩=E (x i j)) (R:∀k t,k<n->t<3->∃b a l c,x k (2*t)=G b/\x k (2*t+1)=V a l c) (o:∀k,k<n->zy w (ag #[x k 2,x k 3]) (rg.getD k (0,0)).1/\zy w (ag #[x k 4,x k 5]) (rg.getD k (0,0)).2/\(rg.getD k (0,0)).1.natAbs<10^40/\(rg.getD k (0,0)).2.natAbs<10^40):
 C_ 30 #[p_ d 0] w λe w'=>e=Xa (i_ (DA rg))/\b_ w w':=by
 have q:((w.alloc<|cl #[i_ 0] 3).alloc<|cl #[i_ 2] 3).cell? _=E _:=((zn.alloc 0 w _).trans<|zn.alloc 0 _ _).cell h;have q:((w.alloc<|cl #[i_ 0] 3).alloc<|cl #[i_ 2] 3).cell? _=E f:=((zn.alloc 0 w _).trans<|zn.alloc 0 _ _).cell h2;have I:=zf m;have K:=zf o;have L:0<n->b<w.heap.size:=λh0=>zw<|I.out 0 0 h0 om;obtain⟨d,z,_,D⟩:=Lx w (cl #[i_ 0] 3) (cl #[i_ 2] 3) (cl #[V s n cap,f] 62)<|cl #[V s n cap] 59;have J:=zf<|Xc d<|Xc z D;refine Q0 func30 ntmps30 (h:=?_);gi_wp2;refine(zq.2<|Oz _ _ _ _ _).mono ?_;rintro e f ⟨rfl,rfl⟩;gi_wp2;refine Fs (Px x s b n cap _ om g) rfl (qW func160 kr rfl) (λX r=>?_) (λk M A=>k<=n/\A.cell? (x_ w 0)=E (i_<|(k)+2)/\A.frozen? (x_ w 0)=false/\A.cell? (y_ w 0)=E (i_ 0)/\A.frozen? (y_ w 0)=false/\A.cell? (v_ w 0)=E (V s n cap)/\b_ w A/\Hid (tI 0 rg=tI k (rg.drop k))/\∀y,M y↔y=w.heap.size\/y=w.heap.size+1) (λc k A=>c= .ret/\A.cell? (y_ w 0)=E (i_<|(k)+3)/\b_ w A/\Hid (tI 0 rg=E k)) (λy=>y=w.heap.size\/y=w.heap.size+1) ?hI ?hIx ?hC ?h0 ?round ?done ?stop;case hI=>rintro k M A g ⟨f,h2,q,m,F,C,B,u,v⟩ o;exact⟨f,o.cell h2,(o.frozen h2).trans q,o.cell m,(o.frozen m).trans F,o.cell C,o.below B so<|zh _,u,v⟩
 case hIx=>rintro c k A g ⟨f,h2,q,m⟩ o;exact⟨f,o.cell h2,o.below q so<|zh _,m⟩
 case hC=>rintro k M A ⟨f,h2,q,m,F,C,B,u,v⟩;refine⟨⟨C,λi j g N=>(B.cell<|L om).trans<|I.out i j g N⟩,λy S=>?_⟩;have:=zw h2;grind
 case h0=>obtain⟨d,z,D⟩:=J.out;exact⟨qo _,ze _ _ _ _ _ _ z,ZK _ _ _ _ _ z,ze _ _ _ _ _ _ d,ZK _ _ _ _ _ d,ze _ _ _ _ _ _ D,(xe w _ _ _).alloc so _,g_,λ_=>Qb⟩
 case round=>rintro U k X M A r ⟨a8,h2,q,m,F,C,B,u,v⟩;(have d:k<n:=by have:=(zo.1 r).1;rwa [jJ]at this);rw[Hf d]at r;injection r with r;subst r;have a5:=K.out k d;have K:=zf<|Yn (rg:=rg) (k:=k) om;obtain⟨y0,a0,l0,c0,e0,e1⟩:=R k 0 d om;obtain⟨Y,J,T,N,z,D⟩:=R k 1 d om;obtain⟨Z,L,W,P,I,Q⟩:=R k 2 d om;simp only[Ql,jM,qt,Nat.reduceMul,Nat.reduceAdd]at e0 e1 z D I Q;rw[z,D,I,Q]at a5;rw[e0,e1,z,D,I,Q];obtain⟨a3,a4,a6,a7⟩:=a5;have a5:((rg.getD k (0,0)).2-(rg.getD k (0,0)).1).natAbs<4294967296^6:=om;obtain⟨z,hlo⟩:∃z,(rg.getD k (0,0)).1=z:=⟨_,rfl⟩;obtain⟨g,hhi⟩:∃g,(rg.getD k (0,0)).2=g:=⟨_,rfl⟩;rw[hlo,hhi]at K a5;rw[hlo]at a3 a6;rw[hhi]at a4 a7;unfold Zz;gi_wp2;refine⟨Xh<|(qf _ _).alloc (zh _) _,λD Q=>?_⟩;have d:=(zn.alloc _ A _).trans Q;have I:=λj X (r:(#[G _,V _ _ _,G Y,V J T N,G Z,V L W P])[j]? =E X)=>Q.cell<|(ze _ _ j _ _ _<|qR A _).trans r;have X:=I 2 _ rfl;have p3:=I 3 _ rfl;have p4:=I 4 _ rfl;have p5:=I 5 _ rfl;have I:w.heap.size+1<A.heap.size:=zw h2;have I:A.heap.size<D.heap.size:=zw X;have R:=d.cell h2;have q3:=(d.frozen h2).trans q;have q4:=d.cell m;have q5:=(d.frozen m).trans F;have q6:=d.cell C;have Q:=d.below B so<|zh _;obtain⟨d,hA3⟩:∃d,D.setCell (x_ w 0) (i_<|(k)+2+1)=d:=⟨_,rfl⟩;(have a9:Wr M D d:=by rw[<-hA3];exact(Xk _ _).setCell (p:=(x_ w 0)) ((v _).2<|.inr rfl) _);(have I:b_ w d:=by rw[<-hA3];exact Q.setCell (p:=(x_ w 0)) sp _);(have Q:d.cell? (x_ w 0)=E (i_<|(k:Int)+2+1):=by rw[<-hA3];exact zN _ _ _ R);(have s3:d.frozen? (x_ w 0)=false:=by rw[<-hA3];simpa using q3);(have R:d.cell? (y_ w 0)=E (i_ 0):=by rw[<-hA3,qj _ _ _ _ sp];exact q4);(have s5:d.frozen? (y_ w 0)=false:=by rw[<-hA3];simpa using q5);(have s6:d.cell? (v_ w 0)=E (V s n cap):=by rw[<-hA3,qj _ _ _ _ sp];exact q6);(have s:d.cell? (y_ A 2)=E (G Y):=by rw[<-hA3,qj _ _ _ _ so];exact X);(have s:d.cell? (y_ A 3)=E (V J T N):=by rw[<-hA3,qj _ _ _ _ so];exact p3);(have s:d.cell? (y_ A 4)=E (G Z):=by rw[<-hA3,qj _ _ _ _ so];exact p4);(have s:d.cell? (y_ A 5)=E (V L W P):=by rw[<-hA3,qj _ _ _ _ so];exact p5);have s:=a3.below I;have J:=a4.below I;have T:Hid _:=a5;gi_wp2;refine(Zq U<|zq.2<|PW d _ _ g z 5 om J s (U2 a7)<|U2 a6).mono<|eP λJ _ s L=>?_;obtain⟨_,_,_,_,rfl,_,_⟩:=s.parts;gi_wp2;refine(Zq U<|zq.2<|Ou J 7 om).mono<|eP λP _ J N=>?_;obtain⟨_,_,_,_,rfl,_,_⟩:=J.parts;gi_wp2;refine(Zq U<|zq.2<|KU P _ _ _ 7 6 om (s.below N) J T.out dc).mono<|gP λJ c ⟨P,T,_,_,U⟩=>?_;have s:=(L.trans<|N.mono L.size).trans<|U.mono<|zF L.size N.size;have U:=(s.cell<|zw Q).trans Q;have W:=(s.frozen<|zw Q).trans s3;have N:=(s.cell<|zw R).trans R;have Q:=(s.frozen<|zw R).trans s5;have R:=(s.cell<|zw s6).trans s6;have L:=I.trans<|s.mono I.size;have I:=a9.trans<|Xh s;by_cases s:7<g-z;{have D:0<c:=om;(have d:Hid (tI 0 rg=E k):=by rw[Hid,u.out,K.out,zQ s]);gi_wp2;refine⟨I.setCell ((v _).2<|.inl rfl) _,rfl,?_,L.setCell (zh _) _,d⟩;rw[zN _ _ _ N];grind};have D:¬0<c:=om;(have d:Hid (tI 0 rg=tI (k+1) (rg.drop<|k+1)):=by rw[Hid,u.out,K.out,zO s]);gi_wp2;refine⟨I,M,⟨om,?_,W,N,Q,R,L,d,v⟩,λy S=> .inl S⟩;grind
 case stop=>rintro D c k A y o ⟨rfl,f,h2,q⟩ s;have I:w.heap.size<D:=g_;have o:zn w.heap.size A _:=zn.putObj (.deferred O) om s rfl;have z:=o.cell f;have f:=o.below h2 (zh _)<|zh _;gi_wp2;refine qh s ?_;refine⟨i_<|(k)+3,by simp[results,results30,go_sem,z],?_,f⟩;rw[DA,q.out];simp
 case done=>rintro D M A y ⟨a8,h2,q,m,F,C,B,u,v⟩ s;rw[jJ]at u;have I:w.heap.size<D:=g_;(have d:Hid (DA rg=0):=by rw[Hid,DA,u.out,List.drop_eq_nil_of_le om];rfl);have q:(A.setCell (y_ w 0)<|i_ 0).heap[D]? =E (.deferred _):=(qC _ _ _ _ so).trans s;have o:zn w.heap.size _ _:=zn.putObj (.deferred O) om q rfl;have z:=o.cell<|zN A _ _ m;have f:=o.below (B.setCell (zh _) _) (zh _)<|zh _;gi_wp2;refine qh q ?_;refine⟨i_ 0,by simp[results,results30,go_sem,z],?_,f⟩;rw[d.out];rfl
 obtain⟨i,g,rfl⟩:=qP.1 r;rfl
theorem To {w}{f n}{zs}(p:kG w f zs)(d:zs.length=3*n):
 ∃x:Nat->Nat->Value,(∀i j,i<n->j<6->w.cell? ⟨f,i*6+j,O⟩=E (x i j))/\(∀k t,k<n->t<3->∃b a l c,x k (2*t)=G b/\x k (2*t+1)=V a l c)/\
  ∀k t,k<n->t<3->zy w (ag #[x k (2*t),x k (2*t+1)]) (zs.getD (3*k+t) 0):=by
 have o:∀k t,k<n->t<3->∃b a l c,w.cell? ⟨f,k*6+2*t,O⟩=E (G b)/\w.cell? ⟨f,k*6+(2*t+1),O⟩=E (V a l c)/\zy w (ag #[G b,V a l c]) (zs.getD (3*k+t) 0):=by intro k t g h;obtain⟨b,a,l,c,d,e,m,_,_⟩:=p.2 (3*k+t) om;rw[show 2*(3*k+t)=k*6+2*t by omega]at d;rw[show 2*(3*k+t)+1=k*6+(2*t+1)by omega]at e;exact⟨b,a,l,c,d,e,m⟩
 refine⟨λi j=>(w.cell? ⟨f,i*6+j,O⟩).getD .nilFunc,λi j f p=>?_,λk t g h=>?_,λk t g h=>?_⟩;{obtain⟨b,a,l,c,d,e,_⟩:=o i (j/2) f om;grind};{grind};obtain⟨b,a,l,c,d,e,m⟩:=o k t g h;simp only[d,e,qB];exact m
theorem XS (a)(p)(b c)(w)(h:DQ w a p b c)(l:p.n<=4)(m:p.rg.length=p.n)(i:∀r∈p.rg,r.1.natAbs<10^40/\r.2.natAbs<10^40):
 C_ 30 #[p_ a 0] w λe w'=>e=Xa (i_ (DA p.rg))/\b_ w w':=by obtain⟨d,f,_,_,_⟩:=h.box;rcases h.mI with ⟨b,rfl⟩|⟨o,_,rfl,_,t,j⟩;{refine UF a _ O 0 c (λ_ _=> .nilFunc) 0 _ w g_ f l (λh=>om) m (λb b b=>om) (λk b b=>om) λk b=>om};obtain⟨x,q,s,g⟩:=To t j.1;refine UF a _ _ _ c x o _ w d f l (λ_=>rfl) m q s λk b=>?_;have a:=g k 1 b om;have c:=g k 2 b om;obtain⟨b,d⟩:=j.2.2 k om;grind
theorem DQ.Ci {w}{a}{p}{b d:A_}{n c m k}(h:DQ w a p (V b n c) (V d m k)):DQ (w.alloc (cl #[V b n c,V d m k] 62)) w.heap.size p (V b n c) (V d m k):=by have i:=h.lt;have f:=h.eL<|zn.alloc 0 w<|cl #[V b n c,V d m k] 62;have a:=qR w<|cl #[V b n c,V d m k] 62;refine⟨⟨ze _ _ _ _ _ _ a,ze _ _ _ _ _ _ a,ZK _ _ _ _ _ a,ZK _ _ _ _ _ a,Jw a⟩,zE a λv b=>?_,?_,λg a=>⟨(f.lz g a).1,λe=>by have:=i g<|kac<|kac a;omega,(f.lz g a).2.2⟩,?_⟩;{simp only[zI,zY,Zp]at b;intro n e;grind};{rcases f.mI with a|⟨b,j,a,_,d,g⟩;{grind};exact kac ⟨b,j,a,λe=>by have:=i b (kac<|kai (by rw[a];rfl));omega,d,g⟩};have⟨_,_,_,_⟩:=f.rows;have⟨f,a,b,d⟩:=h.rows;refine⟨f,a,b.alloc _,λj r row l o=>?_⟩;have⟨a,f,b,g,i⟩:=d j r _ l o;have d:=b.lt;exact⟨λe=>by rcases e with e|e|e;{omega};{exact a<|kac<|kai e};exact a<|kac<|kac e,f,b.eL<|zn.alloc 0 w _,g,i.eL<|zn.alloc 0 w _⟩
theorem RY:∀(l:List (U_×Bool)) (i:Nat) (p:qF) (k:Nat),ju i p l= .error k->i<k
 |[],i,p,k,h=>by simp[ju]at h |x::r,i,p,k,h=>by rw[ju]at h;split at h;{injection h with h;omega};split at h;{injection h with h;omega};rename_i q a;have:=RY r (i+1) q k h;omega
theorem XQ {rg}{k}(h:tI 0 rg=E k):DA rg=k+3:=by unfold DA;rw[h]
theorem znU {rg}(h:tI 0 rg=O):DA rg=0:=by unfold DA;rw[h]
theorem RF (s:U_)(hs:2000<s.length)(w):
 C_ 24 #[gS ⟨s.toArray⟩] w λe w'=>e=Xa (tp #[ag #[V_,V_],i_ 4,i_ 0])/\b_ w w':=by have a:(2000:Int)<s.length:=om;have a:=qR w<|cl #[V_,V_] 62;have b:=c_ 0 a;go_enter func24,ntmps24;go_wp2;exact zH (by simp[results,results24,go_sem]) rfl ⟨rfl,(qf _ _).alloc (zh _) _⟩
theorem vk (s)(hs:s.length<=2000)(w):
 C_ 24 #[gS ⟨s.toArray⟩] w λe w'=>b_ w w'/\
  (
   (∃a b,JY s= .error (a,b)/\0<a/\e=Xa (tp #[ag #[V_,V_],i_ (a),i_ (b)]))\/
   ∃p c i m,JY s= .ok p/\e=Xa (tp #[ag #[i,m],i_ 0,i_ 0])/\DQ w' c p i m/\lN (QW s).length p/\2+p.n<=(QW s).length):=by
 have c:¬(2000)<(s.length:Int):=om;have u:Hid (JY s=match ju 0 qF.none (QW s)with |.error k=> .error (5,k) |.ok p=>if (QW s).length<2+p.n then .error (5,(QW s).length+1)else match tI 0 p.rg with |some l=> .error (6,l+3) |.none=> .ok p):=by rw[Hid];unfold JY;rw[zO om];rfl
 have f:=zf λW=>zlc s hs W;have F:Hid _:=λk d=>by have:=RY (QW s) 0 qF.none k d;omega
 obtain⟨h,hLL⟩:∃h,QW s=h:=⟨_,rfl⟩;rw[hLL]at u f F⊢;have o:b_ w (w.alloc<|cl #[V_,V_] 62):=(qf _ _).alloc (zh _) _;have c:=qR w<|cl #[V_,V_] 62;obtain ⟨r,t⟩:=d_ c;have y:=ZK _ _ 0 _ _ c;have C:=ZK _ _ 1 _ _ c;go_enter func24,ntmps24;go_wp2_with fail;refine(f.out _).mono ?_;rintro e f ⟨c,x⟩;have q:=c.size;simp only[zL]at q;have z:=(c.cell (p:=(y_ w 0)) sp).trans r;have A:=(c.cell (p:=(y_ w 1)) sp).trans t;have M:=(c.frozen (p:=(y_ w 0)) sp).trans y;have N:=(c.frozen (p:=(y_ w 1)) sp).trans C;have y:=o.trans<|c.mono sp;have t:=(zn.alloc 0 f<|cl #[V_,V_] 62).cell z;have C:=(zn.alloc 0 f<|cl #[V_,V_] 62).cell A;have R:=((zn.alloc 0 f<|cl #[V_,V_] 62).frozen z).trans M;have S:=((zn.alloc 0 f<|cl #[V_,V_] 62).frozen A).trans N;have o:((f.alloc<|cl #[V_,V_] 62).setCell (y_ w 0)<|V_).cell? (y_ w 1)=E (V_):=by rw[zA _ _ _ _ sp];exact C
 have q:(((f.alloc _).setCell _ _).setCell _ _).cell? _=E (V_):=zN _ _ _ o;have r:(((f.alloc<|cl #[V_,V_] 62).setCell (y_ w 0)<|V_).setCell (y_ w 1)<|V_).cell? (y_ w 0)=E (V_):=by rw[zA _ _ _ _ sp];exact zN _ _ _ t
 have c:b_ w (((f.alloc<|cl #[V_,V_] 62).setCell _<|V_).setCell _<|V_):=((y.alloc y.size _).setCell (p:=(y_ w 0)) (zh _) _).setCell (p:=(y_ w 1)) (zh _) _;rcases x with ⟨k,d,rfl⟩|⟨p,L,⟨I,rfl⟩|⟨P,i,m,rfl,D,x,J⟩⟩;{have m:=F.out k d;have K:¬(k:Int)=0:=om;have m:Hid (JY s= .error (5,k)):=g_;go_wp2;exact zH (by simp[results,results24,go_sem,q,r]) rfl ⟨c,kai ⟨5,k,m.out,om,rfl⟩⟩};{have K:¬((h.length:Int)+1)=0:=om;have m:Hid (JY s= .error (5,h.length+1)):=g_;go_wp2;exact zH (v:=tp #[ag #[V_,V_],i_ 5,i_<|(h.length)+1]) (by simp[results,results24,go_sem,q,r]) rfl ⟨c,kai ⟨5,_,m.out,om,sp⟩⟩};(obtain⟨c,d,hvC⟩:∃c d,i=V c p.n d:=by rcases D.mI with ⟨k,i⟩|⟨_,_,i,_⟩;{grind};grind);obtain⟨i,k,F⟩:=D.wS;subst hvC F;have F:0<h.length:=om;have Q:=x.n F;(have F:p.rg.length=p.n:=by have:=x.g;omega);have I:=D.Ci;have D:=zf<|XS _ p _ _ _ I Q.2 F x.bg;have F:Hid (JY s=match tI 0 p.rg with|some l=> .error (6,l+3)|.none=> .ok p):=g_;go_wp2_with fail;refine D.out.mono<|eU λh D=>?_;have u:=y.alloc y.size<|cl #[V c p.n d,V i p.rows.length k] 62;have y:=u.trans<|D.mono u.size;have u:=(zn.alloc 0 f _).trans<|zn.eX D;have t:=u.cell z;have C:=u.cell A;have R:=(u.frozen z).trans M;have S:=(u.frozen A).trans N;have u:=I.below D;have z:=u.box;obtain⟨_,_,_,_,_⟩:=z;(have z:¬Own f.heap.size (V c p.n d) (V i p.rows.length k) w.heap.size:=by intro e;rcases e with e|e|e;{omega};{have:=J _<|kac<|kai e;grind};have:=J _<|kac<|kac e;grind);cases Lt:tI 0 p.rg with |some l=>have m:Hid (JY s= .error (6,l+3)):=g_;rw[XQ Lt];have K:¬((l:Int)+3)=0:=om;(have o:(h.setCell (y_ w 0)<|V_).cell? (y_ w 1)=E (V_):=by rw[zA _ _ _ _ sp];exact C);have q:((h.setCell _ _).setCell _ _).cell? _=E (V_):=zN _ _ _ o;(have r:((h.setCell (y_ w 0)<|V_).setCell (y_ w 1)<|V_).cell? (y_ w 0)=E (V_):=by rw[zA _ _ _ _ sp];exact zN _ _ _ t);go_wp2;exact zH (v:=tp #[ag #[V_,V_],i_ 6,i_<|(l)+3]) (by simp[results,results24,go_sem,q,r]) rfl ⟨(y.setCell (zh _) _).setCell (zh _) _,kai ⟨6,_,m.out,om,sp⟩⟩ |none=>have m:Hid (JY s= .ok p):=g_;rw[znU Lt];have l:(h.setCell _ _).cell? _=E (V c p.n d):=zN _ _ _ t;(have o:(h.setCell (y_ w 0)<|V c p.n d).cell? (y_ w 1)=E (V_):=by rw[zA _ _ _ _ sp];exact C);have q:((h.setCell _ _).setCell _ _).cell? _=E (V i p.rows.length k):=zN _ _ _ o;(have r:((h.setCell (y_ w 0)<|V c p.n d).setCell (y_ w 1)<|V i p.rows.length k).cell? (y_ w 0)=E (V c p.n d):=by rw[zA _ _ _ _ sp];exact l);have h:=zf<|(u.eZ z t sp sp t sp).eZ (v:=V i p.rows.length k) z o sp sp l sp;have l:=zf x;go_wp2;exact zH (by simp[results,results24,go_sem,q,r]) rfl ⟨(y.setCell (zh _) _).setCell (zh _) _,kac ⟨p,_,_,_,m.out,rfl,h.out,l.out,om⟩⟩
namespace T
theorem zo2 (z):kae z=jL z 1:=by rw[jL,zQ rfl]
theorem CX (zs)(h:∀z∈zs,z.natAbs<10^40)(a:zs.length<=4):(ByteArray.mk (QF zs).toArray).size<=600:=by
 rw[xJ];have c:∀zs:L_,(∀z∈zs,z.natAbs<10^40)->(QF zs).length<=zs.length*100:=by intro zs;induction zs with |nil=>intro _;simp[QF] |cons z zs b=>intro h;have a:=b λy b=>h y g_;have b:=WE (q:=1) (K:=11) (EZ (h z sp) dc) dc;rw[<-zo2]at b;unfold QF at a⊢;grind
 grind
def lY (p:qF):U_:=vo++32::kae (p.n) ++ [10]++(vi++QF p.mx ++ [10])
theorem iO (n:Nat):kae (n)=kad n:=by unfold kae;rw[zO om];simp
theorem uz (p):(⟨#[118,97,114,115,32]⟩:ByteArray)++⟨(kad p.n).toArray⟩++⟨#[10,109,97,120]⟩++⟨(QF p.mx).toArray⟩++⟨#[10]⟩=⟨(lY p).toArray⟩:=by have a:(_:ByteArray)=⟨([118,97,114,115,32]).toArray⟩:=rfl;have b:(_:ByteArray)=⟨([10,109,97,120]).toArray⟩:=rfl;have c:(⟨_⟩:ByteArray)=⟨([10]).toArray⟩:=rfl;rw[a,b,c,JW,JW,JW,JW];unfold lY;rw[iO];simp[vo,vi]
