import Derived.Test.YtikmppijocpamaaGreatDoorSls1Z13
import Derived.Test.YtikmppijocpamaaGreatDoorSls1Z6
open Option renaming none->O,some->E
open Go.Value renaming slice->V,bool->G,string->gS,pointer->pn,int->it,agg->ag
open Go.Obj renaming cells->cl
open Go renaming World->H
open Go.Proofs.Tryz renaming prog->pg
open Go.Proofs.Tryz
open Go.Ending renaming returned->Xa
open Go.IntKind renaming i64->Xb
open Go.Addr renaming mk->Xd
set_option linter.unusedSimpArgs false
set_option linter.unusedVariables false
set_option maxHeartbeats 4000000
set_option maxRecDepth 100000
open Go.Value renaming ownBlock->kab
open List renaming length->Y,toArray->BY
open Go.World renaming alloc->AI,setCell->AS,cell?->AT,heap->IT
open Array renaming size->IS
open Go.Value renaming ownBlock->No
open Int renaming natAbs->By
namespace Go.Proofs.YtikmppijocpamaaGreatDoor
open Go.RowKit
attribute [local go_sem] zD zW qJ
section
variable {gs:List (L_)}{hi lo mx rs ss x y:L_}
def Al (w:H)(v:Value)(gs:List (L_)):Prop:=
 ∃ao cap,v=V ao (Y gs) cap/\(0<Y gs->∃g off,ao=E (Xd g off O)/\g<IS (IT w)/\∀i zs,gs[i]? =E zs->∃a l c,AT w ⟨g,off+i,O⟩=E (V a l c)/\Jf w (V a l c) zs)
theorem Al.ext{w w'}{v}(h:Al w v gs)(hb:Ext w w'):Al w' v gs:=by obtain⟨a,b,rfl,c⟩:=h;refine⟨a,b,rfl,λa=>?_⟩;obtain⟨g,off,rfl,d,b⟩:=c a;refine⟨g,_,rfl,zK d hb.size,λi g f=>?_⟩;have⟨a,l,c,d,e⟩:=b i g f;exact⟨a,l,c,hb.cell d,e.ext hb⟩
structure SG (w:H)(vM vL vH vG vS vR:Value)(mx lo hi:L_)(gs:List (L_))(ss rs:L_):Prop where
 m:Jf w vM mx
 l:Jf w vL lo
 h:Jf w vH hi
 g:Al w vG gs
 s:Jf w vS ss
 r:Jf w vR rs
theorem SG.ext{w w'}{d c b a f e}(h:SG w d c b a f e mx lo hi gs ss rs)(hb:Ext w w'):SG w' d c b a f e mx lo hi gs ss rs:=⟨h.m.ext hb,h.l.ext hb,h.h.ext hb,h.g.ext hb,h.s.ext hb,h.r.ext hb⟩
structure Nc (mx lo hi:L_)(gs:List (L_))(ss rs:L_):Prop where
 n1:1<=Y mx
 n3:Y mx<=3
 ll:Y lo=Y mx
 lh:Y hi=Y mx
 k:Y gs<=3
 ls:Y ss=Y gs
 lr:Y rs=Y gs
 b6:∀z∈mx,By z<=6
 bl:∀z∈lo,By z<=99
 bh:∀z∈hi,By z<=99
 w:∀r∈lo.zip hi,-1<=r.2-r.1/\r.2-r.1<=5
 bg:∀g∈gs,Y g=Y mx/\∀z∈g,By z<=99
 bs:∀k∈ss,0<=k/\k<=2
 br:∀z∈rs,By z<=99
structure Hf (mx lo hi:L_)(gs:List (L_))(ss rs:L_):Prop where
 n1:1<=Y mx
 n3:Y mx<=3
 ll:Y lo=Y mx
 lh:Y hi=Y mx
 k:Y gs<=3
 ls:Y ss=Y gs
 lr:Y rs=Y gs
 b6:∀z∈mx,By z<=6
 w:∀r∈lo.zip hi,-1<=r.2-r.1/\r.2-r.1<=5
 bg:∀g∈gs,Y g=Y mx
 bs:∀k∈ss,0<=k/\k<=2
theorem Nc.shape(h:Nc mx lo hi gs ss rs):Hf mx lo hi gs ss rs:=⟨h.n1,h.n3,h.ll,h.lh,h.k,h.ls,h.lr,h.b6,h.w,λg a=>(h.bg g a).1,h.bs⟩
theorem Nc.bm{mx}(h:Nc mx lo hi gs ss rs):∀z∈mx,By z<=99:=λz a=>zF (h.b6 z a) dc
open V4
def Es (mx x y:L_):Prop:=T.eT mx y<T.eT mx x\/(T.eT mx x=T.eT mx y/\DG mx x y=true)
theorem Nq(h:Y mx=Y x)(a:Y x<=4){i}(hi:i<4):rk mx (fm x) (i+1)=if mx.getD i 0<=0 then -x.getD i 0 else x.getD i 0:=by rw[<-DW h a _ om];have e:(qT _ x).getD (i+1) 0=(List.zipWith _ mx x).getD i 0:=rfl;grind
theorem jV{l:L_}{i}{x}(h:l[i]? =E x):l.getD i 0=x:=by rw[zk,h];rfl
theorem UB(f:Y x=Y mx)(g:Y y=Y mx)(a:Y mx<=4):Es mx x y↔JK (λi=>rk mx (fm x) i-rk mx (fm y) i):=by
 have a:∀z,Y z=Y mx->rk _ (fm z) 0=T.eT _ z:=λz h=>(QD h.symm om).symm;have u:∀i,i<4->rk _ _ (i+1)-rk _ (fm y) (i+1)=if mx.getD i 0<=0 then y.getD i 0-x.getD i 0 else x.getD i 0-y.getD i 0:=λi hi=>by rw[Nq f.symm om hi,Nq g.symm om hi];omega
 have same:∀i,i<4->rk _ _ (i+1)-rk _ _ (i+1)=0->x.getD i 0=y.getD i 0:=λi hi b=>by rw[u i hi]at b;split at b<;>omega
 have out:∀i (z:L_),Y z=Y mx->¬i<Y mx->z.getD i 0=0:=λi z h hi=>g_;constructor;{rintro(b|⟨b,v⟩);{exact⟨0,om,λi hi=>om,g_⟩};by_cases A:∃i,i<Y mx/\x.getD i 0≠y.getD i 0;{obtain⟨i,hi,z,hmin⟩:∃i,i<Y mx/\x.getD i 0≠y.getD i 0/\∀j,j<i->x.getD j 0=y.getD j 0:=g_;have o:=zg hi;have p:=zg (show i<Y x by omega);have q:=zg (show i<Y y by omega);have w:=jV o;have s:=jV p;have t:=jV q;rw[Oq (λj l c b d r=>g_) o p q om]at v;refine⟨i+1,om,λj b=>?_,?_⟩<;>dsimp only;{cases j with |zero=>grind |succ j=>grind};grind};rw[TF λj l c d r=>g_]at v;cases v};rintro⟨k,_,h,hp⟩;dsimp only at h hp;cases k with |zero=>rw[a x f,a y g]at hp;exact .inl om |succ i=>have v:=h 0 om;rw[a x f,a y g]at v;refine .inr ⟨om,?_⟩;rw[u i om]at hp;(have hi:=RD λe=>by rw[out i x f e,out i y g e]at hp;split at hp<;>omega);have o:=zg hi;have p:=zg (show i<Y x by omega);have q:=zg (show i<Y y by omega);have w:=jV o;have s:=jV p;have t:=jV q;rw[w,s,t]at hp;(have z:x[i]≠y[i]:=λe=>by omega);rw[Oq (λj l c b d r=>g_) o p q z];grind
theorem Of(b:Y x=Y mx)(c:Y y=Y mx)(a:Y mx<=4):¬Es mx x y↔qz (λi=>rk mx (fm y) i-rk mx (fm x) i):=by rw[UB b c a];constructor;{intro h;rcases RZ (λi=>rk mx (fm x) i-rk mx (fm y) i)with a|a;{exact absurd a h};exact a.congr λi _=>om};intro h a;exact a.not_neg (h.congr λi _=>om)
theorem VN(a:Y x=Y mx)(b:Y mx<=4):¬Es mx x x:=(Of a a b).2 (.inl λ_ _=>Int.sub_self _)
theorem XR{z:L_}(b:Y x=Y mx)(c:Y y=Y mx)(d:Y z=Y mx)(a:Y mx<=4)(h1:Es mx x y)(h2:¬Es mx z y):¬Es mx z x:=by rw[Of d b a];rw[Of d c a]at h2;rw[UB b c a]at h1;exact(JK.comb h1 h2 (p:=1) (q:=1) (r:=1) om om om λi _=>om).n
def Kc (lo hi:L_)(gs:List (L_))(ss rs x:L_):Prop:=
 (∀(i:Nat) z l h,x[i]? =E z->lo[i]? =E l->hi[i]? =E h->l<=z/\z<=h)/\∀(k:Nat) g s r,gs[k]? =E g->ss[k]? =E s->rs[k]? =E r->(s≠1->T.eT g x<=r)/\(s≠0->r<=T.eT g x)
def zi:L_->Nat->L_
 |[],_=> []
 |l::ls,k=>(l+((k%8:Nat):Int))::zi ls (k/8)
theorem Kx:∀(lo:L_) (k:Nat),Y (zi lo k)=Y lo
 |[],_=>rfl |l::ls,k=>by rw[zi,qi,qi,Kx ls]
def BN (mx lo hi:L_)(gs:List (L_))(ss rs:L_)(k:Nat):Option (L_)->Prop
 |none=>∀j,j<k->¬Kc lo hi gs ss rs (zi lo j)
 |some y=>Kc lo hi gs ss rs y/\(∃j,y=zi lo j)/\∀j,j<k->Kc lo hi gs ss rs (zi lo j)->¬Es mx (zi lo j) y
section
variable {mx lo hi:L_} {gs:List (L_)} {ss rs:L_} {k:Nat}
theorem BN.skip {b}(h:BN mx lo hi gs ss rs k b)(hm:¬Kc lo hi gs ss rs (zi lo k)):BN mx lo hi gs ss rs (k+1) b:=by cases b with |none=>intro j a;by_cases e:j=k;{grind};exact h j om |some y=>refine⟨h.1,h.2.1,λj a a=>?_⟩;by_cases e:j=k;{grind};exact h.2.2 j om a
theorem BN.first (b:Y lo=Y mx)(a:Y mx<=4)(h:BN mx lo hi gs ss rs k O)(hm:Kc lo hi gs ss rs (zi lo k)):BN mx lo hi gs ss rs (k+1) (E (zi lo k)):=by refine⟨hm,⟨k,rfl⟩,λj c c=>?_⟩;by_cases e:j=k;{rw[e];exact VN (by rw[Kx,b]) a};exact absurd c (h j om)
theorem BN.take {y:L_}(a:Y lo=Y mx)(b:Y mx<=4)(h:BN mx lo hi gs ss rs k (E y))(hm:Kc lo hi gs ss rs (zi lo k))(hb:Es mx (zi lo k) y):BN mx lo hi gs ss rs (k+1) (E (zi lo k)):=by have⟨_,⟨_,hi⟩,c⟩:=h;refine⟨hm,⟨k,rfl⟩,λj d d=>?_⟩;by_cases e:j=k;{rw[e];exact VN (by rw[Kx,a]) b};exact XR (by rw[Kx,a]) (by rw[hi,Kx,a]) (by rw[Kx,a]) b hb (c j om d)
theorem BN.stay {y}(h:BN mx lo hi gs ss rs k (E y))(hb:¬Es mx (zi lo k) y):BN mx lo hi gs ss rs (k+1) (E y):=by refine⟨h.1,h.2.1,λj a a=>?_⟩;by_cases e:j=k;{grind};exact h.2.2 j om a
end
theorem zir {n i}{x}(a:n<=4)(hi:i<n)(b:Y x=n):T.eT (T.fe n i) x=x.getD i 0:=by rw[QD (by rw[QS,b]) om,Ft a hi];have⟨a,b,c,d⟩:=D9<|fm x;rcases uq (show i<4 by omega)with rfl|rfl|rfl|rfl;{exact a};{exact b};{exact c};exact d
theorem Vl:∀(g x:L_),T.eT (g.map λz=>-z) x=-T.eT g x
 |[],_=>by simp[T.eT] |_::_,[]=>by simp[T.eT] |a::g,b::x=>by have c:=Vl g x;simp only[T.eT,Zk,List.zipWith_cons_cons,QI]at c⊢;rw[c,Int.neg_mul];omega
end
section
variable {K:Nat}{l:Zy}
theorem zna{U:Nat->Prop}{w w1 A:H}(a:Ext w w1)(h:Wr U w1 A)(c:∀b,U b->IS (IT w)<=b):Ext w A:=Qg a (h.J a.size c)
theorem US:(Tryz.prog.info? 9).map (λi=>(i.zero,i.size,i.bytes))=E (E (gS ⟨#[]⟩),1,16):=kr
def wg (s:ByteArray):List Value:= [gS s]
def Jj (wd:U_)(l:Zy):U_:=Lib.join (wd::l.parts.map (pS l.over)) [32] ++ [10]
theorem zn1(bk o c)(xs:List _)(w)(oZ:∀j x,xs[j]? =E x->AT w ⟨bk,o+j,O⟩=E (gS x))(Df:bk<IS (IT w))(hN:Y xs<=2000)(oJ:Y xs<=c)(hlen:Y (Lib.join (xs.map (λx=>x.data.toList)) [32])<=100000000000):
 C_ 89 #[V (E (Xd bk o O)) (Y xs) c] w λe w'=>e=Xa (gS ⟨BY (Lib.join (xs.map (λx:ByteArray=>x.data.toList)) [32] ++ [10])⟩)/\b_ w w':=by have HJ:=zf<|Tryz.strings_Join _ o c _ ⟨#[32]⟩ w oZ Df om oJ g_;obtain⟨J,hJ⟩:∃J,Lib.join (xs.map λx=>x.data.toList) [32]=J:=⟨_,rfl⟩;have HJ2:Hid (C_ 139 #[V (E<|Xd bk o O) (Y xs) c,gS ⟨#[32]⟩] w λe w'=>e=Xa (gS ⟨BY J⟩)/\b_ w w'):=g_;rw[hJ]at hlen⊢;clear HJ hJ oZ;have e1:=JW J [10];have E1:=zf e1;have hsz:(ByteArray.mk (BY J)).size<=100000000000:=am;clear e1;generalize ByteArray.mk (BY J)=jb at *;go_enter func89,ntmps89;go_wp2_with fail;refine HJ2.out.mono<|eV λw1 hb1=>?_;go_wp2;go_ret;exact⟨by rw[<-E1.out];rfl,hb1⟩
def NF (w1:H)(b0 g gm:Nat)(ws:List ByteArray)(k:Nat)(M:Nat->Prop)(A:H):Prop:=
 ∃v us,us=ws.take (k+1)/\lN 9 1 31 (λv=>#[v]) wg w1 b0 g gm v us M A
theorem NF.eN{w1 A B}{a g b}{c}{k}{M}(h:NF w1 a g b c k M A)(d:zn w1.heap.size A B):NF w1 a g b c k M B:=by obtain⟨v,c,a,b⟩:=h;exact⟨v,c,a,b.eN d⟩
theorem TI:∀(xs:List (U_)) (b:Nat),(∀x∈xs,Y x<=b)->Y (Lib.join xs [32])<=Y xs*(b+1)
 |[],b,_=>by simp[Lib.join] |x::xs,b,h=>by rw[Lib.join_cons];have a:=h x qA;(have a:Y (Lib.joinTail [32] xs)<=Y xs*(b+1):=by unfold Lib.joinTail;induction xs with |nil=>simp |cons y a a=>have c:=h y<|qq _ qA;have:=a (λz a=>h z (by rcases zI.1 a with e|e;{rw[e];exact qA};exact qq _<|qq _ e));simp only[Zk,GC,zM,qi,QK]at this⊢;rw[Zg];omega);rw[zM,qi,Zg];omega
theorem GW.ext{t:LT}{c:List PT}{b:Nat}{W W':H}(h:GW t l c b W)(a:Ext W W'):GW t l c b W':=⟨⟨a.cell h.1.1,a.cell h.1.2⟩,h.2.1.J a,h.2.2.1.ext a,λi p q hp b=>⟨(h.2.2.2 i p q hp b).1,(h.2.2.2 i p q hp b).2.J a⟩⟩
theorem VJ{z}{over B:Nat}(b:By z<B)(ho:over<B):By (z/(Nat.gcd (By z) over:Int))<B/\over/Nat.gcd (By z) over<B:=by refine⟨?_,qu (DE _ _) ho⟩;have a:((Nat.gcd _ over):Int) ∣ z:=IM.2<|Fl _ _;rw[Int.natAbs_ediv_of_dvd a,Q9];exact qu (DE _ _) b
theorem QF{over}{q}(ho:over<4294967296^K)(d:By q.2<4294967296^K)(c:q.1<4294967296^K):Y (pS over q)<=30*K+20:=by obtain⟨a,b⟩:=VJ d ho;have d:=Tf a b;have a:=Gx c;unfold pS;grind
theorem SU(hK:K<=1000000)(w)(wd)(xM:wd.size<=100)(t)(l)(ps)(I4:Y ps=Y l.parts)(hn:Y ps<=1000)(ho:l.over≠0)(Pk:l.over<4294967296^K)(hz:∀q∈l.parts,By q.2<4294967296^K/\q.1<9223372036854775808/\q.1<4294967296^K)(bl)(hC:GW t l ps bl w)(tX:o9 w):
 C_ 318 #[gS wd,.func (.func 319) #[] #[p_ bl 0]] w λe w'=>e=Xa (gS ⟨BY (Jj wd.data.toList l)⟩)/\b_ w w':=by
 have HSQ:=zf<|zjy om t l _ I4 hn ho Pk (λq hq=>⟨(hz q hq).1,(hz q hq).2.1⟩) bl;have HLC:=zf hC;have HPS:=zf I4;have HZ:=zf hz;obtain⟨ws,hws⟩:∃ws,ws=wd::l.parts.map (vq l.over):=⟨_,rfl⟩;have HWS:=zf hws;have hwl:Y ws=Y l.parts+1:=g_;have HWL:=zf hwl;have Y6:Y l.parts<=1000:=om;obtain⟨n0,n1⟩:=Xi w (cl #[gS wd] 9)<|cl #[V (E<|y_ w 0) 1 1] 31;have hX:Ext w (AI (AI w<|cl #[gS wd] 9)<|cl #[V (E<|y_ w 0) 1 1] 31):=((Xe w).alloc _).alloc _;clear hC I4 hz hws hwl;refine Q0 Tryz.func318 Tryz.ntmps318 (h:=?_);gi_wp2;generalize World.alloc _ _=w1 at *;have hs1:=(zd.1 n1).1;have hG0:iy _ 9 1 _ (V (E<|y_ w 0) 1 1) ([wd].map wg):=iy.of n0 (zh _) rfl (zh _) (by unfold maxLen;omega) rfl rfl (by intro cs hcs;simp at hcs;rw[hcs];rfl) (by intro x hx;simp at hx;rw[hx];intro n e;grind);refine ZT HSQ.out rfl (qW Tryz.func319 rfl rfl) (λk v W=>g_) (NF w1 w.heap.size (IS (IT w)+1) w.heap.size ws) (λ_ _ _=>False) (λb=>b=IS (IT w)+1\/b=IS (IT w)) ?hI ?hIx ?hC ?h0 ?round ?done ?stop;case hI=>exact λk M A B h hk=>h.eN hk
 case hIx=>grind
 case hC=>rintro k M A ⟨v,us,h1,h2⟩;exact⟨HLC.out.ext<|qk hX h2.1 λb hb=>om,h2.lt⟩
 case h0=>(have hB0:∀b,No (V (E<|y_ w 0) 1 1)=E b->IS (IT w)=b:=λb hb=>by simpa[kab]using hb);exact⟨_,_,by rw[HWS.out];rfl,Xk _ _,n1,hG0,λb hb=>⟨g_,.inl (hB0 b hb).symm⟩,λb=>by simp[kab,eq_comm]⟩
 case round=>rintro l2 k v M A hkN ⟨d,q,hqk,rfl,hlp⟩ ⟨v,us,hus,hG⟩;have hzq:=HZ.out q<|zx hqk;obtain⟨lo1,lo2⟩:=VJ hzq.1 Pk;(have hwk:ws[k+1]? =E (vq l.over q):=by rw[HWS.out,jg,zR,hqk];rfl);have hul:Y us=k+1:=g_;(have hsn:us ++ [vq l.over q]=ws.take (k+1+1):=by rw[hus,ZB (i:=k+1),hwk];rfl);have HSN:=zf hsn;have HUL:=zf hul;have hxA:=qk hX hG.1 λb hb=>om;have hus4:Y us<=2000:=om;obtain⟨va',vc',rfl⟩:=hG.2.2.1.shape;rw[zm]at hG;have HGJ:=zf hG;obtain⟨⟨ra,rl,rc⟩,⟨fb,⟨ua,ul,uc⟩,⟨da,dl,dc⟩⟩⟩:=d;have HLP:=zf hlp;simp only[DP.val,DP.rv,T.eZ.up,T.eZ.down];clear hqk hwk hsn hus hul hlp;unfold Zz;gi_wp2;refine⟨Xh<|(Xe A).alloc _,λA2 hk2=>?_⟩;have xA2:=(zn.alloc _ A _).trans hk2;have e0:=hk2.block _ _ (zC A<|cl _ 429)<|.inr rfl;have e1:=xA2.block _ _ hG.2.1<|.inr rfl;have hs2:=hk2.size;simp only[zL]at hs2;have hsA:=hG.1.size;have G2:=hG.eN xA2;have hxA2:=qk hX (hG.1.eN xA2) λb hb=>om;have hvlt:∀b,No (V _ _ _)=E b->b<IS (IT A)/\b≠IS (IT w)+1:=λb hb=>⟨(hG.2.2.1.type b hb).1.lt,(hG.2.2.2.1 b hb).1⟩;have HKEEP:=zf (λW (hW:Wr (λb=>No (V _ _ _)=E b) _ W)=>have q0:=hW.some e0 (λe=>by have:=hvlt _ e;omega);have q1:=hW.some e1 λe=>g_;Xc (ze _ _ 0 _ _ _ q1) (Xc (ze _ _ 0 _ _ _ q0)<|Xc (ze _ _ 1 _ _ _ q0)<|Xc (ze _ _ 2 _ _ _ q0)<|ze _ _ 3 _ _ _ q0));have HFZ:=zf (λW (hW:Wr (λb=>No (V _ _ _)=E b) _ W)=>(Xf (hW.some e1 λe=>by have:=hvlt _ e;omega):W.frozen? (x_ w 0)=false));have HSTR:=zf λW (hx:Ext _ W)=>YF K hK W ⟨_,⟨_,_,_⟩⟩ _ _ _ ((HLP.out.1.eN xA2).J hx) ((HLP.out.2.eN xA2).J hx) hzq.2.2 lo1 lo2<|(tX.J hxA2).J hx;have HMO:=zf λ(A4 A8) (g8 iE) hx4 own grow at8 iR=>HGJ.out.more (A4:=A4) (A5:=A8) (g5:=g8) (ke:=iE) (j:=0) (u:=vq l.over q) xA2 hx4 om own rfl grow at8 iR rfl;simp only[DP.val,DP.rv,T.eZ.up,T.eZ.down]at HSTR;clear e0 e1 hG;refine ZW ?_;refine F3 5 (S:=λW=>AT W (x_ w 0)=E (V _ _ _)/\AT W (y_ A 0)=E (V _ _ _)/\AT W (y_ A 1)=E (G _)/\AT W (y_ A 2)=E (V _ _ _)/\AT W (y_ A 3)=E (V _ _ _)) hm g_ (λ⟨a,w,h⟩=>h) (HKEEP.out A2<|Xk _ _) (h:=λhHeld=>?_);refine lM 0 ?_;refine lM 1 ?_;refine iq 2 (HSTR.out _ (Xe _).drew)<|eV λA6 hb6=>?_;have x6:=ZG hb6;obtain⟨pb,hpb⟩:∃pb,vq l.over q=pb:=⟨_,rfl⟩;have HPB:=zf hpb;have e6:(ByteArray.mk (BY (Lib.decDigits _++(58::jL _ _))))=pb:=hpb;rw[e6];rw[hpb]at HMO HSN;clear hpb e6;have x7:Ext _ (A6.alloc<|cl #[gS pb] 9):=x6.alloc _;refine bk (HKEEP.out _<|Xh x6) λhHeld=>?_;refine fZ 3 λK hK=>?_;go_simp;refine hK.out _ _ (HKEEP.out _<|Xh x7) (h:=λhHeld=>?_);clear hK K;refine fZ 4 λK hK=>?_;refine Ek US Tryz.underlying31 (G2.2.2.1.ext x7) (by have h1:=x7.size;simp at h1;omega) ?_;intro g8 iE A8 own8 grow8 at8 lt8 dig8;have x8:=(Xh x7).trans<|Qh grow8 λg hg=>hg;have HF:=zf (HMO.out _ _ _ _ (Xh x7) own8 grow8 (at8.imp id λe=>by simp_all) dig8);have s8:=(HKEEP.out _ x8).1;clear own8 grow8 at8 lt8 dig8;refine hK.out _ _ (HKEEP.out _ x8) (h:=λhHeld=>?_);clear hK K;have f8:=HFZ.out _ x8;refine zV rfl (uJ (h:=?_)) _;go_simp;obtain⟨m1,M',m2,m3⟩:=HF.out;exact⟨(Xh x7).trans m1,_,⟨_,_,HSN.out,m2⟩,m3⟩
 case done=>rintro D M A hD ⟨v,us,hus,hG⟩ hd;(have hall:us=ws:=by rw[hus];exact zP (by rw[HWL.out];omega));rw[hall]at hG;have hxA:=qk hX hG.1 λb hb=>om;(have AG:ws.map wg≠ []:=by rw[HWS.out];simp);obtain⟨va',vc',rfl⟩:=hG.2.2.1.shape;obtain⟨g,off,hE,hg,hcell⟩:=hG.2.2.1.list.ki.at AG;subst hE;(have oJ:Y ws<=vc':=by obtain⟨_,h1|⟨g',uQ,cur,hv,_,_,hn',_⟩⟩:=hG.2.2.1.own;{grind};grind);rw[zm]at hG;(have hwb:∀x∈ws.map (λx:ByteArray=>x.data.toList),Y x<=30*K+120:=by intro x hx;obtain⟨y,hy,rfl⟩:=qP.1 hx;rw[HWS.out]at hy;rcases zI.1 hy with e|e;{rw[e];exact zF (jm js)<|zF xM om};obtain⟨q,hq,rfl⟩:=qP.1 e;have hz:=HZ.out q hq;have:=QF Pk hz.1 hz.2.2;show Y (pS _ q).toArray.toList<=_;grind);(have hjb:Y (Lib.join (ws.map λx:ByteArray=>x.data.toList) [32])<=100000000000:=by have hb:=TI _ _ hwb;rw[zm,HWL.out]at hb;exact zF hb<|zF (Z7 (show Y l.parts+1<=1001 by omega)<|show 30*K+120+1<=30000121 by omega)<|by omega);(have hjc:∀(j:Nat) x,ws[j]? =E x->AT A ⟨g,off+j,O⟩=E (gS x):=by intro j x hx;have:=hcell j (wg x) (by grind) 0 (gS x) rfl;simpa using this);have HJN:=zf<|zn1 g _ _ _ A hjc hg g_ oJ hjb;(have HTX:Hid (Lib.join (ws.map λx:ByteArray=>x.data.toList) [32] ++ [10]=Jj wd.data.toList l):=by rw[Hid,HWS.out];unfold Jj;rw[Zk,wJ];rfl);rw[HTX.out]at HJN;have c0:=ze _ _ 0 _ _ _ hG.2.1;have HXA:=zf hxA;have hDb:=hD;clear hG hcell hus hall AG;gi_wp2;refine(zq.2 HJN.out).mono<|eV λB hbB=>?_;have hdB:=((Xg hbB).block _ (zd.1 hd).1).trans hd;have HBB:=zf<|HXA.out.trans<|Xg hbB;clear hbB;gi_wp2;refine qh hdB ?_;have hkD:=zn.putObj (B:=IS (IT w)) (.deferred O) om hdB rfl;exact⟨_,by simp[results,Tryz.results318,go_sem],rfl,hkD.J HBB.out (zh _)<|zh _⟩
 grind
def rY:U_:= [99,117,116]
def oS:U_:= [101,110,100]
def pQ (K:Nat)(l:Zy):Prop:=l.over≠0/\l.over<4294967296^K/\Y l.parts<=1000/\∀q∈l.parts,By q.2<4294967296^K/\q.1<9223372036854775808/\q.1<4294967296^K
def nx (ls:List Zy)(l:Zy):U_:=ls.flatMap (Jj rY)++Jj oS l
theorem KS(g:K<=200000){wd}(i:Y wd<=100)(h:pQ K l):Y (Jj wd l)<=6006121122:=by obtain⟨_,d,_,a⟩:=h;have b:=TI (wd::l.parts.map (pS l.over)) (30*K+120) (λx f=>by rcases zI.1 f with e|e;{grind};obtain⟨q,c,rfl⟩:=qP.1 e;have:=QF d (a q c).1 (a q c).2.2;omega);rw[qi,zm]at b;unfold Jj;rw[zM,qi,QK];have:=zF b (Z7 (show Y l.parts+1<=1001 by omega)<|show 30*K+120+1<=6000121 by omega);omega
theorem MY(a:K<=200000):∀(ls:List Zy),(∀l∈ls,pQ K l)->Y (ls.flatMap (Jj rY))<=Y ls*6006121122
 |[],_=>sp |l::ls,h=>by have h1:=MY a ls (λx b=>h x<|qq _ b);have b:=KS a (show Y rY<=100 by decide)<|h l qA;rw[Qo,zM,qi,Zg];omega
theorem pQ.parts(h:pQ K l):Y l.parts<=1000:=h.2.2.1
section
variable {K:Nat}
theorem zn2 (f:K<=1000000)(w)(t)(l)(b)(g:Y b=Y l.parts)(h:pQ K l)(a)(c:GW t l b a w)(i:o9 w):C_ 257 #[.func (.func 319) #[] #[p_ a 0]] w λe w'=>e=Xa (gS ⟨BY (Jj rY l)⟩)/\b_ w w':=by have d:=zf (SU f w ⟨#[99,117,116]⟩ dc t l b g (by have:=h.parts;omega) h.1 h.2.1 h.2.2.2 a c i);clear c;go_enter func257,ntmps257;go_wp2_with fail;refine d.out.mono<|eV λa a=>?_;go_wp2;go_ret;exact⟨rfl,a⟩
theorem zn3 (f:K<=1000000)(w)(t)(l)(b)(g:Y b=Y l.parts)(h:pQ K l)(a)(c:GW t l b a w)(i:o9 w):C_ 259 #[.func (.func 319) #[] #[p_ a 0]] w λe w'=>e=Xa (gS ⟨BY (Jj oS l)⟩)/\b_ w w':=by have d:=zf (SU f w ⟨#[101,110,100]⟩ dc t l b g (by have:=h.parts;omega) h.1 h.2.1 h.2.2.2 a c i);clear c;go_enter func259,ntmps259;go_wp2_with fail;refine d.out.mono<|eV λa a=>?_;go_wp2;go_ret;exact⟨rfl,a⟩
end
variable {A w1:H}{M:Nat->Prop}{a:Nat}{mI:U_}
def DJ (w1:H)(b0 tb:Nat)(mI:U_)(M:Nat->Prop)(A:H):Prop:=
 ∃v,Wr (λb=>b=tb) w1 A/\Bd b0 tb mI v A/\(∀b,No v=E b->IS (IT w1)<=b)/\∀b,M b↔b=tb\/No v=E b
theorem DJ.eN{B}{c}(h:DJ w1 a c mI M A)(b:zn w1.heap.size A B):DJ w1 a c mI M B:=by obtain⟨v,a,c,d,e⟩:=h;exact⟨v,a.eN b,c.eN b,d,e⟩
theorem DJ.lt{c}(h:DJ w1 a c mI M A):∀b,M b->b<IS (IT A):=by obtain⟨_,_,a,_,c⟩:=h;intro b d;rcases(c b).1 d with rfl|e;{exact a.lt.1};exact(a.lt.2 b e).2
theorem DJ.more{A2 A4 A5}{j}{s}{v e:Value}(h1:Wr (λb=>b=a) w1 A)(l:∀b,No v=E b->IS (IT w1)<=b)(h:∀b,M b↔b=a\/No v=E b)(d:zn w1.heap.size A A2)(f:Ext A2 A4)(hb:Bd j a (mI++s) e A5)(c:Wr (λk=>k=a\/No v=E k) A4 A5)(m:∀g,No e=E g->No v=E g\/IS (IT A4)<=g):Wr M A2 A5/\∃i,DJ w1 j a (mI++s) i A5/\∀x,i x->M x\/IS (IT A2)<=x:=by have i:=(h1.eN d).size;refine⟨(Xh f).trans<|c.mono λk d=>(h k).2 d,λb=>b=a\/No e=E b,⟨e,?_,hb,λb hb=>?_,λb=>Qb⟩,λx i=>?_⟩;{have e:=h1.eN d;have d:=e.trans<|Xh f;exact⟨c.os.trans d.os,c.tape.trans d.tape,c.output.trans d.output,zF d.size c.size,λb hb a=>(c.block b (zK hb d.size) λe=>g_).trans<|d.block b hb a⟩};{have:=f.size;grind};have:=f.size;grind
end
theorem jp {B}{f}{a b c d e}(g:B.heap[f]? =E (cl #[a,b,c,d,e] 52))(a' b' c' d' h):
 (AS (AS (AS (AS (AS B (Xd f 0 O) a') (Xd f 1 O) b') (Xd f 2 O) c') (Xd f 3 O) d') (Xd f 4 O) h).heap[f]? =E (cl #[a',b',c',d',h] 52)/\Wr (λk=>k=f) B (AS (AS (AS (AS (AS B (Xd f 0 O) a') (Xd f 1 O) b') (Xd f 2 O) c') (Xd f 3 O) d') (Xd f 4 O) h)/\
 (AT B (Xd f 0 O)=E a/\AT B (Xd f 1 O)=E b/\AT B (Xd f 2 O)=E c/\AT B (Xd f 3 O)=E d/\AT B (Xd f 4 O)=E e)/\B.frozen? (Xd f 0 O)=false/\B.frozen? (Xd f 1 O)=false/\B.frozen? (Xd f 2 O)=false/\B.frozen? (Xd f 3 O)=false/\B.frozen? (Xd f 4 O)=false:=⟨Xl<|Xl<|Xl<|Xl<|Xl g,((((zv (U:=λk=>k=f) rfl _).trans<|zv (U:=λk=>k=f) rfl _).trans<|zv (U:=λk=>k=f) rfl _).trans<|zv (U:=λk=>k=f) rfl _).trans<|zv (U:=λk=>k=f) rfl _,⟨c_ 0 g,c_ 1 g,c_ 2 g,c_ 3 g,c_ 4 g⟩,Xf g,Xf g,Xf g,Xf g,Xf g⟩
theorem TG {K:Nat}(q0:K<=200000){w:H}{B gs n given:Nat}{a_:L_}{a:S_}{c:CT}{rv cv:Value}{k:fO}{aV:List ET}{rows:List qO}{bh:List NT}{ls:List Zy}{aM:List LT}(hS:kW w B gs n given a_ a c rv cv k aV rows bh ls aM)
 (b5:Y ls<=20000) (b7:∀l∈ls,pQ K l) (t:LT) (l:Zy) (hL:wu w t l) (hB:pQ K l) (aK:o9 w) (g:Int) (pa:A_) (j i:Nat) (m:ByteArray):
 C_ 169 #[p_ gs 0,ag #[i_ g,V pa j i,gS m],t.val] w λe w'=>e=Xa (ag #[i_ g,V pa j i,gS m,i_ (Y ls:Int),gS ⟨BY (nx ls l)⟩])/\b_ w w':=by
 have aH:=hS.pV;obtain⟨Q,R,aB⟩:=hS.kq.shape;rw[zm,aH]at aB;subst aB;have aZ:=(zd.1 hS.box).1;have aw:=zf hS;have ab:=zf b7;have av:=zf aH;obtain⟨⟨s,v,u⟩,⟨x,z,y⟩⟩:=t;obtain⟨aj,ps,b9,al,ak⟩:=hL;have HL:=zf<|Xc aj<|Xc b9<|Xc al ak;simp only[LT.val,LT.ov,LT.pv]at *;obtain⟨n0,be,n2,bf,aN,hX⟩:=P6 w (cl #[i_ g,V pa j i,gS m] 50) (cl #[V s v u,V x z y] 204) (cl #[i_ 0,V_,gS ⟨#[]⟩,i_ 0,gS ⟨#[]⟩] 52) (cl #[pn O,V_] 158)<|cl #[V Q (Y ls) R] 216;have aY:Ext w (AI (AI (AI (AI w<|cl #[i_ g,V pa j i,gS m] 50)<|cl #[V s v u,V x z y] 204)<|cl #[i_ 0,V_,gS ⟨#[]⟩,i_ 0,gS ⟨#[]⟩] 52)<|cl #[pn O,V_] 158):=((((Xe w).alloc _).alloc _).alloc _).alloc _;have ar:Hid (∀af,Ext w af->AT af _=E (V Q _ R)):=λaf U=>c_ 8<|(U.block _ aZ).trans hS.box;have c8:=ar.out _ aY;have bb:IS (IT (AI (AI (AI (AI w<|cl #[i_ g,V pa j i,gS m] 50)<|cl #[V s v u,V x z y] 204)<|cl #[i_ 0,V_,gS ⟨#[]⟩,i_ 0,gS ⟨#[]⟩] 52)<|cl #[pn O,V_] 158))=IS (IT w)+1+1+1+1:=sp;refine Q0 func169 ntmps169 (h:=?_);gi_wp2;refine(zq.2<|zj7 Q _ R _).mono ?_;rintro e w1 ⟨rfl,rfl⟩;rw[bb];gi_wp2;generalize (AI (AI (AI (AI (AI w<|cl #[i_ g,V pa j i,gS m] 50)<|cl #[V s v u,V x z y] 204)<|cl #[i_ 0,V_,gS ⟨#[]⟩,i_ 0,gS ⟨#[]⟩] 52)<|cl #[pn O,V_] 158)<|cl #[V Q (Y ls) R] 216)=w1 at *;have bp:=(zd.1 aN).1;have aJ:=zjf _ Q R (IS (IT w)+1+1+1+1) (by rw[av.out];omega);rw[av.out]at aJ;refine ZT aJ rfl (qW func317 kr rfl) (λk C W=>g_) (λk a2 A=>DJ w1 w.heap.size (IS (IT w)+1+1+1) ((ls.take k).flatMap<|Jj rY) a2 A) (λ_ _ _=>False) (λb=>b=IS (IT w)+1+1+1) ?hI ?hIx ?hC ?h0 ?round ?done ?stop;case hI=>exact λk a2 A B h hk=>h.eN hk
 case hIx=>grind
 case hC=>rintro k a2 A ⟨C,f,q,h3,h4⟩;have r:=qk hX f λb d=>om;have hr:=(aw.out.ext r).kq.list.ki;exact⟨⟨c_ 0<|f.some aN λe=>om,hr⟩,DJ.lt ⟨C,f,q,h3,h4⟩⟩
 case h0=>refine⟨_,Xk _ _,⟨om,⟨_,.inl rfl,bf⟩,⟨rfl,.inl ⟨rfl,rfl⟩⟩,λe=>by cases e⟩,(λb d=>by cases d),λb=>by simp[kab]⟩
 case round=>rintro l2 k C a2 A aE ⟨t,bc,rfl⟩ ⟨C,f,q,h3,h4⟩;have aG:=zg aE;have aF:=ab.out _<|zJ aE;have r:=qk hX f λb d=>om;have b6:=(aw.out.ext r).line k t _ bc aG;(have bd:(ls.take<|k+1).flatMap (Jj rY)=(ls.take k).flatMap (Jj rY)++Jj rY ls[k]:=by rw[ZB,ZX,aG];simp only[Wa,Qo,JP,ZR]);(have b3:Y ((ls.take k).flatMap<|Jj rY)<=20000*6006121122:=by have h9:=MY q0 (ls.take k) λap U=>ab.out ap<|ZY U;(have h8:Y (ls.take k)<=20000:=by rw[zX];omega);exact zF h9<|zZ _ h8);have b4:=KS q0 (show Y rY<=100 by decide) aF;generalize ls[k]=lk at *;generalize (ls.take k).flatMap (Jj rY)=tx at *;have ad:=zf bd;have HM:=zf h4;obtain⟨⟨D,I,F⟩,⟨J,M,L⟩⟩:=t;obtain⟨aj,bg,ba,al,ak⟩:=b6;simp only[LT.val,LT.ov,LT.pv]at *;have a0:=zf<|Xc aj<|Xc ba<|Xc al ak;unfold Zz;gi_wp2;refine⟨Xh<|(Xe A).alloc _,λp aC=>?_⟩;have N:=(zn.alloc _ A _).trans aC;have e0:=aC.block _ _ (zC A<|cl _ 204)<|.inr rfl;have aL:=qk hX (f.eN N) λb d=>om;obtain ⟨i0,i1⟩:=d_ e0;obtain⟨n9,o⟩:=kG p<|cl #[V D I F,V J M L] 204;have aQ:Hid (C_ _ #[.func (.func _) _ _] _ λe w'=>e=Xa _/\Below _ _ w'):=zn2 om _ ⟨(D,I,F),(J,M,L)⟩ _ _ a0.out.2.1 aF _ ⟨⟨c_ 0 n9,c_ 1 n9⟩,(a0.out.1.eN N).J o,(a0.out.2.2.1.eN N).ext o,λa5 a6 a7 hp T=>⟨(a0.out.2.2.2 a5 a6 a7 hp T).1,((a0.out.2.2.2 a5 a6 a7 hp T).2.eN N).J o⟩⟩<|(aK.J aL).J o;have bo:=q.eN N;have aW:=aL.size;have a1:=zf<|Vd ⟨(D,I,F),(J,M,L)⟩ p;simp only[LT.val,LT.ov,LT.pv]at a1;have aP:=zf<|q.eN N;refine ZW ?_;refine Qt sp (λ⟨a,w,h⟩=>h) ?_;go_wp2_with fail;refine a1.out.mono ?_;rintro e A3 ⟨rfl,rfl⟩;go_wp2_with fail;refine aQ.out.mono<|eV λZ ah=>?_;have X:=o.trans<|Xg ah;have ae:=zf<|Tl _ _ _ C (Jj rY lk) Z (aP.out.J X) om<|zF aW X.size;go_wp2_with fail;refine ae.out.mono ?_;rintro e P ⟨⟨bi,rfl⟩,v',a8,-,an,az⟩;go_wp2_with fail;have aI:=DJ.more f h3 HM.out N X a8 an az;rw[<-ad.out]at aI;obtain⟨m1,M',m2,m3⟩:=aI;exact⟨m1,_,m2,λap U=>(m3 ap U).imp id λh=>zF N.size h⟩
 case done=>rintro aq a2 A hD ⟨C,f,q,h3,h4⟩ hd;rw[Zx]at q;have r:=qk hX f λb d=>om;have b3:=zF (MY q0 _ ab.out)<|zZ _ b5;have b4:=KS q0 (show Y oS<=100 by decide) hB;have b0:=f.some n0 λe=>om;have b1:=f.some be λe=>om;have b2:=f.some n2 λe=>om;obtain ⟨i0,i1⟩:=d_ b1;have bn:=(zd.1 hd).1;obtain⟨n9,o⟩:=kG A<|cl #[V s v u,V x z y] 204;have aR:Hid (C_ _ #[.func (.func _) _ _] _ λe w'=>e=Xa _/\Below _ _ w'):=zn3 om _ ⟨(s,v,u),(x,z,y)⟩ l _ HL.out.2.1 hB _ ⟨⟨c_ 0 n9,c_ 1 n9⟩,(HL.out.1.J r).J o,(HL.out.2.2.1.ext r).ext o,λa5 a6 a7 hp T=>⟨(HL.out.2.2.2 a5 a6 a7 hp T).1,((HL.out.2.2.2 a5 a6 a7 hp T).2.J r).J o⟩⟩<|(aK.J r).J o;have a1:=zf<|Vd ⟨(s,v,u),(x,z,y)⟩ A;simp only[LT.val,LT.ov,LT.pv]at a1;have aX:=r.size;have ad:Hid (ls.flatMap (Jj _)++Jj _ l=nx _ l):=rfl;(have a9:∀b,No C=E b->b≠aq/\IS (IT w1)<=b/\b<IS (IT A):=by intro b d;refine⟨λe=>?_,h3 b d,(q.lt.2 b d).2⟩;subst e;obtain⟨_,_,b8,_⟩:=q;obtain⟨_,T|⟨_,_,_,fz,hv,_,hh,_⟩⟩:=b8;{rw[T.1]at d;cases d};rw[hv]at d;simp[kab]at d;grind);have bl:=q.lt.1;generalize ls.flatMap (Jj rY)=tx at *;have aO:=zf<|Xc b0<|Xc b2 hd;gi_wp2;refine(zq.2 a1.out).mono<|fK ?_;gi_wp2;refine(zq.2 aR.out).mono<|eV λZ ah=>?_;have X:=o.trans<|Xg ah;have ae:=zf<|Tl _ _ _ C (Jj oS l) Z (q.J X) om<|zF aX X.size;gi_wp2;refine(zq.2 ae.out).mono ?_;rintro e P ⟨⟨bi,rfl⟩,v',a8,_,an,az⟩;have a4:=(Xh X).trans an;have ao:=qk r a4 λb d=>g_;obtain⟨b0,b2,hd⟩:=aO.out;have d0:=a4.some b0 λe=>g_;have d2:=a4.some b2 λe=>g_;have dD:=a4.some hd λe=>g_;have bq:=a4.size;rw[ad.out]at a8;have aU:=zf<|Tryz.Builder_String_any_k _ _ _ _ (a8.eN<|zn.drew 0 P).is ao.size;have aa:Hid (∀W,W.heap[IS (IT w)]? =E (cl #[i_ g,V _ j i,gS m] 50)->Ext w W->(AT W (y_ w 0)=E (i_ g)/\AT W (y_ w 1)=E (V pa j i)/\AT W (y_ w 2)=E (gS m))/\AT W _=E _):=λW h U=>⟨⟨c_ 0 h,c_ 1 h,c_ 2 h⟩,ar.out W U⟩;gi_wp2;refine Jc (S:=λW=>(AT W _=E _/\AT W _=E _/\AT W _=E _)/\AT W _=E _) hm (aa.out _ d0 ao.drew) λay=>?_;refine gX [0,1,2,3,4,5] ?_;refine iq 6 aU.out<|eV λA6 ⟨_,aA,ai⟩=>?_;have x6:Ext w _:=Qg ao.drew aA;have k0:=ai _ _ d0 (λe=>g_) λc fz e=>g_;have k2:=ai _ _ d2 (λe=>g_) λc fz e=>g_;have kD:=ai _ _ dD (λe=>g_) λc fz e=>g_;have br:IS (IT P)<=IS (IT A6):=aA.size;refine bk (aa.out _ k0 x6) λay=>?_;refine lM 7 ?_;refine fZ 8 λK q0=>?_;obtain⟨p2,pw,⟨_,_,_,_,_⟩,_,_,_,_,_⟩:=jp k2 (i_ g) (V pa j i) (gS m) (i_<|Y ls)<|gS ⟨BY (nx ls l)⟩;have aT:=zf p2;have au:=zf<|pw.some kD λe=>om;have ax:=zf<|qk x6 pw λb d=>om;have aS:=zf<|pw.some k0 λe=>om;go_simp;refine q0.out _ _ (aa.out _ aS.out ax.out) (h:=λay=>?_);refine zV kr ⟨rfl,?_⟩ _;generalize (AS (AS (AS (AS (AS A6 (w_ w 0)<|i_ g) (w_ w 1)<|V pa j i) (w_ w 2)<|gS m) (w_ w 3)<|i_ (Y ls:Int)) (w_ w 4)<|gS ⟨BY (nx ls l)⟩)=bj at *;gi_wp2;refine qh au.out ?_;have aD:=zn.putObj (B:=IS (IT w)) (.deferred O) om au.out rfl;have a3:=aD.block _ _ aT.out<|.inr rfl;obtain ⟨j0,j1,j2,j3,j4⟩:=eJ a3;exact⟨_,by simp[results,results169,go_sem,j0,j1,j2,j3,j4],rfl,aD.J ax.out (zh _)<|zh _⟩
 grind
structure RF (i:Nat)(mx lo hi:L_):Prop where
 m:Y mx=i
 l:Y lo=i
 h:Y hi=i
 bm:∀z∈mx,By z<=6
 bl:∀z∈lo,By z<=99
 bh:∀z∈hi,By z<=99
 w:∀r∈lo.zip hi,-1<=r.2-r.1/\r.2-r.1<=5
theorem GV {a:Type}{P:a->Prop}{l:List a}{x:a}(h:∀z∈l,P z)(b:P x):∀z∈l ++ [x],P z:=by grind
theorem RF.more {i:Nat}{mx lo e:L_}(h:RF i mx lo e)(a b c d:Nat)(f:a<11)(hb:b<7)(g:c<6)(j:d<16):RF (i+1) (mx ++ [(a:Int)-4]) (lo ++ [(b:Int)-3]) (e ++ [(b:Int)-3+c-(d/15:Nat)]):=by refine⟨by simp[h.m],by simp[h.l],by simp[h.h],GV h.bm om,GV h.bl om,GV h.bh om,?_⟩;rw[List.zip_append<|by rw[h.l,h.h]];exact GV h.w om
structure Hj (m:Nat)(gs:List (L_))(ss rs:L_):Prop where
 s:Y ss=Y gs
 r:Y rs=Y gs
 bg:∀g∈gs,Y g=m/\∀z∈g,By z<=99
 bs:∀k∈ss,0<=k/\k<=2
 br:∀z∈rs,By z<=99
theorem Hj.more {m:Nat}{a:List (L_)}{b rs:L_}(h:Hj m a b rs){zs:L_}(c:Y zs=m)(hb:∀z∈zs,By z<=99){sg:Int}(hs:0<=sg/\sg<=2){x:Nat}(d:x<31):Hj m (a ++ [zs]) (b ++ [sg]) (rs ++ [(x:Int)-6]):=⟨by simp[h.s],by simp[h.r],GV h.bg ⟨c,hb⟩,GV h.bs hs,GV h.br om⟩
