import Derived.Test.YtikmppijocpamaaGreatDoorSls1Z7
open Option renaming none->O,some->E
open Go.Value renaming slice->V,bool->G,string->gS,pointer->pn,int->it,agg->ag,tuple->tp
open Go.Obj renaming cells->cl
open Go renaming World->H
open Go.Proofs.Tryz renaming prog->pg
open Go.Proofs.Tryz
open Go.Ending renaming returned->Xa
open Go.IntKind renaming i64->Xb
open Go.Addr renaming mk->Xd
set_option linter.unusedSimpArgs false
set_option linter.unusedVariables false
set_option maxHeartbeats 4000000
set_option maxRecDepth 100000
open List renaming replicate->kah,range->kai,zipWith->kar
open Go.World renaming setCell->kal
open Or renaming inr->R8,inl->kae
open Go.Value renaming ownBlock->kab
open List renaming length->Y,toArray->BY
open Go.World renaming alloc->AI,setCell->AS,cell?->AT,heap->IT
open Array renaming size->IS
open Go.Value renaming ownBlock->No
open Int renaming natAbs->By
namespace Go.Proofs.YtikmppijocpamaaGreatDoor
open Go.RowKit
attribute [local go_sem] zD zW qJ
namespace T
variable {A:Nat->Prop}{B a g:Nat}{S t:eZ}{v:Value}{w w' w0:H}
theorem gi.D_{a:A_}{b d:Nat}{zs:List (Int×Nat)}(h:gi w (V a b d) zs)(e:0<Y zs):b=Y zs/\∃g off,a=E (Xd g off O)/\g<IS (IT w)/\∀(i:Nat) (z:Int×Nat),zs[i]? =E z->∃t:eZ,fh w t.val z.1 z.2/\AT w ⟨g,off+i*3,O⟩=E (G t.b)/\AT w ⟨g,off+i*3+1,O⟩=E t.up/\AT w ⟨g,off+i*3+2,O⟩=E t.down:=by have⟨a,d,k,b⟩:=h;rcases b with ⟨_,rfl⟩|⟨g,off,_,b,_,f,j⟩;{grind};simp only[qp]at b;refine⟨om,g,_,b.1,f,λi z e=>?_⟩;have f:i<Y a:=g_;have b:=zg f;grind
theorem vj(z:Int)(h1:-1000000000<=z)(h2:z<=1000000000):IntKind.i64.wrap z=z:=by rw[IntKind.wrap_i64];omega
theorem iZ{ty:TypeId}(h:w.heap[g]? =E (cl #[G t.b,t.up,t.down] ty)):kX w g 0 t:=⟨c_ 0 h,c_ 1 h,c_ 2 h,fG h,fG h,fG h⟩
theorem ry{o:Nat}(h:Ext w0 w)(hg:IS (IT w0)<=g):Ext w0 (fB w g o t):=((Below.setCell h hg _).setCell hg _).setCell hg _
theorem Cl{a:H}{p:Int}{q:Nat}(x:Ext (AI w (cl #[G false,V_,V_] 60)) a)(h:fh a t.val p q):kX (fB a w.heap.size 0 t) w.heap.size 0 t/\fh (fB a w.heap.size 0 t) t.val p q:=by have b:=(x.block _ sp).trans<|zC w _;exact⟨jy t<|iZ (t:=zT) b,h.kept<|fX<|gI b dc⟩
theorem CI{W w1:H}(h:Below W.drew.heap.size W.drew w1):Ext W w1:=⟨h.os,h.tape,h.output,h.size,h.block⟩
theorem gi.len{b:A_}{d:Nat}{zs:List (Int×Nat)}(h:gi w (V b a d) zs):a=Y zs:=by have⟨_,b,_,a⟩:=h;grind
theorem uu(w:H)(b:A_)(T d:Nat)(t:eZ)(zs:List (Int×Nat))(y:gi w (V b T d) zs)(hl:Y zs<=1000)(K:Nat)(hK:K<=1000000000)(hz:∀z∈zs,z.2<10000^K):
 C_ 70 #[ag #[V b T d,G t.b,t.up,t.down]] w λe w'=>e=Xa (G (zs.all λa=>decide (a.2=1)))/\b_ w w':=by
 have⟨B,⟨I,J,L⟩,C,D,F⟩:=t;simp only[eZ.up,eZ.down];obtain rfl:=y.len;have M:Ext w (AI w<|cl #[V b (Y zs) d,G B,V I J L,V C D F] 132):=(Xe w).alloc _;have q:=c_ 0<|zC w<|cl #[V b (Y zs) d,G B,V I J L,V C D F] 132;obtain⟨all,v⟩:∃all,(zs.all λa=>decide (a.2=1))=all:=⟨_,rfl⟩;have N:=zf v;rw[v];have HV:=zf y;have HZ:=zf hz;go_enter func70,ntmps70;go_wp2_with fail;generalize H.alloc _ _=w1 at *;generalize a6:IS (IT w)=g1 at *;have a2:=zf q;go_loopw [3] (λA wr=>∃j:Nat,A=i_ (j:Nat)/\j<=Y zs/\Hid (((zs.take j).all λa=>decide (a.2=1))=true)/\Ext w1 wr) (λA _=>Y zs-(intOf A).toNat);case atStart=>exact⟨0,rfl,om,rfl,Xe _⟩
 case round=>obtain⟨j,rfl,_,a0,g⟩:=hrel;have q:=g.cell a2.out;have l:=M.trans g;by_cases i:j<Y zs;{obtain⟨_,s,u,rfl,_,Z⟩:=HV.out.D_ om;have a7:(j)<(Y zs:Int):=om;have⟨tg,a1,k0,k1,k2⟩:=Z j _<|zg i;have a5:=HZ.out _<|zJ i;(have p:Hid (((zs.take<|j+1).all λa=>decide (a.2=1))=decide (zs[j].2=1)):=by rw[Hid,ZQ i,List.all_append,a0.out];simp);(have o:Hid (zs[j].2≠1->(zs.all λa=>decide (a.2=1))=false):=by intro a4;rw[List.all_eq_false];exact⟨zs[j],zJ i,by grind⟩);have⟨P,⟨U,W,X⟩,Q,R,S⟩:=tg;have a8:AT wr ⟨s,_,O⟩=E (G P):=l.cell k0;have a9:AT wr ⟨s,_,O⟩=E (V U W X):=l.cell k1;have aa:AT wr ⟨s,_,O⟩=E (V Q R S):=l.cell k2;generalize zs[j]=z at *;have h:=zf<|sK _ (ag #[G P,V U W X,V Q R S]) _ _ (a1.J l) K a5 hK;by_cases k:z.2=1;{have a3:Hid (((zs.take<|j+1).all λa=>decide (a.2=1))=true):=g_;have f:decide (z.2=1)=true:=g_;rw[f]at h;go_wp2_with fail;refine h.out.mono<|eV λw2 x=>?_;go_wp2_with fail;go_roundw;(case rel=>exact⟨_,g_,om,a3,g.trans<|Xg x⟩);case measure=>simp[intOf];omega};(have m:Hid (all=false):=by rw[Hid,<-N.out];exact o.out k);have f:decide (z.2=1)=false:=g_;rw[f]at h;go_wp2_with fail;refine h.out.mono<|eV λw2 x=>?_;go_wp2_with fail;go_ret;exact⟨by rw[m.out];rfl,M.trans<|g.trans<|Xg x⟩};obtain rfl:j=Y zs:=om;(have m:Hid (all=true):=by have c:=a0.out;rw[Zx]at c;rw[Hid,<-N.out];exact c);go_wp2_with fail;go_ret;exact⟨by rw[m.out];rfl,M.trans g⟩
def eT (gs xs:L_):Int:=(kar (· * ·) gs xs).sum
theorem xe(a b:Int):pP (a,1) (b,1)=(a*b,1):=by unfold pP gE;simp
theorem yp(a b:Int):uA (a,1) (b,1)=(a+b,1):=by unfold uA gE;simp
theorem sU{a xs:L_}{j:Nat}(hg:j<Y a)(d:j<Y xs):eT (a.take (j+1)) (xs.take (j+1))=eT (a.take j) (xs.take j)+a[j]*xs[j]:=by unfold eT;have b:Y (a.take j)=Y (xs.take j):=g_;rw[ZQ hg,ZQ d,List.zipWith_append b,List.sum_append];simp
structure qy (w0 w:H)(gr gs:Nat)(S:eZ):Prop where
 lt:IS (IT w0)<=gr/\IS (IT w0)<=gs/\gr<IS (IT w)/\gs<IS (IT w)/\gr≠gs
 kr:¬Kind w gr
 ks:¬Kind w gs
 rs:kX w gr 0 zT
 ss:kX w gs 0 S
 low:b_ w0 w
theorem qy.ext{gr:Nat}(h:qy w0 w gr a S)(hb:Ext w w'):qy w0 w' gr a S:=by have⟨b,f,e,g,i⟩:=h.lt;have d:=hb.size;have d:=hb.block _ e;have e:=hb.block a g;exact⟨⟨b,f,om,om,i⟩,λ⟨c,a,b⟩=>h.kr ⟨c,a,d.symm.trans b⟩,λ⟨c,a,b⟩=>h.ks ⟨c,a,e.symm.trans b⟩,h.rs.same d,h.ss.same e,h.low.trans<|hb.mono h.low.size⟩
theorem qy.put{gr:Nat}(h:qy w0 w gr a S)(x:eZ):qy w0 (fB w a 0 x) gr a x:=by have⟨b,d,e,f,a⟩:=h.lt;exact⟨⟨b,d,by rw[iU];omega,by rw[iU];omega,a⟩,iX h.kr,iX h.ks,h.rs.same<|fJ a,jy x h.ss,h.low.trans<|mG.J h.low.size om⟩
theorem qy.start{w1:H}(e:Ext w w0)(b:w0.heap[IS (IT w)]? =E (cl #[G false,V_,V_] 60))(a:Ext w0 w1):qy w (AI w1 (cl #[G S.b,S.up,S.down] 60)) w.heap.size w1.heap.size S:=by have f:=(zd.1 b).1;have d:=a.size;have d:(AI w1<|cl #[G S.b,S.up,S.down] 60).heap[IS (IT w)]? =E _:=(qH _ _ _ om).trans<|(a.block _ f).trans b;have b:=zC w1<|cl #[G S.b,S.up,S.down] 60;exact⟨⟨zh _,om,so,sp,om⟩,gI d dc,gI b dc,iZ d,iZ b,e.trans<|a.alloc _⟩
theorem Bb(w:H)(i k:Value)(d f:List Int)(hg:gi w i (d.map fun z=>(z,1)))(h:gi w k (f.map fun z=>(z,1)))(g:Y d=Y f)(q:Y d<=1000)(K:Nat)(hK:K+K<100000000)(a0:1<10000^K)(l:∀z∈d,By z<10000^K)(p:∀z∈f,By z<10000^K)(bm:∀a∈d,∀b∈f,By (a*b)<10000^K)(m:∀j,By (eT (d.take j) (f.take j))<10000^K):
 Calls pg 65 #[i,k] w fun e w'=>∃t,e=Xa t/\fh w' t (eT d f) 1/\Below w.heap.size w w':=by
 obtain⟨q,s,rfl⟩:∃q s,i=V q (Y d) s:=by obtain⟨a,c,e⟩:=hg.shape;rw[zm]at e;exact⟨a,c,e⟩
 obtain⟨i,q,rfl⟩:∃i q,k=V i (Y f) q:=by obtain⟨a,c,e⟩:=h.shape;rw[zm]at e;exact⟨a,c,e⟩
 have T:=zf hg;have Z:=zf h;have C:=zf l;have n:=zf p;have U:=zf bm;have X:=zf m;have HL:=zf g;rw[<-g];clear hg h l p bm m g;have g:=zf<|fun W=>ES W;go_enter func65,ntmps65
 go_wp2_with fail
 have A:Ext w (AI w<|cl #[G false,V O 0 0,V O 0 0] 60):=(Xe w).alloc _;have u:=zC w<|cl #[G false,V O 0 0,V O 0 0] 60;generalize World.alloc _ _=h at *;refine(g.out _).mono<|eO λs t0 D x=>?_;obtain⟨g,l,p,m,h,k,i,rfl,au⟩:=D.parts;have y:=qy.start (S:=⟨g,(l,p,m),(h,k,i)⟩) A u<|Xg x;have q:=D.alloc<|cl #[G g,V l p m,V h k i] 60;clear x D u A;go_wp2_with fail
 obtain⟨u,hw2⟩:∃u,AI s (cl #[G g,V l p m,V h k i] 60)=u:=⟨_,rfl⟩;have A:qy w u w.heap.size s.heap.size ⟨g,(l,p,m),(h,k,i)⟩:=by rw[<-hw2];exact y
 rw[hw2]at q⊢;clear y hw2;generalize IS (IT s)=u at *;generalize ar:IS (IT w)=gr at *;go_loopw [6] (fun s wr=>∃(j:Nat) (S:eZ),s=it Xb (j:Nat)/\j<=Y d/\qy w wr gr u S/\fh wr S.val (eT (d.take j)<|f.take j) 1) (fun s _=>Y d-(intOf s).toNat)
 case atStart=>exact⟨0,_,rfl,om,A,q⟩
 case round=>
  clear A q;obtain⟨j,S,rfl,_,A,a7⟩:=hrel;obtain⟨F,⟨M,N,P⟩,I,J,L⟩:=S;have B:=Xg A.low;by_cases q:j<Y d
  ·have s:j<Y f:=by have:=HL.out;omega
   have y:(j:Int)<(Y d:Int):=om;obtain⟨-,Q,R,rfl,_,ap⟩:=T.out.D_ (by rw[zm];omega);obtain⟨-,S,T,rfl,_,aq⟩:=Z.out.D_ (by rw[zm];omega);obtain⟨y,a8,k0,k1,k2⟩:=ap j (d[j],1) (by rw[zR,zg q];rfl);obtain⟨Z,a9,l0,l1,l2⟩:=aq j (f[j],1) (by rw[zR,zg s];rfl);have ak:=C.out _<|zJ q;have al:=n.out _<|zJ s;have an:=U.out _ (zJ q) _<|zJ s;have ao:=X.out j;have HD:=zf<|sU q s;obtain⟨gb,⟨a4,a5,a6⟩,a1,a2,a3⟩:=y;obtain⟨xb,⟨ae,af,ah⟩,aa,ab,ad⟩:=Z;generalize d[j]=q at *;generalize f[j]=s at *;simp only at a8 a9;have C:Hid (∀W,Ext wr W->AT W ⟨Q,R+j*3,O⟩=E (G gb)/\AT W ⟨Q,R+j*3+1,O⟩=E (V a4 a5 a6)/\AT W ⟨Q,R+j*3+2,O⟩=E (V a1 a2 a3)/\AT W ⟨S,T+j*3,O⟩=E (G xb)/\AT W ⟨S,T+j*3+1,O⟩=E (V ae af ah)/\AT W ⟨S,T+j*3+2,O⟩=E (V aa ab ad)):=
    fun W y=>⟨y.cell<|B.cell k0,y.cell<|B.cell k1,y.cell<|B.cell k2,y.cell<|B.cell l0,y.cell<|B.cell l1,y.cell<|B.cell l2⟩
   have aj:Hid (∀W,Ext wr W->Calls pg 29 #[ag #[G gb,V a4 a5 a6,V a1 a2 a3],ag #[G xb,V ae af ah,V aa ab ad]] W fun e w'=>∃t,e=Xa t/\fh w' t (q*s) 1/\Below W.heap.size W w'):=by
    intro W y;have U:=tY K om W _ _ q s 1 1 (a8.J<|B.trans y) (a9.J<|B.trans y) ak al a0 a0;have n:(q*s)/(Nat.gcd (By (q*s)) (1*1):Int)=(pP (q,1) (s,1)).1:=rfl;have Z:(1*1)/Nat.gcd (By (q*s)) (1*1)=(pP (q,1) (s,1)).2:=rfl;rw[n,Z,xe]at U;exact U
   have X:=Xe wr;have ai:=zf<|Xc an ao;clear k0 k1 k2 l0 l1 l2 ap aq a8 a9 ak al an ao;go_wp2_with fail
   go_cut [7] (fun B wc=>∃y tm,B=pn (E<|Xd y 0 O)/\kX wc y 0 tm/\fh wc tm.val (q*s) 1/\IS (IT wr)<=y/\Ext wr wc)
   case first=>
    go_region_held3 (fun W=>AT W ⟨Q,R+j*3,O⟩=E (G gb)/\AT W ⟨Q,R+j*3+1,O⟩=E (V a4 a5 a6)/\AT W ⟨Q,R+j*3+2,O⟩=E (V a1 a2 a3)/\AT W ⟨S,T+j*3,O⟩=E (G xb)/\AT W ⟨S,T+j*3+1,O⟩=E (V ae af ah)/\AT W ⟨S,T+j*3+2,O⟩=E (V aa ab ad)) (first|(exact C.out _ ea)|(with_reducible exact C.out _<|XA Q _)|(with_reducible exact C.out _ (X.alloc _).drew)|(exact C.out _<|(((Below.setCell Q (zh _) _).setCell (zh _) _).setCell (zh _) _))|go_keep) (first|(go_at_call 29;refine(aj.out _<|by with_reducible first|exact X.drew|exact(X.alloc _).drew).mono<|eO λB t0 D x=>?_;obtain⟨g,l,p,m,h,k,i,rfl,au⟩:=D.parts;have S:=Xg x;have Q:Ext wr B:=(by with_reducible first|exact X.drew.trans S|exact(X.alloc _).drew.trans S);have T:=(fun(R:Addr) hp=>x.cell (p:=R) hp);have W:=(fun(R:Addr) hp=>qw (a:=R)<|x.block R.block hp);(try(have R:IS (IT wr)<IS (IT B):=(by have:=x.size;simp at this;omega)))))
    ·have R:Hid (kX (AI B<|cl #[G g,V l p m,V h k i] 60) B.heap.size 0 ⟨g,(l,p,m),(h,k,i)⟩):=iZ (t:=⟨g,(l,p,m),(h,k,i)⟩)<|zC B _;have X:=zf<|D.alloc<|cl #[G g,V l p m,V h k i] 60;have B:=zf<|Q.alloc<|cl #[G g,V l p m,V h k i] 60;have a1:=zf Q.size;clear T W x S C;go_wp2_with fail
     go_meet
     exact⟨_,⟨g,(l,p,m),(h,k,i)⟩,rfl,R.out,X.out,a1.out,B.out⟩
    ·have R:=zf<|Cl (t:=⟨g,(l,p,m),(h,k,i)⟩) (CI x) D;have B:=zf<|ry (o:=0) (t:=⟨g,(l,p,m),(h,k,i)⟩) Q<|zh _;clear T W x S C;go_wp2_with fail
     go_meet
     exact⟨_,⟨g,(l,p,m),(h,k,i)⟩,rfl,R.out.1,R.out.2,zh _,B.out⟩
   case rest=>
    obtain⟨y,tm,rfl,g,Q,_,R⟩:=hcut;have h:=A.ext R;obtain⟨i,⟨p,x,B⟩,k,l,m⟩:=tm;have D:Hid (Calls pg 27 #[ag #[G F,V M N P,V I J L],ag #[G i,V p x B,V k l m]] wc fun e w'=>∃t,e=Xa t/\fh w' t (eT (d.take<|j+1)<|f.take<|j+1) 1/\Below wc.heap.size wc w'):=by
     have U:=mN K hK wc (ag #[G F,V M N P,V I J L]) (ag #[G i,V p x B,V k l m]) (eT (d.take j)<|f.take j) (q*s) 1 1 (a7.J R) Q ai.out.2 ai.out.1 a0 a0;have n:(eT (d.take j) (f.take j)*((1:Nat):Int)+q*s*((1:Nat):Int))/(Nat.gcd (By (eT (d.take j) (f.take j)*((1:Nat):Int)+q*s*((1:Nat):Int))) (1*1):Int)=(uA (eT (d.take j)<|f.take j,1) (q*s,1)).1:=rfl;have Z:(1*1)/Nat.gcd (By (eT (d.take j) (f.take j)*((1:Nat):Int)+q*s*((1:Nat):Int))) (1*1)=(uA (eT (d.take j)<|f.take j,1) (q*s,1)).2:=rfl;rw[n,Z,yp]at U;rw[Hid,HD.out];exact U
    have R:AT wc (Xd u 0 O)=E (G F):=h.ss.1;have S:AT wc (Xd u 1 O)=E (V M N P):=h.ss.2.1;have T:AT wc (Xd u 2 O)=E (V I J L):=h.ss.2.2.1;have f:AT wc (Xd y 0 O)=E (G i):=g.1;have f:AT wc (Xd y 1 O)=E (V p x B):=g.2.1;have f:AT wc (Xd y 2 O)=E (V k l m):=g.2.2.1;clear aj C Q g HD;go_wp2_with fail
    refine D.out.mono<|eO λg _ k y=>?_;obtain⟨i,l,p,m,q,x,s,rfl,_⟩:=k.parts;have f:=h.ext<|Xg y;have h:AT g (Xd u 0 O)=E (G F):=f.ss.1;have n:AT g (Xd u 1 O)=E (V M N P):=f.ss.2.1;have Z:AT g (Xd u 2 O)=E (V I J L):=f.ss.2.2.1;have h:=f.ss.2.2.2.1;have h:g.frozen? (Xd u 1 O)=false:=f.ss.2.2.2.2.1;have h:g.frozen? (Xd u 2 O)=false:=f.ss.2.2.2.2.2;have g:=f.put ⟨i,(l,p,m),(q,x,s)⟩;have h:=k.kept<|fX (o:=0) (t:=⟨i,(l,p,m),(q,x,s)⟩) f.ks;clear y D k;go_wp2_with fail
    go_roundw
    case rel=>exact⟨j+1,⟨i,(l,p,m),(q,x,s)⟩,by go_num,om,g,h⟩
    case measure=>simp[intOf];omega
  ·obtain rfl:j=Y d:=om;rw[Zx,HL.out,Zx]at a7;have R:AT wr (Xd u 0 O)=E (G F):=A.ss.1;have S:AT wr (Xd u 1 O)=E (V M N P):=A.ss.2.1;have T:AT wr (Xd u 2 O)=E (V I J L):=A.ss.2.2.1;obtain⟨l,f,g,_,h,i⟩:=A.rs;have m:AT wr (Xd gr 1 O)=E (V O 0 0):=f;have p:AT wr (Xd gr 2 O)=E (V O 0 0):=g;have d:wr.frozen? (Xd gr 1 O)=false:=h;have d:wr.frozen? (Xd gr 2 O)=false:=i;have d:=A.low;have k:=zf<|a7.kept<|fX (o:=0) (t:=⟨F,(M,N,P),(I,J,L)⟩) A.kr;clear f g h i;go_wp2_with fail
   exact zH (v:=ag #[G F,V M N P,V I J L]) (by simp[results,results65,go_sem,l,m,p]) rfl ⟨_,rfl,k.out,by rw[ar];unfold b_ at d;rw[ar]at d;exact((d.setCell (zh _) _).setCell (zh _) _).setCell (zh _) _⟩
theorem Ce(t:eZ):∀u∈t.cells,u.oneCell'=true:=by intro u a;simp only[eZ.cells,zI,zY,Zp]at a;rcases a with rfl|rfl|rfl<;>rfl
def fk (x:L_×U_×Int):R_:=
 (if x.2.1= [62,61]then []else [(x.1,x.2.2)])++(if x.2.1= [60,61]then []else [(x.1.map λz=>-z,-x.2.2)])
def fe (n i:Nat):L_:=(kai n).map λk=>if k=i then 1 else 0
def fQ (n i:Nat)(r:Int×Int):R_:= [(fe n i,r.2),((fe n i).map λz=>-z,-r.1)]
def eY (p:qF):R_:=p.rows.flatMap fk++(kai p.n).flatMap λi=>fQ p.n i (p.rg.getD i (0,0))
def fM (A:Nat->Prop)(B:Nat)(w:H)(v:Value)(rows:R_):Prop:=
 ∃ts:List iJ,Y ts=Y rows/\w.ownsRow B 132 4 v (Y ts) (ts.map iJ.cells).flatten/\
  ∀(i:Nat) (c:iJ) (x:L_×Int),ts[i]? =E c->rows[i]? =E x->gi w c.gv (x.1.map λz=>(z,1))/\fh w c.r.val x.2 1/\(∀g,No c.gv=E g->No v≠E g/\g<IS (IT w)/\¬A g)
abbrev LB (B:Nat)(w:H)(v:Value)(rows:R_):Prop:=fM (λ_=>False) B w v rows
theorem fM.nil(A:Nat->Prop)(B:Nat)(w:H):fM A B w (V_) []:=⟨[],rfl,pE _ _ _ _,λi c x h=>by simp at h⟩
theorem fM.pJ{A':Nat->Prop}{rows:R_}(h:fM A B w v rows)(f:∀g,g<IS (IT w)->A' g->A g):fM A' B w v rows:=by have⟨e,a,d,b⟩:=h;exact⟨e,a,d,λi c x d e=>⟨(b i c x d e).1,(b i c x d e).2.1,λg j=>have a:=(b i c x d e).2.2 g j;⟨a.1,a.2.1,λh=>a.2.2<|f g a.2.1 h⟩⟩⟩
theorem fM.ext{rows:R_}(h:fM A B w v rows)(hb:Ext w w'):fM A B w' v rows:=by have⟨d,a,b,e⟩:=h;have f:=hb.size;refine⟨d,a,iQ b hb,λi c x f g=>?_⟩;have⟨b,d,a⟩:=e i c x f g;exact⟨b.J hb,d.J hb,λg b=>⟨(a g b).1,g_,(a g b).2.2⟩⟩
theorem fM.kept{rows:R_}(h:fM A B w v rows)(d:Kept w w')(hg:∀g,¬A g->w'.heap[g]? =w.heap[g]?)(f:∀g,No v=E g->¬A g):fM A B w' v rows:=by have⟨j,a,b,i⟩:=h;have e:=d.1;refine⟨j,a,kJ b e λg a=>hg g<|f g a,λl c x j k=>?_⟩;have⟨e,f,b⟩:=i l c x j k;exact⟨e.kept d λg a=>hg g (b g a).2.2,f.kept d,λg a=>⟨(b g a).1,g_,(b g a).2.2⟩⟩
theorem fM.rows{rows:R_}(h:fM A B w v rows):mZ w v rows:=by have⟨d,b,e,a⟩:=h;refine⟨d,b,λi c x b d=>⟨(a i c x b d).1,(a i c x b d).2.1⟩,k_ (by rw[zm];exact e) (by intro cs a;obtain⟨c,_,rfl⟩:=qP.1 a;rfl)⟩
theorem fM.own{rows:R_}(h:fM A B w v rows):∃xs:List Value,w.ownsRow B 132 4 v (Y rows) xs:=by have⟨_,b,a,_⟩:=h;rw[b]at a;exact⟨_,a⟩
theorem fM.lt{rows:R_}(h:fM A B w v rows):∀g,No v=E g->B<=g/\g<IS (IT w):=by have⟨_,h⟩:=h.own;exact kY h
def iM (A:Nat->Prop)(w:H)(v:Value)(c:iJ)(x:L_×Int):Prop:=
 gi w c.gv (x.1.map λz=>(z,1))/\fh w c.r.val x.2 1/\(∀g,No c.gv=E g->No v≠E g/\g<IS (IT w)/\¬A g)
theorem fM.grow{rows:R_}{ts:List iJ}{c:iJ}{x:L_×Int}{cap:Nat}(m:Y ts=Y rows)(ho:w.ownsRow B 132 4 v (Y ts) (ts.map iJ.cells).flatten)(D:∀(i:Nat) (c:iJ) (x:L_×Int),ts[i]? =E c->rows[i]? =E x->iM A w v c x)(u:iM A w v c x)(hg:w.grownBy w' (No v))(F:w'.ownsRow B 132 4 (V (E (Xd g 0 O)) (Y ts+1) cap) (Y ts+1) ((ts.map iJ.cells).flatten++c.cells))(t:No v=E g\/g=IS (IT w)):fM A B w' (V (E (Xd g 0 O)) (Y ts+1) cap) (rows ++ [x]):=by
 have I:=iK ho dc;have l:=Kept.kQ hg I;have J:=hg.size;have step:∀(c:iJ) (x:L_×Int),iM A w v c x->iM A w' (V (E<|Xd g 0 O) (Y ts+1) cap) c x:=by rintro c x ⟨o,p,b⟩;refine⟨o.kept l λd a=>hg.block d (b d a).2.1 λf=>(b d a).1 f.symm,p.kept l,λd a=>⟨λf=>?_,by grind,(b d a).2.2⟩⟩;simp[kab]at f;subst f;rcases t with k|k;{grind};grind
 refine⟨ts ++ [c],g_,?_,λi j y e h=>?_⟩;{rw[zM,ZH,Z6,Zk,Ed,<-oI];exact F};by_cases z:i<Y ts;{rw[zS z]at e;rw[zS om]at h;exact step j y<|D i j y e h};have C:i=Y ts:=g_;subst C;rw[zG<|zh _,Qn]at e;rw[zG om,m,Qn]at h;have q:=Q8 e;have s:=Q8 h;subst q s;exact step c x u
theorem iJ.one(c:iJ):∀u∈c.cells,u.oneCell'=true:=by intro u a;simp only[iJ.cells,zI,zY,Zp]at a;rcases a with rfl|rfl|rfl|rfl<;>rfl
theorem qv(w:H)(cs:List _)(t):∀j u,cs[j]? =E u->AT (AI w (cl (BY cs) t)) ((⟨IS (IT w),0,O⟩:Addr).add j)=E u:=by intro j u h;exact World.news_of_block (zC w _) j u om
theorem nN(l:List (L_×U_×Int)):Y (l.flatMap fk)<=2*Y l:=by induction l with |nil=>simp |cons x r a=>rw[Qo,zM,qi];(have:Y (fk x)<=2:=by unfold fk;split<;>split<;>simp);omega
theorem Tryz.yh:(Tryz.prog.info? 132).map (λi=>(i.zero,i.size,i.bytes))=E (E (ag #[V_,G false,V_,V_]),4,80):=by kernel_rfl
end T
section
open V4
variable {a_ x:L_}
theorem Ul{n}{l:L_}(h:Y l=n)(e:n<=4):(n=0/\l= [])\/(n=1/\∃a,l= [a])\/(n=2/\∃a b,l= [a,b])\/(n=3/\∃a b c,l= [a,b,c])\/(n=4/\∃a b c d,l= [a,b,c,d]):=by match l,h with |[],h=>grind |[a],h=>grind |[a,b],h=>grind |[a,b,c],h=>grind |[a,b,c,d],h=>grind |a::b::c::d::e::r,h=>grind
theorem JE{f:Int->Int->Int}(a:f 0 0=0){xs ys:L_}(h:Y xs=Y ys)(i):(kar f xs ys).getD i 0=f (xs.getD i 0) (ys.getD i 0):=by grind
theorem QD{g}(h:Y g=Y x)(a:Y x<=4):T.eT g x=(fm g).dot (fm x):=by rcases Ul rfl a with ⟨e,rfl⟩|⟨e,a,rfl⟩|⟨e,a,b,rfl⟩|⟨e,a,b,c,rfl⟩|⟨e,a,b,c,_,rfl⟩<;> rcases Ul (l:=g) rfl om with ⟨a,rfl⟩|⟨a,b,rfl⟩|⟨a,b,d,rfl⟩|⟨a,b,d,e,rfl⟩|⟨a,b,d,e,_,rfl⟩<;> first|omega|(simp[T.eT,fm,dot];try omega)
theorem znH{l}{i}(h:Y l<=i)(b:i<4):(QV i).dot (fm l)=0:=by have a:l.getD i 0=0:=g_;have⟨d,e,f,g⟩:=D9<|fm l;rcases uq b with rfl|rfl|rfl|rfl;{rw[d];exact a};{rw[e];exact a};{rw[f];exact a};rw[g];exact a
def ZJ (over:Nat)(x:L_)(t:Int)(y:L_)(u:Int):L_:=kar (λa b=>(a*t+b*u)/(over)) x y
theorem LG(over)(x)(t)(y)(u)(h:Y x=Y y):Y (ZJ over x t y u)=Y x:=by simp[ZJ,h]
theorem Pb{over:Nat}(ho:0<over){y}(h:Y x=Y y)(t u){z}(a:z.smul (over)=((fm x).smul t).add ((fm y).smul u)):fm (ZJ over x t y u)=z:=by
 have b:∀i d,over*d=t*x.getD i 0+u*y.getD i 0->(ZJ over x t y u).getD i 0=d:=by intro i d e;unfold ZJ;rw[JE sp h];(have:x.getD i 0*t+y.getD i 0*u=over*d:=by rw[e,Qp t,Qp u]);rw[this];exact jI _ om
 simp only[smul,add,fm,V4.mk.injEq]at a;exact ext' (b 0 _ a.1) (b 1 _ a.2.1) (b 2 _ a.2.2.1) (b 3 _ a.2.2.2)
def qT (a_ x:L_):L_:=T.eT a_ x::kar (λa r=>if a<=0 then -r else r) a_ x
def Qx:L_->Int
 |[]=>0
 |a::r=>if a.sign=0 then Qx r else a.sign
theorem DW(h:Y a_=Y x)(d:Y x<=4)(i:Nat)(m:i<5):(qT a_ x).getD i 0=rk a_ (fm x) i:=by cases i with |zero=>exact QD h d |succ i=>have e:(qT _ x).getD (i+1) 0=(kar _ a_ x).getD i 0:=rfl;rw[e,JE sp h];have f:rk _ _ (i+1)=(if a_.getD i 0<=0 then(QV i).smul (-1)else QV i).dot (fm x):=rfl;(have a:(QV i).dot (fm x)=x.getD i 0:=by have⟨g,j,k,l⟩:=D9<|fm x;rcases uq (show i<4 by omega)with rfl|rfl|rfl|rfl;{exact g};{exact j};{exact k};exact l);rw[f];split;{rw[kj,a];omega};omega
theorem Pg:∀(l:L_),Y l<=5->(0<Qx l↔JK (λi=>l.getD i 0))
 |[],_=>by refine⟨λh=>by simp[Qx]at h,λ⟨k,_,_,hp⟩=>by simp at hp⟩ |a::r,f=>by rw[Qx];have b:=Pg r (by simp at f;omega);split;{rename_i d;have e:=NU.1 d;rw[b];constructor;{rintro⟨k,j,b,hp⟩;(have g:k<Y r:=by refine Ze λg=>?_;have g:0<r.getD k 0:=hp;rw[zk,qL om]at g;simp at g);refine⟨k+1,by simp at f;omega,λi f=>?_,hp⟩;cases i with |zero=>exact e |succ i=>exact b i om};rintro⟨k,j,b,hp⟩;cases k with |zero=>have g:0<a:=hp;omega |succ k=>exact⟨k,om,λi f=>b (i+1) om,hp⟩};rename_i d;have e:a≠0:=λg=>d (by rw[g];rfl);constructor;{intro h;exact⟨0,om,λi f=>absurd f<|Nat.not_lt_zero _,Int.sign_pos_iff.1 h⟩};rintro⟨k,j,b,hp⟩;cases k with |zero=>exact Int.sign_pos_iff.2 hp |succ k=>exact absurd (b 0 om) e
theorem UZ:∀(l:L_),Qx (l.map λz=>-z)=- Qx l
 |[]=>rfl |a::r=>by rw[Zk,Qx,Qx,Int.sign_neg,UZ r];have:(-a.sign=0)↔(a.sign=0):=om;simp only[this];split<;>rfl
theorem zoF(l)(a:Y l<=5):Qx l<0↔JK (λi=>-(l.getD i 0)):=by have h:=Pg (l.map λz=>-z) g_;rw[UZ]at h;grind
theorem JK.congr{f g}(h:JK f)(e:∀i,i<5->f i=g i):JK g:=by have⟨k,a,d,hp⟩:=h;exact⟨k,a,λi b=>g_,g_⟩
theorem qz.congr{f g}(h:qz f)(e:∀i,i<5->f i=g i):qz g:=by rcases h with h|h;{exact .inl λi a=>g_};exact .inr (h.congr e)
theorem SF(a_ x):Y (qT a_ x)=min (Y a_) (Y x)+1:=by simp[qT]
theorem Po(h:Y a_=Y x)(b:Y x<=4):0<Qx (qT a_ x)↔JK (rk a_ (fm x)):=by rw[Pg _ (by rw[SF];omega)];exact⟨λhp=>hp.congr λi a=>DW h b i a,λhp=>hp.congr λi a=>(DW h b i a).symm⟩
theorem sign_neg(h:Y a_=Y x)(b:Y x<=4):Qx (qT a_ x)<0↔JK (λi=>- rk a_ (fm x) i):=by rw[zoF _ (by rw[SF];omega)];exact⟨λhp=>hp.congr λi a=>by rw[DW h b i a],λhp=>hp.congr λi a=>by rw[DW h b i a]⟩
end
section
open V4
variable {i:Nat}
structure iG where
 row:L_×Int
 num:Nat
 eS:L_
structure fO where
 over:Nat
 eW:L_
 eL:List iG
def Z2 (c:fO)(r:L_×Int):Int:=r.2*(c.over)-T.eT r.1 c.eW
def Q5 (a_:L_)(over:Nat)(g:L_):List iG->Option (iG×Int)->Option (iG×Int)
 |[],b=>b
 |e::es,b=>
  if T.eT g e.eS<=0 then Q5 a_ over g es b
  else match b with
   |none=>Q5 a_ over g es (E (e,T.eT g e.eS))
   |some (o,pv)=>if Qx (qT a_ (ZJ over e.eS pv o.eS (-(T.eT g e.eS))))<0 then Q5 a_ over g es (E (e,T.eT g e.eS))else Q5 a_ over g es (E (o,pv))
theorem I5(a_)(over)(g)(e)(es:List _)(b:Option (iG×Int)):Q5 a_ over g (e::es) b=
 if T.eT g e.eS<=0 then Q5 a_ over g es b
 else match b with
  |none=>Q5 a_ over g es (E (e,T.eT g e.eS))
  |some (o,pv)=>if Qx (qT a_ (ZJ over e.eS pv o.eS (-(T.eT g e.eS))))<0 then Q5 a_ over g es (E (e,T.eT g e.eS))else Q5 a_ over g es (E (o,pv)):=by cases b<;>rfl
def B4 (over:Nat)(r:L_×Int)(num:Nat)(o:iG)(pv:Int)(es:List iG):List iG:=
 es.map λe=>if e.num=o.num then⟨r,num,e.eS⟩else⟨e.row,e.num,ZJ over e.eS pv o.eS (-(T.eT r.1 e.eS))⟩
def Qe (a_:L_)(c:fO)(r:L_×Int)(num:Nat):Option fO:=
 match Q5 a_ c.over r.1 c.eL O with
 |none=>O
 |some (o,pv)=>E ⟨By pv,ZJ c.over c.eW pv o.eS (Z2 c r),B4 c.over r num o pv c.eL⟩
def eR (c:fO)(i:Nat):V4:=match c.eL[i]? with|some e=>fm e.row.1|none=>QV i
def eM (c:fO)(i:Nat):Int:=match c.eL[i]? with|some e=>e.row.2|none=>0
structure Qy (n:Nat)(a_:L_)(c:fO):Prop where
 n4:n<=4
 mh:Y a_=n
 len:Y c.eL=n
 gh:Y c.eW=n
 kf:∀e∈c.eL,Y e.row.1=n/\Y e.eS=n
 pos:0<c.over
 C2:∃s:Int,(s=1\/s=-1)/\(c.over:Int)=s*Jb (eR c)/\(∀i e,c.eL[i]? =E e->fm e.eS=(QL (eR c) i).smul s)/\fm c.eW=(Cc (QL (eR c)) (eM c)).smul s
 lex:∀e∈c.eL,JK (rk a_ (fm e.eS))
 mj:(c.eL.map iG.num).Nodup
theorem SY{s}(h:s=1\/s=-1):s*s=1:=by rcases h with rfl|rfl<;>rfl
theorem Fz{c}{e}(h:c.eL[i]? =E e):eR c i=fm e.row.1:=by unfold eR;rw[h]
theorem Mu{c}(h:Y c.eL<=i):eR c i=QV i:=by unfold eR;rw[qL h]
theorem IK{c}{e}(h:c.eL[i]? =E e):eM c i=e.row.2:=by unfold eM;rw[h]
theorem Np{c}(h:Y c.eL<=i):eM c i=0:=by unfold eM;rw[qL h]
theorem jQ{a:Type}{l:List a}{e:a}(h:l[i]? =E e):i<Y l:=(zo.1 h).1
section
variable {n:Nat} {a_:L_} {c:fO}
theorem Qy.lt (h:Qy n a_ c){i}{e}(a:c.eL[i]? =E e):i<4:=by have:=jQ a;have:=h.len;have:=h.n4;omega
theorem Qy.mem (h:Qy n a_ c){i:Nat}{e}(a:c.eL[i]? =E e):Y e.row.1=n/\Y e.eS=n:=h.kf e (zx a)
theorem Qy.oq (h:Qy n a_ c){i j:Nat}{e f}(a:c.eL[i]? =E e)(b:c.eL[j]? =E f):T.eT e.row.1 f.eS=if i=j then(c.over:Int)else 0:=by have⟨_,_,g,d,hp⟩:=h.C2;have k:=h.mem a;have k:=h.mem b;have k:=h.n4;rw[QD om om,d j f b,fD,<-Fz a,BV _ _ _ (h.lt a)<|h.lt b];grind
theorem Qy.oV (h:Qy n a_ c){i:Nat}{e}(a:c.eL[i]? =E e):T.eT e.row.1 c.eW=(c.over)*e.row.2:=by have⟨_,_,b,_,hp⟩:=h.C2;have d:=h.mem a;have d:=h.n4;have d:=h.gh;rw[QD om om,hp,fD,<-Fz a,Ns _ _ _<|h.lt a,IK a,b];grind
end
variable {a_:L_}{c:fO}{n:Nat}
theorem E6{g:Type}(f:g->Int):∀(l:List g),Y l<=4->(l.map f).sum=(l[0]?.map f).getD 0+(l[1]?.map f).getD 0+(l[2]?.map f).getD 0+(l[3]?.map f).getD 0
 |[],_=>rfl |[a],_=>sp |[a,b],_=>sp |[a,b,c],_=>by simp[Int.add_assoc] |[a,b,c,d],_=>by simp[Int.add_assoc] |a::b::c::d::e::r,h=>by simp at h
theorem Qy.complete(h:Qy n a_ c){x}(a:Y x=n)(g:V4):
 (c.over)*g.dot (fm x)=g.dot (fm c.eW)-(c.eL.map λe=>(e.row.2-T.eT e.row.1 x)*g.dot (fm e.eS)).sum:=by
 have⟨s,_,f,b,hp⟩:=h.C2;have a:=h.n4;have a:=h.len;have a:=qm (λv=>s*g.dot v)<|QA (eR c)<|fm x;simp only[fD,mH]at a;rw[E6 _ _ om,hp,fD,TX];have a:∀i,i<4->((c.eL[i]?.map λe=>(e.row.2-T.eT e.row.1 x)*g.dot (fm e.eS)).getD 0)=s*(eM c i*g.dot (QL (eR c) i))-s*((eR c i).dot (fm x)*g.dot (QL (eR c) i)):=by intro i d;cases he:c.eL[i]? with |some e=>have j:=h.mem he;rw[IK he,Fz he,qY,qB,b i e he,fD,QD om om];grind |none=>have b:=Ju.1 he;rw[Np b,Mu b,znH om d];simp
 grind
theorem Qy.pH(h:Qy n a_ c){j k:Nat}{o e:iG}(b:c.eL[j]? =E o)(d:c.eL[k]? =E e)(t:k≠j){g:L_}(hg:Y g=n)(hp:T.eT g o.eS≠0):
 ∃s:Int,(s=1\/s=-1)/\fm (ZJ c.over e.eS (T.eT g o.eS) o.eS (-(T.eT g e.eS)))=(QL (y8 (eR c) j (fm g)) k).smul s/\(fm (ZJ c.over e.eS (T.eT g o.eS) o.eS (-(T.eT g e.eS)))).smul (c.over:Int)=((fm e.eS).smul (T.eT g o.eS)).add ((fm o.eS).smul (-(T.eT g e.eS)))/\(c.over:Int)=s*Jb (eR c)/\fm o.eS=(QL (eR c) j).smul s:=by
 have⟨s,m,l,f,_⟩:=h.C2;have a:=h.n4;have a:=h.mem b;have a:=h.mem d;have a:=SY m;have a:=f j o b;have i:=f k e d;have f:T.eT g o.eS=s*(fm g).dot (QL (eR c) j):=by rw[QD om om,a,fD]
 have p:T.eT g e.eS=s*(fm g).dot (QL (eR c) k):=by rw[QD om om,i,fD]
 have u:(fm g).dot _≠0:=λq=>hp (by rw[f,q];simp);have q:=zlx _ j k (h.lt b) (h.lt d) t _ u;have d:((QL (y8 (eR c) j<|fm g) k).smul s).smul (c.over:Int)=((fm e.eS).smul<|T.eT g o.eS).add ((fm o.eS).smul<|-(T.eT g e.eS)):=by (have b:((QL (y8 (eR c) j<|fm g) k).smul s).smul (c.over:Int)=(QL (y8 (eR c) j<|fm g) k).smul (Jb<|eR c):=by rw[ld,l];congr 1;grind);rw[b,q,a,i,ld,ld,f,p];congr 2<;>grind
 have b:=Pb h.pos om _ _ d;grind
def CK (a_ g:L_)(done:List iG):Option (iG×Int)->Prop
 |none=>∀e∈done,T.eT g e.eS<=0
 |some (o,pv)=>o∈done/\pv=T.eT g o.eS/\0<pv/\∀e∈done,0<T.eT g e.eS->qz (λi=>pv*rk a_ (fm e.eS) i-T.eT g e.eS*rk a_ (fm o.eS) i)
theorem LQ(h:Qy n a_ c){g:L_}(hg:Y g=n):∀(es done:List iG) (b:Option (iG×Int)),c.eL=done++es->CK a_ g done b->CK a_ g c.eL (Q5 a_ c.over g es b)
 |[],done,b,f,d=>by rw[ZR]at f;rw[f];exact d |e::es,done,b,f,d=>by (have j:c.eL=(done ++ [e])++es:=by rw[f];simp);rw[I5];by_cases i:T.eT g e.eS<=0;{rw[zQ i];apply LQ h hg es _ b j;cases b with |none=>intro x a;rcases zU.1 a with a|a;{exact d x a};rw[qg.1 a];exact i |some q=>have⟨o,pv⟩:=q;have⟨k,s,l,m⟩:=d;refine⟨QN _ k,s,l,λx a hp=>?_⟩;rcases zU.1 a with a|a;{exact m x a hp};rw[qg.1 a]at hp;omega};rw[zO i];cases b with |none=>refine LQ h hg es _ _ j ⟨sp,rfl,om,λx a hp=>?_⟩;rcases zU.1 a with a|a;{have:=d x a;omega};rw[qg.1 a];exact .inl λi _=>Int.sub_self _ |some q=>have⟨o,pv⟩:=q;obtain⟨k,rfl,l,m⟩:=d;have⟨u,s,t⟩:=qM k;(have q:c.eL[u]? =E o:=by rw[f,zS s,zg s,t]);(have s:c.eL[Y done]? =E e:=by rw[f,zG<|zh _];simp);obtain⟨_,_,_,f,-⟩:=h.pH q s om hg om;have t:=h.mem q;have q:=h.mem s;have q:=h.n4;(have t:Y (ZJ c.over e.eS (T.eT g o.eS) o.eS<|-(T.eT g e.eS))=n:=by rw[LG _ _ _ _ _ om];omega);(have q:∀i,i<5->(c.over:Int)*rk a_ (fm<|ZJ c.over e.eS (T.eT g o.eS) o.eS<|-(T.eT g e.eS)) i=T.eT g o.eS*rk a_ (fm e.eS) i-T.eT g e.eS*rk a_ (fm o.eS) i:=by intro i _;rw[<-JH,f,KD,JH,JH];grind);(have v:0<(c.over:Int):=by have:=h.pos;omega);have s:=sign_neg (a_:=a_) (x:=ZJ c.over e.eS (T.eT g o.eS) o.eS<|-(T.eT g e.eS)) (by rw[h.mh,t]) om;simp only;split;{rename_i f;have t:=s.1 f;(have u:JK (λi=>T.eT g e.eS*rk a_ (fm o.eS) i-T.eT g o.eS*rk a_ (fm e.eS) i):=by refine t.comb (g:=λ_=>0) (p:=1) (q:=(c.over:Int)) (r:=0) (.inl λ_ _=>rfl) om v om λi d=>?_;have:=q i d;grind);refine LQ h hg es _ _ j ⟨sp,rfl,om,λx a hp=>?_⟩;rcases zU.1 a with a|a;{have t:=m x a hp;refine t.comb u.n (p:=T.eT g o.eS) (q:=T.eT g e.eS) (r:=T.eT g x.eS) l om om λi d=>?_;grind};rw[qg.1 a];exact .inl λi _=>Int.sub_self _};rename_i f;refine LQ h hg es _ _ j ⟨QN _ k,rfl,l,λx a hp=>?_⟩;rcases zU.1 a with a|a;{exact m x a hp};rw[qg.1 a];rcases RZ (λi=>- rk a_ (fm<|ZJ c.over e.eS (T.eT g o.eS) o.eS<|-(T.eT g e.eS)) i)with a|a;{exact absurd (s.2 a) f};refine a.comb (g:=λ_=>0) (p:=1) (q:=(c.over:Int)) (r:=0) (.inl λ_ _=>rfl) om om om λi d=>?_;have:=q i d;grind
end
section
open V4
theorem zqH {over:Nat}{r:L_×Int}{num:Nat}{o:iG}{pv:Int}{es:List iG}(g:(es.map iG.num).Nodup){j:Nat}(f:es[j]? =E o):
 (B4 over r num o pv es)[j]? =E ⟨r,num,o.eS⟩/\∀i e,i≠j->es[i]? =E e->(B4 over r num o pv es)[i]? =E ⟨e.row,e.num,ZJ over e.eS pv o.eS (-(T.eT r.1 e.eS))⟩:=by
 unfold B4;refine⟨g_,λi e h d=>?_⟩;have p:e.num≠o.num:=by intro l;have a:=jQ d;have b:=jQ f;have m:=MV.1 g;(have g:(es.map iG.num)[i]'(by grind)=e.num:=by rw[L5];rw[(zo.1 d).2]);(have k:(es.map iG.num)[j]'(by grind)=o.num:=by rw[L5];rw[(zo.1 f).2]);rcases Oi h with h|h;{grind};grind
 grind
structure AX (n:Nat)(a_:L_)(c:fO)(r:L_×Int)(num:Nat)(c':fO)(j:Nat)(o:iG):Prop where
 fY:Qy n a_ c'
 at_:c.eL[j]? =E o
 mU:0<T.eT r.1 o.eS
 over:(c'.over:Int)=T.eT r.1 o.eS
 eW:(fm c'.eW).smul (c.over:Int)=((fm c.eW).smul (T.eT r.1 o.eS)).add ((fm o.eS).smul (Z2 c r))
 new:c'.eL[j]? =E ⟨r,num,o.eS⟩
 sy:∀i e,i≠j->c.eL[i]? =E e->c'.eL[i]? =E ⟨e.row,e.num,ZJ c.over e.eS (T.eT r.1 o.eS) o.eS (-(T.eT r.1 e.eS))⟩
 least:∀e∈c.eL,0<T.eT r.1 e.eS->qz (λi=>T.eT r.1 o.eS*rk a_ (fm e.eS) i-T.eT r.1 e.eS*rk a_ (fm o.eS) i)
theorem RU {n:Nat}{a_:L_}{c:fO}(h:Qy n a_ c){r:L_×Int}(I:Y r.1=n){num:Nat}(an:∀e∈c.eL,e.num≠num):
 (Qe a_ c r num=O->∀e∈c.eL,T.eT r.1 e.eS<=0)/\∀c',Qe a_ c r num=E c'->∃j o,AX n a_ c r num c' j o:=by have J:=LQ h I c.eL [] O rfl λe z=>g_;unfold Qe;cases hL:Q5 a_ c.over r.1 c.eL O with |none=>rw[hL]at J;exact⟨λ_=>J,λc' l=>g_⟩ |some v=>have⟨o,pv⟩:=v;rw[hL]at J;obtain⟨g,rfl,ae,a7⟩:=J;refine⟨(λl=>g_),λc' l=>?_⟩;simp only[qN]at l;have⟨j,a4,ak⟩:=qM g;have u:c.eL[j]? =E o:=g_;have⟨m,q⟩:=zqH (over:=c.over) (r:=r) (num:=num) (pv:=T.eT r.1 o.eS) h.mj u;have⟨s,hs,A,al,ad⟩:=h.C2;have aw:=SY hs;have ah:=h.n4;have F:=h.mem u;have W:=h.lt u;have N:=al j o u;(have B:T.eT r.1 o.eS=s*(fm r.1).dot (QL (eR c) j):=by rw[QD om om,N,fD]);(have ao:(fm _).dot _≠0:=λM=>by rw[M]at B;simp at B;omega);have a1:c'.eL=B4 c.over r num o (T.eT r.1 o.eS) c.eL:=g_;(have aj:Y c'.eL=n:=by rw[a1];simp[B4,h.len]);rw[<-a1]at m q;(have C:eR c'=y8 (eR c) j (fm r.1):=by funext i;by_cases a:i=j;{subst a;rw[MH,Fz m]};rw[OO _ _ a];cases d:c.eL[i]? with |some e=>rw[Fz<|q i e a d,Fz d] |none=>have D:=Ju.1 d;have:=h.len;rw[Mu om,Mu D]);(have hM:eM c'=λi=>if i=j then r.2 else eM c i:=by funext i;by_cases a:i=j;{subst a;rw[zQ rfl,IK m]};rw[zO a];cases d:c.eL[i]? with |some e=>rw[IK<|q i e a d,IK d] |none=>have D:=Ju.1 d;have:=h.len;rw[Np om,Np D]);have a9:(c'.over:Int)=T.eT r.1 o.eS:=g_;(have ap:Y (ZJ c.over c.eW (T.eT r.1 o.eS) o.eS<|Z2 c r)=n:=by rw[LG _ _ _ _ _<|by rw[h.gh,F.2]];exact h.gh);have R:c'.eW=ZJ c.over c.eW (T.eT r.1 o.eS) o.eS (Z2 c r):=g_;(have au:Z2 c r=s*(r.2*Jb (eR c)-(fm r.1).dot (Cc (QL<|eR c)<|eM c)):=by unfold Z2;rw[QD (by rw[h.gh];omega) (by rw[h.gh];omega),ad,fD,A];grind);have af:=zjT _ (eM c) j W _ r.2 ao;rw[<-C,<-hM]at af;(have hz:((Cc (QL<|eR c')<|eM c').smul s).smul (c.over:Int)=((fm c.eW).smul<|T.eT r.1 o.eS).add ((fm o.eS).smul<|Z2 c r):=by (have e3:((Cc (QL<|eR c')<|eM c').smul s).smul (c.over:Int)=(Cc (QL<|eR c')<|eM c').smul (Jb<|eR c):=by rw[ld,A];congr 1;grind);rw[e3,af,ad,N,ld,ld,B,au];congr 2<;>grind);have aa:=Pb h.pos (by rw[h.gh,F.2]) _ _ hz;(have a6:∀i e,i≠j->c.eL[i]? =E e->fm (ZJ c.over e.eS (T.eT r.1 o.eS) o.eS<|-(T.eT r.1 e.eS))=(QL (eR c') i).smul s/\(fm<|ZJ c.over e.eS (T.eT r.1 o.eS) o.eS<|-(T.eT r.1 e.eS)).smul (c.over:Int)=((fm e.eS).smul<|T.eT r.1 o.eS).add ((fm o.eS).smul<|-(T.eT r.1 e.eS)):=by intro i e a d;have⟨s',_,K,L,c3,_⟩:=h.pH u d a I om;(have av:s'=s:=by (have hd:Jb (eR c)≠0:=λM=>by rw[M]at A;simp at A;have:=h.pos;omega);rw[A]at c3;exact(Int.eq_of_mul_eq_mul_right hd c3).symm);subst av;exact⟨by grind,L⟩);(have a2:(c'.over:Int)=s*Jb (eR c'):=by rw[a9,B,C,Lv _ _ W]);refine⟨j,o,⟨⟨ah,h.mh,aj,g_,?_,?_,⟨s,hs,a2,?_,g_⟩,?_,?_⟩,u,ae,a9,g_,m,q,a7⟩⟩;{intro e z;have⟨i,U,S⟩:=qM z;have b:c'.eL[i]? =E e:=g_;by_cases a:i=j;{grind};(have t:i<Y c.eL:=by rw[h.len];omega);have f:=zg t;rw[q i _ a f]at b;cases b;have hm:=h.mem f;exact⟨hm.1,by simp only;rw[LG _ _ _ _ _ om];omega⟩};{omega};{intro i e b;by_cases a:i=j;{subst a;rw[m]at b;cases b;rw[C,TJ _ _ W];omega};(have t:i<Y c.eL:=by have:=jQ b;rw[h.len];omega);grind};{intro e z;have⟨i,U,S⟩:=qM z;have b:c'.eL[i]? =E e:=g_;by_cases a:i=j;{subst a;rw[m]at b;cases b;exact h.lex o g};(have t:i<Y c.eL:=by rw[h.len];omega);have f:=zg t;rw[q i _ a f]at b;cases b;have⟨K,L⟩:=a6 i _ a f;generalize hq:ZJ c.over c.eL[i].eS (T.eT r.1 o.eS) o.eS (-(T.eT r.1 c.eL[i].eS))=v at *;(have a5:∀k,k<5->(c.over:Int)*rk a_ (fm v) k=T.eT r.1 o.eS*rk a_ (fm c.eL[i].eS) k-T.eT r.1 c.eL[i].eS*rk a_ (fm o.eS) k:=by intro k _;rw[<-JH,L,KD,JH,JH];grind);(have ab:0<(c.over:Int):=by have:=h.pos;omega);show JK (rk _<|fm v);by_cases hg:T.eT r.1 c.eL[i].eS<=0;{refine(h.lex _<|zJ t).comb (h.lex o g).n (r:=- T.eT r.1 c.eL[i].eS) ab ae om λk X=>?_;grind};have hN:=a7 _ (zJ t) om;have w:=hN.comb (q:=1) (r:=0) (.inl λ_ _=>rfl) ab om om (λk X=>by rw[a5 k X];grind);rcases w with w|w;{exfalso;have ar:=zrG w;have a3:=h.lt f;have:=BV (eR c') i i a3 a3;rw[zQ rfl]at this;(have h3:s*Jb (eR c')=(eR c' i).dot (fm v):=by rw[K,fD,this]);rw[ar,nM,<-a2]at h3;omega};exact w};(have e1:c'.eL.map iG.num=(c.eL.map iG.num).set j num:=by refine Lh λi=>?_;rw[zR,Nh];by_cases a:i=j;{grind};rw[zO λe=>a e.symm,zR];cases d:c.eL[i]? with |some e=>grind |none=>have D:=Ju.1 d;have:=h.len;grind);rw[e1];refine MV.2 λZ a0 P Q ai=>?_;have aq:=MV.1 h.mj;rw[List.getElem_set,List.getElem_set];(have a8:∀i (d:i<Y (c.eL.map iG.num)),(c.eL.map iG.num)[i]≠num:=λi d=>by rw[L5];exact an _<|zJ _);simp only[qX]at P Q;split<;>split;{omega};{exact(a8 a0 Q).symm};{exact a8 Z P};exact aq Z a0 P Q ai
end
section
open V4
variable {a_:L_}{i n:Nat}
def BX (a_:L_)(bs:List ((L_×Int)×Nat)):fO:=
 let es:=bs.filterMap λb=>if 0<Qx (qT a_ b.1.1)then E (⟨b.1,b.2,b.1.1⟩)else O
 ⟨1,es.foldl (λpt e=>ZJ 1 pt 1 e.eS e.row.2) (kah (Y es) 0),es⟩
def En (rg:Nat->Int×Int)(k:Nat):Nat->List ((L_×Int)×Nat):=λn=>
 (kai n).flatMap λi=> [((T.fe n i,(rg i).2),k+2*i+1),(((T.fe n i).map λz=>-z,-(rg i).1),k+2*i+2)]
def Br (n:Nat)(a_:L_)(rg:Nat->Int×Int)(k i:Nat):iG:=
 if a_.getD i 0<=0 then⟨((T.fe n i).map λz=>-z,-(rg i).1),k+2*i+2,(T.fe n i).map λz=>-z⟩else⟨(T.fe n i,(rg i).2),k+2*i+1,T.fe n i⟩
theorem QS(n i):Y (T.fe n i)=n:=by simp[T.fe]
theorem Ft(b:n<=4)(a:i<n):fm (T.fe n i)=QV i:=by
 have a:∀k,(T.fe n i).getD k 0=if i=k then 1 else 0:=by intro k;unfold T.fe;rw[zk,zR];by_cases b:k<n;{grind};grind
 exact ext' (a 0) (a 1) (a 2) (a 3)
theorem LZ(l):fm (l.map λz=>-z)=(fm l).smul (-1):=by have a:∀k,(l.map λz=>-z).getD k 0=-1*l.getD k 0:=g_;exact ext' (a 0) (a 1) (a 2) (a 3)
theorem Ld(i j)(a:i<4)(b:j<4):(QV i).dot (QV j)=if i=j then 1 else 0:=by rcases uq a with rfl|rfl|rfl|rfl<;>rcases uq b with rfl|rfl|rfl|rfl<;>rfl
theorem VA(x)(i):x.dot (QV i)=(QV i).dot x:=C5 _ _
theorem Wl(b:i<4):JK (rk a_ ((QV i).smul (if a_.getD i 0<=0 then(-1)else 1))):=by
 have e:∀t,rk a_ ((QV i).smul t) 0=t*a_.getD i 0:=by intro t;show(fm a_).dot _=_;rw[fD,VA];have⟨a,d,f,g⟩:=D9<|fm a_;rcases uq b with rfl|rfl|rfl|rfl;{rw[a];rfl};{rw[d];rfl};{rw[f];rfl};rw[g];rfl
 have f:∀t k,k<4->rk a_ ((QV i).smul t) (k+1)=if k=i then t*(if a_.getD i 0<=0 then(-1:Int)else 1)else 0:=by intro t k a;show(if a_.getD k 0<=0 then(QV k).smul (-1)else QV k).dot _=_;rw[fD];by_cases d:k=i;{subst d;rw[zQ rfl];split;{rw[kj,Ld _ _ a a,zQ rfl];rfl};rw[Ld _ _ a a,zQ rfl]};rw[zO d];split;{rw[kj,Ld _ _ a b,zO d];simp};rw[Ld _ _ a b,zO d];simp
 by_cases d:a_.getD i 0=0;{refine⟨i+1,om,λk a=>?_,?_⟩;{cases k with |zero=>grind |succ k=>grind};grind};refine⟨0,om,λk a=>absurd a<|Nat.not_lt_zero _,?_⟩;grind
theorem Lx(a_)(rg)(k)(b:n<=4)(a:i<n):
 fm (Br n a_ rg k i).row.1=(QV i).smul (if a_.getD i 0<=0 then(-1)else 1)/\(Br n a_ rg k i).eS=(Br n a_ rg k i).row.1/\Y (Br n a_ rg k i).row.1=n:=by unfold Br;split;{exact⟨by rw[LZ,Ft b a],rfl,by simp[QS]⟩};refine⟨?_,rfl,QS _ _⟩;show fm (T.fe n i)=_;rw[Ft b a];exact ext' (QT _).symm (QT _).symm (QT _).symm (QT _).symm
theorem PZ(f:Y a_=n)(e:n<=4)(rg)(k):
 (En rg k n).filterMap (λb=>if 0<Qx (qT a_ b.1.1)then E (⟨b.1,b.2,b.1.1⟩)else O)=(kai n).map (Br n a_ rg k):=by
 unfold En;rw[List.filterMap_flatMap,List.map_eq_flatMap];have p:∀i∈kai n,List.filterMap (λb:(L_×Int)×Nat=>if 0<Qx (qT a_ b.1.1)then E (⟨b.1,b.2,b.1.1⟩:iG)else O) [((T.fe n i,(rg i).2),k+2*i+1),(((T.fe n i).map λz=>-z,-(rg i).1),k+2*i+2)]= [Br n a_ rg k i]:=by intro i d;have d:=Z8.1 d;have a:=Wl (a_:=a_) (i:=i) om;have l:=Po (a_:=a_) (x:=T.fe n i) (by rw[QS,f]) (by rw[QS];omega);have m:=Po (a_:=a_) (x:=(T.fe n i).map λz=>-z) (by simp[QS,f]) (by simp[QS];omega);rw[Ft e d]at l;rw[LZ,Ft e d]at m;(have q:∀{x:V4},JK (rk a_ x)->¬JK (rk a_<|x.smul<|-1):=by intro x g h;refine g.not_neg<|h.n.congr λk g=>?_;rw[JH];omega);have one:∀x:V4,x.smul 1=x:=λx=>ext' (QT _) (QT _) (QT _)<|QT _;unfold Br;by_cases o:a_.getD i 0<=0;{grind};grind
 generalize kai n=l at *;induction l with |nil=>rfl |cons a l e=>grind
theorem R6:∀(es:List iG) (pt:L_) (n:Nat),Y pt=n->(∀e∈es,Y e.eS=n)->Y (es.foldl (λpt e=>ZJ 1 pt 1 e.eS e.row.2) pt)=n/\∀g:V4,g.dot (fm (es.foldl (λpt e=>ZJ 1 pt 1 e.eS e.row.2) pt))=g.dot (fm pt)+(es.map λe=>e.row.2*g.dot (fm e.eS)).sum
 |[],pt,n,hp,_=>⟨hp,λg=>sp⟩ |e::es,pt,n,hp,a=>by have b:=a e qA;(have f:Y (ZJ 1 pt 1 e.eS e.row.2)=n:=by rw[LG _ _ _ _ _ om];exact hp);have⟨b,d⟩:=R6 es (ZJ 1 pt 1 e.eS e.row.2) n f λx f=>a x<|qq _ f;refine⟨b,λg=>?_⟩;have a:=Pb (over:=1) om (x:=pt) (y:=e.eS) om 1 e.row.2 (z:=((fm pt).smul 1).add<|(fm e.eS).smul e.row.2)<|ext' (QT _) (QT _) (QT _)<|QT _;rw[IW,d g,a,mH,fD,fD,Zk,QI];omega
theorem zmF(q:Y a_=n)(l:n<=4)(rg:Nat->Int×Int)(k:Nat):
 Qy n a_ (BX a_ (En rg k n))/\(BX a_ (En rg k n)).eL=(kai n).map (Br n a_ rg k):=by
 have d:(BX _ _).eL=(kai n).map _:=PZ q l rg k;have y:(BX a_<|En rg k n).eW=((kai n).map<|Br n a_ rg k).foldl (λa e=>ZJ 1 a 1 e.eS e.row.2) (kah n 0):=by show List.foldl _ _ _=_;rw[PZ q l rg k];simp
 have A:(BX a_<|En rg k n).over=1:=rfl;refine⟨?_,d⟩;generalize BX a_ (En rg k n)=c at *;have g:∀i e,c.eL[i]? =E e↔i<n/\e=Br n a_ rg k i:=g_;have z:Y c.eL=n:=g_;have s:∀e∈c.eL,Y e.row.1=n/\Y e.eS=n:=by intro e b;rw[d]at b;obtain⟨i,a,rfl⟩:=qP.1 b;have f:=Lx a_ rg k l<|Z8.1 a;exact⟨f.2.2,by grind⟩
 obtain⟨sg,tU⟩:∃sg,sg=λi=>if i<n then(if a_.getD i 0<=0 then(-1)else 1)else 1:=⟨_,rfl⟩;have o:∀i,sg i*sg i=1:=g_;have one:∀x:V4,x.smul 1=x:=λx=>ext' (QT _) (QT _) (QT _)<|QT _;have p:∀i,eR c i=(QV i).smul (sg i):=by intro i;by_cases a:i<n;{rw[Fz<|(g i _).2 ⟨a,rfl⟩,(Lx _ _ k l a).1,tU];grind};rw[Mu om,tU];grind
 have f:=funext p;have h:Jb (eR c)=sg 0*sg 1*sg 2*sg 3:=by rw[f];simp only[Jb,C2,E7,dot,smul,QV];simp;grind
 have f:Jb (eR c)*Jb (eR c)=1:=g_;have t:Jb (eR c)=1\/Jb (eR c)=-1:=g_;have u:Jb (eR c)≠0:=om;have w:∀i e,c.eL[i]? =E e->fm e.eS=eR c i:=by intro i e b;have m:=(g i e).1 b;rw[Fz b,m.2,(Lx a_ rg k l m.1).2.1]
 have v:∀i j,i<4->j<4->(eR c i).dot (eR c j)=if i=j then 1 else 0:=by intro i j a g;rw[p,p,kj,fD,Ld i j a g];split;{grind};simp
 refine⟨l,q,z,?_,s,om,⟨_,t,om,λi e b=>?_,?_⟩,λe b=>?_,?_⟩;{rw[y];exact(R6 _ _ n sp λe b=>(s e g_).2).1};{have o:i<4:=g_;rw[w i e b];refine NJ u λj g=>?_;rw[fD,BV _ _ _ g o,v j i g o];grind};{refine NJ u λj g=>?_;rw[fD,Ns _ _ _ g,y,(R6 _ _ n sp λe b=>(s e g_).2).2,<-d,E6 _ _ om];(have o:fm (kah n 0)=V4.zero:=by (have f:∀k,(kah n (0:Int)).getD k 0=0:=λk=>by grind);exact ext' (f 0) (f 1) (f 2)<|f 3);(have f:∀i,i<4->(c.eL[i]?.map λe=>e.row.2*(eR c j).dot (fm e.eS)).getD 0=eM c i*(if j=i then 1 else 0):=by intro i a;cases b:c.eL[i]? with |some e=>rw[qY,qB,w i e b,v j i g a,IK b] |none=>rw[Np<|Ju.1 b];simp);rw[o,nM,f 0 om,f 1 om,f 2 om,f 3 om];grind};{rw[d]at b;obtain⟨i,a,rfl⟩:=qP.1 b;have a:=Z8.1 a;rw[(Lx _ _ k l a).2.1,(Lx _ _ k l a).1];exact Wl om};rw[d,wJ];refine MV.2 λa b m a a=>?_;simp only[L5,Function.comp,List.getElem_range];unfold Br;grind
end
section
open V4
variable {a:Type}
theorem Fk(f g:a->Int)(l:List a):(l.map λe=>f e+g e).sum=(l.map f).sum+(l.map g).sum:=by induction l with |nil=>rfl |cons a l a=>grind
theorem Cj(k:Int)(f:a->Int)(l:List a):(l.map λe=>k*f e).sum=k*(l.map f).sum:=by induction l with |nil=>simp |cons a l a=>grind
theorem B5{f g:a->Int}{l:List a}(h:∀e∈l,f e=g e):(l.map f).sum=(l.map g).sum:=by rw[SP h]
theorem Wp{f:a->Int}{l:List a}(h:∀e∈l,0<=f e):0<=(l.map f).sum:=by induction l with |nil=>simp |cons a l b=>grind
theorem ME{f:a->Int}{l:List a}(h:∀e∈l,f e=0):(l.map f).sum=0:=by induction l with |nil=>rfl |cons a l b=>grind
section
variable {n:Nat} {a_:L_} {c:fO}
theorem Qy.pq (h:Qy n a_ c)(g:V4):g.dot (fm c.eW)=(c.eL.map λe=>e.row.2*g.dot (fm e.eS)).sum:=by
 have b:=h.complete (x:=kah n 0) sp g;have d:fm (kah n 0)=V4.zero:=by (have a:∀k,(kah n (0:Int)).getD k 0=0:=λk=>by grind);exact ext' (a 0) (a 1) (a 2) (a 3)
 rw[d,nM,Int.mul_zero]at b;have a:(c.eL.map λe=>(e.row.2-T.eT e.row.1 (kah n 0))*g.dot (fm e.eS)).sum=(c.eL.map λe=>e.row.2*g.dot (fm e.eS)).sum:=by refine B5 λe f=>?_;have:=(h.kf e f).1;have f:=h.n4;rw[QD (by grind) so,d,nM,Int.sub_zero]
 omega
theorem Qy.all (h:Qy n a_ c)(g:V4){x}(a:Y x=n):(c.over)*g.dot (fm x)=(c.eL.map λe=>T.eT e.row.1 x*g.dot (fm e.eS)).sum:=by
 rw[h.complete a g,h.pq g];have a:(c.eL.map λe=>e.row.2*g.dot (fm e.eS)).sum=(c.eL.map λe=>(e.row.2-T.eT e.row.1 x)*g.dot (fm e.eS)).sum+(c.eL.map λe=>T.eT e.row.1 x*g.dot (fm e.eS)).sum:=by rw[<-Fk];refine B5 λe _=>?_;grind
 omega
end
def JQ (r o:L_×Int)(t:Int):L_×Int:=(kar (λf w=>f+w*t) r.1 o.1,r.2+o.2*t)
def Qu (r:L_×Int)(d:Nat):L_×Int:=(r.1.map λz=>z/(d),r.2/(d))
def BM (l:L_):Nat:=l.foldl (λd z=>Nat.gcd d (By z)) 0
def Zc (a_:L_)(over:Nat)(r:Nat)(e:iG):Nat:=((qT a_ e.eS).getD r 0%(over)).toNat
def Qf (n:Nat)(a_:L_)(c:fO)(r:Nat):L_×Int:=c.eL.foldl (λacc e=>JQ acc e.row (Zc a_ c.over r e)) (kah n 0,0)
def Zm (n:Nat)(a_:L_)(c:fO)(r:Nat):Nat:=BM (Qu (Qf n a_ c r) c.over).1
def Zd (n:Nat)(a_:L_)(c:fO)(r:Nat):L_×Int:=Qu (Qu (Qf n a_ c r) c.over) (Zm n a_ c r)
theorem Ux (t:iG->Int):∀(es:List iG) (a:L_×Int) (n:Nat),Y a.1=n->(∀e∈es,Y e.row.1=n)->Y (es.foldl (λa e=>JQ a e.row (t e)) a).1=n/\
 (∀i,(es.foldl (λa e=>JQ a e.row (t e)) a).1.getD i 0=a.1.getD i 0+(es.map λe=>t e*e.row.1.getD i 0).sum)/\(es.foldl (λa e=>JQ a e.row (t e)) a).2=a.2+(es.map λe=>t e*e.row.2).sum
 |[],a,n,hp,_=>⟨hp,λi=>sp,sp⟩ |e::es,a,n,hp,b=>by have d:=b e qA;(have j:Y (JQ a e.row<|t e).1=n:=by simp[JQ,hp,d]);have⟨f,g,h⟩:=Ux t es (JQ a e.row<|t e) n j λx j=>b x<|qq _ j;refine⟨f,λi=>?_,?_⟩;{rw[IW,g i];have:(JQ a e.row<|t e).1.getD i 0=a.1.getD i 0+e.row.1.getD i 0*t e:=JE (f:=λf w=>f+w*t e) sp (by rw[hp,d]) i;rw[this,Zk,QI,Qp<|t e];omega};rw[IW,h,Zk,QI,Qp<|t e];show a.2+e.row.2*t e+_=_;omega
theorem RG:∀(l:L_) (d:Nat),(l.foldl (λd z=>Nat.gcd d (By z)) d) ∣ d/\∀z∈l,(l.foldl (λd z=>Nat.gcd d (By z)) d) ∣ By z
 |[],d=>⟨Nat.dvd_refl _,λz h=>by simp at h⟩ |a::l,d=>by have⟨h1,h2⟩:=RG l (Nat.gcd d (By a));rw[IW];refine⟨Nat.dvd_trans h1<|Fl _ _,λz b=>?_⟩;rcases zI.1 b with rfl|b;{exact Nat.dvd_trans h1<|I2 _ _};exact h2 z b
theorem S5 (l){z}(h:z∈l):(BM l:Int) ∣ z:=IM.2 ((RG l 0).2 z h)
theorem zqN {l}{z}(h:z∈l)(b:z≠0):0<BM l:=by rcases Qd (BM l)with a|a;{have:=S5 l h;simp_all};omega
structure xG (n:Nat)(a_:L_)(c:fO)(r:Nat):Prop where
 shared:0<Zm n a_ c r
 len:Y (Zd n a_ c r).1=n
 row:∀i,(((c.over*Zm n a_ c r:Nat):Int))*(Zd n a_ c r).1.getD i 0=(c.eL.map λe=>(Zc a_ c.over r e:Int)*e.row.1.getD i 0).sum
 most:(Zd n a_ c r).2=(c.eL.map λe=>(Zc a_ c.over r e:Int)*e.row.2).sum/(((c.over*Zm n a_ c r:Nat):Int))
 rest:(c.eL.map λe=>(Zc a_ c.over r e:Int)*e.row.2).sum%(c.over:Int)=rk a_ (fm c.eW) r%(c.over:Int)
 part:(rk a_ (fm c.eW) r)%(c.over:Int)≠0
theorem I_ {n}{a_}{c}(h:Qy n a_ c){r}(d:r<5){e}(b:e∈c.eL):((Zc a_ c.over r e))=rk a_ (fm e.eS) r%(c.over):=by unfold Zc;have a:=h.kf e b;have b:=h.n4;have hp:=h.pos;rw[DW (by rw[h.mh,a.2]) om r d];have:=J3 (rk a_ (fm e.eS) r) (show(c.over:Int)≠0 by omega);omega
theorem Wi {a:Type}{f g:a->Int}{m:Int}{l:List a}(h:∀e∈l,f e%m=g e%m):(l.map f).sum%m=(l.map g).sum%m:=by induction l with |nil=>rfl |cons a l b=>simp only[Zk,QI];rw[Int.add_emod,h a qA,b λe a=>h e<|qq _ a,<-Int.add_emod]
theorem Gj {n:Nat}{a_:L_}{c:fO}(h:Qy n a_ c){r:Nat}(d:r<5)(s:rk a_ (fm c.eW) r%(c.over:Int)≠0):xG n a_ c r:=by
 have m:=h.n4;have hp:=h.pos;have C:(c.over:Int)≠0:=om;have⟨b,g,k⟩:=Ux (λe=>(Zc a_ c.over r e)) _ (kah n 0,0) n sp λe a=>(h.kf e a).1;have f:Y (Qf n _ c r).1=n:=b;have b:∀i,(kah n (0:Int)).getD i 0=0:=λj=>g_;have j:∀i,(Qf n _ c r).1.getD i 0=(c.eL.map λe=>(Zc _ _ r e)*e.row.1.getD i 0).sum:=λi=>by have:=g i;rw[show(kah n (0:Int),(0)).1=kah n 0 from rfl,b,Int.zero_add]at this;exact this
 have t:(Qf n a_ c r).2=(c.eL.map λe=>(Zc a_ c.over r e:Int)*e.row.2).sum:=by have:=k;rw[show(kah n (0:Int),(0:Int)).2=0 from rfl,Int.zero_add]at this;exact this
 have l:∀i,(c.over:Int) ∣ (Qf n a_ c r).1.getD i 0:=by intro i;by_cases p:i<n;{have k:=h.all (AR a_ r) (x:=T.fe n i)<|QS _ _;(have b:∀e∈c.eL,T.eT e.row.1 (T.fe n i)=e.row.1.getD i 0:=by intro e a;have:=(h.kf e a).1;rw[QD (by rw[this,QS]) (by rw[QS];omega),Ft m p,VA];have⟨g,o,q,u⟩:=D9<|fm e.row.1;rcases uq (show i<4 by omega)with rfl|rfl|rfl|rfl;{exact g};{exact o};{exact q};exact u);apply Rp;rw[j i];(have g:(c.eL.map λe=>(Zc a_ c.over r e:Int)*e.row.1.getD i 0).sum%(c.over:Int)=(c.eL.map λe=>T.eT e.row.1 (T.fe n i)*(AR a_ r).dot (fm e.eS)).sum%(c.over:Int):=by refine Wi λe a=>?_;rw[I_ h d a,b e a,Qp,Int.mul_emod,Int.emod_emod,<-Int.mul_emod];rfl);rw[g,<-k];simp};simp_all
 have k:(c.eL.map λe=>(Zc a_ c.over r e:Int)*e.row.2).sum%(c.over:Int)=rk a_ (fm c.eW) r%(c.over:Int):=by have o:=h.pq<|AR a_ r;have:rk a_ (fm c.eW) r=(c.eL.map λe=>e.row.2*(AR a_ r).dot (fm e.eS)).sum:=o;rw[this];refine Wi λe a=>?_;rw[I_ h d a,Qp,Int.mul_emod,Int.emod_emod,<-Int.mul_emod];rfl
 have q:∀i,(Qu (Qf n a_ c r) c.over).1.getD i 0*(c.over:Int)=(Qf n a_ c r).1.getD i 0:=by intro i;(have:(Qu (Qf n a_ c r) c.over).1.getD i 0=(Qf n a_ c r).1.getD i 0/(c.over:Int):=by show((Qf n a_ c r).1.map λz=>z/(c.over:Int)).getD i 0=_;rw[zk,zR,zk];cases (Qf n a_ c r).1[i]?<;>simp);rw[this];exact Int.ediv_mul_cancel (l i)
 have A:Y (Qu (Qf n a_ c r) c.over).1=n:=by simp[Qu,f]
 have B:∃z∈(Qu (Qf n a_ c r) c.over).1,z≠0:=by refine Ze λf=>?_;(have u:∀i,(Qf n a_ c r).1.getD i 0=0:=by intro i;rw[<-q i];rw[zk];cases hh:(Qu (Qf n a_ c r) c.over).1[i]? with |none=>simp |some v=>have d:=Ze λd=>f ⟨v,zx hh,d⟩;grind);(have D:∀e∈c.eL,(Zc a_ c.over r e:Int)=0:=by intro f o;have⟨l,y,w⟩:=qM o;(have d:c.eL[l]? =E f:=by rw[zg y,w]);have w:=h.kf f o;(have b:(c.eL.map λe=>(Zc a_ c.over r e:Int)*T.eT e.row.1 f.eS).sum=0:=by (have g:∀e∈c.eL,(Zc a_ c.over r e:Int)*T.eT e.row.1 f.eS=(((Zc a_ c.over r e:Int)*e.row.1.getD 0 0*f.eS.getD 0 0+(Zc a_ c.over r e:Int)*e.row.1.getD 1 0*f.eS.getD 1 0)+(Zc a_ c.over r e:Int)*e.row.1.getD 2 0*f.eS.getD 2 0)+(Zc a_ c.over r e:Int)*e.row.1.getD 3 0*f.eS.getD 3 0:=by intro e a;have:=(h.kf e a).1;rw[QD (by omega) om];simp only[dot,fm];grind);rw[B5 g,Fk,Fk,Fk];(have g:∀i,(c.eL.map λe=>(Zc a_ c.over r e:Int)*e.row.1.getD i 0*f.eS.getD i 0).sum=0:=by intro i;(have:(c.eL.map λe=>(Zc a_ c.over r e:Int)*e.row.1.getD i 0*f.eS.getD i 0).sum=f.eS.getD i 0*(c.eL.map λe=>(Zc a_ c.over r e:Int)*e.row.1.getD i 0).sum:=by rw[<-Cj];exact B5 λe _=>Qp _ _);rw[this,<-j i,u i];simp);rw[g,g,g,g];rfl);(have o:(c.eL.map λe=>(Zc a_ c.over r e:Int)*T.eT e.row.1 f.eS).sum=(Zc a_ c.over r f:Int)*(c.over:Int):=by rw[E6 _ _ (by rw[h.len];omega)];(have g:∀i,i<4->((c.eL[i]?.map λe=>(Zc a_ c.over r e:Int)*T.eT e.row.1 f.eS).getD 0)=if i=l then(Zc a_ c.over r f:Int)*(c.over:Int)else 0:=by intro i p;by_cases f:i=l;{subst f;rw[d,zQ rfl,qY,qB,h.oq d d,zQ rfl]};rw[zO f];cases a:c.eL[i]? with |none=>rfl |some e=>rw[qY,qB,h.oq a d,zO f];simp);rw[g 0 om,g 1 om,g 2 om,g 3 om];rcases uq (h.lt d)with rfl|rfl|rfl|rfl<;>simp);rw[o]at b;rcases Int.mul_eq_zero.1 b with e|e;{omega};omega);(have:(c.eL.map λe=>(Zc a_ c.over r e:Int)*e.row.2).sum=0:=ME λe a=>by grind);rw[this]at k;exact s (by simp_all)
 have⟨_,d,e⟩:=B;have a:0<Zm n _ c r:=zqN d e;refine⟨a,?_,λi=>?_,?_,k,s⟩;{show Y ((Qu _ _).1.map _)=n;grind};{(have b:(Zd n a_ c r).1.getD i 0*(Zm n a_ c r:Int)=(Qu (Qf n a_ c r) c.over).1.getD i 0:=by (have:(Zd n a_ c r).1.getD i 0=(Qu (Qf n a_ c r) c.over).1.getD i 0/(Zm n a_ c r:Int):=by show((Qu (Qf n a_ c r) c.over).1.map λz=>z/(Zm n a_ c r:Int)).getD i 0=_;rw[zk,zR,zk];cases (Qu (Qf n a_ c r) c.over).1[i]?<;>simp);rw[this];apply Int.ediv_mul_cancel;rw[zk];cases hh:(Qu (Qf n a_ c r) c.over).1[i]? with |none=>simp |some v=>exact S5 _<|zx hh);grind};show(Qu _ _).2/(Zm n _ c r)=_;rw[<-t,J0];exact Int.ediv_ediv_of_nonneg om
end
section
open V4
theorem Ou {g x}(h:Y g=Y x)(a:Y x<=4):T.eT g x=g.getD 0 0*x.getD 0 0+g.getD 1 0*x.getD 1 0+g.getD 2 0*x.getD 2 0+g.getD 3 0*x.getD 3 0:=QD h a
section
variable {n:Nat} {a_:L_} {c:fO} {r:Nat}
theorem Rm (h:Qy n a_ c)(k:xG n a_ c r){x}(a:Y x=n):(((c.over*Zm n a_ c r:Nat)))*T.eT (Zd n a_ c r).1 x=(c.eL.map λe=>(Zc a_ c.over r e)*T.eT e.row.1 x).sum:=by
 have b:=h.n4;rw[Ou (by rw[k.len,a]) om];have b:∀e∈c.eL,(Zc a_ c.over r e:Int)*T.eT e.row.1 x=((x.getD 0 0*((Zc a_ c.over r e:Int)*e.row.1.getD 0 0)+x.getD 1 0*((Zc a_ c.over r e:Int)*e.row.1.getD 1 0))+x.getD 2 0*((Zc a_ c.over r e:Int)*e.row.1.getD 2 0))+x.getD 3 0*((Zc a_ c.over r e:Int)*e.row.1.getD 3 0):=by intro e d;have:=(h.kf e d).1;rw[Ou (by omega) om];grind
 rw[B5 b,Fk,Fk,Fk,Cj,Cj,Cj,Cj,<-k.row 0,<-k.row 1,<-k.row 2,<-k.row 3];grind
theorem FQ (h:Qy n a_ c)(k:xG n a_ c r):0<(((c.over*Zm n a_ c r:Nat):Int)):=by have:=QE h.pos k.shared;omega
theorem Up (h:Qy n a_ c)(k:xG n a_ c r){j:Nat}{f}(a:c.eL[j]? =E f):(Zm n a_ c r)*T.eT (Zd n a_ c r).1 f.eS=(Zc a_ c.over r f):=by
 have b:=h.n4;have hp:=h.pos;have g:=Rm h k (h.mem a).2;have l:(c.eL.map λe=>(Zc a_ c.over r e:Int)*T.eT e.row.1 f.eS).sum=(Zc a_ c.over r f:Int)*(c.over:Int):=by rw[E6 _ _ (by rw[h.len];omega)];(have b:∀i,i<4->((c.eL[i]?.map λe=>(Zc a_ c.over r e:Int)*T.eT e.row.1 f.eS).getD 0)=if i=j then(Zc a_ c.over r f:Int)*(c.over:Int)else 0:=by intro i d;by_cases d:i=j;{subst d;rw[a,zQ rfl,qY,qB,h.oq a a,zQ rfl]};rw[zO d];cases he:c.eL[i]? with |none=>rfl |some e=>rw[qY,qB,h.oq he a,zO d];simp);rw[b 0 om,b 1 om,b 2 om,b 3 om];rcases uq (h.lt a)with rfl|rfl|rfl|rfl<;>simp
 rw[l,J0]at g;apply QU (show(c.over:Int)≠0 by omega);grind
theorem zqO (h:Qy n a_ c)(k:xG n a_ c r):(Zm n a_ c r)*Z2 c (Zd n a_ c r)=(((c.over*Zm n a_ c r:Nat)))*(Zd n a_ c r).2-(c.eL.map λe=>(Zc a_ c.over r e)*e.row.2).sum:=by
 have hp:=h.pos;have a:=Rm h k h.gh;have b:(c.eL.map λe=>(Zc a_ c.over r e:Int)*T.eT e.row.1 c.eW).sum=(c.over:Int)*(c.eL.map λe=>(Zc a_ c.over r e:Int)*e.row.2).sum:=by rw[<-Cj];refine B5 λe d=>?_;have⟨j,g,f⟩:=qM d;rw[h.oV (i:=j)<|by grind];grind
 rw[b]at a;apply QU (show(c.over:Int)≠0 by omega);unfold Z2;grind
theorem Ue (h:Qy n a_ c)(k:xG n a_ c r):(Zm n a_ c r)*Z2 c (Zd n a_ c r)<=-(rk a_ (fm c.eW) r%(c.over)):=by
 have hp:=h.pos;have a:=FQ h k;rw[zqO h k,k.most];generalize a:(c.eL.map λe=>(Zc a_ c.over r e:Int)*e.row.2).sum=S;have b:=k.rest;rw[a]at b;have a:=jA S<|((c.over*Zm n a_ c r:Nat));have a:(S%(((c.over*Zm n a_ c r:Nat))))%(c.over)=S%(c.over):=Int.emod_emod_of_dvd _ sp;have a:(S%(((c.over*Zm n a_ c r:Nat):Int)))%(c.over:Int)<=S%(((c.over*Zm n a_ c r:Nat):Int)):=by have a:=J3 S (show(((c.over*Zm n a_ c r:Nat):Int))≠0 by omega);have b:=jA (S%(((c.over*Zm n a_ c r:Nat):Int))) (c.over:Int);have b:0<=(S%(((c.over*Zm n a_ c r:Nat):Int)))/(c.over:Int):=Int.ediv_nonneg a om;have a:=GL (show 0<=(c.over:Int)by omega) b;omega
 omega
theorem VY (h:Qy n a_ c)(k:xG n a_ c r):Z2 c (Zd n a_ c r)<0:=by have hp:=h.pos;have a:=k.shared;have a:=Ue h k;have a:=J3 (rk a_ (fm c.eW) r) (show(c.over:Int)≠0 by omega);have a:=k.part;refine Ze λa=>?_;have a:=GL (show 0<=(Zm n a_ c r:Int)by omega) (show 0<=Z2 c (Zd n a_ c r)by omega);omega
theorem Yj (h:Qy n a_ c)(k:xG n a_ c r){x}(f:Y x=n)(d:∀e∈c.eL,T.eT e.row.1 x<=e.row.2):T.eT (Zd n a_ c r).1 x<=(Zd n a_ c r).2:=by
 have b:=FQ h k;have a:=Rm h k f;rw[k.most];apply(MP b).2;rw[Qp,a];have:0<=(c.eL.map λe=>(Zc a_ c.over r e:Int)*e.row.2+(-1)*((Zc a_ c.over r e:Int)*T.eT e.row.1 x)).sum:=by refine Wp λe a=>?_;have b:=ZI (d e a) (show 0<=(Zc a_ c.over r e:Int)by omega);omega
 rw[Fk,Cj]at this;omega
theorem RS (h:Qy n a_ c)(k:xG n a_ c r):∃e∈c.eL,0<T.eT (Zd n a_ c r).1 e.eS:=by
 refine Ze λg=>?_;have i:∀e∈c.eL,(Zc a_ c.over r e:Int)=0:=by intro e a;have⟨j,d,b⟩:=qM a;have l:=Up h k (j:=j) (f:=e) (by grind);have b:=k.shared;(have d:T.eT (Zd n a_ c r).1 e.eS<=0:=by refine Ze λb=>g ⟨e,a,om⟩);have:=NW (show 0<=(Zm n a_ c r:Int)by omega) d;omega
 have b:(c.eL.map λe=>(Zc _ _ r e)*e.row.2).sum=0:=ME λe a=>by rw[i e a];simp
 have a:=k.rest;rw[b]at a;exact k.part (by simp_all)
end
def Lz (a_:L_)(P:V4)(o:Nat)(r:Nat)(P':V4)(o':Nat):Prop:=
 (∃i,i<r/\(∀k,k<i->(o)*rk a_ P' k=(o')*rk a_ P k)/\(o)*rk a_ P' i<(o')*rk a_ P i)\/
 ((∀k,k<r->(o)*rk a_ P' k=(o')*rk a_ P k)/\rk a_ P' r<=(o')*(rk a_ P r/(o)))
theorem znJ {n:Nat}{a_:L_}{c c':fO}{r num j:Nat}{o:iG}(h:Qy n a_ c)(I:r<5)(k:xG n a_ c r)(x:AX n a_ c (Zd n a_ c r) num c' j o):Lz a_ (fm c.eW) c.over r (fm c'.eW) c'.over:=by
 have hp:=h.pos;have a:∀i,(c.over:Int)*rk a_ (fm c'.eW) i=(c'.over:Int)*rk a_ (fm c.eW) i+Z2 c (Zd n a_ c r)*rk a_ (fm o.eS) i:=by intro i;rw[<-JH,x.eW,KD,JH,JH,x.over]
 have D:=VY h k;have p:=zx x.at_;have⟨i,_,f,F⟩:=h.lex o p;by_cases l:i<r;{refine .inl ⟨i,l,λq e=>?_,?_⟩;{grind};rw[a i];have:=Int.mul_neg_of_neg_of_pos D F;omega};refine .inr ⟨λq e=>?_,?_⟩;{grind};have J:=I_ h I p;have A:=Up h k x.at_;have X:=k.shared;have y:=Ue h k;have t:0<=rk a_ (fm o.eS) r:=g_;(have B:(Zc a_ c.over r o:Int)<=rk a_ (fm o.eS) r:=by rw[J];have P:=jA (rk a_ (fm o.eS) r) (c.over:Int);have w:0<=rk a_ (fm o.eS) r/(c.over:Int):=Int.ediv_nonneg t om;have Q:=GL (show 0<=(c.over:Int)by omega) w;omega);have s:=x.over;have S:=x.mU;generalize R:(Zm n a_ c r:Int)=d at *;generalize W:Z2 c (Zd n a_ c r)=K at *;generalize U:T.eT (Zd n a_ c r).1 o.eS=pv at *;have z:0<d:=om;have v:=jA (rk a_ (fm c.eW) r)<|c.over;have C:=J3 (rk a_ (fm c.eW) r) (show(c.over:Int)≠0 by omega);have g:=a r;generalize hm:rk a_ (fm c.eW) r%(c.over:Int)=m at *;generalize e:rk a_ (fm c.eW) r/(c.over:Int)=q at *;generalize Z:rk a_ (fm c'.eW) r=N at *;generalize b:rk a_ (fm o.eS) r=u at *;rw[<-v,s]at g;rw[s];have s1:=Int.mul_le_mul_of_nonneg_right y t;(have s2:m*(d*pv)<=m*u:=by rw[A];exact ZI B C);(have L:d*(c.over*N)<=d*(c.over*(pv*q)):=by rw[g];grind);have M:=Mo L z;exact Mo M om
end
section
open V4
variable {a:R_}{a_:L_}{n:Nat}
structure Zy where
 over:Nat
 parts:List (Nat×Int)
abbrev qO:=(L_×Int)×Nat
def Qv (c:fO)(rows:List qO):Option qO:=rows.find? λr=>decide (Z2 c r.1<0)
abbrev AF:=fO ⊕ (fO×qO) ⊕ Unit
theorem AF.cs{P:AF->Prop}(ok:∀c,P (.inl c))(no:∀c r,P (.inr (.inl (c,r))))(li:P (.inr (.inr ()))):∀o,P o
 |.inl c=>ok c |.inr (.inl (c,r))=>no c r |.inr (.inr ())=>li
abbrev XF:=@AF.cs
def ZV (a_:L_)(rows:List qO):Nat->fO->AF
 |0,c=>match Qv c rows with
  |none=> .inl c
  |some r=>match Qe a_ c r.1 r.2 with
   |none=> .inr (.inl (c,r))
   |some _=> .inr (.inr ())
 |f+1,c=>match Qv c rows with
  |none=> .inl c
  |some r=>match Qe a_ c r.1 r.2 with
   |none=> .inr (.inl (c,r))
   |some c'=>ZV a_ rows f c'
def qU (n:Nat)(a_:L_)(c:fO):N_:=(kai (n+1)).filter λr=>decide ((qT a_ c.eW).getD r 0%(c.over)≠0)
def Z1 (n:Nat)(a_:L_)(c:fO)(num r:Nat):fO:=(Qe a_ c (Zd n a_ c r) num).getD ⟨0,[],[]⟩
def FY (a_:L_)(c d:fO):Bool:=decide (0<Qx (qT a_ (kar (λa b=>a*(d.over)-b*(c.over)) c.eW d.eW)))
def jF (n:Nat)(a_:L_)(c:fO)(num:Nat):N_->Option Nat->Option Nat
 |[],b=>b
 |r::rs,O=>jF n a_ c num rs (E r)
 |r::rs,E b=>jF n a_ c num rs (E (if FY a_ (Z1 n a_ c num b) (Z1 n a_ c num r)=true then r else b))
def QX (n:Nat)(a_:L_)(c:fO)(r:Nat):Zy:=
 ⟨c.over*Zm n a_ c r,(c.eL.map λe=>(e.num,(Zc a_ c.over r e:Int))).filter λp=>decide (p.2≠0)⟩
def nO (c:fO)(num:Nat):Bool:=c.eL.any λe=>decide (e.num=num)
def jw (c:fO)(given:Nat)(rows:List qO):List qO:=rows.filter λr=>!(decide (given<r.2) && !nO c r.2)
abbrev iO:=(fO×List Zy) ⊕ (fO×qO×List Zy) ⊕ Nat
theorem iO.cs{P:iO->Prop}(gr:∀c ls,P (.inl (c,ls)))(no:∀c r ls,P (.inr (.inl (c,r,ls))))(li:∀k,P (.inr (.inr k))):∀o,P o
 |.inl (c,ls)=>gr c ls |.inr (.inl (c,r,ls))=>no c r ls |.inr (.inr k)=>li k
def ny (n:Nat)(a_:L_)(given eP:Nat):Nat->List qO->fO->List Zy->iO
 |0,rows,c,ls=>match ZV a_ rows eP c with
  |.inr (.inr _)=> .inr (.inr (Y ls))
  |.inr (.inl (c,r))=> .inr (.inl (c,r,ls))
  |.inl c'=>match jF n a_ c' (given+Y ls+1) (qU n a_ c') Option.none with
   |Option.none=> .inl (c',ls)
   |some _=> .inr (.inr (Y ls))
 |k+1,rows,c,ls=>match ZV a_ rows eP c with
  |.inr (.inr _)=> .inr (.inr (Y ls))
  |.inr (.inl (c,r))=> .inr (.inl (c,r,ls))
  |.inl c'=>match jF n a_ c' (given+Y ls+1) (qU n a_ c') Option.none with
   |Option.none=> .inl (c',ls)
   |some r=>ny n a_ given eP k (jw c' given rows ++ [(Zd n a_ c' r,given+Y ls+1)]) c' (ls ++ [QX n a_ c' r])
def Ci (lB:R_)(r:qO):Prop:=1<=r.2/\lB[r.2-1]? =E r.1
theorem Ci.same{r s:qO}(h:Ci a r)(k:Ci a s)(e:r.2=s.2):r.1=s.1:=by have:=h.2;rw[e,k.2]at this;exact(Q8 this).symm
theorem Ci.more{r:qO}(h:Ci a r)(x:R_):Ci (a++x) r:=⟨h.1,by rw[zS<|jQ h.2];exact h.2⟩
def F_ (n:Nat)(lB:R_)(rows:List qO):Prop:=∀r∈rows,Ci lB r/\Y r.1.1=n
structure J4 (n:Nat)(a_:L_)(rows:List qO)(c:fO):Prop where
 fY:Qy n a_ c
 gY:∀e∈c.eL,(e.row,e.num)∈rows
def fO.ge (a_:L_)(c d:fO):Prop:=qz (λi=>(d.over)*rk a_ (fm c.eW) i-(c.over)*rk a_ (fm d.eW) i)
def fO.gt (a_:L_)(c d:fO):Prop:=JK (λi=>(d.over)*rk a_ (fm c.eW) i-(c.over)*rk a_ (fm d.eW) i)
theorem fO.D7(a_)(c:fO):c.ge a_ c:= .inl λ_ _=>Int.sub_self _
abbrev XC:=@fO.D7
theorem fO.gt.ge{c d:fO}(h:c.gt a_ d):c.ge a_ d:= .inr h
theorem fO.CP{c d e:fO}(a:0<d.over)(h1:c.ge a_ d)(h2:d.ge a_ e):c.ge a_ e:=by refine qz.comb h1 h2 (p:=d.over) (q:=e.over) (r:=c.over) om om om λi _=>?_;grind
abbrev XD:=@fO.CP
theorem fO.gt_trans{c d e:fO}(a:0<d.over)(b:0<e.over)(h1:c.gt a_ d)(h2:d.ge a_ e):c.gt a_ e:=by refine JK.comb h1 h2 (p:=d.over) (q:=e.over) (r:=c.over) om om om λi _=>?_;grind
theorem znK{c:fO}{rows:List qO}(f:F_ n a rows)(h:J4 n a_ rows c){r:qO}(j:Ci a r)(b:Z2 c r.1<0):∀e∈c.eL,e.num≠r.2:=by intro e a g;have d:=(f _<|h.gY e a).1;have f:e.row=r.1:=d.same j g;have⟨j,g,d⟩:=qM a;have a:=h.fY.oV (by rw[zg g,d]);unfold Z2 at b;rw[<-f,a,Qp]at b;omega
theorem zrQ{c c'}{r}{num j}{o}(h:Qy n a_ c)(x:AX n a_ c r num c' j o)(a:Z2 c r<0):c.gt a_ c':=by
 refine JK.comb (h.lex o<|zx x.at_) (.inl λ_ _=>rfl) (p:=1) (q:=- Z2 c r) (r:=0) om om om λi _=>?_;have:c.over*rk a_ (fm c'.eW) i=c'.over*rk a_ (fm c.eW) i+Z2 c r*rk a_ (fm o.eS) i:=by rw[<-JH,x.eW,KD,JH,JH,x.over]
 grind
theorem U2{c c'}{rows}{r}{j}{o}(h:J4 n a_ rows c)(x:AX n a_ c r.1 r.2 c' j o)(f:r∈rows):J4 n a_ rows c':=by refine⟨x.fY,λe a=>?_⟩;have⟨i,d,b⟩:=qM a;have a:c'.eL[i]? =E e:=g_;by_cases b:i=j;{subst b;rw[x.new]at a;grind};(have e:i<Y c.eL:=by rw[h.fY.len,<-x.fY.len];exact d);have d:=zg e;rw[x.sy i _ b d]at a;cases a;exact h.gY c.eL[i] (zJ e)
theorem Iy{c:fO}{rows:List qO}{f:R_}(b:F_ n f rows)(h:J4 n a_ rows c){r:qO}(a:r∈rows)(d:Z2 c r.1<0):
 (Qe a_ c r.1 r.2=O->∀e∈c.eL,T.eT r.1.1 e.eS<=0)/\∀c',Qe a_ c r.1 r.2=E c'->J4 n a_ rows c'/\c.gt a_ c':=by have⟨f,g⟩:=RU h.fY (b r a).2<|znK b h (b r a).1 d;refine⟨f,λc' b=>?_⟩;have⟨_,_,x⟩:=g _ b;exact⟨U2 h x a,zrQ h.fY x d⟩
theorem GH{c}{rows}{r}(h:Qv c rows=E r):r∈rows/\Z2 c r.1<0:=⟨List.mem_of_find?_eq_some h,by have:=List.find?_some h;grind⟩
theorem UQ{c}{rows}(h:Qv c rows=O):∀r∈rows,0<=Z2 c r.1:=λr a=>by have:=Pv.1 h r a;simp at this;exact this
theorem F9{rows:List qO}{g:R_}(d:F_ n g rows):∀(f:Nat) (c:fO),J4 n a_ rows c->
 (∀c',ZV a_ rows f c= .inl c'->J4 n a_ rows c'/\c.ge a_ c'/\∀r∈rows,0<=Z2 c' r.1)/\
 (∀c' r,ZV a_ rows f c= .inr (.inl (c',r))->J4 n a_ rows c'/\c.ge a_ c'/\r∈rows/\Z2 c' r.1<0/\∀e∈c'.eL,T.eT r.1.1 e.eS<=0)
 |0,c,h=>by
  rw[ZV];cases hb:Qv c rows with
  |none=>exact⟨λc' a=>by cases a;exact⟨h,XC _ _,UQ hb⟩,λc' r a=>by cases a⟩
  |some r=>
   have⟨b1,b⟩:=GH hb;cases hx:Qe a_ c r.1 r.2 with
   |none=>exact⟨λc' a=>by simp[hx]at a,λc' g a=>by simp only[hx]at a;cases a;exact⟨h,XC _ _,b1,b,(Iy d h b1 b).1 hx⟩⟩
   |some i=>exact⟨λc' a=>by simp[hx]at a,λc' g a=>by simp[hx]at a⟩
 |f+1,c,h=>by
  rw[ZV];cases hb:Qv c rows with
  |none=>exact⟨λc' a=>by cases a;exact⟨h,XC _ _,UQ hb⟩,λc' r a=>by cases a⟩
  |some r=>
   have⟨b1,b⟩:=GH hb;cases hx:Qe a_ c r.1 r.2 with
   |none=>exact⟨λc' a=>by simp[hx]at a,λc' g a=>by simp only[hx]at a;cases a;exact⟨h,XC _ _,b1,b,(Iy d h b1 b).1 hx⟩⟩
   |some i=>
    have⟨j,k⟩:=(Iy d h b1 b).2 i hx;have⟨l,m⟩:=F9 d f i j;simp only[hx];refine⟨λc' a=>?_,λc' g a=>?_⟩
    ·have⟨b,d,i⟩:=l c' a;exact⟨b,XD j.fY.pos k.ge d,i⟩
    ·have⟨b,d,i⟩:=m c' g a;exact⟨b,XD j.fY.pos k.ge d,i⟩
end
section
open V4
variable {a base:R_}{a_:L_}{c:fO}{given n r:Nat}{ls:List Zy}
def Ca (n:Nat)(base:R_)(x:L_):Prop:=Y x=n/\∀r∈base,T.eT r.1 x<=r.2
structure lK (n:Nat)(lB:R_)(l:Zy)(row:L_×Int):Prop where
 pos:0<l.over
 parts:∀p∈l.parts,0<p.2/\∃r,Ci lB (r,p.1)
 len:Y row.1=n
 O4:∀i,(l.over:Int)*row.1.getD i 0=(l.parts.map λp=>p.2*(lB.getD (p.1-1) ([],0)).1.getD i 0).sum
 most:row.2=(l.parts.map λp=>p.2*(lB.getD (p.1-1) ([],0)).2).sum/(l.over:Int)
structure pO (n:Nat)(a_:L_)(base:R_)(rows:List qO)(c:fO)(ls:List Zy)(lB:R_):Prop where
 len:Y lB=Y base+Y ls
 first:lB.take (Y base)=base
 width:∀r∈lB,Y r.1=n
 fH:F_ n lB rows
 given:∀i r,base[i]? =E r->(r,i+1)∈rows
 fY:J4 n a_ rows c
 valid:∀x,Ca n base x->∀r∈lB,T.eT r.1 x<=r.2
 lines:∀i l,ls[i]? =E l->∃row,lB[Y base+i]? =E row/\lK n (lB.take (Y base+i)) l row
theorem NG{r:qO}(h:Ci a r):a.getD (r.2-1) ([],0)=r.1:=by rw[zk,h.2];rfl
theorem MN(f:Nat×Int->Int)(a:∀p,p.2=0->f p=0):∀l:List (Nat×Int),((l.filter λp=>decide (p.2≠0)).map f).sum=(l.map f).sum
 |[]=>rfl |p::l=>by rw[Qz];by_cases h:p.2=0;{simp only[h,ne_eq,not_true_eq_false,decide_false,Gr,DD];rw[MN f a l,Zk,QI,a p h,Int.zero_add]};simp only[h,ne_eq,not_false_eq_true,decide_true,uG];rw[Zk,QI,MN f a l,Zk,QI]
theorem zqP{rows:List qO}{b:R_}(d:F_ n b rows)(h:J4 n a_ rows c)(a:r<5)(k:xG n a_ c r):lK n b (QX n a_ c r) (Zd n a_ c r):=by
 have i:∀e∈c.eL,b.getD (e.num-1) _=e.row:=λe a=>NG (d _<|h.gY e a).1;have f:∀(g:L_×Int->Int),((QX n a_ c r).parts.map λp=>p.2*g (b.getD (p.1-1) ([],0))).sum=(c.eL.map λe=>(Zc a_ c.over r e:Int)*g e.row).sum:=by intro g;unfold QX;simp only;rw[MN _ λp hp=>by grind,wJ];refine B5 λe a=>?_;simp only[Function.comp];rw[i e a]
 refine⟨QE h.fY.pos k.shared,λp hp=>?_,k.len,λi=>?_,?_⟩;{unfold QX at hp;simp only at hp;rw[ZF]at hp;have⟨b,g⟩:=hp;obtain⟨e,a,rfl⟩:=qP.1 b;simp only[ne_eq,Z9]at g;simp only;exact⟨om,_,(d _<|h.gY e a).1⟩};{rw[f λr=>r.1.getD i 0];exact k.row i};rw[f λr=>r.2];exact k.most
theorem Tn{rows}{r}(h:r∈jw c given rows):r∈rows:=(ZF.1 h).1
theorem znL{rows}{e}(a:e∈c.eL)(h:(e.row,e.num)∈rows):(e.row,e.num)∈jw c given rows:=by refine ZF.2 ⟨h,?_⟩;have:nO c e.num=true:=QR.2 ⟨e,a,sp⟩;grind
theorem Ys{rows}{r}(h:r∈rows)(hg:r.2<=given):r∈jw c given rows:=by refine ZF.2 ⟨h,?_⟩;simp;omega
theorem pO.cut{rows:List qO}{b:fO}(h:pO n a_ base rows b ls a)(e:J4 n a_ rows c)(m:r<5)(k:xG n a_ c r):
 pO n a_ base (jw c (Y base) rows ++ [(Zd n a_ c r,Y base+Y ls+1)]) c (ls ++ [QX n a_ c r]) (a ++ [Zd n a_ c r]):=by have l:=h.len;refine⟨g_,?_,?_,?_,?_,⟨e.fY,λg j=>QN _<|znL j<|e.gY g j⟩,?_,?_⟩;{rw[Qq om];exact h.first};{intro x a;rcases zU.1 a with a|a;{exact h.width x a};rw[qg.1 a];exact k.len};{intro x a;rcases zU.1 a with a|a;{have⟨d,b⟩:=h.fH x<|Tn a;exact⟨d.more _,b⟩};rw[qg.1 a];refine⟨⟨sp,?_⟩,k.len⟩;grind};{intro i x b;refine QN _<|Ys (h.given i x b) ?_;grind};{intro x a y f;rcases zU.1 f with f|f;{exact h.valid x a y f};rw[qg.1 f];refine Yj e.fY k a.1 λg j=>?_;have d:=(h.fH _<|e.gY g j).1;exact h.valid x a _<|zx d.2};intro i f b;by_cases a:i<Y ls;{rw[zS a]at b;have⟨row,a,g⟩:=h.lines i f b;grind};have d:=jQ b;simp at d;have a:i=Y ls:=om;subst a;rw[zG<|zh _]at b;simp at b;subst b;refine⟨Zd n a_ c r,g_,?_⟩;rw[<-l,Qq<|zh _,Zx];exact zqP h.fH e m k
theorem pO.to{rows:List qO}{c':fO}(h:pO n a_ base rows c ls a)(b:J4 n a_ rows c'):pO n a_ base rows c' ls a:=⟨h.len,h.first,h.width,h.fH,h.given,b,h.valid,h.lines⟩
theorem GB{num:Nat}:∀(rs:N_) (b:Option Nat) (r:Nat),jF n a_ c num rs b=E r->r∈rs\/b=E r
 |[],b,r,h=> .inr h |x::rs,O,r,h=>by rcases GB rs (E x) r h with h|h;{exact .inl (qq _ h)};cases h;exact .inl qA |x::rs,E b,r,h=>by rcases GB rs _ r h with h|h;{exact .inl (qq _ h)};split at h;{cases h;exact .inl qA};exact .inr h
theorem LR{num:Nat}:∀(rs:N_) (b:Option Nat),jF n a_ c num rs b=O->rs= []/\b=O
 |[],b,h=>⟨rfl,h⟩ |x::rs,O,h=>by have:=(LR rs (E x) h).2;cases this |x::rs,E b,h=>by have:=(LR rs _ h).2;cases this
theorem F8(h:Qy n a_ c):r∈qU n a_ c↔r<n+1/\rk a_ (fm c.eW) r%(c.over)≠0:=by unfold qU;rw[ZF,Z8];have d:=h.n4;constructor;{rintro⟨b,a⟩;rw[DW (by rw[h.mh,h.gh]) (by rw[h.gh];omega) r om]at a;grind};rintro⟨b,a⟩;rw[DW (by rw[h.mh,h.gh]) (by rw[h.gh];omega) r om];grind
def KA (n:Nat)(a_:L_)(base:R_):iO->Prop
 |.inl (c,ls)=>∃rows lB,pO n a_ base rows c ls lB/\(∀r∈rows,0<=Z2 c r.1)/\qU n a_ c= []
 |.inr (.inl (c,r,ls))=>∃rows lB,pO n a_ base rows c ls lB/\r∈rows/\Z2 c r.1<0/\∀e∈c.eL,T.eT r.1.1 e.eS<=0
 |.inr (.inr _)=>True
theorem go_ok{eP:Nat}:∀(k:Nat) (rows:List qO) (c:fO) (ls:List Zy) (lB:R_),pO n a_ base rows c ls lB->KA n a_ base (ny n a_ (Y base) eP k rows c ls)
 |0,rows,c,ls,lB,h=>by
  rw[ny];have⟨s1,s2⟩:=F9 h.fH eP c h.fY;cases hs:ZV a_ rows eP c using XF with
  |li=>trivial
  |no c' r=>
   have⟨a1,a2,a3,a4,a5⟩:=s2 c' r hs;exact⟨rows,lB,h.to a1,a3,a4,a5⟩
  |ok c'=>
   have⟨a1,a2,a3⟩:=s1 c' hs;simp only;cases hd:jF n a_ c' (Y base+Y ls+1) (qU n a_ c') Option.none with
   |none=>exact⟨rows,lB,h.to a1,a3,(LR _ _ hd).1⟩
   |some r=>trivial
 |k+1,rows,c,ls,lB,h=>by
  rw[ny];have⟨s1,s2⟩:=F9 h.fH eP c h.fY;cases hs:ZV a_ rows eP c using XF with
  |li=>trivial
  |no c' r=>
   have⟨a1,a2,a3,a4,a5⟩:=s2 c' r hs;exact⟨rows,lB,h.to a1,a3,a4,a5⟩
  |ok c'=>
   have⟨a1,a2,a3⟩:=s1 c' hs;simp only;cases hd:jF n a_ c' (Y base+Y ls+1) (qU n a_ c') Option.none with
   |none=>exact⟨rows,lB,h.to a1,a3,(LR _ _ hd).1⟩
   |some r=>
    have n4:=a1.fY.n4;have hm:r∈qU n a_ c':=by
     rcases GB _ _ _ hd with hm|hm
     ·exact hm
     ·cases hm
    have⟨m1,m2⟩:=(F8 a1.fY).1 hm;exact go_ok k _ _ _ _ (h.cut a1 (by omega)<|Gj a1.fY (by omega) m2)
theorem pO.ahead{rows:List qO}{b:R_}(h:pO n a_ base rows c ls b){x:L_}(a:Ca n base x):qz (λi=>rk a_ (fm c.eW) i-(c.over:Int)*rk a_ (fm x) i):=by
 have g:=h.fY.fY;have j:∀i,rk a_ (fm c.eW) i-(c.over:Int)*rk a_ (fm x) i=(c.eL.map λe=>(e.row.2-T.eT e.row.1 x)*rk a_ (fm e.eS) i).sum:=by intro i;have:=g.complete a.1<|AR a_ i;show(AR a_ i).dot (fm c.eW)-(c.over:Int)*(AR a_ i).dot (fm x)=(c.eL.map λe=>(e.row.2-T.eT e.row.1 x)*(AR a_ i).dot (fm e.eS)).sum;omega
 have d:∀e∈c.eL,0<=e.row.2-T.eT e.row.1 x:=λe b=>by have f:=(h.fH _<|h.fY.gY e b).1;have:=h.valid x a e.row<|zx f.2;omega
 have b:=g.lex;refine qz.congr ?_ λi _=>(j i).symm;revert d b;generalize c.eL=g;intro d b;induction g with |nil=>exact .inl λi _=>rfl |cons e g g=>have f:=g (λx a=>d x<|qq _ a) λx a=>b x<|qq _ a;refine qz.comb (b e qA).n f (p:=1) (r:=1) om (d e qA) om λi _=>?_;grind
def JZ (c:fO):L_:=c.eW.map λz=>z/(c.over)
theorem Tq(h:Qy n a_ c)(hs:qU n a_ c= []):Y (JZ c)=n/\(fm (JZ c)).smul (c.over)=fm c.eW:=by
 have e:=h.n4;refine⟨by simp[JZ,h.gh],?_⟩;have d:∀i,(c.over:Int) ∣ c.eW.getD i 0:=by intro i;by_cases a:i<n;{(have a:rk a_ (fm c.eW) (i+1)%c.over=0:=by refine Ze λb=>?_;have:=(F8 h).2 ⟨om,b⟩;rw[hs]at this;simp at this);rw[<-DW (by rw[h.mh,h.gh]) (by rw[h.gh];omega) _ om]at a;have e:(qT _ _).getD (i+1) 0=(kar _ a_ c.eW).getD i 0:=rfl;rw[e,JE sp<|by rw[h.mh,h.gh]]at a;split at a;{exact Int.dvd_neg.1<|Rp a};exact Rp a};(have:c.eW.getD i 0=0:=by rw[zk,qL (by rw[h.gh];omega)];rfl);simp_all
 have a:∀i,c.over*(JZ c).getD i 0=c.eW.getD i 0:=by intro i;(have:(JZ c).getD i 0=c.eW.getD i 0/c.over:=by unfold JZ;rw[zk,zR,zk];cases c.eW[i]?<;>simp);rw[this];exact Int.mul_ediv_cancel' (d i)
 exact ext' (a 0) (a 1) (a 2) (a 3)
theorem YY{rows:List qO}(h:pO n a_ base rows c ls a)(k:∀r∈rows,0<=Z2 c r.1)(hs:qU n a_ c= []):
 Ca n base (JZ c)/\∀x,Ca n base x->qz (λi=>rk a_ (fm (JZ c)) i-rk a_ (fm x) i):=by have a:=h.fY.fY;have hp:=a.pos;have f:=a.n4;have⟨e,j⟩:=Tq a hs;refine⟨⟨e,λr l=>?_⟩,λx m=>?_⟩;{have⟨i,d,b⟩:=qM l;have hm:=h.given i r g_;have b:=k _ hm;have d:=(h.fH _ hm).2;simp only at b d;unfold Z2 at b;rw[QD (by rw[d,a.gh]) (by rw[a.gh];omega),<-j,fD,Qp,<-Int.mul_sub]at b;rw[QD om om];(have a:0<=r.2-(fm r.1).dot (fm<|JZ c):=by refine Ze λa=>?_;have:=Int.mul_neg_of_pos_of_neg (show 0<(c.over:Int)by omega) (show r.2-(fm r.1).dot (fm<|JZ c)<0 by omega);omega);omega};refine(h.ahead m).comb (p:=(c.over)) (q:=1) (r:=0) (.inl λ_ _=>rfl) om om om λi _=>?_;rw[<-j,JH];grind
theorem znM{rows:List qO}{c:fO}(h:pO n a_ base rows c ls a){r:qO}(d:r∈rows)(j:Z2 c r.1<0)(hg:∀e∈c.eL,T.eT r.1.1 e.eS<=0):∀x,¬Ca n base x:=by
 intro x b;have a:=h.fY.fY;have hp:=a.pos;have g:=a.n4;have f:=(h.fH _ d).2;have k:=h.valid x b _<|zx (h.fH _ d).1.2;have d:=a.complete b.1<|fm r.1.1;rw[<-QD (by rw[f,b.1]) (by rw[b.1];omega),<-QD (by rw[f,a.gh]) (by rw[a.gh];omega)]at d;have d:(c.eL.map λe=>(e.row.2-T.eT e.row.1 x)*(fm r.1.1).dot (fm e.eS)).sum<=0:=by (have:0<=(c.eL.map λe=>(-1)*((e.row.2-T.eT e.row.1 x)*(fm r.1.1).dot (fm e.eS))).sum:=by refine Wp λe d=>?_;have i:=(h.fH _<|h.fY.gY e d).1;have l:=h.valid x b e.row<|zx i.2;have b:=hg e d;have i:=(a.kf e d).2;rw[QD (by omega)<|by omega]at b;have:=NW (show 0<=e.row.2-T.eT e.row.1 x by omega) b;omega);rw[Cj]at this;omega
 unfold Z2 at j;have:=ZI k (show 0<=(c.over:Int)by omega);grind
end
section
open V4
variable {a:R_}{a_:L_}{c:fO}{n:Nat}{r:L_×Int}
theorem LO{e:Type}[DecidableEq e]:∀(l L:List e),l.Nodup->(∀x∈l,x∈L)->Y l<=Y L
 |[],_,_,_=>sp |a::l,L,d,hs=>by have b:=hs a qA;have g:=LO l (L.erase a) (List.nodup_cons.1 d).2 (λx e=>by have h:x≠a:=λf=>(List.nodup_cons.1 d).1 (by rw[<-f];exact e);exact(List.mem_erase_of_ne h).2<|hs x<|qq _ e);rw[List.length_erase_of_mem b]at g;have:0<Y L:=List.length_pos_of_mem b;simp only[qi];omega
def CS:N_->Nat->List (N_)
 |[],_=> [[]]
 |_::_,0=> [[]]
 |a::l,k+1=>CS l (k+1)++(CS l k).map (λs=>a::s)
def uI:Nat->Nat->Nat
 |0,_=>1
 |_+1,0=>1
 |m+1,k+1=>uI m (k+1)+uI m k
theorem PD:∀(l:N_) (k:Nat),Y (CS l k)=uI (Y l) k
 |[],k=>by simp[CS,uI] |a::l,0=>by simp[CS,uI] |a::l,k+1=>by simp[CS,uI,PD l (k+1),PD l k]
theorem RH:∀(l:N_) (k:Nat) (s:N_),s.Sublist l->Y s<=k->s∈CS l k
 |[],k,s,h,_=>by have:s= []:=List.sublist_nil.1 h;simp[CS,this] |a::l,0,s,h,hk=>by have:s= []:=Qk.1 om;simp[CS,this] |a::l,k+1,s,h,hk=>by rw[CS,zU];cases h with |cons _ h=>exact .inl (RH l (k+1) s h hk) |cons_cons _ h=>rename_i s';exact .inr (qP.2 ⟨s',RH l k s' h (by simp at hk;omega),rfl⟩)
theorem YD:∀(m k:Nat),uI m k<=uI (m+1) k
 |0,0=>by simp[uI] |0,k+1=>by simp[uI] |m+1,0=>by simp[uI] |m+1,k+1=>by rw[uI,uI];exact Nat.le_add_right _ _
theorem Io{m M k}(h:m<=M):uI m k<=uI M k:=by induction h with |refl=>omega |step _ a=>exact zF a (YD _ _)
abbrev CN (r h:L_×Int):Prop:=r=h\/r=(h.1.map (λz=>-z),-h.2)
def vD (H:R_)(r:L_×Int):Nat:=H.findIdx λh=>decide (CN r h)
def I3 (H:R_)(c:fO):N_:=(kai H.length).filter λi=>c.eL.any λe=>decide (vD H e.row=i)
theorem TM{a:R_}(h:∃x∈a,CN r x):∃x,a[vD a r]? =E x/\CN r x:=by have⟨x,d,hp⟩:=h;have b:vD a r<Y a:=List.findIdx_lt_length_of_exists ⟨x,d,g_⟩;refine⟨a[vD a r],zg b,?_⟩;have:=List.findIdx_getElem (w:=b) (p:=λh=>decide (CN r h));exact jU this
theorem zqR{h:L_×Int}{P:L_}{o:Int}(hp:CN r h)(a:Y r.1=Y P)(b:Y P<=4)(e:T.eT r.1 P=o*r.2):T.eT h.1 P=o*h.2:=by rcases hp with rfl|rfl;{omega};simp only[zm]at a;simp only at e;rw[QD g_ b,LZ,kj,<-QD a b]at e;grind
theorem YE{h:L_×Int}{P:L_}{o:Int}(hp:CN r h)(a:Y r.1=Y P)(b:Y P<=4)(e:T.eT h.1 P=o*h.2):T.eT r.1 P=o*r.2:=by rcases hp with rfl|rfl;{omega};simp only[zm]at a;simp only;rw[QD g_ b,LZ,kj,<-QD a b,e];grind
theorem znN{rows:List qO}{a:R_}(o:∀r∈rows,∃h∈a,CN r.1 h){d:fO}(b:J4 n a_ rows c)(g:J4 n a_ rows d)(e:I3 a c=I3 a d):¬c.gt a_ d:=by
 have f:=b.fY.n4;have q:∀f∈c.eL,T.eT f.row.1 d.eW=(d.over:Int)*f.row.2:=by intro f j;have⟨_,m,hp⟩:=TM<|o _<|b.gY f j;have hm:vD a f.row∈I3 a c:=ZF.2 ⟨Z8.2<|jQ m,QR.2 ⟨f,j,sp⟩⟩;rw[e]at hm;have⟨i,k,l⟩:=QR.1 (ZF.1 hm).2;(have l:vD a i.row=vD a f.row:=by simpa using l);have⟨_,a,p⟩:=TM<|o _<|g.gY i k;simp only at m a;rw[l,m]at a;cases a;have⟨o,m,l⟩:=qM k;have a:=g.fY.oV (i:=o) (e:=i) (by grind);have l:=(g.fY.kf i k).1;have k:=(b.fY.kf f j).1;have i:=g.fY.gh;exact YE hp (k.trans i.symm) om (zqR p (l.trans i.symm) om a)
 have l:∀i,(c.over:Int)*rk a_ (fm d.eW) i=(d.over:Int)*rk a_ (fm c.eW) i:=by intro i;have a:=b.fY.all (AR a_ i) (x:=d.eW) g.fY.gh;have g:=b.fY.pq<|AR a_ i;(have b:(c.eL.map λe=>T.eT e.row.1 d.eW*(AR a_ i).dot (fm e.eS)).sum=(d.over:Int)*(c.eL.map λe=>e.row.2*(AR a_ i).dot (fm e.eS)).sum:=by rw[<-Cj];refine B5 λf j=>?_;rw[q f j,Int.mul_assoc]);rw[b,<-g]at a;exact a
 rintro⟨k,_,_,hp⟩;grind
theorem zqT{rows}(a)(b:J4 n a_ rows c):I3 a c∈CS (kai (Y a)) 4:=by refine RH _ _ _ Lt ?_;have d:Y (I3 a c)<=Y (c.eL.map λe=>vD a e.row):=LO _ _ (Mn Lt List.nodup_range) (λx f=>by have⟨g,a,e⟩:=QR.1 (ZF.1 f).2;grind);have a:=b.fY.len;have a:=b.fY.n4;grind
theorem zqU{rows:List qO}{a:R_}(f:∀r∈rows,∃h∈a,CN r.1 h)(m:Y a<=19)(l:List fO)(b:∀c∈l,J4 n a_ rows c)(hp:l.Pairwise (fO.gt a_)):Y l<=5036:=by
 have o:(l.map<|I3 a).Nodup:=by apply List.pairwise_map.2;refine List.Pairwise.imp_of_mem (λ{d e} g i k=>?_) hp;exact λj=>znN f (b d g) (b e i) j k
 have d:=LO _ _ o (λx f=>by obtain⟨c,e,rfl⟩:=qP.1 f;exact zqT a<|b c e);rw[PD,OT,zm]at d;have b:uI _ 4<=uI _ 4:=Io m;have a:uI 19 4=5036:=dc;omega
theorem S9{rows:List qO}(i:F_ n a rows):∀(f:Nat) (c:fO),J4 n a_ rows c->ZV a_ rows f c= .inr (.inr ())->∃l:List fO,Y l=f+1/\(∀d∈l,J4 n a_ rows d)/\(c::l).Pairwise (fO.gt a_)
 |0,c,h,hs=>by
  rw[ZV]at hs;cases hb:Qv c rows with
  |none=>simp[hb]at hs
  |some r=>
   have⟨b1,g⟩:=GH hb;simp only[hb]at hs;cases a:Qe a_ c r.1 r.2 with
   |none=>simp[a]at hs
   |some d=>
    have⟨b,e⟩:=(Iy i h b1 g).2 d a;exact⟨[d],rfl,λx a=>by rw[qg.1 a];exact b,by simpa using e⟩
 |f+1,c,h,hs=>by
  rw[ZV]at hs;cases hb:Qv c rows with
  |none=>simp[hb]at hs
  |some r=>
   have⟨b1,g⟩:=GH hb;simp only[hb]at hs;cases a:Qe a_ c r.1 r.2 with
   |none=>simp[a]at hs
   |some d=>
    simp only[a]at hs;have⟨b,e⟩:=(Iy i h b1 g).2 d a;have⟨l,k,g,j⟩:=S9 i f d b hs;refine⟨d::l,by simp[k],λx a=>?_,List.pairwise_cons.2 ⟨λx a=>?_,j⟩⟩
    ·rcases zI.1 a with rfl|a
     ·exact b
     ·exact g x a
    ·rcases zI.1 a with rfl|a
     ·exact e
     ·exact fO.gt_trans b.fY.pos (g x a).fY.pos e ((List.pairwise_cons.1 j).1 x a).ge
theorem Vs{rows:List qO}{o:R_}{b:R_}(i:F_ n o rows)(d:∀r∈rows,∃h∈b,CN r.1 h)(g:Y b<=19){f:Nat}(p:10000<=f)(h:J4 n a_ rows c):ZV a_ rows f c≠ .inr (.inr ()):=by intro j;have⟨l,_,k,m⟩:=S9 i f c h j;have:=zqU d g _ (λx a=>by rcases zI.1 a with e|a;{exact e▸h};exact k x a) m;grind
structure tP (n:Nat)(base:R_)(H:R_)(rows:List qO):Prop where
 nodup:(rows.map λr=>r.2).Nodup
 planes:∀r∈rows,r.2<=Y base->∃h∈H,CN r.1 h
 fE:Y (rows.filter λr=>decide (Y base<r.2))<=n+1
theorem tP.all{base}{rows}(h:tP n base a rows)(e:n<=4)(d:Y a<=14):∃b:R_,Y b<=19/\∀r∈rows,∃x∈b,CN r.1 x:=by refine⟨a++(rows.filter λr=>decide (Y base<r.2)).map (λr=>r.1),by have:=h.fE;grind,λr a=>?_⟩;by_cases b:r.2<=Y base;{have⟨x,d,hp⟩:=h.planes r a b;grind};grind
theorem tP.cut{base:R_}{rows:List qO}(h:tP n base a rows)(g:Qy n a_ c){num:Nat}(row:L_×Int)(f:∀r∈rows,r.2<num)(hg:Y base<num):tP n base a (jw c (Y base) rows ++ [(row,num)]):=by have d:(jw c (Y base) rows).Sublist _:=Lt;refine⟨?_,λr a b=>?_,?_⟩;{rw[Z6];refine List.nodup_append.2 ⟨Mn (d.map _) h.nodup,sp,?_⟩;grind};{rcases zU.1 a with a|a;{exact h.planes r (d.mem a) b};grind};rw[je,zM];(have b:Y ((jw c (Y base) rows).filter λr=>decide (Y base<r.2))<=n:=by (have f:Y (((jw c (Y base) rows).filter λr=>decide (Y base<r.2)).map λr=>r.2)<=Y (c.eL.map λe=>e.num):=by refine LO _ _ (Mn ((Lt.trans d).map _) h.nodup) λx b=>?_;obtain⟨r,a,rfl⟩:=qP.1 b;have⟨d,b⟩:=ZF.1 a;have⟨_,a⟩:=ZF.1 d;(have b:Y base<r.2:=by simpa using b);(have d:nO c r.2=true:=by simp[b]at a;exact a);have⟨e,a,b⟩:=QR.1 d;exact qP.2 ⟨e,a,by grind⟩);rw[zm,zm,g.len]at f;exact f);grind
end
section
open V4
variable {L wd:Nat->Int}{a x y:Int}
def z_ (mn:Nat->Int)(wd:Nat->Int)(L:Nat->Int):Int:=((((L 0-mn 0)*wd 1+(L 1-mn 1))*wd 2+(L 2-mn 2))*wd 3+(L 3-mn 3))*wd 4+(L 4-mn 4)
theorem Dm{b w:Int}(d:a<b)(f:x<=w-1)(g:0<=y)(e:1<=w):a*w+x<b*w+y:=by have h:=Int.mul_le_mul_of_nonneg_right (show a+1<=b by omega) (show 0<=w by omega);grind
theorem zrR{a e:Nat->Int}(d:∀i,i<5->1<=wd i)(g:∀i,i<5->a i<=L i/\L i<=a i+wd i-1)(j:∀i,i<5->a i<=e i/\e i<=a i+wd i-1){k:Nat}(o:k<5)(b:∀i,i<k->L i=e i)(p:L k<e k):z_ a wd L<z_ a wd e:=by have r:∀i,i<5->0<=L i-a i/\L i-a i<=wd i-1/\0<=e i-a i:=λi f=>g_;have m:L 0-a 0<e 0-a 0->z_ a _ L<z_ a _ e:=λh=>Dm (Dm (Dm (Dm h (r 1 om).2.1 (r 1 om).2.2<|d 1 om) (r 2 om).2.1 (r 2 om).2.2<|d 2 om) (r 3 om).2.1 (r 3 om).2.2<|d 3 om) (r 4 om).2.1 (r 4 om).2.2<|d 4 om;have l:k=0\/k=1\/k=2\/k=3\/k=4:=om;rcases l with rfl|rfl|rfl|rfl|rfl;{omega};{unfold z_;rw[b 0 om];exact Dm (Dm (Dm om (r 2 om).2.1 (r 2 om).2.2<|d 2 om) (r 3 om).2.1 (r 3 om).2.2<|d 3 om) (r 4 om).2.1 (r 4 om).2.2<|d 4 om};{unfold z_;rw[b 0 om,b 1 om];exact Dm (Dm om (r 3 om).2.1 (r 3 om).2.2<|d 3 om) (r 4 om).2.1 (r 4 om).2.2<|d 4 om};{unfold z_;rw[b 0 om,b 1 om,b 2 om];exact Dm om (r 4 om).2.1 (r 4 om).2.2<|d 4 om};unfold z_;grind
theorem zmI{a}(d:∀i,i<5->1<=wd i)(b:∀i,i<5->a i<=L i):0<=z_ a wd L:=by
 unfold z_;have r:∀i,i<5->0<=L i-a i:=λi a=>g_;have w:∀i,i<5->0<=wd i:=λi a=>g_;have a:∀{b d c:Int},0<=b->0<=d->0<=c->0<=b*d+c:=λb d e=>by have:=GL b d;omega
 exact a (a (a (a (r 0 om) (w 1 om)<|r 1 om) (w 2 om)<|r 2 om) (w 3 om)<|r 3 om) (w 4 om) (r 4 om)
theorem znO{b}(a:∀i,i<5->1<=wd i)(d:∀i,i<5->b i<=L i/\L i<=b i+wd i-1):z_ b wd L<wd 0*wd 1*wd 2*wd 3*wd 4:=by
 unfold z_;have r:∀i,i<5->L i-b i<=wd i-1:=λi b=>g_;have e:∀{b d w c:Int},b<d->1<=w->c<=w-1->b*w+c<d*w:=λ{b d w c} f a g=>by have h:=Dm f g (Int.le_refl 0) a;omega
 exact e (e (e (e g_ (a 1 om)<|r 1 om) (a 2 om)<|r 2 om) (a 3 om)<|r 3 om) (a 4 om) (r 4 om)
theorem RP(b:0<a)(h:a*x<a*y):x<y:=Int.lt_of_mul_lt_mul_left h om
theorem U7(b:0<a)(h:a*x<=a*y):x<=y:=Mo h b
theorem Uz(b:0<a)(h:a*x=a*y):x=y:=QU om h
theorem Lz.Ej{a_:L_}{P e d:V4}{o b a r:Nat}(ho:0<o)(f:0<b)(j:0<a)(B:r<5)(h:Lz a_ P o r e b)(g:qz (λi=>(a:Int)*rk a_ e i-(b:Int)*rk a_ d i)):Lz a_ P o r d a:=by
 have j:(0:Int)<o:=om;have w:(0:Int)<b:=om;have p:(0:Int)<a:=om;have s:∀k,(o)*rk a_ e k=(b)*rk a_ P k->(a)*rk a_ e k-(b)*rk a_ d k=0->(o)*rk a_ d k=(a)*rk a_ P k:=λk f q=>by apply Uz w;grind
 have x:∀k,(o)*rk a_ e k=(b)*rk a_ P k->0<(a)*rk a_ e k-(b)*rk a_ d k->(o)*rk a_ d k<(a)*rk a_ P k:=λk f q=>by apply RP w;have v:(b)*rk a_ d k<(a)*rk a_ e k:=om;have l:=Int.mul_lt_mul_of_pos_left v j;have y:(o)*((b)*rk a_ d k)=(b)*((o)*rk a_ d k):=g_;have j:(o)*((a)*rk a_ e k)=(b)*((a)*rk a_ P k):=g_;omega
 have m:∀k,(o)*rk a_ e k<(b)*rk a_ P k->0<=(a)*rk a_ e k-(b)*rk a_ d k->(o)*rk a_ d k<(a)*rk a_ P k:=λk f q=>by apply RP w;have v:(b)*rk a_ d k<=(a)*rk a_ e k:=om;have l:=ZI v (show 0<=(o:Int)by omega);have l:=Int.mul_lt_mul_of_pos_left f p;grind
 rcases h with ⟨i,z,f,q⟩|⟨f,q⟩;{rcases g with g|⟨l,A,p,u⟩;{exact .inl ⟨i,z,λk j=>s k (f k j)<|g k om,m i q g_⟩};by_cases t:l<i;{exact .inl ⟨l,om,λk j=>s k (f k om)<|p k j,x l (f l t) u⟩};refine .inl ⟨i,z,λk j=>s k (f k j)<|p k om,m i q ?_⟩;grind};(have z:0<=(a)*rk a_ e r-(b)*rk a_ d r->rk a_ d r<=(a)*(rk a_ P r/(o)):=λm=>by apply U7 w;have v:=ZI q (show 0<=(a:Int)by omega);grind);rcases g with g|⟨l,A,p,u⟩;{exact .inr ⟨λk j=>s k (f k j)<|g k om,z g_⟩};by_cases t:l<r;{exact .inl ⟨l,t,λk j=>s k (f k om)<|p k j,x l (f l t) u⟩};refine .inr ⟨λk j=>s k (f k j)<|p k om,z ?_⟩;grind
def jo (a_:L_)(mx:Nat->Int)(P:V4)(o r:Nat)(i:Nat):Int:=if i<=r then rk a_ P i/(o)else mx i
theorem zoL{a_:L_}{mx:Nat->Int}{P d:V4}{o b r a:Nat}(ho:0<o)(e:0<b)(u:a<5)(s:∀k,k<r->rk a_ P k%(o:Int)=0)(f:∀k,k<a->rk a_ d k%(b:Int)=0)(p:rk a_ d a%(b:Int)≠0)(t:∀k,k<5->rk a_ d k<=(b:Int)*mx k)(h:Lz a_ P o r d b):
 ∃k,k<5/\(∀i,i<k->jo a_ mx d b a i=jo a_ mx P o r i)/\jo a_ mx d b a k<jo a_ mx P o r k:=by
 have m:(0:Int)<o:=om;have y:(0:Int)<b:=om;have j:∀k,k<r->(o)*rk _ d k=(b)*rk a_ P k->rk a_ d k=(b)*(rk a_ P k/(o)):=λk e g=>by have f:=jA (rk a_ P k)<|o;rw[s k e]at f;apply Uz m;rw[g];grind
 have z:∀k,k<r->(o)*rk _ d k=(b)*rk _ P k->a≠k:=λk e g l=>by subst l;rw[j a e g]at p;simp_all
 have v:∀{x q:Int},x<=(b)*q->x/(b)<=q:=λ{x q} g=>by have:=Int.ediv_le_ediv y g;rwa [jI _ om]at this
 have w:∀{x q:Int},x<(b)*q->x/(b)<q:=λ{x q} g=>(Int.ediv_lt_iff_lt_mul y).2 g_;rcases h with ⟨i,g,f,q⟩|⟨f,q⟩;{have x:i<=a:=g_;refine⟨i,om,λk e=>?_,?_⟩;{unfold jo;rw[zQ om,zQ om,j k om<|f k e];exact jI _ om};unfold jo;rw[zQ om,zQ om];refine w<|RP m ?_;have m:=jA (rk a_ P i)<|o;rw[s i g]at m;have:(o)*((b)*(rk a_ P i/(o)))=(b)*rk a_ P i:=g_;omega};have y:r<=a:=g_;(have s:∀k,k<r->jo _ mx d b a k=jo _ mx P o r k:=λk e=>by unfold jo;rw[zQ om,zQ om,j k e<|f k e];exact jI _ om);(have f:jo a_ mx d b a r<=jo a_ mx P o r r:=by unfold jo;rw[zQ y,zQ<|zh _];exact v q);rcases jd f with f|j;{grind};(have f:r≠a:=by intro l;subst l;unfold jo at j;rw[zQ<|zh _,zQ<|zh _]at j;have m:=jA (rk a_ d r) (b:Int);rw[j]at m;have f:=J3 (rk a_ d r) (show(b:Int)≠0 by omega);omega);(have q:∀k,k<5->r<k->jo _ _ d b a k<=mx k:=λk e f=>by unfold jo;split;{exact v<|t k e};exact Int.le_refl _);(have v:jo a_ mx d b a a<mx a:=by unfold jo;rw[zQ<|zh _];apply w;have f:=t a u;rcases jd f with f|f;{omega};simp_all);(have l:∀k,r<k->jo a_ _ P o r k=mx k:=λk e=>by unfold jo;rw[zO om]);grind
end
section
open V4
variable {a_:L_}{base:R_}{c:fO}{n r:Nat}{rg:Nat->Int×Int}
def Md (n:Nat)(base:R_)(rg:Nat->Int×Int):Prop:=∀i,i<4->(i<n->(T.fe n i,(rg i).2)∈base/\((T.fe n i).map (λz=>-z),-(rg i).1)∈base)/\(n<=i->rg i=(0,0))
def B7 (a_:L_)(rg:Nat->Int×Int)(k:Nat):Int:=
 match k with
 |0=>(if a_.getD 0 0<=0 then a_.getD 0 0*(rg 0).1 else a_.getD 0 0*(rg 0).2)+(if a_.getD 1 0<=0 then a_.getD 1 0*(rg 1).1 else a_.getD 1 0*(rg 1).2)+(if a_.getD 2 0<=0 then a_.getD 2 0*(rg 2).1 else a_.getD 2 0*(rg 2).2)+(if a_.getD 3 0<=0 then a_.getD 3 0*(rg 3).1 else a_.getD 3 0*(rg 3).2)
 |i+1=>if a_.getD i 0<=0 then -(rg i).1 else(rg i).2
def BU (a_:L_)(rg:Nat->Int×Int)(k:Nat):Int:=
 match k with
 |0=>(if a_.getD 0 0<=0 then a_.getD 0 0*(rg 0).2 else a_.getD 0 0*(rg 0).1)+(if a_.getD 1 0<=0 then a_.getD 1 0*(rg 1).2 else a_.getD 1 0*(rg 1).1)+(if a_.getD 2 0<=0 then a_.getD 2 0*(rg 2).2 else a_.getD 2 0*(rg 2).1)+(if a_.getD 3 0<=0 then a_.getD 3 0*(rg 3).2 else a_.getD 3 0*(rg 3).1)
 |i+1=>if a_.getD i 0<=0 then -(rg i).2 else(rg i).1
def yE (a_:L_)(rg:Nat->Int×Int)(k:Nat):Int:=B7 a_ rg k-BU a_ rg k+1
def Gz (a_:L_)(rg:Nat->Int×Int):Int:=yE a_ rg 0*yE a_ rg 1*yE a_ rg 2*yE a_ rg 3*yE a_ rg 4
theorem KR{rows:List qO}(a:Qy n a_ c)(o:∀i r,base[i]? =E r->(r,i+1)∈rows)(hb:Md n base rg)(s:∀r∈rows,0<=Z2 c r.1)(i:Nat)(g:i<4):(c.over:Int)*(rg i).1<=c.eW.getD i 0/\c.eW.getD i 0<=(c.over:Int)*(rg i).2:=by have b:=a.n4;have⟨k,l⟩:=hb i g;by_cases h:i<n;{have⟨v,w⟩:=k h;(have j:∀r,r∈base->0<=Z2 c r:=λr t=>by have⟨u,q,p⟩:=qM t;exact s _<|o u r g_);have d:=j _ v;have e:=j _ w;unfold Z2 at d e;simp only at d e;(have f:T.eT (T.fe n i) c.eW=c.eW.getD i 0:=by rw[QD (by rw[QS,a.gh]) (by rw[a.gh];omega),Ft b h];have⟨x,y,z,A⟩:=D9<|fm c.eW;rcases uq g with rfl|rfl|rfl|rfl;{exact x};{exact y};{exact z};exact A);(have m:T.eT ((T.fe n i).map λB=>-B) c.eW=- c.eW.getD i 0:=by rw[QD (by simp[QS,a.gh]) (by rw[a.gh];omega),LZ,kj,<-QD (by rw[QS,a.gh]) (by rw[a.gh];omega),f];omega);grind};rw[l om];(have:c.eW.getD i 0=0:=by rw[zk,qL (by rw[a.gh];omega)];rfl);omega
theorem Wh(a:Qy n a_ c)(h:∀i,i<4->(c.over:Int)*(rg i).1<=c.eW.getD i 0/\c.eW.getD i 0<=(c.over:Int)*(rg i).2)(k:Nat)(b:k<5):(c.over:Int)*BU a_ rg k<=rk a_ (fm c.eW) k/\rk a_ (fm c.eW) k<=(c.over:Int)*B7 a_ rg k:=by
 have one:∀i,i<4->(c.over:Int)*(if a_.getD i 0<=0 then a_.getD i 0*(rg i).2 else a_.getD i 0*(rg i).1)<=a_.getD i 0*c.eW.getD i 0/\a_.getD i 0*c.eW.getD i 0<=(c.over:Int)*(if a_.getD i 0<=0 then a_.getD i 0*(rg i).1 else a_.getD i 0*(rg i).2):=by intro i d;have⟨a,b⟩:=h i d;have f:(c.over:Int)*(a_.getD i 0*(rg i).1)=a_.getD i 0*((c.over:Int)*(rg i).1):=g_;have g:(c.over:Int)*(a_.getD i 0*(rg i).2)=a_.getD i 0*((c.over:Int)*(rg i).2):=g_;split;{rename_i e;rw[f,g];exact⟨O6 e b,O6 e a⟩};simp_all
 cases k with |zero=>have e:=one 0 om;have e:=one 1 om;have e:=one 2 om;have e:=one 3 om;have e:rk _ (fm _) 0=a_.getD 0 0*c.eW.getD 0 0+a_.getD 1 0*c.eW.getD 1 0+a_.getD 2 0*c.eW.getD 2 0+a_.getD 3 0*c.eW.getD 3 0:=rfl;rw[e];unfold BU B7;grind |succ i=>have d:i<4:=om;have⟨a,b⟩:=h i d;(have f:(QV i).dot (fm c.eW)=c.eW.getD i 0:=by have⟨g,h,j,l⟩:=D9<|fm c.eW;rcases uq d with rfl|rfl|rfl|rfl;{exact g};{exact h};{exact j};exact l);have e:rk _ _ (i+1)=(if a_.getD i 0<=0 then(QV i).smul (-1)else QV i).dot (fm c.eW):=rfl;rw[e];unfold BU B7;simp only;split;{rw[kj,f,Nv,Nv];omega};omega
theorem GK(h:∀i,i<4->(rg i).1<=(rg i).2)(k)(a:k<5):1<=yE a_ rg k:=by
 have one:∀i,i<4->(if a_.getD i 0<=0 then a_.getD i 0*(rg i).2 else a_.getD i 0*(rg i).1)<=(if a_.getD i 0<=0 then a_.getD i 0*(rg i).1 else a_.getD i 0*(rg i).2):=by intro i b;split;{rename_i a;exact O6 a<|h i b};simp_all
 unfold yE;cases k with |zero=>have:=one 0 om;have:=one 1 om;have:=one 2 om;have:=one 3 om;unfold B7 BU;grind |succ i=>have:=h i om;unfold B7 BU;grind
theorem Nr(d:Qy n a_ c)(b:∀i,i<4->(c.over)*(rg i).1<=c.eW.getD i 0/\c.eW.getD i 0<=(c.over)*(rg i).2)(r):
 (∀i,i<5->1<=yE a_ rg i)/\∀i,i<5->BU a_ rg i<=jo a_ (B7 a_ rg) (fm c.eW) c.over r i/\jo a_ (B7 a_ rg) (fm c.eW) c.over r i<=BU a_ rg i+yE a_ rg i-1:=by
 have hp:=d.pos;have f:∀i,i<4->(rg i).1<=(rg i).2:=λi a=>by have⟨_,_⟩:=b i a;exact U7 (show 0<(c.over:Int)by omega) om
 have e:=GK (a_:=a_) f;refine⟨e,λi a=>?_⟩;have⟨f,g⟩:=Wh d b i a;have b:=e i a;have a:BU a_ rg i+yE a_ rg i-1=B7 a_ rg i:=by unfold yE;omega
 rw[a];unfold yE at b;unfold jo;split;{refine⟨(MP om).2 g_,?_⟩;have:=Int.ediv_le_ediv (show 0<(c.over:Int)by omega) g;rwa [jI _ om]at this};omega
theorem T7(p:Nat->Bool):∀(m s r:Nat) (rs:N_),(List.range' s m).filter p=r::rs->s<=r/\r<s+m/\p r=true/\∀k,s<=k->k<r->p k=false
 |0,s,r,rs,h=>by simp at h |m+1,s,r,rs,h=>by rw[List.range'_succ,Qz]at h;by_cases hp:p s=true;{rw[zQ hp]at h;simp only[IU]at h;obtain⟨rfl,_⟩:=h;exact⟨zh _,om,hp,λk a b=>om⟩};rw[zO hp]at h;obtain⟨a,b,a,b⟩:=T7 p m (s+1) r rs h;refine⟨om,om,a,λk a a=>?_⟩;by_cases d:k=s;{subst d;simpa using hp};exact b k om a
theorem VM(h:Qy n a_ c){rs:N_}(hs:qU n a_ c=r::rs):r<5/\rk a_ (fm c.eW) r%(c.over)≠0/\∀k,k<r->rk a_ (fm c.eW) k%(c.over)=0:=by have e:=h.n4;have a:=hs;unfold qU at a;rw[PL]at a;have⟨_,_,_,b⟩:=T7 _ _ _ _ _ a;have hm:=(F8 h).1 (by rw[hs];exact qA);refine⟨om,hm.2,λk d=>?_⟩;have a:=b k om d;simp only[ne_eq,decide_not,Bool.not_eq_false',Z9]at a;rwa [DW (by rw[h.mh,h.gh]) (by rw[h.gh];omega) k om]at a
theorem Uc{d:fO}(e:Qy n a_ c)(g:Qy n a_ d):FY a_ c d=true↔c.gt a_ d:=by
 have h:=e.n4;unfold FY;rw[decide_eq_true_iff];have f:Y (kar (λa b=>a*(d.over:Int)-b*(c.over:Int)) c.eW d.eW)=n:=by simp[e.gh,g.gh]
 rw[Po (by rw[e.mh,f]) om];have h:fm (kar (λa b=>a*(d.over:Int)-b*(c.over:Int)) c.eW d.eW)=((fm c.eW).smul (d.over:Int)).add ((fm d.eW).smul<|-(c.over:Int)):=by (have f:∀i,(kar (λa b=>a*(d.over:Int)-b*(c.over:Int)) c.eW d.eW).getD i 0=(d.over:Int)*c.eW.getD i 0+(-(c.over:Int))*d.eW.getD i 0:=λi=>by rw[JE sp<|by rw[e.gh,g.gh]];grind);exact ext' (f 0) (f 1) (f 2) (f 3)
 have e:∀i,rk a_ (fm _) i=(d.over)*rk a_ (fm c.eW) i-(c.over)*rk a_ (fm d.eW) i:=λi=>by rw[h,KD,JH,JH];grind
 exact⟨λh=>h.congr λi _=>e i,λh=>h.congr λi _=>(e i).symm⟩
theorem Gh{d}(h:¬c.gt a_ d):d.ge a_ c:=by rcases RZ (λi=>d.over*rk a_ (fm c.eW) i-c.over*rk a_ (fm d.eW) i)with a|a;{exact absurd a h};exact a.congr (λi _=>om)
theorem OD{c:fO}{num:Nat}(h:Qy n a_ c)(b:r<5)(hp:rk a_ (fm c.eW) r%(c.over:Int)≠0)(a:∀e∈c.eL,e.num≠num):
 Qe a_ c (Zd n a_ c r) num=E (Z1 n a_ c num r)/\∃j o,AX n a_ c (Zd n a_ c r) num (Z1 n a_ c num r) j o:=by
 have k:=Gj h b hp;have⟨f,g⟩:=RU h k.len a;have d:∃a,Qe a_ c (Zd n a_ c r) num=E a:=by cases hx:Qe a_ c (Zd n a_ c r) num with |some a=>grind |none=>have⟨e,b,_⟩:=RS h k;grind
 have⟨a,b⟩:=d;have d:Z1 n a_ c num r=a:=by unfold Z1;rw[b];rfl
 grind
theorem Pd{num:Nat}(e:∀r,r∈qU n a_ c->Qy n a_ (Z1 n a_ c num r)):∀(rs:N_) (b:Option Nat) (r:Nat),(∀x∈rs,x∈qU n a_ c)->(∀x,b=E x->x∈qU n a_ c)->jF n a_ c num rs b=E r->∀x,(x∈rs\/b=E x)->(Z1 n a_ c num x).ge a_ (Z1 n a_ c num r)
 |[],b,r,_,_,h,x,a=>by rcases a with a|a;{simp at a};rw[jF]at h;rw[h]at a;cases a;exact XC _ _ |y::rs,O,r,h1,h2,h,x,a=>by rw[jF]at h;have d:=Pd e rs (E y) r (λx a=>h1 x<|qq _ a) (λx a=>by cases a;exact h1 y qA) h;rcases a with a|a;{rcases zI.1 a with rfl|a;{exact d x<|.inr rfl};exact d x<|.inl a};cases a |y::rs,E b,r,h1,h2,h,x,a=>by rw[jF]at h;have i:=h1 y qA;have g:=h2 b rfl;have d:=Pd e rs _ r (λx a=>h1 x<|qq _ a) (λx a=>by split at a;{cases a;exact i};cases a;exact g) h;by_cases f:FY a_ (Z1 n a_ c num b) (Z1 n a_ c num y)=true;{rw[zQ f]at d;have j:=(Uc (e b g)<|e y i).1 f;have l:=d y<|.inr rfl;rcases a with a|a;{rcases zI.1 a with rfl|a;{exact l};exact d x<|.inl a};cases a;exact XD (e y i).pos j.ge l};rw[zO f]at d;have j:=Gh λh=>f<|(Uc (e b g)<|e y i).2 h;have k:=d b<|.inr rfl;rcases a with a|a;{rcases zI.1 a with rfl|a;{exact XD (e b g).pos j k};exact d x<|.inl a};cases a;exact k
def Gf (n:Nat)(a_:L_)(rg:Nat->Int×Int)(eP:Nat)(rows:List qO)(c:fO)(cap:Int):Prop:=
 ∀c2 r rs,ZV a_ rows eP c= .inl c2->qU n a_ c2=r::rs->z_ (BU a_ rg) (yE a_ rg) (jo a_ (B7 a_ rg) (fm c2.eW) c2.over r)<cap
theorem Wg{rows:List qO}{ls:List Zy}{a:R_}(h:pO n a_ base rows c ls a):∀r∈rows,r.2<Y base+Y ls+1:=by intro r b;have⟨_,a⟩:=(h.fH r b).1;have:=jQ a;have:=h.len;omega
theorem zqV{eP:Nat}(ab:0<eP){rows:List qO}{ls:List Zy}{a9:R_}(u:Md n base rg)(h:pO n a_ base rows c ls a9)(y:∀r∈rows,0<=Z2 c r.1){g:Nat}{rs:N_}(hs:qU n a_ c=g::rs)(v:jF n a_ c (Y base+Y ls+1) (qU n a_ c) O=E r):
 Gf n a_ rg eP (jw c (Y base) rows ++ [(Zd n a_ c r,Y base+Y ls+1)]) c (z_ (BU a_ rg) (yE a_ rg) (jo a_ (B7 a_ rg) (fm c.eW) c.over g)):=by
 intro i r2 ae p a6;have a:=h.fY.fY;have ad:=a.n4;have o:∀l∈c.eL,l.num≠Y base+Y ls+1:=λl W=>by have:=Wg h _<|h.fY.gY l W;omega
 have d:∀x,x∈qU n _ c->x<5/\rk _ _ x%(c.over)≠0:=λx b=>by have:=(F8 a).1 b;exact⟨om,this.2⟩
 have t:∀x,x∈qU n _ c->Qy n _ (Z1 n _ c _ x):=λx b=>by have⟨_,a8,aa,q⟩:=OD a (d x b).1 (d x b).2 o;exact q.fY
 have f:r∈qU n a_ c:=by rcases GB _ _ _ v with hm|hm;{omega};grind
 have P:g∈qU n a_ c:=g_;have U:=Pd t _ O r (λx b=>b) (λx b=>g_) v g<|.inl P;have⟨j,w,T⟩:=VM a hs;have k:=Gj a (d r f).1 (d r f).2;have m:=h.cut h.fY (d r f).1 k;have S:Qv c (jw c (Y base) rows ++ [(Zd n a_ c r,Y base+Y ls+1)])=E (Zd n a_ c r,Y base+Y ls+1):=by unfold Qv;rw[List.find?_append];(have hn:(jw c (Y base) rows).find? (λr=>decide (Z2 c r.1<0))=O:=by rw[Pv];intro x b;have:=y x<|Tn b;simp;omega);rw[hn];have:=VY a k;simp[this]
 have⟨a7,a8,aa,q⟩:=OD a (d r f).1 (d r f).2 o;have X:(Z1 n a_ c (Y base+Y ls+1) r).ge a_ i/\J4 n a_ (jw c (Y base) rows ++ [(Zd n a_ c r,Y base+Y ls+1)]) i/\∀x∈(jw c (Y base) rows ++ [(Zd n a_ c r,Y base+Y ls+1)]),0<=Z2 i x.1:=by cases eP with |zero=>omega |succ L=>rw[ZV,S]at p;simp only[a7]at p;have Z:=U2 (r:=(Zd n _ c r,Y base+Y ls+1)) m.fY q sp;obtain⟨s1,-⟩:=F9 m.fH L _ Z;grind
 have⟨M,e,N⟩:=X;have⟨_,_,_,z⟩:=OD a j w o;have Q:=znJ a j (Gj a j w) z;have B:=XD (t r f).pos U M;have R:=Q.Ej a.pos z.fY.pos e.fY.pos j B;have F:=KR a h.given u y;have s:=KR e.fY m.given u N;have⟨I,J,K⟩:=VM e.fY a6;have⟨A,a0,a4,a5⟩:=zoL a.pos e.fY.pos I T K J (λA k=>(Wh e.fY s A k).2) R;have⟨w1,l1⟩:=Nr a F g;have⟨_,l2⟩:=Nr e.fY s r2;exact zrR w1 l2 l1 a0 a4 a5
theorem RJ{eP:Nat}(P5:10000<=eP)(FI:Md n base rg){H:R_}(hH:H.length<=14):∀(k:Nat) (rows:List qO) (c:fO) (ls:List Zy) (lB:R_) (cap:Int),pO n a_ base rows c ls lB->tP n base H rows->Gf n a_ rg eP rows c cap->cap<=(k:Int)->∀m,ny n a_ (Y base) eP k rows c ls≠ .inr (.inr m)
 |0,rows,c,ls,lB,cap,h,hc,oJ,hk,m=>by
  rw[ny];have⟨s1,s2⟩:=F9 h.fH eP c h.fY;have⟨H',q1,q2⟩:=hc.all h.fY.fY.n4 hH;cases hs:ZV a_ rows eP c using XF with
  |li=>exact absurd hs (Vs h.fH q2 q1 P5 h.fY)
  |no c' r=>intro he;cases he
  |ok c'=>
   have⟨a1,a2,a3⟩:=s1 c' hs;simp only;cases hd:jF n a_ c' (Y base+Y ls+1) (qU n a_ c') Option.none with
   |none=>intro he;cases he
   |some r=>
    exfalso
    cases hsp:qU n a_ c' with
    |nil=>rw[hsp,jF]at hd;cases hd
    |cons r1 rs=>
     have h1:=oJ c' r1 rs hs hsp;have⟨w1,l1⟩:=Nr a1.fY (KR a1.fY h.given FI a3) r1;have h2:=zmI w1 λi hi=>(l1 i hi).1;have hk0:cap<=0:=by simpa using hk
     omega
 |k+1,rows,c,ls,lB,cap,h,hc,oJ,hk,m=>by
  rw[ny];have⟨s1,s2⟩:=F9 h.fH eP c h.fY;have⟨H',q1,q2⟩:=hc.all h.fY.fY.n4 hH;cases hs:ZV a_ rows eP c using XF with
  |li=>exact absurd hs (Vs h.fH q2 q1 P5 h.fY)
  |no c' r=>intro he;cases he
  |ok c'=>
   have⟨a1,a2,a3⟩:=s1 c' hs;simp only;cases hd:jF n a_ c' (Y base+Y ls+1) (qU n a_ c') Option.none with
   |none=>intro he;cases he
   |some r=>
    have n4:=a1.fY.n4;have hm:r∈qU n a_ c':=by
     rcases GB _ _ _ hd with hm|hm
     ·exact hm
     ·cases hm
    have⟨m1,m2⟩:=(F8 a1.fY).1 hm;have hi:=h.to a1;cases hsp:qU n a_ c' with
    |nil=>rw[hsp]at hm;cases hm
    |cons r1 rs=>
     have h1:=oJ c' r1 rs hs hsp;have hcap':=zqV (eP:=eP) (by omega) FI hi a3 hsp hd;refine RJ P5 FI hH k _ _ _ _ _ (hi.cut a1 (by omega)<|Gj a1.fY (by omega) m2) (hc.cut a1.fY _ (Wg hi)<|by omega) hcap' ?_ m;omega
end
section
variable {w:H}
theorem Mp{g b j}{u d e}(f:b≠g)(h:AT w (Xd b j O)=E u):AT (AS (AS w (Xd g 0 O) d) (Xd g 1 O) e) (Xd b j O)=E u:=by rw[Zj];{exact h};exact(qC _ _ _ _ so).trans (qC _ _ _ _ so)
theorem ZS.lt{t:TypeId}{v:Value}{size:Nat}{fN:List (List Value)}(h:ZS w t v size fN):∀g,No v=E g->g<IS (IT w):=by intro g a;rcases h with ⟨e,_⟩|⟨b,off,_,e,_,d,_⟩;{rw[e]at a;cases a};rw[e]at a;(have:b=g:=by simpa[kab]using a);rw[<-this];exact d.lt
theorem ZS.A0{U:Nat->Prop}{w':H}{t:TypeId}{v:Value}{size:Nat}{fN:List (List Value)}(h:ZS w t v size fN)(e:Wr U w w')(j:∀g,No v=E g->¬U g):ZS w' t v size fN:=by rcases h with h|⟨g,off,f,a,i,b,k⟩;{exact kae h};have d:=j g (by rw[a];rfl);exact R8 ⟨g,_,f,a,i,b.same<|e.block g b.lt d,λi cs a j u b=>e.cell d<|k i cs a j u b⟩
def CH (w1:H)(gs n:Nat)(d:Nat->Int)(k:Nat)(M:Nat->Prop)(A:H):Prop:=
 Wr (λb=>b=gs) w1 A/\k<=n/\(∃(t:WT) (fr:Nat×Nat),A.heap[gs]? =E (cl #[G t.b,t.sv] 102 fr)/\A.frozen? (Xd gs 0 O)=false/\A.frozen? (Xd gs 1 O)=false/\zy A t.val (d k))/\∀b,M b↔b=gs
theorem CH.eN{w1 A B:H}{b n:Nat}{d:Nat->Int}{k:Nat}{M:Nat->Prop}(h:CH w1 b n d k M A)(g:zn w1.heap.size A B):CH w1 b n d k M B:=by have⟨j,l,⟨t,i,f,m,o,p⟩,q⟩:=h;have e:=g.block _ _ f<|.inr rfl;exact⟨j.eN g,l,⟨t,i,e,(qw<|e.trans f.symm).trans m,(qw<|e.trans f.symm).trans o,p.eN g⟩,q⟩
theorem Vg(fa a:A_)(fl fc d b)(w):
 C_ 295 #[ag #[V fa fl fc],V a d b] w λe w'=>e=Xa (.func (.func 315) #[] #[p_ (IS (IT w)+1) 0,p_ (IS (IT w)+1+1) 0])/\w'=AI (AI (AI w (cl #[V fa fl fc] 197)) (cl #[V fa fl fc] 176)) (cl #[V a d b] 176):=by go_enter func295,ntmps295;go_wp2_with fail;refine(Me _ a _ _ d b _).mono<|fK ?_;go_wp2;go_ret;simp
theorem Ww(K:Nat)(f:K+K<=1073741823)(w:H)(fa X:A_)(fc c:Nat)(ts Q:List WT)(zs xs:L_)(h1:Y ts=Y zs)(h2:ZS w 102 (V fa (Y ts) fc) 2 (ts.map WT.cells))(q:∀(i:Nat) (t:WT) (z:Int),ts[i]? =E t->zs[i]? =E z->zy w t.val z)(ax:Y Q=Y xs)(ad:ZS w 102 (V X (Y Q) c) 2 (Q.map WT.cells))(ay:∀(i:Nat) (t:WT) (z:Int),Q[i]? =E t->xs[i]? =E z->zy w t.val z)(hl:Y zs=Y xs)(hn:Y zs<=100000)(bz:∀z∈zs,By z<4294967296^K)(bx:∀z∈xs,By z<4294967296^K)(bm:∀a∈zs,∀b∈xs,By (a*b)<4294967296^K)(bs:∀j,By (T.eT (zs.take j) (xs.take j))<4294967296^K):
 C_ 222 #[ag #[V fa (Y ts) fc],V X (Y Q) c] w λe w'=>∃t:WT,e=Xa t.val/\zy w' t.val (T.eT zs xs)/\b_ w w':=by
 have an:Y Q=Y ts:=om;rw[an]at ad⊢;have H1:=zf h1;have H2:=zf h2;have H3:=zf q;have bc:=zf ax;have au:=zf ad;have aN:=zf ay;have aU:=zf an;have bg:Y ts<=100000:=om;have aR:=zf bz;have aQ:=zf bx;have aO:=zf bm;have aP:=zf bs;clear h1 h2 q ax ad ay an bz bx bm bs;have aX:Ext w (AI (AI (AI w<|cl #[V fa (Y ts) fc] 197)<|cl #[G false,V_] 102)<|cl #[G false,V_] 102):=(((Xe w).alloc _).alloc _).alloc _;have aW:(AI (AI (AI w _)<|cl #[G false,V_] 102)<|cl #[G false,V_] 102).heap[IS (IT w)]? =E (cl #[V fa (Y ts) fc] 197):=(qH _ _ _ so).trans (Xi w _ _).1;have af:(AI (AI (AI w<|cl #[V fa (Y ts) fc] 197) _)<|cl #[G false,V_] 102).heap[IS (IT w)+1]? =E (cl #[G false,V_] 102):=(qH _ _ _ sp).trans (Xi w _ _).2;have ae:(AI (AI (AI w<|cl #[V fa (Y ts) fc] 197)<|cl #[G false,V_] 102)<|cl #[G false,V_] 102).heap[IS (IT w)+1+1]? =E (cl #[G false,V_] 102):=by have:=zC (AI (AI w<|cl #[V fa (Y ts) fc] 197)<|cl #[G false,V_] 102)<|cl #[G false,V_] 102;simpa using this
 refine Q0 func222 ntmps222 (h:=?_);gi_wp2;generalize (AI (AI (AI w<|cl #[V fa (Y ts) fc] 197)<|cl #[G false,V_] 102)<|cl #[G false,V_] 102)=u at *;refine(zq.2<|Vg _ X _ _ _ c u).mono<|eV λv aa=>?_;have x1:Ext u v:=by rw[aa];exact(((Xe u).alloc _).alloc _).alloc _
 have k1:AT v (x_ u 0)=E (V fa (Y ts) fc):=by rw[aa];exact(((Xe _).alloc _).cell<|c_ 0 (Xi _ _ _).2)
 have k2:AT v (w_ u 0)=E (V X (Y ts) c):=by rw[aa];have:=c_ 0<|zC ((u.alloc<|cl #[V fa (Y ts) fc] 197).alloc<|cl #[V fa (Y ts) fc] 176)<|cl #[V X (Y ts) c] 176;simpa using this
 clear aa;have J:=aX.trans x1;have aZ:=(zd.1 ae).1;have a1:=(x1.block _ aZ).trans ae;have HR:=zf<|eK x1 af;have bh:=x1.size;gi_wp2;refine ZT (K8 _ Q aU.out.symm fa X fc c _ _ om) rfl (qW func315 kr rfl) (λk ba W=>g_) (CH v (IS (IT w)+1+1) (Y ts) λk=>T.eT (zs.take k)<|xs.take k) (λ_ _ _=>False) (λb=>b=IS (IT w)+1+1) ?hI ?hIx ?hC ?h0 ?round ?done ?stop;case hI=>exact λk a3 A bb N hk=>N.eN hk
 case hIx=>grind
 case hC=>rintro k a3 A ⟨h1,h2,⟨t,fr,q,-⟩,h4⟩;refine⟨⟨h1.cell so k1,h1.cell so k2,((H2.out.ext J).A0 h1 λab hg e=>by have:=H2.out.lt _ hg;omega).ki,((au.out.ext J).A0 h1 λab hg e=>by have:=au.out.lt _ hg;omega).ki⟩,λb s=>?_⟩;grind
 case h0=>exact⟨Xk _ _,qo _,⟨⟨_,O,0,0⟩,_,a1,Xf a1,Xf a1,⟨_,_,rfl,Xo _ _ _,rfl⟩⟩,λb=>Qb⟩
 case round=>rintro l2 k ba a3 A b4 ⟨t0,s0,b8,b7,rfl⟩ ⟨h1,h2,⟨⟨h,g,m,l⟩,fr,q,aj,ak,Z⟩,h4⟩;(have a9:k<Y zs:=by have:=H1.out;omega);have a8:k<Y xs:=om;have hz:=zg a9;have aI:=zg a8;(have aD:∀b,b=IS (IT w)+1+1->qK v b:=λb s=>by rw[s];exact zE a1 (by intro aL I;simp at I;rcases I with rfl|rfl<;>(intro n e;grind)));have ah:=((H3.out k _ _ b8 hz).J J).wr h1 aD;have ai:=((aN.out k _ _ b7 aI).J J).wr h1 aD;have aA:=aR.out _<|zJ a9;have aB:=aQ.out _<|zJ a8;have a0:=aO.out _ (zJ a9) _<|zJ a8;have av:=zf<|T.sU a9 a8;have a5:=aP.out k;generalize zs[k]=z at *;generalize xs[k]=R at *;obtain⟨L,DN⟩:∃L,T.eT (zs.take k) (xs.take k)=L:=⟨_,rfl⟩;(have az:zy A (ag #[G h,V g m l]) L:=by rw[<-DN];exact Z);rw[DN]at a5 av;have bd:=zf DN;have⟨yb,ya,yl,yc⟩:=t0;have⟨pb,pa,pl,pc⟩:=s0;simp only[WT.val,WT.sv]at ah ai q⊢;unfold Zz;gi_wp2;refine⟨Xh<|((Xe A).alloc _).alloc _,λd al=>?_⟩;have xA:=((zn.alloc _ A _).trans<|zn.alloc _ _ _).trans al;have e0:=al.block _ _ (Xi A (cl _ 102) _).1<|.inr rfl;have e1:=al.block _ _ (Xi A _<|cl _ 102).2<|.inr rfl;have M:=xA.block _ _ q<|.inr rfl;have be:=(zd.1 q).1;have a6:=(zd.1 M).1;have a2:Hid (∀W,Ext d W->AT W (y_ A 0)=E (G _)/\AT W (y_ A 1)=E (V _ _ _)/\AT W (x_ A 0)=E (G _)/\AT W (x_ A 1)=E (V _ _ _)):=λW hW=>⟨hW.cell<|c_ 0 e0,hW.cell<|c_ 1 e0,hW.cell<|c_ 0 e1,hW.cell<|c_ 1 e1⟩;have ap:AT d (w_ w 0)=E (G h):=c_ 0 M;have aq:AT d (w_ w 1)=E (V g m l):=c_ 1 M;have aJ:=(qw (a:=(w_ w 0))<|M.trans q.symm).trans aj;have aK:=(qw (a:=(w_ w 1))<|M.trans q.symm).trans ak;(have aw:Hid (C_ 175 #[ag #[G yb,V ya yl yc],ag #[G pb,V pa pl pc]] d.drew λe w'=>∃t:WT,e=Xa (ag #[G t.b,V t.s.1 t.s.2.1 t.s.2.2])/\zy w' (ag #[G t.b,V t.s.1 t.s.2.1 t.s.2.2]) (z*R)/\Below d.drew.heap.size d.drew w'):=by apply(D4 d.drew _ _ z R K K f (ah.eN<|xA.trans<|zn.drew _ _) (ai.eN<|xA.trans<|zn.drew _ _) aA aB).mono;rintro e w' ⟨aM,rfl,P,s⟩;obtain⟨t,rfl⟩:=P.shape;exact⟨t,rfl,P,s⟩);(have aT:Hid (∀W,Ext d W->∀ao,zy W ao (z*R)->C_ 173 #[ag #[G h,V g m l],ao] W λe w'=>∃t:WT,e=Xa (ag #[G t.b,V t.s.1 t.s.2.1 t.s.2.2])/\zy w' (ag #[G t.b,V t.s.1 t.s.2.1 t.s.2.2]) (L+z*R)/\b_ W w'):=by intro W hW ao hq;refine(K6 W _ _ L (z*R) K om ((az.eN xA).J hW) hq a5 a0).mono<|eO λw' aM P s=>?_;obtain⟨t,rfl⟩:=P.shape;exact⟨t,rfl,P,s⟩);(have aS:Hid (∀(o:H) (B:Bool) (y:A_) (D C:Nat),Ext d o->zy o (ag #[G B,V y D C]) (L+z*R)->ZL a3 (CH v (IS (IT w)+1+1) (Y ts) λk=>T.eT (zs.take k)<|xs.take k) (λ_ _ _=>False) k A d .normal { tmps:=#[],defers:= [] } (AS (AS o (w_ w 0)<|G B) (w_ w 1)<|V y D C)):=by intro o B y D C x hq;have e4:=(x.block _ a6).trans M;have aG:Wr (λb=>b=IS (IT w)+1+1) o (AS (AS o (w_ w 0)<|G B) (w_ w 1)<|V y D C):=(zv (U:=λb=>b=IS (IT w)+1+1) rfl _).trans<|zv (U:=λb=>b=IS (IT w)+1+1) rfl _;have aF:=(Xh x).trans aG;(have e5:(AS (AS o (w_ w 0)<|G B) (w_ w 1)<|V y D C).heap[IS (IT w)+1+1]? =E (cl #[G B,V y D C] 102 fr):=by rw[Xl<|Xl e4];rfl);(have b5:∀b,b=IS (IT w)+1+1->qK o b:=λb s=>by rw[s];exact zE e4 (by intro aL I;simp at I;rcases I with rfl|rfl<;>(intro n e;grind)));have f4:=λj=>qw (w:=d) (a:=(w_ w j))<|x.block _ a6;refine⟨aF.mono λb s=>(h4 b).2 s,a3,⟨(h1.eN xA).trans aF,b4,⟨⟨B,y,D,C⟩,fr,e5,?_,?_,?_⟩,h4⟩,λaM P=> .inl P⟩;{simp_all};{simp_all};have e6:=av.out;show zy _ _ (T.eT _ _);rw[e6];exact hq.wr aG b5);have⟨b0,b1,b2,b3⟩:=a2.out d<|Xe _;apply ZW;refine jK (S:=λW=>AT W _=E _/\AT W _=E _/\AT W _=E _/\AT W _=E _) kr g_ (λ⟨a,w,N⟩=>N) ⟨b0,b1,b2,b3⟩ λa4=>?_;apply lM 1;apply lM 2;refine nI 0 3 (h:=λK f=>?_) (h1:=λK f=>?_);go_simp;refine f.out _ _ am (h:=λa4=>?_);refine fZ 3 λK f=>?_;go_simp;refine aw.out.mono<|eO λA3 ⟨qb,qa,ql,qc⟩ aE a0=>?_;have F:=ZG a0;have s3:=F.cell ap;have s4:=F.cell aq;go_wp2_with fail;rotate_left;go_simp;refine aw.out.mono<|eO λA3 ⟨qb,qa,ql,qc⟩ aE a0=>?_;have F:=ZG a0;have s3:=F.cell ap;have s4:=F.cell aq;go_wp2_with fail;refine f.out _ _ (by exact a2.out _ F) (h:=λa4=>?_);refine fZ 0 λK f=>?_;go_simp;rotate_left;all_goals refine f.out _ _ (by exact a2.out _ F) (h:=λa4=>?_);apply iq 4<|aT.out _ F _ aE;rintro e o ⟨⟨B,y,D,C⟩,rfl,b6,a5⟩;have x:=F.trans<|Xg a5;have bi:=x.cell ap;have r4:=x.cell aq;have bj:=(qw<|x.block _ a6).trans aJ;have bl:=(qw<|x.block _ a6).trans aK;refine bk (by exact a2.out _ x) λa4=>?_;refine fZ 5 λK f=>?_;go_simp;refine f.out _ _ (by have f:=a2.out o x;exact⟨Mp om f.1,Mp om f.2.1,Mp om f.2.2.1,Mp om f.2.2.2⟩) (h:=λa4=>?_);refine zV kr ?_ _;exact aS.out o B y D C x b6
 case done=>rintro ar a3 A hD ⟨h1,h2,⟨⟨h,g,m,l⟩,fr,q,aj,ak,Z⟩,h4⟩ hd;simp only[WT.sv,WT.val]at q Z;obtain ⟨m0,m1⟩:=d_ q;have r1:=h1.some HR.out λe=>om;obtain ⟨c0,c1⟩:=d_ r1;have f0:=Xf (j:=0) r1;have f1:=Xf (j:=1) r1;(have H5:Hid (zy A (ag #[G h,V g m l])<|T.eT zs xs):=by (have e:T.eT (zs.take (Y ts)) (xs.take (Y ts))=T.eT zs xs:=by rw[zP (by have:=H1.out;omega),zP (by have:=H1.out;omega)]);rw[<-e];exact Z);have bf:=(zd.1 HR.out).1;gi_wp2;have aC:((A.setCell (x_ w 0)<|G h).setCell (x_ w 1)<|V g m l).heap[ar]? =E (.deferred _):=(qC _ _ _ _ so).trans<|(qC _ _ _ _ so).trans hd;apply qh aC;have a7:zn _ _ (((A.setCell _ _).setCell _ _).putObj _<|.deferred O):=zn.putObj _ hD aC rfl;have aH:Wr _ A ((A.setCell (x_ w 0)<|G h).setCell (x_ w 1)<|V g m l):=(zv (U:=λb=>b=IS (IT w)+1) rfl _).trans<|zv (U:=λb=>b=IS (IT w)+1) rfl _;(have e9:((A.setCell (x_ w 0)<|G h).setCell (x_ w 1)<|V g m l).heap[IS (IT w)+1]? =E (cl #[G h,V g m l] 102):=by rw[Xl<|Xl r1];rfl);have c9:=a7.cell<|c_ 0 e9;have aV:=a7.cell<|c_ 1 e9;have b9:=H5.out.wr aH (λb s=>by rw[s];exact zE r1 (by intro aL I;simp at I;rcases I with rfl|rfl<;>(intro n e;grind)));have aY:=(Qg J<|h1.J J.size λb s=>om).trans<|aH.J g_ λb s=>om;exact⟨ag #[G h,V g m l],by simp[results,results222,go_sem,c9,aV],⟨h,g,m,l⟩,rfl,b9.eN a7,(a7.mono J.size).J aY (zh _)<|zh _⟩
 grind
end
section
variable {a:List (Int×Nat)×(Int×Nat)}{w w':H}
structure BT where
 m:T.eZ
 f:S_
def BT.fv (b:BT):Value:=V b.f.1 b.f.2.1 b.f.2.2
def BT.val (b:BT):Value:=ag #[G b.m.b,b.m.up,b.m.down,b.fv]
def lZ (w:H)(b:BT)(acc:List (Int×Nat)×(Int×Nat)):Prop:=mX w b.fv acc.1/\Qa w b.m.val acc.2.1 acc.2.2
theorem lZ.eN{B}{b}(h:lZ w b a)(d:zn B w w'):lZ w' b a:=⟨h.1.eN d,h.2.eN d⟩
theorem lZ.ext{b}(h:lZ w b a)(d:Ext w w'):lZ w' b a:=h.eN (B:=0) (zn.eX d)
theorem lZ.wr{U}{b}(h:lZ w b a)(e:Wr U w w')(d:∀k,U k->¬qQ w k 104/\qK w k):lZ w' b a:=⟨h.1.wr e d,h.2.wr e λk a=>(d k a).2⟩
open V4
def su (p:qF)(i:Nat):Int×Int:=p.rg.getD i (0,0)
def Aa (p:qF):Nat:=Y (p.rows.flatMap T.fk)
def jf (p:qF):List qO:=(T.eY p).zipIdx.map λx=>(x.1,x.2+1)
def D6 (p:qF):fO:=BX p.mx (En (su p) (Aa p) p.n)
def wh (p:qF)(fE eP:Nat):iO:=ny p.n p.mx (Y (T.eY p)) eP (min fE 20000) (jf p) (D6 p) []
structure AD (p:qF):Prop where
 n0:0<p.n
 n4:p.n<=4
 m:Y p.mx=p.n
 g:Y p.rg=p.n
 l:Y p.rows<=6
 c:∀x∈p.rows,Y x.1=p.n
theorem lS.done{i:Nat}{p:qF}(h:lS i p)(a:2+p.n<=i):AD p:=⟨(h.n om).1,(h.n om).2,h.m om,by rw[h.g];omega,h.l,λx a=>(h.c x a).1⟩
theorem IV{p:qF}{r:qO}:r∈jf p↔∃i,(T.eY p)[i]? =E r.1/\r.2=i+1:=by unfold jf;rw[qP];constructor;{grind};rintro⟨i,a,b⟩;exact⟨(r.1,i),List.mem_zipIdx_iff_getElem?.2 a,g_⟩
theorem TL{p:qF}(h:AD p):∀r∈T.eY p,Y r.1=p.n:=by intro r a;unfold T.eY at a;rcases zU.1 a with a|a;{have⟨x,d,a⟩:=jj.1 a;unfold T.fk at a;have b:=h.c x d;grind};have⟨_,_,a⟩:=jj.1 a;unfold T.fQ at a;rcases zI.1 a with rfl|a;{exact QS _ _};rw[qg.1 a,zm];exact QS _ _
theorem OS{p:qF}{i:Nat}(d:i<p.n):(T.eY p)[Aa p+2*i]? =E (T.fe p.n i,(su p i).2)/\(T.eY p)[Aa p+2*i+1]? =E ((T.fe p.n i).map (λz=>-z),-(su p i).1):=by
 have g:∀(f:Nat->(L_×Int)×(L_×Int)) (n i:Nat),i<n->((kai n).flatMap λi=> [(f i).1,(f i).2])[2*i]? =E (f i).1/\((kai n).flatMap λi=> [(f i).1,(f i).2])[2*i+1]? =E (f i).2:=by intro f n;induction n with |zero=>omega |succ n b=>intro i h;(have a:∀m,Y ((kai m).flatMap λi=> [(f i).1,(f i).2])=2*m:=by intro m;induction m with |zero=>rfl |succ m b=>rw[J6,ZX,zM,b];grind);rw[J6,ZX];by_cases e:i<n;{grind};obtain rfl:i=n:=om;simp_all
 unfold T.eY;rw[I8,zG (by unfold Aa;omega),zG (by unfold Aa;omega)];have a:Aa p+2*i-Y (p.rows.flatMap T.fk)=2*i:=by unfold Aa;omega
 have b:Aa p+(2*i+1)-Y (p.rows.flatMap T.fk)=2*i+1:=by unfold Aa;omega
 rw[a,b];exact g (λi=>((T.fe _ i,(su p i).2),((T.fe _ i).map _,-(su p i).1))) _ i d
theorem boxed{p:qF}(h:AD p):Md p.n (T.eY p) (su p):=by intro i _;refine⟨λa=>?_,λa=>?_⟩;{have⟨b,d⟩:=OS a;grind};unfold su;rw[zk,qL (by rw[h.g];omega)];rfl
theorem Ru{p:qF}(h:AD p):pO p.n p.mx (T.eY p) (jf p) (D6 p) [] (T.eY p):=by have⟨b,g⟩:=zmF h.m h.n4 (su p)<|Aa p;have f:=TL h;refine⟨sp,Zx,f,λr a=>?_,λi r a=>?_,⟨b,λe e=>?_⟩,λx b r a=>b.2 r a,λi l b=>g_⟩;{have⟨i,b,d⟩:=IV.1 a;exact⟨⟨om,g_⟩,f _<|zx b⟩};{exact IV.2 ⟨i,a,rfl⟩};unfold D6 at e;rw[g]at e;obtain⟨i,a,rfl⟩:=qP.1 e;have⟨b,d⟩:=OS<|Z8.1 a;apply IV.2;unfold Br;grind
def Ni (p:qF):R_:=(p.rows.map λx=>(x.1,x.2.2))++((kai p.n).map (λi=>(T.fe p.n i,(su p i).2))++(kai p.n).map λi=>(T.fe p.n i,(su p i).1))
theorem TE{p:qF}(h:AD p):Y (Ni p)<=14:=by have a:=h.l;have a:=h.n4;unfold Ni;grind
theorem O9(p:qF):tP p.n (T.eY p) (Ni p) (jf p):=by refine⟨?_,λr b _=>?_,?_⟩;{(have:(jf p).map (λr=>r.2)=(kai (Y (T.eY p))).map (· + 1):=by unfold jf;rw[wJ];apply Lh;intro i;rw[zR,zR,List.getElem?_zipIdx];by_cases a:i<Y (T.eY p);{grind};grind);rw[this];exact List.Pairwise.map _ (λa a h=>om)<|List.nodup_range};{have⟨i,a,_⟩:=IV.1 b;have hm:=zx a;unfold T.eY at hm;rcases zU.1 hm with hm|hm;{have⟨x,d,hm⟩:=jj.1 hm;refine⟨(x.1,x.2.2),QN _<|qP.2 ⟨x,d,rfl⟩,?_⟩;unfold T.fk at hm;rcases zU.1 hm with hm|hm;{split at hm;{cases hm};exact .inl<|qg.1 hm};split at hm;{cases hm};exact .inr<|qg.1 hm};have⟨k,d,hm⟩:=jj.1 hm;unfold T.fQ at hm;rcases zI.1 hm with hm|hm;{exact⟨_,J5 _<|QN _<|qP.2 ⟨k,d,rfl⟩,.inl hm⟩};exact⟨_,J5 _<|J5 _<|qP.2 ⟨k,d,rfl⟩,.inr<|qg.1 hm⟩};(have:(jf p).filter (λr=>decide (Y (T.eY p)<r.2))= []:=by rw[List.filter_eq_nil_iff];intro r b;have⟨i,a,_⟩:=IV.1 b;have:=(zo.1 a).1;simp;omega);grind
theorem VE{p:qF}(h:AD p)(fE eP:Nat):
 (∀c ls,wh p fE eP= .inl (c,ls)->Ca p.n (T.eY p) (JZ c)/\∀x,Ca p.n (T.eY p) x->qz (λi=>rk p.mx (fm (JZ c)) i-rk p.mx (fm x) i))/\
 (∀c r ls,wh p fE eP= .inr (.inl (c,r,ls))->∀x,¬Ca p.n (T.eY p) x):=by have b:=go_ok (eP:=eP) (min fE 20000) _ _ _ _ (Ru h);refine⟨λc ls a=>?_,λc r ls a=>?_⟩;{unfold wh at a;rw[a]at b;have⟨rows,g,d,e,f⟩:=b;exact YY d e f};unfold wh at a;rw[a]at b;have⟨rows,g,d,e,f,a⟩:=b;exact znM d e f a
theorem WE{p:qF}(h:AD p){fE eP:Nat}(j:10000<=eP)(b:(∀i,i<4->(su p i).1<=(su p i).2)->Gz p.mx (su p)<=(min fE 20000:Nat))(m:Nat):wh p fE eP≠ .inr (.inr m):=by have a:=Ru h;by_cases k:∀i,i<4->(su p i).1<=(su p i).2;{refine RJ j (boxed h) (TE h) _ _ _ _ _ _ a (O9 p) (λf r t g o=>?_) (b k) m;have⟨b,l,d⟩:=(F9 a.fH _ _ a.fY).1 f g;have e:=KR b.fY a.given (boxed h) d;have⟨q,s⟩:=Nr b.fY e r;exact znO q s};refine RJ j (boxed h) (TE h) _ _ _ _ _ 0 a (O9 p) (λf r t g o=>?_) om m;have⟨b,l,d⟩:=(F9 a.fH _ _ a.fY).1 f g;have e:=KR b.fY a.given (boxed h) d;exfalso;apply k;intro i f;have⟨a,d⟩:=e i f;have hp:=b.fY.pos;exact Mo (Int.le_trans a d) om
end
section
open V4
variable {A B C:Nat}{l:L_}{x y:Int}
def gQ (B:Nat)(x:Int):Prop:=-(B)<=x/\x<=(B)
theorem wv:gQ B x↔By x<=B:=by unfold gQ;omega
theorem gQ.mono(h:gQ B x)(a:B<=C):gQ C x:=by unfold gQ at *;omega
theorem gQ.zero(B):gQ B 0:=by unfold gQ;omega
abbrev Xt:=@gQ.zero
theorem gQ.add(h:gQ A x)(k:gQ B y):gQ (A+B) (x+y):=by unfold gQ at *;omega
theorem gQ.sub(h:gQ A x)(k:gQ B y):gQ (A+B) (x-y):=by unfold gQ at *;omega
theorem gQ.neg(h:gQ A x):gQ A (-x):=by unfold gQ at *;omega
theorem gQ.mul(h:gQ A x)(k:gQ B y):gQ (A*B) (x*y):=by rw[wv]at *;rw[td];exact Z7 h k
theorem gQ.ofNat(h:A<=B):gQ B (A):=by unfold gQ;omega
abbrev Xr:=@gQ.ofNat
def jk (B:Nat)(x:V4):Prop:=gQ B x.a/\gQ B x.b/\gQ B x.c/\gQ B x.d
theorem jk.mono{x}(h:jk B x)(a:B<=C):jk C x:=⟨h.1.mono a,h.2.1.mono a,h.2.2.1.mono a,h.2.2.2.mono a⟩
theorem jk.add{x y}(h:jk A x)(k:jk B y):jk (A+B) (x.add y):=⟨h.1.add k.1,h.2.1.add k.2.1,h.2.2.1.add k.2.2.1,h.2.2.2.add k.2.2.2⟩
theorem jk.smul{t}{y}(h:gQ A t)(k:jk B y):jk (A*B) (y.smul t):=⟨h.mul k.1,h.mul k.2.1,h.mul k.2.2.1,h.mul k.2.2.2⟩
theorem jk.dot{x y}(h:jk A x)(k:jk B y):gQ (4*(A*B)) (x.dot y):=((((h.1.mul k.1).add<|h.2.1.mul k.2.1).add<|h.2.2.1.mul k.2.2.1).add<|h.2.2.2.mul k.2.2.2).mono om
theorem jk.sign{s}{x}(h:jk B x)(hs:s=1\/s=-1):jk B (x.smul s):=(jk.smul (A:=1) (by unfold gQ;omega) h).mono om
theorem BS{p q r s:Int}(hp:gQ B p)(a:gQ B q)(b:gQ B r)(hs:gQ B s):gQ (2*(B*B)) (p*q-r*s):=((hp.mul a).sub<|b.mul hs).mono om
theorem Nl{p q r z:Int}(hp:gQ B p)(a:gQ B q)(b:gQ B r)(d:gQ C x)(e:gQ C y)(f:gQ C z):gQ (3*(B*C)) (p*x-q*y+r*z):=(((hp.mul d).sub<|a.mul e).add<|b.mul f).mono om
theorem Ly{u v w:V4}(a:jk B u)(f:jk B v)(o:jk B w):jk (6*(B*(B*B))) (E7 u v w):=by have⟨j,k,l,m⟩:=a;have⟨a,b,d,e⟩:=f;have⟨f,g,h,i⟩:=o;have o:3*(B*(2*(B*B)))=6*(B*(B*B)):=g_;rw[<-o];exact⟨Nl k l m (BS d i e h) (BS b i e g)<|BS b h d g,(Nl j l m (BS d i e h) (BS a i e f)<|BS a h d f).neg,Nl j k m (BS b i e g) (BS a i e f)<|BS a g b f,(Nl j k l (BS b h d g) (BS a h d f)<|BS a g b f).neg⟩
theorem TB{R}(h:∀i,jk B (R i))(j):jk (6*(B*(B*B))) (QL R j):=by unfold QL;split;{exact Ly (h 1) (h 2)<|h 3};{exact(Ly (h 0) (h 2)<|h 3).sign<|.inr rfl};{exact Ly (h 0) (h 1)<|h 3};exact(Ly (h 0) (h 1)<|h 2).sign (.inr rfl)
def JL (B:Nat):Nat:=24*(B*(B*(B*B)))
theorem GG{R}(h:∀i,jk B (R i)):gQ (JL B) (Jb R):=by refine((h 0).dot<|Ly (h 1) (h 2)<|h 3).mono<|jm ?_;unfold JL;grind
theorem It{L}{m}(a:∀i,jk A (L i))(hm:∀i,gQ B (m i)):jk (4*(B*A)) (Cc L m):=((((jk.smul (hm 0)<|a 0).add<|jk.smul (hm 1)<|a 1).add<|jk.smul (hm 2)<|a 2).add<|jk.smul (hm 3)<|a 3).mono om
def Zu (B:Nat)(l:L_):Prop:=∀z∈l,gQ B z
theorem Zu.at(h:Zu B l)(i):gQ B (l.getD i 0):=by rw[zk];by_cases a:i<Y l;{rw[zg a];exact h _<|zJ a};rw[qL om];exact Xt B
theorem Zu.fm(h:Zu B l):jk B (fm l):=⟨h.at 0,h.at 1,h.at 2,h.at 3⟩
theorem jk.list(k:Y l<=4)(h:jk B (Go.Proofs.YtikmppijocpamaaGreatDoor.fm l)):Zu B l:=by intro z j;obtain⟨i,g,rfl⟩:=qM j;have e:l[i]=l.getD i 0:=g_;rw[e];have⟨a,b,d,f⟩:=h;rcases uq (show i<4 by omega)with rfl|rfl|rfl|rfl;{exact a};{exact b};{exact d};exact f
def Jm (B:Nat)(r:L_×Int):Prop:=Zu B r.1/\gQ B r.2
structure St (B:Nat)(c:fO):Prop where
 over:c.over<=JL B
 eW:Zu (JL B) c.eW
 eL:∀e∈c.eL,Jm B e.row/\Zu (JL B) e.eS
theorem zrS(a:1<=B)(i):jk B (QV i):=by unfold QV jk gQ;simp only;omega
theorem GX{n:Nat}{a_:L_}{c:fO}(h:Qy n a_ c)(g:1<=B)(d:∀e∈c.eL,Jm B e.row):St B c:=by
 have⟨_,f,_,l,hp⟩:=h.C2;have j:=h.n4;have b:∀i,jk B (eR c i):=by intro i;unfold eR;cases a:c.eL[i]? with |none=>exact zrS g i |some e=>exact(d e<|zx a).1.fm
 have k:∀i,gQ B (eM c i):=by intro i;unfold eM;cases a:c.eL[i]? with |none=>exact Xt B |some e=>exact(d e<|zx a).2
 have m:6*(B*(B*B))<=JL B:=by unfold JL;have:B*(B*B)<=B*(B*(B*B)):=Jd _ g;omega
 refine⟨?_,?_,λe a=>⟨d e a,?_⟩⟩;{have d:=GG b;unfold gQ at d;grind};{apply jk.list (by rw[h.gh];omega);rw[hp];refine((It (TB b) k).sign f).mono<|jm ?_;unfold JL;grind};obtain⟨i,d,rfl⟩:=qM a;apply jk.list (by rw[(h.kf _ a).2];omega);rw[l i _<|zg d];exact((TB b i).sign f).mono m
theorem Pt{a:Type}{f:a->Int}:∀(l:List a),(∀e∈l,gQ B (f e))->gQ (Y l*B) (l.map f).sum
 |[],_=>by simpa using Xt 0 |x::l,h=>by rw[Zk,QI,qi];refine((h x (qA)).add (Pt l λe b=>h e (qq _ b))).mono (jm ?_);rw[Zg];omega
theorem Vo{n:Nat}{a_:L_}{c:fO}{r:Nat}(h:Qy n a_ c)(f:r<5)(k:xG n a_ c r)(l:∀e∈c.eL,Jm B e.row):Jm (4*B) (Zd n a_ c r):=by
 have i:=h.n4;have a:=h.pos;have d:=k.shared;have j:=QE a d;have p:∀e∈c.eL,Zc a_ c.over r e<c.over:=by intro e a;have b:=I_ h f a;have m:=Nf (rk a_ (fm e.eS) r) (show(0:Int)<(c.over:Int)by omega);omega
 have o:Y c.eL<=4:=by rw[h.len];exact i
 have g:∀f:iG->Int,(∀e∈c.eL,gQ B<|f e)->gQ ((c.over*Zm n a_ c r)*(4*B)) (c.eL.map λe=>(Zc a_ c.over r e:Int)*f e).sum:=by intro f f;apply(Pt (B:=c.over*B) c.eL λe a=>((Xr<|wW<|p e a).mul<|f e a)).mono;have b:Y c.eL*(c.over*B)<=4*(c.over*B):=zZ _ o;(have m:4*(c.over*B)=c.over*(4*B):=by rw[jq]);have f:c.over*(4*B)<=(c.over*Zm n a_ c r)*(4*B):=zZ _<|JM _ d;omega
 have m:=k.row;have f:=k.most;generalize c.over*Zm n a_ c r=D at g j m f;constructor;{apply jk.list (by rw[k.len];omega);(have d:∀i,gQ (4*B) ((Zd n a_ c r).1.getD i 0):=by intro i;have b:=g (λe=>e.row.1.getD i 0) λe a=>(l e a).1.at i;rw[<-m i,wv,td,Q9]at b;rw[wv];exact Nat.le_of_mul_le_mul_left b j);exact⟨d 0,d 1,d 2,d 3⟩};have b:=g (λe=>e.row.2) λe a=>(l e a).2;rw[f];generalize (c.eL.map λe=>(Zc a_ c.over r e:Int)*e.row.2).sum=s at *;have⟨a,d⟩:=b;have b:(0)<(D:Int):=om;rw[J0]at a d;constructor;{apply(MP b).2;grind};exact Int.ediv_le_of_le_mul b g_
end
section
variable {A w w1:H}{B N b d g k:Nat}{M:Nat->Prop}{q:Nat->Int}{z:Int}
theorem OK{l}(h:Zu B l)(j):Zu B (l.take j):=λz a=>h z (ZY a)
theorem BK{A:Nat}:∀{zs xs:L_},Zu A zs->Zu B xs->gQ (Y zs*(A*B)) (T.eT zs xs)
 |[],_,_,_=>by simpa[T.eT]using Xt _ |z::zs,[],_,_=>by simpa[T.eT]using Xt _ |z::zs,x::xs,h,k=>by (have e:T.eT (z::zs) (x::xs)=z*x+T.eT zs xs:=by simp[T.eT]);rw[e,qi];refine(((h z qA).mul (k x qA)).add (BK (λy a=>h y (qq _ a)) (λy a=>k y (qq _ a)))).mono (jm ?_);rw[Zg];omega
theorem gQ.lt(h:gQ B z)(a:B<N):By z<N:=qu (wv.1 h) a
theorem PJ(K:Nat)(o:K+K<=1073741823)(w:H)(v u:Value)(zs xs:L_)(h:Zo w v zs)(k:Zo w u xs)(q:Y zs=Y xs)(a:Y zs<=4){A:Nat}(b:Zu A zs)(d:Zu B xs)(p:A<4294967296^K)(hb:B<4294967296^K)(hm:4*(A*B)<4294967296^K):
 C_ 222 #[ag #[v],u] w λe w'=>∃t:WT,e=Xa t.val/\zy w' t.val (T.eT zs xs)/\b_ w w':=by have⟨z,l,a,m⟩:=h;have⟨y,s,f,x⟩:=k;obtain⟨fa,g,rfl⟩:=a.shape;obtain⟨i,j,rfl⟩:=f.shape;rw[zm]at a f⊢;rw[zm];refine Ww K o w _ i g j z y _ _ l a m s f x q om (λz a=>(b z a).lt p) (λz a=>(d z a).lt hb) (λa g f i=>((b a g).mul<|d f i).lt om) λj=>?_;refine(BK (OK b j)<|OK d j).lt<|qu ?_ hm;exact zZ _ g_
theorem zy.put{t:WT}{a:A_}{l cap}{b'}(h:zy w t.val z)(b:AT w (Xd g 0 O)=E (G b'))(d:AT w (Xd g 1 O)=E (V a l cap)):
 zy (AS (AS w (Xd g 0 O) (G t.b)) (Xd g 1 O) t.sv) t.val z:=by have⟨_,_,_,_,a,f,e⟩:=h.parts;have⟨_,_,_,_⟩:=t;simp only[WT.val,WT.sv,Lq,Array.mk.injEq,IU,Value.bool.injEq,qp,DI]at a;obtain⟨rfl,rfl,rfl,rfl⟩:=a;exact QJ f e b d
theorem UH(K:Nat)(g:K+K<=1073741823)(w:H)(v u:Value)(zs xs:L_)(h:Zo w v zs)(k:Zo w u xs)(j:Y zs=Y xs)(l:Y zs<=4){A:Nat}(d:Zu A zs)(f:Zu B xs)(i:A<4294967296^K)(hb:B<4294967296^K)(hm:4*(A*B)<4294967296^K):
 C_ 167 #[ag #[v],u] w λe w'=>∃t:WT,e=Xa t.val/\zy w' t.val (T.eT zs xs)/\b_ w w':=by have b:=zf λW (a)=>PJ K g W v u _ _ (h.ext a) (k.ext a) j l d f i hb hm;have d:=Xm (AI w<|cl #[v] 206) (G false) (V_) 102;have a:=sL w (cl #[v] 206)<|cl #[G false,V_] 102;rw[zL]at d;go_enter func167,ntmps167;go_wp2_with fail;refine(b.out _<|((Xe w).alloc _).alloc _).mono<|eO λb t j b=>?_;have⟨g,i,_,_,_⟩:=d.J b;have f:=zf<|j.put g i;have q:=a.trans<|b.mono a.size;have⟨m,l,p,o⟩:=t;simp only[WT.val,WT.sv]at f⊢;go_wp2;exact zH (v:=ag #[G m,V l p o]) (by simp[results,results167,go_sem,g,i]) rfl ⟨⟨m,l,p,o⟩,rfl,f.out,(q.setCell sp _).setCell sp _⟩
structure CT where
 a:S_
 o:S_
 p:S_
 e:S_
def ff (x:S_):Value:=V x.1 x.2.1 x.2.2
def CT.cells (c:CT):List Value:= [ff c.a,ff c.o,ff c.p,ff c.e]
def CT.val (c:CT):Value:=ag #[ff c.a,ff c.o,ff c.p,ff c.e]
theorem O_{W:H}{o:Obj}(h:Wr (λk=>k=g) w W)(hb:w.heap[b]? =E o)(a:b≠g):W.heap[b]? =E o:=(h.block b (zd.1 hb).1 a).trans hb
theorem zrT{W}(h:Wr (λk=>k=g) w W)(a b):Wr (λk=>k=g) w ((W.setCell (Xd g 0 O) a).setCell (Xd g 1 O) b):=(h.trans<|zv (U:=λk=>k=g) rfl a).trans (zv (U:=λk=>k=g) rfl b)
theorem TA(K:Nat)(hK:K+K<=1073741823)(w:H)(c:CT)(r:NT)(over:Nat)(pt g:L_)(m:Int)(ho:fj w (ff c.o) over)(hp:Zo w (ff c.p) pt)(hg:Zo w r.fv g)(hm:zy w r.t.val m)(hl:Y g=Y pt)(hn:Y g<=4){A:Nat}(hA:Zu A g)(hB:Zu B pt)(Uy:gQ A m)(X_:over<=B)(ha:A<4294967296^K)(hb:B<4294967296^K)(Va:4*(A*B)<4294967296^K):
 C_ 241 #[c.val,r.val] w λe w'=>∃t:WT,e=Xa t.val/\zy w' t.val (m*(over:Int)-T.eT g pt)/\b_ w w':=by have⟨⟨aa,al,ac⟩,⟨oa,ol,oc⟩,⟨pa,pl,pc⟩,⟨ea,el,ec⟩⟩:=c;have⟨⟨fa,fl,fc⟩,⟨tb,⟨ta,tl,tc⟩⟩,nn⟩:=r;simp only[CT.val,NT.val,ff,NT.fv,WT.sv,WT.val]at *;have⟨n0,n1,n2,hX⟩:=Bp w (cl #[V aa al ac,V oa ol oc,V pa pl pc,V ea el ec] 209) (cl #[V fa fl fc,G tb,V ta tl tc,i_ nn] 201)<|cl #[G false,V_] 102;go_enter Tryz.func241,Tryz.ntmps241;go_wp2_with fail;generalize H.alloc _ _=w0 at *;have HK:=zf λW (hW:Wr (λk=>k=IS (IT w)+1+1) _ W)=>have q0:=O_ hW n0 om;have q1:=O_ hW n1 om;Xc (ze _ _ 1 _ _ _ q0) (Xc (ze _ _ 2 _ _ _ q0)<|Xc (ze _ _ 0 _ _ _ q1)<|Xc (ze _ _ 1 _ _ _ q1)<|ze _ _ 2 _ _ _ q1);have hb3:By (m*(over))<4294967296^K:=(Uy.mul<|Xr X_).lt om;have hb4:=(BK hA hB).lt<|qu (zZ _ hn) Va;have HF:=zf λW1 (h1:Ext w W1)=>Kh W1 _ _<|ho.J h1;have HT:=zf λW1 t (h1:Ext w W1) (ht)=>D4 W1 _ t m over K K hK (hm.J h1) ht (Uy.lt ha) om;have HA:=zf λW1 (h1)=>PJ K hK W1 _ _ g _ (hg.ext h1) (hp.ext h1) hl hn hA hB ha hb Va;refine ZO (S:=λW=>AT W (y_ w 1)=E (V _ _ _)/\AT W (y_ w 2)=E (V _ _ _)/\AT W (x_ w 0)=E (V _ _ _)/\AT W (x_ w 1)=E (G _)/\AT W (x_ w 2)=E (V _ _ _)) rfl (HK.out w0<|Xk _ _) λhHeld=>?_;apply gX [0,1,2,3,4,7,8,9,10,11];apply iq 5<|HF.out _ hX.drew;rintro e wA ⟨tA,rfl,hA1,hbA⟩;have xA:=ZG hbA;refine bk (HK.out _<|Xh xA) λhHeld=>?_;apply iq 6<|HT.out _ _ (hX.trans xA) hA1;rintro e wB ⟨tB,rfl,hB1,hbB⟩;have xB:=xA.trans<|Xg hbB;refine bk (HK.out _<|Xh xB) λhHeld=>?_;apply iq 12<|HA.out _<|hX.trans xB;rintro e wC ⟨tC,rfl,hC1,hbC⟩;have xC:=xB.trans<|Xg hbC;refine bk (HK.out _<|Xh xC) λhHeld=>?_;apply iq 13<|PY _ _ _ _ _ _ om (hB1.J<|Xg hbC) hC1 hb3 hb4;rintro e wD ⟨tD,rfl,hD1,hbD⟩;have xD:=xC.trans<|Xg hbD;obtain⟨⟨db,⟨da,dl,dc⟩⟩,rfl⟩:=hD1.shape;have q2:=eK xD n2;have c0:=ze _ _ 0 _ _ _ q2;have c1:=ze _ _ 1 _ _ _ q2;have f0:=Xf (j:=0) q2;have f1:=Xf (j:=1) q2;have HP:=zf<|hD1.put c0 c1;have HB:=zf<|hX.trans xD;simp only[WT.val,WT.sv]at HP⊢;refine bk (HK.out _<|Xh xD) λhHeld=>?_;refine fZ 14 λK hK=>?_;go_simp;refine hK.out _ _ (HK.out _<|zrT (Xh xD) _ _) (h:=λhHeld=>?_);refine zV rfl ?_ _;go_wp2;exact zH (by simp[results,Tryz.results241,go_sem,c0,c1]) rfl ⟨⟨_,_,_,_⟩,rfl,HP.out,(HB.out.setCell g_ _).setCell g_ _⟩
def AL (w1:H)(b0 g gm N:Nat)(q:Nat->Int)(k:Nat)(M:Nat->Prop)(A:H):Prop:=
 Wr (λb=>b=g\/b=gm) w1 A/\k<=N/\∃(v:Value) (us:List _),Y us=k/\A.heap[g]? =E (cl #[v] 176)/\iy b0 102 2 A v (us.map WT.cells)/\(∀i u,us[i]? =E u->zy A u.val (q i))/\(∀b,No v=E b->b=gm\/IS (IT w1)<=b)/\∀b,M b↔b=g\/No v=E b
theorem AL.eN{B:H}(h:AL w1 b g d N q k M A)(a:zn w1.heap.size A B):AL w1 b g d N q k M B:=by have⟨b,d,v,o,e,f,i,j,l,m⟩:=h;exact⟨b.eN a,d,v,o,e,a.block _ _ f<|.inr rfl,i.eN a,λi u b=>(j i u b).eN a,l,m⟩
theorem AL.list{a:Nat}{zs:L_}(h:AL w1 a g b (Y zs) q (Y zs) M A)(k:∀i,i<Y zs->q i=zs.getD i 0):∃f:S_,A.heap[g]? =E (cl #[ff f] 176)/\Zo A (ff f) zs:=by have⟨_,_,_,l,d,e,a,j,_,_⟩:=h;obtain⟨b,c,rfl⟩:=a.shape;refine⟨(b,_,c),e,l,d,a.list,λi t z b a=>?_⟩;have:=j i t b;have b:=(zo.1 a).1;rw[k i b,zk,a]at this;exact this
theorem AL.lt{a:Nat}(h:AL w1 a g d N q k M A):∀b,M b->b<IS (IT A):=by have⟨_,_,_,_,_,d,e,_,_,f⟩:=h;intro b a;rcases(f b).1 a with rfl|a;{grind};exact(e.type b a).1.lt
theorem AL.more{A2 A4 A5:H}{e g5 ke:Nat}{v:Value}{a:List WT}{u:WT}(h:AL w1 d g e N q k M A)(F:k<N)(L:q k=z)(l:zn w1.heap.size A A2)(m:Ext A2 A4)(D:g<IS (IT w1))(o:g≠e)(t:A.heap[g]? =E (cl #[v] 176))(w:Y a=k)(s:iy d 102 2 A v (a.map WT.cells))(I:∀(i:Nat) (u:WT),a[i]? =E u->zy A u.val (q i))(J:zy A4 u.val z)(own:A5.ownsRow d 102 2 (V (E (Xd g5 0 O)) (Y a+1) ke) (Y a+1) ((a.map WT.cells).flatten++u.cells))(grow:A4.grownBy A5 (No v))(y:No v=E g5\/IS (IT A4)<=g5)(iR:qK A5 g5):
 Wr M A2 (AS A5 (Xd g 0 O) (V (E (Xd g5 0 O)) (Y a+1) ke))/\∃f,AL w1 d g e N q (k+1) f (AS A5 (Xd g 0 O) (V (E (Xd g5 0 O)) (Y a+1) ke))/\∀b,f b->M b\/IS (IT A)<=b:=by have⟨B,_,x,_,_,o,_,_,p,C⟩:=h;have K:x=v:=g_;subst K;have t:lN _ 2 _ (λv=>#[v]) _ _ d g e x a M A:=⟨B,o,s,λb d=>⟨λe=>g_,p b d⟩,C⟩;have x:Wr (λb=>IS (IT A)<=b) _ _:=Xh m;have⟨o,f,e,B⟩:=t.more (j:=0) l x D own rfl grow y iR rfl;have p:=λb d=>((t.fresh l x).iB (by obtain⟨_,_,rfl⟩:=s.shape;exact fV rfl) b d).1;exact⟨(Xh m).trans o,f,⟨e.1,F,_,_,g_,e.2.1,e.2.2.1,pX w (λi t a=>(((I i t a).eN l).J m).wr o p)<|L▸J.wr o p,λb d=>(e.2.2.2.1 b d).2,e.2.2.2.2⟩,B⟩
def RA (w:H)(r2 r3:Nat)(q:Nat->Int×Nat)(c:Code)(k:Nat)(A:H):Prop:=c= .ret/\¬(q k).2=1/\b_ w A/\AT A (Xd r2 0 O)=E (V_)/\AT A (Xd r2 1 O)=E (G false)/\AT A (Xd r2 2 O)=E (V_)/\AT A (Xd r3 0 O)=E (G false)
theorem RA.eN{B:H}{C:Nat}{q:Nat->Int×Nat}{c:Code}(h:RA w b d q c k A)(a:zn C A B)(l:IS (IT w)<=C):RA w b d q c k B:=by have⟨b,d,e,f,g,i,j⟩:=h;exact⟨b,d,a.J e l<|zh _,a.cell f,a.cell g,a.cell i,a.cell j⟩
end
section
variable {d:DP}{v:Value}{w w':H}{x:Nat×Int×Nat}
def mY (w:H)(d:DP)(x:Nat×Int×Nat):Prop:=fj w d.rv x.1/\Qa w d.f.val x.2.1 x.2.2
theorem mY.eN{B}(h:mY w d x)(a:zn B w w'):mY w' d x:=⟨h.1.eN a,h.2.eN a⟩
theorem mY.ext(h:mY w d x)(a:Ext w w'):mY w' d x:=h.eN (B:=0) (zn.eX a)
theorem mY.wr{U}(h:mY w d x)(b:Wr U w w')(a:∀k,U k->qK w k):mY w' d x:=⟨h.1.wr b a,h.2.wr b a⟩
def FX (last:Bool)(x:U_×Bool):Option (List (Nat×Int×Nat)):=
 if x.2=true/\(Zb x.1).headD []=(if last=true then [101,110,100]else [99,117,116])/\((Zb x.1).drop 1).all T.o_=true then E (((Zb x.1).drop 1).map T.vZ)else O
def pK (p:qF)(kind:Int)(z:Int)(row:L_×Int):Bool:=
 if kind=1 then decide (row=(p.mx,z))else decide (row.1=kah p.n 0)&&decide (row.2<0)
theorem uV{M:Nat}{z:Int}{q:Nat}(a:0<q)(h:By z<=M*q):By (z/(q:Int))<=M:=by
 have b:z<=(M*q:Nat):=om;have d:-((M*q:Nat))<=z:=om;have a:(0)<(q:Int):=om;have e:z/(q:Int)<=M:=by have:=Int.ediv_le_ediv a b;rw[J0,Int.mul_ediv_cancel _ om]at this;exact this
 have b:-(M:Int)<=z/(q:Int):=by have:=Int.ediv_le_ediv a d;rw[J0,<-Int.neg_mul,Int.mul_ediv_cancel _ om]at this;exact this
 omega
theorem Fe{L}{p}(f:lS L p)(a:2+p.n<=L):oK p.n (10^40) (T.eY p):=by
 have j:Y p.rg=p.n:=by have:=f.g;omega
 intro r a;unfold T.eY at a;rcases zU.1 a with a|a;{have⟨x,b,a⟩:=jj.1 a;have⟨g,_⟩:=f.c x b;have⟨d,e⟩:=f.br x b;unfold T.fk at a;grind};have⟨i,k,a⟩:=jj.1 a;have h:i<Y p.rg:=g_;have hm:p.rg.getD i (0,0)∈p.rg:=g_;have⟨d,e⟩:=f.bg _ hm;(have f:∀z∈T.fe p.n i,By z<=10^40:=by intro z b;unfold T.fe at b;obtain⟨_,_,rfl⟩:=qP.1 b;split;{omega};omega);(have h:Y (T.fe p.n i)=p.n:=by simp[T.fe]);unfold T.fQ at a;grind
structure DL where
 n:Int
 e:Bool
 p:S_
def DL.pv (d:DL):Value:=V d.p.1 d.p.2.1 d.p.2.2
def DL.val (d:DL):Value:=ag #[i_ d.n,G d.e,d.pv]
def nY (w:H)(v:Value)(ps:List (Nat×Int×Nat)):Prop:=
 ∃ds:List _,Y ds=Y ps/\ZS w 429 v 4 (ds.map DP.cells)/\∀(i:Nat) d x,ds[i]? =E d->ps[i]? =E x->mY w d x
theorem nY.eN{B}{b}(h:nY w v b)(a:zn B w w'):nY w' v b:=by have⟨f,b,d,e⟩:=h;exact⟨f,b,d.eN a,λi t z b d=>(e i t z b d).eN a⟩
theorem nY.ext{a}(h:nY w v a)(b:Ext w w'):nY w' v a:=h.eN (B:=0) (zn.eX b)
theorem nY.wr{U}{a}(h:nY w v a)(d:Wr U w w')(b:∀k,U k->¬qQ w k 429/\qK w k):nY w' v a:=by have⟨g,a,e,f⟩:=h;exact⟨g,a,e.wr d λk a=>(b k a).1,λi t z e g=>(f i t z e g).wr d λk a=>(b k a).2⟩
theorem nB(s)(hs:Y s<=90000)(w0:H):
 C_ 296 #[.func (.func 336) #[] #[p_ w0.heap.size 0]] (AI w0 (cl #[gS ⟨BY s⟩] 9)) λe w'=>∃(g off cap:Nat) (c:U_) (ts:List _),e=Xa (V (E (Xd g off O)) (Y ts+1) cap)/\Zb s=c::ts.map (λt=>t.s.data.toList)/\Y ts+1<=cap/\ZS w' 9 (V (E (Xd g off O)) (Y ts+1) cap) 1 ([gS ⟨BY c⟩]::ts.map ST.cells)/\Below (AI w0 (cl #[gS ⟨BY s⟩] 9)).heap.size (AI w0 (cl #[gS ⟨BY s⟩] 9)) w':=by have d:=(OU (Y s+1) s).1;have a:=(Tw s om w0.heap.size).seq;have b:Y ((Zb s).map FA)=Y ((Zb s).map λl=>(⟨BY l⟩:ByteArray)):=sp;rw[b]at a;refine(uv _ _ _ _ _ a (qW func336 kr rfl) (λk v W x b a=>?_) (λk v W a=>?_) (by rw[zm];exact zF d om) _ (c_ 0<|zC _ _) λA B d f=>?_).mono ?_;{rw[zR]at a b;cases h:(Zb s)[k]? with |none=>grind |some y=>rw[h]at b a;simp only[qY,qN]at b a;exact⟨⟨⟨_⟩⟩,a.symm,b⟩};{rw[zR]at a;cases h:(Zb s)[k]? with |none=>grind |some y=>rw[h]at a;simp only[qY,qN]at a;rw[<-a];rfl};{exact JV sp A B d f};rintro e w' ⟨v,ts,rfl,b,a,f,_,j⟩;(have k:ts=(Zb s).map λl=>(⟨⟨BY l⟩⟩:ST):=by apply Lh;intro i;rw[zR];rw[zm]at b;cases h:(Zb s)[i]? with |none=>grind |some y=>have d:i<Y ts:=g_;have b:=f i _ ⟨_⟩ (zg d) (by rw[zR,h];rfl);rw[zg d,qY,qN];rw[<-b]);subst k;have b:Zb s=(Lib.cut s _).1::(if (Lib.cut s _).2.2=true then sN _ _ else []):=rfl;generalize (Lib.cut s [32]).1=c at b;generalize (if (Lib.cut s [32]).2.2=true then sN (Y s) (Lib.cut s [32]).2.1 else [])=r at b;rw[b,Zk,Zk]at a;have d:=a;rcases d with ⟨_,h⟩|⟨g,off,cap,rfl,d,-⟩;{grind};simp only[zm,qi]at a d;refine⟨g,off,cap,c,r.map λl=>(⟨⟨BY l⟩⟩),sp,?_,g_,by rw[zm];exact a,j⟩;rw[b,wJ];congr 1;rw[show((λt=>t.s.data.toList) ∘ λl=>(⟨⟨BY l⟩⟩:ST))=id from funext λl=>sp,List.map_id]
def P7 (w:H)(r2 r3:Nat)(z:Int)(q:Nat->U_)(c:Code)(k:Nat)(A:H):Prop:=c= .ret/\T.o_ (q k)=false/\b_ w A/\AT A (Xd r2 0 O)=E (i_ z)/\AT A (Xd r2 1 O)=E (G false)/\AT A (Xd r2 2 O)=E (V_)/\AT A (Xd r3 0 O)=E (G false)
theorem P7.eN{A B:H}{b d C:Nat}{z:Int}{q:Nat->U_}{c:Code}{k:Nat}(h:P7 w b d z q c k A)(a:zn C A B)(l:IS (IT w)<=C):P7 w b d z q c k B:=by have⟨b,d,e,f,g,i,j⟩:=h;exact⟨b,d,a.J e l<|zh _,a.cell f,a.cell g,a.cell i,a.cell j⟩
end
section
variable {a d e:Value}{b g:Nat}{w:H}
theorem Ot(a):T.gF a=if Y a=2/\a.getD 0 []=DF then yz (a.getD 1 [])else 0:=by unfold T.gF yz T.rR DF;grind
theorem X7(a):Cu 2 (λk x=>if k=0 then decide (x=DF)else decide (yz x≠0)) a=decide (T.gF a≠0):=by unfold Cu;rw[Hq,Ot];grind
theorem WN(s:U_)(hs:Y s<=2000)(f h c:Nat)(g cap:Nat)(w:H)(hg:g≠c)(a:2<=cap)(b:cap<=9223372036854775807)(j:∀i fv,[QY f,Ng h][i]? =E fv->AT w (Xd g i O)=E fv)(u:AT w (Xd f 0 O)=E (gS ⟨BY DF⟩))(y:f≠c)(h1:AT w (Xd h 0 O)=E (p_ c 0))(B:h≠c)(m:AT w (Xd c 0 O)=E (i_ 0))(t:w.frozen? (Xd c 0 O)=false):
 C_ 283 #[gS ⟨BY s⟩,V (E (Xd g 0 O)) 2 cap] w λe w'=>
  e=Xa (G (decide (T.gF (Zb s)≠0)))/\Wr (λk=>k=c) w w'/\(T.gF (Zb s)≠0->AT w' (Xd c 0 O)=E (i_ (T.gF (Zb s):Nat))):=by have d:c<IS (IT w):=zw m;have l:=RE s hs _ (λk x=>if k=0 then decide (x=DF)else decide (yz x≠0)) (λk=>k=c) (λpre A=>∃z,AT A _=E (i_ z)/\A.frozen? _=false/\(1<Y pre->z=(yz<|pre.getD 1 []))) g _ w (λx q=>q▸d) hg sp om b j (λpre A a d o=>by have⟨z,a,b,j⟩:=d;exact⟨z,o.cell a,(o.frozen a).trans b,j⟩) (λpre A o o v d o o o=>by have⟨z,a,b,j⟩:=d;exact⟨z,(qj _ _ _ _ so).trans a,by simp_all,j⟩) ?_ ⟨0,m,t,λo=>g_⟩;{have d: Y [QY f,Ng h]=2:=rfl;rw[d,X7]at l;refine l.mono<|eV λw' ⟨m,l⟩=>?_;refine⟨rfl,m,λt=>?_⟩;have⟨z,a,b,j⟩:=l g_;have d:=t;rw[Ot]at d;have t:=Ot<|Zb s;grind};intro k fv d;match k,d with |0,d=>simp at d;subst d;refine⟨_,f,rfl,Oy,λpre x W hp q m l=>?_⟩;apply(Oe x _ f W<|m.cell y u).mono;rintro e f ⟨rfl,rfl⟩;obtain rfl:pre= []:=QZ hp;have⟨z,a,b,j⟩:=l;exact⟨rfl,Xk _ _,λ_=>⟨z,a,b,λo=>g_⟩⟩ |1,d=>simp at d;subst d;refine⟨_,h,rfl,zqt,λpre x W hp q m l=>?_⟩;have⟨z,a,b,j⟩:=l;refine(zjV x h c z W (m.cell B h1) a b om).mono<|eV λf ⟨a,h⟩=>?_;refine⟨rfl,?_,λf=>⟨_,h g_,?_,λ_=>?_⟩⟩;{rcases a with rfl|rfl;{exact Xk _ _};exact Xs (T:=λk=>k=c) (Xp _ _) rfl _};{rcases a with rfl|rfl;{omega};simp_all};grind |k+2,d=>grind
theorem zl1(s:U_)(hs:Y s<=2000)(a:Nat)(X u:Value)(w:H)(h:DQ w a qF.none X u):
 C_ 203 #[p_ a 0,gS ⟨BY s⟩] w λe w'=>
  e=Xa (G (decide (T.gF (Zb s)≠0)))/\Wr (λk=>k=a) w w'/\(T.gF (Zb s)≠0->∃t,DQ w' a ⟨T.gF (Zb s),[],[],[]⟩ t u/\∀k,No t=E k->IS (IT w)<=k):=by have⟨R,F,N,P,Q⟩:=Zn Tryz.yf;have a0:=h.box.2.2.2.2;have z:b_ w (AI (AI (AI (AI w<|cl #[i_ 0] 3)<|cl #[gS ⟨BY DF⟩] 9)<|cl #[p_ w.heap.size 0] 407)<|cl #[QY<|IS (IT w)+1,Ng<|IS (IT w)+1+1] 404):=(yV w _ _ _).alloc so _;have⟨q,S,U,W⟩:=NL w (cl #[i_ 0] 3) (cl #[gS ⟨BY DF⟩] 9) (cl #[p_ w.heap.size 0] 407)<|cl #[QY<|IS (IT w)+1,Ng<|IS (IT w)+1+1] 404;have l:=zf (WN s hs _ _ _ (IS (IT w)+1+1+1) 2 _ om om om (λo fv b=>by rw[ze _ _ _ _ _ _ W];grind) (ze _ _ _ _ _ _ S) om (ze _ _ _ _ _ _ U) om (ze _ _ _ _ _ _ q)<|ZK _ _ _ _ _ q);have v:=zf h;have K:=Vx<|Zb s;obtain⟨n,hn⟩:∃n,T.gF (Zb s)=n:=⟨_,rfl⟩;rw[hn]at l K⊢;go_enter func203,ntmps203;go_wp2_with fail;apply(MK _ _).mono;rintro e c ⟨rfl,rfl⟩;go_wp2_with fail;refine(Y4 _ _).mono<|fK ?_;go_wp2_with fail;refine l.out.mono<|eV λi ⟨L,B⟩=>?_;have M:=(Xh z).trans L;have d:=M.J (zh _) λk e=>om;by_cases f:n=0;{subst f;go_wp2;go_ret;exact⟨sp,Xh d,λh=>absurd rfl h⟩};have hc:=B f;have j:=v.out.J d;have A:=j.box;have⟨x,_,y,_,m⟩:=A;have C:decide (n≠0)=true:=g_;rw[C];go_wp2_with (at_make;apply wpList_make_full _ rfl _ _ _ rfl 0 171 R _ 6 underlying117 F N P _ _ _ _ n rfl rfl rfl rfl g_ mo<|qo _;intro Z J D;have g:=(qf _ _).grown D (zh _) λk h=>g_;have q0:=(g.cell m).trans x;have q2:=(g.frozen m).trans y);go_ret;refine⟨by simp_all,Xs (T:=λk=>k=a) (Xh<|d.trans<|g.mono d.size) rfl _,λ_=>⟨_,(j.J g).Bu (zoC J) ?_ ?_ sp,λk I=>?_⟩⟩;{omega};{intro e;have:=(((j.rows).choose_spec.2.1).lt _ e).2;omega};simp[kab]at I;have:=d.size;omega
theorem KC{B}{a}(h:Below B a w):Below B a w.drew:=⟨h.os,h.tape,h.output,h.size,h.block⟩
theorem Us(a n)(b:A_)(cap)(w)(h:AT w (Xd a 0 O)=E (V b n cap))(d:n<=1000):
 C_ 134 #[p_ a 0] w λe w'=>e=Xa (i_ ((2+n:Nat)))/\w'=w:=by go_enter func134,ntmps134;go_wp2;go_ret;simp
theorem DQ.xz{p:qF}(h:DQ w b p d a):∃ap kp,a=V ap (Y p.rows) kp:=by have⟨_,a,b,_⟩:=h.rows;rw[<-a];obtain⟨_,a|⟨_,_,_,d,_⟩⟩:=b;{grind};grind
theorem DQ.ur{d}{p}{b}(h:DQ w d p b e)(f:0<p.n):∃a zs,b=V (E (Xd a 0 O)) p.n p.n/\lR w a zs/\GA p zs:=by rcases h.nK with b|⟨a,zs,b,_,d,e⟩;{omega};grind
def Ah (f:Nat)(args:W_)(i:Nat)(p:qF)(ws:List (U_))(gp:Nat)(vC vR:Value)(B:Nat)(w:H):Prop:=
 C_ f args w λe w'=>e=Xa (G (jD i p ws).isSome)/\Wr (Own gp vC vR) w w'/\∀q,jD i p ws=E q->∃vC' vR',DQ w' gp q vC' vR'/\∀k,Own gp vC' vR' k->Own gp vC vR k\/B<=k
theorem XK(l:U_)(e:Y l<=2000)(a B:Nat)(b d:Value)(w:H)(h:DQ w a qF.none b d)(g:B<=IS (IT w)):
 Ah 203 #[p_ a 0,gS ⟨BY l⟩] 0 qF.none (Zb l) a b d B w:=by apply(zl1 l e a b d w h).mono;rintro e a ⟨rfl,b,i⟩;have a:jD 0 qF.none (Zb l)=if T.gF (Zb l)=0 then .none else E ⟨T.gF<|Zb l,[],[],[]⟩:=rfl;rw[a];refine⟨?_,b.mono λk e=>kae e,λq a=>?_⟩;{grind};by_cases b:T.gF (Zb l)=0;{grind};rw[zO b]at a;injection a with a;subst a;have⟨j,a,f⟩:=i b;refine⟨j,d,a,λk a=>?_⟩;rcases a with e|e|e;{exact kae<|kae e};{grind};exact kae (R8<|R8 e)
theorem zqW(l)(hl:Y l<=2000)(gp B)(p)(vC vR)(w)(h:DQ w gp p vC vR)(hn:0<p.n/\p.n<=4)(L6:p.rg= []):
 Ah 204 #[p_ gp 0,gS ⟨BY l⟩] 1 p (Zb l) gp vC vR B w:=by
 obtain⟨bc,zs,rfl,hz,hc⟩:=h.ur hn.1;refine(zmz l hl _ _ _ _ _ w h.box hn.2 hz hc.1).mono<|eV λw' ⟨hw,hq⟩=>?_;have ht:jD 1 p (Zb l)=if Am EI p.n (Zb l)=true then E { p with mx:=((Zb l).drop 1).map T.wZ } else .none:=by unfold jD Am;rw[zO om,zQ rfl];simp only[Z9]
 rw[ht];refine⟨?_,hw.mono λk e=>R8<|kae (by rw[e];rfl),λq hqe=>?_⟩;{grind};by_cases h0:Am EI p.n (Zb l)=true;{rw[zQ h0]at hqe;injection hqe with hqe;subst hqe;exact⟨_,_,h.sX rfl hn.1 hw (hq h0) (zqG hc L6 (jU h0).1) rfl rfl,λk hk=>kae hk⟩};grind
theorem znQ(i)(l)(hl:Y l<=2000)(gp B)(p)(vC vR)(w)(h:DQ w gp p vC vR)(hn:0<p.n/\p.n<=4)(h2:2<=i)(hi:i<=1+p.n)(L6:Y p.rg=i-2):
 Ah 205 #[p_ gp 0,gS ⟨BY l⟩,i_ ((i-2:Nat))] i p (Zb l) gp vC vR B w:=by
 obtain⟨bc,zs,rfl,hz,hc⟩:=h.ur hn.1;refine(zk7 l hl _ _ _ _ _ _ w h.box hn.2 om hz hc.1).mono<|eV λw' ⟨hw,hq⟩=>?_;have ht:jD i p (Zb l)=if Am Je 2 (Zb l)=true then E { p with rg:=p.rg ++ [(T.wZ<|(Zb l).getD 1 [],T.wZ<|(Zb l).getD 2 [])] } else .none:=by unfold jD Am;rw[zO om,zO om,zQ hi];simp only[Z9]
 rw[ht];refine⟨?_,hw.mono λk e=>R8<|kae (by rw[e];rfl),λq hqe=>?_⟩;{grind};by_cases h0:Am Je 2 (Zb l)=true;{rw[zQ h0]at hqe;injection hqe with hqe;subst hqe;exact⟨_,_,h.sX rfl hn.1 hw (hq h0) (znE hc L6 om (jU h0).1) rfl rfl,λk hk=>kae hk⟩};grind
theorem YX(i:Nat)(l:U_)(j:Y l<=2000)(a B:Nat)(p:qF)(e d:Value)(w:H)(h:DQ w a p e d)(b:0<p.n/\p.n<=4)(h2:2<=i)(f:¬i<=1+p.n)(k:Y p.rows<6)(g:B<=IS (IT w)):
 Ah 206 #[p_ a 0,gS ⟨BY l⟩] i p (Zb l) a e d B w:=by
 obtain⟨e,_,rfl,_,_⟩:=h.ur b.1;refine(zmE l j a e p d w h b.1 b.2 om).mono<|eV λa ⟨b,j⟩=>?_;have a:jD i p (Zb l)=if AE p.n (Zb l)=true then E { p with rows:=p.rows ++ [rowOf p.n<|Zb l] } else .none:=by unfold jD AE rowOf;rw[zO om,zO om,zO f];simp only[Z9,k,true_and]
 rw[a];refine⟨?_,b,λq a=>?_⟩;{grind};by_cases b:AE p.n (Zb l)=true;{rw[zQ b]at a;injection a with a;subst a;have⟨k,d,f⟩:=j b;refine⟨_,k,d,λk d=>?_⟩;rcases d with e|e|e;{exact kae<|kae e};{exact kae<|R8<|kae e};exact(f k e).imp (λe=>R8<|R8 e) λe=>zF g e};grind
theorem zoT(i:Nat)(l:U_)(b1 C:Bool)(b:Nat)(p:qF)(o s:Value)(w:H)(h:DQ w b p o s)(f:lS i p)(y:Y l<=2000)(hi:i<=100000):
 C_ 133 #[p_ b 0,ag #[i_ ((i+1:Nat):Int),gS ⟨BY l⟩,G b1,G C]] w λe w'=>
  e=Xa (G (jD i p (Zb l)).isSome)/\Wr (Own b o s) w w'/\∀q,jD i p (Zb l)=E q->∃L M,DQ w' b q L M/\∀k,Own b L M k->Own b o s k\/IS (IT w)<=k:=by have⟨_,_,a1⟩:=h.xz;have d:b_ w (AI w<|cl #[i_<|(i+1:Nat),gS ⟨BY l⟩,G b1,G C] 241):=(qf _ _).alloc (zh _) _;have a:=h.J d;have⟨u,Q,R,S,T⟩:=a.box;have x:=d.size;by_cases D:i=0;{subst D;obtain rfl:=f.z rfl;have g:=zf<|XK l y b _ o s _ a x;go_enter func133,ntmps133;go_wp2_with fail;refine g.out.mono<|eV λt ⟨m,j⟩=>?_;go_wp2;go_ret;exact⟨rfl,(Xh d).trans m,j⟩};have z:=f.n om;have⟨P,_,a0,_,_⟩:=h.ur z.1;by_cases F:i=1;{subst F;have g:=zf (zqW l y b w.heap.size p o s _ a z<|QZ (by have:=f.g;omega));go_enter func133,ntmps133;go_wp2_with fail;refine g.out.mono<|eV λt ⟨m,j⟩=>?_;go_wp2;go_ret;exact⟨rfl,(Xh d).trans m,j⟩};rw[a0]at u;have v:((i+1:Nat))=(i:Int)+1:=sp;rw[v]at d a u Q R S T x;have A:=zf λ(W) (c:AT W _=E (V (E<|Xd P 0 O) _ p.n))=>Us b p.n _ _ W c om;have a:=a.eN<|zn.drew 0 _;have d:=KC d;have x:=d.size;have a2:¬(i:Int)+1=1:=om;have a3:¬(i:Int)+1=2:=om;by_cases B:i<=1+p.n;{have g:=zf (znQ i l y b w.heap.size p o s _ a z om B (by have:=f.g;omega));have U:(i)+1<=2+(p.n:Int):=om;have J:((i-2:Nat))=(i:Int)+1-2-1:=om;rw[J]at g;go_enter func133,ntmps133;go_wp2_with fail;go_region_with (go_at_call 134;apply(A.out _ am).mono;rintro e t ⟨rfl,rfl⟩);(all_goals go_wp2_with fail);(all_goals refine g.out.mono ?_);(all_goals rintro e t ⟨rfl,m,j⟩);(all_goals go_wp2);(all_goals go_ret);all_goals exact⟨rfl,(Xh d).trans m,j⟩};have U:¬(i)+1<=2+(p.n:Int):=om;subst a1;by_cases I:Y p.rows<6;{have g:=zf<|YX i l y b _ p o _ _ a z om B I x;have X:(Y p.rows:Int)<6:=om;go_enter func133,ntmps133;go_wp2_with fail;go_region_with (go_at_call 134;apply(A.out _ am).mono;rintro e t ⟨rfl,rfl⟩);(all_goals go_wp2_with fail);(all_goals refine g.out.mono ?_);(all_goals rintro e t ⟨rfl,m,j⟩);(all_goals go_wp2);(all_goals go_ret);all_goals exact⟨rfl,(Xh d).trans m,j⟩};(have K:jD i p (Zb l)= .none:=by unfold jD;rw[zO D,zO F,zO B,zO λZ=>I Z.1]);have N:=zf K;have X:¬(Y p.rows:Int)<6:=om;clear a h f v K;go_enter func133,ntmps133;go_wp2_with fail;go_region_with (go_at_call 134;refine(A.out _ am).mono<|fK ?_);(all_goals go_wp2);(all_goals go_ret);(all_goals rw[N.out]);all_goals exact⟨rfl,Xh d,λq hq=>g_⟩
theorem lR.nZ{zs}{z z'}(h:lR w b zs)(d:AT w (Xd g 0 O)=E (i_ z)):lR (AS w (Xd g 0 O) (i_ z')) b zs:=by by_cases f:g=b;{subst f;refine⟨h.1.setCell d sp,λj e=>?_⟩;have⟨_,_,_,c,e,_⟩:=h.2 0 om;rw[Ql,d]at e;cases e};exact h.setCell d sp f _
theorem DQ.nZ{p}{z z'}(h:DQ w b p a d)(hg:¬Own b a d g)(i:AT w (Xd g 0 O)=E (i_ z)):DQ (AS w (Xd g 0 O) (i_ z')) b p a d:=by have d:b≠g:=λe=>hg<|kae e.symm;have same:∀k,k≠g->(AS w (Xd g 0 O)<|i_ z').heap[k]? =w.heap[k]?:=λk a=>qC _ _ _ _ a;refine⟨h.box.same (same b d) sp,h.xT.same<|same b d,?_,λk a=>⟨(h.mB k a).1.same<|same k λe=>hg<|e▸R8 (R8 a),(h.mB k a).2⟩,?_⟩;{rcases h.nK with b|⟨j,m,b,d,f,l⟩;{grind};exact R8 ⟨j,m,b,d,f.nZ i,l⟩};have⟨j,b,d,f⟩:=h.rows;refine⟨j,b,Ku d λk a=>same k λe=>hg<|e▸R8 (R8 a),λd r row a b=>?_⟩;have⟨e,j,k,l,m⟩:=f d r _ a b;exact⟨e,j,k.nZ i,l,m.setCell i sp _⟩
theorem lR.eU{j}{zs}{y v}(h:lR w b zs)(f:AT w (Xd g j O)=E y)(k:∀n,y≠it .u32 n)(l:∀n,v≠it .u32 n)(i:AT w (Xd g 0 O)=E d)(hb:∀x,d≠G x):lR (AS w (Xd g j O) v) b zs:=by by_cases e:g=b;{subst e;refine⟨h.1.setCell f l,λd d=>?_⟩;have⟨x,_,_,c,d,_⟩:=h.2 0 om;rw[Ql,i]at d;injection d with d;exact absurd d<|hb x};exact h.setCell f k e _
theorem DQ.eU{j}{p}{y v}(h:DQ w b p a d)(hg:¬Own b a d g)(l:AT w (Xd g j O)=E y)(i:∀n,y≠it .u32 n)(o:∀n,v≠it .u32 n)(m:AT w (Xd g 0 O)=E e)(hb:∀x,e≠G x):DQ (AS w (Xd g j O) v) b p a d:=by have d:b≠g:=λe=>hg<|kae e.symm;have same:∀k,k≠g->(AS w (Xd g j O) v).heap[k]? =w.heap[k]?:=λk a=>qC _ _ _ _ a;refine⟨h.box.same (same b d) sp,h.xT.same<|same b d,?_,λk a=>⟨(h.mB k a).1.same<|same k λe=>hg<|e▸R8 (R8 a),(h.mB k a).2⟩,?_⟩;{rcases h.nK with b|⟨q,t,b,d,f,s⟩;{grind};exact R8 ⟨q,t,b,d,f.eU l i o m hb,s⟩};have⟨q,b,d,f⟩:=h.rows;refine⟨q,b,Ku d λk a=>same k λe=>hg<|e▸R8 (R8 a),λd r row a b=>?_⟩;have⟨e,k,q,s,t⟩:=f d r _ a b;exact⟨e,k,q.eU l i o m hb,s,t.setCell l i _⟩
theorem DQ.lt{a}{p}{b}(h:DQ w a p b d):∀k,Own a b d k->k<IS (IT w):=by intro k a;rcases a with e|e|e;{rw[e];exact h.box.2.2.2.2};{rcases h.nK with ⟨_,a⟩|⟨_,_,a,_,b,_⟩;{rw[a]at e;cases e};rw[a]at e;simp[kab]at e;rw[<-e];exact b.lt};have⟨_,_,a,_⟩:=h.rows;exact(a.lt k e).2
theorem VF{a}:∀{j k:Nat} {v:W_},(BQ j a)[k]? =E v->∃x last,a[k]? =E x/\v=Aw (j+k) x last:=by induction a with |nil=>intro j k v h;simp[BQ]at h |cons y r d=>intro j k v h;cases k with |zero=>simp[BQ]at h;grind |succ k=>rw[BQ,jg]at h;grind
theorem Rf{a:List (U_×Bool)}{i}{p}{y:U_×Bool}(d:a[i]? =E y):ju i p (a.drop i)=if y.2=false then .error (i+1)else match jD i p (Zb y.1)with|.none=> .error (i+1)|some q=>ju (i+1) q (a.drop (i+1)):=by have⟨b,a⟩:=zo.1 d;rw[jt b,a,ju];rfl
theorem Yv(s)(k:Nat)(x)(h:(QW s)[k]? =E x):Y x.1<=Y s:=(M6 (Y s) s).2 x (zx h)
def CD (w:H)(LL:List (U_×Bool))(k:Nat)(p:qF)(vC vR:Value)(A:H):Prop:=
 DQ A (IS (IT w)+1+1) p vC vR/\lS k p/\ju 0 qF.none LL=ju k p (LL.drop k)/\AT A ⟨IS (IT w)+1+1+1,0,O⟩=E (i_ ((k)+1))/\A.frozen? ⟨IS (IT w)+1+1+1,0,O⟩=false/\
  Zh A w.heap.size (V_) (V_)/\AT A ⟨IS (IT w)+1,0,O⟩=E (i_ 0)/\A.frozen? ⟨IS (IT w)+1,0,O⟩=false/\b_ w A/\(∀x,Own (IS (IT w)+1+1) vC vR x->x=IS (IT w)+1+1\/IS (IT w)+1+1+1+1<x)/\IS (IT w)+1+1+1+1<IS (IT A)
theorem CD.eN{C:Nat}{A A':H}{b:List (U_×Bool)}{k:Nat}{p:qF}(h:CD w b k p d e A)(a:zn C A A')(s:IS (IT w)<=C):CD w b k p d e A':=by have⟨e,i,j,b,l,m,d,o,q,f,g⟩:=h;exact⟨e.eN a,i,j,a.cell b,(a.frozen b).trans l,m.eN a,a.cell d,(a.frozen d).trans o,a.J q s<|zh _,f,zK g a.size⟩
theorem CD.step{A2 b:H}{d:List (U_×Bool)}{k:Nat}{p q:qF}{g f i:Value}{y:U_×Bool}(h:CD w d k p e g A2)(a:Wr (Own (IS (IT w)+1+1) e g) A2 b)(D:DQ b (IS (IT w)+1+1) q f i)(ho:∀x,Own (IS (IT w)+1+1) f i x->Own (IS (IT w)+1+1) e g x\/IS (IT A2)<=x)(F:d[k]? =E y)(I:y.2=true)(u:jD k p (Zb y.1)=E q):
 b.cell? ⟨IS (IT w)+1+1+1,0,O⟩=E (i_ ((k:Int)+1))/\b.frozen? ⟨IS (IT w)+1+1+1,0,O⟩=false/\Hid (CD w d (k+1) q f i (AS b ⟨IS (IT w)+1+1+1,0,O⟩ (i_ ((k:Int)+1+1)))):=by
 have⟨_,A,B,l,z,o,s,C,t,j,_⟩:=h;have d:IS (IT w)+1+1+1<IS (IT A2):=zw l;have d:∀x,x<=IS (IT w)+1+1+1+1->x≠IS (IT w)+1+1->¬Own _ e g x:=λx v e e=>by rcases j x e with e|e<;>omega
 have g:=a.cell (p:=(v_ w 0)) (d _ sp sp) l;have m:=(a.frozen (p:=(v_ w 0)) (d _ sp sp)<|zw l).trans z;have l:=o.same (a.block _ o.2.2.2.2<|d _ om om) a.size;have o:=a.cell (p:=(x_ w 0)) (d _ sp sp) s;have z:=(a.frozen (p:=(x_ w 0)) (d _ sp sp)<|zw s).trans C;have d:∀x,Own _ f i x->x=IS (IT w)+1+1\/IS (IT w)+1+1+1+1<x:=λx v=>by rcases ho x v with e|e;{exact j x e};omega
 refine⟨g,m,D.nZ (λe=>g_) g,A.step u,?_,?_,by simp_all,?_,?_,by simp_all,?_,d,by have:=a.size;simp;omega⟩;{rw[B,Rf F,zO g_,u]};{rw[zN _ _ _ g];simp};{exact l.same (qC _ _ _ _ g_) sp};{rw[qj _ _ _ _ g_];omega};have d:=a.J t.size λx e=>g_;exact(t.trans d).setCell so _
end
def DG:L_->L_->L_->Bool
 |m::ms,x::xs,y::ys=>if x=y then DG ms xs ys else(decide (y<x) == decide (0<m))
 |_,_,_=>false
theorem TF:∀{c xs ys:L_},(∀(j:Nat) (x y:Int),xs[j]? =E x->ys[j]? =E y->x=y)->DG c xs ys=false
 |[],_,_,_=>by simp[DG] |_::_,[],_,_=>by simp[DG] |_::_,_::_,[],_=>by simp[DG] |m::c,x::xs,y::ys,h=>by rw[DG,zQ (h 0 x y rfl rfl)];exact TF (λj a b d hb=>h (j+1) a b (by simpa using d) (by simpa using hb))
theorem Oq:∀{e xs ys:L_} {i:Nat} {m x y:Int},(∀(j:Nat) (x y:Int),j<i->xs[j]? =E x->ys[j]? =E y->x=y)->e[i]? =E m->xs[i]? =E x->ys[i]? =E y->x≠y->DG e xs ys=(decide (y<x) == decide (0<m))
 |[],_,_,_,_,_,_,_,h,_,_,_=>by simp at h |_::_,[],_,_,_,_,_,_,_,h,_,_=>by simp at h |_::_,_::_,[],_,_,_,_,_,_,_,h,_=>by simp at h |a::e,b::xs,c::ys,0,m,x,y,_,h1,h2,d,f=>by simp at h1 h2 d;subst h1 h2 d;rw[DG,zO f] |a::e,b::xs,c::ys,i+1,m,x,y,h,h1,h2,d,f=>by rw[DG,zQ (h 0 b c om rfl rfl)];exact Oq (i:=i) (λj p q k hp g=>h (j+1) p q om (by simpa using hp) (by simpa using g)) (by simpa using h1) (by simpa using h2) (by simpa using d) f
def Pc (w:H)(v:Value)(zs:List ByteArray):Prop:=
 ∃ao cap,v=V ao (Y zs) cap/\(0<Y zs->∃g off,ao=E (Xd g off O)/\g<IS (IT w)/\∀i z,zs[i]? =E z->AT w ⟨g,off+i,O⟩=E (gS z))
theorem Y8 (a:A_)(n cap:Nat)(ap:A_)(m kp:Nat)(w:H):
 C_ 91 #[ag #[V a n cap,V ap m kp]] w λe w'=>e=Xa (.func (.func 140) #[] #[p_ w.heap.size 0])/\w'=AI w (cl #[V a n cap,V ap m kp] 120):=by go_enter func91,ntmps91;go_wp2;go_ret;simp
section
open Go.ChangeShapes Go.WideShapes Go.ChangeAt Go.RowKit
def Rj (P:Program)(f:FuncId)(fn:Func)(s:ChangeSpec)(c:OpenClaim):Bool:=c.wf (OpenSpec.ofChange s)
def Ph (P:Program)(f:FuncId)(fn:Func)(s:ChangeSpec)(c:OpenClaim):Bool:=laidOutB P
def Og (P:Program)(f:FuncId)(fn:Func)(s:ChangeSpec)(c:OpenClaim):Bool:=mapsRowed P
def SC (P:Program)(f:FuncId)(fn:Func)(s:ChangeSpec)(c:OpenClaim):Bool:=fn.params.all (P.readableRec ·)
def Q1 (P:Program)(f:FuncId)(fn:Func)(s:ChangeSpec)(c:OpenClaim):Bool:=namedTie P c.named s.vars
def Sc (P:Program)(f:FuncId)(fn:Func)(s:ChangeSpec)(c:OpenClaim):Bool:=(c.stops == [])
def SJ (P:Program)(f:FuncId)(fn:Func)(s:ChangeSpec)(c:OpenClaim):Bool:=(P.stops == [])
def OZ (P:Program)(f:FuncId)(fn:Func)(s:ChangeSpec)(c:OpenClaim):Bool:=(c.knobs == [])
def RB (P:Program)(f:FuncId)(fn:Func)(s:ChangeSpec)(c:OpenClaim):Bool:=(P.stopKnobs == [])
def SH (P:Program)(f:FuncId)(fn:Func)(s:ChangeSpec)(c:OpenClaim):Bool:=(c.inPlace == P.inPlace f)
def Ih (P:Program)(f:FuncId)(fn:Func)(s:ChangeSpec)(c:OpenClaim):Bool:=(c.unfollowed == P.unfollowed f)
def G0 (P:Program)(f:FuncId)(fn:Func)(s:ChangeSpec)(c:OpenClaim):Bool:=(c.recurses == P.recurses f)
def Ib (P:Program)(f:FuncId)(fn:Func)(s:ChangeSpec)(c:OpenClaim):Bool:=(c.named == P.varsNamed f)
def G_ (P:Program)(f:FuncId)(fn:Func)(s:ChangeSpec)(c:OpenClaim):Bool:=(c.maps == (fn.params.toList++s.plain.varTypes P).any (P.mapsRec ·))
def GQ (P:Program)(f:FuncId)(fn:Func)(s:ChangeSpec)(c:OpenClaim):Bool:=(c.ifaces == (fn.params.toList++s.plain.varTypes P).any (P.ifacesRec ·))
def Hy (P:Program)(f:FuncId)(fn:Func)(s:ChangeSpec)(c:OpenClaim):Bool:=(c.mapsOut == P.mapsAmong fn.resultTypes.toList)
def G7 (P:Program)(f:FuncId)(fn:Func)(s:ChangeSpec)(c:OpenClaim):Bool:=(c.loops == (fn.params.toList++s.plain.varTypes P).any (P.loopsFrom ·))
def GJ (P:Program)(f:FuncId)(fn:Func)(s:ChangeSpec)(c:OpenClaim):Bool:=(c.wideKeys == (fn.params.toList++s.plain.varTypes P++fn.resultTypes.toList).any (P.wideKeysFrom ·))
def Ir (P:Program)(f:FuncId)(fn:Func)(s:ChangeSpec)(c:OpenClaim):Bool:=s.vars.all (P.varReadable ·)
def GO (P:Program)(f:FuncId)(fn:Func)(s:ChangeSpec)(c:OpenClaim):Bool:=fn.resultTypes.all (λt=>P.readableRec t&&decide (t<P.types.size))
def Gm (P:Program)(f:FuncId)(fn:Func)(s:ChangeSpec)(c:OpenClaim):Bool:=(c.ifacesOut == fn.resultTypes.toList.any (P.ifacesRec ·))
def H9 (P:Program)(f:FuncId)(fn:Func)(s:ChangeSpec)(c:OpenClaim):Bool:=(c.loopsOut == fn.resultTypes.toList.any (P.loopsFrom ·))
def Gq (P:Program)(f:FuncId)(fn:Func)(s:ChangeSpec)(c:OpenClaim):Bool:=(c.plainKeys == P.plainKeys)
def Hz (P:Program)(f:FuncId)(fn:Func)(s:ChangeSpec)(c:OpenClaim):Bool:=c.shortTexts.isNone
def Hr (P:Program)(f:FuncId)(fn:Func)(s:ChangeSpec)(c:OpenClaim):Bool:=P.stopsHeard
def Ij (P:Program)(f:FuncId)(fn:Func)(s:ChangeSpec)(c:OpenClaim):Bool:=P.mayEnter
def Ht (P:Program)(f:FuncId)(fn:Func)(s:ChangeSpec)(c:OpenClaim):Bool:=(c.lifted == P.liftsFinal)
def Im (P:Program)(f:FuncId)(fn:Func)(s:ChangeSpec)(c:OpenClaim):Bool:=(P.make == E c.make)
def Ic (P:Program)(f:FuncId)(fn:Func)(s:ChangeSpec)(c:OpenClaim):Bool:=(c.kinds == (if c.domain.isEmpty then []else fn.params.toList.map λt=>match P.underlying t with|some (.int k)=>E k|_=>O))
def HI (P:Program)(f:FuncId)(fn:Func)(s:ChangeSpec)(c:OpenClaim):Bool:=(c.pinned == c.pinnedBy)
def GP (P:Program)(f:FuncId)(fn:Func)(s:ChangeSpec)(c:OpenClaim):Bool:=(c.veiled == (fn.params.toList++s.plain.varTypes P++fn.resultTypes.toList).any (P.veiledRec ·))
def Iq (P:Program)(f:FuncId)(fn:Func)(s:ChangeSpec)(c:OpenClaim):Bool:=c.veiledFits P fn.params.toList (fn.params.toList++s.plain.varTypes P++fn.resultTypes.toList)
theorem zoU {P}{f}{a}{s}{c}(b:Rj P f a s c=true)(h1:Ph P f a s c=true)(h2:Og P f a s c=true)(A:SC P f a s c=true)(D:Q1 P f a s c=true)(F:Sc P f a s c=true)(I:SJ P f a s c=true)(J:OZ P f a s c=true)(K:RB P f a s c=true)(L:SH P f a s c=true)(d:Ih P f a s c=true)(e:G0 P f a s c=true)(g:Ib P f a s c=true)(h:G_ P f a s c=true)(i:GQ P f a s c=true)(j:Hy P f a s c=true)(k:G7 P f a s c=true)(l:GJ P f a s c=true)(m:Ir P f a s c=true)(o:GO P f a s c=true)(p:Gm P f a s c=true)(q:H9 P f a s c=true)(r:Gq P f a s c=true)(t:Hz P f a s c=true)(u:Hr P f a s c=true)(v:Ij P f a s c=true)(w:Ht P f a s c=true)(x:Im P f a s c=true)(y:Ic P f a s c=true)(z:HI P f a s c=true)(B:GP P f a s c=true)(C:Iq P f a s c=true):joinedFacts P f a s c=true:=by unfold joinedFacts;unfold Rj at b;unfold Ph at h1;unfold Og at h2;unfold SC at A;unfold Q1 at D;unfold Sc at F;unfold SJ at I;unfold OZ at J;unfold RB at K;unfold SH at L;unfold Ih at d;unfold G0 at e;unfold Ib at g;unfold G_ at h;unfold GQ at i;unfold Hy at j;unfold G7 at k;unfold GJ at l;unfold Ir at m;unfold GO at o;unfold Gm at p;unfold H9 at q;unfold Gq at r;unfold Hz at t;unfold Hr at u;unfold Ij at v;unfold Ht at w;unfold Im at x;unfold Ic at y;unfold HI at z;unfold GP at B;unfold Iq at C;simp only[b,h1,h2,A,D,F,I,J,K,L,d,e,g,h,i,j,k,l,m,o,p,q,r,t,u,v,w,x,z,B,C,Bool.and_true,Bool.and_self,DV];omega
theorem WO:(laidOutB pg)=true:=by kernel_rfl
theorem jp1 (f)(a)(s)(c):Ph pg f a s c=true:=WO
theorem YH:(mapsRowed pg)=true:=by kernel_rfl
theorem jp2 (f)(a)(s)(c):Og pg f a s c=true:=YH
theorem jq6:((Tryz.prog.stops == []))=true:=by kernel_rfl
theorem jp6 (f)(a)(s)(c):SJ pg f a s c=true:=jq6
theorem X6:((Tryz.prog.stopKnobs == []))=true:=by kernel_rfl
theorem jp8 (f)(a)(s)(c):RB pg f a s c=true:=X6
theorem Pq:(Tryz.prog.stopsHeard)=true:=by kernel_rfl
theorem Pz (f)(a)(s)(c):Hr pg f a s c=true:=Pq
theorem Oc:(Tryz.prog.mayEnter)=true:=by kernel_rfl
theorem Ss (f)(a)(s)(c):Ij pg f a s c=true:=Oc
theorem zrV:false=Tryz.prog.looks []:=by kernel_rfl
end
theorem V9 (w:H)(a b c d f):(AI (AI (AI (AI (AI w a) b) c) d) f).heap[IS (IT w)]? =E a/\(AI (AI (AI (AI (AI w a) b) c) d) f).heap[IS (IT w)+1]? =E b/\(AI (AI (AI (AI (AI w a) b) c) d) f).heap[IS (IT w)+1+1]? =E c/\(AI (AI (AI (AI (AI w a) b) c) d) f).heap[IS (IT w)+1+1+1]? =E d/\(AI (AI (AI (AI (AI w a) b) c) d) f).heap[IS (IT w)+1+1+1+1]? =E f:=by have⟨g,h,i,j⟩:=NL w a b c d;have k:IS (IT (AI (AI (AI (AI w a) b) c) d))=IS (IT w)+1+1+1+1:=sp;have e:=qR (AI (AI (AI (AI w a) b) c) d) f;rw[k]at e;refine⟨?_,?_,?_,?_,e⟩;{rw[qH _ _ _ om];omega};{rw[qH _ _ _ om];omega};{rw[qH _ _ _ om];omega};rw[qH _ _ _ om];omega
theorem CD.start (w)(a)(s):
 CD w a 0 qF.none (V_) (V_) (((((w.alloc (cl #[V_,V_] 120)).alloc (cl #[i_ 0] 3)).alloc (cl #[V_,V_] 120)).alloc (cl #[i_ 1] 3)).alloc (cl #[gS s] 9)):=by
 obtain⟨b,c,a,d,h⟩:=V9 w (cl #[V_,V_] 120) (cl #[i_ 0] 3) (cl #[V_,V_] 120) (cl #[i_ 1] 3)<|cl #[gS s] 9;have nb:∀g,kab (V_)=E g->False:=λg e=>by cases e
 refine⟨⟨⟨ze _ _ _ _ _ _ a,ze _ _ _ _ _ _ a,ZK _ _ _ _ _ a,ZK _ _ _ _ _ a,Jw a⟩,zE a λv a=>?_,kae ⟨rfl,rfl⟩,λg e=>(nb g e).elim,[],rfl,pE _ _ _ _,λi r row f g=>g_⟩,lS.start,sp,ze _ _ _ _ _ _ d,ZK _ _ _ _ _ d,⟨ze _ _ _ _ _ _ b,ze _ _ _ _ _ _ b,ZK _ _ _ _ _ b,ZK _ _ _ _ _ b,Jw b⟩,ze _ _ _ _ _ _ c,ZK _ _ _ _ _ c,?_,λx b=>?_,Jw h⟩;{simp only[zI,zY,Zp]at a;intro n e;grind};{exact((yV w _ _ _).alloc so _).alloc so _};rcases b with e|e|e;{omega};{grind};grind
theorem OB {w X}{k:Nat}{b}(hb:Zh X w.heap.size (V_) (V_))(h1:AT X ⟨IS (IT w)+1,0,O⟩=E (i_ b))(i:b_ w X)(M)(a:M w.heap.size/\M (IS (IT w)+1)):
 Wr M X (AS (AS (AS X (Xd w.heap.size 0 O) (V_)) (Xd w.heap.size 1 O) (V_)) ⟨IS (IT w)+1,0,O⟩ (i_ ((k)+1))).drew/\
  Zh (AS (AS (AS X (Xd w.heap.size 0 O) (V_)) (Xd w.heap.size 1 O) (V_)) ⟨IS (IT w)+1,0,O⟩ (i_ ((k)+1))).drew w.heap.size (V_) (V_)/\
  (AS (AS (AS X (Xd w.heap.size 0 O) (V_)) (Xd w.heap.size 1 O) (V_)) ⟨IS (IT w)+1,0,O⟩ (i_ ((k)+1))).drew.cell? ⟨IS (IT w)+1,0,O⟩=E (i_ ((k)+1))/\
  b_ w (AS (AS (AS X (Xd w.heap.size 0 O) (V_)) (Xd w.heap.size 1 O) (V_)) ⟨IS (IT w)+1,0,O⟩ (i_ ((k)+1))).drew:=by
 obtain⟨c,d,e,f,g⟩:=hb;have h:AT (AS X (y_ w 0)<|V_) (y_ w 1)=E (V_):=by rw[zA _ _ _ _ sp];exact d
 have d:AT (AS (AS X (y_ w 0)<|V_) (y_ w 1)<|V_) (x_ w 0)=E (i_ b):=by rw[qj _ _ _ _ sp,qj _ _ _ _ sp];exact h1
 refine⟨(((Xk M X).setCell a.1 _).setCell a.1 _).setCell a.2 _ |>.trans (Xp _ _),⟨?_,?_,by simp_all,by simp_all,by simp_all⟩,zN _ _ _ d,?_⟩;{show World.cell? (kal _ _ _) _=_;rw[qj _ _ _ _ sp,zA _ _ _ _ sp];exact zN _ _ _ c};{show World.cell? (kal _ _ _) _=_;rw[qj _ _ _ _ sp];exact zN _ _ _ h};exact KC (((i.setCell (zh _) _).setCell (zh _) _).setCell sp _)
theorem zlc (s)(hs:Y s<=2000)(w):
 C_ 86 #[gS ⟨BY s⟩] w λe w'=>b_ w w'/\
  (
   (∃k,ju 0 qF.none (QW s)= .error k/\e=Xa (tp #[ag #[V_,V_],i_ (k)]))\/
   ∃p,ju 0 qF.none (QW s)= .ok p/\((Y (QW s)<2+p.n/\e=Xa (tp #[ag #[V_,V_],i_ ((Y (QW s)+1:Nat))]))\/
    (¬Y (QW s)<2+p.n/\∃f b,e=Xa (tp #[ag #[f,b],i_ 0])/\DQ w' (IS (IT w)+1+1) p f b/\lS (Y (QW s)) p/\∀x,Own (IS (IT w)+1+1) f b x->IS (IT w)<=x))):=by
 have hm:Tryz.prog.follows .mixedOrders=true:=kr;have u:=zf<|Gp s om<|IS (IT w)+1+1+1+1;have t:=zf λk x (S)=>zF (Yv s k x S) hs;have a:Y (QW s)<=2000:=zF (M6 _ s).1 hs;obtain⟨d,hLL⟩:∃d,QW s=d:=⟨_,rfl⟩;rw[hLL]at u t a⊢;clear hLL;have F:=zf<|CD.start w d ⟨BY s⟩;refine Q0 func86 ntmps86 (h:=?_);gi_wp2;refine(zq.2<|Lj _ _).mono ?_;rintro e a ⟨rfl,rfl⟩;gi_wp2;refine FD u.out rfl (qW func202 kr rfl) (λc hv=>?_) (λk M A=>k<=Y d/\∃p f b,Hid (CD w d k p f b A)/\AT A ⟨IS (IT w)+1+1+1+1,0,O⟩=E (gS ⟨BY s⟩)/\∀x,M x↔(x=IS (IT w)\/x=IS (IT w)+1\/x=IS (IT w)+1+1+1)\/Own (IS (IT w)+1+1) f b x) (λX k A=>X= .ret/\Hid (ju 0 qF.none d= .error (k+1)/\Zh A w.heap.size (V_) (V_)/\AT A (x_ w 0)=E (i_<|(k)+1)/\b_ w A)) (λx=>(x=IS (IT w)\/x=IS (IT w)+1\/x=IS (IT w)+1+1+1)\/Own (IS (IT w)+1+1) (V_) (V_) x) ?hI ?hIx ?hC ?h0 ?round ?done ?stop;case hI=>rintro k M A a ⟨r,p,f,b,h,v,y⟩ o;exact⟨r,p,f,b,h.out.eN o so,o.cell v,y⟩
 case hIx=>rintro X k A a ⟨r,h⟩ o;exact⟨r,h.out.1,h.out.2.1.eN o,o.cell h.out.2.2.1,o.J h.out.2.2.2 so<|zh _⟩
 case hC=>rintro k M A ⟨r,p,f,b,h,v,y⟩;refine⟨v,λx K=>?_⟩;have a:=h.out.2.2.2.2.2.2.2.2.2.2;rcases(y x).1 K with e|e;{omega};exact h.out.1.lt x e
 case h0=>refine⟨qo _,_,_,_,F.out,?_,λ_=>Qb⟩;exact ze _ _ _ _ _ _ (V9 w _ _ _ _ _).2.2.2.2
 case round=>rintro P k c M A hv ⟨_,p,f,b,l,T,i⟩;obtain⟨z,last,L,rfl⟩:=VF hv;rw[qt];have a:=(zo.1 L).1;have C:=t.out k z L;unfold Zz Aw;gi_wp2;refine⟨Xh<|(qf _ _).alloc (zh _) _,λm a=>?_⟩;have q:=(zn.alloc _ A _).trans a;have c:Hid (CD w d k p f b m):=l.out.eN q so;have N:AT m (y_ A 0)=E (i_ _):=a.cell<|ze _ _ _ _ _ _<|qR A _;have l1:AT m (y_ A 1)=E (gS ⟨_⟩):=a.cell<|ze _ _ _ _ _ _<|qR A _;have U:AT m (y_ A 2)=E (G _):=a.cell<|ze _ _ _ _ _ _<|qR A _;have l3:AT m (y_ A 3)=E (G _):=a.cell<|ze _ _ _ _ _ _<|qR A _;have D:=l.out.2.2.2.2.2.2.2.2.2.2;have D:IS (IT A)<IS (IT m):=zw N;have a0:=q.cell T;(have a1:¬Own _ f b A.heap.size:=λe=>by have:=l.out.1.lt _ e;omega);(have a5:¬Own _ f b (IS (IT w)+1+1+1+1):=λe=>by rcases l.out.2.2.2.2.2.2.2.2.2.1 _ e with e|e<;>omega);clear a q l T;cases hye:z.2 with |false=>rw[hye]at U;(have W:Hid (ju 0 qF.none d= .error (k+1)):=by rw[Hid,c.out.2.2.1,Rf L,zQ hye]);obtain⟨_,_,_,_,_,q,I,g,J,_,_⟩:=c.out;have D:=zf<|OB (k:=k) q I J M ⟨(i _).2<|.inl<|.inl rfl,(i _).2<|.inl<|.inr<|.inl rfl⟩;obtain⟨f0,f1,f2,f3,f4⟩:=q;clear c t F u i;gi_wp2;gi_region_o;(all_goals gi_wp2);all_goals exact⟨D.out.1,rfl,W.out,D.out.2⟩ |true=>rw[hye]at U;have R:=zf<|zoT k _ true last _ p f b m c.out.1 c.out.2.1 C om;have a:((k+1:Nat))=(k:Int)+1:=sp;rw[a]at R;clear a;gi_wp2;refine(Zq P<|zq.2 R.out).mono<|eV λC ⟨a,Z⟩=>?_;have a2:=a.mono λx e=>(i x).2<|.inr e;cases htk:jD k p (Zb z.1)with |none=>(have W:Hid (ju 0 qF.none d= .error (k+1)):=by rw[Hid,c.out.2.2.1,Rf L,zO<|by grind,htk]);obtain⟨_,_,_,_,_,q,I,g,J,m,_⟩:=c.out;(have P:¬Own _ f b w.heap.size:=λe=>by rcases m _ e with e|e<;>omega);(have Q:¬Own _ f b (IS (IT w)+1):=λe=>by rcases m _ e with e|e<;>omega);have z:=q.same (a.block _ q.2.2.2.2 P) a.size;have a3:=a.cell (p:=(x_ w 0)) Q I;have a4:=(a.frozen (p:=(x_ w 0)) Q<|zw I).trans g;have a4:=J.trans<|a.J J.size λx e=>g_;have D:=zf<|OB (k:=k) z a3 a4 M ⟨(i _).2<|.inl<|.inl rfl,(i _).2<|.inl<|.inr<|.inl rfl⟩;obtain⟨f0,f1,f2,f3,f4⟩:=z;have a3:=a.cell a1 N;clear c t F u i q Z htk R N l1 U l3 I g J a;simp only[Option.isSome];gi_wp2;gi_region_o;(all_goals gi_wp2);all_goals exact⟨a2.trans D.out.1,rfl,W.out,D.out.2⟩ |some q=>obtain⟨D,I,z,m⟩:=Z q htk;obtain⟨_,_,J⟩:=c.out.step a z m L hye htk;have a3:=a.cell a1 N;have c:=a.cell a5 a0;have a:=(i _).2<|.inl<|.inr<|.inr rfl;simp only[Option.isSome];clear htk R Z N l1 U l3 t F u a0;gi_wp2;refine⟨a2.setCell a _,_,⟨om,q,D,I,J,?_,λ_=>Qb⟩,λx K=>?_⟩;{rw[qj _ _ _ _ sp];omega};grind
 case stop=>rintro D X k A c o ⟨rfl,S⟩ z;(have I:IS (IT w)+1+1+1+1<D:=by simp at c;omega);have a:zn w.heap.size A _:=zn.putObj (.deferred O) om z rfl;obtain⟨r,h,v,y⟩:=S.out;have m:=a.cell h.1;have o:=a.cell h.2.1;have q:=a.cell v;have C:=a.J y (zh _)<|zh _;clear h v y S;gi_wp2;refine qh z ?_;refine⟨tp #[ag #[V_,V_],i_<|(k)+1],by simp[results,results86,go_sem,m,o,q],C,kae ⟨_,r,sp⟩⟩
 case done=>rintro D M A c ⟨r,p,f,b,l,T,i⟩ z;rw[Vm]at l r;(have I:IS (IT w)+1+1+1+1<D:=by simp at c;omega);obtain⟨v,N,q3,_,_,C,S,_,g,M,_⟩:=l.out;(have y:Hid (ju 0 qF.none d= .ok p):=by rw[Hid,q3,List.drop_length];rfl);(have b:p.n<=4:=by by_cases b:Y d=0;{rw[N.z b];simp[qF.none]};exact(N.n om).2);(obtain⟨b,c,hvC⟩:∃b c,f=V b p.n c:=by rcases v.nK with ⟨h0,h⟩|⟨_,_,h,_⟩;{grind};grind);obtain⟨f,h,I⟩:=v.xz;obtain⟨d0,_,_,_,_⟩:=v.box;subst hvC;have J:=zf λ(W) (r:AT W (w_ w 0)=E _)=>Us _ p.n b c W r om;have r:=zf<|OB (k:=Y d) C S g (λ_=>True) ⟨trivial,trivial⟩;obtain⟨R,L,_,_,_⟩:=C;subst I;(have P:¬Own _ _ _ w.heap.size:=λe=>by rcases M _ e with e|e<;>omega);(have Q:¬Own _ _ _ (IS (IT w)+1):=λe=>by rcases M _ e with e|e<;>omega);have C:=Jw z;(have C:(AS (AS (AS A (y_ w 0)<|V_) (y_ w 1)<|V_) (x_ w 0)<|i_<|(Y d:Int)+1).drew.drew.heap[D]? =E (.deferred<|E []):=by show(kal _ _ _).heap[D]? =_;rw[qC _ _ _ _ so,qC _ _ _ _ so,qC _ _ _ _ so];exact z);(have I:(AS (AS (AS A (y_ w 0)<|V b p.n c) (y_ w 1)<|V f (Y p.rows) h) (x_ w 0)<|i_ 0).drew.heap[D]? =E (.deferred<|E []):=by show(kal _ _ _).heap[D]? =_;rw[qC _ _ _ _ so,qC _ _ _ _ so,qC _ _ _ _ so];exact z);have z:AT (AS A (y_ w 0) _) _=E (V b p.n c):=zN _ _ _ R;(have D:AT (AS A (y_ w 0)<|V b p.n c) (y_ w 1)=E (V_):=by rw[zA _ _ _ _ sp];exact L);have Z:AT (AS (AS A _ _) _ _) _=E (V f (Y p.rows) h):=zN _ _ _ D;(have o3:AT (AS (AS A (y_ w 0)<|V b p.n c) (y_ w 1)<|V f (Y p.rows) h) (y_ w 0)=E (V b p.n c):=by rw[zA _ _ _ _ sp];exact z);(have L:AT (AS (AS A (y_ w 0)<|V b p.n c) (y_ w 1)<|V f (Y p.rows) h) (x_ w 0)=E (i_ 0):=by rw[qj _ _ _ _ sp,qj _ _ _ _ sp];exact S);have X:=zf<|(((v.eU P R sp sp R sp).eU P D sp sp z sp).nZ (z':=0) Q L).eN<|zn.drew 0 _;(have S:AT (AS (AS (AS A (y_ w 0)<|V b p.n c) (y_ w 1)<|V f (Y p.rows) h) (x_ w 0)<|i_ 0).drew (y_ w 0)=E (V b p.n c):=by show World.cell? (kal _ _ _) _=_;rw[qj _ _ _ _ sp];exact o3);(have U:AT (AS (AS (AS A (y_ w 0)<|V b p.n c) (y_ w 1)<|V f (Y p.rows) h) (x_ w 0)<|i_ 0).drew (y_ w 1)=E (V f (Y p.rows) h):=by show World.cell? (kal _ _ _) _=_;rw[qj _ _ _ _ sp];exact Z);have W:AT (AS (AS (AS A (y_ w 0)<|V b p.n c) (y_ w 1)<|V f (Y p.rows) h) _ _).drew _=E (i_ 0):=zN _ _ _ L;have R:b_ w (AS (AS (AS A (y_ w 0)<|V b p.n c) (y_ w 1)<|V f (Y p.rows) h) _<|i_ 0).drew:=KC<|((g.setCell (p:=(y_ w 0)) (zh _) _).setCell (p:=(y_ w 1)) (zh _) _).setCell (p:=(x_ w 0)) sp _;have g:=zf N;(have A:Hid (∀x,Own _ _ _ x->IS (IT w)<=x):=λx K=>by rcases M x K with e|e<;>omega);clear z D Z o3 L i T F u t q3 P Q v l;gi_wp2;refine IC ?_;gi_region_with_o (refine(zq.2<|J.out _<|by exact d0).mono ?_;rintro e i ⟨rfl,rfl⟩);(all_goals simp only[]);(all_goals by_cases l:Y d<2+p.n);{have i:(Y d)+1<=2+(p.n:Int):=om;gi_wp2;refine IC ?_;gi_region_o;(all_goals simp only[]);(all_goals gi_wp2);(all_goals refine qh C ?_);(all_goals have a:=zn.putObj (B:=IS (IT w)) (.deferred O) om C rfl);(all_goals have m:=a.cell<|r.out.2.1.1);(all_goals have o:=a.cell<|r.out.2.1.2.1);(all_goals have q:=a.cell<|r.out.2.2.1);all_goals exact⟨tp #[ag #[V_,V_],i_<|(Y d)+1],by simp[results,results86,go_sem,m,o,q],a.J (KC r.out.2.2.2) (zh _)<|zh _,R8 ⟨p,y.out,kae ⟨l,sp⟩⟩⟩};{have i:¬(Y d)+1<=2+(p.n:Int):=om;gi_wp2;refine qh I ?_;have a:=zn.putObj (B:=IS (IT w)) (.deferred O) om I rfl;have m:=a.cell S;have o:=a.cell U;have q:=a.cell W;exact⟨_,by simp[results,results86,go_sem,m,o,q],a.J R (zh _)<|zh _,R8 ⟨p,y.out,R8 ⟨om,_,_,rfl,X.out.eN a,g.out,A.out⟩⟩⟩};{have i:(Y d)+1<=2+(p.n:Int):=om;gi_wp2;refine IC ?_;gi_region_o;(all_goals simp only[]);(all_goals gi_wp2);(all_goals refine qh C ?_);(all_goals have a:=zn.putObj (B:=IS (IT w)) (.deferred O) om C rfl);(all_goals have m:=a.cell<|r.out.2.1.1);(all_goals have o:=a.cell<|r.out.2.1.2.1);(all_goals have q:=a.cell<|r.out.2.2.1);all_goals exact⟨tp #[ag #[V_,V_],i_<|(Y d)+1],by simp[results,results86,go_sem,m,o,q],a.J (KC r.out.2.2.2) (zh _)<|zh _,R8 ⟨p,y.out,kae ⟨l,sp⟩⟩⟩};have i:¬(Y d)+1<=2+(p.n:Int):=om;gi_wp2;refine qh I ?_;have a:=zn.putObj (B:=IS (IT w)) (.deferred O) om I rfl;have m:=a.cell S;have o:=a.cell U;have q:=a.cell W;exact⟨_,by simp[results,results86,go_sem,m,o,q],a.J R (zh _)<|zh _,R8 ⟨p,y.out,R8 ⟨om,_,_,rfl,X.out.eN a,g.out,A.out⟩⟩⟩
 obtain⟨_,a⟩:=Jq.1 hv;obtain⟨x,last,_,rfl⟩:=VF a;rfl
theorem zq3 {rg:List _}{k}(a:k<Y rg):n_ k (rg.drop k)=if 7<(rg.getD k (0,0)).2-(rg.getD k (0,0)).1 then E k else n_ (k+1) (rg.drop (k+1)):=by rw[jt a,n_,zk,zg a];rfl
theorem Ua {n}(h:n<10^40):n<4294967296^5:=tJ h dc
def EW (rg:List (Int×Int)):Nat:=match n_ 0 rg with|some k=>k+3|.none=>0
theorem Uu (d n)(s:A_)(cap)(f)(x:Nat->Nat->Value)(b)(rg)(w)(h:AT w (Xd d 0 O)=E (V s n cap))(h2:AT w (Xd d 1 O)=E f)(q:n<=4)(g:0<n->s=E (Xd b 0 O))(r:Y rg=n)
 (m:∀i j,i<n->j<6->AT w ⟨b,i*6+j,O⟩=E (x i j)) (R:∀k t,k<n->t<3->∃b a l c,x k (2*t)=G b/\x k (2*t+1)=V a l c) (o:∀k,k<n->zy w (ag #[x k 2,x k 3]) (rg.getD k (0,0)).1/\zy w (ag #[x k 4,x k 5]) (rg.getD k (0,0)).2/\By (rg.getD k (0,0)).1<10^40/\By (rg.getD k (0,0)).2<10^40):
 C_ 87 #[p_ d 0] w λe w'=>e=Xa (i_ (EW rg))/\b_ w w':=by
 have q:AT (AI (AI w<|cl #[i_ 0] 3)<|cl #[i_ 2] 3) _=E _:=((zn.alloc 0 w _).trans<|zn.alloc 0 _ _).cell h;have q:AT (AI (AI w<|cl #[i_ 0] 3)<|cl #[i_ 2] 3) _=E f:=((zn.alloc 0 w _).trans<|zn.alloc 0 _ _).cell h2;have I:=zf m;have K:=zf o;have L:0<n->b<IS (IT w):=λh0=>zw<|I.out 0 0 h0 om;obtain⟨d,z,_,D⟩:=NL w (cl #[i_ 0] 3) (cl #[i_ 2] 3) (cl #[V s n cap,f] 120)<|cl #[V s n cap] 117;have J:=zf<|Xc d<|Xc z D;refine Q0 func87 ntmps87 (h:=?_);gi_wp2;refine(zq.2<|Si _ _ _ _ _).mono ?_;rintro e f ⟨rfl,rfl⟩;gi_wp2;refine FD (Rz x s b n cap _ om g) rfl (qW func209 kr rfl) (λX r=>?_) (λk M A=>k<=n/\AT A (x_ w 0)=E (i_<|(k)+2)/\A.frozen? (x_ w 0)=false/\AT A (y_ w 0)=E (i_ 0)/\A.frozen? (y_ w 0)=false/\AT A (v_ w 0)=E (V s n cap)/\b_ w A/\Hid (n_ 0 rg=n_ k (rg.drop k))/\∀y,M y↔y=IS (IT w)\/y=IS (IT w)+1) (λc k A=>c= .ret/\AT A (y_ w 0)=E (i_<|(k)+3)/\b_ w A/\Hid (n_ 0 rg=E k)) (λy=>y=IS (IT w)\/y=IS (IT w)+1) ?hI ?hIx ?hC ?h0 ?round ?done ?stop;case hI=>rintro k M A g ⟨f,h2,q,m,F,C,B,u,v⟩ o;exact⟨f,o.cell h2,(o.frozen h2).trans q,o.cell m,(o.frozen m).trans F,o.cell C,o.J B so<|zh _,u,v⟩
 case hIx=>rintro c k A g ⟨f,h2,q,m⟩ o;exact⟨f,o.cell h2,o.J q so<|zh _,m⟩
 case hC=>rintro k M A ⟨f,h2,q,m,F,C,B,u,v⟩;refine⟨⟨C,λi j g N=>(B.cell<|L om).trans<|I.out i j g N⟩,λy S=>?_⟩;have:=zw h2;grind
 case h0=>obtain⟨d,z,D⟩:=J.out;exact⟨qo _,ze _ _ _ _ _ _ z,ZK _ _ _ _ _ z,ze _ _ _ _ _ _ d,ZK _ _ _ _ _ d,ze _ _ _ _ _ _ D,(yV w _ _ _).alloc so _,g_,λ_=>Qb⟩
 case round=>rintro U k X M A r ⟨a8,h2,q,m,F,C,B,u,v⟩;(have d:k<n:=by have:=(zo.1 r).1;rwa [jJ]at this);rw[Kz d]at r;injection r with r;subst r;have a5:=K.out k d;have K:=zf<|zq3 (rg:=rg) (k:=k) om;obtain⟨y0,a0,l0,c0,e0,e1⟩:=R k 0 d om;obtain⟨q0,J,T,N,z,D⟩:=R k 1 d om;obtain⟨Z,L,W,P,I,Q⟩:=R k 2 d om;simp only[Ql,jM,qt,Nat.reduceMul,Nat.reduceAdd]at e0 e1 z D I Q;rw[z,D,I,Q]at a5;rw[e0,e1,z,D,I,Q];obtain⟨a3,a4,a6,a7⟩:=a5;have a5:By ((rg.getD k (0,0)).2-(rg.getD k (0,0)).1)<4294967296^6:=om;obtain⟨z,hlo⟩:∃z,(rg.getD k (0,0)).1=z:=⟨_,rfl⟩;obtain⟨g,hhi⟩:∃g,(rg.getD k (0,0)).2=g:=⟨_,rfl⟩;rw[hlo,hhi]at K a5;rw[hlo]at a3 a6;rw[hhi]at a4 a7;unfold Zz;gi_wp2;refine⟨Xh<|(qf _ _).alloc (zh _) _,λD Q=>?_⟩;have d:=(zn.alloc _ A _).trans Q;have I:=λj X (r:(#[G _,V _ _ _,G q0,V J T N,G Z,V L W P])[j]? =E X)=>Q.cell<|(ze _ _ j _ _ _<|qR A _).trans r;have X:=I 2 _ rfl;have p3:=I 3 _ rfl;have p4:=I 4 _ rfl;have p5:=I 5 _ rfl;have I:IS (IT w)+1<IS (IT A):=zw h2;have I:IS (IT A)<IS (IT D):=zw X;have R:=d.cell h2;have q3:=(d.frozen h2).trans q;have q4:=d.cell m;have q5:=(d.frozen m).trans F;have q6:=d.cell C;have Q:=d.J B so<|zh _;obtain⟨d,hA3⟩:∃d,AS D (x_ w 0) (i_<|(k)+2+1)=d:=⟨_,rfl⟩;(have a9:Wr M D d:=by rw[<-hA3];exact(Xk _ _).setCell (p:=(x_ w 0)) ((v _).2<|.inr rfl) _);(have I:b_ w d:=by rw[<-hA3];exact Q.setCell (p:=(x_ w 0)) sp _);(have Q:AT d (x_ w 0)=E (i_<|(k:Int)+2+1):=by rw[<-hA3];exact zN _ _ _ R);(have s3:d.frozen? (x_ w 0)=false:=by rw[<-hA3];simpa using q3);(have R:AT d (y_ w 0)=E (i_ 0):=by rw[<-hA3,qj _ _ _ _ sp];exact q4);(have s5:d.frozen? (y_ w 0)=false:=by rw[<-hA3];simpa using q5);(have s6:AT d (v_ w 0)=E (V s n cap):=by rw[<-hA3,qj _ _ _ _ sp];exact q6);(have s:AT d (y_ A 2)=E (G q0):=by rw[<-hA3,qj _ _ _ _ so];exact X);(have s:AT d (y_ A 3)=E (V J T N):=by rw[<-hA3,qj _ _ _ _ so];exact p3);(have s:AT d (y_ A 4)=E (G Z):=by rw[<-hA3,qj _ _ _ _ so];exact p4);(have s:AT d (y_ A 5)=E (V L W P):=by rw[<-hA3,qj _ _ _ _ so];exact p5);have s:=a3.J I;have J:=a4.J I;have T:Hid _:=a5;gi_wp2;refine(Zq U<|zq.2<|PY d _ _ g z 5 om J s (Ua a7)<|Ua a6).mono<|eO λJ _ s L=>?_;obtain⟨_,_,_,_,rfl,_,_⟩:=s.parts;gi_wp2;refine(Zq U<|zq.2<|RO J 7 om).mono<|eO λP _ J N=>?_;obtain⟨_,_,_,_,rfl,_,_⟩:=J.parts;gi_wp2;refine(Zq U<|zq.2<|zlt P _ _ _ 7 6 om (s.J N) J T.out dc).mono<|ij λJ c ⟨P,T,_,_,U⟩=>?_;have s:=(L.trans<|N.mono L.size).trans<|U.mono<|zF L.size N.size;have U:=(s.cell<|zw Q).trans Q;have W:=(s.frozen<|zw Q).trans s3;have N:=(s.cell<|zw R).trans R;have Q:=(s.frozen<|zw R).trans s5;have R:=(s.cell<|zw s6).trans s6;have L:=I.trans<|s.mono I.size;have I:=a9.trans<|Xh s;by_cases s:7<g-z;{have D:0<c:=om;(have d:Hid (n_ 0 rg=E k):=by rw[Hid,u.out,K.out,zQ s]);gi_wp2;refine⟨I.setCell ((v _).2<|.inl rfl) _,rfl,?_,L.setCell (zh _) _,d⟩;rw[zN _ _ _ N];grind};have D:¬0<c:=om;(have d:Hid (n_ 0 rg=n_ (k+1) (rg.drop<|k+1)):=by rw[Hid,u.out,K.out,zO s]);gi_wp2;refine⟨I,M,⟨om,?_,W,N,Q,R,L,d,v⟩,λy S=> .inl S⟩;grind
 case stop=>rintro D c k A y o ⟨rfl,f,h2,q⟩ s;have I:IS (IT w)<D:=g_;have o:zn w.heap.size A _:=zn.putObj (.deferred O) om s rfl;have z:=o.cell f;have f:=o.J h2 (zh _)<|zh _;gi_wp2;refine qh s ?_;refine⟨i_<|(k)+3,by simp[results,results87,go_sem,z],?_,f⟩;rw[EW,q.out];simp
 case done=>rintro D M A y ⟨a8,h2,q,m,F,C,B,u,v⟩ s;rw[jJ]at u;have I:IS (IT w)<D:=g_;(have d:Hid (EW rg=0):=by rw[Hid,EW,u.out,List.drop_eq_nil_of_le om];rfl);have q:(AS A (y_ w 0)<|i_ 0).heap[D]? =E (.deferred _):=(qC _ _ _ _ so).trans s;have o:zn w.heap.size _ _:=zn.putObj (.deferred O) om q rfl;have z:=o.cell<|zN A _ _ m;have f:=o.J (B.setCell (zh _) _) (zh _)<|zh _;gi_wp2;refine qh q ?_;refine⟨i_ 0,by simp[results,results87,go_sem,z],?_,f⟩;rw[d.out];rfl
 obtain⟨i,g,rfl⟩:=qP.1 r;rfl
section
variable {w:H}
theorem SX{f n:Nat}{zs:L_}(p:lR w f zs)(d:Y zs=3*n):
 ∃x:Nat->Nat->Value,(∀i j,i<n->j<6->AT w ⟨f,i*6+j,O⟩=E (x i j))/\(∀k t,k<n->t<3->∃b a l c,x k (2*t)=G b/\x k (2*t+1)=V a l c)/\
  ∀k t,k<n->t<3->zy w (ag #[x k (2*t),x k (2*t+1)]) (zs.getD (3*k+t) 0):=by
 have o:∀k t,k<n->t<3->∃b a l c,AT w ⟨f,k*6+2*t,O⟩=E (G b)/\AT w ⟨f,k*6+(2*t+1),O⟩=E (V a l c)/\zy w (ag #[G b,V a l c]) (zs.getD (3*k+t) 0):=by intro k t g h;obtain⟨b,a,l,c,d,e,m,_,_⟩:=p.2 (3*k+t) om;rw[show 2*(3*k+t)=k*6+2*t by omega]at d;rw[show 2*(3*k+t)+1=k*6+(2*t+1)by omega]at e;exact⟨b,a,l,c,d,e,m⟩
 refine⟨λi j=>(AT w ⟨f,i*6+j,O⟩).getD .nilFunc,λi j f p=>?_,λk t g h=>?_,λk t g h=>?_⟩;{obtain⟨b,a,l,c,d,e,_⟩:=o i (j/2) f om;grind};{grind};obtain⟨b,a,l,c,d,e,m⟩:=o k t g h;simp only[d,e,qB];exact m
theorem znT(a:Nat)(p:qF)(b c:Value)(w:H)(h:DQ w a p b c)(l:p.n<=4)(m:Y p.rg=p.n)(i:∀r∈p.rg,By r.1<10^40/\By r.2<10^40):
 C_ 87 #[p_ a 0] w λe w'=>e=Xa (i_ (EW p.rg:Nat))/\b_ w w':=by obtain⟨d,f,_,_,_⟩:=h.box;rcases h.nK with ⟨b,rfl⟩|⟨o,_,rfl,_,t,j⟩;{refine Uu a _ O 0 c (λ_ _=> .nilFunc) 0 _ w g_ f l (λh=>om) m (λb b b=>om) (λk b b=>om) λk b=>om};obtain⟨x,q,s,g⟩:=SX t j.1;refine Uu a _ _ _ c x o _ w d f l (λ_=>rfl) m q s λk b=>?_;have a:=g k 1 b om;have c:=g k 2 b om;obtain⟨b,d⟩:=j.2.2 k om;grind
theorem DQ.Du{a:Nat}{p:qF}{b ap:A_}{n c m k:Nat}(h:DQ w a p (V b n c) (V ap m k)):DQ (AI w (cl #[V b n c,V ap m k] 120)) w.heap.size p (V b n c) (V ap m k):=by have f:=h.lt;have d:=h.eN<|zn.alloc 0 w<|cl #[V b n c,V ap m k] 120;have a:=qR w<|cl #[V b n c,V ap m k] 120;refine⟨⟨ze _ _ _ _ _ _ a,ze _ _ _ _ _ _ a,ZK _ _ _ _ _ a,ZK _ _ _ _ _ a,Jw a⟩,zE a λv b=>?_,?_,λg a=>⟨(d.mB g a).1,λe=>by have:=f g<|R8<|R8 a;omega,(d.mB g a).2.2⟩,?_⟩;{simp only[zI,zY,Zp]at b;intro n e;grind};{rcases d.nK with a|⟨b,j,a,_,g,i⟩;{grind};exact R8 ⟨b,j,a,λe=>by have:=f b (R8<|kae (by rw[a];rfl));omega,g,i⟩};obtain⟨_,_,_,_⟩:=d.rows;obtain⟨f,a,b,d⟩:=h.rows;refine⟨f,a,b.alloc _,λj r row l o=>?_⟩;obtain⟨a,f,b,g,i⟩:=d j r _ l o;have d:=b.lt;exact⟨λe=>by rcases e with e|e|e;{omega};{exact a<|R8<|kae e};exact a<|R8<|R8 e,f,b.eN<|zn.alloc 0 w _,g,i.eN<|zn.alloc 0 w _⟩
theorem To:∀(l:List (U_×Bool)) (i:Nat) (p:qF) (k:Nat),ju i p l= .error k->i<k
 |[],i,p,k,h=>by simp[ju]at h |x::r,i,p,k,h=>by rw[ju]at h;split at h;{injection h with h;omega};split at h;{injection h with h;omega};rename_i q a;have:=To r (i+1) q k h;omega
theorem WK{rg:List (Int×Int)}{k:Nat}(h:n_ 0 rg=E k):EW rg=k+3:=by unfold EW;rw[h]
theorem znU{rg:List (Int×Int)}(h:n_ 0 rg=O):EW rg=0:=by unfold EW;rw[h]
theorem zo5(s:U_)(hs:2000<Y s)(w:H):
 C_ 59 #[gS ⟨BY s⟩] w λe w'=>e=Xa (tp #[ag #[V_,V_],i_ 4,i_ 0])/\b_ w w':=by have a:(2000:Int)<Y s:=om;have a:=qR w<|cl #[V_,V_] 120;have b:=c_ 0 a;go_enter func59,ntmps59;go_wp2;exact zH (by simp[results,results59,go_sem]) rfl ⟨rfl,(qf _ _).alloc (zh _) _⟩
theorem nW(s:U_)(hs:Y s<=2000)(w:H):
 C_ 59 #[gS ⟨BY s⟩] w λe w'=>b_ w w'/\
  (
   (∃a b:Nat,JY s= .error (a,b)/\0<a/\e=Xa (tp #[ag #[V_,V_],i_ (a:Nat),i_ (b:Nat)]))\/
   ∃p c i m,JY s= .ok p/\e=Xa (tp #[ag #[i,m],i_ 0,i_ 0])/\DQ w' c p i m/\lS (Y (QW s)) p/\2+p.n<=Y (QW s)):=by
 have c:¬(2000)<(Y s:Int):=om;have u:Hid (JY s=match ju 0 qF.none (QW s)with |.error k=> .error (5,k) |.ok p=>if Y (QW s)<2+p.n then .error (5,Y (QW s)+1)else match n_ 0 p.rg with |some l=> .error (6,l+3) |.none=> .ok p):=by rw[Hid];unfold JY;rw[zO om];rfl
 have f:=zf λW=>zlc s hs W;have F:Hid _:=λk d=>by have:=To (QW s) 0 qF.none k d;omega
 obtain⟨h,hLL⟩:∃h,QW s=h:=⟨_,rfl⟩;rw[hLL]at u f F⊢;have o:b_ w (w.alloc<|cl #[V_,V_] 120):=(qf _ _).alloc (zh _) _;have c:=qR w<|cl #[V_,V_] 120;obtain ⟨r,t⟩:=d_ c;have y:=ZK _ _ 0 _ _ c;have C:=ZK _ _ 1 _ _ c;go_enter func59,ntmps59;go_wp2_with fail;refine(f.out _).mono ?_;rintro e f ⟨c,x⟩;have q:=c.size;simp only[zL]at q;have z:=(c.cell (p:=(y_ w 0)) sp).trans r;have A:=(c.cell (p:=(y_ w 1)) sp).trans t;have L:=(c.frozen (p:=(y_ w 0)) sp).trans y;have M:=(c.frozen (p:=(y_ w 1)) sp).trans C;have y:=o.trans<|c.mono sp;have t:=(zn.alloc 0 f<|cl #[V_,V_] 120).cell z;have C:=(zn.alloc 0 f<|cl #[V_,V_] 120).cell A;have Q:=((zn.alloc 0 f<|cl #[V_,V_] 120).frozen z).trans L;have R:=((zn.alloc 0 f<|cl #[V_,V_] 120).frozen A).trans M;have o:AT ((f.alloc<|cl #[V_,V_] 120).setCell (y_ w 0)<|V_) (y_ w 1)=E (V_):=by rw[zA _ _ _ _ sp];exact C
 have q:AT (((f.alloc _).setCell _ _).setCell _ _) _=E (V_):=zN _ _ _ o;have r:AT (((f.alloc<|cl #[V_,V_] 120).setCell (y_ w 0)<|V_).setCell (y_ w 1)<|V_) (y_ w 0)=E (V_):=by rw[zA _ _ _ _ sp];exact zN _ _ _ t
 have c:b_ w (((f.alloc<|cl #[V_,V_] 120).setCell _<|V_).setCell _<|V_):=((y.alloc y.size _).setCell (p:=(y_ w 0)) (zh _) _).setCell (p:=(y_ w 1)) (zh _) _;rcases x with ⟨k,d,rfl⟩|⟨p,hp,⟨I,rfl⟩|⟨N,i,m,rfl,D,x,J⟩⟩;{have m:=F.out k d;have K:¬(k:Int)=0:=om;have m:Hid (JY s= .error (5,k)):=g_;go_wp2;exact zH (by simp[results,results59,go_sem,q,r]) rfl ⟨c,kae ⟨5,k,m.out,om,rfl⟩⟩};{have K:¬((Y h:Int)+1)=0:=om;have m:Hid (JY s= .error (5,Y h+1)):=g_;go_wp2;exact zH (v:=tp #[ag #[V_,V_],i_ 5,i_<|(Y h)+1]) (by simp[results,results59,go_sem,q,r]) rfl ⟨c,kae ⟨5,_,m.out,om,sp⟩⟩};(obtain⟨c,d,hvC⟩:∃c d,i=V c p.n d:=by rcases D.nK with ⟨k,i⟩|⟨_,_,i,_⟩;{grind};grind);obtain⟨i,k,F⟩:=D.xz;subst hvC F;have F:0<Y h:=om;have P:=x.n F;(have F:Y p.rg=p.n:=by have:=x.g;omega);have I:=D.Du;have D:=zf<|znT _ p _ _ _ I P.2 F x.bg;have F:Hid (JY s=match n_ 0 p.rg with|some l=> .error (6,l+3)|.none=> .ok p):=g_;go_wp2_with fail;refine D.out.mono<|eV λh D=>?_;have u:=y.alloc y.size<|cl #[V c p.n d,V i (Y p.rows) k] 120;have y:=u.trans<|D.mono u.size;have u:=(zn.alloc 0 f _).trans<|zn.eX D;have t:=u.cell z;have C:=u.cell A;have Q:=(u.frozen z).trans L;have R:=(u.frozen A).trans M;have u:=I.J D;have z:=u.box;obtain⟨_,_,_,_,_⟩:=z;(have z:¬Own f.heap.size (V c p.n d) (V i (Y p.rows) k) w.heap.size:=by intro e;rcases e with e|e|e;{omega};{have:=J _<|R8<|kae e;grind};have:=J _<|R8<|R8 e;grind);cases xM:n_ 0 p.rg with |some l=>have m:Hid (JY s= .error (6,l+3)):=g_;rw[WK xM];have K:¬((l:Int)+3)=0:=om;(have o:AT (h.setCell (y_ w 0)<|V_) (y_ w 1)=E (V_):=by rw[zA _ _ _ _ sp];exact C);have q:AT ((h.setCell _ _).setCell _ _) _=E (V_):=zN _ _ _ o;(have r:AT ((h.setCell (y_ w 0)<|V_).setCell (y_ w 1)<|V_) (y_ w 0)=E (V_):=by rw[zA _ _ _ _ sp];exact zN _ _ _ t);go_wp2;exact zH (v:=tp #[ag #[V_,V_],i_ 6,i_<|(l)+3]) (by simp[results,results59,go_sem,q,r]) rfl ⟨(y.setCell (zh _) _).setCell (zh _) _,kae ⟨6,_,m.out,om,sp⟩⟩ |none=>have m:Hid (JY s= .ok p):=g_;rw[znU xM];have l:AT (h.setCell _ _) _=E (V c p.n d):=zN _ _ _ t;(have o:AT (h.setCell (y_ w 0)<|V c p.n d) (y_ w 1)=E (V_):=by rw[zA _ _ _ _ sp];exact C);have q:AT ((h.setCell _ _).setCell _ _) _=E (V i (Y p.rows) k):=zN _ _ _ o;(have r:AT ((h.setCell (y_ w 0)<|V c p.n d).setCell (y_ w 1)<|V i (Y p.rows) k) (y_ w 0)=E (V c p.n d):=by rw[zA _ _ _ _ sp];exact l);have h:=zf<|(u.eU z t sp sp t sp).eU (v:=V i (Y p.rows) k) z o sp sp l sp;have l:=zf x;go_wp2;exact zH (by simp[results,results59,go_sem,q,r]) rfl ⟨(y.setCell (zh _) _).setCell (zh _) _,R8 ⟨p,_,_,_,m.out,rfl,h.out,l.out,om⟩⟩
theorem sS{a:Type}(f:a->U_)(l:List a)(k)(d)(b:k<Y l):(l.take (k+1)).flatMap f=(l.take k).flatMap f++f (l.getD k d):=by rw[ZQ b,ZX,zk,zg b];simp
def Sy (w:H)(tb:Nat)(mI:U_)(v:Value)(oP:Obj)(bt:Nat)(oL:Obj)(Ds:N_)(A:H):Prop:=
 Bd w.heap.size tb mI v A/\b_ w A/\A.heap[IS (IT w)]? =E oP/\A.heap[bt]? =E oL/\∀D∈Ds,A.heap[D]? =E (.deferred (E []))
theorem Sy.eN{C:Nat}{i:Nat}{mI:U_}{v:Value}{d e:W_}{j k:TypeId}{f g:Nat×Nat}{c:Nat}{b:N_}{A A':H}(h:Sy w i mI v (cl d j f) c (cl e k g) b A)(a:zn C A A')(l:IS (IT w)<=C)(m:∀D∈b,D<C):Sy w i mI v (cl d j f) c (cl e k g) b A':=⟨h.1.eN a,a.J h.2.1 l<|zh _,(a.nG h.2.2.1 rfl).trans h.2.2.1,(a.nG h.2.2.2.1 rfl).trans h.2.2.2.1,λD b=>a.block D _ (h.2.2.2.2 D b)<|.inl<|m D b⟩
end
namespace T
variable {B i:Nat}{a:Type}{v:Value}{w:H}
theorem wS{s:U_}{a b:Nat}(h:JY s= .error (a,b)):0<a:=by unfold JY at h;grind
theorem gi.ext{w':H}{zs:List (Int×Nat)}(h:gi w v zs)(hb:Ext w w'):gi w' v zs:=h.J hb
theorem sD(cs:List iH)(i j:Nat)(c:iH)(h:cs[i]? =E c)(a:j<5):(iY cs)[i*5+j]? =c.cells[j]?:=by induction cs generalizing i with |nil=>grind |cons t a b=>rw[show iY _=t.cells++iY a by rfl];cases i with |zero=>simp at h;subst h;rw[zS (by simp[iH.cells];omega),Nat.zero_mul,qt] |succ i=>rw[zG (by simp[iH.cells];omega),show(i+1)*5+j-Y t.cells=i*5+j by simp[iH.cells];omega];grind
theorem kM.at{rows:List (L_×U_×Int)}(h:kM B w v rows)(i:Nat)(r:L_×U_×Int)(b:rows[i]? =E r):
 ∃(g cap:Nat) (c:iH),v=V (E (Xd g 0 O)) (Y rows) cap/\AT w ⟨g,i*5,O⟩=E c.gv/\AT w ⟨g,i*5+1,O⟩=E (gS c.s)/\AT w ⟨g,i*5+2,O⟩=E (G c.r.b)/\AT w ⟨g,i*5+3,O⟩=E c.r.up/\AT w ⟨g,i*5+4,O⟩=E c.r.down/\lI B w v c r:=by obtain⟨cs,o,⟨_,⟨_,_⟩|⟨g,cap,_,f,_,l,_,_,_,p⟩⟩,k⟩:=h;{grind};have a:i<Y cs:=g_;have d:=zg a;(have a:∀j,j<5->AT w ⟨g,i*5+j,O⟩=(cs[i]).cells[j]?:=by intro j m;have e:=sD cs i j _ d m;rw[<-p,TK om]at e;rw[<-e];simp[World.cell?,l]);exact⟨g,_,_,by rw[f,o],a 0 om,a 1 om,a 2 om,a 3 om,a 4 om,k i _ r d b⟩
theorem sS{b:Type}{f:a->List b}{l:List a}{x:a}(h:l[i]? =E x):(l.take (i+1)).flatMap f=(l.take i).flatMap f++f x:=by obtain⟨a,b⟩:=zo.1 h;rw[ZQ a,ZX,Qo,JP,ZR,b]
theorem nE{f:Nat->List a}(i:Nat):(kai (i+1)).flatMap f=(kai i).flatMap f++f i:=by rw[J6,ZX,Qo,JP,ZR]
theorem kF{e size n:Nat}{xs:List Value}(h:w.ownsRow B e size v n xs):∃a c,v=V a n c:=by obtain⟨_,b|⟨_,_,_,d,_⟩⟩:=h;{grind};grind
theorem rq{A:Nat}:∀(c xs:L_),(∀a∈c,By a<=A)->(∀b∈xs,By b<=B)->By (eT c xs)<=Y c*(A*B)
 |[],xs,_,_=>by simp[eT] |a::c,[],_,_=>by simp[eT] |a::c,b::xs,e,hb=>by have d:=rq c xs (λx d=>e x<|qq _ d) (λx d=>hb x<|qq _ d);(have d:By (a*b)<=A*B:=by rw[td];exact Z7 (e a qA)<|hb b qA);(have e:eT (a::c) (b::xs)=a*b+eT c xs:=by simp[eT]);have d:=Int.natAbs_add_le (a*b)<|eT c xs;rw[e,qi,Zg,Jv];omega
theorem ye{L:Nat}{p:qF}(a:lS L p)(b:p.n<=4):Y (eY p)<=20:=by
 unfold eY;have b:=nN p.rows;have b:=a.l;have a:∀m,Y ((kai m).flatMap λi=>fQ p.n i<|p.rg.getD i (0,0))=2*m:=by intro m;induction m with |zero=>rfl |succ m b=>rw[nE,zM,b];rfl
 grind
theorem sC{f:a->Bool}{l:List a}{x:a}(h:l[i]? =E x):(l.take (i+1)).all f=((l.take i).all f&&f x):=by obtain⟨a,b⟩:=zo.1 h;rw[ZQ a,List.all_append,b];simp
theorem mZ.at{rows:R_}(h:mZ w v rows){x:L_×Int}(j:rows[i]? =E x):
 ∃(g off cap:Nat) (c:iJ),v=V (E (Xd g off O)) (Y rows) cap/\AT w ⟨g,off+i*4,O⟩=E c.gv/\AT w ⟨g,off+i*4+1,O⟩=E (G c.r.b)/\AT w ⟨g,off+i*4+2,O⟩=E c.r.up/\AT w ⟨g,off+i*4+3,O⟩=E c.r.down/\gi w c.gv (x.1.map λz=>(z,1))/\fh w c.r.val x.2 1:=by obtain⟨a,l,k,d⟩:=h;have b:i<Y a:=g_;have f:=zg b;obtain⟨_,cap,rfl⟩:=d.shape;obtain⟨g,off,rfl,_,m⟩:=d.at g_;have hm:(a.map iJ.cells)[i]? =E (iJ.cells a[i]):=g_;obtain⟨b,d⟩:=k i _ x f j;have k:=m i _ hm;exact⟨g,_,_,_,by rw[zm,l],k 0 _ rfl,k 1 _ rfl,k 2 _ rfl,k 3 _ rfl,b,d⟩
theorem mZ.shape{rows:R_}(h:mZ w v rows):∃a cap,v=V a (Y rows) cap:=by obtain⟨_,b,_,c⟩:=h;obtain⟨a,cap,rfl⟩:=c.shape;grind
