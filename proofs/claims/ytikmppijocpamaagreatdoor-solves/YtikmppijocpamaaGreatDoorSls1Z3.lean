import Derived.Test.YtikmppijocpamaaGreatDoorSls1Z1
open Option renaming none->O,some->E
open Go.Value renaming slice->V,bool->G,int->it,agg->ag,string->gS,pointer->pn
open Go.Obj renaming cells->cl
open Go renaming World->H
open Go.Proofs.Tryz renaming prog->pg
open Go.Proofs.Tryz
open Go.Ending renaming returned->Xa
open Go.IntKind renaming i64->Xb
open Go.Addr renaming mk->Xd
set_option linter.unusedSimpArgs false
set_option linter.unusedVariables false
set_option maxHeartbeats 1000000
set_option maxRecDepth 100000
open Go.Lib renaming cut->kaa,index->kao
open List renaming range->kai
open Nat renaming gcd->kaf
open Go.Region renaming wanted->kan,ready->kam
open Array renaming replicate->kat
open List renaming length->Y,toArray->BY
open Go.World renaming alloc->AI,setCell->AS,cell?->AT,heap->IT
open Array renaming size->IS
open Go.Value renaming ownBlock->No
open Int renaming natAbs->By
namespace Go.Proofs.YtikmppijocpamaaGreatDoor
open Go.RowKit
section
variable {B cap g h i j k k1 l l1 m n o q s t:Nat}{a a1 d e f:A_}{b c:Bool}{p r z:Int}{u w w':H}{v x y:Value}
theorem Vf(K)(hK:K<=1073741823)(B:F6 K)(w)(u v)(m n)(W:fj w u m)(X:fj w v n)(hm:m<4294967296^K)(Q:n<4294967296^K):
 C_ 125 #[u,v] w λe w'=>∃x,e=Xa x/\fj w' x (kaf m n)/\b_ w w':=by
 go_enter func125,ntmps125;go_wp2;go_loopg [0,1] n (λy o Z wr=>∃a,fj wr o a/\fj wr Z y/\a<4294967296^K/\y<4294967296^K/\Hid (kaf a y=kaf m n)/\b_ w wr);case atStart=>exact⟨m,W,X,hm,Q,rfl,qf _ _⟩
 case round=>have⟨a,g,h,p,d,j,b⟩:=hrel;have⟨k,S,L,_,I,_⟩:=J9 g p;have⟨i,T,M,U,r,_⟩:=J9 h d;have F:=h;obtain⟨_,_,rfl,_,_⟩:=S;obtain⟨_,_,rfl,_,_⟩:=T;by_cases D:gk=0;{have N:=U.zero.1 om;subst N;subst D;go_wp2;go_ret;refine⟨_,rfl,?_,b⟩;rw[<-j.out,Nat.gcd_zero_right];exact g};have a1:0<Y i:=ZC.2 (λe=>D (by rw[<-r,e];rfl));by_cases J:Y k<=2/\Y i<=2;{have⟨A,l⟩:=J;(have C:a<18446744073709551616:=by have f:=gd L;rw[I]at f;exact zK f<|gK A);(have q:gk<18446744073709551616:=by have f:=gd M;rw[r]at f;exact zK f<|gK l);go_wp2_with fail;apply(MD _ _ a g C).mono;rintro e w1 ⟨rfl,rfl⟩;go_wp2_with fail;refine(MD _ _ _ h q).mono<|fK ?_;go_wp2_with fail;apply(zg7 _ a _ C q).mono;rintro e z ⟨rfl,_,rfl⟩;go_wp2_with fail;refine(DT _ _<|qu (Nat.gcd_le_right _ om) q).mono<|eO λz x s c=>?_;go_wp2;go_ret;refine⟨_,rfl,?_,b.trans<|(JJ c).mono b.size⟩;rw[<-j.out];exact s};by_cases A:Y k<=2;{go_wp2_with fail;apply(B _ _ _ a _ g h p d).mono;rintro e z ⟨x,a0,rfl,s,t,c⟩;go_wp2;go_roundg (a%gk);(case measure=>exact Z0 _ om);case rel=>exact⟨_,F.J c,t,d,tJ (Z0 _ om) d,by rw[Hid,<-j.out,FP _,<-Nat.gcd_rec,FP],b.trans<|c.mono b.size⟩};go_wp2_with fail;apply(B _ _ _ a _ g h p d).mono;rintro e z ⟨x,a0,rfl,s,t,c⟩;go_wp2;go_roundg (a%gk);(case measure=>exact Z0 _ om);case rel=>exact⟨_,F.J c,t,d,tJ (Z0 _ om) d,by rw[Hid,<-j.out,FP _,<-Nat.gcd_rec,FP],b.trans<|c.mono b.size⟩
theorem fj.slice(h:fj w v n):∃a l cap,v=V a l cap:=by have⟨_,⟨a,cap,b,_⟩,_⟩:=h;exact⟨a,_,cap,b⟩
theorem fj.setCell(h:fj w v n){a}(l:AT w a=E y)(g:∀k,y≠it .u32 k)(x):fj (AS w a x) v n:=by have⟨d,⟨b,c,j,f,i⟩,e⟩:=h;refine⟨d,⟨b,c,j,f,λf=>?_⟩,e⟩;have⟨b,off,d,e,c⟩:=i f;refine⟨b,_,d,by simp_all,λi b=>?_⟩;rw[zA _ _ _ _ (by intro d;have:=c i b;grind)];exact c i b
def zy (w:H)(x:Value)(z:Int):Prop:=∃b v,x=ag #[G b,v]/\fj w v (By z)/\Hid (b=decide (z<0))
theorem zy.J(h:zy w x z)(hb:b_ w w'):zy w' x z:=by have⟨b,v,a,c,d⟩:=h;exact⟨b,v,a,c.J hb,d⟩
def sg (b:Bool)(n:Nat):Int:=if b then -(n)else n
theorem rB(b)(n):By (sg b n)=n:=by cases b<;>simp[sg]
theorem Ip(b)(n):decide (sg b n<0)=(b && !(n == 0)):=by cases b;{rfl};by_cases h:n=0;{subst h;rfl};simp[sg,Z3 h,(ZN.2 h)]
theorem RN(h:fj w v n)(a:c=(b && !(n == 0))):zy w (ag #[G c,v]) (sg b n):=⟨c,v,rfl,by rw[rB];exact h,by rw[Hid,Ip];omega⟩
theorem QJ{e:Bool}{d c:Nat}(h:fj w v (By z))(hb:Hid (b=decide (z<0)))(f:AT w (Xd g 0 O)=E (G e))(h1:AT w (Xd g 1 O)=E (V a d c)):
 zy (AS (AS w (Xd g 0 O) (G b)) (Xd g 1 O) v) (ag #[G b,v]) z:=by refine⟨b,v,rfl,?_,hb⟩;refine(h.setCell f sp _).setCell (y:=V a d c) ?_ sp _;rw[zA _ _ _ _ sp];omega
theorem zy.setCell(h:zy w x z){a}(g:AT w a=E y)(f:∀k,y≠it .u32 k)(u):zy (AS w a u) x z:=by have⟨b,v,c,d,e⟩:=h;exact⟨b,v,c,d.setCell g f u,e⟩
theorem zy.drewN(h:zy w x z)(q):zy (w.drewN q) x z:=h
theorem zy.alloc(h:zy w x z)(o):zy (AI w o) x z:=h.J ((qf _ _).alloc (zh _) o)
theorem zy.parts(h:zy w x z):∃b a l cap,x=ag #[G b,V a l cap]/\fj w (V a l cap) (By z)/\Hid (b=decide (z<0)):=by have⟨b,_,d,c,e⟩:=h;obtain⟨a,l,cap,rfl⟩:=c.slice;grind
theorem Jh(w)(b)(v)(n)(h:fj w v n):
 C_ 118 #[G b,v] w λe w'=>∃x,e=Xa x/\zy w' x (sg b n)/\b_ w w':=by obtain⟨a,l,c,rfl⟩:=h.slice;cases b with |false=>go_enter func118,ntmps118;go_wp2;exact zH (by simp[results,results118,go_sem]) rfl ⟨_,rfl,RN (h.alloc _) rfl,(qf _ _).alloc (zh _) _⟩ |true=>by_cases d:n=0;{subst d;go_enter func118,ntmps118;go_wp2_with fail;apply(JR _ _<|h.alloc _).mono;rintro e w' ⟨rfl,rfl⟩;go_wp2;exact zH (by simp[results,results118,go_sem]) rfl ⟨_,rfl,RN (h.alloc _) rfl,(qf _ _).alloc (zh _) _⟩};go_enter func118,ntmps118;go_wp2_with fail;refine(jW _ _ n (h.alloc _) d).mono<|fK ?_;go_wp2;exact zH (v:=ag #[G true,V a l c]) (by simp[results,results118,go_sem]) rfl ⟨_,rfl,RN (h.alloc _) g_,(qf _ _).alloc (zh _) _⟩
theorem Kh(w)(v)(n)(h:fj w v n):
 C_ 176 #[v] w λe w'=>∃x,e=Xa x/\zy w' x (n)/\b_ w w':=by
 go_enter func176,ntmps176;go_wp2_with fail;refine(Jh _ _ _ n<|h.alloc _).mono<|eO λw' x b a=>?_;have c:=b;rw[show sg _ n=n from rfl]at b;obtain⟨i,g,m,j,rfl,l,k⟩:=b.parts;have⟨b,c⟩:=PN a;have d:=a.size;have d:AT w' (y_ w 0)=E (G false):=by rw[b _ _ sp];simp
 have f:AT w' (y_ w 1)=E (V_):=by rw[b _ _ sp];simp
 have o:w'.frozen? (y_ w 0)=false:=by rw[c _ _ sp];simp
 simp;go_wp2;exact zH (by simp[results,results176,go_sem,d,f]) rfl ⟨_,rfl,QJ l k d f,((((qf _ _).alloc (zh _) _).trans<|a.mono sp).setCell (zh _) _).setCell (zh _) _⟩
theorem KM(h:Hid (b=decide (z<0))):z=sg b (By z):=by have a:=h.out;subst a;by_cases a:z<0;{simp[sg,a];omega};simp[sg,a];omega
theorem sL(w)(A B):b_ w (AI (AI w A) B):=((qf _ _).alloc (zh _) _).alloc sp _
theorem yV(w)(A B C):b_ w (AI (AI (AI w A) B) C):=(sL w A B).alloc so _
theorem iB{p}(a:g≠h):AT (AS w (Xd g o O) x) (Xd h p O)=AT w (Xd h p O):=zA _ _ _ _ (λe=>a<|by injection e)
def Zh (w:H)(g:Nat)(x y:Value):Prop:=
 w.cell? (Xd g 0 O)=E x/\AT w (Xd g 1 O)=E y/\w.frozen? (Xd g 0 O)=false/\w.frozen? (Xd g 1 O)=false/\g<IS (IT w)
theorem Zh.J(h:Zh w g x y)(hb:b_ w w'):Zh w' g x y:=by have⟨b,c,d,e,a⟩:=h;exact⟨(hb.cell a).trans b,(hb.cell a).trans c,(hb.frozen a).trans d,(hb.frozen a).trans e,zK a hb.size⟩
theorem Zh.new(w:H)(x y)(t):Zh (AI w (cl #[x,y] t)) w.heap.size x y:=by refine⟨?_,?_,?_,?_,?_⟩<;>simp
abbrev Xm:=@Zh.new
theorem Zh.alloc(h:Zh w g x y)(o):Zh (AI w o) g x y:=h.J ((qf _ _).alloc (zh _) o)
theorem Zh.drew(h:Zh w g x y):Zh w.drew g x y:=h
theorem Zh.drewN(h:Zh w g x y)(q):Zh (w.drewN q) g x y:=h
theorem Ms(w)(x)(z)(h:zy w x z):
 C_ 124 #[x] w λe w'=>∃v,e=Xa v/\fj w' v (By z)/\b_ w w':=by obtain⟨_,_,_,_,rfl,a,_⟩:=h.parts;go_enter func124,ntmps124;go_wp2;go_ret;exact⟨_,rfl,a.alloc _,(qf _ _).alloc (zh _) _⟩
theorem iu(w)(x)(z)(h:zy w x z):
 C_ 207 #[x] w λe w'=>e=Xa (i_ z.sign)/\b_ w w':=by obtain⟨d,_,_,_,rfl,b,a⟩:=h.parts;cases d with |true=>(have c:z<0:=by have:=a.out;simpa using this);go_enter func207,ntmps207;go_wp2;go_ret;exact⟨sZ g_,(qf _ _).alloc (zh _) _⟩ |false=>(have c:¬z<0:=by have:=a.out;simpa using this);by_cases f:By z=0;{have g:z=0:=om;subst g;go_enter func207,ntmps207;go_wp2_with fail;apply(JR _ _<|b.alloc _).mono;rintro e w' ⟨rfl,rfl⟩;go_wp2;go_ret;exact⟨rfl,(qf _ _).alloc (zh _) _⟩};go_enter func207,ntmps207;go_wp2_with fail;refine(jW _ _ _ (b.alloc _) f).mono<|fK ?_;go_wp2;go_ret;exact⟨sZ g_,(qf _ _).alloc (zh _) _⟩
theorem FE(w)(x)(z)(h:zy w x z):
 C_ 179 #[x] w λe w'=>∃y,e=Xa y/\zy w' y (-z)/\b_ w w':=by
 obtain⟨b,_,_,_,rfl,c,a⟩:=h.parts;have f:sg (!b) (By z)=-z:=by rw[KM a];cases b<;>simp[sg]
 go_enter func179,ntmps179;go_wp2_with fail;refine(Jh _ _ _ _<|(c.alloc _).alloc _).mono<|eO λw' y a c=>?_;rw[f]at a;obtain⟨i,g,m,j,rfl,l,k⟩:=a.parts;have⟨d,_⟩:=PN c;have a:AT w' (x_ w 0)=E (G false):=by rw[d _ _ sp];simp
 have b:AT w' (x_ w 1)=E (V_):=by rw[d _ _ sp];simp
 go_wp2;exact zH (by simp[results,results179,go_sem,a,b]) rfl ⟨_,rfl,QJ l k a b,(((sL w _ _).trans<|c.mono (sL w _ _).size).setCell sp _).setCell sp _⟩
theorem K6(w)(x y)(z t)(K)(X:K<=1073741823)(h:zy w x z)(k:zy w y t)(R:By z<4294967296^K)(M:By t<4294967296^K):
 C_ 173 #[x,y] w λe w'=>∃s,e=Xa s/\zy w' s (z+t)/\b_ w w':=by obtain⟨b,c,l,f,rfl,N,a⟩:=h.parts;obtain⟨o,d,i,g,rfl,P,j⟩:=k.parts;have m:=KM a;have a:=KM j;by_cases a0:b=o;{subst a0;(have j:sg b (By z+By t)=z+t:=by cases b<;>simp[sg]at *<;>omega);have B:=zf j;have a:(b == b)=true:=sp;go_enter func173,ntmps173;go_wp2;(have W:Zh (AI (AI (AI w<|cl #[G b,V c l f] 102)<|cl #[G b,V d i g] 102)<|cl #[G false,V_] 102) (IS (IT w)+1+1) (G false) (V_):=by have:=Xm (AI (AI w<|cl #[G b,V c l f] 102)<|cl #[G b,V d i g] 102) (G false) (V_) 102;simpa using this);(have q:Zh (AI (AI (AI w<|cl #[G b,V c l f] 102)<|cl #[G b,V d i g] 102)<|cl #[G false,V_] 102) (IS (IT w)+1) (G b) (V d i g):=by have:=(Xm (AI w<|cl #[G b,V c l f] 102) (G b) (V d i g) 102).alloc<|cl #[G false,V_] 102;simpa using this);have p:Zh (AI (AI (AI w<|cl _ 102)<|cl #[G b,V d i g] 102)<|cl #[G false,V_] 102) _ (G b) (V c l f):=((Xm w _ _ _).alloc _).alloc _;have A:=yV w (cl #[G b,V c l f] 102) (cl #[G b,V d i g] 102)<|cl #[G false,V_] 102;go_region_held (λw'=>AT w' (y_ w 0)=E (G b)/\AT w' (y_ w 1)=E (V c l f)/\AT w' (x_ w 1)=E (V d i g)) (first|(refine⟨?_,?_,?_⟩<;>(rw[iB,iB]<;>first|omega|omega))|go_keep) (first|(go_at_call 191;refine(lA _ _ _ _ _ K (by exact XH<|((N.alloc _).alloc _).alloc _) (by exact XH<|((P.alloc _).alloc _).alloc _) R M X).mono<|eO λT s j a=>?_;have m:=p.drew.J a;obtain⟨_,_,_,_,_⟩:=m;have m:=q.drew.J a;obtain⟨_,_,_,_,_⟩:=m)|(go_at_call 118;refine(Jh _ _ _ _ j).mono<|eO λU a1 u m=>?_;rw[B.out]at u;obtain⟨D,C,S,F,rfl,Q,I⟩:=u.parts;have r:=(p.drew.J a).J m;obtain⟨_,_,_,_,_⟩:=r;have p:=(q.drew.J a).J m;obtain⟨_,_,_,_,_⟩:=p;have L:=(W.drew.J a).J m;obtain⟨p,q,n,Z,g0⟩:=L));have r:=A.trans<|Below.mono ⟨a.os,a.tape,a.output,a.size,a.block⟩ A.size;have J:=r.trans<|m.mono r.size;go_wp2;exact zH (by simp[results,results173,go_sem,p,q]) rfl ⟨_,rfl,QJ Q I p q,(J.setCell so _).setCell so _⟩};have a2:(b == o)=false:=g_;(have W:Zh (AI (AI (AI w<|cl #[G b,V c l f] 102)<|cl #[G o,V d i g] 102)<|cl #[G false,V_] 102) (IS (IT w)+1+1) (G false) (V_):=by have:=Xm (AI (AI w<|cl #[G b,V c l f] 102)<|cl #[G o,V d i g] 102) (G false) (V_) 102;simpa using this);have A:=yV w (cl #[G b,V c l f] 102) (cl #[G o,V d i g] 102)<|cl #[G false,V_] 102;by_cases d:By z<By t;{(have j:sg o ((By z-By t)+(By t-By z))=z+t:=by cases b<;>cases o<;>simp[sg]at *<;>omega);have B:=zf j;go_enter func173,ntmps173;go_wp2_with fail;refine(fR _ _ _ (By z) (By t) K (((N.alloc _).alloc _).alloc _) (((P.alloc _).alloc _).alloc _) R M om).mono ?_;rintro e f ⟨rfl,c,rfl⟩;rw[B9 d];go_wp2_with fail;refine(Su _ _ _ (By z) (By t) K (by exact fj.drewN (((N.alloc _).alloc _).alloc _) c) (by exact fj.drewN (((P.alloc _).alloc _).alloc _) c) R M X).mono<|eO λT s j a=>?_;go_wp2_with fail;refine(Jh _ _ _ _ j).mono<|eO λU a1 u m=>?_;rw[B.out]at u;obtain⟨D,C,S,F,rfl,Q,I⟩:=u.parts;have L:=((W.drewN c).J a).J m;have r:=A.trans<|(JJ a).mono A.size;have J:=r.trans<|m.mono r.size;obtain⟨p,q,n,Z,g0⟩:=L;go_wp2;exact zH (v:=ag #[G D,V C S F]) (by simp[results,results173,go_sem,p,q]) rfl ⟨_,rfl,QJ Q I p q,(J.setCell so _).setCell so _⟩};(have j:sg b ((By z-By t)+(By t-By z))=z+t:=by cases b<;>cases o<;>simp[sg]at *<;>omega);have B:=zf j;(have b:0<=Jy (By z) (By t):=by rcases Qc (By t) (By z) with h|h;{rw[Cb h];omega};rw[F7 om];omega);go_enter func173,ntmps173;go_wp2_with fail;refine(fR _ _ _ (By z) (By t) K (((N.alloc _).alloc _).alloc _) (((P.alloc _).alloc _).alloc _) R M om).mono ?_;rintro e f ⟨rfl,c,rfl⟩;generalize Jy (By z) (By t)=b at *;go_wp2_with fail;refine(Su _ _ _ (By z) (By t) K (by exact fj.drewN (((N.alloc _).alloc _).alloc _) c) (by exact fj.drewN (((P.alloc _).alloc _).alloc _) c) R M X).mono<|eO λT s j a=>?_;go_wp2_with fail;refine(Jh _ _ _ _ j).mono<|eO λU a1 u m=>?_;rw[B.out]at u;obtain⟨D,C,S,F,rfl,Q,I⟩:=u.parts;have L:=((W.drewN c).J a).J m;have r:=A.trans<|(JJ a).mono A.size;have J:=r.trans<|m.mono r.size;obtain⟨p,q,n,Z,g0⟩:=L;go_wp2;exact zH (v:=ag #[G D,V C S F]) (by simp[results,results173,go_sem,p,q]) rfl ⟨_,rfl,QJ Q I p q,(J.setCell so _).setCell so _⟩
theorem yT{t:Int}(hb:Hid (b=decide (z<0)))(e:Hid (c=decide (t<0))):sg (!(b == c)) (By z*By t)=z*t:=by rw[(KM hb),(KM e)];generalize By z=m;generalize By t=n;cases b<;>cases c<;>simp[sg,Int.neg_mul,Nv]
theorem D4(w)(x y)(z t)(J K)(a:J+K<=1073741823)(h:zy w x z)(k:zy w y t)(C:By z<4294967296^J)(r:By t<4294967296^K):
 C_ 175 #[x,y] w λe w'=>∃s,e=Xa s/\zy w' s (z*t)/\b_ w w':=by
 obtain⟨d,b,l,g,rfl,A,a⟩:=h.parts;obtain⟨f,c,j,i,rfl,B,m⟩:=k.parts;have u:=zf<|yT a m;have D:Zh (AI (AI (AI w<|cl #[G d,V b l g] 102)<|cl #[G f,V c j i] 102)<|cl #[G false,V_] 102) (IS (IT w)+1+1) (G false) (V_):=by have:=Xm (AI (AI w<|cl #[G d,V b l g] 102)<|cl #[G f,V c j i] 102) (G false) (V_) 102;simpa using this
 have p:Zh (AI (AI (AI w<|cl #[G d,V b l g] 102)<|cl #[G f,V c j i] 102)<|cl #[G false,V_] 102) (IS (IT w)+1) (G f) (V c j i):=by have:=(Xm (AI w<|cl #[G d,V b l g] 102) (G f) (V c j i) 102).alloc<|cl #[G false,V_] 102;simpa using this
 have o:Zh (AI (AI (AI w<|cl _ 102)<|cl #[G f,V c j i] 102)<|cl #[G false,V_] 102) _ (G d) (V b l g):=((Xm w _ _ _).alloc _).alloc _;have q:=yV w (cl #[G d,V b l g] 102) (cl #[G f,V c j i] 102)<|cl #[G false,V_] 102;go_enter func175,ntmps175;go_wp2;go_region_held (λw'=>AT w' (y_ w 0)=E (G d)/\AT w' (y_ w 1)=E (V b l g)/\AT w' (x_ w 0)=E (G f)/\AT w' (x_ w 1)=E (V c j i)) (first|(refine⟨?_,?_,?_,?_⟩<;>(rw[iB,iB]<;>first|omega|omega))|go_keep) (first|(go_at_call 174;refine(iV _ _ _ _ _ J K (by exact XH<|((A.alloc _).alloc _).alloc _) (by exact XH<|((B.alloc _).alloc _).alloc _) C r om).mono<|eO λL s r a=>?_;have m:=o.drew.J a;obtain⟨_,_,_,_,_⟩:=m;have m:=p.drew.J a;obtain⟨_,_,_,_,_⟩:=m)|(go_at_call 118;refine(Jh _ _ _ _ r).mono<|eO λM _ r m=>?_;rw[u.out]at r;obtain⟨A,u,I,B,rfl,F,C⟩:=r.parts;have r:=(o.drew.J a).J m;obtain⟨_,_,_,_,_⟩:=r;have o:=(p.drew.J a).J m;obtain⟨_,_,_,_,_⟩:=o;have r:=(D.drew.J a).J m;obtain⟨o,p,_,_,_⟩:=r));have r:=q.trans<|Below.mono ⟨a.os,a.tape,a.output,a.size,a.block⟩ q.size;have a:=r.trans<|m.mono r.size;go_wp2;exact zH (by simp[results,results175,go_sem,o,p]) rfl ⟨_,rfl,QJ F C o p,(a.setCell so _).setCell so _⟩
theorem RO(w)(n)(a:n<9223372036854775808):
 C_ 137 #[i_ (n:Nat)] w λe w'=>∃s,e=Xa s/\zy w' s (n)/\b_ w w':=by have d:b_ w (AI w<|cl #[G false,V_] 102):=(qf _ _).alloc (zh _) _;go_enter func137,ntmps137;go_wp2_with fail;refine(J_ _ _ n sp om).mono<|eO λf s h c=>?_;go_wp2_with fail;refine(Jh _ _ _ _ h).mono<|eO λr _ a b=>?_;rw[show sg _ n=n from rfl]at a;obtain⟨j,i,q,k,rfl,p,l⟩:=a.parts;have o:=((Xm _ _ _ _).J c).J b;have a:=d.trans<|c.mono d.size;have⟨d,f,_,_,_⟩:=o;go_wp2;exact zH (by simp[results,results137,go_sem,d,f]) rfl ⟨_,rfl,QJ p l d f,((a.trans<|b.mono a.size).setCell sp _).setCell sp _⟩
theorem zoi(h:0<=z):sg false (By z/n)=z/(n):=by obtain⟨_,rfl⟩:=Int.eq_ofNat_of_zero_le h;simp[sg]
theorem nj(b:n≠0)(h:z<0)(c:By z%n=0):sg true (By z/n)=z/(n):=by
 obtain⟨m,hm⟩:∃m:Nat,z=-m:=⟨By z,om⟩;subst hm;rw[Int.natAbs_neg,Q9]at *;have a:=Jz m n;rw[c,qV]at a;simp only[sg,uG];rw[<-a,Nat.mul_div_cancel_left _<|Z3 b];rw[J0,<-Nv,jI _ om]
theorem nD(b:n≠0)(h:z<0)(a:By z%n≠0):sg true (By z/n+1)=z/(n):=by obtain⟨m,hm⟩:∃m:Nat,z=-m:=⟨By z,om⟩;subst hm;rw[Int.natAbs_neg,Q9]at *;have a:=Jz m n;have c:=Z0 m<|Z3 b;generalize m/n=q at *;generalize m%n=r at *;simp only[sg,uG];have c:(-m)=n*(-((q+1:Nat):Int))+((n-r:Nat):Int):=g_;rw[c,Int.mul_add_ediv_left _ _ om];rw[Int.ediv_eq_zero_of_lt om om,Int.add_zero]
theorem K7(K)(a:K<=1073741822)(J:F6 K)(w)(x v)(z)(n)(h:zy w x z)(N:fj w v n)(W:n≠0)(F:By z<4294967296^K)(M:n<4294967296^K):
 C_ 126 #[x,v] w λe w'=>∃s,e=Xa s/\zy w' s (z/(n))/\b_ w w':=by
 obtain⟨b,a,l,c,rfl,P,D⟩:=h.parts;have L:Zh (AI (AI w<|cl #[G b,V a l c] 102)<|cl #[G false,V_] 102) (IS (IT w)+1) (G false) (V_):=by have:=Xm (AI w<|cl #[G b,V a l c] 102) (G false) (V_) 102;simpa using this
 have C:Zh (AI (AI w<|cl _ 102)<|cl #[G false,V_] 102) _ (G b) (V a l c):=(Xm w _ _ _).alloc _;have i:=sL w (cl #[G b,V a l c] 102)<|cl #[G false,V_] 102;have a2:By z/n<4294967296^K:=qu (DE _ _) F;cases b with |false=>(have I:0<=z:=by have:=D.out;simp at this;omega);go_enter func126,ntmps126;go_wp2_with fail;apply(J _ _ _ _ n ((P.alloc _).alloc _) ((N.alloc _).alloc _) F M).mono;rintro e R ⟨s,a0,rfl,u,t,a⟩;have⟨X,q0,Z,p3,p4⟩:=C.J a;go_wp2_with fail;refine(Jh _ _ _ _ u).mono<|eO λB a1 g f=>?_;rw[(zf<|zoi I).out]at g;obtain⟨l,k,A,m,rfl,y,o⟩:=g.parts;have d:=i.trans<|a.mono i.size;have⟨b,c,S,T,U⟩:=(L.J a).J f;go_wp2;exact zH (by simp[results,results126,go_sem,b,c]) rfl ⟨_,rfl,QJ y o b c,((d.trans<|f.mono d.size).setCell sp _).setCell sp _⟩ |true=>(have I:z<0:=by have:=D.out;simp at this;omega);by_cases D:By z%n=0;{go_enter func126,ntmps126;go_wp2_with fail;apply(J _ _ _ _ n ((P.alloc _).alloc _) ((N.alloc _).alloc _) F M).mono;rintro e R ⟨s,a0,rfl,u,t,a⟩;rw[D]at t;have⟨X,q0,Z,p3,p4⟩:=C.J a;go_wp2_with fail;apply(JR _ _ t).mono;rintro e Q ⟨rfl,rfl⟩;go_wp2_with fail;refine(Jh _ _ _ _ u).mono<|eO λB a1 g f=>?_;rw[(zf<|nj W I D).out]at g;obtain⟨l,k,A,m,rfl,y,o⟩:=g.parts;have d:=i.trans<|a.mono i.size;have p:=d.trans<|f.mono d.size;have⟨b,c,S,T,U⟩:=(L.J a).J f;go_wp2;exact zH (by simp[results,results126,go_sem,b,c]) rfl ⟨_,rfl,QJ y o b c,(p.setCell sp _).setCell sp _⟩};have j:=zf<|nD W I D;go_enter func126,ntmps126;go_wp2_with fail;apply(J _ _ _ _ n ((P.alloc _).alloc _) ((N.alloc _).alloc _) F M).mono;rintro e R ⟨s,a0,rfl,u,t,a⟩;have r:=C.J a;have⟨X,q0,Z,p3,p4⟩:=r;go_wp2_with fail;refine(jW _ _ _ t D).mono<|fK ?_;go_wp2_with fail;refine(J_ _ _ 1 sp om).mono<|eO λF _ t r=>?_;go_wp2_with fail;refine(lA _ _ _ _ 1 _ (u.J r) t (zK a2<|gK om) (zK dc<|gK<|show 1<=K+1 by omega) om).mono<|eO λI _ D t=>?_;have u:=((C.J a).J r).J t;have⟨_,_,_,_,_⟩:=u;go_wp2_with fail;refine(Jh _ _ _ _ D).mono<|eO λB a1 g f=>?_;rw[j.out]at g;obtain⟨l,k,A,m,rfl,y,o⟩:=g.parts;have q:=(((L.J a).J r).J t).J f;have d:=i.trans<|a.mono i.size;have a:=d.trans<|r.mono d.size;have d:=a.trans<|t.mono a.size;have p:=d.trans<|f.mono d.size;have⟨b,c,S,T,U⟩:=q;go_wp2;exact zH (by simp[results,results126,go_sem,b,c]) rfl ⟨_,rfl,QJ y o b c,(p.setCell sp _).setCell sp _⟩
theorem SW(a b):(Jy a b<0↔a<b)/\(Jy a b=0↔a=b):=by rcases Gd a b with h|h|h;{rw[B9 h];omega};{rw[F7 h];omega};rw[Cb h];omega
theorem zlt(w)(x y)(z t)(K)(a:K<=1073741823)(h:zy w x z)(k:zy w y t)(F:By z<4294967296^K)(B:By t<4294967296^K):
 C_ 136 #[x,y] w λe w'=>∃c,e=Xa (i_ c)/\(c<0↔z<t)/\(c=0↔z=t)/\-2<=c/\c<=2/\b_ w w':=by
 have I:=h;have L:=k;obtain⟨b,f,l,i,rfl,C,u⟩:=h.parts;obtain⟨c,g,m,j,rfl,D,v⟩:=k.parts;have r:=sL w (cl #[G b,V f l i] 102)<|cl #[G c,V g m j] 102;have A:∀a b,-2<=Jy a b/\Jy a b<=2:=by intro a b;unfold Jy;split;{omega};omega
 by_cases s:b=c;{subst s;have J:(b == b)=true:=sp;cases b with |true=>(have q:z<0:=by have:=u.out;simp at this;omega);(have p:t<0:=by have:=v.out;simp at this;omega);have o:=SW (By t) (By z);(have d:Hid ((Jy (By t) (By z)<0↔z<t)/\(Jy (By t) (By z)=0↔z=t)):=by rw[Hid,o.1,o.2];omega);have a:=zf<|A (By t) (By z);go_enter func136,ntmps136;go_wp2_with fail;refine(fR _ _ _ _ _ K ((D.alloc _).alloc _) ((C.alloc _).alloc _) B F om).mono ?_;rintro e N ⟨rfl,M,rfl⟩;go_wp2;go_ret;exact⟨_,rfl,d.out.1,d.out.2,a.out.1,a.out.2,Nd r⟩ |false=>(have q:0<=z:=by have:=u.out;simp at this;omega);(have p:0<=t:=by have:=v.out;simp at this;omega);have o:=SW (By z) (By t);(have d:Hid ((Jy (By z) (By t)<0↔z<t)/\(Jy (By z) (By t)=0↔z=t)):=by rw[Hid,o.1,o.2];omega);have a:=zf<|A (By z) (By t);go_enter func136,ntmps136;go_wp2_with fail;refine(fR _ _ _ _ _ K ((C.alloc _).alloc _) ((D.alloc _).alloc _) F B om).mono ?_;rintro e N ⟨rfl,M,rfl⟩;go_wp2;go_ret;exact⟨_,rfl,d.out.1,d.out.2,a.out.1,a.out.2,Nd r⟩};have J:(b == c)=false:=g_;(have B:Zh (AI (AI w<|cl #[G b,V f l i] 102)<|cl #[G c,V g m j] 102) (IS (IT w)+1) (G c) (V g m j):=by have:=Xm (AI w<|cl #[G b,V f l i] 102) (G c) (V g m j) 102;simpa using this);have A:Zh (AI (AI w<|cl _ 102)<|cl #[G c,V g m j] 102) _ (G b) (V f l i):=(Xm w _ _ _).alloc _;have C:-1<=z.sign/\z.sign<=1/\-1<=t.sign/\t.sign<=1:=g_;(have d:Hid ((z.sign-t.sign<0↔z<t)/\(z.sign-t.sign=0↔z=t)):=by have a:=u.out;have o:=v.out;rw[Hid];by_cases q:z<0;{grind};grind);obtain⟨_,_,_,_⟩:=C;(have q:Hid (IntKind.i64.wrap (z.sign-t.sign)=z.sign-t.sign):=by rw[Hid];have a:-2<=z.sign-t.sign/\z.sign-t.sign<=2:=om;generalize z.sign-t.sign=o at a;simp[IntKind.wrap,IntKind.signed,IntKind.bits];omega);go_enter func136,ntmps136;go_wp2;go_region_held (λw'=>AT w' (y_ w 0)=E (G b)/\AT w' (y_ w 1)=E (V f l i)/\AT w' (x_ w 0)=E (G c)/\AT w' (x_ w 1)=E (V g m j)) (go_keep) (first|(go_at_call_of 207 (G b);refine(iu _ _ z<|by exact zy.drewN ((I.alloc _).alloc _) 1).mono<|eV λs a=>?_;have o:=A.drew.J a;obtain⟨_,_,_,_,_⟩:=o;have o:=B.drew.J a;obtain⟨_,_,_,_,_⟩:=o)|(go_at_call_of 207 (G c);refine(iu _ _ t<|by exact(zy.drewN ((L.alloc _).alloc _) 1).J a).mono<|eV λu o=>?_;have p:=(A.drew.J a).J o;obtain⟨_,_,_,_,_⟩:=p;have p:=(B.drew.J a).J o;obtain⟨_,_,_,_,_⟩:=p));have p:=r.trans<|Below.mono ⟨a.os,a.tape,a.output,a.size,a.block⟩ r.size;have a:=p.trans<|o.mono p.size;go_wp2;go_ret;exact⟨_,sZ am,d.out.1,d.out.2,om,om,a⟩
def uP (q:Nat):Nat:=if q=1 then 0 else q
def Qa (w:H)(x:Value)(p:Int)(q:Nat):Prop:=
 ∃b v u,x=ag #[G b,v,u]/\fj w v (By p)/\Hid (b=decide (p<0))/\fj w u (uP q)/\0<q/\Hid (kaf (By p) q=1)
theorem Qa.J(h:Qa w x p q)(hb:b_ w w'):Qa w' x p q:=by have⟨b,v,u,a,c,d,e,f⟩:=h;exact⟨b,v,u,a,c.J hb,d,e.J hb,f⟩
theorem Qa.alloc(h:Qa w x p q)(o):Qa (AI w o) x p q:=h.J ((qf _ _).alloc (zh _) o)
theorem Qa.drew(h:Qa w x p q):Qa w.drew x p q:=h
theorem Qa.parts(h:Qa w x p q):∃b a l cap c e d,x=ag #[G b,V a l cap,V c e d]/\fj w (V a l cap) (By p)/\Hid (b=decide (p<0))/\fj w (V c e d) (uP q)/\0<q/\Hid (kaf (By p) q=1):=by have⟨b,_,_,i,f,j,g,k⟩:=h;obtain⟨a,l,cap,rfl⟩:=f.slice;obtain⟨c,e,d,rfl⟩:=g.slice;grind
def QQ (w:H)(g:Nat)(x y z:Value):Prop:=
 w.cell? (Xd g 0 O)=E x/\AT w (Xd g 1 O)=E y/\AT w (Xd g 2 O)=E z/\w.frozen? (Xd g 0 O)=false/\w.frozen? (Xd g 1 O)=false/\w.frozen? (Xd g 2 O)=false/\g<IS (IT w)
theorem QQ.J{z}(h:QQ w g x y z)(hb:b_ w w'):QQ w' g x y z:=by have⟨b,c,d,e,f,i,a⟩:=h;exact⟨(hb.cell a).trans b,(hb.cell a).trans c,(hb.cell a).trans d,(hb.frozen a).trans e,(hb.frozen a).trans f,(hb.frozen a).trans i,zK a hb.size⟩
theorem QQ.new(w:H)(x y z)(t):QQ (AI w (cl #[x,y,z] t)) w.heap.size x y z:=by refine⟨?_,?_,?_,?_,?_,?_,?_⟩<;>simp
abbrev Xn:=@QQ.new
theorem QQ.alloc{z}(h:QQ w g x y z)(o):QQ (AI w o) g x y z:=h.J ((qf _ _).alloc (zh _) o)
theorem QQ.drew{z}(h:QQ w g x y z):QQ w.drew g x y z:=h
theorem QQ.drewN{z}(h:QQ w g x y z)(q):QQ (w.drewN q) g x y z:=h
theorem QQ.kG(w:H)(A)(x y z)(t):QQ (AI (AI w A) (cl #[x,y,z] t)) (IS (IT w)+1) x y z:=by have:=Xn (AI w A) x y z t;simpa using this
abbrev Xy:=@QQ.kG
theorem QQ.xy(w:H)(A B)(x y z)(t):QQ (AI (AI (AI w A) B) (cl #[x,y,z] t)) (IS (IT w)+1+1) x y z:=by have:=Xn (AI (AI w A) B) x y z t;simpa using this
theorem Zh.kG(w:H)(A)(x y)(t):Zh (AI (AI w A) (cl #[x,y] t)) (IS (IT w)+1) x y:=by have:=Xm (AI w A) x y t;simpa using this
theorem IL{e:Bool}{c d:Nat}{u:Value}(k:fj w v (By p))(hb:Hid (b=decide (p<0)))(j:fj w u (uP q))(i:0<q)(hg:Hid (kaf (By p) q=1))(f:AT w (Xd g 0 O)=E (G e))(h1:AT w (Xd g 1 O)=E (V a h c))(h2:AT w (Xd g 2 O)=E (V a1 l1 d)):
 Qa (AS (AS (AS w (Xd g 0 O) (G b)) (Xd g 1 O) v) (Xd g 2 O) u) (ag #[G b,v,u]) p q:=by
 have e:AT (AS w (Xd g 0 O)<|G b) (Xd g 1 O)=E (V a h c):=by rw[zA _ _ _ _ sp];exact h1
 have a:AT (AS (AS w (Xd g 0 O)<|G b) (Xd g 1 O) v) (Xd g 2 O)=E (V a1 l1 d):=by rw[zA _ _ _ _ sp,zA _ _ _ _ sp];exact h2
 exact⟨b,v,u,rfl,((k.setCell f sp _).setCell e sp _).setCell a sp _,hb,((j.setCell f sp _).setCell e sp _).setCell a sp _,i,hg⟩
theorem OM(w)(x)(z)(h:zy w x z):
 C_ 77 #[x] w λe w'=>∃s,e=Xa s/\Qa w' s z 1/\b_ w w':=by obtain⟨b,a,l,c,rfl,f,d⟩:=h.parts;go_enter func77,ntmps77;go_wp2;exact zH (v:=ag #[G b,V a l c,V_]) (by simp[results,results77,go_sem]) rfl ⟨_,rfl,⟨b,_,_,rfl,(f.alloc _).alloc _,d,Xo _ _ _,om,Nat.gcd_one_right _⟩,sL w _ _⟩
theorem ML(w)(x)(p)(h:Qa w x p 1):
 C_ 81 #[x] w λe w'=>e=Xa (G true)/\b_ w w':=by obtain⟨_,_,_,_,_,_,_,rfl,_,_,a,_,_⟩:=h.parts;rw[show uP 1=0 from rfl]at a;go_enter func81,ntmps81;go_wp2_with fail;refine(JR _ _<|a.alloc _).mono<|fK ?_;go_wp2;go_ret;exact⟨rfl,(qf _ _).alloc (zh _) _⟩
theorem Ki(a:0<q)(h1:q≠1):uP q=q/\uP q≠0:=by unfold uP;rw[zO h1];omega
theorem NM(w)(x)(p)(q)(h:Qa w x p q)(h1:q≠1):
 C_ 81 #[x] w λe w'=>e=Xa (G false)/\b_ w w':=by obtain⟨_,_,_,_,_,_,_,rfl,_,_,b,a,_⟩:=h.parts;go_enter func81,ntmps81;go_wp2_with fail;refine(jW _ _ _ (b.alloc _) (Ki a h1).2).mono<|fK ?_;go_wp2;go_ret;exact⟨rfl,(qf _ _).alloc (zh _) _⟩
theorem zoj(w)(x)(p)(q)(h:Qa w x p q):
 C_ 178 #[x] w λe w'=>e=Xa (i_ p.sign)/\b_ w w':=by obtain⟨b,c,l,f,d,k,g,rfl,j,i,_,_,_⟩:=h.parts;have a:b_ w (AI w<|cl #[G b,V c l f,V d k g] 104):=(qf _ _).alloc (zh _) _;go_enter func178,ntmps178;go_wp2_with fail;refine(iu _ _ p ⟨b,_,rfl,j.alloc _,i⟩).mono<|eV λw' b=>?_;go_wp2;go_ret;exact⟨rfl,a.trans<|b.mono a.size⟩
theorem zic(w)(x)(p)(q)(h:Qa w x p q):
 C_ 171 #[x] w λe w'=>∃v,e=Xa v/\fj w' v q/\b_ w w':=by have j:=h;obtain⟨d,a,l,f,c,i,g,rfl,_,_,k,o,_⟩:=h.parts;have b:b_ w (AI w<|cl #[G d,V a l f,V c i g] 104):=(qf _ _).alloc (zh _) _;by_cases c:q=1;{subst c;go_enter func171,ntmps171;go_wp2_with fail;refine(ML _ _ p<|j.alloc _).mono<|eV λw' a=>?_;go_wp2_with fail;refine(J_ _ _ 1 sp om).mono<|eO λd v g f=>?_;go_wp2;go_ret;have d:=b.trans<|a.mono b.size;exact⟨_,rfl,g,d.trans<|f.mono d.size⟩};rw[(Ki o c).1]at k;go_enter func171,ntmps171;go_wp2_with fail;refine(NM _ _ p q (j.alloc _) c).mono<|eV λw' a=>?_;have c:=(Xn _ _ _ _ _).J a;have⟨_,_,_,_,_,_,_⟩:=c;go_wp2;go_ret;exact⟨_,rfl,(k.alloc _).J a,b.trans<|a.mono b.size⟩
theorem QQ.iB{z u}(b:QQ w g x y z)(a:h≠g):QQ (AS w (Xd h o O) u) g x y z:=by obtain⟨c,d,e,f,i,j,k⟩:=b;exact⟨by rw[Go.Proofs.YtikmppijocpamaaGreatDoor.iB a];omega,by rw[Go.Proofs.YtikmppijocpamaaGreatDoor.iB a];omega,by rw[Go.Proofs.YtikmppijocpamaaGreatDoor.iB a];omega,by simp_all,by simp_all,by simp_all,by simp_all⟩
theorem zrE(b:n≠0):0<kaf (By z) n/\0<n/kaf (By z) n/\kaf (By (z/(kaf (By z) n))) (n/kaf (By z) n)=1:=by
 have a:0<kaf (By z) n:=Nat.gcd_pos_of_pos_right _<|Z3 b;refine⟨a,Nat.div_pos (Mv (Z3 b)<|I2 _ _) a,?_⟩;have b:By (z/(kaf (By z) n:Int))=By z/kaf (By z) n:=by rw[Int.natAbs_ediv_of_dvd];{simp};exact IM.2 (Fl _ _)
 rw[b];rw[Nat.gcd_div (Fl _ _)<|I2 _ _,Nat.div_self a]
theorem Th(w)(x v)(z)(n)(h:zy w x z)(p:fj w v n)(r:0<n)(hg:Hid (kaf (By z) n=1)):
 C_ 128 #[x,v] w λe w'=>∃s,e=Xa s/\Qa w' s z n/\b_ w w':=by have d:=h;obtain⟨b,a,l,c,rfl,S,J⟩:=h.parts;obtain⟨y,W,B,rfl⟩:=p.slice;have m:Zh (AI (AI w<|cl _ 102)<|cl #[G false,V_,V_] 104) _ (G b) (V a l c):=(Xm _ _ _ _).alloc _;have j:QQ (AI (AI w<|cl #[G b,V a l c] 102)<|cl _ 104) _ (G false) (V_) (V_):=Xy _ _ _ _ _ _;have i:=sL w (cl #[G b,V a l c] 102)<|cl #[G false,V_,V_] 104;by_cases k:n=1;{subst k;go_enter func128,ntmps128;go_wp2_with fail;refine(Pu _ _<|(p.alloc _).alloc _).mono ?_;rintro e w' ⟨rfl,rfl⟩;go_wp2_with fail;refine(OM _ _ z<|(d.alloc _).alloc _).mono<|eO λd s q o=>?_;obtain⟨A,t,X,T,u,Z,U,rfl,M,N,P,Q,R⟩:=q.parts;have L:=j.J o;have K:=i.trans<|o.mono i.size;obtain⟨d,f,g,C,D,F,I⟩:=L;clear o q m j;go_wp2;exact zH (by simp[results,results128,go_sem,d,f,g]) rfl ⟨_,rfl,IL M N P Q R d f g,((K.setCell sp _).setCell sp _).setCell sp _⟩};have q:=(Ki r k).1;have o:=(p.alloc<|cl #[G b,V a l c] 102).alloc<|cl #[G false,V_,V_] 104;have p:=(S.alloc<|cl #[G b,V a l c] 102).alloc<|cl #[G false,V_,V_] 104;have t:=zf q;clear q;go_enter func128,ntmps128;go_wp2_with fail;refine(RM _ _ _ o k).mono<|eV λw' k=>?_;rw[<-k]at o p m j i;clear k;obtain⟨_,_,_,_,_⟩:=m;obtain⟨d,f,g,C,D,F,I⟩:=j;go_wp2;exact zH (by simp[results,results128,go_sem,d,f,g]) rfl ⟨_,rfl,IL p J (by rw[t.out];exact o) r hg d f g,((i.setCell sp _).setCell sp _).setCell sp _⟩
theorem XZ(K)(hK:K<=1073741822)(X:F6 K)(w)(x v)(z)(n)(h:zy w x z)(I:fj w v n)(hn:n≠0)(hz:By z<4294967296^K)(Z:n<4294967296^K):
 C_ 80 #[x,v] w λe w'=>∃s,e=Xa s/\Qa w' s (z/(kaf (By z) n)) (n/kaf (By z) n)/\b_ w w':=by have W:=h;obtain⟨o,m,r,q,rfl,hx,hb⟩:=h.parts;obtain⟨_,_,_,rfl⟩:=I.slice;have aw:Zh (AI (AI w<|cl _ 102)<|cl #[G false,V_,V_] 104) _ (G o) (V m r q):=(Xm _ _ _ _).alloc _;have ai:QQ (AI (AI w<|cl #[G o,V m r q] 102)<|cl _ 104) _ (G false) (V_) (V_):=Xy _ _ _ _ _ _;have Q:=sL w (cl #[G o,V m r q] 102)<|cl #[G false,V_,V_] 104;by_cases h1:n=1;{subst h1;have u:kaf (By z) 1=1:=Nat.gcd_one_right _;rw[u,Nat.div_self om,Kr,Int.ediv_one];go_enter func80,ntmps80;go_wp2_with fail;refine(Pu _ _<|(I.alloc _).alloc _).mono ?_;rintro e w' ⟨rfl,rfl⟩;go_wp2_with fail;refine(OM _ _ z<|(W.alloc _).alloc _).mono<|eO λw2 s t c=>?_;obtain⟨a,b,f,d,a3,l3,k3,rfl,a0,a1,aI,aJ,aK⟩:=t.parts;have D:=ai.J c;have au:=Q.trans<|c.mono Q.size;obtain⟨i,j,k,J,L,M,N⟩:=D;go_wp2;exact zH (by simp[results,results80,go_sem,i,j,k]) rfl ⟨_,rfl,IL a0 a1 aI aJ aK i j k,((au.setCell sp _).setCell sp _).setCell sp _⟩};obtain⟨_,ak,aB⟩:=zrE (z:=z) hn;have aE:kaf (By z) n<=n:=Mv (Z3 hn)<|I2 _ _;have an:=qu aE Z;have aH:uP _=if n/kaf _ n=1 then 0 else n/kaf (By z) n:=rfl;generalize aC:kaf (By z) n=y at *;have HG:=zf aC;have ad:=zf aB;have aQ:=zf aH;go_enter func80,ntmps80;go_wp2_with fail;refine(RM _ _ _ ((I.alloc _).alloc _) h1).mono<|fK ?_;go_wp2_with fail;refine(Ms _ _ z<|(W.alloc _).alloc _).mono<|eO λw2 sv t c=>?_;go_wp2_with fail;refine(Vf K om X _ _ _ _ n t (((I.alloc _).alloc _).J c) hz Z).mono<|eO λw3 gv F av=>?_;rw[HG.out]at F;have A:Below (AI (AI w<|cl _ 102)<|cl #[G _,V_,V_] 104).heap.size (AI (AI w<|cl _ 102)<|cl #[G _,V_,V_] 104) _:=c.trans<|av.mono c.size;have ap:=((I.alloc _).alloc _).J A;have aP:=((hx.alloc _).alloc _).J A;have aq:=((W.alloc _).alloc _).J A;have ah:=aw.J A;have aj:=ai.J A;have P:=Q.trans<|A.mono Q.size;by_cases al:y=1;{subst al;rw[Nat.div_one,Kr,Int.ediv_one]at *;obtain⟨p0,p1,p2,p3,B⟩:=ah;obtain⟨i,j,k,J,L,M,N⟩:=aj;go_wp2_with fail;refine(Pu _ _ F).mono ?_;rintro e w4 ⟨rfl,rfl⟩;go_wp2_with fail;refine(Th _ _ _ z n ⟨o,_,rfl,aP,hb⟩ ap ak ad).mono<|eO λw9 s t c=>?_;obtain⟨U,S,l5,k5,T,l6,k6,rfl,a7,a8,a9,aa,ab⟩:=t.parts;have q0:=P.trans<|c.mono P.size;have D:=QQ.J ⟨i,j,k,J,L,M,N⟩ c;obtain⟨i,j,k,J,L,M,N⟩:=D;go_wp2;exact zH (v:=ag #[G U,V S l5 k5,V T l6 k6]) (by simp[results,results80,go_sem,i,j,k]) rfl ⟨_,rfl,by rw[Kr,Int.ediv_one,Nat.div_one];exact IL a7 a8 a9 aa ab i j k,((q0.setCell sp _).setCell sp _).setCell sp _⟩};have aD:y≠0:=om;obtain⟨p0,p1,p2,p3,B⟩:=ah;go_wp2_with fail;refine(RM _ _ _ F al).mono<|fK ?_;go_wp2_with fail;refine(K7 K hK X _ _ _ z y aq F aD hz an).mono<|eO λg fv aA l=>?_;have ar:=P.trans<|l.mono P.size;have ax:=aj.J l;have aN:=ap.J l;have aF:=F.J l;have R:=(l.cell (p:=(y_ w 0)) B).trans p0;have q1:=(l.cell (p:=(y_ w 1)) B).trans p1;have q2:=(l.frozen (p:=(y_ w 0)) B).trans p2;have q3:=(l.frozen (p:=(y_ w 1)) B).trans p3;have q4:=zK B l.size;obtain⟨a,b,f,d,rfl,a0,a1⟩:=aA.parts;(have u:AT (g.setCell (y_ w 0)<|G a) (y_ w 1)=E (V m r q):=by rw[zA _ _ _ _ sp];exact q1);have aL:=(a0.setCell R sp _).setCell u sp<|V b f d;have aO:=(aN.setCell R sp _).setCell u sp<|V b f d;have aG:=(aF.setCell R sp _).setCell u sp<|V b f d;have ay:QQ ((g.setCell (y_ w 0)<|G a).setCell (y_ w 1)<|V b f d) _ _ _ _:=(ax.iB om).iB om;have ae:b_ w ((g.setCell (y_ w 0)<|G a).setCell (y_ w 1)<|V b f d):=(ar.setCell sp _).setCell sp _;(have r0:AT ((g.setCell (y_ w 0)<|G a).setCell (y_ w 1)<|V b f d) (y_ w 0)=E (G a):=by rw[zA _ _ _ _ sp];exact zN _ _ _ R);have r1:AT ((g.setCell _ _).setCell _ _) _=E (V b f d):=zN _ _ _ u;(have r4:IS (IT w)<IS (IT ((g.setCell (y_ w 0)<|G a).setCell (y_ w 1)<|V b f d)):=by simpa using q4);go_wp2_with fail;refine(X _ _ _ n y aO aG Z an).mono ?_;rintro e w7 ⟨_,rv,rfl,hq,_,C⟩;have az:=ay.J C;have aM:=aL.J C;have af:=ae.trans<|C.mono ae.size;have s0:=(C.cell r4).trans r0;have s1:=(C.cell r4).trans r1;obtain⟨_,_,_,rfl⟩:=hq.slice;go_wp2_with fail;refine(Th _ _ _ _ _ ⟨a,_,rfl,aM,a1⟩ hq ak ad).mono<|eO λw9 s t c=>?_;obtain⟨U,S,l5,k5,T,l6,k6,rfl,a7,a8,a9,aa,ab⟩:=t.parts;have D:=az.J c;have q0:b_ w _:=af.trans<|c.mono af.size;obtain⟨i,j,k,J,L,M,N⟩:=D;go_wp2;exact zH (by simp[results,results80,go_sem,i,j,k]) rfl ⟨_,rfl,IL a7 a8 a9 aa ab i j k,((q0.setCell sp _).setCell sp _).setCell sp _⟩
theorem Zh.xy(w:H)(A B)(x y)(t):Zh (AI (AI (AI w A) B) (cl #[x,y] t)) (IS (IT w)+1+1) x y:=by have:=Xm (AI (AI w A) B) x y t;simpa using this
theorem Kt(h:Below B w.drew w'):Below B w w':=⟨h.os,h.tape,h.output,h.size,h.block⟩
theorem Y9(w)(x y)(p r)(q s J K)(a0:J+K<=1073741823)(h:Qa w x p q)(k:Qa w y r s)(hp:By p<4294967296^J)(hs:s<4294967296^K):
 C_ 172 #[x,y] w λe w'=>∃t,e=Xa t/\zy w' t (p*(s))/\b_ w w':=by have h0:=h;have k0:=k;obtain⟨b,c,l,d,m,F,B,rfl,Z,T,_,_,_⟩:=h.parts;obtain⟨u,o,I,C,g,j,i,rfl,_,_,n,ad,_⟩:=k.parts;have W:QQ (AI (AI (AI w<|cl _ 104)<|cl #[G u,V o I C,V g j i] 104)<|cl #[G false,V_] 102) _ (G b) (V c l d) (V m F B):=((Xn _ _ _ _ _).alloc _).alloc _;have a7:QQ (AI (AI (AI w<|cl #[G b,V c l d,V m F B] 104)<|cl _ 104)<|cl #[G false,V_] 102) _ (G u) (V o I C) (V g j i):=(Xy _ _ _ _ _ _).alloc _;have X:Zh (AI (AI (AI w<|cl #[G b,V c l d,V m F B] 104)<|cl #[G u,V o I C,V g j i] 104)<|cl _ 102) _ (G false) (V_):=Zh.xy _ _ _ _ _ _;have M:=yV w (cl #[G b,V c l d,V m F B] 104) (cl #[G u,V o I C,V g j i] 104)<|cl #[G false,V_] 102;by_cases Q:s=1;{subst Q;rw[Kr,Um];go_enter func172,ntmps172;go_wp2_with fail;refine(ML _ _ r<|((k0.alloc _).alloc _).alloc _).mono<|eV λP a=>?_;have af:=(((Z.alloc _).alloc _).alloc _).J a;have D:=W.J a;have S:=X.J a;obtain⟨p0,p1,p2,p3,p4,p5,p6⟩:=D;obtain⟨z,A,f0,f1,g0⟩:=S;have L:=M.trans<|a.mono M.size;go_wp2;exact zH (by simp[results,results172,go_sem,z,A]) rfl ⟨_,rfl,QJ af T z A,(L.setCell so _).setCell so _⟩};go_enter func172,ntmps172;go_wp2_with fail;refine(NM _ _ r s (((k0.alloc _).alloc _).alloc _) Q).mono<|eV λP a=>?_;rw[(Ki ad Q).1]at n;have ai:zy P _ p:=⟨b,_,rfl,(((Z.alloc _).alloc _).alloc _).J a,T⟩;have ae:=(((n.alloc _).alloc _).alloc _).J a;have D:=W.J a;have R:=a7.J a;have S:=X.J a;have L:=M.trans<|a.mono M.size;have a4:=D;obtain⟨p0,p1,p2,p3,p4,p5,p6⟩:=a4;have a8:=R;obtain⟨_,_,_,_,_,_,_⟩:=a8;go_wp2;go_region_held (λw'=>AT w' (y_ w 0)=E (G b)/\AT w' (y_ w 1)=E (V c l d)/\AT w' (x_ w 2)=E (V g j i)) (first|(refine⟨?_,?_,?_⟩<;>(rw[iB,iB]<;>first|omega|omega))|go_keep) (first|(go_at_call 176;refine(Kh _ _ s am).mono<|eO λwA ov ho f=>?_;have a5:=D.drew.J f;obtain⟨_,_,_,_,_,_,_⟩:=a5;have a9:=R.drew.J f;obtain⟨_,_,_,_,_,_,_⟩:=a9)|(go_at_call 175;refine(D4 _ _ _ p _ J K a0 (by exact(ai.drewN 1).J f) ho hp om).mono<|eO λwB _ hy N=>?_;obtain⟨b2,a2,l2,k2,rfl,ah,a1⟩:=hy.parts;have a6:=(D.drew.J f).J N;obtain⟨_,_,_,_,_,_,_⟩:=a6;have aa:=(R.drew.J f).J N;obtain⟨_,_,_,_,_,_,_⟩:=aa;have ab:=(S.drew.J f).J N;obtain⟨z,A,f0,f1,g0⟩:=ab));have U:=L.trans<|(Kt f).mono L.size;have a3:=U.trans<|N.mono U.size;go_wp2;exact zH (by simp[results,results172,go_sem,z,A]) rfl ⟨_,rfl,QJ ah a1 z A,(a3.setCell so _).setCell so _⟩
theorem tq(K:Nat)(R:K<=1073741822)(S:F6 K)(w:H)(x:Value)(p:Int)(q:Nat)(h:Qa w x p q)(hp:By p<4294967296^K)(U:q<4294967296^K):
 C_ 180 #[x] w λe w'=>∃t,e=Xa t/\zy w' t (p/(q:Int))/\b_ w w':=by have y:=h;obtain⟨b,c,l,d,a,g,f,rfl,B,z,A,T,_⟩:=h.parts;have k:QQ (AI (AI w<|cl _ 104)<|cl #[G false,V_] 102) _ (G b) (V c l d) (V a g f):=(Xn _ _ _ _ _).alloc _;have m:Zh (AI (AI w<|cl #[G b,V c l d,V a g f] 104)<|cl _ 102) _ (G false) (V_):=Zh.kG _ _ _ _ _;have j:=sL w (cl #[G b,V c l d,V a g f] 104)<|cl #[G false,V_] 102;by_cases s:q=1;{subst s;go_enter func180,ntmps180;go_wp2_with fail;refine(ML _ _ p<|(y.alloc _).alloc _).mono<|eV λr a=>?_;have W:=((B.alloc _).alloc _).J a;have u:=k.J a;have o:=m.J a;obtain⟨C,D,F,I,J,L,M⟩:=u;obtain⟨f,g,N,P,Q⟩:=o;have i:=j.trans<|a.mono j.size;clear a k m;go_wp2;exact zH (v:=ag #[G b,V c l d]) (by simp[results,results180,go_sem,f,g]) rfl ⟨_,rfl,by rw[Kr,Int.ediv_one];exact QJ W z f g,(i.setCell sp _).setCell sp _⟩};rw[(Ki T s).1]at A;go_enter func180,ntmps180;go_wp2_with fail;refine(NM _ _ p q ((y.alloc _).alloc _) s).mono<|eV λr a=>?_;have s:zy r _ p:=⟨b,_,rfl,((B.alloc _).alloc _).J a,z⟩;have b:=((A.alloc _).alloc _).J a;have u:=k.J a;have o:=m.J a;obtain⟨C,D,F,I,J,L,M⟩:=u;have i:=j.trans<|a.mono j.size;clear a k m;go_wp2_with fail;refine(K7 K R S _ _ _ p q s b om hp U).mono<|eO λs _ j a=>?_;obtain⟨c,b,r,m,rfl,l,d⟩:=j.parts;have k:=o.J a;have j:=i.trans<|a.mono i.size;obtain⟨f,g,N,P,Q⟩:=k;clear a C D F I J L M o;go_wp2;exact zH (by simp[results,results180,go_sem,f,g]) rfl ⟨_,rfl,QJ l d f g,(j.setCell sp _).setCell sp _⟩
theorem Qa.setCell(h:Qa w x p q){a}(c:AT w a=E y)(b:∀k,y≠it .u32 k)(t):Qa (AS w a t) x p q:=by have⟨d,v,u,e,f,g,i,j⟩:=h;exact⟨d,v,u,e,f.setCell c b t,g,i.setCell c b t,j⟩
theorem S0{a b K}(c:a<4294967296^K)(hb:b<4294967296^K):a*b<4294967296^(K+K):=by rw[Q6];exact Nat.mul_lt_mul'' c hb
theorem znl{b K:Nat}(a:By z<4294967296^K)(hb:b<4294967296^K):By (z*(b))<4294967296^(K+K):=by rw[td,Q9];exact S0 a hb
def lE (w:H)(b c:Bool)(ao KE bo LN:A_)(l cap l' uQ m KO m' CA:Nat)(p r:Int)(q s:Nat)(wc:H):Prop:=
 QQ wc w.heap.size (G b) (V ao l cap) (V KE l' uQ)/\QQ wc (IS (IT w)+1) (G c) (V bo m KO) (V LN m' CA)/\QQ wc (IS (IT w)+1+1) (G false) (V_) (V_)/\Qa wc (ag #[G b,V ao l cap,V KE l' uQ]) p q/\Qa wc (ag #[G c,V bo m KO,V LN m' CA]) r s/\b_ w wc/\IS (IT w)+1+1<IS (IT wc)
theorem lE.J{v:H}(h:lE w b c a d e f l cap k g m i o j p r q s u)(hb:b_ u v):lE w b c a d e f l cap k g m i o j p r q s v:=by obtain⟨d,e,f,g,i,a,j⟩:=h;exact⟨d.J hb,e.J hb,f.J hb,g.J hb,i.J hb,a.trans<|hb.mono a.size,zK j hb.size⟩
theorem lE.drew(h:lE w b c a d e f l cap k g m i o j p r q s u):lE w b c a d e f l cap k g m i o j p r q s u.drew:=by obtain⟨d,e,f,g,i,a,j⟩:=h;exact⟨d,e,f,g,i,⟨a.os,a.tape,a.output,a.size,a.block⟩,j⟩
theorem lE.alloc(h:lE w b c a d e f l cap k g m i t j p r q s u)(o:Obj):lE w b c a d e f l cap k g m i t j p r q s (AI u o):=h.J ((qf _ _).alloc (zh _) o)
theorem lE.setCell{A:Nat}(h:lE w b c a d e f l cap A i m j B t p r q s u)(hg:IS (IT w)+1+1<g)(z:AT u (Xd g o O)=E y)(v:∀k,y≠it .u32 k)(x:Value):
 lE w b c a d e f l cap A i m j B t p r q s (AS u (Xd g o O) x):=by obtain⟨a,d,e,f,i,j,t⟩:=h;exact⟨a.iB om,d.iB om,e.iB om,f.setCell z v x,i.setCell z v x,j.setCell so x,by simp_all⟩
theorem Zh.stored{f:Bool}{c:A_}{e d:Nat}(h:Zh w g (G f) (V c e d)):Zh (AS (AS w (Xd g 0 O) (G b)) (Xd g 1 O) (V a l k)) g (G b) (V a l k):=by
 obtain⟨f,i,j,m,o⟩:=h;have p:AT (AS w (Xd g 0 O)<|G b) (Xd g 1 O)=E (V c e d):=by rw[zA _ _ _ _ sp];exact i
 refine⟨?_,zN _ _ _ p,by simp_all,by simp_all,by simp_all⟩;rw[zA _ _ _ _ sp];exact zN _ _ _ f
theorem zy.stored(m:zy w x z){f:Bool}{c:A_}{e d:Nat}(h:Zh w g (G f) (V c e d)):zy (AS (AS w (Xd g 0 O) (G b)) (Xd g 1 O) (V a l k)) x z:=by
 have⟨f,i,_,_,_⟩:=h;have j:AT (AS w (Xd g 0 O)<|G b) (Xd g 1 O)=E (V c e d):=by rw[zA _ _ _ _ sp];exact i
 exact(m.setCell f sp _).setCell j sp _
theorem lE.stored{i:A_}{v y:Nat}(A:lE w b c d e f i l cap v j m k y o p r q s u){z b1:Bool}{x:Nat}(h:Zh u g (G z) (V a x t))(hg:IS (IT w)+1+1<g):
 lE w b c d e f i l cap v j m k y o p r q s (AS (AS u (Xd g 0 O) (G b1)) (Xd g 1 O) (V a1 l1 k1)):=by
 obtain⟨d,e,_,_,_⟩:=h;have f:AT (AS u (Xd g 0 O)<|G b1) (Xd g 1 O)=E (V a x t):=by rw[zA _ _ _ _ sp];exact e
 exact(A.setCell hg d sp _).setCell hg f sp _
def mF (w:H)(g:Nat)(p:Int)(q:Nat):Prop:=
 ∃b a l k a' l' k',QQ w g (G b) (V a l k) (V a' l' k')/\Qa w (ag #[G b,V a l k,V a' l' k']) p q
abbrev iw (w:H)(g:Nat)(x y z:Value):H:=AS (AS (AS w (Xd g 0 O) x) (Xd g 1 O) y) (Xd g 2 O) z
abbrev EC (w:H)(g:Nat):Prop:=QQ w g (G false) (V_) (V_)
theorem mF.J(h:mF w g p q)(hb:b_ w w'):mF w' g p q:=by obtain⟨c,a,l,k,b,i,f,d,e⟩:=h;exact⟨c,a,l,k,b,i,f,d.J hb,e.J hb⟩
theorem mF.alloc(h:mF w g p q)(o:Obj):mF (AI w o) g p q:=h.J ((qf _ _).alloc (zh _) o)
theorem QQ.written{d:Bool}{c b:Nat}(h:QQ w g (G d) (V a c b) (V a1 l1 k1))(x y z:Value):QQ (iw w g x y z) g x y z:=by
 obtain⟨d,e,f,j,k,l,m⟩:=h;have i:AT (AS w (Xd g 0 O) x) (Xd g 1 O)=E (V a c b):=by rw[zA _ _ _ _ sp];exact e
 have a:AT (AS (AS w (Xd g 0 O) x) (Xd g 1 O) y) (Xd g 2 O)=E (V a1 l1 k1):=by rw[zA _ _ _ _ sp,zA _ _ _ _ sp];exact f
 refine⟨?_,?_,zN _ _ _ a,by simp_all,by simp_all,by simp_all,by simp_all⟩;{rw[zA _ _ _ _ sp,zA _ _ _ _ sp];exact zN _ _ _ d};rw[zA _ _ _ _ sp];exact zN _ _ _ i
theorem fj.iw(h:fj w v n){d:Bool}{c b:Nat}(hb:QQ w g (G d) (V a c b) (V a1 l1 k1))(x y z:Value):fj (Go.Proofs.YtikmppijocpamaaGreatDoor.iw w g x y z) v n:=by
 obtain⟨d,e,f,_,_,_,_⟩:=hb;have i:AT (AS w (Xd g 0 O) x) (Xd g 1 O)=E (V a c b):=by rw[zA _ _ _ _ sp];exact e
 have a:AT (AS (AS w (Xd g 0 O) x) (Xd g 1 O) y) (Xd g 2 O)=E (V a1 l1 k1):=by rw[zA _ _ _ _ sp,zA _ _ _ _ sp];exact f
 exact((h.setCell d sp _).setCell i sp _).setCell a sp _
theorem Qa.iw(h:Qa w v p q){d c:Nat}(hb:QQ w g (G b) (V a d c) (V a1 l1 k1))(x y z:Value):Qa (Go.Proofs.YtikmppijocpamaaGreatDoor.iw w g x y z) v p q:=by obtain⟨b,v,u,a,c,d,e,f⟩:=h;exact⟨b,v,u,a,c.iw hb x y z,d,e.iw hb x y z,f⟩
theorem QQ.tS{z u t}(b:QQ w g x y z)(a:h≠g):QQ (iw w h u v t) g x y z:=((b.iB a).iB a).iB a
theorem rz(h:Below B w w')(hg:B<=g)(x y z):Below B w (iw w' g x y z):=((h.setCell hg x).setCell hg y).setCell hg z
theorem lE.iw(h:lE w b c a d e f l cap o i m j t k p r q s u){A:Bool}{v:A_}{C:Nat}(hb:QQ u g (G A) (V v C B) (V a1 l1 k1))(hg:IS (IT w)+1+1<g)(x y z:Value):
 lE w b c a d e f l cap o i m j t k p r q s (Go.Proofs.YtikmppijocpamaaGreatDoor.iw u g x y z):=by obtain⟨a,d,e,f,i,j,k⟩:=h;exact⟨a.tS om,d.tS om,e.tS om,f.iw hb x y z,i.iw hb x y z,rz j om x y z,by simp_all⟩
theorem Sx{o}{p}(h:AT w p=E v):AT (AI w o) p=E v:=(((qf _ w).alloc (zh _) o).cell<|zw h).trans h
def tw (w:H)(g5 g6:Nat)(b5 b6:Bool)(a5 UJ a6 U4:A_)(l5 k5 Vb Un l6 k6 Wc Tt:Nat)(p r:Int)(q s:Nat)(wc:H):Prop:=
 QQ wc g5 (G b5) (V a5 l5 k5) (V UJ Vb Un)/\QQ wc g6 (G b6) (V a6 l6 k6) (V U4 Wc Tt)/\EC wc (IS (IT w)+1+1)/\Qa wc (ag #[G b5,V a5 l5 k5,V UJ Vb Un]) p q/\Qa wc (ag #[G b6,V a6 l6 k6,V U4 Wc Tt]) r s/\b_ w wc
theorem tw.J{g5:Nat}{e f:Bool}{b c:A_}{x:Nat}{v:H}(h:tw w g5 g e f a b c d m i o j t k x l p r q s u)(hb:b_ u v):tw w g5 g e f a b c d m i o j t k x l p r q s v:=by obtain⟨b,c,d,e,f,a⟩:=h;exact⟨b.J hb,c.J hb,d.J hb,e.J hb,f.J hb,a.trans<|hb.mono a.size⟩
theorem tw.drew{g5:Nat}{e f:Bool}{b c:A_}{v:Nat}(h:tw w g5 g e f a b c d m i o j t k v l p r q s u):tw w g5 g e f a b c d m i o j t k v l p r q s u.drew:=by obtain⟨b,c,d,e,f,a⟩:=h;exact⟨b,c,d,e,f,⟨a.os,a.tape,a.output,a.size,a.block⟩⟩
theorem Qa.Hg{u}(h:Qa w (ag #[G b,v,u]) p q):zy w (ag #[G b,v]) p:=by have⟨_,_,_,a,c,d,_⟩:=h;simp only[Lq,Array.mk.injEq,IU,Value.bool.injEq,DI]at a;obtain⟨rfl,rfl,rfl⟩:=a;exact⟨_,_,rfl,c,d⟩
def Ext (w w':H):Prop:=b_ w w'
theorem Ext.refl(w):Ext w w:=qf _ _
abbrev Xe:=@Ext.refl
theorem Ext.alloc(h:Ext w w')(o):Ext w (AI w' o):=Below.alloc h h.size o
abbrev XA:=@Ext.alloc
theorem kG(w)(o):(AI w o).heap[IS (IT w)]? =E o/\Ext w (AI w o):=⟨by show(w.heap.push o)[IS (IT w)]? =E o;simp,(Xe w).alloc o⟩
theorem Ext.drew(h:Ext w w'):Ext w w'.drew:=⟨h.os,h.tape,h.output,h.size,h.block⟩
abbrev Xv:=@Ext.drew
theorem Ext.trans{v}(h:Ext u v)(k:Ext v w):Ext u w:=Qg h (k.mono h.size)
abbrev Xj:=@Ext.trans
theorem Ext.of{v}(h:b_ u v):Ext u v:=h
abbrev Xg:=@Ext.of
theorem Ext.size(h:Ext w w'):IS (IT w)<=IS (IT w'):=Below.size h
abbrev XJ:=@Ext.size
abbrev LK (w:H)(g:Nat)(x y:Value):H:=AS (AS w (Xd g 0 O) x) (Xd g 1 O) y
theorem Ext.iw(h:Ext w w')(hg:IS (IT w)<=g)(x y z:Value):Ext w (Go.Proofs.YtikmppijocpamaaGreatDoor.iw w' g x y z):=rz h hg x y z
theorem Ext.cell(h:Ext w w'){p}(a:AT w p=E v):AT w' p=E v:=(Below.cell h<|zw a).trans a
abbrev CV (w:H)(g:Nat):Prop:=Zh w g (G false) (V_)
theorem CV.ext{v}(hb:Ext u v)(h:CV u g):CV v g:=Zh.J h hb
theorem EC.ext{v}(hb:Ext u v)(h:EC u g):EC v g:=QQ.J h hb
theorem QQ.ext{v}{z}(h:QQ u g x y z)(hb:Ext u v):QQ v g x y z:=QQ.J h hb
theorem fj.ext{v}(h:fj u x n)(hb:Ext u v):fj v x n:=h.J hb
theorem zy.ext{v}{n}(h:zy u x n)(hb:Ext u v):zy v x n:=h.J hb
theorem Qa.ext{v}(h:Qa u x p q)(hb:Ext u v):Qa v x p q:=h.J hb
theorem lE.ext{v:H}(h:lE w b c a d e f l cap k g m i o j p r q s u)(hb:Ext u v):lE w b c a d e f l cap k g m i o j p r q s v:=h.J hb
theorem BB{W:H}{z:Value}(b:QQ W g x y z):AT W (Xd g 0 O)=E x/\AT W (Xd g 1 O)=E y/\AT W (Xd g 2 O)=E z:=⟨b.1,b.2.1,b.2.2.1⟩
theorem yZ{W:H}{z u t:Value}(b:QQ W g x y z)(c:QQ W h u v t):AT W (Xd g 0 O)=E x/\AT W (Xd g 1 O)=E y/\AT W (Xd g 2 O)=E z/\AT W (Xd h 0 O)=E u/\AT W (Xd h 1 O)=E v/\AT W (Xd h 2 O)=E t:=⟨b.1,b.2.1,b.2.2.1,BB c⟩
end
section
theorem OH (c):kaa [] [c]=([],[],false):=rfl
theorem IG (c)(r:U_):kaa (c::r) [c]=([],r,true):=by
 have h:kao (c::r) [c]=0:=by simp[kao,List.isPrefixOf]
 simp[kaa,h]
theorem FN {c x}(a:x≠c)(r:U_):kaa (x::r) [c]=(x::(kaa r [c]).1,(kaa r [c]).2.1,(kaa r [c]).2.2):=by
 have h:kao (x::r) [c]=if kao r [c]=-1 then -1 else kao r [c]+1:=by simp only[kao];(have hp:([c]:U_).isPrefixOf (x::r)=false:=by simp[List.isPrefixOf,Qr a]);simp[hp]
 by_cases a:kao r [c]=-1;{rw[zQ a]at h;simp[kaa,h,a]};rw[zO a]at h;have a:=Lib.index_ge r [c];have hp:0<=kao r [c]:=om;obtain⟨k,hk⟩:∃k:Nat,kao r [c]=(k):=⟨(kao r [c]).toNat,om⟩;rw[hk]at h hp;have a:kao (x::r) [c]=((k+1:Nat):Int):=om;simp[kaa,a,hk];omega
theorem Fi (c)(l:U_):Y (kaa l [c]).1+Y (kaa l [c]).2.1+(if (kaa l [c]).2.2=true then 1 else 0)=Y l:=by induction l with |nil=>rfl |cons x r a=>by_cases h:x=c;{subst h;rw[IG];simp};rw[FN h];grind
theorem IX {c}{l:U_}(h:(kaa l [c]).2.2=false):kaa l [c]=(l,[],false):=by induction l with |nil=>rfl |cons x r b=>by_cases a:x=c;{subst a;rw[IG]at h;grind};rw[FN a]at h⊢;grind
namespace T
def part (c:UInt8)(l:U_):List ByteArray×U_:=l.foldl (λd x=>if x=c then(d.1 ++ [⟨BY d.2⟩],[])else(d.1,d.2 ++ [x])) ([],[])
theorem o6 (c)(l)(x):part c (l ++ [x])=if x=c then((part c l).1 ++ [⟨BY (part c l).2⟩],[])else((part c l).1,(part c l).2 ++ [x]):=by simp[part,List.foldl_append]
theorem rT (c)(l):Y (part c l).1+Y (part c l).2<=Y l:=by
 have h:∀(l:U_) (d:List ByteArray×U_),Y (l.foldl (λd x=>if x=c then(d.1 ++ [(⟨BY d.2⟩:ByteArray)],[])else(d.1,d.2 ++ [x])) d).1+Y (l.foldl (λd x=>if x=c then(d.1 ++ [(⟨BY d.2⟩:ByteArray)],[])else(d.1,d.2 ++ [x])) d).2<=Y d.1+Y d.2+Y l:=by intro l;induction l with |nil=>grind |cons x r a=>grind
 have:=h l ([],[]);simpa[part]using this
theorem Cs (c)(l:U_):∀ds (a:U_),
 l.foldl (λd x=>if x=c then(d.1 ++ [(⟨BY d.2⟩)],[])else(d.1,d.2 ++ [x])) (ds,a)=
  if (kaa l [c]).2.2=true then(ds++⟨BY (a++(kaa l [c]).1)⟩::(part c (kaa l [c]).2.1).1,(part c (kaa l [c]).2.1).2)else(ds,a++l):=by
 have f:∀(l:U_) (ds b:List ByteArray) (a:U_),l.foldl (λd x=>if x=c then(d.1 ++ [(⟨BY d.2⟩:ByteArray)],[])else(d.1,d.2 ++ [x])) (ds++b,a)= (ds++(l.foldl (λd x=>if x=c then(d.1 ++ [(⟨BY d.2⟩:ByteArray)],[])else(d.1,d.2 ++ [x])) (b,a)).1,(l.foldl (λd x=>if x=c then(d.1 ++ [(⟨BY d.2⟩:ByteArray)],[])else(d.1,d.2 ++ [x])) (b,a)).2):=by intro l;induction l with |nil=>grind |cons x r e=>grind
 induction l with |nil=>intro ds a;simp[OH] |cons x r e=>intro ds a;rw[IW];by_cases h:x=c;{subst h;rw[IG];simp only[uG,ZR];have:=f r (ds ++ [⟨BY a⟩]) [] [];rw[ZR]at this;rw[this];simp[part]};simp only[h,DD];rw[e,FN h];simp only[Zl,ZZ,Q7]
theorem vf (c)(l):part c l=if (kaa l [c]).2.2=true then(⟨BY (kaa l [c]).1⟩::(part c (kaa l [c]).2.1).1,(part c (kaa l [c]).2.1).2)else([],l):=by have:=Cs c l [] [];simpa[part]using this
end T
variable {F:N_}{S W a g r t u v:Nat}{l:U_}
def jO (l:U_):Bool:=decide (l= [60,61])||(decide (l= [62,61])||decide (l= [61]))
def sN:Nat->U_->List (U_)
 |0,_=> []
 |f+1,l=>(kaa l [32]).1::(if (kaa l [32]).2.2=true then sN f (kaa l [32]).2.1 else [])
def Zb (l:U_):List (U_):=sN (Y l+1) l
theorem vi(f):∀l,Y l<f->(sN f l).map (λx=>(⟨BY x⟩))=(T.part 32 l).1 ++ [⟨BY (T.part 32 l).2⟩]:=by induction f with |zero=>omega |succ f c=>intro l h;rw[T.vf,sN];have b:=Fi 32 l;by_cases a:(kaa l [32]).2.2=true;{grind};rw[zO a,zO a,IX g_];rfl
theorem wY(l):(Zb l).map (λx=>(⟨BY x⟩))=(T.part 32 l).1 ++ [⟨BY (T.part 32 l).2⟩]:=vi _ l (Nat.lt_succ_self _)
theorem OU(f):∀l,Y (sN f l)<=Y l+1/\∀x∈sN f l,Y x<=Y l:=by induction f with |zero=>intro l;simp[sN] |succ f d=>intro l;rw[sN];have a:=Fi 32 l;grind
def JA:Nat->U_->List (U_×Bool)
 |0,_=> []
 |f+1,l=>if l= []then []else((kaa l [10]).1,(kaa l [10]).2.2)::JA f (kaa l [10]).2.1
def QW (l:U_):List (U_×Bool):=JA (Y l) l
theorem KB(f):JA f []= []:=by cases f<;>simp[JA]
theorem vO(f):∀l,Y l<=f->(JA f l).map (λx=>((⟨BY x.1⟩),x.2))=
 (T.part 10 l).1.map (λx=>(x,true))++(if (T.part 10 l).2= []then []else [(⟨BY (T.part 10 l).2⟩,false)]):=by induction f with |zero=>intro l h;obtain rfl:l= []:=QZ om;rfl |succ f e=>intro l h;rw[T.vf,JA];by_cases b:l= [];{subst b;rfl};rw[zO b];have d:=Fi 10 l;by_cases a:(kaa l [10]).2.2=true;{grind};have d:=IX (by simpa using a);rw[zO a,d];simp[KB,b]
theorem rH(l):(QW l).map (λx=>((⟨BY x.1⟩),x.2))=
 (T.part 10 l).1.map (λx=>(x,true))++(if (T.part 10 l).2= []then []else [(⟨BY (T.part 10 l).2⟩,false)]):=vO _ l (zh _)
theorem M6(f):∀l,Y (JA f l)<=Y l/\∀x∈JA f l,Y x.1<=Y l:=by induction f with |zero=>intro l;simp[JA] |succ f e=>intro l;rw[JA];by_cases a:l= [];{grind};rw[zO a];have d:=Fi 10 l;have b:=ZC.2 a;have⟨_,b⟩:=e (kaa l [10]).2.1;(have a:Y (kaa l [10]).2.1+1<=Y l:=by by_cases a:(kaa l [10]).2.2=true;{grind};rw[IX g_];grind);grind
def Bi (c:UInt8):Bool:=decide (48<=c.toNat)&&decide (c.toNat<=57)
def Qm (l:U_):Bool:=l.all Bi
def ZE (l:U_):Nat:=l.foldl (λa c=>a*10+(c.toNat-48)) 0
theorem MM(l)(c):ZE (l ++ [c])=ZE l*10+(c.toNat-48):=by simp[ZE,List.foldl_append]
theorem PG{c}(h:Bi c=true):48<=c.toNat/\c.toNat<=57:=by unfold Bi at h;simpa using h
theorem NK(h:Qm l=true)(i)(a:i<Y l):48<=l[i].toNat/\l[i].toNat<=57:=by unfold Qm at h;rw[Zi]at h;exact PG (h _<|zJ a)
theorem OI(l:U_)(k)(h):ZE (l.take (k+1))=ZE (l.take k)*10+(l[k].toNat-48):=by rw[ZQ h,MM]
theorem VG(h:Qm l=true)(k)(d:k<=Y l):ZE (l.take k)<10^k:=by induction k with |zero=>simp[ZE] |succ k a=>have c:=NK h k om;rw[OI l k om,Zv];omega
theorem Mb(h:Qm l=true):ZE l<10^Y l:=by have:=VG h (Y l)<|zh _;rwa [Zx]at this
theorem zqg(x)(b):b.foldl (λa c=>a*10+(c.toNat-48)) x=x*10^Y b+ZE b:=by induction b generalizing x with |nil=>simp[ZE] |cons c b d=>(have e:ZE (c::b)=b.foldl (λa c=>a*10+(c.toNat-48)) (c.toNat-48):=by simp[ZE]);grind
theorem PW(a b):ZE (a++b)=ZE a*10^Y b+ZE b:=by
 have e:ZE (a++b)=b.foldl (λa c=>a*10+(c.toNat-48)) (ZE a):=by simp[ZE,List.foldl_append]
 rw[e,zqg]
theorem WA(s)(w)(hs:s.size<=1099511627776)(h:Qm s.data.toList=true):
 C_ 119 #[gS s] w λe w'=>e=Xa (G true)/\w'=w:=by
 have a:∀i (b:i<s.size),48<=s[i].toNat/\s[i].toNat<=57:=λi b=>NK h i am;go_enter func119,ntmps119;go_wp2;go_loop [6] (λi=>∃k:Nat,k<=s.size/\i=i_ k) (λi=>s.size-(intOf i).toNat);case atStart=>grind
 case round=>obtain⟨k,_,rfl⟩:=hrel;by_cases b:k<s.size;{have c:=(a k b).1;have c:=(a k b).2;go_wp2;go_round;(case rel=>exact⟨k+1,om,g_⟩);case measure=>simp[intOf];omega};go_wp2;go_ret;simp
theorem Yz{l}(h:Qm l=false):∃k,∃c:k<Y l,(l[k].toNat<48\/57<l[k].toNat)/\∀i (b:i<k),48<=(l[i]' om).toNat/\(l[i]' om).toNat<=57:=by induction l with |nil=>simp[Qm]at h |cons d l g=>by_cases a:Bi d=true;{(have d:Qm l=false:=by unfold Qm at h⊢;rw[List.all_cons,a,DV]at h;exact h);have⟨k,c,e,f⟩:=g d;refine⟨k+1,by grind,g_,?_⟩;intro i b;cases i with |zero=>exact PG a |succ i=>grind};refine⟨0,sp,?_,λi b=>om⟩;unfold Bi at a;grind
theorem Wy(s)(w)(hs:s.size<=1099511627776)(h:Qm s.data.toList=false):
 C_ 119 #[gS s] w λe w'=>e=Xa (G false)/\w'=w:=by
 have⟨n,a,b,c⟩:=Yz h;have d:n<s.size:=am;have f:s[n].toNat<48\/57<s[n].toNat:=b;have a:∀i (d:i<n),48<=(s[i]' om).toNat/\(s[i]' om).toNat<=57:=λi d=>c i d;go_enter func119,ntmps119;go_wp2;go_loop [6] (λi=>∃k:Nat,k<=n/\i=i_ k) (λi=>n-(intOf i).toNat);case atStart=>grind
 case round=>obtain⟨k,_,rfl⟩:=hrel;by_cases b:k<n;{have c:k<s.size:=om;have c:=(a k b).1;have c:=(a k b).2;have a:(48)<=(s[k].toNat:Int):=om;have a:(s[k].toNat:Int)<=57:=om;go_wp2;go_round;(case rel=>exact⟨k+1,om,g_⟩);case measure=>simp[intOf];omega};have a:k=n:=om;subst a;rcases f with a|a;{have a:(s[k].toNat:Int)<48:=om;go_wp2;go_ret;simp};go_wp2;go_ret;exact⟨rfl,rfl⟩
theorem zom(s)(w)(hs:s.size<=9)(h:Qm s.data.toList=true):
 C_ 122 #[gS s] w λe w'=>e=Xa (it .u32 (ZE s.data.toList))/\w'=w:=by
 have b:∀i (a:i<s.size),48<=s[i].toNat/\s[i].toNat<=57:=λi a=>NK h i am;have f:∀k (a:k<s.size),ZE _=ZE _*10+(s[k].toNat-48):=λk a=>OI _ k am;have c:=zf b;have g:=zf (λk a=>VG h k<|by omega);go_enter func122,ntmps122;go_wp2;go_loop [3,7] (λv i=>∃k:Nat,k<=s.size/\i=i_ k/\v=it .u32 (ZE (s.data.toList.take k):Nat)) (λ_ i=>s.size-(intOf i).toNat);case atStart=>exact⟨0,qo _,rfl,rfl⟩
 case round=>obtain⟨k,a,rfl,rfl⟩:=hrel;by_cases b:k<s.size;{have d:=(c.out k b).1;have d:=(c.out k b).2;have c:(48)<=(s[k].toNat:Int):=om;have c:(s[k].toNat:Int)<=57:=om;have c:=g.out k a;have d:10^k<=10^8:=ZD om om;have a:ZE (s.data.toList.take k)<100000000:=om;have a:=zf<|(zf f).out k b;generalize ZE (s.data.toList.take k)=x at *;go_wp2;go_round;(case rel=>exact⟨k+1,om,g_,by rw[a.out];grind⟩);case measure=>simp[intOf];omega};have b:k=s.size:=om;(have a:Hid (ZE (s.data.toList.take k)=ZE s.data.toList):=by rw[Hid,zP so]);clear b;go_wp2;go_ret;exact⟨sZ<|by rw[a.out],rfl⟩
open Go
theorem zon:∀x,0<x->x<2^64->1<=Lib.bitLen x/\2^Lib.bitLen x<=2*x/\x<2^Lib.bitLen x:=by intro x;induction x using Nat.strongRecOn with |_ x b=>intro a h;rw[Lib.bitLen_half x om h];by_cases a:x/2=0;{rw[a,show Lib.bitLen 0=0 by decide];omega};have⟨_,_,_⟩:=b (x/2) om om om;grind
theorem znu{x}(h0:0<x)(h:x<4294967296):∃s:Nat,s<=31/\(32-(Lib.bitLen x))=(s:Int)/\2147483648<=2^s*x/\2^s*(x+1)<=4294967296:=by
 have⟨h1,h2,h3⟩:=zon x h0 om;have h4:Lib.bitLen x<=32:=by rcases Qc 32 (Lib.bitLen x)with h5|h5;{have:=ZD (n:=2) dc (show 33<=Lib.bitLen x by omega);omega};omega
 generalize Lib.bitLen x=b at *;obtain⟨s,rfl⟩:∃s,b=32-s:=⟨32-b,om⟩;have hp:2^s*2^(32-s)=4294967296:=by rw[<-Q6,show s+(32-s)=32 by omega]
 refine⟨s,om,om,?_,?_⟩;{have:2^s*2^(32-s)<=2^s*(2*x):=Zr _ h2;grind};have:2^s*(x+1)<=2^s*2^(32-s):=Zr _ h3;omega
theorem Lw{es}(b:fT es)(a:Y es=t+2)(h1:2147483648<=S*es.getD (t+1) 0)(h2:S*(es.getD (t+1) 0+1)<=4294967296):
 2147483648*4294967296^(t+1)<=S*val es/\S*val es<4294967296^(t+2):=by have e:=fI es (t+1) om;rw[zP om]at e;have a:=gd<|b.take<|t+1;rw[zX,show min _ _=t+1 by omega]at a;generalize es.getD (t+1) 0=x at *;generalize val (es.take<|t+1)=r at *;rw[e,Zv _<|t+1];generalize 4294967296^(t+1)=P at *;rw[Zs];have b:2147483648*P<=S*x*P:=zZ _ h1;have b:S*(x+1)*P<=4294967296*P:=zZ _ h2;have b:S*(P*x)=S*x*P:=g_;have b:S*(x+1)*P=S*x*P+S*P:=g_;have b:0<S:=g_;have c:=Nat.mul_lt_mul_of_pos_left a b;omega
theorem XQ(a:fT F)(c:lC F)(b:val F=v)(h1:2147483648*4294967296^(t+1)<=v)(h2:v<4294967296^(t+2)):
 F.length=t+2/\2147483648<=F.getD (t+1) 0:=by
 have d:=c.len (by rw[b];exact h2);have c:=gd a;have c:t+1<Y F:=by rcases Qc (t+1) (Y F) with h|h;{omega};have:=gK h;omega
 refine⟨om,?_⟩;have e:=fI F _ c;rw[zP om,b]at e;have b:=gd<|a.take<|t+1;rw[zX,show min _ _=t+1 by omega]at b;rcases Qc (F.getD (t+1) 0) 2147483648 with h|h;{exfalso;generalize F.getD (t+1) 0=x at *;generalize val (F.take<|t+1)=r at *;generalize 4294967296^(t+1)=P at *;have:P*x<=P*2147483647:=Zr _ om;omega};omega
theorem znv{L}{M m}(e:Y L=M+1)(d:t+2<=M)(a:val L=S*m)(hm:m<4294967296^M)(b:0<S)(c:S<=2147483648)(h1:2147483648*4294967296^(t+1)<=v):
 val (L.drop (M-t-1))<v:=by
 have e:=fy L (M-t-1) om;rw[a]at e;have hp:4294967296^M=4294967296^(M-t-1)*4294967296^(t+1):=by rw[<-Q6];congr 1;omega
 have a:=Nat.mul_lt_mul_of_pos_left hm b;rw[hp]at a;have a:=pow_pos<|M-t-1;generalize val (L.drop<|M-t-1)=D at *;generalize 4294967296^(M-t-1)=P at *;generalize 4294967296^(t+1)=R at *;have a:P*D<P*(S*R):=g_;have b:=RV a;have a:S*R<=2147483648*R:=zZ _ c;omega
theorem zqh{m n q}(d:0<S)(h:S*m=r+S*n*q)(g:r<S*n):q=m/n/\r/S=m%n:=by
 have f:0<n:=g_;have e:S ∣ r:=by have a:S ∣ S*m:=Nat.dvd_mul_right _ _;rw[h]at a;exact(Nat.dvd_add_left<|Nat.dvd_trans (Nat.dvd_mul_right S n)<|Nat.dvd_mul_right _ _).1 a
 obtain⟨c,rfl⟩:=e;have a:m=c+n*q:=by (have:S*m=S*(c+n*q):=by rw[h,Zs,Zt]);exact Nat.eq_of_mul_eq_mul_left d this
 have b:=RV g;subst a;rw[Nat.mul_div_cancel_left _ d,Rs _ _ f,jH b,qt,Js,Jk b];omega
theorem znw{ds:N_}{high lead b:Nat}(a0:Y ds=t+3)(W:Y F=t+2)(i:fT ds)(r:fT F)(C:val ds=u)(J:val F=v)(B:2147483648<=F.getD (t+1) 0)(I:u<v*4294967296)(z:high=ds.getD (t+1) 0+4294967296*ds.getD (t+2) 0)(j:lead=F.getD (t+1) 0)(x:a=high*4294967296+ds.getD t 0)(h:b=lead*4294967296+F.getD t 0)(s:∀Q,Q<=high/lead->(∀k,a<k*b->Q<k)->Q<4294967296->Q<=g)(hg:g<4294967296)(y:g*b<=a):u/v<=g/\g<=u/v+1:=by have e:=fI F (t+1) om;rw[zP om,fI F t om,J,<-j]at e;have c:=fI ds (t+2) om;rw[zP om,fI _ _ om,fI _ t om,C]at c;have M:=gd<|r.take t;rw[zX,show min t _=t by omega]at M;have N:=gd<|i.take t;rw[zX,show min t _=t by omega]at N;have y0:=i.get t;rw[<-j]at B;have K:=pow_pos t;rw[Zv]at e c;rw[show t+2=t+1+1 by omega,Zv,Zv]at c;generalize 4294967296^t=P at *;generalize val (F.take t)=m at *;generalize val (ds.take t)=o at *;generalize ds.getD t 0=Z at *;generalize ds.getD (t+1) 0=n at *;generalize ds.getD (t+2) 0=X at *;generalize F.getD t 0=l at *;have f:v=m+b*P:=g_;have U:u=o+a*P:=g_;have d:0<v:=om;have D:u<(a+1)*P:=g_;constructor;{refine s _ ?_ (λk A=>WU om d D A rfl)<|(QC d).2 om;refine zmn (P:=4294967296*P) om ?_ d ?_ om rfl;{grind};have p:a+1<=(high+1)*4294967296:=om;have q:(a+1)*P<=_*4294967296*P:=zZ _ p;grind};exact zmo (P:=P) g_ d om y om rfl
theorem oG{ds}(e:Y ds=t+3)(a:Y F=t+2)(b:fT F)(c:val ds=u)(d:val F=v)(f:u<v*4294967296):ds.getD (t+2) 0<=F.getD (t+1) 0:=by
 have a:=fI F (t+1) om;rw[zP om,d]at a;have a:=fI ds (t+2) om;rw[zP om,c]at a;have c:=gd<|b.take<|t+1;rw[zX,show min _ _=t+1 by omega]at c;rw[show t+2=t+1+1 by omega,Zv]at a;have a:=pow_pos<|t+1;generalize 4294967296^(t+1)=P at *;generalize val (F.take<|t+1)=a at *;generalize val (ds.take<|t+1+1)=c at *;generalize ds.getD (t+1+1) 0=X at *;generalize F.getD (t+1) 0=y at *;have a:4294967296*P*X<4294967296*P*(y+1):=g_
 have:=RV a;omega
theorem Y1{c X}(d:a<W)(h:a+W*c=W+X)(b:X<W):a=X:=by rcases Qc c 2 with b|b;{rcases Qd c with d|d;{grind};grind};have:W*2<=W*c:=Zr _ b;omega
theorem zop{V:Nat}(d:0<V)(h1:u/V<=g)(h2:g<=u/V)(e:a<W)(h:a+g*V=u+W*r)(i:u<W):r=0/\u=g*V+a/\a<V:=by have c:=Nat.le_antisymm h2 h1;have b:=Rx u V;rw[<-c]at b;obtain⟨f,_⟩:=znn e h b i;have b:=Nat.lt_div_mul_add d (a:=u);grind
theorem Wf{V c b:Nat}(d:0<V)(h1:g=u/V+1)(j:a<W)(h:a+g*V=u+W*r)(e:u<W)(i:V<W):0<r/\1<=g/\(b<W->b+W*c=a+V->u=(g-1)*V+b/\b<V):=by have e:=Nat.lt_div_mul_add d (a:=u);have d:=Rx u V;obtain⟨k,hk⟩:∃k,u/V=k:=⟨_,rfl⟩;rw[hk]at e d h1;subst h1;rw[Zg,Jv]at h;obtain⟨d,e⟩:=XO (f:=k+1) j (by rw[Zg,Jv];exact h) g_ g_ i;rw[Zg,Jv]at e;refine⟨d,om,λd e=>?_⟩;have e:=Y1 (c:=c) (X:=u-k*V) d om om;grind
end
theorem MK (s)(w):
 C_ 284 #[gS s] w λe w'=>e=Xa (.func (.func 330) #[] #[p_ w.heap.size 0])/\w'=AI w (cl #[gS s] 9):=by go_enter func284,ntmps284;go_wp2;go_ret;simp
theorem Oe (s t:U_)(q)(w)(h:AT w (Xd q 0 O)=E (gS ⟨BY t⟩)):
 C_ 330 #[gS ⟨BY s⟩,p_ q 0] w λe w'=>e=Xa (G (decide (s=t)))/\w'=w:=by go_enter func330,ntmps330;go_wp2;go_ret;refine⟨RL ?_,rfl⟩;grind
theorem Y4 (a)(w):
 C_ 285 #[pn (E a)] w λe w'=>e=Xa (.func (.func 331) #[] #[p_ w.heap.size 0])/\w'=AI w (cl #[pn (E a)] 407):=by go_enter func285,ntmps285;go_wp2;go_ret;simp
def yz (s:U_):Nat:=if Y s=1 then(if 49<=(s.getD 0 0).toNat/\(s.getD 0 0).toNat<=52 then(s.getD 0 0).toNat-48 else 0)else 0
theorem zjV (s)(q c)(z)(w)(h:AT w (Xd q 0 O)=E (p_ c 0))(g:AT w (Xd c 0 O)=E (i_ z))(a:w.frozen? (Xd c 0 O)=false)(hs:Y s<=1000000):
 C_ 331 #[gS ⟨BY s⟩,p_ q 0] w λe w'=>e=Xa (G (decide (yz s≠0)))/\(w'=w\/w'=w.drew.setCell (Xd c 0 O) (i_ (yz s)))/\(yz s≠0->AT w' (Xd c 0 O)=E (i_ (yz s))):=by by_cases d:Y s=1;{obtain⟨x,rfl⟩:∃x,s= [x]:=List.length_eq_one_iff.1 d;by_cases b:49<=x.toNat/\x.toNat<=52;{(have a:yz [x]=x.toNat-48:=by simp[yz,b]);have f:({ data:=#[x] }:ByteArray)[0]'(by simp[ByteArray.size])=x:=rfl;rw[a];obtain⟨n,hn⟩:∃n,x.toNat=n:=⟨_,rfl⟩;rw[hn]at b⊢;(have i:IntKind.u8.wrap (n-48)=((n-48:Nat):Int):=by obtain rfl|rfl|rfl|rfl:n=49\/n=50\/n=51\/n=52:=om;all_goals rfl);go_enter func331,ntmps331;go_wp2;go_region;(all_goals go_wp2);(all_goals go_ret);all_goals refine⟨RL so,.inr rfl,λ_=>zN _ _ _ g⟩};(have a:yz [x]=0:=by simp[yz,b]);rw[a];have f:({ data:=#[x] }:ByteArray)[0]'(by simp[ByteArray.size])=x:=rfl;go_enter func331,ntmps331;go_wp2;all_goals first |(exfalso;omega) |(go_ret;simp)};(have a:yz s=0:=by simp[yz,d]);rw[a];go_enter func331,ntmps331;go_wp2;go_ret;simp
theorem jn (a)(w):
 C_ 286 #[pn (E a)] w λe w'=>e=Xa (.func (.func 332) #[] #[p_ w.heap.size 0])/\w'=AI w (cl #[pn (E a)] 410):=by go_enter func286,ntmps286;go_wp2;go_ret;simp
theorem zfK (a)(w):
 C_ 288 #[pn (E a)] w λe w'=>e=Xa (.func (.func 334) #[] #[p_ w.heap.size 0])/\w'=AI w (cl #[pn (E a)] 415):=by go_enter func288,ntmps288;go_wp2;go_ret;simp
theorem Yy (s)(q c)(z)(w)(h:AT w (Xd q 0 O)=E (p_ c 0))(b:AT w (Xd c 0 O)=E (gS z))(f:w.frozen? (Xd c 0 O)=false):
 C_ 334 #[gS ⟨BY s⟩,p_ q 0] w λe w'=>e=Xa (G (jO s))/\Wr (λk=>k=c) w w'/\(jO s=true->∃w1,b_ w w1/\w'=w1.setCell (Xd c 0 O) (gS ⟨BY s⟩)):=by
 go_enter func334,ntmps334;go_wp2;obtain⟨a,hw0⟩:∃a,AI w (cl #[gS ⟨#[60,61]⟩,gS ⟨#[62,61]⟩,gS ⟨#[61]⟩] 175)=a:=⟨_,rfl⟩;have g:b_ w a:=by rw[<-hw0];exact(qf _ _).alloc (zh _) _
 have d:AT a (y_ w 0)=E (gS ⟨#[60,61]⟩):=by rw[<-hw0];simp
 have d:AT a (y_ w 1)=E (gS ⟨#[62,61]⟩):=by rw[<-hw0];simp
 have d:AT a (y_ w 2)=E (gS ⟨#[61]⟩):=by rw[<-hw0];simp
 have d:c<IS (IT w):=zw b;have i:q<IS (IT w):=zw h;have j:=(g.cell i).trans h;have i:=(g.cell d).trans b;have b:=(g.frozen d).trans f;try rw[hw0]
 have b:∀x:U_,s=x->jO x=true->Wr (λk=>k=c) w (AS a (Xd c 0 O)<|gS ⟨BY x⟩)/\(jO s=true->∃w1,b_ w w1/\AS a (Xd c 0 O) (gS ⟨BY x⟩)=w1.setCell (Xd c 0 O) (gS ⟨BY s⟩)):=by intro x d _;subst d;exact⟨(Xh (T:=λk=>k=c) g).setCell (p:=(Xd c 0 O)) rfl _,λ_=>⟨a,g,rfl⟩⟩
 have i:=zf b;clear b hw0;go_loopw [8] (λb wr=>∃k:Nat,k<=3/\b=i_ (k:Int)/\wr=a/\Hid ((0<k->s≠ [60,61])/\(1<k->s≠ [62,61])/\(2<k->s≠ [61]))) (λb _=>3-(intOf b).toNat);case atStart=>exact⟨0,om,rfl,rfl,om,om,om⟩
 case round=>obtain⟨k,_,rfl,rfl,f⟩:=hrel;obtain rfl|rfl|rfl|rfl:k=0\/k=1\/k=2\/k=3:=om;{go_wp2;{rename_i b;have a:s= [60,61]:=g_;(have d:jO s=true:=by rw[a];rfl);go_ret;exact⟨by rw[d];rfl,i.out _ a rfl⟩};rename_i b;have a:s≠ [60,61]:=g_;refine⟨⟨1,om,rfl,trivial,?_⟩,by simp[intOf]⟩;exact⟨λ_=>a,om,om⟩};{go_wp2;{rename_i b;have a:s= [62,61]:=g_;(have d:jO s=true:=by rw[a];rfl);go_ret;exact⟨by rw[d];rfl,i.out _ a rfl⟩};rename_i b;have a:s≠ [62,61]:=g_;refine⟨⟨2,om,rfl,trivial,?_⟩,by simp[intOf]⟩;exact⟨λ_=>f.out.1 om,λ_=>a,om⟩};{go_wp2;{rename_i b;have a:s= [61]:=g_;(have d:jO s=true:=by rw[a];rfl);go_ret;exact⟨by rw[d];rfl,i.out _ a rfl⟩};rename_i b;have a:s≠ [61]:=g_;refine⟨⟨3,om,rfl,trivial,?_⟩,by simp[intOf]⟩;exact⟨λ_=>f.out.1 om,λ_=>f.out.2.1 om,λ_=>a⟩};(have d:jO s=false:=by simp[jO,f.out.1 om,f.out.2.1 om,f.out.2.2 om]);go_wp2;go_ret;exact⟨by rw[d];rfl,Xh g,λh=>g_⟩
def ZM (v:Value):Prop:=∀n,v≠it .u32 n
def qK (w:H)(k:Nat):Prop:=(∃o,w.heap[k]? =E o/\o.isCells=true)/\∀o v,AT w (Xd k o O)=E v->∀n,v≠it .u32 n
theorem zE {w}{g}{cs:W_}{t}{a}(h:w.heap[g]? =E (cl cs t a))(c:∀v∈cs.toList,ZM v):qK w g:=by refine⟨⟨_,h,rfl⟩,λo v b n=>?_⟩;rw[ze w g o _ t a h]at b;exact c v g_ n
theorem qK.block {w}{g}{cs:W_}{t}{a}(c:qK w g)(h:w.heap[g]? =E (cl cs t a)):∀v∈cs.toList,ZM v:=by intro v d;obtain⟨j,b,rfl⟩:=Array.mem_iff_getElem.1 (g_:v∈cs);apply c.2 j _;rw[ze w g j _ t a h,qD b]
theorem Wd {z:W_}{k}(c:∀u∈z.toList,ZM u):∀u∈(Builtin.zeroCells z k).toList,ZM u:=by intro u a;simp[Builtin.zeroCells]at a;obtain⟨j,b,rfl⟩:=a;have hp:0<z.size:=g_;have hm:j%z.size<z.size:=Z0 _ hp;refine c _ ?_;grind
section
variable {P:Program} (w:World)
theorem zlB (t ty:TypeId)(base:Nat)(e:TypeId)(i:TypeInfo)(z:Value)(size bytes:Nat)(C:P.underlying t=E (.slice e))(x:P.info? e=E i)(I:i.zero=E z)
 (l:i.size=size) (h:i.bytes=bytes) (q:z.cells.size=size) (o:0<size)
 (v:Value) (n:Nat) (xs:List Value) (B:w.ownsRow base e size v n xs)
 (k:Addr) (m c:Nat) (d:List Value) (p:Y d=m*size) (y:∀j u,d[j]? =E u->AT w (k.add j)=E u) (h1:∀u∈d,u.oneCell'=true)
 (hm:0<m) (f:n+m<=maxLen) (D:(n+m)*bytes<=140737488355328)
 (J:∀u∈z.cells.toList,ZM u) (A:∀u∈d,ZM u) (M:∀g,No v=E g->qK w g) {b:Value} {w':H}
 (a:(Builtin.append_ #[t,t] ty #[v,V (E k) m c]).run P w= .ok b w'):∀g,No b=E g->qK w' g:=by subst l;subst h;have b:n+m<=9223372036854775807:=am;rcases B.2 with ⟨rfl,rfl⟩|⟨g,q,r,rfl,_,f,_,_,K,N⟩;{have o:=run_append_nil w t ty e i z C x I k m c d p y om om g_;rw[o]at a;simp only[J1]at a;obtain⟨rfl,rfl⟩:=a;intro g f;simp[Value.ownBlock]at f;subst f;refine zE (zC _ _) ?_;intro u b;rw[Pm,zU]at b;rcases b with h|h;{exact A u om};exact Wd J u h};have s:=(M g rfl).block f;by_cases l:n+m<=q;{(have M:n*i.size+Y d<=r.size:=by rw[p,K,<-Zg];exact zZ _ l);have o:=run_append_room w t ty e i C x g n q r f k m c d p y h1 l M;rw[o]at a;simp only[J1]at a;obtain⟨rfl,rfl⟩:=a;intro K l;simp[Value.ownBlock]at l;subst l;refine zE (setRow_heap w g r _ e _ f) ?_;grind};have f:=B.cells (g:=g) rfl;have o:=run_append_grow w t ty e i z C x I ⟨g,0,O⟩ n q _ B.1 f k m c d p y om om<|growslice_fits om D;rw[o]at a;simp only[J1]at a;obtain⟨rfl,rfl⟩:=a;intro K l;simp[Value.ownBlock]at l;subst l;refine zE (zC _ _) ?_;intro u b;rw[Pm,Pm,zU,zU]at b;rcases b with (h|h)|h;{exact s u (ZY (by rw[N];omega))};{exact A u om};exact Wd J u h
theorem P9 {o:Oper}{a}{K}{Q}(s x)(t)
 (ho:o.op= .call { callee:= .builtin .append,args:=#[s,x],argTypes:=#[t,t] })
 (base) (e) (i) (z) (size bytes) (I:P.underlying t=E (.slice e)) (q:P.info? e=E i) (J:i.zero=E z)
 (C:i.size=size) (l:i.bytes=bytes) (M:z.cells.size=size) (D:0<size)
 (v) (n) (xs) (hs:a.eval s=v) (A:w.ownsRow base e size v n xs)
 (d) (m c) (b) (Z:a.eval x=V (E d) m c) (r:Y b=m*size) (y:∀j u,b[j]? =E u->AT w (d.add j)=E u) (h1:∀u∈b,u.oneCell'=true)
 (hm:0<m) (k:n+m<=maxLen) (p:(n+m)*bytes<=140737488355328) (W:base<=IS (IT w)) (f) (U:IS (IT w)=f)
 (a0:∀u∈z.cells.toList,ZM u) (X:∀u∈b,ZM u) (F:∀g,No v=E g->qK w g)
 (h:∀g cap w',w'.ownsRow base e size (V (E (Xd g 0 O)) (n+m) cap) (n+m) (xs++b)->w.grownBy w' (No v)->(No v=E g\/g=f)->g<IS (IT w')->qK w' g->K (a.put o.dst (V (E (Xd g 0 O)) (n+m) cap)) w'):o.wp P a w K Q:=by have⟨g,cap,w',B,N,R,S,T⟩:=run_append_lies w t o.type _ e i z _ _ I q J C l M D v n _ A d m c b r y h1 hm k p W f U;have f:=zlB w t _ _ e i z _ _ I q J C l M D v n _ A d m c b r y h1 hm k p a0 X F B g rfl;unfold Oper.wp execOp;simp only[ho,resolve,invoke,builtin,Sem.run_bind,Sem.run_pure,Result.andThen_ok,List.map_toArray,Zk,Ed,hs,Z,B];exact h g _ _ N R S T f
theorem JI {ops}{rest}{o}{a}{Q}(p:o.guard=O)(s x)(t)
 (ho:o.op= .call { callee:= .builtin .append,args:=#[s,x],argTypes:=#[t,t] })
 (base) (e) (i) (z) (size bytes) (M:P.underlying t=E (.slice e)) (A:P.info? e=E i) (S:i.zero=E z)
 (J:i.size=size) (r:i.bytes=bytes) (U:z.cells.size=size) (K:0<size)
 (v) (n) (xs) (hs:a.eval s=v) (I:w.ownsRow base e size v n xs)
 (f) (m c) (b) (R:a.eval x=V (E f) m c) (B:Y b=m*size) (C:∀j u,b[j]? =E u->AT w (f.add j)=E u) (h1:∀u∈b,u.oneCell'=true)
 (hm:0<m) (k:n+m<=maxLen) (y:(n+m)*bytes<=140737488355328) (q:base<=IS (IT w)) (d) (l:IS (IT w)=d)
 (T:∀u∈z.cells.toList,ZM u) (D:∀u∈b,ZM u) (N:∀g,No v=E g->qK w g)
 (h:∀g cap w',w'.ownsRow base e size (V (E (Xd g 0 O)) (n+m) cap) (n+m) (xs++b)->w.grownBy w' (No v)->(No v=E g\/g=d)->g<IS (IT w')->qK w' g->wpList P ops Q rest (a.put o.dst (V (E (Xd g 0 O)) (n+m) cap)) w'):wpList P ops Q (o::rest) a w:=wpList_plain p λ_ p=>P9 w s x t ho base e i z size bytes M A S J r U K v n xs hs I f m c b R B C h1 hm k y q d l T D N λg cap w' b d f k l=>p _ _ (h g cap w' b d f k l)
theorem QM {ops}{o}{a}{K}{Q}{k}(A:o.guard=O)(s x)(t)
 (ho:o.op= .call { callee:= .builtin .append,args:=#[s,x],argTypes:=#[t,t] })
 (base) (e) (i) (z) (size bytes) (R:P.underlying t=E (.slice e)) (B:P.info? e=E i) (U:i.zero=E z)
 (M:i.size=size) (r:i.bytes=bytes) (X:z.cells.size=size) (N:0<size)
 (v) (n) (xs) (hs:a.eval s=v) (J:w.ownsRow base e size v n xs)
 (f) (m c) (b) (T:a.eval x=V (E f) m c) (C:Y b=m*size) (D:∀j u,b[j]? =E u->AT w (f.add j)=E u) (h1:∀u∈b,u.oneCell'=true)
 (hm:0<m) (l:n+m<=maxLen) (y:(n+m)*bytes<=140737488355328) (q:base<=IS (IT w)) (d) (p:IS (IT w)=d)
 (W:∀u∈z.cells.toList,ZM u) (I:∀u∈b,ZM u) (S:∀g,No v=E g->qK w g)
 (h:∀g cap w',w'.ownsRow base e size (V (E (Xd g 0 O)) (n+m) cap) (n+m) (xs++b)->w.grownBy w' (No v)->(No v=E g\/g=d)->g<IS (IT w')->qK w' g->K (a.put o.dst (V (E (Xd g 0 O)) (n+m) cap)) w'):
 if kan o (yielded ops a.tmps)=true then Oper.wp P o a w K Q else k:=by
 have k:kan o (yielded ops a.tmps)=true:=by simp[kan,A]
 rw[zQ k];exact P9 w s x t ho _ e i z _ _ R B U M r X N v n _ hs J f m c b T C D h1 hm l y q d p W I S h
end
section
attribute [local go_sem] zD zW qJ
variable {k n:Nat}{x:Nat->Nat->Value}
def yw (b sz n:Nat):List (W_):=(kai n).map λi=>#[p_ b (i*sz)]
theorem MO{b a}(h:k<n):(yw b a n)[k]? =E #[p_ b (k*a)]:=by simp[yw,h]
theorem ji(b a n):Y (yw b a n)=n:=by simp[yw]
theorem qW{f:Nat}{a}{c}(h:Tryz.prog.funcs[f]? =E a)(b:(a.name == "runtime.NumGoroutine")=false)(hb:a.body=E c):∀args w,(callFunc f args).run pg w= .ok (.enter f args) w:=Go.Proofs.enters_of h b hb
def KH (x:Nat->Nat->Value)(n:Nat):List (W_):=(kai n).map λi=>#[Value.agg #[x i 0,x i 1,x i 2,x i 3,x i 4,x i 5]]
theorem Kz(h:k<n):(KH x n)[k]? =E #[Value.agg #[x k 0,x k 1,x k 2,x k 3,x k 4,x k 5]]:=by simp[KH,h]
theorem jJ(x)(n):Y (KH x n)=n:=by simp[KH]
def vF (x:Nat->Nat->Value)(n:Nat):List (W_):=(kai n).map λi=>#[Value.agg #[x i 0,x i 1,x i 2,x i 3]]
theorem Sn(h:k<n):(vF x n)[k]? =E #[Value.agg #[x k 0,x k 1,x k 2,x k 3]]:=by simp[vF,h]
theorem Lr(x)(n):Y (vF x n)=n:=by simp[vF]
def Kj (x:Nat->Nat->Value)(n:Nat):List (W_):=(kai n).map λi=>#[Value.agg #[x i 0,x i 1]]
theorem O5(h:k<n):(Kj x n)[k]? =E #[Value.agg #[x k 0,x k 1]]:=by simp[Kj,h]
theorem L4(x)(n):Y (Kj x n)=n:=by simp[Kj]
theorem mw:(∀(a:A_) b n cap c (e:n<=1000000) (d:0<n->a=E (Xd b 0 O)),rG pg 289 #[p_ c 0] (yw b 6 n) (λW=>AT W (Xd c 0 O)=E (V a n cap)))/\(∀(a:A_) b n cap c (e:n<=1000000) (d:0<n->a=E (Xd b 0 O)),rG pg 290 #[p_ c 0] (yw b 4 n) (λW=>AT W (Xd c 0 O)=E (V a n cap)))/\(∀(a:A_) b n cap c (e:n<=1000000) (d:0<n->a=E (Xd b 0 O)),rG pg 333 #[p_ c 0] (yw b 2 n) (λW=>AT W (Xd c 0 O)=E (V a n cap))):=by refine⟨?_,?_,?_⟩;all_goals intro a b n cap c e d;intro l J a c W a a a f e;have g:=(a 0 c W e).1;have g:=zf a;have j:=zf f;clear f a;(first |(refine tN func289 ntmps289 (h:=?_)) |(refine tN func290 ntmps290 (h:=?_)) |(refine tN func333 ntmps333 (h:=?_)));gi_wp2;gi_loopw [6] (λi wr=>∃(k:Nat) (M:Nat->Prop),i=i_ (k:Int)/\k<=n/\J k M wr) (λi _=>n-(intOf i).toNat);(case atStart=>grind);case round=>obtain⟨k,M,rfl,_,a⟩:=hrel;have c:=(g.out k M _ a).1;by_cases e:k<n;{obtain rfl:=d om;gi_wp2;refine jr (j.out k _ _ _ (MO e) a) ?_ ?_;{rintro f ⟨_,d,c,_⟩;gi_wp2;go_roundw;(case rel=>grind);case measure=>simp[intOf];omega};intro f c;gi_wp2;refine zH (qI rfl _ _ _) rfl ?_;exact⟨⟨_,rfl⟩,.inr ⟨k,by rw[ji];omega,c.2⟩⟩};gi_wp2;go_end0;have c:k=n:=om;subst c;rw[ji];grind
abbrev Vj:=mw.1
abbrev YM:=mw.2.1
abbrev UM:=mw.2.2
theorem nr:(∀v (a:A_) l c (b:v=V a l c) w,C_ 210 #[v] w λe w'=>e=Xa (.func (.func 289) #[] #[p_ w.heap.size 0])/\w'=AI w (cl #[v] 117))/\(∀v (a:A_) l c (b:v=V a l c) w,C_ 212 #[v] w λe w'=>e=Xa (.func (.func 290) #[] #[p_ w.heap.size 0])/\w'=AI w (cl #[v] 118))/\(∀v (a:A_) l c (b:v=V a l c) w,C_ 287 #[v] w λe w'=>e=Xa (.func (.func 333) #[] #[p_ w.heap.size 0])/\w'=AI w (cl #[v] 176)):=by refine⟨?_,?_,?_⟩;all_goals intro v a l c b w;subst b;(first |(go_enter func210,ntmps210) |(go_enter func212,ntmps212) |(go_enter func287,ntmps287));have a:=jR;go_wp2;go_ret;simp
abbrev VD:=nr.1
abbrev zkZ:=nr.2.1
abbrev UI:=nr.2.2
theorem oQ:(∀(x:Nat->Nat->Value) (ao:A_) (b n cap bt:Nat) (hn:n<=1000000) (Bt:0<n->ao=E (Xd b 0 O)),rG pg 209 #[p_ bt 0] (KH x n) (λW=>AT W (Xd bt 0 O)=E (V ao n cap)/\∀i j,i<n->j<6->AT W ⟨b,i*6+j,O⟩=E (x i j)))/\(∀(x:Nat->Nat->Value) (ao:A_) (b n cap bt:Nat) (hn:n<=1000000) (Bt:0<n->ao=E (Xd b 0 O)),rG pg 211 #[p_ bt 0] (vF x n) (λW=>AT W (Xd bt 0 O)=E (V ao n cap)/\∀i j,i<n->j<4->AT W ⟨b,i*4+j,O⟩=E (x i j)))/\(∀(x:Nat->Nat->Value) (ao:A_) (b n cap bt:Nat) (hn:n<=1000000) (Bt:0<n->ao=E (Xd b 0 O)),rG pg 291 #[p_ bt 0] (Kj x n) (λW=>AT W (Xd bt 0 O)=E (V ao n cap)/\∀i j,i<n->j<2->AT W ⟨b,i*2+j,O⟩=E (x i j))):=by refine⟨?_,?_,?_⟩;all_goals intro x ao b n cap bt hn Bt;intro l J Jx M0 W hJ hJx hC hY h0;have hc:=(hC 0 _ W h0).1.1;have HC:=zf hC;have HY:=zf hY;have hm:Tryz.prog.follows .mixedOrders=true:=kr;clear hY hC;(first |(refine Q0 func209 ntmps209 (h:=?_)) |(refine Q0 func211 ntmps211 (h:=?_)) |(refine Q0 func291 ntmps291 (h:=?_)));have hlt:bt<IS (IT W):=zw hc;gi_wp2;(first |(refine(zq.2<|VD _ _ _ _ rfl _).mono ?_) |(refine(zq.2<|zkZ _ _ _ _ rfl _).mono ?_) |(refine(zq.2<|UI _ _ _ _ rfl _).mono ?_));rintro e w1 ⟨rfl,rfl⟩;gi_wp2;have hlt:bt<IS (IT W):=zw hc;(first |(refine FD (Vj _ b n cap _ hn Bt) rfl (qW func289 kr rfl) (λv hv=>?_) (λk M A=>J k M A/\AT A (y_ W 0)=E (.func (.yield l) #[] #[])/\AT A (x_ W 0)=E (V ao n cap)/\¬M W.heap.size/\¬M (IS (IT W)+1)) (λc k A=>c= .ret/\Jx k A) M0 ?hI ?hIx ?hC ?h0 ?round ?done ?stop) |(refine FD (YM _ b n cap _ hn Bt) rfl (qW func290 kr rfl) (λv hv=>?_) (λk M A=>J k M A/\AT A (y_ W 0)=E (.func (.yield l) #[] #[])/\AT A (x_ W 0)=E (V ao n cap)/\¬M W.heap.size/\¬M (IS (IT W)+1)) (λc k A=>c= .ret/\Jx k A) M0 ?hI ?hIx ?hC ?h0 ?round ?done ?stop) |(refine FD (UM _ b n cap _ hn Bt) rfl (qW func333 kr rfl) (λv hv=>?_) (λk M A=>J k M A/\AT A (y_ W 0)=E (.func (.yield l) #[] #[])/\AT A (x_ W 0)=E (V ao n cap)/\¬M W.heap.size/\¬M (IS (IT W)+1)) (λc k A=>c= .ret/\Jx k A) M0 ?hI ?hIx ?hC ?h0 ?round ?done ?stop));(case hI=>rintro k M A B ⟨h1,h2,h3,h4,h5⟩ hk;exact⟨hJ _ _ _ _ h1<|hk.mono so,hk.cell h2,hk.cell h3,h4,h5⟩);(case hIx=>rintro c k A B ⟨h1,h2⟩ hk;exact⟨h1,hJx _ _ _ h2<|hk.mono so⟩);(case hC=>rintro k M A ⟨h1,h2,h3,h4,h5⟩;exact⟨h3,(HC.out k M A h1).2⟩);(case h0=>refine⟨hJ _ _ _ _ h0<|(zn.alloc _ _ _).trans<|zn.alloc _ _ _,?_,?_,?_,?_⟩;{simp};(first |({simp}) |({simp}) |({simp}));{intro h;have:=(HC.out 0 _ W h0).2 _ h;omega};intro h;have:=(HC.out 0 _ W h0).2 _ h;omega);(case round=>rintro l2 k v M A hv ⟨h1,h2,h3,h4,h5⟩;(have hkn:k<n:=by have:=(zo.1 hv).1;rwa [ji]at this);rw[MO hkn]at hv;injection hv with hv;subst hv;have HC2:=zf λi j=>((HC.out k M A h1).1.2 i j);unfold Zz;gi_wp2;refine⟨Xk _ _,λA2 hk2=>?_⟩;have g0:=hk2.cell h2;(first |(have hcs:=λj hj=>hk2.cell<|HC2.out k j hkn hj) |(have hcs:=λj hj=>hk2.cell<|HC2.out k j hkn hj) |(have hcs:=λj hj=>hk2.cell<|HC2.out k j hkn hj));(first |(have c0:AT A2 ⟨b,k*6,O⟩=E _:=hcs 0 om) |(have c0:AT A2 ⟨b,k*4,O⟩=E _:=hcs 0 om) |(have c0:AT A2 ⟨b,k*2,O⟩=E _:=hcs 0 om));have c1:=hcs 1 om;(try have c2:=hcs 2 om);(try have c3:=hcs 3 om);(try have c4:=hcs 4 om);(try have c5:=hcs 5 om);have hj2:=hJ _ _ _ _ h1<|(hk2.trans<|zn.drew _ _).mono so;(first |(have hq_:=N1 l2 0<|HY.out k _ M _ (Kz hkn) hj2;obtain⟨fn,tmps,assign,body,hy,hR⟩:=hq_) |(have hq_:=N1 l2 0<|HY.out k _ M _ (Sn hkn) hj2;obtain⟨fn,tmps,assign,body,hy,hR⟩:=hq_) |(have hq_:=N1 l2 0<|HY.out k _ M _ (O5 hkn) hj2;obtain⟨fn,tmps,assign,body,hy,hR⟩:=hq_));gi_wp2;gi_region_with_o (refine hR.mono<|ij λW3 t hp=>?_);(all_goals clear hR hy);(all_goals gi_wp2);(all_goals (rename_i ht;cases t<;>simp at ht));all_goals first |exact⟨(Xp _ _).trans (hp.out.2 rfl).1,rfl,(hp.out.2 rfl).2⟩ |(obtain⟨hw,M',hj3,hM⟩:=hp.out.1 rfl;have hsz:IS (IT W)+1<IS (IT A2):=zw<|hk2.cell h3;have hsa:=hk2.size;refine⟨(Xp _ _).trans hw,_,⟨hj3,hw.cell h4 g0,hw.cell h5<|hk2.cell h3,λh=>?_,λh=>?_⟩,λy hy=>?_⟩;{rcases hM _ h with h|h;{grind};have:IS (IT A2)<=IS (IT W):=h;omega};{rcases hM _ h with h|h;{grind};have:IS (IT A2)<=IS (IT W)+1:=h;omega};rcases hM y hy with h|h;{grind};exact .inr<|zF hsa h));(first |(case done=>rintro D M A hD ⟨h1,h2,h3,h4,h5⟩ hd;gi_wp2;refine qh hd ?_;refine⟨_,qI rfl _ _ _,⟨_,rfl⟩,.inl ⟨M,?_⟩⟩;rw[jJ];rw[ji]at h1;exact hJ _ _ _ _ h1<|zn.putObj _ (by simp at hD;omega) hd rfl) |(case done=>rintro D M A hD ⟨h1,h2,h3,h4,h5⟩ hd;gi_wp2;refine qh hd ?_;refine⟨_,qI rfl _ _ _,⟨_,rfl⟩,.inl ⟨M,?_⟩⟩;rw[Lr];rw[ji]at h1;exact hJ _ _ _ _ h1<|zn.putObj _ (by simp at hD;omega) hd rfl) |(case done=>rintro D M A hD ⟨h1,h2,h3,h4,h5⟩ hd;gi_wp2;refine qh hd ?_;refine⟨_,qI rfl _ _ _,⟨_,rfl⟩,.inl ⟨M,?_⟩⟩;rw[L4];rw[ji]at h1;exact hJ _ _ _ _ h1<|zn.putObj _ (by simp at hD;omega) hd rfl));(first |(case stop=>rintro D c k A hD hk ⟨rfl,h1⟩ hd;gi_wp2;refine qh hd ?_;refine⟨_,qI rfl _ _ _,⟨_,rfl⟩,.inr ⟨k,?_,hJx _ _ _ h1<|zn.putObj _ (by simp at hD;omega) hd rfl⟩⟩;rw[jJ];rwa [ji]at hk) |(case stop=>rintro D c k A hD hk ⟨rfl,h1⟩ hd;gi_wp2;refine qh hd ?_;refine⟨_,qI rfl _ _ _,⟨_,rfl⟩,.inr ⟨k,?_,hJx _ _ _ h1<|zn.putObj _ (by simp at hD;omega) hd rfl⟩⟩;rw[Lr];rwa [ji]at hk) |(case stop=>rintro D c k A hD hk ⟨rfl,h1⟩ hd;gi_wp2;refine qh hd ?_;refine⟨_,qI rfl _ _ _,⟨_,rfl⟩,.inr ⟨k,?_,hJx _ _ _ h1<|zn.putObj _ (by simp at hD;omega) hd rfl⟩⟩;rw[L4];rwa [ji]at hk));obtain⟨i,hi,rfl⟩:=qP.1 hv;rfl
abbrev Rz:=oQ.1
abbrev zlC:=oQ.2.1
abbrev zjX:=oQ.2.2
end
section
variable {P:Program}{Q:Exit->Act->H->Prop}{a:Act}{l n:Nat}{ops:Array Oper}{w:H}
theorem zlD{row}{args:W_}{w}{R a}(h:Rows P row args w R)(b:∀v w,R v w->a v w):RowsIn (Fence.wide.inRound l) n P row args w a:=by intro c cs _;have⟨v,a,r,s⟩:=h c cs;exact⟨v,a,b v a r,stepsIn_wide.2 s⟩
theorem VT{o:Oper}{a}{K K'}(hK:∀a w,K a w->K' a w){r}(h:o.upon P a K Q r):o.uponIn (Fence.wide.inRound l) n P a K' Q r:=by unfold Oper.upon at h;split at h;{exact hK _ _ h};{exact hK _ _ h};{exact hK _ _ h};{refine⟨(λh=>by cases h),Zq l<|zq.2<|h.mono ?_⟩;grind};{exact⟨(λh=>by cases h),zlD h λ_ _ h=>hK _ _ h⟩};{exact h};exact h.elim
theorem zlE{ops}{i}{K d}{a}{w}(f:∀o∈ops.toList,∀c,o.op≠ .defer c)(e:¬LetsOut Q)(b:∀a w,K a w->d a w)(h:wpOp P ops Q i K a w):wpOpIn (Fence.wide.inRound l) n P ops Q i d a w:=by unfold wpOp at h;unfold wpOpIn;cases ho:ops[i]? with |none=>rw[ho]at h;exact b _ _ h |some o=>rw[ho]at h;simp only at h⊢;have hm:o∈ops.toList:=g_;split;{rename_i d;rw[zQ d]at h;rcases h with h|h;{refine⟨λ_ _=>trivial,?_⟩;rw[Oper.semAt_eq _ _ _<|f o hm];exact VT b h};exact absurd h.2 e};rename_i d;rw[zO d]at h;exact⟨λ_ _=>trivial,b _ _ h⟩
theorem M_{md:Region.Mode}{ops:Array Oper}(e:∀o∈ops.toList,∀c,o.op≠ .defer c)(d:¬LetsOut Q):∀(b:Nat) (f:Array Bool) (a:Act) (w:H),wpAny P md ops Q b f a w->wpAnyIn (Fence.wide.inRound l) n P md ops Q b f a w
 |0,_,_,_,h=>h |b+1,_,_,_,h=>⟨h.1,λi g=>zlE e d (λa w h=>M_ e d b _ a w h) (h.2 i g)⟩
theorem jK{id}{S:H->Prop}(hm:P.follows .mixedOrders=true)(e:ops.toList.all (λo=>match o.op with|.defer _=>false|_=>true)=true)(b:¬LetsOut Q)(c:S w.drew)(h:S w.drew->wpAnyH P .any ops Q S ops.size (kat ops.size false) a w.drew):(Code.region id ops true).wpIn (Fence.wide.inRound l) n P Q a w:=by refine jX hm<|M_ (λo f d d=>?_) b _ _ _ _<|Iw _ _ _ _<|h c;grind
theorem zn.fresh{B}{A X}(h:zn B A X){g}(hg:IS (IT A)<=g)(i)(v):zn B A (X.setCell (Xd g i O) v):=⟨h.os,h.tape,h.output,by simpa using h.size,λk o a b=>by have c:=(zd.1 a).1;rw[qC _ _ _ _ so];exact h.block k o a b⟩
def Fm (md:Region.Mode)(ops:Array Oper)(L:Nat):Bool:=
 (L+1 == ops.size)&&((kai ops.size).all λi=>((ops[i]?).map λo=>o.after.all λe=>decide (e.on<i)).getD false) &&
  (kai L).all λj=>((ops[L]?).map λo=>o.after.any λe=>Region.binds md e&&e.on == j).getD false
def Gn (P:Program)(ops:Array Oper)(Q:Exit->Act->H->Prop)(L:Nat):Exit->Act->H->Prop
 |.normal,a,w=>wpOp P ops Q L (λa w=>Q .normal a w) a w
 |e,a,w=>Q e a w
section
variable {P:Program} {ops:Array Oper} {Q:Exit->Act->World->Prop} {md:Region.Mode} {L:Nat}
theorem Km (h:Fm md ops L=true):L+1=ops.size/\(∀i (o:Oper),ops[i]? =E o->∀e∈o.after.toList,e.on<i)/\(∀o,ops[L]? =E o->∀j,j<L->∃e∈o.after.toList,Region.binds md e=true/\e.on=j):=by unfold Fm at h;rw[Qj,Qj]at h;have⟨⟨a,c⟩,d⟩:=h;refine⟨g_,λi o a e b=>?_,λo a j g=>?_⟩;{have f:=(zd.1 a).1;have:=Zi.1 c i<|Z8.2 f;rw[a]at this;simp only[qY,qB]at this;rw[<-OX]at this;grind};have:=Zi.1 d j<|Z8.2 g;grind
theorem DO {a:Array _}{i j}(d)(h:i≠j):(a.setIfInBounds i true).getD j d=a.getD j d:=by simp only[Zw,Array.getElem?_setIfInBounds_ne h]
theorem zfM {a:Array _}{i}(b:i<a.size)(d):(a.setIfInBounds i true).getD i d=true:=by simp[Zw,Array.getElem?_setIfInBounds_self_of_lt b]
theorem mem_ready {a}{i}:i∈kam md ops a↔i<ops.size/\a.getD i true=false/\∃o,ops[i]? =E o/\∀e∈o.after.toList,Region.binds md e=true->a.getD e.on false=true:=by unfold kam;rw[ZF,Z8];constructor;{rintro⟨b,c⟩;rw[Qj]at c;refine⟨b,g_,_,qD b,λe f d=>?_⟩;have a:=c.2;rw[qD b]at a;simp only[qY,qB]at a;rw[<-OX]at a;grind};grind
theorem Yg {a:Array _}{j}(b:j<a.size)(h:¬a.getD j true=false):a.getD j false=true:=by rw[Zw,qD b]at *;simpa using h
theorem TY {a}(b:Fm md ops L=true)(hs:a.size=ops.size){j}(g:j<L)(p:a.getD j true=false):kam md ops (a.setIfInBounds L true)=kam md ops a:=by
 have⟨_,k,f⟩:=Km b;have l:∀i,i∈kam md ops (a.setIfInBounds L true)↔i∈kam md ops a:=by intro i;rw[mem_ready,mem_ready];by_cases d:i=L;{subst d;constructor;{simp};grind};constructor;{rintro⟨g,f,o,a,h⟩;rw[DO _<|Qr d]at f;refine⟨g,f,o,a,λe b c=>?_⟩;have:=h e b c;rwa [DO _<|by grind]at this};rintro⟨g,f,o,a,h⟩;refine⟨g,by rw[DO _<|Qr d];omega,o,a,λe b c=>?_⟩;rw[DO _ g_];grind
 unfold kam at l⊢;refine List.filter_congr λi d=>?_;have:=l i;grind
theorem MT {listed}(hc:Fm md ops L=true)(hs:listed.size=ops.size):∀j,j<ops.size->listed.getD j true=false->kam md ops listed≠ []:=by have⟨c1,c2,c3⟩:=Km hc;intro j;induction j using Nat.strongRecOn with |ind j ih=>intro hj hu;by_cases hex:∃i,i<j/\listed.getD i true=false;{grind};refine OC<|mem_ready.2 ⟨hj,hu,_,qD hj,λe he _=>?_⟩;grind
theorem He {o:Oper}{a}{K K'}(hK:∀a w,K a w->K' a w){r}(h:o.upon P a K (Gn P ops Q L) r):o.upon P a K' Q r:=by unfold Oper.upon at h⊢;split at h;{exact hK _ _ h};{exact hK _ _ h};{exact hK _ _ h};{apply h.mono;rintro e w' he;cases e with |returned v=>exact hK _ _ he |panicked c=>exact he |outgrown=>exact he};{exact h.mono λ_ _ h=>hK _ _ h};{exact h};omega
theorem GN {i}{a}{w}{K c}(b:∀a w,K a w->c a w)(h:wpOp P ops (Gn P ops Q L) i K a w):wpOp P ops Q i c a w:=by unfold wpOp at h⊢;cases ho:ops[i]? with |none=>rw[ho]at h;exact b _ _ h |some o=>rw[ho]at h;simp only at h⊢;split;{rename_i c;rw[zQ c]at h;rcases h with h|⟨d,a,w,e⟩;{exact .inl<|He b h};exact .inr ⟨d,a,w,e⟩};rename_i c;rw[zO c]at h;exact b _ _ h
theorem OG (f:Fm md ops L=true):∀l b a w,b.size=ops.size->b.getD L true=false->wpAny P md ops (Gn P ops Q L) l (b.setIfInBounds L true) a w->wpAny P md ops Q (l+1) b a w:=by have⟨_,_,_⟩:=Km f;intro l;induction l with |zero=>intro b a w e p h;by_cases k:∃j,j<L/\b.getD j true=false;{have⟨j,s,o⟩:=k;exact absurd (by rw[<-TY f e s o];exact h.1)<|MT f e j om o};have r:=h.1;have t:wpOp P _ Q L _ a w:=h.2;refine⟨λm=>absurd m<|MT f e L om p,λi g=>?_⟩;have⟨u,d,A,y,v⟩:=mem_ready.1 g;have c:i=L:=Ze λx=>k ⟨i,om,d⟩;subst c;exact wpOp_mono (λa w q=>⟨r,q⟩) t |succ l z=>intro b a w e p h;by_cases k:∃j,j<L/\b.getD j true=false;{have⟨j,s,o⟩:=k;have l:=TY f e s o;refine⟨λm=>absurd m<|MT f e j om o,λi g=>?_⟩;have j:i∈kam md ops (b.setIfInBounds L true):=g_;(have c:i≠L:=by rintro rfl;have:=(mem_ready.1 j).2.1;rw[zfM om]at this;cases this);refine GN (λa w q=>z _ a w g_ (by simp_all) ?_)<|h.2 i j;rw[Array.setIfInBounds_comm _ _ c];exact q};(have j:∀i,i∈kam md ops (b.setIfInBounds L true)->False:=by intro i g;have⟨u,d,_⟩:=mem_ready.1 g;by_cases c:i=L;{simp_all};rw[DO _<|Qr c]at d;grind);have r:=Od.2 j;have t:wpOp P _ Q L _ a w:=h.1 r;refine⟨λm=>absurd m<|MT f e L om p,λi g=>?_⟩;have⟨u,d,A,y,v⟩:=mem_ready.1 g;have c:i=L:=Ze λx=>k ⟨i,om,d⟩;subst c;refine wpOp_mono (λa w q=>⟨λ_=>q,λk b=>?_⟩) t;rw[r]at b;cases b
theorem uJ {a}{w}{o}(ho:ops.toList[L]? =E o:=by rfl)(hg:kan o (yielded ops a.tmps)=true:=by rfl)(h:o.wp P a w (λa w=>Q .normal a w) Q):Gn P ops Q L .normal a w:=by show wpOp P _ Q L (λa w=>Q .normal a w) a w;unfold wpOp;rw[<-jz,ho];simp only;rw[zQ hg];grind
theorem F3 {n l id}{S:World->Prop}{a}{w}(L)(hm:P.follows .mixedOrders=true)(hnd:ops.toList.all (λo=>match o.op with|.defer _=>false|_=>true)=true)(hQ:¬LetsOut Q)
 (hS:S w.drew) (Ay:Fm .any ops L=true:=by kernel_rfl) (h:S w.drew->wpAnyH P .any ops (Gn P ops Q L) S L ((kat ops.size false).setIfInBounds L true) a w.drew):(Code.region id ops true).wpIn (Fence.wide.inRound l) n P Q a w:=by refine jX hm<|M_ (λo ho c hc=>?_) hQ _ _ _ _ ?_;{grind};have e:=(Km Ay).1;rw[<-e];apply OG Ay L _ _ _ g_ sp;have:=Iw _ _ _ _<|h hS;rwa [<-e]at this
end
end
def Fv (md:Region.Mode)(ops:Array Oper)(L:Nat):Bool:=
 decide (L<ops.size)&&((kai ops.size).all λi=>((ops[i]?).map λo=>o.after.all λe=>decide (e.on<i)).getD false) &&
  ((kai L).all λj=>(kai (L+1)).any λc=>((ops[c]?).map λo=>o.after.any λe=>Region.binds md e&&e.on == j).getD false) &&
  (kai ops.size).all λi=>decide (i<=L)||((ops[i]?).map λo=>o.after.any λe=>Region.binds md e&&e.on+1 == i).getD false
def El (F:Fence)(n:Nat)(P:Program)(ops:Array Oper)(Q:Exit->Act->H->Prop)(L:Nat):Exit->Act->H->Prop
 |.normal,a,w=>wpOpsIn F n P ops Q (List.range' L (ops.size-L)) a w
 |e,a,w=>Q e a w
section
variable {F:Fence} {n:Nat} {P:Program} {ops:Array Oper} {Q:Exit->Act->World->Prop} {md:Region.Mode} {L:Nat}
theorem We {o:Oper}{p}(h:o.after.any p=true):∃e∈o.after.toList,p e=true:=by rw[<-Array.any_toList]at h;exact QR.1 h
theorem Kg (h:Fv md ops L=true):L<ops.size/\(∀i (o:Oper),ops[i]? =E o->∀e∈o.after.toList,e.on<i)/\(∀j,j<L->∃c o,c<=L/\ops[c]? =E o/\∃e∈o.after.toList,Region.binds md e=true/\e.on=j)/\(∀i o,ops[i]? =E o->L<i->∃e∈o.after.toList,Region.binds md e=true/\e.on+1=i):=by unfold Fv at h;rw[Qj,Qj,Qj]at h;obtain⟨⟨⟨a,b⟩,g⟩,k⟩:=h;refine⟨g_,λi o a e d=>?_,λj m=>?_,λi o a f=>?_⟩;{have f:=(zd.1 a).1;have:=Zi.1 b i<|Z8.2 f;rw[a]at this;simp only[qY,qB]at this;rw[<-OX]at this;simpa using Zi.1 this e d};{obtain⟨c,l,b⟩:=QR.1<|Zi.1 g j<|Z8.2 m;cases a:ops[c]? with |none=>rw[a]at b;cases b |some o=>rw[a]at b;simp only[qY,qB]at b;obtain⟨e,d,hp⟩:=We b;rw[Qj]at hp;exact⟨c,o,by have:=Z8.1 l;omega,a,e,d,hp.1,by simpa using hp.2⟩};have b:=(zd.1 a).1;have:=Zi.1 k i<|Z8.2 b;rw[Bool.or_eq_true,a]at this;rcases this with h|h;{exact absurd (by simpa using h)<|Nat.not_le.2 f};simp only[qY,qB]at h;obtain⟨e,d,hp⟩:=We h;rw[Qj]at hp;exact⟨e,d,hp.1,by simpa using hp.2⟩
def Shut (md:Region.Mode)(ops:Array Oper)(listed:Array Bool):Prop:=∀i o,ops[i]? =E o->listed.getD i false=true->∀e∈o.after.toList,Region.binds md e=true->listed.getD e.on false=true
theorem WB {b}(h:Shut md ops b){i}(a:i∈kam md ops b):Shut md ops (b.setIfInBounds i true):=by
 have⟨_,k,_,m,l⟩:=mem_ready.1 a;intro j o c g e f d;have a:b.getD e.on false=true:=by by_cases b:j=i;{grind};rw[DO _<|Qr b]at g;exact h j o c g e f d
 by_cases b:e.on=i;{grind};rw[DO _<|Qr b];omega
def xR (L:Nat)(listed:Array Bool):Array Bool:=listed.mapIdx λi b=>b||decide (L<=i)
theorem Le {a}{i}(b:i<L)(d):(xR L a).getD i d=a.getD i d:=by unfold xR;simp only[Zw,S6];grind
theorem Sf {a}{i}(b:L<=i)(hs:i<a.size)(d):(xR L a).getD i d=true:=by unfold xR;simp only[Zw,S6,qD hs];simp[b]
theorem zoq {a}{i}(b:i<L):(xR L a).setIfInBounds i true=xR L (a.setIfInBounds i true):=by unfold xR;grind
theorem zor (hc:Fv md ops L=true){listed}(hsh:Shut md ops listed){o}(ho:ops[L]? =E o)(hr:∀e∈o.after.toList,Region.binds md e=true->listed.getD e.on false=true):∀d j,L-j=d->j<L->listed.getD j false=true:=by have⟨c1,c2,c3,c4⟩:=Kg hc;intro d;induction d using Nat.strongRecOn with |ind d ih=>intro j hd hj;have⟨c,oc,hcL,hoc,e,he,hb,hon⟩:=c3 j hj;have hlt:=c2 c _ hoc e he;by_cases hce:c=L;{grind};rw[<-hon];exact hsh c _ hoc (ih _ om c rfl om) e he hb
theorem UR (b:Fv md ops L=true){a}(hs:a.size=ops.size)(l:Shut md ops a)(f:∀j,L<=j->j<ops.size->a.getD j true=false){j}(e:j<L)(p:a.getD j true=false):kam md ops (xR L a)=kam md ops a:=by
 have⟨_,k,_,d⟩:=Kg b;have m:∀i,i∈kam md ops (xR L a)↔i∈kam md ops a:=by intro i;rw[mem_ready,mem_ready];by_cases g:L<=i;{constructor;{rintro⟨a,h,_⟩;rw[Sf g om]at h;grind};rintro⟨a,_,o,a,h⟩;by_cases c:i=L;{subst c;have:=zor b l a h _ j rfl e;grind};grind};have l:i<L:=om;constructor;{rintro⟨f,d,o,a,h⟩;rw[Le l]at d;refine⟨f,d,o,a,λe b c=>?_⟩;have:=h e b c;rwa [Le (by have:=k i o a e b;omega)]at this};rintro⟨f,d,o,a,h⟩;refine⟨f,by rw[Le l];exact d,o,a,λe b c=>?_⟩;rw[Le (by have:=k i o a e b;omega)];exact h e b c
 unfold kam at m⊢;refine List.filter_congr λi g=>?_;have:=m i;rw[ZF,ZF]at this;simp only[g,true_and]at this;exact Ox.2 this
theorem zqk {o:Oper}{a}{K K'}(hK:∀a w,K a w->K' a w){r}(h:o.uponIn F n P a K (El F n P ops Q L) r):o.uponIn F n P a K' Q r:=by unfold Oper.uponIn at h⊢;split at h;{exact hK _ _ h};{exact hK _ _ h};{exact hK _ _ h};{refine⟨h.1,h.2.mono ?_⟩;rintro e w' he;cases e with |returned v=>exact hK _ _ he |panicked c=>exact he |outgrown=>exact he};{exact⟨h.1,h.2.mono λ_ _ h=>hK _ _ h⟩};{refine⟨h.1,h.2.mono ?_⟩;rintro e w' he;cases e with |returned v=>exact hK _ _ he |panicked c=>exact he |outgrown=>exact he};{exact h};omega
theorem zql {i}{a}{w}{K c}(b:∀a w,K a w->c a w)(h:wpOpIn F n P ops (El F n P ops Q L) i K a w):wpOpIn F n P ops Q i c a w:=by unfold wpOpIn at h⊢;cases ho:ops[i]? with |none=>rw[ho]at h;exact b _ _ h |some o=>rw[ho]at h;simp only at h⊢;split;{rename_i c;rw[zQ c]at h;exact⟨h.1,zqk b h.2⟩};grind
theorem Yc (e:Fv md ops L=true):∀d m c b a w,ops.size-m=d->L<=m->m<=ops.size->b.size=ops.size->(∀j,j<m->b.getD j true=true)->(∀j,m<=j->j<ops.size->b.getD j true=false)->wpOpsIn F n P ops Q (List.range' m (ops.size-m)) a w->wpAnyIn F n P md ops Q (c+d) b a w:=by
 have⟨_,r,_,s⟩:=Kg e;intro d;induction d with
 |zero=>
  intro m c b a w o p hm q f k h;have l:kam md ops b= []:=Od.2 λi e=>by
   have⟨u,g,_⟩:=mem_ready.1 e;grind
  rw[o]at h;cases c with
  |zero=>exact⟨l,h⟩
  |succ c=>exact⟨λ_=>h,λi e=>g_⟩
 |succ d t=>
  intro m c b a w o p hm q f k h;have l:m<ops.size:=om;rw[o,List.range'_succ,wpOpsIn_cons]at h;refine⟨λp=>?_,λi e=>?_⟩
  ·have:m∈kam md _ b:=mem_ready.2 ⟨l,k m (zh _) l,_,qD l,λb o _=>?_⟩
   ·rw[p]at this;cases this
   grind
  ·obtain⟨u,g,v,r,u⟩:=mem_ready.1 e;have l:i=m:=g_
   subst l;have b:ops.size-(i+1)=d:=om;refine wpOpIn_mono (λa w g=>t _ c _ a w b om om g_ (λj c=>?_) (λj c e=>?_) ?_) h
   ·by_cases c:j=i
    ·simp_all
    ·rw[DO _<|Qr c];grind
   ·rw[DO _ om];grind
   ·rw[b];exact g
theorem Vw (hc:Fv md ops L=true):∀fuel listed a w,listed.size=ops.size->Shut md ops listed->(∀j,L<=j->j<ops.size->listed.getD j true=false)->wpAnyIn F n P md ops (El F n P ops Q L) fuel (xR L listed) a w->wpAnyIn F n P md ops Q (fuel+(ops.size-L)) listed a w:=by
 have⟨c1,c2,c3,c4⟩:=Kg hc;have hend:∀fuel (listed:Array Bool) (a:Act) (w:H),listed.size=ops.size->(∀j,L<=j->j<ops.size->listed.getD j true=false)->(¬∃j,j<L/\listed.getD j true=false)->wpAnyIn F n P md ops (El F n P ops Q L) fuel (xR L listed) a w->wpAnyIn F n P md ops Q (fuel+(ops.size-L)) listed a w:=by intro fuel listed a w hs hL hu h;(have hr:kam md ops (xR L listed)= []:=Od.2 λi hi=>by have⟨k1,k2,_⟩:=mem_ready.1 hi;by_cases hi2:L<=i;{rw[Sf hi2 om]at k2;grind};rw[Le om]at k2;grind);(have hq:El F n P ops Q L .normal a w:=by cases fuel with |zero=>exact h.2 |succ fuel=>exact h.1 hr);refine Yc hc _ L fuel listed a w rfl (zh _) om hs (λj hj=>?_) hL hq;cases hj2:listed.getD j true with |false=>grind |true=>rfl
 intro fuel;induction fuel with |zero=>intro listed a w hs hsh hL h;by_cases hu:∃j,j<L/\listed.getD j true=false;{have⟨j,hj,hju⟩:=hu;(have hr0:kam md ops listed= []:=by rw[<-UR hc hs hsh hL hj hju];exact h.1);exfalso;(have hsome:∀j,j<ops.size->listed.getD j true=false->kam md ops listed≠ []:=by intro j;induction j using Nat.strongRecOn with |ind j ih=>intro hj hu;by_cases hex:∃i,i<j/\listed.getD i true=false;{grind};refine OC<|mem_ready.2 ⟨hj,hu,_,qD hj,λe he _=>?_⟩;grind);grind};exact hend 0 _ a w hs hL hu h |succ fuel ih=>intro listed a w hs hsh hL h;by_cases hu:∃j,j<L/\listed.getD j true=false;{have⟨j,hj,hju⟩:=hu;have hr:=UR hc hs hsh hL hj hju;(have hsome:∀j,j<ops.size->listed.getD j true=false->kam md ops listed≠ []:=by intro j;induction j using Nat.strongRecOn with |ind j ih=>intro hj hu;by_cases hex:∃i,i<j/\listed.getD i true=false;{have⟨i,hi,hiu⟩:=hex;exact ih i hi om hiu};refine OC<|mem_ready.2 ⟨hj,hu,ops[j],qD hj,λe he _=>?_⟩;have hlt:=c2 j _ (qD hj) e he;exact Yg om λh=>hex ⟨e.on,hlt,h⟩);have e2:fuel+1+(ops.size-L)=fuel+(ops.size-L)+1:=om;rw[e2];refine⟨λh0=>absurd h0<|hsome j om hju,λi hi=>?_⟩;(have hi':i∈kam md ops (xR L listed):=by rw[hr];exact hi);(have hiL:i<L:=by refine Ze λAG=>?_;have:=(mem_ready.1 hi').2.1;rw[Sf om (by have:=(mem_ready.1 hi').1;omega)]at this;cases this);refine zql (λa w q=>ih _ a w (by rw[zaF];exact hs) (WB hsh hi) (λj hj hjs=>by rw[DO _ om];exact hL j hj hjs) ?_)<|h.2 i hi';rw[<-zoq hiL];exact q};exact hend (fuel+1) listed a w hs hL hu h
theorem MX {n l id}{S:World->Prop}{a}{w}(L)(hm:P.follows .mixedOrders=true)(hnd:ops.toList.all (λo=>match o.op with|.defer _=>false|_=>true)=true)(hQ:¬LetsOut Q)
 (hS:S w.drew) (Ay:Fv .any ops L=true:=by kernel_rfl) (h:S w.drew->wpAnyH P .any ops (El (Fence.wide.inRound l) n P ops Q L) S L (xR L (kat ops.size false)) a w.drew):(Code.region id ops true).wpIn (Fence.wide.inRound l) n P Q a w:=by
 have e:=(Kg Ay).1;have e2:L+(ops.size-L)=ops.size:=om;apply jX hm;rw[<-e2];have hall:∀j,L<=j->j<ops.size->(kat ops.size false).getD j true=false:=λj _ hj=>by simp_all
 have:=Vw Ay L _ a _ g_ (λi o ho hl=>?_) hall<|M_ (λo ho c hc=>?_) ?_ _ _ _ _<|Iw _ _ _ _<|h hS;{rw[e2]at this⊢;exact this};{have hi:=(zd.1 ho).1;simp_all};{grind};rintro⟨a,w,h⟩;exact hQ ⟨a,w,h⟩
end
section
variable {P:Program}{Q:Exit->Act->H->Prop}{n:Nat}
theorem zmr{o:Oper}{a}{K K'}(hK:∀a w,K a w->K' a w){r}(h:o.upon P a K Q r):o.uponIn Fence.wide n P a K' Q r:=by unfold Oper.upon at h;split at h;{exact hK _ _ h};{exact hK _ _ h};{exact hK _ _ h};{refine⟨(λh=>by cases h),zq.2<|h.mono ?_⟩;grind};{refine⟨(λh=>by cases h),λc cs _=>?_⟩;have⟨v,w',r,s⟩:=h c cs;exact⟨v,_,hK _ _ r,stepsIn_wide.2 s⟩};{exact h};exact h.elim
theorem zms{ops}{i}{K c}{a}{w}(d:¬LetsOut Q)(b:∀a w,K a w->c a w)(h:wpOp P ops Q i K a w):wpOpIn Fence.wide n P ops Q i c a w:=by unfold wpOp at h;unfold wpOpIn;cases ho:ops[i]? with |none=>rw[ho]at h;exact b _ _ h |some o=>rw[ho]at h;simp only at h⊢;split;{rename_i c;rw[zQ c]at h;rcases h with h|h;{refine⟨λ_ _=>trivial,?_⟩;rw[show Fence.wide.round=O from rfl,Oper.semAt_none];exact zmr b h};exact absurd h.2 d};rename_i c;rw[zO c]at h;exact⟨λ_ _=>trivial,b _ _ h⟩
theorem Mz{md:Region.Mode}{ops:Array Oper}(c:¬LetsOut Q):∀(b:Nat) (d:Array Bool) (a:Act) (w:H),wpAny P md ops Q b d a w->wpAnyIn Fence.wide n P md ops Q b d a w
 |0,_,_,_,h=>h |b+1,_,_,_,h=>⟨h.1,λi e=>zms c (λa w h=>Mz c b _ a w h) (h.2 i e)⟩
section
variable {P:Program} {ops:Array Oper} {Q:Exit->Act->World->Prop}
theorem Fo:¬LetsOut (λe a w=>e=Exit.normal/\Q .normal a w):=by rintro⟨a,w,h,-⟩;cases h
theorem Jc {n id}{S}{a}{w}(hm:P.follows .mixedOrders=true)
 (b:S w.drew) (h:S w.drew->wpAnyH P .any ops (λe a w=>e= .normal/\Q .normal a w) S ops.size (kat ops.size false) a w.drew):(Code.region id ops true).wpIn Fence.wide n P Q a w:=by apply Ex<|jX hm<|Mz Fo _ _ _ _<|Iw _ _ _ _<|h b;grind
theorem zlF {n id}{S}{a}{w}(L)(hm:P.follows .mixedOrders=true)
 (hS:S w.drew) (Ay:Fm .any ops L=true:=by kernel_rfl) (h:S w.drew->wpAnyH P .any ops (Gn P ops (λe a w=>e= .normal/\Q .normal a w) L) S L ((kat ops.size false).setIfInBounds L true) a w.drew):(Code.region id ops true).wpIn Fence.wide n P Q a w:=by refine Ex (jX (Q:=λe a w=>e= .normal/\Q .normal a w) hm<|Mz Fo _ _ _ _ ?_) ?_;{have e:=(Km Ay).1;rw[<-e];apply OG Ay L _ _ _ g_ sp;have:=Iw _ _ _ _<|h hS;rwa [<-e]at this};grind
