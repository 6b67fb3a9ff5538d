import Derived.Test.YtfbkaflfnjinaaaGreatDoorSor1Z1
open Option renaming none->O,some->E
open Go.Value renaming slice->V,bool->G,pointer->pn,int->it,agg->ag,string->gS,tuple->tp
open Go.Obj renaming cells->cl
open Go renaming World->H
open Go.Proofs.Tryz renaming prog->pg
open Go.Proofs.Tryz
open Go.Ending renaming returned->Xa
open Go.IntKind renaming i64->Xb
open Go.Addr renaming mk->Xd
set_option linter.unusedSimpArgs false
set_option linter.unusedVariables false
set_option maxHeartbeats 40000000
set_option maxRecDepth 100000
open Go.Lib renaming trimPrefix->kag,decDigits->kad,cut->kaa,itoa->kae,hasPrefix->kam,byteCells->kar,index->kap
open List renaming replicate->kaf,range->kal,zipWith->kaq
open Nat renaming gcd->R8
open ByteArray renaming mk->kab
open Go.World renaming setCell->kas
open Or renaming inr->kac,inl->kai
open Go.Fence renaming wide->kak
open Go.Region renaming wanted->kao,ready->kan
open Go.Value renaming ownBlock->kaj
open Array renaming replicate->kat
namespace Go.Proofs.YtfbkaflfnjinaaaGreatDoor
open Go.RowKit
section
variable {B cap g g5 h i j k k1 l l1 m n o q s t:Nat}{a a1 d e:A_}{b c f:Bool}{p r z:Int}{u w w':H}{v x y:Value}
theorem N6(K)(hK:K<=1073741823)(B:Bh K)(w)(u v)(m n)(W:fe w u m)(X:fe w v n)(hm:m<4294967296^K)(Q:n<4294967296^K):
 C_ 197 #[u,v] w λe w'=>∃x,e=Xa x/\fe w' x (R8 m n)/\b_ w w':=by
 go_enter func197,ntmps197;go_wp2;go_loopg [0,1] n (λy Y Z wr=>∃a,fe wr Y a/\fe wr Z y/\a<4294967296^K/\y<4294967296^K/\Hid (R8 a y=R8 m n)/\b_ w wr);case atStart=>exact⟨m,W,X,hm,Q,rfl,qf _ _⟩
 case round=>have⟨a,g,h,p,d,j,b⟩:=hrel;have⟨k,S,L,_,I,_⟩:=J9 g p;have⟨i,T,M,U,r,_⟩:=J9 h d;have F:=h;obtain⟨_,_,rfl,_,_⟩:=S;obtain⟨_,_,rfl,_,_⟩:=T;by_cases D:gk=0;{have N:=U.zero.1 om;subst N;subst D;go_wp2;go_ret;refine⟨_,rfl,?_,b⟩;rw[<-j.out,Nat.gcd_zero_right];exact g};have a1:0<i.length:=ZC.2 (λe=>D (by rw[<-r,e];rfl));by_cases J:k.length<=2/\i.length<=2;{have⟨A,l⟩:=J;(have C:a<18446744073709551616:=by have f:=gg L;rw[I]at f;exact zK f<|gI A);(have q:gk<18446744073709551616:=by have f:=gg M;rw[r]at f;exact zK f<|gI l);go_wp2_with fail;apply(KG _ _ a g C).mono;rintro e w1 ⟨rfl,rfl⟩;go_wp2_with fail;refine(KG _ _ _ h q).mono<|fB ?_;go_wp2_with fail;apply(zg7 _ a _ C q).mono;rintro e z ⟨rfl,_,rfl⟩;go_wp2_with fail;refine(Lj _ _<|qu (Nat.gcd_le_right _ om) q).mono<|eP λz x s c=>?_;go_wp2;go_ret;refine⟨_,rfl,?_,b.trans<|(JJ c).mono b.size⟩;rw[<-j.out];exact s};by_cases A:k.length<=2;{go_wp2_with fail;apply(B _ _ _ a _ g h p d).mono;rintro e z ⟨x,a0,rfl,s,t,c⟩;go_wp2;go_roundg (a%gk);(case measure=>exact Z0 _ om);case rel=>exact⟨_,F.below c,t,d,EZ (Z0 _ om) d,by rw[Hid,<-j.out,F6 _,<-Nat.gcd_rec,F6],b.trans<|c.mono b.size⟩};go_wp2_with fail;apply(B _ _ _ a _ g h p d).mono;rintro e z ⟨x,a0,rfl,s,t,c⟩;go_wp2;go_roundg (a%gk);(case measure=>exact Z0 _ om);case rel=>exact⟨_,F.below c,t,d,EZ (Z0 _ om) d,by rw[Hid,<-j.out,F6 _,<-Nat.gcd_rec,F6],b.trans<|c.mono b.size⟩
theorem fe.slice(h:fe w v n):∃a l cap,v=V a l cap:=by have⟨_,⟨a,cap,b,_⟩,_⟩:=h;exact⟨a,_,cap,b⟩
theorem fe.setCell(h:fe w v n){a}(l:w.cell? a=E y)(g:∀k,y≠it .u32 k)(x):fe (w.setCell a x) v n:=by have⟨d,⟨b,c,j,f,i⟩,e⟩:=h;refine⟨d,⟨b,c,j,f,λf=>?_⟩,e⟩;have⟨b,off,d,e,c⟩:=i f;refine⟨b,_,d,by simp_all,λi b=>?_⟩;rw[zA _ _ _ _ (by intro d;have:=c i b;grind)];exact c i b
def zy (w:H)(x:Value)(z:Int):Prop:=∃b v,x=ag #[G b,v]/\fe w v z.natAbs/\Hid (b=decide (z<0))
theorem zy.below(h:zy w x z)(hb:b_ w w'):zy w' x z:=by have⟨b,v,a,c,d⟩:=h;exact⟨b,v,a,c.below hb,d⟩
def sg (b:Bool)(n:Nat):Int:=if b then -(n)else n
theorem l9(b)(n):(sg b n).natAbs=n:=by cases b<;>simp[sg]
theorem Fy(b)(n):decide (sg b n<0)=(b && !(n == 0)):=by cases b;{rfl};by_cases h:n=0;{subst h;rfl};simp[sg,Z3 h,(ZN.2 h)]
theorem OQ(h:fe w v n)(a:c=(b && !(n == 0))):zy w (ag #[G c,v]) (sg b n):=⟨c,v,rfl,by rw[l9];exact h,by rw[Hid,Fy];omega⟩
theorem QJ{e:Bool}{d c:Nat}(h:fe w v z.natAbs)(hb:Hid (b=decide (z<0)))(f:w.cell? (Xd g 0 O)=E (G e))(h1:w.cell? (Xd g 1 O)=E (V a d c)):
 zy ((w.setCell (Xd g 0 O) (G b)).setCell (Xd g 1 O) v) (ag #[G b,v]) z:=by refine⟨b,v,rfl,?_,hb⟩;refine(h.setCell f sp _).setCell (y:=V a d c) ?_ sp _;rw[zA _ _ _ _ sp];omega
theorem zy.setCell(h:zy w x z){a}(g:w.cell? a=E y)(f:∀k,y≠it .u32 k)(u):zy (w.setCell a u) x z:=by have⟨b,v,c,d,e⟩:=h;exact⟨b,v,c,d.setCell g f u,e⟩
theorem zy.drewN(h:zy w x z)(q):zy (w.drewN q) x z:=h
theorem zy.alloc(h:zy w x z)(o):zy (w.alloc o) x z:=h.below ((qf _ _).alloc (zh _) o)
theorem zy.parts(h:zy w x z):∃b a l cap,x=ag #[G b,V a l cap]/\fe w (V a l cap) z.natAbs/\Hid (b=decide (z<0)):=by have⟨b,_,d,c,e⟩:=h;obtain⟨a,l,cap,rfl⟩:=c.slice;grind
theorem Jh(w)(b)(v)(n)(h:fe w v n):
 C_ 89 #[G b,v] w λe w'=>∃x,e=Xa x/\zy w' x (sg b n)/\b_ w w':=by obtain⟨a,l,c,rfl⟩:=h.slice;cases b with |false=>go_enter func89,ntmps89;go_wp2;exact zH (by simp[results,results89,go_sem]) rfl ⟨_,rfl,OQ (h.alloc _) rfl,(qf _ _).alloc (zh _) _⟩ |true=>by_cases d:n=0;{subst d;go_enter func89,ntmps89;go_wp2_with fail;apply(JR _ _<|h.alloc _).mono;rintro e w' ⟨rfl,rfl⟩;go_wp2;exact zH (by simp[results,results89,go_sem]) rfl ⟨_,rfl,OQ (h.alloc _) rfl,(qf _ _).alloc (zh _) _⟩};go_enter func89,ntmps89;go_wp2_with fail;refine(jW _ _ n (h.alloc _) d).mono<|fB ?_;go_wp2;exact zH (v:=ag #[G true,V a l c]) (by simp[results,results89,go_sem]) rfl ⟨_,rfl,OQ (h.alloc _) g_,(qf _ _).alloc (zh _) _⟩
theorem Fm(w)(v)(n)(h:fe w v n):
 C_ 125 #[v] w λe w'=>∃x,e=Xa x/\zy w' x (n)/\b_ w w':=by
 go_enter func125,ntmps125;go_wp2_with fail;refine(Jh _ _ _ n<|h.alloc _).mono<|eP λw' x b a=>?_;have c:=b;rw[show sg _ n=n from rfl]at b;obtain⟨i,g,m,j,rfl,l,k⟩:=b.parts;have⟨b,c⟩:=PZ a;have d:=a.size;have d:w'.cell? (y_ w 0)=E (G false):=by rw[b _ _ sp];simp
 have f:w'.cell? (y_ w 1)=E (V_):=by rw[b _ _ sp];simp
 have o:w'.frozen? (y_ w 0)=false:=by rw[c _ _ sp];simp
 simp;go_wp2;exact zH (by simp[results,results125,go_sem,d,f]) rfl ⟨_,rfl,QJ l k d f,((((qf _ _).alloc (zh _) _).trans<|a.mono sp).setCell (zh _) _).setCell (zh _) _⟩
theorem K5(h:Hid (b=decide (z<0))):z=sg b z.natAbs:=by have a:=h.out;subst a;by_cases a:z<0;{simp[sg,a];omega};simp[sg,a];omega
theorem vI(w)(A B):b_ w ((w.alloc A).alloc B):=((qf _ _).alloc (zh _) _).alloc sp _
theorem xe(w)(A B C):b_ w (((w.alloc A).alloc B).alloc C):=(vI w A B).alloc so _
theorem h_{p}(a:g≠h):(w.setCell (Xd g o O) x).cell? (Xd h p O)=w.cell? (Xd h p O):=zA _ _ _ _ (λe=>a<|by injection e)
def Zh (w:H)(g:Nat)(x y:Value):Prop:=
 w.cell? (Xd g 0 O)=E x/\w.cell? (Xd g 1 O)=E y/\w.frozen? (Xd g 0 O)=false/\w.frozen? (Xd g 1 O)=false/\g<w.heap.size
theorem Zh.below(h:Zh w g x y)(hb:b_ w w'):Zh w' g x y:=by have⟨b,c,d,e,a⟩:=h;exact⟨(hb.cell a).trans b,(hb.cell a).trans c,(hb.frozen a).trans d,(hb.frozen a).trans e,zK a hb.size⟩
theorem Zh.new(w:H)(x y)(t):Zh (w.alloc (cl #[x,y] t)) w.heap.size x y:=by refine⟨?_,?_,?_,?_,?_⟩<;>simp
abbrev Xm:=@Zh.new
theorem Zh.alloc(h:Zh w g x y)(o):Zh (w.alloc o) g x y:=h.below ((qf _ _).alloc (zh _) o)
theorem Zh.drew(h:Zh w g x y):Zh w.drew g x y:=h
theorem Zh.drewN(h:Zh w g x y)(q):Zh (w.drewN q) g x y:=h
theorem MB(w)(x)(z)(h:zy w x z):
 C_ 123 #[x] w λe w'=>∃v,e=Xa v/\fe w' v z.natAbs/\b_ w w':=by obtain⟨_,_,_,_,rfl,a,_⟩:=h.parts;go_enter func123,ntmps123;go_wp2;go_ret;exact⟨_,rfl,a.alloc _,(qf _ _).alloc (zh _) _⟩
theorem ig(w)(x)(z)(h:zy w x z):
 C_ 87 #[x] w λe w'=>e=Xa (i_ z.sign)/\b_ w w':=by obtain⟨d,_,_,_,rfl,b,a⟩:=h.parts;cases d with |true=>(have c:z<0:=by have:=a.out;simpa using this);go_enter func87,ntmps87;go_wp2;go_ret;exact⟨AH g_,(qf _ _).alloc (zh _) _⟩ |false=>(have c:¬z<0:=by have:=a.out;simpa using this);by_cases f:z.natAbs=0;{have g:z=0:=om;subst g;go_enter func87,ntmps87;go_wp2_with fail;apply(JR _ _<|b.alloc _).mono;rintro e w' ⟨rfl,rfl⟩;go_wp2;go_ret;exact⟨rfl,(qf _ _).alloc (zh _) _⟩};go_enter func87,ntmps87;go_wp2_with fail;refine(jW _ _ _ (b.alloc _) f).mono<|fB ?_;go_wp2;go_ret;exact⟨AH g_,(qf _ _).alloc (zh _) _⟩
theorem E7(w)(x)(z)(h:zy w x z):
 C_ 86 #[x] w λe w'=>∃y,e=Xa y/\zy w' y (-z)/\b_ w w':=by
 obtain⟨b,_,_,_,rfl,c,a⟩:=h.parts;have f:sg (!b) z.natAbs=-z:=by rw[K5 a];cases b<;>simp[sg]
 go_enter func86,ntmps86;go_wp2_with fail;refine(Jh _ _ _ _<|(c.alloc _).alloc _).mono<|eP λw' y a c=>?_;rw[f]at a;obtain⟨i,g,m,j,rfl,l,k⟩:=a.parts;have⟨d,_⟩:=PZ c;have a:w'.cell? (x_ w 0)=E (G false):=by rw[d _ _ sp];simp
 have b:w'.cell? (x_ w 1)=E (V_):=by rw[d _ _ sp];simp
 go_wp2;exact zH (by simp[results,results86,go_sem,a,b]) rfl ⟨_,rfl,QJ l k a b,(((vI w _ _).trans<|c.mono (vI w _ _).size).setCell sp _).setCell sp _⟩
theorem FV(w)(x y)(z t)(K)(X:K<=1073741823)(h:zy w x z)(k:zy w y t)(R:z.natAbs<4294967296^K)(M:t.natAbs<4294967296^K):
 C_ 85 #[x,y] w λe w'=>∃s,e=Xa s/\zy w' s (z+t)/\b_ w w':=by obtain⟨b,c,l,f,rfl,N,a⟩:=h.parts;obtain⟨o,d,i,g,rfl,P,j⟩:=k.parts;have m:=K5 a;have a:=K5 j;by_cases a0:b=o;{subst a0;(have j:sg b (z.natAbs+t.natAbs)=z+t:=by cases b<;>simp[sg]at *<;>omega);have B:=zf j;have a:(b == b)=true:=sp;go_enter func85,ntmps85;go_wp2;(have W:Zh (((w.alloc<|cl #[G b,V c l f] 88).alloc<|cl #[G b,V d i g] 88).alloc<|cl #[G false,V_] 88) (w.heap.size+1+1) (G false) (V_):=by have:=Xm ((w.alloc<|cl #[G b,V c l f] 88).alloc<|cl #[G b,V d i g] 88) (G false) (V_) 88;simpa using this);(have q:Zh (((w.alloc<|cl #[G b,V c l f] 88).alloc<|cl #[G b,V d i g] 88).alloc<|cl #[G false,V_] 88) (w.heap.size+1) (G b) (V d i g):=by have:=(Xm (w.alloc<|cl #[G b,V c l f] 88) (G b) (V d i g) 88).alloc<|cl #[G false,V_] 88;simpa using this);have p:Zh (((w.alloc<|cl _ 88).alloc<|cl #[G b,V d i g] 88).alloc<|cl #[G false,V_] 88) _ (G b) (V c l f):=((Xm w _ _ _).alloc _).alloc _;have A:=xe w (cl #[G b,V c l f] 88) (cl #[G b,V d i g] 88)<|cl #[G false,V_] 88;go_region_held (λw'=>w'.cell? (y_ w 0)=E (G b)/\w'.cell? (y_ w 1)=E (V c l f)/\w'.cell? (x_ w 1)=E (V d i g)) (first|(refine⟨?_,?_,?_⟩<;>(rw[h_,h_]<;>first|omega|omega))|go_keep) (first|(go_at_call 161;refine(uD _ _ _ _ _ K (by exact fe.drew<|((N.alloc _).alloc _).alloc _) (by exact fe.drew<|((P.alloc _).alloc _).alloc _) R M X).mono<|eP λT s j a=>?_;have m:=p.drew.below a;obtain⟨_,_,_,_,_⟩:=m;have m:=q.drew.below a;obtain⟨_,_,_,_,_⟩:=m)|(go_at_call 89;refine(Jh _ _ _ _ j).mono<|eP λU a1 u m=>?_;rw[B.out]at u;obtain⟨D,C,S,F,rfl,Q,I⟩:=u.parts;have r:=(p.drew.below a).below m;obtain⟨_,_,_,_,_⟩:=r;have p:=(q.drew.below a).below m;obtain⟨_,_,_,_,_⟩:=p;have L:=(W.drew.below a).below m;obtain⟨p,q,Y,Z,g0⟩:=L));have r:=A.trans<|Below.mono ⟨a.os,a.tape,a.output,a.size,a.block⟩ A.size;have J:=r.trans<|m.mono r.size;go_wp2;exact zH (by simp[results,results85,go_sem,p,q]) rfl ⟨_,rfl,QJ Q I p q,(J.setCell so _).setCell so _⟩};have a2:(b == o)=false:=g_;(have W:Zh (((w.alloc<|cl #[G b,V c l f] 88).alloc<|cl #[G o,V d i g] 88).alloc<|cl #[G false,V_] 88) (w.heap.size+1+1) (G false) (V_):=by have:=Xm ((w.alloc<|cl #[G b,V c l f] 88).alloc<|cl #[G o,V d i g] 88) (G false) (V_) 88;simpa using this);have A:=xe w (cl #[G b,V c l f] 88) (cl #[G o,V d i g] 88)<|cl #[G false,V_] 88;by_cases d:z.natAbs<t.natAbs;{(have j:sg o ((z.natAbs-t.natAbs)+(t.natAbs-z.natAbs))=z+t:=by cases b<;>cases o<;>simp[sg]at *<;>omega);have B:=zf j;go_enter func85,ntmps85;go_wp2_with fail;refine(fX _ _ _ _ _ K (((N.alloc _).alloc _).alloc _) (((P.alloc _).alloc _).alloc _) R M om).mono ?_;rintro e f ⟨rfl,c,rfl⟩;rw[Dj d];go_wp2_with fail;refine(OW _ _ _ _ _ K (by exact fe.drewN (((N.alloc _).alloc _).alloc _) c) (by exact fe.drewN (((P.alloc _).alloc _).alloc _) c) R M X).mono<|eP λT s j a=>?_;go_wp2_with fail;refine(Jh _ _ _ _ j).mono<|eP λU a1 u m=>?_;rw[B.out]at u;obtain⟨D,C,S,F,rfl,Q,I⟩:=u.parts;have L:=((W.drewN c).below a).below m;have r:=A.trans<|(JJ a).mono A.size;have J:=r.trans<|m.mono r.size;obtain⟨p,q,Y,Z,g0⟩:=L;go_wp2;exact zH (by simp[results,results85,go_sem,p,q]) rfl ⟨_,rfl,QJ Q I p q,(J.setCell so _).setCell so _⟩};(have j:sg b ((z.natAbs-t.natAbs)+(t.natAbs-z.natAbs))=z+t:=by cases b<;>cases o<;>simp[sg]at *<;>omega);have B:=zf j;(have b:0<=Jy z.natAbs t.natAbs:=by rcases Qc t.natAbs z.natAbs with h|h;{rw[Db h];omega};rw[Gm om];omega);go_enter func85,ntmps85;go_wp2_with fail;refine(fX _ _ _ _ _ K (((N.alloc _).alloc _).alloc _) (((P.alloc _).alloc _).alloc _) R M om).mono ?_;rintro e f ⟨rfl,c,rfl⟩;generalize Jy z.natAbs t.natAbs=b at *;go_wp2_with fail;refine(OW _ _ _ _ _ K (by exact fe.drewN (((N.alloc _).alloc _).alloc _) c) (by exact fe.drewN (((P.alloc _).alloc _).alloc _) c) R M X).mono<|eP λT s j a=>?_;go_wp2_with fail;refine(Jh _ _ _ _ j).mono<|eP λU a1 u m=>?_;rw[B.out]at u;obtain⟨D,C,S,F,rfl,Q,I⟩:=u.parts;have L:=((W.drewN c).below a).below m;have r:=A.trans<|(JJ a).mono A.size;have J:=r.trans<|m.mono r.size;obtain⟨p,q,Y,Z,g0⟩:=L;go_wp2;exact zH (by simp[results,results85,go_sem,p,q]) rfl ⟨_,rfl,QJ Q I p q,(J.setCell so _).setCell so _⟩
theorem Gg{t:Int}(hb:Hid (b=decide (z<0)))(e:Hid (c=decide (t<0))):sg (!(b == c)) (z.natAbs*t.natAbs)=z*t:=by rw[(K5 hb),(K5 e)];generalize z.natAbs=m;generalize t.natAbs=n;cases b<;>cases c<;>simp[sg,Int.neg_mul,MR]
theorem AZ(w)(x y)(z t)(J K)(a:J+K<=1073741823)(h:zy w x z)(k:zy w y t)(C:z.natAbs<4294967296^J)(r:t.natAbs<4294967296^K):
 C_ 136 #[x,y] w λe w'=>∃s,e=Xa s/\zy w' s (z*t)/\b_ w w':=by
 obtain⟨d,b,l,g,rfl,A,a⟩:=h.parts;obtain⟨f,c,j,i,rfl,B,m⟩:=k.parts;have u:=zf<|Gg a m;have D:Zh (((w.alloc<|cl #[G d,V b l g] 88).alloc<|cl #[G f,V c j i] 88).alloc<|cl #[G false,V_] 88) (w.heap.size+1+1) (G false) (V_):=by have:=Xm ((w.alloc<|cl #[G d,V b l g] 88).alloc<|cl #[G f,V c j i] 88) (G false) (V_) 88;simpa using this
 have p:Zh (((w.alloc<|cl #[G d,V b l g] 88).alloc<|cl #[G f,V c j i] 88).alloc<|cl #[G false,V_] 88) (w.heap.size+1) (G f) (V c j i):=by have:=(Xm (w.alloc<|cl #[G d,V b l g] 88) (G f) (V c j i) 88).alloc<|cl #[G false,V_] 88;simpa using this
 have o:Zh (((w.alloc<|cl _ 88).alloc<|cl #[G f,V c j i] 88).alloc<|cl #[G false,V_] 88) _ (G d) (V b l g):=((Xm w _ _ _).alloc _).alloc _;have q:=xe w (cl #[G d,V b l g] 88) (cl #[G f,V c j i] 88)<|cl #[G false,V_] 88;go_enter func136,ntmps136;go_wp2;go_region_held (λw'=>w'.cell? (y_ w 0)=E (G d)/\w'.cell? (y_ w 1)=E (V b l g)/\w'.cell? (x_ w 0)=E (G f)/\w'.cell? (x_ w 1)=E (V c j i)) (first|(refine⟨?_,?_,?_,?_⟩<;>(rw[h_,h_]<;>first|omega|omega))|go_keep) (first|(go_at_call 134;refine(iK _ _ _ _ _ J K (by exact fe.drew<|((A.alloc _).alloc _).alloc _) (by exact fe.drew<|((B.alloc _).alloc _).alloc _) C r om).mono<|eP λL s r a=>?_;have m:=o.drew.below a;obtain⟨_,_,_,_,_⟩:=m;have m:=p.drew.below a;obtain⟨_,_,_,_,_⟩:=m)|(go_at_call 89;refine(Jh _ _ _ _ r).mono<|eP λM _ r m=>?_;rw[u.out]at r;obtain⟨A,u,I,B,rfl,F,C⟩:=r.parts;have r:=(o.drew.below a).below m;obtain⟨_,_,_,_,_⟩:=r;have o:=(p.drew.below a).below m;obtain⟨_,_,_,_,_⟩:=o;have r:=(D.drew.below a).below m;obtain⟨o,p,_,_,_⟩:=r));have r:=q.trans<|Below.mono ⟨a.os,a.tape,a.output,a.size,a.block⟩ q.size;have a:=r.trans<|m.mono r.size;go_wp2;exact zH (by simp[results,results136,go_sem,o,p]) rfl ⟨_,rfl,QJ F C o p,(a.setCell so _).setCell so _⟩
theorem Ou(w)(n)(a:n<9223372036854775808):
 C_ 47 #[i_ (n:Nat)] w λe w'=>∃s,e=Xa s/\zy w' s (n)/\b_ w w':=by have d:b_ w (w.alloc<|cl #[G false,V_] 88):=(qf _ _).alloc (zh _) _;go_enter func47,ntmps47;go_wp2_with fail;refine(Hq _ _ n sp om).mono<|eP λf s h c=>?_;go_wp2_with fail;refine(Jh _ _ _ _ h).mono<|eP λr _ a b=>?_;rw[show sg _ n=n from rfl]at a;obtain⟨j,i,q,k,rfl,p,l⟩:=a.parts;have o:=((Xm _ _ _ _).below c).below b;have a:=d.trans<|c.mono d.size;have⟨d,f,_,_,_⟩:=o;go_wp2;exact zH (by simp[results,results47,go_sem,d,f]) rfl ⟨_,rfl,QJ p l d f,((a.trans<|b.mono a.size).setCell sp _).setCell sp _⟩
theorem zoi(h:0<=z):sg false (z.natAbs/n)=z/(n):=by obtain⟨_,rfl⟩:=Int.eq_ofNat_of_zero_le h;simp[sg]
theorem xd(b:n≠0)(h:z<0)(c:z.natAbs%n=0):sg true (z.natAbs/n)=z/(n):=by obtain⟨m,hm⟩:∃m:Nat,z=-m:=⟨z.natAbs,om⟩;subst hm;rw[Int.natAbs_neg,Q9]at *;have a:=Jz m n;rw[c,qV]at a;simp only[sg,yq];rw[<-a,Nat.mul_div_cancel_left _<|Z3 b];rw[J0,<-MR,jI _ om]
theorem vY(b:n≠0)(h:z<0)(a:z.natAbs%n≠0):sg true (z.natAbs/n+1)=z/(n):=by obtain⟨m,hm⟩:∃m:Nat,z=-m:=⟨z.natAbs,om⟩;subst hm;rw[Int.natAbs_neg,Q9]at *;have a:=Jz m n;have c:=Z0 m<|Z3 b;generalize m/n=q at *;generalize m%n=r at *;simp only[sg,yq];have c:(-m)=n*(-((q+1:Nat):Int))+((n-r:Nat):Int):=g_;rw[c,Int.mul_add_ediv_left _ _ om];rw[Int.ediv_eq_zero_of_lt om om,Int.add_zero]
theorem Km(K)(a:K<=1073741822)(J:Bh K)(w)(x v)(z)(n)(h:zy w x z)(N:fe w v n)(W:n≠0)(F:z.natAbs<4294967296^K)(M:n<4294967296^K):
 C_ 140 #[x,v] w λe w'=>∃s,e=Xa s/\zy w' s (z/(n))/\b_ w w':=by
 obtain⟨b,a,l,c,rfl,P,D⟩:=h.parts;have L:Zh ((w.alloc<|cl #[G b,V a l c] 88).alloc<|cl #[G false,V_] 88) (w.heap.size+1) (G false) (V_):=by have:=Xm (w.alloc<|cl #[G b,V a l c] 88) (G false) (V_) 88;simpa using this
 have C:Zh ((w.alloc<|cl _ 88).alloc<|cl #[G false,V_] 88) _ (G b) (V a l c):=(Xm w _ _ _).alloc _;have i:=vI w (cl #[G b,V a l c] 88)<|cl #[G false,V_] 88;have a2:z.natAbs/n<4294967296^K:=qu (xR _ _) F;cases b with |false=>(have I:0<=z:=by have:=D.out;simp at this;omega);go_enter func140,ntmps140;go_wp2_with fail;apply(J _ _ _ _ n ((P.alloc _).alloc _) ((N.alloc _).alloc _) F M).mono;rintro e R ⟨s,a0,rfl,u,t,a⟩;have⟨X,Y,Z,p3,p4⟩:=C.below a;go_wp2_with fail;refine(Jh _ _ _ _ u).mono<|eP λB a1 g f=>?_;rw[(zf<|zoi I).out]at g;obtain⟨l,k,A,m,rfl,y,o⟩:=g.parts;have d:=i.trans<|a.mono i.size;have⟨b,c,S,T,U⟩:=(L.below a).below f;go_wp2;exact zH (by simp[results,results140,go_sem,b,c]) rfl ⟨_,rfl,QJ y o b c,((d.trans<|f.mono d.size).setCell sp _).setCell sp _⟩ |true=>(have I:z<0:=by have:=D.out;simp at this;omega);by_cases D:z.natAbs%n=0;{go_enter func140,ntmps140;go_wp2_with fail;apply(J _ _ _ _ n ((P.alloc _).alloc _) ((N.alloc _).alloc _) F M).mono;rintro e R ⟨s,a0,rfl,u,t,a⟩;rw[D]at t;have⟨X,Y,Z,p3,p4⟩:=C.below a;go_wp2_with fail;apply(JR _ _ t).mono;rintro e Q ⟨rfl,rfl⟩;go_wp2_with fail;refine(Jh _ _ _ _ u).mono<|eP λB a1 g f=>?_;rw[(zf<|xd W I D).out]at g;obtain⟨l,k,A,m,rfl,y,o⟩:=g.parts;have d:=i.trans<|a.mono i.size;have p:=d.trans<|f.mono d.size;have⟨b,c,S,T,U⟩:=(L.below a).below f;go_wp2;exact zH (by simp[results,results140,go_sem,b,c]) rfl ⟨_,rfl,QJ y o b c,(p.setCell sp _).setCell sp _⟩};have j:=zf<|vY W I D;go_enter func140,ntmps140;go_wp2_with fail;apply(J _ _ _ _ n ((P.alloc _).alloc _) ((N.alloc _).alloc _) F M).mono;rintro e R ⟨s,a0,rfl,u,t,a⟩;have r:=C.below a;have⟨X,Y,Z,p3,p4⟩:=r;go_wp2_with fail;refine(jW _ _ _ t D).mono<|fB ?_;go_wp2_with fail;refine(Hq _ _ 1 sp om).mono<|eP λF _ t r=>?_;go_wp2_with fail;refine(uD _ _ _ _ 1 _ (u.below r) t (zK a2<|gI om) (zK dc<|gI<|show 1<=K+1 by omega) om).mono<|eP λI _ D t=>?_;have u:=((C.below a).below r).below t;have⟨_,_,_,_,_⟩:=u;go_wp2_with fail;refine(Jh _ _ _ _ D).mono<|eP λB a1 g f=>?_;rw[j.out]at g;obtain⟨l,k,A,m,rfl,y,o⟩:=g.parts;have q:=(((L.below a).below r).below t).below f;have d:=i.trans<|a.mono i.size;have a:=d.trans<|r.mono d.size;have d:=a.trans<|t.mono a.size;have p:=d.trans<|f.mono d.size;have⟨b,c,S,T,U⟩:=q;go_wp2;exact zH (by simp[results,results140,go_sem,b,c]) rfl ⟨_,rfl,QJ y o b c,(p.setCell sp _).setCell sp _⟩
theorem Tb(a b):(Jy a b<0↔a<b)/\(Jy a b=0↔a=b):=by rcases Mt a b with h|h|h;{rw[Dj h];omega};{rw[Gm h];omega};rw[Db h];omega
theorem KU(w)(x y)(z t)(K)(a:K<=1073741823)(h:zy w x z)(k:zy w y t)(F:z.natAbs<4294967296^K)(B:t.natAbs<4294967296^K):
 C_ 46 #[x,y] w λe w'=>∃c,e=Xa (i_ c)/\(c<0↔z<t)/\(c=0↔z=t)/\-2<=c/\c<=2/\b_ w w':=by
 have I:=h;have L:=k;obtain⟨b,f,l,i,rfl,C,u⟩:=h.parts;obtain⟨c,g,m,j,rfl,D,v⟩:=k.parts;have r:=vI w (cl #[G b,V f l i] 88)<|cl #[G c,V g m j] 88;have A:∀a b,-2<=Jy a b/\Jy a b<=2:=by intro a b;unfold Jy;split;{omega};omega
 by_cases s:b=c;{subst s;have J:(b == b)=true:=sp;cases b with |true=>(have q:z<0:=by have:=u.out;simp at this;omega);(have p:t<0:=by have:=v.out;simp at this;omega);have o:=Tb t.natAbs z.natAbs;(have d:Hid ((Jy t.natAbs z.natAbs<0↔z<t)/\(Jy t.natAbs z.natAbs=0↔z=t)):=by rw[Hid,o.1,o.2];omega);have a:=zf<|A t.natAbs z.natAbs;go_enter func46,ntmps46;go_wp2_with fail;refine(fX _ _ _ _ _ K ((D.alloc _).alloc _) ((C.alloc _).alloc _) B F om).mono ?_;rintro e N ⟨rfl,M,rfl⟩;go_wp2;go_ret;exact⟨_,rfl,d.out.1,d.out.2,a.out.1,a.out.2,Ld r⟩ |false=>(have q:0<=z:=by have:=u.out;simp at this;omega);(have p:0<=t:=by have:=v.out;simp at this;omega);have o:=Tb z.natAbs t.natAbs;(have d:Hid ((Jy z.natAbs t.natAbs<0↔z<t)/\(Jy z.natAbs t.natAbs=0↔z=t)):=by rw[Hid,o.1,o.2];omega);have a:=zf<|A z.natAbs t.natAbs;go_enter func46,ntmps46;go_wp2_with fail;refine(fX _ _ _ _ _ K ((C.alloc _).alloc _) ((D.alloc _).alloc _) F B om).mono ?_;rintro e N ⟨rfl,M,rfl⟩;go_wp2;go_ret;exact⟨_,rfl,d.out.1,d.out.2,a.out.1,a.out.2,Ld r⟩};have J:(b == c)=false:=g_;(have B:Zh ((w.alloc<|cl #[G b,V f l i] 88).alloc<|cl #[G c,V g m j] 88) (w.heap.size+1) (G c) (V g m j):=by have:=Xm (w.alloc<|cl #[G b,V f l i] 88) (G c) (V g m j) 88;simpa using this);have A:Zh ((w.alloc<|cl _ 88).alloc<|cl #[G c,V g m j] 88) _ (G b) (V f l i):=(Xm w _ _ _).alloc _;have C:-1<=z.sign/\z.sign<=1/\-1<=t.sign/\t.sign<=1:=g_;(have d:Hid ((z.sign-t.sign<0↔z<t)/\(z.sign-t.sign=0↔z=t)):=by have a:=u.out;have o:=v.out;rw[Hid];by_cases q:z<0;{grind};grind);obtain⟨_,_,_,_⟩:=C;(have q:Hid (IntKind.i64.wrap (z.sign-t.sign)=z.sign-t.sign):=by rw[Hid];have a:-2<=z.sign-t.sign/\z.sign-t.sign<=2:=om;generalize z.sign-t.sign=o at a;simp[IntKind.wrap,IntKind.signed,IntKind.bits];omega);go_enter func46,ntmps46;go_wp2;go_region_held (λw'=>w'.cell? (y_ w 0)=E (G b)/\w'.cell? (y_ w 1)=E (V f l i)/\w'.cell? (x_ w 0)=E (G c)/\w'.cell? (x_ w 1)=E (V g m j)) (go_keep) (first|(go_at_call_of 87 (G b);refine(ig _ _ z<|by exact zy.drewN ((I.alloc _).alloc _) 1).mono<|eU λs a=>?_;have o:=A.drew.below a;obtain⟨_,_,_,_,_⟩:=o;have o:=B.drew.below a;obtain⟨_,_,_,_,_⟩:=o)|(go_at_call_of 87 (G c);refine(ig _ _ t<|by exact(zy.drewN ((L.alloc _).alloc _) 1).below a).mono<|eU λu o=>?_;have p:=(A.drew.below a).below o;obtain⟨_,_,_,_,_⟩:=p;have p:=(B.drew.below a).below o;obtain⟨_,_,_,_,_⟩:=p));have p:=r.trans<|Below.mono ⟨a.os,a.tape,a.output,a.size,a.block⟩ r.size;have a:=p.trans<|o.mono p.size;go_wp2;go_ret;exact⟨_,AH am,d.out.1,d.out.2,om,om,a⟩
def uG (q:Nat):Nat:=if q=1 then 0 else q
def Qa (w:H)(x:Value)(p:Int)(q:Nat):Prop:=
 ∃b v u,x=ag #[G b,v,u]/\fe w v p.natAbs/\Hid (b=decide (p<0))/\fe w u (uG q)/\0<q/\Hid (R8 p.natAbs q=1)
theorem Qa.below(h:Qa w x p q)(hb:b_ w w'):Qa w' x p q:=by have⟨b,v,u,a,c,d,e,f⟩:=h;exact⟨b,v,u,a,c.below hb,d,e.below hb,f⟩
theorem Qa.alloc(h:Qa w x p q)(o):Qa (w.alloc o) x p q:=h.below ((qf _ _).alloc (zh _) o)
theorem Qa.drew(h:Qa w x p q):Qa w.drew x p q:=h
theorem Qa.parts(h:Qa w x p q):∃b a l cap c e d,x=ag #[G b,V a l cap,V c e d]/\fe w (V a l cap) p.natAbs/\Hid (b=decide (p<0))/\fe w (V c e d) (uG q)/\0<q/\Hid (R8 p.natAbs q=1):=by have⟨b,_,_,i,f,j,g,k⟩:=h;obtain⟨a,l,cap,rfl⟩:=f.slice;obtain⟨c,e,d,rfl⟩:=g.slice;grind
def QQ (w:H)(g:Nat)(x y z:Value):Prop:=
 w.cell? (Xd g 0 O)=E x/\w.cell? (Xd g 1 O)=E y/\w.cell? (Xd g 2 O)=E z/\w.frozen? (Xd g 0 O)=false/\w.frozen? (Xd g 1 O)=false/\w.frozen? (Xd g 2 O)=false/\g<w.heap.size
theorem QQ.below{z}(h:QQ w g x y z)(hb:b_ w w'):QQ w' g x y z:=by have⟨b,c,d,e,f,i,a⟩:=h;exact⟨(hb.cell a).trans b,(hb.cell a).trans c,(hb.cell a).trans d,(hb.frozen a).trans e,(hb.frozen a).trans f,(hb.frozen a).trans i,zK a hb.size⟩
theorem QQ.new(w:H)(x y z)(t):QQ (w.alloc (cl #[x,y,z] t)) w.heap.size x y z:=by refine⟨?_,?_,?_,?_,?_,?_,?_⟩<;>simp
abbrev Xn:=@QQ.new
theorem QQ.alloc{z}(h:QQ w g x y z)(o):QQ (w.alloc o) g x y z:=h.below ((qf _ _).alloc (zh _) o)
theorem QQ.drew{z}(h:QQ w g x y z):QQ w.drew g x y z:=h
theorem QQ.drewN{z}(h:QQ w g x y z)(q):QQ (w.drewN q) g x y z:=h
theorem QQ.gE(w:H)(A)(x y z)(t):QQ ((w.alloc A).alloc (cl #[x,y,z] t)) (w.heap.size+1) x y z:=by have:=Xn (w.alloc A) x y z t;simpa using this
abbrev Xy:=@QQ.gE
theorem QQ.yV(w:H)(A B)(x y z)(t):QQ (((w.alloc A).alloc B).alloc (cl #[x,y,z] t)) (w.heap.size+1+1) x y z:=by have:=Xn ((w.alloc A).alloc B) x y z t;simpa using this
theorem Zh.gE(w:H)(A)(x y)(t):Zh ((w.alloc A).alloc (cl #[x,y] t)) (w.heap.size+1) x y:=by have:=Xm (w.alloc A) x y t;simpa using this
theorem Bu{e:Bool}{c d:Nat}{u:Value}(k:fe w v p.natAbs)(hb:Hid (b=decide (p<0)))(j:fe w u (uG q))(i:0<q)(hg:Hid (R8 p.natAbs q=1))(f:w.cell? (Xd g 0 O)=E (G e))(h1:w.cell? (Xd g 1 O)=E (V a h c))(h2:w.cell? (Xd g 2 O)=E (V a1 l1 d)):
 Qa (((w.setCell (Xd g 0 O) (G b)).setCell (Xd g 1 O) v).setCell (Xd g 2 O) u) (ag #[G b,v,u]) p q:=by
 have e:(w.setCell (Xd g 0 O)<|G b).cell? (Xd g 1 O)=E (V a h c):=by rw[zA _ _ _ _ sp];exact h1
 have a:((w.setCell (Xd g 0 O)<|G b).setCell (Xd g 1 O) v).cell? (Xd g 2 O)=E (V a1 l1 d):=by rw[zA _ _ _ _ sp,zA _ _ _ _ sp];exact h2
 exact⟨b,v,u,rfl,((k.setCell f sp _).setCell e sp _).setCell a sp _,hb,((j.setCell f sp _).setCell e sp _).setCell a sp _,i,hg⟩
theorem IL(w)(x)(z)(h:zy w x z):
 C_ 207 #[x] w λe w'=>∃s,e=Xa s/\Qa w' s z 1/\b_ w w':=by obtain⟨b,a,l,c,rfl,f,d⟩:=h.parts;go_enter func207,ntmps207;go_wp2;exact zH (v:=ag #[G b,V a l c,V_]) (by simp[results,results207,go_sem]) rfl ⟨_,rfl,⟨b,_,_,rfl,(f.alloc _).alloc _,d,Xo _ _ _,om,Nat.gcd_one_right _⟩,vI w _ _⟩
theorem Kl(w)(x)(p)(h:Qa w x p 1):
 C_ 181 #[x] w λe w'=>e=Xa (G true)/\b_ w w':=by obtain⟨_,_,_,_,_,_,_,rfl,_,_,a,_,_⟩:=h.parts;rw[show uG 1=0 from rfl]at a;go_enter func181,ntmps181;go_wp2_with fail;refine(JR _ _<|a.alloc _).mono<|fB ?_;go_wp2;go_ret;exact⟨rfl,(qf _ _).alloc (zh _) _⟩
theorem Dm(a:0<q)(h1:q≠1):uG q=q/\uG q≠0:=by unfold uG;rw[zO h1];omega
theorem Ku(w)(x)(p)(q)(h:Qa w x p q)(h1:q≠1):
 C_ 181 #[x] w λe w'=>e=Xa (G false)/\b_ w w':=by obtain⟨_,_,_,_,_,_,_,rfl,_,_,b,a,_⟩:=h.parts;go_enter func181,ntmps181;go_wp2_with fail;refine(jW _ _ _ (b.alloc _) (Dm a h1).2).mono<|fB ?_;go_wp2;go_ret;exact⟨rfl,(qf _ _).alloc (zh _) _⟩
theorem R4(w)(x)(p)(q)(h:Qa w x p q):
 C_ 177 #[x] w λe w'=>e=Xa (i_ p.sign)/\b_ w w':=by obtain⟨b,c,l,f,d,k,g,rfl,j,i,_,_,_⟩:=h.parts;have a:b_ w (w.alloc<|cl #[G b,V c l f,V d k g] 194):=(qf _ _).alloc (zh _) _;go_enter func177,ntmps177;go_wp2_with fail;refine(ig _ _ p ⟨b,_,rfl,j.alloc _,i⟩).mono<|eU λw' b=>?_;go_wp2;go_ret;exact⟨rfl,a.trans<|b.mono a.size⟩
theorem Dh(w)(x)(p)(q)(h:Qa w x p q):
 C_ 257 #[x] w λe w'=>∃v,e=Xa v/\fe w' v q/\b_ w w':=by have j:=h;obtain⟨d,a,l,f,c,i,g,rfl,_,_,k,o,_⟩:=h.parts;have b:b_ w (w.alloc<|cl #[G d,V a l f,V c i g] 194):=(qf _ _).alloc (zh _) _;by_cases c:q=1;{subst c;go_enter func257,ntmps257;go_wp2_with fail;refine(Kl _ _ p<|j.alloc _).mono<|eU λw' a=>?_;go_wp2_with fail;refine(Hq _ _ 1 sp om).mono<|eP λd v g f=>?_;go_wp2;go_ret;have d:=b.trans<|a.mono b.size;exact⟨_,rfl,g,d.trans<|f.mono d.size⟩};rw[(Dm o c).1]at k;go_enter func257,ntmps257;go_wp2_with fail;refine(Ku _ _ p q (j.alloc _) c).mono<|eU λw' a=>?_;have c:=(Xn _ _ _ _ _).below a;have⟨_,_,_,_,_,_,_⟩:=c;go_wp2;go_ret;exact⟨_,rfl,(k.alloc _).below a,b.trans<|a.mono b.size⟩
theorem QQ.h_{z u}(b:QQ w g x y z)(a:h≠g):QQ (w.setCell (Xd h o O) u) g x y z:=by obtain⟨c,d,e,f,i,j,k⟩:=b;exact⟨by rw[Go.Proofs.YtfbkaflfnjinaaaGreatDoor.h_ a];omega,by rw[Go.Proofs.YtfbkaflfnjinaaaGreatDoor.h_ a];omega,by rw[Go.Proofs.YtfbkaflfnjinaaaGreatDoor.h_ a];omega,by simp_all,by simp_all,by simp_all,by simp_all⟩
theorem Og(b:n≠0):0<R8 z.natAbs n/\0<n/R8 z.natAbs n/\R8 (z/(R8 z.natAbs n)).natAbs (n/R8 z.natAbs n)=1:=by
 have a:0<R8 z.natAbs n:=Nat.gcd_pos_of_pos_right _<|Z3 b;refine⟨a,Nat.div_pos (Bl (Z3 b)<|wv _ _) a,?_⟩;have b:(z/(R8 z.natAbs n:Int)).natAbs=z.natAbs/R8 z.natAbs n:=by rw[Int.natAbs_ediv_of_dvd];{simp};exact BV.2 (vq _ _)
 rw[b];rw[Nat.gcd_div (vq _ _)<|wv _ _,Nat.div_self a]
theorem Kw(w)(x v)(z)(n)(h:zy w x z)(p:fe w v n)(r:0<n)(hg:Hid (R8 z.natAbs n=1)):
 C_ 284 #[x,v] w λe w'=>∃s,e=Xa s/\Qa w' s z n/\b_ w w':=by have d:=h;obtain⟨b,a,l,c,rfl,S,J⟩:=h.parts;obtain⟨y,W,B,rfl⟩:=p.slice;have m:Zh ((w.alloc<|cl _ 88).alloc<|cl #[G false,V_,V_] 194) _ (G b) (V a l c):=(Xm _ _ _ _).alloc _;have j:QQ ((w.alloc<|cl #[G b,V a l c] 88).alloc<|cl _ 194) _ (G false) (V_) (V_):=Xy _ _ _ _ _ _;have i:=vI w (cl #[G b,V a l c] 88)<|cl #[G false,V_,V_] 194;by_cases k:n=1;{subst k;go_enter func284,ntmps284;go_wp2_with fail;refine(LW _ _<|(p.alloc _).alloc _).mono ?_;rintro e w' ⟨rfl,rfl⟩;go_wp2_with fail;refine(IL _ _ z<|(d.alloc _).alloc _).mono<|eP λd s q o=>?_;obtain⟨A,t,X,T,u,Y,U,rfl,M,N,P,Q,R⟩:=q.parts;have L:=j.below o;have K:=i.trans<|o.mono i.size;obtain⟨d,f,g,C,D,F,I⟩:=L;clear o q m j;go_wp2;exact zH (by simp[results,results284,go_sem,d,f,g]) rfl ⟨_,rfl,Bu M N P Q R d f g,((K.setCell sp _).setCell sp _).setCell sp _⟩};have q:=(Dm r k).1;have o:=(p.alloc<|cl #[G b,V a l c] 88).alloc<|cl #[G false,V_,V_] 194;have p:=(S.alloc<|cl #[G b,V a l c] 88).alloc<|cl #[G false,V_,V_] 194;have t:=zf q;clear q;go_enter func284,ntmps284;go_wp2_with fail;refine(LR _ _ _ o k).mono<|eU λw' k=>?_;rw[<-k]at o p m j i;clear k;obtain⟨_,_,_,_,_⟩:=m;obtain⟨d,f,g,C,D,F,I⟩:=j;go_wp2;exact zH (by simp[results,results284,go_sem,d,f,g]) rfl ⟨_,rfl,Bu p J (by rw[t.out];exact o) r hg d f g,((i.setCell sp _).setCell sp _).setCell sp _⟩
theorem K4(K)(hK:K<=1073741822)(X:Bh K)(w)(x v)(z)(n)(h:zy w x z)(I:fe w v n)(hn:n≠0)(hz:z.natAbs<4294967296^K)(Z:n<4294967296^K):
 C_ 256 #[x,v] w λe w'=>∃s,e=Xa s/\Qa w' s (z/(R8 z.natAbs n)) (n/R8 z.natAbs n)/\b_ w w':=by have W:=h;obtain⟨o,m,r,q,rfl,hx,hb⟩:=h.parts;obtain⟨_,_,_,rfl⟩:=I.slice;have aw:Zh ((w.alloc<|cl _ 88).alloc<|cl #[G false,V_,V_] 194) _ (G o) (V m r q):=(Xm _ _ _ _).alloc _;have ai:QQ ((w.alloc<|cl #[G o,V m r q] 88).alloc<|cl _ 194) _ (G false) (V_) (V_):=Xy _ _ _ _ _ _;have Q:=vI w (cl #[G o,V m r q] 88)<|cl #[G false,V_,V_] 194;by_cases h1:n=1;{subst h1;have u:R8 z.natAbs 1=1:=Nat.gcd_one_right _;rw[u,Nat.div_self om,Hu,Int.ediv_one];go_enter func256,ntmps256;go_wp2_with fail;refine(LW _ _<|(I.alloc _).alloc _).mono ?_;rintro e w' ⟨rfl,rfl⟩;go_wp2_with fail;refine(IL _ _ z<|(W.alloc _).alloc _).mono<|eP λw2 s t c=>?_;obtain⟨a,b,f,d,a3,l3,k3,rfl,a0,a1,aI,aJ,aK⟩:=t.parts;have D:=ai.below c;have au:=Q.trans<|c.mono Q.size;obtain⟨i,j,k,J,L,M,N⟩:=D;go_wp2;exact zH (by simp[results,results256,go_sem,i,j,k]) rfl ⟨_,rfl,Bu a0 a1 aI aJ aK i j k,((au.setCell sp _).setCell sp _).setCell sp _⟩};obtain⟨_,ak,aB⟩:=Og (z:=z) hn;have aE:R8 z.natAbs n<=n:=Bl (Z3 hn)<|wv _ _;have an:=qu aE Z;have aH:uG _=if n/R8 _ n=1 then 0 else n/R8 z.natAbs n:=rfl;generalize aC:R8 z.natAbs n=y at *;have HG:=zf aC;have ad:=zf aB;have aQ:=zf aH;go_enter func256,ntmps256;go_wp2_with fail;refine(LR _ _ _ ((I.alloc _).alloc _) h1).mono<|fB ?_;go_wp2_with fail;refine(MB _ _ z<|(W.alloc _).alloc _).mono<|eP λw2 sv t c=>?_;go_wp2_with fail;refine(N6 K om X _ _ _ _ n t (((I.alloc _).alloc _).below c) hz Z).mono<|eP λw3 gv F av=>?_;rw[HG.out]at F;have A:Below ((w.alloc<|cl _ 88).alloc<|cl #[G _,V_,V_] 194).heap.size ((w.alloc<|cl _ 88).alloc<|cl #[G _,V_,V_] 194) _:=c.trans<|av.mono c.size;have ap:=((I.alloc _).alloc _).below A;have aP:=((hx.alloc _).alloc _).below A;have aq:=((W.alloc _).alloc _).below A;have ah:=aw.below A;have aj:=ai.below A;have P:=Q.trans<|A.mono Q.size;by_cases al:y=1;{subst al;rw[Nat.div_one,Hu,Int.ediv_one]at *;obtain⟨p0,p1,p2,p3,B⟩:=ah;obtain⟨i,j,k,J,L,M,N⟩:=aj;go_wp2_with fail;refine(LW _ _ F).mono ?_;rintro e w4 ⟨rfl,rfl⟩;go_wp2_with fail;refine(Kw _ _ _ z n ⟨o,_,rfl,aP,hb⟩ ap ak ad).mono<|eP λw9 s t c=>?_;obtain⟨U,S,l5,k5,T,l6,k6,rfl,a7,a8,a9,aa,ab⟩:=t.parts;have Y:=P.trans<|c.mono P.size;have D:=QQ.below ⟨i,j,k,J,L,M,N⟩ c;obtain⟨i,j,k,J,L,M,N⟩:=D;go_wp2;exact zH (v:=ag #[G U,V S l5 k5,V T l6 k6]) (by simp[results,results256,go_sem,i,j,k]) rfl ⟨_,rfl,by rw[Hu,Int.ediv_one,Nat.div_one];exact Bu a7 a8 a9 aa ab i j k,((Y.setCell sp _).setCell sp _).setCell sp _⟩};have aD:y≠0:=om;obtain⟨p0,p1,p2,p3,B⟩:=ah;go_wp2_with fail;refine(LR _ _ _ F al).mono<|fB ?_;go_wp2_with fail;refine(Km K hK X _ _ _ z y aq F aD hz an).mono<|eP λg fv aA l=>?_;have ar:=P.trans<|l.mono P.size;have ax:=aj.below l;have aN:=ap.below l;have aF:=F.below l;have R:=(l.cell (p:=(y_ w 0)) B).trans p0;have q1:=(l.cell (p:=(y_ w 1)) B).trans p1;have q2:=(l.frozen (p:=(y_ w 0)) B).trans p2;have q3:=(l.frozen (p:=(y_ w 1)) B).trans p3;have q4:=zK B l.size;obtain⟨a,b,f,d,rfl,a0,a1⟩:=aA.parts;(have u:(g.setCell (y_ w 0)<|G a).cell? (y_ w 1)=E (V m r q):=by rw[zA _ _ _ _ sp];exact q1);have aL:=(a0.setCell R sp _).setCell u sp<|V b f d;have aO:=(aN.setCell R sp _).setCell u sp<|V b f d;have aG:=(aF.setCell R sp _).setCell u sp<|V b f d;have ay:QQ ((g.setCell (y_ w 0)<|G a).setCell (y_ w 1)<|V b f d) _ _ _ _:=(ax.h_ om).h_ om;have ae:b_ w ((g.setCell (y_ w 0)<|G a).setCell (y_ w 1)<|V b f d):=(ar.setCell sp _).setCell sp _;(have r0:((g.setCell (y_ w 0)<|G a).setCell (y_ w 1)<|V b f d).cell? (y_ w 0)=E (G a):=by rw[zA _ _ _ _ sp];exact zN _ _ _ R);have r1:((g.setCell _ _).setCell _ _).cell? _=E (V b f d):=zN _ _ _ u;(have r4:w.heap.size<((g.setCell (y_ w 0)<|G a).setCell (y_ w 1)<|V b f d).heap.size:=by simpa using q4);go_wp2_with fail;refine(X _ _ _ n y aO aG Z an).mono ?_;rintro e w7 ⟨_,rv,rfl,hq,_,C⟩;have az:=ay.below C;have aM:=aL.below C;have af:=ae.trans<|C.mono ae.size;have s0:=(C.cell r4).trans r0;have s1:=(C.cell r4).trans r1;obtain⟨_,_,_,rfl⟩:=hq.slice;go_wp2_with fail;refine(Kw _ _ _ _ _ ⟨a,_,rfl,aM,a1⟩ hq ak ad).mono<|eP λw9 s t c=>?_;obtain⟨U,S,l5,k5,T,l6,k6,rfl,a7,a8,a9,aa,ab⟩:=t.parts;have D:=az.below c;have Y:b_ w _:=af.trans<|c.mono af.size;obtain⟨i,j,k,J,L,M,N⟩:=D;go_wp2;exact zH (by simp[results,results256,go_sem,i,j,k]) rfl ⟨_,rfl,Bu a7 a8 a9 aa ab i j k,((Y.setCell sp _).setCell sp _).setCell sp _⟩
theorem Zh.yV(w:H)(A B)(x y)(t):Zh (((w.alloc A).alloc B).alloc (cl #[x,y] t)) (w.heap.size+1+1) x y:=by have:=Xm ((w.alloc A).alloc B) x y t;simpa using this
theorem VF(h:Below B w.drew w'):Below B w w':=⟨h.os,h.tape,h.output,h.size,h.block⟩
theorem ND(w)(x y)(p r)(q s J K)(a0:J+K<=1073741823)(h:Qa w x p q)(k:Qa w y r s)(hp:p.natAbs<4294967296^J)(hs:s<4294967296^K):
 C_ 255 #[x,y] w λe w'=>∃t,e=Xa t/\zy w' t (p*(s))/\b_ w w':=by have h0:=h;have k0:=k;obtain⟨b,c,l,d,m,F,B,rfl,Z,T,_,_,_⟩:=h.parts;obtain⟨u,o,I,C,g,j,i,rfl,_,_,Y,ad,_⟩:=k.parts;have W:QQ (((w.alloc<|cl _ 194).alloc<|cl #[G u,V o I C,V g j i] 194).alloc<|cl #[G false,V_] 88) _ (G b) (V c l d) (V m F B):=((Xn _ _ _ _ _).alloc _).alloc _;have a7:QQ (((w.alloc<|cl #[G b,V c l d,V m F B] 194).alloc<|cl _ 194).alloc<|cl #[G false,V_] 88) _ (G u) (V o I C) (V g j i):=(Xy _ _ _ _ _ _).alloc _;have X:Zh (((w.alloc<|cl #[G b,V c l d,V m F B] 194).alloc<|cl #[G u,V o I C,V g j i] 194).alloc<|cl _ 88) _ (G false) (V_):=Zh.yV _ _ _ _ _ _;have M:=xe w (cl #[G b,V c l d,V m F B] 194) (cl #[G u,V o I C,V g j i] 194)<|cl #[G false,V_] 88;by_cases Q:s=1;{subst Q;rw[Hu,Nd];go_enter func255,ntmps255;go_wp2_with fail;refine(Kl _ _ r<|((k0.alloc _).alloc _).alloc _).mono<|eU λP a=>?_;have af:=(((Z.alloc _).alloc _).alloc _).below a;have D:=W.below a;have S:=X.below a;obtain⟨p0,p1,p2,p3,p4,p5,p6⟩:=D;obtain⟨z,A,f0,f1,g0⟩:=S;have L:=M.trans<|a.mono M.size;go_wp2;exact zH (by simp[results,results255,go_sem,z,A]) rfl ⟨_,rfl,QJ af T z A,(L.setCell so _).setCell so _⟩};go_enter func255,ntmps255;go_wp2_with fail;refine(Ku _ _ r s (((k0.alloc _).alloc _).alloc _) Q).mono<|eU λP a=>?_;rw[(Dm ad Q).1]at Y;have ai:zy P _ p:=⟨b,_,rfl,(((Z.alloc _).alloc _).alloc _).below a,T⟩;have ae:=(((Y.alloc _).alloc _).alloc _).below a;have D:=W.below a;have R:=a7.below a;have S:=X.below a;have L:=M.trans<|a.mono M.size;have a4:=D;obtain⟨p0,p1,p2,p3,p4,p5,p6⟩:=a4;have a8:=R;obtain⟨_,_,_,_,_,_,_⟩:=a8;go_wp2;go_region_held (λw'=>w'.cell? (y_ w 0)=E (G b)/\w'.cell? (y_ w 1)=E (V c l d)/\w'.cell? (x_ w 2)=E (V g j i)) (first|(refine⟨?_,?_,?_⟩<;>(rw[h_,h_]<;>first|omega|omega))|go_keep) (first|(go_at_call 125;refine(Fm _ _ s am).mono<|eP λwA ov ho f=>?_;have a5:=D.drew.below f;obtain⟨_,_,_,_,_,_,_⟩:=a5;have a9:=R.drew.below f;obtain⟨_,_,_,_,_,_,_⟩:=a9)|(go_at_call 136;refine(AZ _ _ _ p _ J K a0 (by exact(ai.drewN 1).below f) ho hp om).mono<|eP λwB _ hy N=>?_;obtain⟨b2,a2,l2,k2,rfl,ah,a1⟩:=hy.parts;have a6:=(D.drew.below f).below N;obtain⟨_,_,_,_,_,_,_⟩:=a6;have aa:=(R.drew.below f).below N;obtain⟨_,_,_,_,_,_,_⟩:=aa;have ab:=(S.drew.below f).below N;obtain⟨z,A,f0,f1,g0⟩:=ab));have U:=L.trans<|(VF f).mono L.size;have a3:=U.trans<|N.mono U.size;go_wp2;exact zH (by simp[results,results255,go_sem,z,A]) rfl ⟨_,rfl,QJ ah a1 z A,(a3.setCell so _).setCell so _⟩
theorem pR{Z a}{N b:Nat}(hb:0<b)(h:a*(N)=Z*(b:Int))(hg:R8 a.natAbs b=1)(e:0<N):Z/(R8 Z.natAbs N)=a/\N/R8 Z.natAbs N=b:=by
 have c:a.natAbs*N=Z.natAbs*b:=by have:=qm Int.natAbs h;simpa[sn]using this
 have d:b ∣ N:=by have:b ∣ a.natAbs*N:=⟨Z.natAbs,by grind⟩;exact Nat.Coprime.dvd_of_dvd_mul_left (Nat.Coprime.symm hg) this
 obtain⟨k,rfl⟩:=d;have f:0<k:=Z3 g_;have c:Z=a*k:=by (have:(Z-a*k)*b=0:=by rw[Int.sub_mul,<-h,J0];grind);rcases Int.mul_eq_zero.1 this with h|h;{omega};omega
 have d:Z.natAbs=a.natAbs*k:=by rw[c,sn];simp
 have e:R8 Z.natAbs (b*k)=k:=by rw[d,Nat.gcd_mul_right,hg,Jv]
 rw[e];refine⟨?_,Nat.mul_div_cancel _ f⟩;rw[c];exact Int.mul_ediv_cancel _ om
theorem xN(h:R8 p.natAbs q=1)(hs:R8 s q=1):R8 (p*(s)+r*(q)).natAbs q=1:=by
 have a:Int.gcd (p*s+r*q) q=Int.gcd _ q:=Int.gcd_add_mul_right_left _ _ _;have b:R8 (p*s).natAbs q=1:=by rw[sn,Q9];exact Nat.Coprime.mul_left h hs
 simpa[Int.gcd]using a.trans b
theorem xP{a b}(h:R8 p.natAbs q=1)(k:R8 r.natAbs s=1)(e:q=g*a)(hs:s=g*b)(c:R8 a b=1):R8 (p*(b)+r*(a)).natAbs (a*b)=1:=by have d:R8 _ a=1:=Nat.Coprime.coprime_dvd_right ⟨g,g_⟩ h;have a:=xN (r:=p) (Nat.Coprime.coprime_dvd_right ⟨g,g_⟩ k) c;rw[Int.add_comm]at a;exact Nat.Coprime.mul_right (xN d<|(F6 _ _).trans c) a
theorem Ac(h:R8 p.natAbs q=1)(k:R8 r.natAbs s=1)(a:R8 q s=1):R8 (p*(s)+r*(q)).natAbs (q*s)=1:=xP h k (Jv _).symm (Jv _).symm a
theorem AK(b:0<q):q=R8 q s*(q/R8 q s)/\s=R8 q s*(s/R8 q s)/\R8 (q/R8 q s) (s/R8 q s)=1/\0<R8 q s/\0<q/R8 q s:=by have a:0<R8 q s:=Nat.gcd_pos_of_pos_left _ b;refine⟨(Nat.mul_div_cancel'<|vq _ _).symm,(Nat.mul_div_cancel'<|wv _ _).symm,?_,a,Nat.div_pos (Bl b<|vq _ _) a⟩;rw[Nat.gcd_div (vq _ _)<|wv _ _,Nat.div_self a]
theorem oT(b:n≠0):0<R8 z.natAbs n/\0<n/R8 z.natAbs n/\R8 (z/(R8 z.natAbs n)).natAbs (n/R8 z.natAbs n)=1:=by
 have a:0<R8 z.natAbs n:=Nat.gcd_pos_of_pos_right _<|Z3 b;refine⟨a,Nat.div_pos (Bl (Z3 b)<|wv _ _) a,?_⟩;have b:(z/(R8 z.natAbs n:Int)).natAbs=z.natAbs/R8 z.natAbs n:=by rw[Int.natAbs_ediv_of_dvd];{simp};exact BV.2 (vq _ _)
 rw[b];rw[Nat.gcd_div (vq _ _)<|wv _ _,Nat.div_self a]
theorem iz:(z/(R8 z.natAbs n)).natAbs ∣ z.natAbs:=by
 have a:(z/(R8 z.natAbs n:Int)).natAbs=z.natAbs/R8 z.natAbs n:=by rw[Int.natAbs_ediv_of_dvd];{simp};exact BV.2 (vq _ _)
 rw[a];exact Nat.div_dvd_of_dvd (vq _ _)
theorem pD:(z/(R8 z.natAbs n))*(R8 z.natAbs n)=z:=Int.ediv_mul_cancel (BV.2<|vq _ _)
theorem AF{a b d:Nat}{U:Int}(h:R8 p.natAbs q=1)(k:R8 r.natAbs s=1)(o:q=g*a)(hs:s=g*b)(v:R8 a b=1)(hg:0<g)(l:U=p*(b:Int)+r*(a:Int))(w:d=R8 U.natAbs g):
 R8 (U/(d:Int)).natAbs (g/d*a*b)=1/\(U/(d:Int))*((q*s:Nat):Int)=(p*(s:Int)+r*(q:Int))*((g/d*a*b:Nat):Int):=by have m:=xP h k o hs v;rw[<-l]at m;obtain⟨t,u,e⟩:=oT (n:=g) om;have f:(U/(R8 _ g))*(R8 _ g)=U:=pD;have i:(U/(R8 _ g)).natAbs ∣ U.natAbs:=iz;have j:g/R8 _ g*R8 U.natAbs g=g:=Nat.div_mul_cancel<|wv _ _;rw[<-w]at t u e f i j;refine⟨?_,?_⟩;{rw[Zt];exact Nat.Coprime.mul_right e<|Nat.Coprime.coprime_dvd_left i m};generalize U/d=x at *;generalize g/d=c at *;subst o hs j;grind
theorem yU{a b}(h:R8 p.natAbs q=1)(k:R8 r.natAbs s=1)(c:0<q)(hs:0<s)(v:a=R8 p.natAbs s)(w:b=R8 r.natAbs q):
 R8 (p/(a)*(r/(b))).natAbs (s/a*(q/b))=1/\(p/(a)*(r/(b)))*((q*s:Nat))=(p*r)*((s/a*(q/b):Nat)):=by obtain⟨m,o,e⟩:=oT (n:=s) om;obtain⟨t,u,i⟩:=oT (n:=q) om;have f:(p/(R8 _ s))*(R8 _ s)=p:=pD;have j:(r/(R8 _ q))*(R8 _ q)=r:=pD;have g:(p/(R8 _ s)).natAbs ∣ p.natAbs:=iz;have l:(r/(R8 _ q)).natAbs ∣ r.natAbs:=iz;have c:s/R8 _ s*R8 p.natAbs s=s:=Nat.div_mul_cancel<|wv _ _;have d:q/R8 _ q*R8 r.natAbs q=q:=Nat.div_mul_cancel<|wv _ _;rw[<-v]at m o e f g c;rw[<-w]at t u i j l d;refine⟨?_,?_⟩;{rw[sn];exact Nat.Coprime.mul_left (Nat.Coprime.mul_right e<|Nat.Coprime.coprime_dvd_left g<|Nat.Coprime.coprime_dvd_right ⟨b,d.symm⟩ h)<|Nat.Coprime.mul_right (Nat.Coprime.coprime_dvd_left l<|Nat.Coprime.coprime_dvd_right ⟨a,c.symm⟩ k) i};generalize p/a=e at *;generalize r/b=e at *;generalize s/a=a at *;generalize q/b=e at *;rw[<-f,<-j,<-c,<-d];grind
theorem yZ(K)(R:K<=1073741822)(S:Bh K)(w)(x)(p)(q)(h:Qa w x p q)(T:p.natAbs<4294967296^K)(W:q<4294967296^K):
 C_ 179 #[x] w λe w'=>∃t,e=Xa t/\zy w' t (p/(q))/\b_ w w':=by have y:=h;obtain⟨b,c,l,d,a,g,f,rfl,B,z,A,U,_⟩:=h.parts;have k:QQ ((w.alloc<|cl _ 194).alloc<|cl #[G false,V_] 88) _ (G b) (V c l d) (V a g f):=(Xn _ _ _ _ _).alloc _;have m:Zh ((w.alloc<|cl #[G b,V c l d,V a g f] 194).alloc<|cl _ 88) _ (G false) (V_):=Zh.gE _ _ _ _ _;have j:=vI w (cl #[G b,V c l d,V a g f] 194)<|cl #[G false,V_] 88;by_cases s:q=1;{subst s;go_enter func179,ntmps179;go_wp2_with fail;refine(Kl _ _ p<|(y.alloc _).alloc _).mono<|eU λr a=>?_;have X:=((B.alloc _).alloc _).below a;have u:=k.below a;have o:=m.below a;obtain⟨C,D,F,I,J,L,M⟩:=u;obtain⟨f,g,N,P,Q⟩:=o;have i:=j.trans<|a.mono j.size;clear a k m;go_wp2;exact zH (v:=ag #[G b,V c l d]) (by simp[results,results179,go_sem,f,g]) rfl ⟨_,rfl,by rw[Hu,Int.ediv_one];exact QJ X z f g,(i.setCell sp _).setCell sp _⟩};rw[(Dm U s).1]at A;go_enter func179,ntmps179;go_wp2_with fail;refine(Ku _ _ p q ((y.alloc _).alloc _) s).mono<|eU λr a=>?_;have s:zy r _ p:=⟨b,_,rfl,((B.alloc _).alloc _).below a,z⟩;have b:=((A.alloc _).alloc _).below a;have u:=k.below a;have o:=m.below a;obtain⟨C,D,F,I,J,L,M⟩:=u;have i:=j.trans<|a.mono j.size;clear a k m;go_wp2_with fail;refine(Km K R S _ _ _ p q s b om T W).mono<|eP λs _ j a=>?_;obtain⟨c,b,r,m,rfl,l,d⟩:=j.parts;have k:=o.below a;have j:=i.trans<|a.mono i.size;obtain⟨f,g,N,P,Q⟩:=k;clear a C D F I J L M o;go_wp2;exact zH (by simp[results,results179,go_sem,f,g]) rfl ⟨_,rfl,QJ l d f g,(j.setCell sp _).setCell sp _⟩
theorem Qa.setCell(h:Qa w x p q){a}(c:w.cell? a=E y)(b:∀k,y≠it .u32 k)(t):Qa (w.setCell a t) x p q:=by have⟨d,v,u,e,f,g,i,j⟩:=h;exact⟨d,v,u,e,f.setCell c b t,g,i.setCell c b t,j⟩
theorem R9{a b K}(c:a<4294967296^K)(hb:b<4294967296^K):a*b<4294967296^(K+K):=by rw[Q6];exact Nat.mul_lt_mul'' c hb
theorem KI{b K:Nat}(a:z.natAbs<4294967296^K)(hb:b<4294967296^K):(z*(b)).natAbs<4294967296^(K+K):=by rw[sn,Q9];exact R9 a hb
def kS (w:H)(b c:Bool)(ao U4 bo RC:A_)(l cap l' DR m So m' KB:Nat)(p r:Int)(q s:Nat)(wc:H):Prop:=
 QQ wc w.heap.size (G b) (V ao l cap) (V U4 l' DR)/\QQ wc (w.heap.size+1) (G c) (V bo m So) (V RC m' KB)/\QQ wc (w.heap.size+1+1) (G false) (V_) (V_)/\Qa wc (ag #[G b,V ao l cap,V U4 l' DR]) p q/\Qa wc (ag #[G c,V bo m So,V RC m' KB]) r s/\b_ w wc/\w.heap.size+1+1<wc.heap.size
theorem kS.below{f:A_}{v:H}(h:kS w b c a d e f l cap k g m i o j p r q s u)(hb:b_ u v):kS w b c a d e f l cap k g m i o j p r q s v:=by obtain⟨d,e,f,g,i,a,j⟩:=h;exact⟨d.below hb,e.below hb,f.below hb,g.below hb,i.below hb,a.trans<|hb.mono a.size,zK j hb.size⟩
theorem kS.alloc{f:A_}(h:kS w b c a d e f l cap k g m i t j p r q s u)(o:Obj):kS w b c a d e f l cap k g m i t j p r q s (u.alloc o):=h.below ((qf _ _).alloc (zh _) o)
theorem kS.setCell{f:A_}{A:Nat}(h:kS w b c a d e f l cap A i m j B t p r q s u)(hg:w.heap.size+1+1<g)(z:u.cell? (Xd g o O)=E y)(v:∀k,y≠it .u32 k)(x:Value):
 kS w b c a d e f l cap A i m j B t p r q s (u.setCell (Xd g o O) x):=by obtain⟨a,d,e,f,i,j,t⟩:=h;exact⟨a.h_ om,d.h_ om,e.h_ om,f.setCell z v x,i.setCell z v x,j.setCell so x,by simp_all⟩
theorem Zh.stored{c:A_}{e d:Nat}(h:Zh w g (G f) (V c e d)):Zh ((w.setCell (Xd g 0 O) (G b)).setCell (Xd g 1 O) (V a l k)) g (G b) (V a l k):=by
 obtain⟨f,i,j,m,o⟩:=h;have p:(w.setCell (Xd g 0 O)<|G b).cell? (Xd g 1 O)=E (V c e d):=by rw[zA _ _ _ _ sp];exact i
 refine⟨?_,zN _ _ _ p,by simp_all,by simp_all,by simp_all⟩;rw[zA _ _ _ _ sp];exact zN _ _ _ f
theorem zy.stored(m:zy w x z){c:A_}{e d:Nat}(h:Zh w g (G f) (V c e d)):zy ((w.setCell (Xd g 0 O) (G b)).setCell (Xd g 1 O) (V a l k)) x z:=by
 have⟨f,i,_,_,_⟩:=h;have j:(w.setCell (Xd g 0 O)<|G b).cell? (Xd g 1 O)=E (V c e d):=by rw[zA _ _ _ _ sp];exact i
 exact(m.setCell f sp _).setCell j sp _
theorem kS.stored{f i:A_}{v y:Nat}(A:kS w b c d e f i l cap v j m k y o p r q s u){z b1:Bool}{x:Nat}(h:Zh u g (G z) (V a x t))(hg:w.heap.size+1+1<g):
 kS w b c d e f i l cap v j m k y o p r q s ((u.setCell (Xd g 0 O) (G b1)).setCell (Xd g 1 O) (V a1 l1 k1)):=by
 obtain⟨d,e,_,_,_⟩:=h;have f:(u.setCell (Xd g 0 O)<|G b1).cell? (Xd g 1 O)=E (V a x t):=by rw[zA _ _ _ _ sp];exact e
 exact(A.setCell hg d sp _).setCell hg f sp _
def ni (w:H)(g:Nat)(p:Int)(q:Nat):Prop:=
 ∃b a l k a' l' k',QQ w g (G b) (V a l k) (V a' l' k')/\Qa w (ag #[G b,V a l k,V a' l' k']) p q
abbrev iQ (w:H)(g:Nat)(x y z:Value):H:=((w.setCell (Xd g 0 O) x).setCell (Xd g 1 O) y).setCell (Xd g 2 O) z
abbrev fW (w:H)(g:Nat):Prop:=QQ w g (G false) (V_) (V_)
theorem ni.below(h:ni w g p q)(hb:b_ w w'):ni w' g p q:=by obtain⟨c,a,l,k,b,i,f,d,e⟩:=h;exact⟨c,a,l,k,b,i,f,d.below hb,e.below hb⟩
theorem QQ.written{d:Bool}{c b:Nat}(h:QQ w g (G d) (V a c b) (V a1 l1 k1))(x y z:Value):QQ (iQ w g x y z) g x y z:=by
 obtain⟨d,e,f,j,k,l,m⟩:=h;have i:(w.setCell (Xd g 0 O) x).cell? (Xd g 1 O)=E (V a c b):=by rw[zA _ _ _ _ sp];exact e
 have a:((w.setCell (Xd g 0 O) x).setCell (Xd g 1 O) y).cell? (Xd g 2 O)=E (V a1 l1 k1):=by rw[zA _ _ _ _ sp,zA _ _ _ _ sp];exact f
 refine⟨?_,?_,zN _ _ _ a,by simp_all,by simp_all,by simp_all,by simp_all⟩;{rw[zA _ _ _ _ sp,zA _ _ _ _ sp];exact zN _ _ _ d};rw[zA _ _ _ _ sp];exact zN _ _ _ i
theorem fe.iQ(h:fe w v n){d:Bool}{c b:Nat}(hb:QQ w g (G d) (V a c b) (V a1 l1 k1))(x y z:Value):fe (Go.Proofs.YtfbkaflfnjinaaaGreatDoor.iQ w g x y z) v n:=by
 obtain⟨d,e,f,_,_,_,_⟩:=hb;have i:(w.setCell (Xd g 0 O) x).cell? (Xd g 1 O)=E (V a c b):=by rw[zA _ _ _ _ sp];exact e
 have a:((w.setCell (Xd g 0 O) x).setCell (Xd g 1 O) y).cell? (Xd g 2 O)=E (V a1 l1 k1):=by rw[zA _ _ _ _ sp,zA _ _ _ _ sp];exact f
 exact((h.setCell d sp _).setCell i sp _).setCell a sp _
theorem Qa.iQ(h:Qa w v p q){d c:Nat}(hb:QQ w g (G b) (V a d c) (V a1 l1 k1))(x y z:Value):Qa (Go.Proofs.YtfbkaflfnjinaaaGreatDoor.iQ w g x y z) v p q:=by obtain⟨b,v,u,a,c,d,e,f⟩:=h;exact⟨b,v,u,a,c.iQ hb x y z,d,e.iQ hb x y z,f⟩
theorem QQ.oz{z u t}(b:QQ w g x y z)(a:h≠g):QQ (iQ w h u v t) g x y z:=((b.h_ a).h_ a).h_ a
theorem kK(h:Below B w w')(hg:B<=g)(x y z):Below B w (iQ w' g x y z):=((h.setCell hg x).setCell hg y).setCell hg z
theorem ID{o}{p}(h:w.cell? p=E v):(w.alloc o).cell? p=E v:=(((qf _ w).alloc (zh _) o).cell<|zw h).trans h
def BM (w:H)(g5 g6:Nat)(b5 b6:Bool)(a5 VT a6 Vi:A_)(l5 k5 Ts SP l6 k6 Se Uz:Nat)(p r:Int)(q s:Nat)(wc:H):Prop:=
 QQ wc g5 (G b5) (V a5 l5 k5) (V VT Ts SP)/\QQ wc g6 (G b6) (V a6 l6 k6) (V Vi Se Uz)/\fW wc (w.heap.size+1+1)/\Qa wc (ag #[G b5,V a5 l5 k5,V VT Ts SP]) p q/\Qa wc (ag #[G b6,V a6 l6 k6,V Vi Se Uz]) r s/\b_ w wc
theorem BM.below{e:Bool}{b c:A_}{x:Nat}{v:H}(h:BM w g5 g e f a b c d m i o j t k x l p r q s u)(hb:b_ u v):BM w g5 g e f a b c d m i o j t k x l p r q s v:=by obtain⟨b,c,d,e,f,a⟩:=h;exact⟨b.below hb,c.below hb,d.below hb,e.below hb,f.below hb,a.trans<|hb.mono a.size⟩
theorem Qa.kZ{u}(h:Qa w (ag #[G b,v,u]) p q):zy w (ag #[G b,v]) p:=by have⟨_,_,_,a,c,d,_⟩:=h;simp only[EN,Array.mk.injEq,Dd,Value.bool.injEq,Bg]at a;obtain⟨rfl,rfl,rfl⟩:=a;exact⟨_,_,rfl,c,d⟩
def Ext (w w':H):Prop:=b_ w w'
theorem Ext.refl(w):Ext w w:=qf _ _
abbrev Xe:=@Ext.refl
theorem Ext.alloc(h:Ext w w')(o):Ext w (w'.alloc o):=Below.alloc h h.size o
theorem gE(w)(o):(w.alloc o).heap[w.heap.size]? =E o/\Ext w (w.alloc o):=⟨by show(w.heap.push o)[w.heap.size]? =E o;simp,(Xe w).alloc o⟩
theorem Ext.drew(h:Ext w w'):Ext w w'.drew:=⟨h.os,h.tape,h.output,h.size,h.block⟩
theorem Ext.trans{v}(h:Ext u v)(k:Ext v w):Ext u w:=Qg h (k.mono h.size)
abbrev Xj:=@Ext.trans
theorem Ext.of{v}(h:b_ u v):Ext u v:=h
abbrev Xg:=@Ext.of
theorem Ext.size(h:Ext w w'):w.heap.size<=w'.heap.size:=Below.size h
abbrev vr (w:H)(g:Nat)(x y:Value):H:=(w.setCell (Xd g 0 O) x).setCell (Xd g 1 O) y
theorem Ext.vr(h:Ext w w')(hg:w.heap.size<=g)(x y):Ext w (Go.Proofs.YtfbkaflfnjinaaaGreatDoor.vr w' g x y):=(Below.setCell h hg x).setCell hg y
theorem Ext.iQ(h:Ext w w')(hg:w.heap.size<=g)(x y z):Ext w (Go.Proofs.YtfbkaflfnjinaaaGreatDoor.iQ w' g x y z):=kK h hg x y z
theorem Ext.cell(h:Ext w w'){p}(a:w.cell? p=E v):w'.cell? p=E v:=(Below.cell h<|zw a).trans a
abbrev yE:Obj:=cl #[G false,V_,V_] 194
theorem fW.one(w:H):fW (w.alloc yE) w.heap.size:=Xn w _ _ _ _
theorem fW.D6(w:H)(o):fW ((w.alloc yE).alloc o) w.heap.size:=QQ.alloc (Xn w _ _ _ _) o
theorem fW.two(w:H)(o):fW ((w.alloc o).alloc yE) (w.heap.size+1):=Xy w o _ _ _ _
theorem fW.Fv(w:H):fW (w.alloc yE).drew w.heap.size:=fW.one w
theorem fW.Kv(w:H)(o):fW ((w.alloc yE).alloc o).drew w.heap.size:=fW.D6 w o
theorem fW.Rm(w:H)(o):fW ((w.alloc o).alloc yE).drew (w.heap.size+1):=fW.two w o
abbrev gX (w:H)(g:Nat):Prop:=Zh w g (G false) (V_)
theorem gX.one(w:H):gX (w.alloc (cl #[G false,V_] 88)) w.heap.size:=Xm w _ _ _
theorem gX.Fv(w:H):gX (w.alloc (cl #[G false,V_] 88)).drew w.heap.size:=Xm w _ _ _
theorem gX.ext{v}(hb:Ext u v)(h:gX u g):gX v g:=Zh.below h hb
theorem fW.ext{v}(hb:Ext u v)(h:fW u g):fW v g:=QQ.below h hb
abbrev Xz:=@fW.ext
theorem QQ.ext{v}{z}(h:QQ u g x y z)(hb:Ext u v):QQ v g x y z:=QQ.below h hb
theorem fe.ext{v}(h:fe u x n)(hb:Ext u v):fe v x n:=h.below hb
theorem zy.ext{v}{n}(h:zy u x n)(hb:Ext u v):zy v x n:=h.below hb
theorem Qa.ext{v}(h:Qa u x p q)(hb:Ext u v):Qa v x p q:=h.below hb
theorem kS.ext{f:A_}{v:H}(h:kS w b c a d e f l cap k g m i o j p r q s u)(hb:Ext u v):kS w b c a d e f l cap k g m i o j p r q s v:=h.below hb
def Aj (w:H)(p r:Int)(q s:Nat)(s5 s6:Value)(wc:H):Prop:=
 ∃g5 g6,s5=p_ g5 0/\s6=p_ g6 0/\ni wc g5 p q/\ni wc g6 r s/\fW wc (w.heap.size+1+1)/\b_ w wc/\w.heap.size+1+1<g5/\w.heap.size+1+1<g6
theorem Cf{a:Nat}{d k:Bool}{b c i j:A_}{e f x:Nat}(B:Qa u (ag #[G d,V b g e,V c h f]) p q)(C:Qa u (ag #[G k,V i o l,V j x m]) r s)(D:fW u (w.heap.size+1+1))(hb:b_ w u)(y:fW u g5)(J:fW u a)(A:g5≠a)(F:w.heap.size+1+1<g5)(I:w.heap.size+1+1<a):
 Aj w p r q s (p_ g5 0) (p_ a 0) (iQ (iQ u g5 (G d) (V b g e) (V c h f)) a (G k) (V i o l) (V j x m)):=by have z:=J.oz (u:=G d) (v:=V b g e) (t:=V c h f) A;refine⟨_,a,rfl,rfl,⟨d,b,g,e,c,h,f,(y.written _ _ _).oz λe=>A e.symm,(B.iQ y _ _ _).iQ z _ _ _⟩,⟨k,i,o,l,j,x,m,z.written _ _ _,(C.iQ y _ _ _).iQ z _ _ _⟩,(D.oz om).oz om,kK (kK hb om _ _ _) om _ _ _,F,I⟩
theorem sH{j:Bool}{b h i:A_}{f d e:Nat}{t:TypeId}(B:Qa u (ag #[G c,V a f d,V b g e]) p q)(C:Qa u (ag #[G j,V h m k,V i o l]) r s)(z:fW u (w.heap.size+1+1))(hb:b_ w u)(v:fW u g5)(D:w.heap.size+1+1<g5):
 Aj w p r q s (p_ g5 0) (p_ u.heap.size 0) ((iQ u g5 (G c) (V a f d) (V b g e)).alloc (cl #[G j,V h m k,V i o l] t)):=by have x:=kK hb (show w.heap.size<=g5 by omega) (G c) (V a f d)<|V b g e;have y:=Xn (iQ u g5 (G c) (V a f d)<|V b g e) (G j) (V h m k) (V i o l) t;have A:(iQ u g5 (G c) (V a f d)<|V b g e).heap.size=u.heap.size:=sp;rw[A]at y;exact⟨_,_,rfl,rfl,⟨c,a,f,d,b,g,e,(v.written _ _ _).alloc _,(B.iQ v _ _ _).alloc _⟩,⟨j,h,m,k,i,o,l,y,(C.iQ v _ _ _).alloc _⟩,(z.oz om).alloc _,x.alloc x.size _,D,z.2.2.2.2.2.2⟩
theorem yC{a:Nat}{g:Bool}{b c:A_}{v:Nat}{t:TypeId}(x:Qa u (ag #[G f,V b l h,V c m i]) p q)(y:Qa u (ag #[G g,V d o j,V e v k]) r s)(z:fW u (w.heap.size+1+1))(hb:b_ w u)(B:fW u a)(A:w.heap.size+1+1<a):
 Aj w p r q s (p_ u.heap.size 0) (p_ a 0) ((iQ u a (G g) (V d o j) (V e v k)).alloc (cl #[G f,V b l h,V c m i] t)):=by obtain⟨g,c,a,b,d,e,f,h,i,j⟩:=sH (t:=t) y x z hb B A;exact⟨c,g,b,a,e,d,f,h,j,i⟩
theorem rV{e:Bool}{b c:A_}{v:Nat}{t:TypeId}(x:Qa u (ag #[G e,V a l h,V b m i]) p q)(y:Qa u (ag #[G f,V c o j,V d v k]) r s)(g:fW u (w.heap.size+1+1))(hb:b_ w u):
 Aj w p r q s (p_ u.heap.size 0) (p_ (u.heap.size+1) 0) ((u.alloc (cl #[G e,V a l h,V b m i] t)).alloc (cl #[G f,V c o j,V d v k] t)):=⟨_,_,rfl,rfl,⟨e,a,l,h,b,m,i,(Xn _ _ _ _ _).alloc _,(x.alloc _).alloc _⟩,⟨f,c,o,j,d,v,k,Xy _ _ _ _ _ _,(y.alloc _).alloc _⟩,(g.alloc _).alloc _,(hb.alloc hb.size _).alloc (zF hb.size sp) _,g.2.2.2.2.2.2,Nat.lt_succ_of_lt g.2.2.2.2.2.2⟩
theorem wI{e:Bool}{b c:A_}{t:TypeId}(v:Qa u (ag #[G e,V a k g,V b l h]) p q)(x:Qa u (ag #[G f,V c m i,V d o j]) r s)(y:fW u (w.heap.size+1+1))(hb:b_ w u):
 Aj w p r q s (p_ (u.heap.size+1) 0) (p_ u.heap.size 0) ((u.alloc (cl #[G f,V c m i,V d o j] t)).alloc (cl #[G e,V a k g,V b l h] t)):=by obtain⟨g,c,a,b,d,e,f,h,i,j⟩:=rV x v y hb;exact⟨c,g,b,a,e,d,f,h,j,i⟩
theorem nH{W:H}{z:Value}(b:QQ W g x y z):W.cell? (Xd g 0 O)=E x/\W.cell? (Xd g 1 O)=E y/\W.cell? (Xd g 2 O)=E z:=⟨b.1,b.2.1,b.2.2.1⟩
theorem lP{W:H}{z u t:Value}(b:QQ W g x y z)(c:QQ W h u v t):W.cell? (Xd g 0 O)=E x/\W.cell? (Xd g 1 O)=E y/\W.cell? (Xd g 2 O)=E z/\W.cell? (Xd h 0 O)=E u/\W.cell? (Xd h 1 O)=E v/\W.cell? (Xd h 2 O)=E t:=⟨b.1,b.2.1,b.2.2.1,nH c⟩
theorem we(K)(hK:K+K<=1073741822)(hO:Bh (K+K))(w)(x y)(p r)(q s)(h:Qa w x p q)(k:Qa w y r s)(hp:p.natAbs<4294967296^K)(hr:r.natAbs<4294967296^K)(hq:q<4294967296^K)(hs:s<4294967296^K):
 C_ 270 #[x,y] w λe w'=>∃t,e=Xa t/\Qa w' t ((p*r)/(R8 (p*r).natAbs (q*s))) ((q*s)/R8 (p*r).natAbs (q*s))/\b_ w w':=by
 obtain⟨U,R,ae,Z,T,l',a0,rfl,hv,hb,hu,az,hg⟩:=h.parts;obtain⟨Y,W,af,a1,X,m',a4,rfl,b3,aH,b1,ay,aw⟩:=k.parts;have d:kS w U Y R T W X _ Z _ _ _ _ _ _ p r q s (((w.alloc<|cl _ 194).alloc<|cl _ 194).alloc<|cl _ 194):=⟨((Xn _ _ _ _ _).alloc _).alloc _,(Xy _ _ _ _ _ _).alloc _,QQ.yV _ _ _ _ _ _ _,((h.alloc _).alloc _).alloc _,((k.alloc _).alloc _).alloc _,xe w _ _ _,sp⟩;clear hv hb hu b3 aH b1 h k;obtain⟨a,hd1⟩:∃a,a=R8 p.natAbs s:=⟨_,rfl⟩;obtain⟨b,hd2⟩:∃b,b=R8 r.natAbs q:=⟨_,rfl⟩;have Q:=zf<|yU hg.out aw.out az ay hd1 hd2;have al:=zf hd1;have an:=zf hd2;have J:4294967296^K<=4294967296^(K+K):=ZD om om;have aR:=zK hp J;have aX:=zK hr J;have aT:=zK hq J;have b0:=zK hs J;obtain⟨w1,ak,wx⟩:=Og (z:=p) (n:=s) om;obtain⟨w2,aj,wy⟩:=Og (z:=r) (n:=q) om;rw[<-hd1]at w1 ak;rw[<-hd2]at w2 aj;have aG:=QE az ay;have aZ:s/a<4294967296^K:=qu (xR _ _) hs;have aS:q/b<4294967296^K:=qu (xR _ _) hq;have aL:(p/(a:Int)).natAbs<4294967296^K:=by refine qu ?_ hp;by_cases aK:p=0;{simp_all};rw[hd1];exact Bl om iz
 have aV:(r/(b:Int)).natAbs<4294967296^K:=by refine qu ?_ hr;by_cases aU:r=0;{subst aU;simp};rw[hd2];exact Bl om iz
 clear hd1 hd2 hg aw J w1 w2 wx wy;go_enter func270,ntmps270;go_wp2;generalize (((w.alloc<|cl #[G U,V R ae Z,V T l' a0] 194).alloc<|cl #[G Y,V W af a1,V X m' a4] 194).alloc<|cl #[G false,V_,V_] 194)=c at d⊢;have i0:=d.1;obtain⟨b4,b7,b8,b9,ba,bb,bc⟩:=i0;have j0:=d.2.1;obtain⟨bd,be,bf,bg,bh,bi,bj⟩:=j0;have aY:=d.2.2.2.2.2.2;have l0:c.heap.size<=c.heap.size:=zh _;have r0:c.heap.size<=c.heap.size+1:=Nat.le_succ _;go_cut [5,6] (λs5 s6 wc=>Aj w (p/(a:Int)) (r/(b:Int)) (s/a) (q/b) s5 s6 wc);case first=>rename_i aW J1 K1 bE bF;clear aW;go_region_held3 (λw'=>w'.cell? (y_ w 0)=E (G U)/\w'.cell? (y_ w 1)=E (V R ae Z)/\w'.cell? (y_ w 2)=E (V T l' a0)/\w'.cell? (x_ w 0)=E (G Y)/\w'.cell? (x_ w 1)=E (V W af a1)/\w'.cell? (x_ w 2)=E (V X m' a4)) (first|(refine⟨?_,?_,?_,?_,?_,?_⟩<;>first|(rw[h_,h_,h_]<;>first|with_reducible assumption|omega)|exact Ext.cell (w:=c) (by repeat(first|with_reducible exact Xe _|with_reducible assumption|with_reducible refine Ext.drew ?_|with_reducible refine Ext.alloc ?_ _|with_reducible refine Ext.iQ ?_ (by first|with_reducible assumption|omega) _ _ _))<|by with_reducible assumption)|go_keep) (first|(go_at_call 256;have _g:=a8;refine(K4 (K+K) hK hO _ _ _ r q (d.ext ee).2.2.2.2.1.kZ (a8.ext ee) om aX aT).mono<|eP λf tD i ad=>?_;have g:Ext A f:=Xj ee<|Xg ad;have nD:=ad.size;(try simp only[zL,World.size_drew]at nD);have mD:=g.size;have D:=Xj N g;have lD:=D.size;have rD:c.heap.size<=f.heap.size+1:=Nat.le_succ_of_le lD;rw[<-an.out]at i;have m:=F.ext<|j.trans g;obtain⟨b5,a5,l5,k5,ap,aC,aA,rfl,_,_,_,_,_⟩:=m.parts;obtain⟨b6,a6,l6,k6,aq,aD,aB,rfl,_,_,_,_,_⟩:=i.parts;(try(have bl:fW f c.heap.size:=(by refine Xz ((Xg a9).trans<|eB.trans<|j.trans g) ?_;first|with_reducible exact fW.Fv _|with_reducible exact fW.Kv _ _);have bv:=bl;obtain⟨_,_,_,_,_,_,_⟩:=bv));(try(have bn:fW f (c.heap.size+1):=(by refine Xz ((Xg a9).trans<|eB.trans<|j.trans g) ?_;first|with_reducible exact fW.Rm _ _);have bw:=bn;obtain⟨_,_,_,_,_,_,_⟩:=bw));(try(have bp:fW f o.heap.size:=(by refine Xz ((Xg aa).trans<|j.trans g) ?_;first|with_reducible exact fW.one _|with_reducible exact fW.D6 _ _);have bx:=bp;obtain⟨_,_,_,_,_,_,_⟩:=bx));(try(have bq:fW f (o.heap.size+1):=(by refine Xz ((Xg aa).trans<|j.trans g) ?_;first|with_reducible exact fW.two _ _);have bz:=bq;obtain⟨_,_,_,_,_,_,_⟩:=bz));(try(have br:fW f u.heap.size:=(by refine Xz ((Xg ab).trans g) ?_;first|with_reducible exact fW.one _|with_reducible exact fW.D6 _ _);have bA:=br;obtain⟨_,_,_,_,_,_,_⟩:=bA));(try(have bs:fW f (u.heap.size+1):=(by refine Xz ((Xg ab).trans g) ?_;first|with_reducible exact fW.two _ _);have bB:=bs;obtain⟨_,_,_,_,_,_,_⟩:=bB));(try(have bt:fW f A.heap.size:=(by refine Xz ((Xg ad).trans<|Xe _) ?_;first|with_reducible exact fW.one _|with_reducible exact fW.D6 _ _);have bC:=bt;obtain⟨_,_,_,_,_,_,_⟩:=bC));(try(have bu:fW f (A.heap.size+1):=(by refine Xz ((Xg ad).trans<|Xe _) ?_;first|with_reducible exact fW.two _ _);have bD:=bu;obtain⟨_,_,_,_,_,_,_⟩:=bD));skip)|(go_at_call 257;have _g:=F;refine(Dh _ _ p q (d.ext ee).2.2.2.1).mono<|eP λA tC a8 ab=>?_;have j:Ext u A:=Xj ee<|Xg ab;have nC:=ab.size;(try simp only[zL,World.size_drew]at nC);have mC:=j.size;have N:=Xj C j;have lC:=N.size;have rC:c.heap.size<=A.heap.size+1:=Nat.le_succ_of_le lC;skip)|(go_at_call 256;have _g:=a7;refine(K4 (K+K) hK hO _ _ _ p s (d.ext ee).2.2.2.1.kZ (a7.ext ee) om aR b0).mono<|eP λu tB F aa=>?_;have eB:Ext o u:=Xj ee<|Xg aa;have nB:=aa.size;(try simp only[zL,World.size_drew]at nB);have mB:=eB.size;have C:=Xj B eB;have lB:=C.size;have rB:c.heap.size<=u.heap.size+1:=Nat.le_succ_of_le lB;rw[<-al.out]at F)|(go_at_call 257;refine(Dh _ _ r s (d.ext ee).2.2.2.2.1).mono<|eP λo tA a7 a9=>?_;have eA:Ext c o:=Xj ee<|Xg a9;have nA:=a9.size;(try simp only[zL,World.size_drew]at nA);have mA:=eA.size;have B:=eA;have lA:=B.size;have rA:c.heap.size<=o.heap.size+1:=Nat.le_succ_of_le lA;skip));(all_goals go_wp2_with fail);(all_goals go_meet);(all_goals have M:=(d.ext D).2.2.1);(all_goals have L:=(d.ext D).2.2.2.2.2.1);(all_goals first|(with_reducible refine rV m i M L)|(with_reducible refine wI m i M L)|(with_reducible refine sH m i M L ?_ ?_)|(with_reducible refine yC m i M L ?_ ?_)|(with_reducible refine Cf m i M L ?_ ?_ ?_ ?_ ?_));all_goals first|with_reducible assumption|omega
 case rest=>obtain⟨g5,g6,rfl,rfl,⟨b5,a5,l5,k5,ap,aC,aA,x5,y5⟩,⟨b6,a6,l6,k6,aq,aD,aB,x6,y6⟩,hz,av,_,_⟩:=hcut;clear d b4 b7 b8 b9 ba bb bc bd be bf bg bh bi bj aY l0 r0;have ax:=pR (QE ak aj) Q.out.2 Q.out.1 aG;have HW:=zf ax;have HG:=zf Q.out.1;have aJ:=QE ak aj;clear ax Q al an;go_wp2;have l:=zf λaE (hW:Ext wc aE)=>lP (x5.ext hW)<|x6.ext hW;refine ZO (S:=λw'=>w'.cell? (Xd g5 0 O)=E (G b5)/\w'.cell? (Xd g5 1 O)=E (V a5 l5 k5)/\w'.cell? (Xd g5 2 O)=E (V ap aC aA)/\w'.cell? (Xd g6 0 O)=E (G b6)/\w'.cell? (Xd g6 1 O)=E (V a6 l6 k6)/\w'.cell? (Xd g6 2 O)=E (V aq aD aB)) hm (l.out _ (Xe wc).drew) λI=>?_;have z0:Ext wc wc.drew:=(Xe wc).drew;refine fO [0,1,2,3,5,7] ?_;refine fV 4 (AZ _ _ _ (p/(a:Int)) (r/(b:Int)) K K om (y5.ext z0).kZ (y6.ext z0).kZ aL aV)<|eP λo tA a7 aI=>?_;have B:=z0.trans<|Xg aI;refine bk (l.out _ B) λI=>?_;refine fV 6 (Dh _ _ (p/(a:Int)) (s/a)<|y5.ext B)<|eP λu tB F ar=>?_;have C:=B.trans<|Xg ar;refine bk (l.out _ C) λI=>?_;refine fV 8 (Dh _ _ (r/(b:Int)) (q/b)<|y6.ext C)<|eP λA tC a8 ah=>?_;have N:=C.trans<|Xg ah;refine bk (l.out _ N) λI=>?_;refine fV 9 (iK _ _ _ (s/a) (q/b) K K (F.ext<|Xg ah) a8 aZ aS om)<|eP λf tD i au=>?_;have D:=N.trans<|Xg au;refine bk (l.out _ D) λI=>?_;refine fV 10 (Kw _ _ _ (p/(a:Int)*(r/(b:Int))) (s/a*(q/b)) (a7.ext<|((Xg ar).trans<|Xg ah).trans<|Xg au) i aJ HG)<|eP λwE _ aF ai=>?_;have P:=D.trans<|Xg ai;refine bk (l.out _ P) λI=>?_;obtain⟨c0,c1,c2,_,_,_,_⟩:=QQ.ext hz P;obtain⟨b2,a2,l2,k2,a3,l3,k3,rfl,aM,aN,aO,aP,aQ⟩:=aF.parts;refine fR 11 λK hK=>?_;go_simp;refine hK.out _ _ (lP ((x5.ext P).oz om)<|(x6.ext P).oz om) (h:=λ_=>?_);refine zV kr ?_ _;have ai:b_ w wE:=av.trans<|P.mono av.size;go_wp2;rw[HW.out.1,HW.out.2];exact zH (v:=ag #[G b2,V a2 l2 k2,V a3 l3 k3]) (by simp[results,results270,go_sem,c0,c1,c2]) rfl ⟨_,rfl,Bu aM aN aO aP aQ c0 c1 c2,((ai.setCell so _).setCell so _).setCell so _⟩
theorem AN(K M)(hK:K+K+1<=1073741822)(hM:M<=1073741822)(hO:Bh M)(w)(x y)(p r)(q s)(h:Qa w x p q)(k:Qa w y r s)(hp:p.natAbs<4294967296^K)(hr:r.natAbs<4294967296^K)(hq:q<4294967296^K)(hs:s<4294967296^K)(hZ:(p*s+r*q).natAbs<4294967296^M)(hN:q*s<4294967296^M):
 C_ 269 #[x,y] w λe w'=>∃t,e=Xa t/\Qa w' t ((p*s+r*q)/(R8 (p*s+r*q).natAbs (q*s))) ((q*s)/R8 (p*s+r*q).natAbs (q*s))/\b_ w w':=by
 obtain⟨a7,ao,au,ad,a4,l',ae,rfl,hv,hb,hu,W,hg⟩:=h.parts;obtain⟨ab,bo,ax,af,aa,m',ah,rfl,ca,bZ,bM,aG,bD⟩:=k.parts;have R:kS w a7 ab ao a4 bo aa au ad l' ae ax af m' ah p r q s (((w.alloc<|cl #[G a7,V ao au ad,V a4 l' ae] 194).alloc<|cl #[G ab,V bo ax af,V aa m' ah] 194).alloc<|cl #[G false,V_,V_] 194):=
  ⟨((Xn _ _ _ _ _).alloc _).alloc _,(Xy _ _ _ _ _ _).alloc _,QQ.yV _ _ _ _ _ _ _,((h.alloc _).alloc _).alloc _,((k.alloc _).alloc _).alloc _,xe w _ _ _,sp⟩
 clear hv hb ca bZ h k;have c5:=KI hp hs;have c6:=KI hr hq;have bt:0<q*s:=QE W aG;have b0:q<4294967296^M:=qu (JM q aG) hN;have bL:s<4294967296^M:=qu (Jd s W) hN;go_enter func269,ntmps269
 go_wp2;generalize (((w.alloc<|cl #[G a7,V ao au ad,V a4 l' ae] 194).alloc<|cl #[G ab,V bo ax af,V aa m' ah] 194).alloc<|cl #[G false,V_,V_] 194)=w0 at R⊢;have Y:=zf λZ (hW:Ext w0 Z)=>lP (R.ext hW).1 (R.ext hW).2.1;have l:Ext w0 w0.drew:=(Xe w0).drew;refine ZO (S:=λw'=>w'.cell? (y_ w 0)=E (G a7)/\w'.cell? (y_ w 1)=E (V ao au ad)/\w'.cell? (y_ w 2)=E (V a4 l' ae)/\w'.cell? (x_ w 0)=E (G ab)/\w'.cell? (x_ w 1)=E (V bo ax af)/\w'.cell? (x_ w 2)=E (V aa m' ah)) hm (Y.out _ l) λa=>?_;refine fO [0,2] ?_;refine fV 1 (Dh _ _ p q (R.ext l).2.2.2.1)<|eP λi tA f ak=>?_;have c:=l.trans<|Xg ak;refine bk (Y.out _ c) λa=>?_
 refine fV 3 (Dh _ _ r s (R.ext c).2.2.2.2.1)<|eP λX tB D L=>?_;have j:=c.trans<|Xg L;refine bk (Y.out _ j) λa=>?_
 refine fV 4 (N6 M om hO _ _ _ q s (f.ext<|Xg L) D b0 bL)<|eP λwc tC J an=>?_;have zc:=j.trans<|Xg an;obtain⟨_,_,_,rfl⟩:=J.slice;refine bk (Y.out _ zc) λa=>?_
 refine fO [5] ?_;refine zV kr ?_ _;have b:=R.ext zc;have I:=zf λZ (hW:Ext wc Z)=>Y.out Z<|zc.trans hW;clear R l c j zc Y a f D ak L an;obtain⟨b3,b4,b5,b6,b7,b8,b9⟩:=b.1;obtain⟨ba,bb,bc,bd,be,bf,bg⟩:=b.2.1;have c9:=b.2.2.2.2.2.2;by_cases aS:R8 q s=1
 ·rw[aS]at J;have HG:Hid (R8 (p*s+r*q).natAbs (q*s)=1):=Ac hg.out bD.out aS;go_wp2_with fail
  refine(LW _ _ J).mono ?_;rintro e N ⟨rfl,rfl⟩;go_wp2;refine ZO (S:=λw'=>w'.cell? (y_ w 0)=E (G a7)/\w'.cell? (y_ w 1)=E (V ao au ad)/\w'.cell? (y_ w 2)=E (V a4 l' ae)/\w'.cell? (x_ w 0)=E (G ab)/\w'.cell? (x_ w 1)=E (V bo ax af)/\w'.cell? (x_ w 2)=E (V aa m' ah)) hm (I.out _ (Xe N).drew) λa=>?_;refine fO [0,1,3,4,7,9] ?_;have l:Ext N N.drew:=(Xe N).drew;refine fV 2 (ND _ _ _ p r q s K K om (b.ext l).2.2.2.1 (b.ext l).2.2.2.2.1 hp hs)<|eP λi tA f ak=>?_;have c:=l.trans<|Xg ak;refine bk (I.out _ c) λa=>?_
  refine fV 5 (ND _ _ _ r p s q K K om (b.ext c).2.2.2.2.1 (b.ext c).2.2.2.1 hr hq)<|eP λX tB D L=>?_;have j:=c.trans<|Xg L;refine bk (I.out _ j) λa=>?_
  refine fV 6 (FV _ _ _ (p*s) (r*q) (K+K) om (f.ext<|Xg L) D c5 c6)<|eP λwC tC ai an=>?_;have B:=j.trans<|Xg an;refine bk (I.out _ B) λa=>?_
  refine fV 8 (Dh _ _ p q (b.ext B).2.2.2.1)<|eP λwD tD aj ap=>?_;have m:=B.trans<|Xg ap;refine bk (I.out _ m) λa=>?_
  refine fV 10 (Dh _ _ r s (b.ext m).2.2.2.2.1)<|eP λQ tE F aN=>?_;have C:=m.trans<|Xg aN;refine bk (I.out _ C) λa=>?_
  refine fV 11 (iK _ _ _ q s K K (aj.ext<|Xg aN) F hq hs om)<|eP λwF _ bW bB=>?_;have zF:=C.trans<|Xg bB;refine bk (I.out _ zF) λa=>?_
  refine fV 12 (Kw _ _ _ (p*s+r*q) (q*s) (ai.ext<|((Xg ap).trans<|Xg aN).trans<|Xg bB) bW bt HG)<|eP λwG _ bX aO=>?_;have zG:=zF.trans<|Xg aO;refine bk (I.out _ zG) λa=>?_
  have aE:=b.ext zG;obtain⟨c0,c1,c2,f0,f1,f2,g0⟩:=aE.2.2.1;obtain⟨b2,a2,l2,k2,a3,l3,k3,rfl,aT,aV,aW,aX,aY⟩:=bX.parts;refine fR 13 λK hK=>?_;go_simp;refine hK.out _ _ (lP (aE.1.oz om)<|aE.2.1.oz om) (h:=λ_=>?_);refine zV kr ?_ _;have aO:=aE.2.2.2.2.2.1;go_wp2;rw[HG.out,Nat.div_one,Hu,Int.ediv_one];exact zH (v:=ag #[G b2,V a2 l2 k2,V a3 l3 k3]) (by simp[results,results269,go_sem,c0,c1,c2]) rfl ⟨_,rfl,Bu aT aV aW aX aY c0 c1 c2,
   ((aO.setCell so _).setCell so _).setCell so _⟩
 ·obtain⟨ay,n2,bQ,aH,n5⟩:=AK (s:=s) W;generalize aQ:R8 q s=g at *;have bI:q≠1:=by intro e;rw[e,Nat.gcd_one_left]at aQ;omega
  have bJ:s≠1:=by intro e;rw[e,Nat.gcd_one_right]at aQ;omega
  rw[(Dm W bI).1]at hu;rw[(Dm aG bJ).1]at bM;go_wp2_with fail
  refine(LR _ _ _ J aS).mono ?_;rintro e N ⟨rfl,rfl⟩;have bN:fe N (V a4 l' ae) q:=by
   have h1:=b.2.2.2.1.parts;obtain⟨_,_,_,_,_,_,_,e,_,_,h2,_,_⟩:=h1;simp only[EN,Array.mk.injEq,Dd,qp,Value.bool.injEq,Bg]at e;obtain⟨rfl,⟨rfl,rfl,rfl⟩,rfl,rfl,rfl⟩:=e;rwa [(Dm W bI).1]at h2
  have bO:fe N (V aa m' ah) s:=by
   have h1:=b.2.2.2.2.1.parts;obtain⟨_,_,_,_,_,_,_,e,_,_,h2,_,_⟩:=h1;simp only[EN,Array.mk.injEq,Dd,qp,Value.bool.injEq,Bg]at e;obtain⟨rfl,⟨rfl,rfl,rfl⟩,rfl,rfl,rfl⟩:=e;rwa [(Dm aG bJ).1]at h2
  clear hu bM;have aP:g<4294967296^M:=qu (Bl W ⟨_,ay⟩) b0;go_wp2_with fail
  refine(hO _ _ _ q g bN J b0 aP).mono ?_;rintro e w2 ⟨_,_,rfl,h6,h7,bu⟩;have az:Ext N w2:=bu;obtain⟨_,_,_,rfl⟩:=h6.slice;have i1:=(b.ext az).1;obtain⟨cc,cd,ce,cf,cg,ch,ci⟩:=i1;have j1:=(b.ext az).2.1;obtain⟨cj,ck,cm,cn,co,cp,cq⟩:=j1;go_wp2_with fail
  refine(hO _ _ _ s g (bO.ext az) (J.ext az) bL aP).mono ?_;rintro e P ⟨_,_,rfl,h8,h9,bv⟩;have bi:Ext w2 P:=bv;have bh:=az.trans bi;obtain⟨_,_,_,rfl⟩:=h8.slice;have aK:=h6.ext bi;have T:=b.ext bh;have bl:=J.ext bh;have cb:=T.2.2.2.2.2.2;clear bu bv h7 h9 az bi bh h6 b J bN bO b3 b4 b5 b6 b7 b8 b9 ba bb bc bd be bf bg c9 cc cd ce cf cg ch ci cj ck cm cn co cp cq;have i0:=T.1;obtain⟨b3,b4,b5,b6,b7,b8,b9⟩:=i0;have j0:=T.2.1;obtain⟨ba,bb,bc,bd,be,bf,bg⟩:=j0;go_wp2;obtain⟨U,hUd⟩:∃U:Int,U=p*((s/g:Nat):Int)+r*((q/g:Nat):Int):=⟨_,rfl⟩;obtain⟨d,hdd⟩:∃d,d=R8 U.natAbs g:=⟨_,rfl⟩;have bG:R8 (q/g) (s/g)=1:=bQ;have aF:=AF hg.out bD.out ay n2 bG aH hUd hdd;have b1:s/g<4294967296^K:=qu (xR _ _) hs;have aZ:q/g<4294967296^K:=qu (xR _ _) hq;have c7:(p*((s/g:Nat):Int)).natAbs<4294967296^(K+K):=KI hp b1;have c8:(r*((q/g:Nat):Int)).natAbs<4294967296^(K+K):=KI hr aZ;have bY:U.natAbs<4294967296^M:=by
   refine qu ?_ hZ;have e1:p*(s:Int)+r*(q:Int)=U*(g:Int):=by
    rw[hUd];conv=>lhs;rw[ay,n2]
    push_cast
    grind
   rw[e1,sn,Q9];exact JM _ aH
  have bC:0<d:=by rw[hdd];exact Nat.gcd_pos_of_pos_right _ aH
  have bE:0<g/d:=Nat.div_pos (by rw[hdd];exact Bl aH<|wv _ _) bC;have aR:g/d<=g:=xR _ _;have bF:g/d*(q/g)<=q:=by
   conv=>rhs;rw[ay]
   exact zZ _ aR
  have c3:g/d<4294967296^K:=qu (zF aR<|Bl W ⟨_,ay⟩) hq;have c4:g/d*(q/g)<4294967296^K:=qu bF hq;have bK:0<s/g:=Z3 (by intro e;rw[e,Ql]at n2;omega);have bH:0<g/d*(q/g)*(s/g):=QE (QE bE n5) bK;have HW:=zf<|pR bH aF.2 aF.1 bt;have bT:=zf aF.1;have bS:=zf hdd;have bV:=zf hUd;clear aF hdd hUd ay n2 bQ bG bF aR bC bE bK aQ hZ;have l0:P.heap.size<=P.heap.size:=zh _;go_cut [10] (λct w4=>∃(aJ:Nat) (u:Bool) (o:A_) (A z:Nat),ct=p_ aJ 0/\Zh w4 aJ (G u) (V o A z)/\zy w4 (ag #[G u,V o A z]) U/\Ext P w4)
  case first=>
   go_region_held3 (λw'=>w'.cell? (y_ w 0)=E (G a7)/\w'.cell? (y_ w 1)=E (V ao au ad)/\w'.cell? (x_ w 0)=E (G ab)/\w'.cell? (x_ w 1)=E (V bo ax af)) (first|(refine⟨?_,?_,?_,?_⟩<;>first|(rw[h_,h_,h_]<;>first|with_reducible assumption|omega)|exact Ext.cell (w:=P) (by repeat(first|with_reducible exact Xe _|with_reducible assumption|with_reducible refine Ext.drew ?_|with_reducible refine Ext.alloc ?_ _|with_reducible refine Ext.vr ?_ (by first|with_reducible assumption|omega) _ _|with_reducible refine Ext.iQ ?_ (by first|with_reducible assumption|omega) _ _ _))<|by with_reducible assumption)|go_keep) (first|(go_at_call 85;have _g:=aj;refine(FV _ _ _ (p*((s/g:Nat):Int)) (r*((q/g:Nat):Int)) (K+K) om (D.ext ee) (aj.ext ee) c7 c8).mono<|eP λQ tE F bA=>?_;have eE:Ext wD Q:=Xj ee<|Xg bA;have C:=Xj m eE;have cD:=Xj cC eE;have cF:=Xj cE eE;have cG:=Xj eD eE;have lE:=C.size;obtain⟨u,o,A,z,rfl,_,_⟩:=F.parts;(try(have o0:gX Q P.heap.size:=(by refine gX.ext ((Xg al).trans cD) ?_;with_reducible exact gX.Fv _);have q0:=o0;obtain⟨_,_,_,_,_⟩:=q0));(try(have oA:gX Q i.heap.size:=(by refine gX.ext ((Xg bw).trans cF) ?_;with_reducible exact gX.one _);have qA:=oA;obtain⟨_,_,_,_,_⟩:=qA));(try(have oB:gX Q X.heap.size:=(by refine gX.ext ((Xg bx).trans cG) ?_;with_reducible exact gX.one _);have qB:=oB;obtain⟨_,_,_,_,_⟩:=qB));(try(have oC:gX Q wC.heap.size:=(by refine gX.ext ((Xg bz).trans eE) ?_;with_reducible exact gX.one _);have qC:=oC;obtain⟨_,_,_,_,_⟩:=qC));(try(have oD:gX Q wD.heap.size:=(by refine gX.ext ((Xg bA).trans<|Xe _) ?_;with_reducible exact gX.one _);have qD:=oD;obtain⟨_,_,_,_,_⟩:=qD)))|(go_at_call 136;have _g:=ai;refine(AZ _ _ _ r ((q/g:Nat):Int) K K om (T.ext ee).2.2.2.2.1.kZ (ai.ext ee) hr (by rw[Q9];exact aZ)).mono<|eP λwD tD aj bz=>?_;have eD:Ext wC wD:=Xj ee<|Xg bz;have m:=Xj B eD;have cC:=Xj cB eD;have cE:=Xj eC eD;have lD:=m.size)|(go_at_call 125;have _g:=D;refine(Fm _ _ (q/g)<|aK.ext ee).mono<|eP λwC tC ai bx=>?_;have eC:Ext X wC:=Xj ee<|Xg bx;have B:=Xj j eC;have cB:=Xj eB eC;have lC:=B.size)|(go_at_call 136;have _g:=f;refine(AZ _ _ _ p ((s/g:Nat):Int) K K om (T.ext ee).2.2.2.1.kZ (f.ext ee) hp (by rw[Q9];exact b1)).mono<|eP λX tB D bw=>?_;have eB:Ext i X:=Xj ee<|Xg bw;have j:=Xj c eB;have lB:=j.size)|(go_at_call 125;refine(Fm _ _ (s/g)<|h8.ext ee).mono<|eP λi tA f al=>?_;have eA:Ext P i:=Xj ee<|Xg al;have c:=eA;have lA:=c.size))
   all_goals go_wp2_with fail
   all_goals go_meet
   all_goals rw[bV.out]
   all_goals first|exact⟨Q.heap.size,u,o,A,z,rfl,Xm _ _ _ _,F.alloc _,C.alloc _⟩|exact⟨wD.heap.size,u,o,A,z,rfl,oD.stored,F.stored oD,C.vr lD _ _⟩|exact⟨wC.heap.size,u,o,A,z,rfl,oC.stored,F.stored oC,C.vr lC _ _⟩|exact⟨X.heap.size,u,o,A,z,rfl,oB.stored,F.stored oB,C.vr lB _ _⟩|exact⟨i.heap.size,u,o,A,z,rfl,oA.stored,F.stored oA,C.vr lA _ _⟩|exact⟨P.heap.size,u,o,A,z,rfl,o0.stored,F.stored o0,C.vr l0 _ _⟩
  case rest=>
   obtain⟨aJ,u,o,A,z,rfl,bR,hU,aD⟩:=hcut;have bn:=bl.ext aD;have bp:=aK.ext aD;have br:=h8.ext aD;have aL:=T.ext aD;clear bl aK h8 T aD l0 b3 b4 b5 b6 b7 b8 b9 ba bb bc bd be bf bg cb;have cu:=bR;obtain⟨cv,cw,cx,cy,cz⟩:=cu;go_wp2_with fail
   refine(K4 M hM hO _ _ _ U g hU bn om bY aP).mono<|eP λi tA f al=>?_;rw[<-bS.out]at f;obtain⟨a9,a0,av,aq,a1,aw,ar,rfl,_,_,_,_,_⟩:=f.parts;have cH:=aL.2.2.2.2.2.2;have aI:Ext wc (i.alloc<|cl #[G a9,V a0 av aq,V a1 aw ar] 194):=Ext.alloc (Xg al) _;have cr:wc.heap.size<=i.heap.size:=al.size;have bq:=bp.ext aI;have bs:=br.ext aI;have aM:=aL.ext aI;have bP:=aM.2.2.1;have aC:QQ (i.alloc<|cl #[G a9,V a0 av aq,V a1 aw ar] 194) i.heap.size (G a9) (V a0 av aq) (V a1 aw ar):=Xn _ _ _ _ _;have bj:=f.alloc<|cl #[G a9,V a0 av aq,V a1 aw ar] 194;obtain⟨aB,hg11⟩:∃aB,i.heap.size=aB:=⟨_,rfl⟩;go_wp2;rw[hg11]at aC cr;clear al f bn bp br bR cv cw cx cy cz hU aL;generalize i.alloc (cl #[G a9,V a0 av aq,V a1 aw ar] 194)=w5 at aI bq bs aM bP aC bj⊢;clear hg11;have cA:=aC;obtain⟨_,_,_,_,_,_,_⟩:=cA;have aA:=zf λZ (hW:Ext w5 Z)=>nH<|aC.ext hW;refine ZO (S:=λw'=>w'.cell? (Xd aB 0 O)=E (G a9)/\w'.cell? (Xd aB 1 O)=E (V a0 av aq)/\w'.cell? (Xd aB 2 O)=E (V a1 aw ar)) hm (aA.out _ (Xe w5).drew) λa=>?_;refine fO [0,1,2,4,6] ?_;have l:Ext w5 w5.drew:=(Xe w5).drew;refine fV 3 (Dh _ _ (U/(d:Int)) (g/d)<|bj.ext l)<|eP λi tA f ak=>?_;have c:=l.trans<|Xg ak;refine bk (aA.out _ c) λa=>?_
   refine fV 5 (iK _ _ _ (g/d) (q/g) K K f (bq.ext c) c3 aZ om)<|eP λX tB D L=>?_;have j:=c.trans<|Xg L;refine bk (aA.out _ j) λa=>?_
   refine fV 7 (iK _ _ _ (g/d*(q/g)) (s/g) K K D (bs.ext j) c4 b1 om)<|eP λwC tC ai an=>?_;have B:=j.trans<|Xg an;refine bk (aA.out _ B) λa=>?_
   refine fV 8 (Kw _ _ _ (U/(d:Int)) (g/d*(q/g)*(s/g)) (bj.ext B).kZ ai bH bT)<|eP λwD tD aj ap=>?_;have m:=B.trans<|Xg ap;refine bk (aA.out _ m) λa=>?_
   obtain⟨c0,c1,c2,f0,f1,f2,g0⟩:=bP.ext m;obtain⟨b2,a2,l2,k2,a3,l3,k3,rfl,aT,aV,aW,aX,aY⟩:=aj.parts;refine fR 9 λK hK=>?_;go_simp;refine hK.out _ _ (nH<|(aC.ext m).oz om) (h:=λ_=>?_);refine zV kr ?_ _;have ap:=(aM.ext m).2.2.2.2.2.1;go_wp2;rw[HW.out.1,HW.out.2];exact zH (v:=ag #[G b2,V a2 l2 k2,V a3 l3 k3]) (by simp[results,results269,go_sem,c0,c1,c2]) rfl ⟨_,rfl,Bu aT aV aW aX aY c0 c1 c2,
    ((ap.setCell so _).setCell so _).setCell so _⟩
end
section
theorem YV (c):kaa [] [c]=([],[],false):=rfl
theorem L9 (c)(r:U_):kaa (c::r) [c]=([],r,true):=by
 have h:kap (c::r) [c]=0:=by simp[kap,List.isPrefixOf]
 simp[kaa,h]
theorem Ip {c x}(a:x≠c)(r:U_):kaa (x::r) [c]=(x::(kaa r [c]).1,(kaa r [c]).2.1,(kaa r [c]).2.2):=by
 have h:kap (x::r) [c]=if kap r [c]=-1 then -1 else kap r [c]+1:=by simp only[kap];(have b:([c]:U_).isPrefixOf (x::r)=false:=by simp[List.isPrefixOf,Qr a]);simp[b]
 by_cases a:kap r [c]=-1;{rw[zQ a]at h;simp[kaa,h,a]};rw[zO a]at h;have a:=Lib.index_ge r [c];have b:0<=kap r [c]:=om;obtain⟨k,hk⟩:∃k:Nat,kap r [c]=k:=⟨(kap r [c]).toNat,om⟩;rw[hk]at h b;have a:kap (x::r) [c]=((k+1:Nat):Int):=om;simp[kaa,a,hk];omega
theorem Ef (c)(l:U_):(kaa l [c]).1.length+(kaa l [c]).2.1.length+(if (kaa l [c]).2.2=true then 1 else 0)=l.length:=by induction l with |nil=>rfl |cons x r a=>by_cases h:x=c;{subst h;rw[L9];simp};rw[Ip h];grind
theorem Lw {c}{l:U_}(h:(kaa l [c]).2.2=false):kaa l [c]=(l,[],false):=by induction l with |nil=>rfl |cons x r b=>by_cases a:x=c;{subst a;rw[L9]at h;grind};rw[Ip a]at h⊢;grind
namespace T
def part (c:UInt8)(l:U_):List ByteArray×U_:=l.foldl (λd x=>if x=c then(d.1 ++ [⟨d.2.toArray⟩],[])else(d.1,d.2 ++ [x])) ([],[])
end T
variable {F:N_}{S W a g r t u v:Nat}{l:U_}
def jO (l:U_):Bool:=decide (l= [60,61])||(decide (l= [62,61])||decide (l= [61]))
def ri:Nat->U_->List (U_)
 |0,_=> []
 |f+1,l=>(kaa l [32]).1::(if (kaa l [32]).2.2=true then ri f (kaa l [32]).2.1 else [])
def Zb (l:U_):List (U_):=ri (l.length+1) l
theorem P4(f):∀l,(ri f l).length<=l.length+1/\∀x∈ri f l,x.length<=l.length:=by induction f with |zero=>intro l;simp[ri] |succ f d=>intro l;rw[ri];have a:=Ef 32 l;grind
def JA:Nat->U_->List (U_×Bool)
 |0,_=> []
 |f+1,l=>if l= []then []else((kaa l [10]).1,(kaa l [10]).2.2)::JA f (kaa l [10]).2.1
def QW (l:U_):List (U_×Bool):=JA l.length l
theorem L2(f):JA f []= []:=by cases f<;>simp[JA]
theorem K_(f):∀l,(JA f l).length<=l.length/\∀x∈JA f l,x.1.length<=l.length:=by induction f with |zero=>intro l;simp[JA] |succ f e=>intro l;rw[JA];by_cases a:l= [];{grind};rw[zO a];have d:=Ef 10 l;have b:=ZC.2 a;have⟨_,b⟩:=e (kaa l [10]).2.1;(have a:(kaa l [10]).2.1.length+1<=l.length:=by by_cases a:(kaa l [10]).2.2=true;{grind};rw[Lw g_];grind);grind
def EL (c:UInt8):Bool:=decide (48<=c.toNat)&&decide (c.toNat<=57)
def Qm (l:U_):Bool:=l.all EL
def ZE (l:U_):Nat:=l.foldl (λa c=>a*10+(c.toNat-48)) 0
theorem Ow(l)(c):ZE (l ++ [c])=ZE l*10+(c.toNat-48):=by simp[ZE,List.foldl_append]
theorem Lv{c}(h:EL c=true):48<=c.toNat/\c.toNat<=57:=by unfold EL at h;simpa using h
theorem Ph(h:Qm l=true)(i)(a:i<l.length):48<=l[i].toNat/\l[i].toNat<=57:=by unfold Qm at h;rw[Zi]at h;exact Lv (h _<|zJ a)
theorem Pr(l:U_)(k)(h):ZE (l.take (k+1))=ZE (l.take k)*10+(l[k].toNat-48):=by rw[ZQ h,Ow]
theorem Th(h:Qm l=true)(k)(d:k<=l.length):ZE (l.take k)<10^k:=by induction k with |zero=>simp[ZE] |succ k a=>have c:=Ph h k om;rw[Pr l k om,Zv];omega
theorem Ra(h:Qm l=true):ZE l<10^l.length:=by have:=Th h l.length<|zh _;rwa [Zx]at this
theorem zqg(x)(b):b.foldl (λa c=>a*10+(c.toNat-48)) x=x*10^b.length+ZE b:=by induction b generalizing x with |nil=>simp[ZE] |cons c b d=>(have e:ZE (c::b)=b.foldl (λa c=>a*10+(c.toNat-48)) (c.toNat-48):=by simp[ZE]);grind
theorem TN(a b):ZE (a++b)=ZE a*10^b.length+ZE b:=by
 have e:ZE (a++b)=b.foldl (λa c=>a*10+(c.toNat-48)) (ZE a):=by simp[ZE,List.foldl_append]
 rw[e,zqg]
theorem zkY(s)(w)(hs:s.size<=1099511627776)(h:Qm s.data.toList=true):
 C_ 224 #[gS s] w λe w'=>e=Xa (G true)/\w'=w:=by
 have a:∀i (b:i<s.size),48<=s[i].toNat/\s[i].toNat<=57:=λi b=>Ph h i am;go_enter func224,ntmps224;go_wp2;go_loop [6] (λi=>∃k:Nat,k<=s.size/\i=i_ k) (λi=>s.size-(intOf i).toNat);case atStart=>grind
 case round=>obtain⟨k,_,rfl⟩:=hrel;by_cases b:k<s.size;{have c:=(a k b).1;have c:=(a k b).2;go_wp2;go_round;(case rel=>exact⟨k+1,om,g_⟩);case measure=>simp[intOf];omega};go_wp2;go_ret;simp
theorem zol{l}(h:Qm l=false):∃k,∃c:k<l.length,(l[k].toNat<48\/57<l[k].toNat)/\∀i (b:i<k),48<=(l[i]' om).toNat/\(l[i]' om).toNat<=57:=by induction l with |nil=>simp[Qm]at h |cons d l g=>by_cases a:EL d=true;{(have d:Qm l=false:=by unfold Qm at h⊢;rw[List.all_cons,a,Ca]at h;exact h);have⟨k,c,e,f⟩:=g d;refine⟨k+1,by grind,g_,?_⟩;intro i b;cases i with |zero=>exact Lv a |succ i=>grind};refine⟨0,sp,?_,λi b=>om⟩;unfold EL at a;grind
theorem zlz(s)(w)(hs:s.size<=1099511627776)(h:Qm s.data.toList=false):
 C_ 224 #[gS s] w λe w'=>e=Xa (G false)/\w'=w:=by
 have⟨n,a,b,c⟩:=zol h;have d:n<s.size:=am;have f:s[n].toNat<48\/57<s[n].toNat:=b;have a:∀i (d:i<n),48<=(s[i]' om).toNat/\(s[i]' om).toNat<=57:=λi d=>c i d;go_enter func224,ntmps224;go_wp2;go_loop [6] (λi=>∃k:Nat,k<=n/\i=i_ k) (λi=>n-(intOf i).toNat);case atStart=>grind
 case round=>obtain⟨k,_,rfl⟩:=hrel;by_cases b:k<n;{have c:k<s.size:=om;have c:=(a k b).1;have c:=(a k b).2;have a:(48)<=(s[k].toNat:Int):=om;have a:(s[k].toNat:Int)<=57:=om;go_wp2;go_round;(case rel=>exact⟨k+1,om,g_⟩);case measure=>simp[intOf];omega};have a:k=n:=om;subst a;rcases f with a|a;{have a:(s[k].toNat:Int)<48:=om;go_wp2;go_ret;simp};go_wp2;go_ret;exact⟨rfl,rfl⟩
theorem Y9(s)(w)(hs:s.size<=9)(h:Qm s.data.toList=true):
 C_ 227 #[gS s] w λe w'=>e=Xa (it .u32 (ZE s.data.toList))/\w'=w:=by
 have b:∀i (a:i<s.size),48<=s[i].toNat/\s[i].toNat<=57:=λi a=>Ph h i am;have f:∀k (a:k<s.size),ZE _=ZE _*10+(s[k].toNat-48):=λk a=>Pr _ k am;have c:=zf b;have g:=zf (λk a=>Th h k<|by omega);go_enter func227,ntmps227;go_wp2;go_loop [3,7] (λv i=>∃k:Nat,k<=s.size/\i=i_ k/\v=it .u32 (ZE (s.data.toList.take k):Nat)) (λ_ i=>s.size-(intOf i).toNat);case atStart=>exact⟨0,qo _,rfl,rfl⟩
 case round=>obtain⟨k,a,rfl,rfl⟩:=hrel;by_cases b:k<s.size;{have d:=(c.out k b).1;have d:=(c.out k b).2;have c:(48)<=(s[k].toNat:Int):=om;have c:(s[k].toNat:Int)<=57:=om;have c:=g.out k a;have d:10^k<=10^8:=ZD om om;have a:ZE (s.data.toList.take k)<100000000:=om;have a:=zf<|(zf f).out k b;generalize ZE (s.data.toList.take k)=x at *;go_wp2;go_round;(case rel=>exact⟨k+1,om,g_,by rw[a.out];grind⟩);case measure=>simp[intOf];omega};have b:k=s.size:=om;(have a:Hid (ZE (s.data.toList.take k)=ZE s.data.toList):=by rw[Hid,zP so]);clear b;go_wp2;go_ret;exact⟨AH<|by rw[a.out],rfl⟩
open Go
theorem zon:∀x,0<x->x<2^64->1<=Lib.bitLen x/\2^Lib.bitLen x<=2*x/\x<2^Lib.bitLen x:=by intro x;induction x using Nat.strongRecOn with |_ x b=>intro a h;rw[Lib.bitLen_half x om h];by_cases a:x/2=0;{rw[a,show Lib.bitLen 0=0 by decide];omega};have⟨_,_,_⟩:=b (x/2) om om om;grind
theorem znu{x}(h0:0<x)(h:x<4294967296):∃s:Nat,s<=31/\(32-(Lib.bitLen x))=(s:Int)/\2147483648<=2^s*x/\2^s*(x+1)<=4294967296:=by
 have⟨h1,h2,h3⟩:=zon x h0 om;have h4:Lib.bitLen x<=32:=by rcases Qc 32 (Lib.bitLen x)with h5|h5;{have:=ZD (n:=2) dc (show 33<=Lib.bitLen x by omega);omega};omega
 generalize Lib.bitLen x=b at *;obtain⟨s,rfl⟩:∃s,b=32-s:=⟨32-b,om⟩;have hp:2^s*2^(32-s)=4294967296:=by rw[<-Q6,show s+(32-s)=32 by omega]
 refine⟨s,om,om,?_,?_⟩;{have:2^s*2^(32-s)<=2^s*(2*x):=Zr _ h2;grind};have:2^s*(x+1)<=2^s*2^(32-s):=Zr _ h3;omega
theorem IX{es}(b:gT es)(a:es.length=t+2)(h1:2147483648<=S*es.getD (t+1) 0)(h2:S*(es.getD (t+1) 0+1)<=4294967296):
 2147483648*4294967296^(t+1)<=S*val es/\S*val es<4294967296^(t+2):=by have e:=fH es (t+1) om;rw[zP om]at e;have a:=gg<|b.take<|t+1;rw[zX,show min _ _=t+1 by omega]at a;generalize es.getD (t+1) 0=x at *;generalize val (es.take<|t+1)=r at *;rw[e,Zv _<|t+1];generalize 4294967296^(t+1)=P at *;rw[Zs];have b:2147483648*P<=S*x*P:=zZ _ h1;have b:S*(x+1)*P<=4294967296*P:=zZ _ h2;have b:S*(P*x)=S*x*P:=g_;have b:S*(x+1)*P=S*x*P+S*P:=g_;have b:0<S:=g_;have c:=Nat.mul_lt_mul_of_pos_left a b;omega
theorem XZ(a:gT F)(c:nJ F)(b:val F=v)(h1:2147483648*4294967296^(t+1)<=v)(h2:v<4294967296^(t+2)):
 F.length=t+2/\2147483648<=F.getD (t+1) 0:=by
 have d:=c.len (by rw[b];exact h2);have c:=gg a;have c:t+1<F.length:=by rcases Qc (t+1) F.length with h|h;{omega};have:=gI h;omega
 refine⟨om,?_⟩;have e:=fH F _ c;rw[zP om,b]at e;have b:=gg<|a.take<|t+1;rw[zX,show min _ _=t+1 by omega]at b;rcases Qc (F.getD (t+1) 0) 2147483648 with h|h;{exfalso;generalize F.getD (t+1) 0=x at *;generalize val (F.take<|t+1)=r at *;generalize 4294967296^(t+1)=P at *;have:P*x<=P*2147483647:=Zr _ om;omega};omega
theorem znv{L}{M m}(e:L.length=M+1)(d:t+2<=M)(a:val L=S*m)(hm:m<4294967296^M)(b:0<S)(c:S<=2147483648)(h1:2147483648*4294967296^(t+1)<=v):
 val (L.drop (M-t-1))<v:=by
 have e:=fG L (M-t-1) om;rw[a]at e;have d:4294967296^M=4294967296^(M-t-1)*4294967296^(t+1):=by rw[<-Q6];congr 1;omega
 have a:=Nat.mul_lt_mul_of_pos_left hm b;rw[d]at a;have a:=pow_pos<|M-t-1;generalize val (L.drop<|M-t-1)=D at *;generalize 4294967296^(M-t-1)=P at *;generalize 4294967296^(t+1)=R at *;have a:P*D<P*(S*R):=g_;have b:=Rt a;have a:S*R<=2147483648*R:=zZ _ c;omega
theorem Yz{m n q}(d:0<S)(h:S*m=r+S*n*q)(g:r<S*n):q=m/n/\r/S=m%n:=by
 have f:0<n:=g_;have e:S ∣ r:=by have a:S ∣ S*m:=Nat.dvd_mul_right _ _;rw[h]at a;exact(Nat.dvd_add_left<|Nat.dvd_trans (Nat.dvd_mul_right S n)<|Nat.dvd_mul_right _ _).1 a
 obtain⟨c,rfl⟩:=e;have a:m=c+n*q:=by (have:S*m=S*(c+n*q):=by rw[h,Zs,Zt]);exact Nat.eq_of_mul_eq_mul_left d this
 have b:=Rt g;subst a;rw[Nat.mul_div_cancel_left _ d,M4 _ _ f,jH b,qt,Js,Jk b];omega
theorem YX{ds:N_}{high lead b:Nat}(a0:ds.length=t+3)(W:F.length=t+2)(i:gT ds)(r:gT F)(C:val ds=u)(J:val F=v)(B:2147483648<=F.getD (t+1) 0)(I:u<v*4294967296)(z:high=ds.getD (t+1) 0+4294967296*ds.getD (t+2) 0)(j:lead=F.getD (t+1) 0)(x:a=high*4294967296+ds.getD t 0)(h:b=lead*4294967296+F.getD t 0)(s:∀Q,Q<=high/lead->(∀k,a<k*b->Q<k)->Q<4294967296->Q<=g)(hg:g<4294967296)(y:g*b<=a):u/v<=g/\g<=u/v+1:=by have e:=fH F (t+1) om;rw[zP om,fH F t om,J,<-j]at e;have c:=fH ds (t+2) om;rw[zP om,fH _ _ om,fH _ t om,C]at c;have M:=gg<|r.take t;rw[zX,show min t _=t by omega]at M;have N:=gg<|i.take t;rw[zX,show min t _=t by omega]at N;have y0:=i.get t;rw[<-j]at B;have K:=pow_pos t;rw[Zv]at e c;rw[show t+2=t+1+1 by omega,Zv,Zv]at c;generalize 4294967296^t=P at *;generalize val (F.take t)=m at *;generalize val (ds.take t)=o at *;generalize ds.getD t 0=Z at *;generalize ds.getD (t+1) 0=Y at *;generalize ds.getD (t+2) 0=X at *;generalize F.getD t 0=l at *;have f:v=m+b*P:=g_;have U:u=o+a*P:=g_;have d:0<v:=om;have D:u<(a+1)*P:=g_;constructor;{refine s _ ?_ (λk A=>znm om d D A rfl)<|(QC d).2 om;refine zmn (P:=4294967296*P) om ?_ d ?_ om rfl;{grind};have p:a+1<=(high+1)*4294967296:=om;have q:(a+1)*P<=_*4294967296*P:=zZ _ p;grind};exact zmo (P:=P) g_ d om y om rfl
theorem F4{ds}(e:ds.length=t+3)(a:F.length=t+2)(b:gT F)(c:val ds=u)(d:val F=v)(f:u<v*4294967296):ds.getD (t+2) 0<=F.getD (t+1) 0:=by have a:=fH F (t+1) om;rw[zP om,d]at a;have a:=fH ds (t+2) om;rw[zP om,c]at a;have c:=gg<|b.take<|t+1;rw[zX,show min _ _=t+1 by omega]at c;rw[show t+2=t+1+1 by omega,Zv]at a;have a:=pow_pos<|t+1;generalize 4294967296^(t+1)=P at *;generalize val (F.take<|t+1)=a at *;generalize val (ds.take<|t+1+1)=c at *;generalize ds.getD (t+1+1) 0=X at *;generalize F.getD (t+1) 0=y at *;have a:4294967296*P*X<4294967296*P*(y+1):=g_;have:=Rt a;omega
theorem Yl{c X}(d:a<W)(h:a+W*c=W+X)(b:X<W):a=X:=by rcases Qc c 2 with b|b;{rcases Qd c with d|d;{grind};grind};have:W*2<=W*c:=Zr _ b;omega
theorem zop{V:Nat}(d:0<V)(h1:u/V<=g)(h2:g<=u/V)(e:a<W)(h:a+g*V=u+W*r)(i:u<W):r=0/\u=g*V+a/\a<V:=by have c:=Nat.le_antisymm h2 h1;have b:=PS u V;rw[<-c]at b;obtain⟨f,_⟩:=Wq e h b i;have b:=Nat.lt_div_mul_add d (a:=u);grind
theorem UY{V c b:Nat}(d:0<V)(h1:g=u/V+1)(j:a<W)(h:a+g*V=u+W*r)(e:u<W)(i:V<W):0<r/\1<=g/\(b<W->b+W*c=a+V->u=(g-1)*V+b/\b<V):=by have e:=Nat.lt_div_mul_add d (a:=u);have d:=PS u V;obtain⟨k,hk⟩:∃k,u/V=k:=⟨_,rfl⟩;rw[hk]at e d h1;subst h1;rw[Zg,Jv]at h;obtain⟨d,e⟩:=zno (f:=k+1) j (by rw[Zg,Jv];exact h) g_ g_ i;rw[Zg,Jv]at e;refine⟨d,om,λd e=>?_⟩;have e:=Yl (c:=c) (X:=u-k*V) d om om;grind
end
theorem ML (s)(w):
 C_ 154 #[gS s] w λe w'=>e=Xa (.func (.func 212) #[] #[p_ w.heap.size 0])/\w'=w.alloc (cl #[gS s] 9):=by go_enter func154,ntmps154;go_wp2;go_ret;simp
theorem P3 (s t:U_)(q)(w)(h:w.cell? (Xd q 0 O)=E (gS ⟨t.toArray⟩)):
 C_ 212 #[gS ⟨s.toArray⟩,p_ q 0] w λe w'=>e=Xa (G (decide (s=t)))/\w'=w:=by go_enter func212,ntmps212;go_wp2;go_ret;refine⟨T8 ?_,rfl⟩;grind
theorem zlA (a)(w):
 C_ 155 #[pn (E a)] w λe w'=>e=Xa (.func (.func 213) #[] #[p_ w.heap.size 0])/\w'=w.alloc (cl #[pn (E a)] 265):=by go_enter func155,ntmps155;go_wp2;go_ret;simp
def wO (s:U_):Nat:=if s.length=1 then(if 49<=(s.getD 0 0).toNat/\(s.getD 0 0).toNat<=52 then(s.getD 0 0).toNat-48 else 0)else 0
theorem YO (s)(q c)(z)(w)(h:w.cell? (Xd q 0 O)=E (p_ c 0))(g:w.cell? (Xd c 0 O)=E (i_ z))(a:w.frozen? (Xd c 0 O)=false)(hs:s.length<=1000000):
 C_ 213 #[gS ⟨s.toArray⟩,p_ q 0] w λe w'=>e=Xa (G (decide (wO s≠0)))/\(w'=w\/w'=w.drew.setCell (Xd c 0 O) (i_ (wO s)))/\(wO s≠0->w'.cell? (Xd c 0 O)=E (i_ (wO s))):=by by_cases d:s.length=1;{obtain⟨x,rfl⟩:∃x,s= [x]:=List.length_eq_one_iff.1 d;by_cases b:49<=x.toNat/\x.toNat<=52;{(have a:wO [x]=x.toNat-48:=by simp[wO,b]);have f:({ data:=#[x] }:ByteArray)[0]'(by simp[ByteArray.size])=x:=rfl;rw[a];obtain⟨n,hn⟩:∃n,x.toNat=n:=⟨_,rfl⟩;rw[hn]at b⊢;(have i:IntKind.u8.wrap (n-48)=((n-48:Nat):Int):=by obtain rfl|rfl|rfl|rfl:n=49\/n=50\/n=51\/n=52:=om;all_goals rfl);go_enter func213,ntmps213;go_wp2;go_region;(all_goals go_wp2);(all_goals go_ret);all_goals refine⟨T8 so,.inr rfl,λ_=>zN _ _ _ g⟩};(have a:wO [x]=0:=by simp[wO,b]);rw[a];have f:({ data:=#[x] }:ByteArray)[0]'(by simp[ByteArray.size])=x:=rfl;go_enter func213,ntmps213;go_wp2;all_goals first |(exfalso;omega) |(go_ret;simp)};(have a:wO s=0:=by simp[wO,d]);rw[a];go_enter func213,ntmps213;go_wp2;go_ret;simp
theorem jn (a)(w):
 C_ 157 #[pn (E a)] w λe w'=>e=Xa (.func (.func 215) #[] #[p_ w.heap.size 0])/\w'=w.alloc (cl #[pn (E a)] 272):=by go_enter func157,ntmps157;go_wp2;go_ret;simp
theorem zfK (a)(w):
 C_ 159 #[pn (E a)] w λe w'=>e=Xa (.func (.func 217) #[] #[p_ w.heap.size 0])/\w'=w.alloc (cl #[pn (E a)] 277):=by go_enter func159,ntmps159;go_wp2;go_ret;simp
theorem XV (s)(q c)(z)(w)(h:w.cell? (Xd q 0 O)=E (p_ c 0))(b:w.cell? (Xd c 0 O)=E (gS z))(f:w.frozen? (Xd c 0 O)=false):
 C_ 217 #[gS ⟨s.toArray⟩,p_ q 0] w λe w'=>e=Xa (G (jO s))/\Wr (λk=>k=c) w w'/\(jO s=true->∃w1,b_ w w1/\w'=w1.setCell (Xd c 0 O) (gS ⟨s.toArray⟩)):=by
 go_enter func217,ntmps217;go_wp2;obtain⟨a,hw0⟩:∃a,w.alloc (cl #[gS ⟨#[60,61]⟩,gS ⟨#[62,61]⟩,gS ⟨#[61]⟩] 206)=a:=⟨_,rfl⟩;have g:b_ w a:=by rw[<-hw0];exact(qf _ _).alloc (zh _) _
 have d:a.cell? (y_ w 0)=E (gS ⟨#[60,61]⟩):=by rw[<-hw0];simp
 have d:a.cell? (y_ w 1)=E (gS ⟨#[62,61]⟩):=by rw[<-hw0];simp
 have d:a.cell? (y_ w 2)=E (gS ⟨#[61]⟩):=by rw[<-hw0];simp
 have d:c<w.heap.size:=zw b;have i:q<w.heap.size:=zw h;have j:=(g.cell i).trans h;have i:=(g.cell d).trans b;have b:=(g.frozen d).trans f;try rw[hw0]
 have b:∀x:U_,s=x->jO x=true->Wr (λk=>k=c) w (a.setCell (Xd c 0 O)<|gS ⟨x.toArray⟩)/\(jO s=true->∃w1,b_ w w1/\a.setCell (Xd c 0 O) (gS ⟨x.toArray⟩)=w1.setCell (Xd c 0 O) (gS ⟨s.toArray⟩)):=by intro x d _;subst d;exact⟨(Xh (T:=λk=>k=c) g).setCell (p:=(Xd c 0 O)) rfl _,λ_=>⟨a,g,rfl⟩⟩
 have i:=zf b;clear b hw0;go_loopw [8] (λb wr=>∃k:Nat,k<=3/\b=i_ (k:Int)/\wr=a/\Hid ((0<k->s≠ [60,61])/\(1<k->s≠ [62,61])/\(2<k->s≠ [61]))) (λb _=>3-(intOf b).toNat);case atStart=>exact⟨0,om,rfl,rfl,om,om,om⟩
 case round=>obtain⟨k,_,rfl,rfl,f⟩:=hrel;obtain rfl|rfl|rfl|rfl:k=0\/k=1\/k=2\/k=3:=om;{go_wp2;{rename_i b;have a:s= [60,61]:=g_;(have d:jO s=true:=by rw[a];rfl);go_ret;exact⟨by rw[d];rfl,i.out _ a rfl⟩};rename_i b;have a:s≠ [60,61]:=g_;refine⟨⟨1,om,rfl,trivial,?_⟩,by simp[intOf]⟩;exact⟨λ_=>a,om,om⟩};{go_wp2;{rename_i b;have a:s= [62,61]:=g_;(have d:jO s=true:=by rw[a];rfl);go_ret;exact⟨by rw[d];rfl,i.out _ a rfl⟩};rename_i b;have a:s≠ [62,61]:=g_;refine⟨⟨2,om,rfl,trivial,?_⟩,by simp[intOf]⟩;exact⟨λ_=>f.out.1 om,λ_=>a,om⟩};{go_wp2;{rename_i b;have a:s= [61]:=g_;(have d:jO s=true:=by rw[a];rfl);go_ret;exact⟨by rw[d];rfl,i.out _ a rfl⟩};rename_i b;have a:s≠ [61]:=g_;refine⟨⟨3,om,rfl,trivial,?_⟩,by simp[intOf]⟩;exact⟨λ_=>f.out.1 om,λ_=>f.out.2.1 om,λ_=>a⟩};(have d:jO s=false:=by simp[jO,f.out.1 om,f.out.2.1 om,f.out.2.2 om]);go_wp2;go_ret;exact⟨by rw[d];rfl,Xh g,λh=>g_⟩
def ZM (v:Value):Prop:=∀n,v≠it .u32 n
def qK (w:H)(k:Nat):Prop:=(∃o,w.heap[k]? =E o/\o.isCells=true)/\∀o v,w.cell? (Xd k o O)=E v->∀n,v≠it .u32 n
theorem zE {w}{g}{cs:W_}{t}{a}(h:w.heap[g]? =E (cl cs t a))(c:∀v∈cs.toList,ZM v):qK w g:=by refine⟨⟨_,h,rfl⟩,λo v b n=>?_⟩;rw[ze w g o _ t a h]at b;exact c v g_ n
theorem qK.block {w}{g}{cs:W_}{t}{a}(c:qK w g)(h:w.heap[g]? =E (cl cs t a)):∀v∈cs.toList,ZM v:=by intro v d;obtain⟨j,b,rfl⟩:=Array.mem_iff_getElem.1 (g_:v∈cs);apply c.2 j _;rw[ze w g j _ t a h,qD b]
theorem Ug {z:W_}{k}(c:∀u∈z.toList,ZM u):∀u∈(Builtin.zeroCells z k).toList,ZM u:=by intro u a;simp[Builtin.zeroCells]at a;obtain⟨j,b,rfl⟩:=a;have a:0<z.size:=g_;apply c _;rw[getElem!_pos z _<|Z0 _ a];simp
section
variable {P:Program} (w:World)
theorem X8 (t q)(base)(e)(i)(z)(size bytes)(D:P.underlying t=E (.slice e))(y:P.info? e=E i)(J:i.zero=E z)
 (l:i.size=size) (h:i.bytes=bytes) (r:z.cells.size=size) (o:0<size)
 (v) (n) (xs) (C:w.ownsRow base e size v n xs)
 (k) (m c) (d:List _) (p:d.length=m*size) (A:∀j u,d[j]? =E u->w.cell? (k.add j)=E u) (h1:∀u∈d,u.oneCell'=true)
 (hm:0<m) (f:n+m<=maxLen) (I:(n+m)*bytes<=140737488355328)
 (K:∀u∈z.cells.toList,ZM u) (B:∀u∈d,ZM u) (N:∀g,v.ownBlock=E g->qK w g) {b} {w'}
 (a:(Builtin.append_ #[t,t] q #[v,V (E k) m c]).run P w= .ok b w'):∀g,b.ownBlock=E g->qK w' g:=by subst l;subst h;have b:n+m<=9223372036854775807:=am;rcases C.2 with ⟨rfl,rfl⟩|⟨g,r,s,rfl,_,f,_,_,M,R⟩;{have o:=run_append_nil w t q e i z D y J k m c d p A om om g_;rw[o]at a;simp only[J1]at a;obtain⟨rfl,rfl⟩:=a;intro g f;simp[kaj]at f;subst f;apply zE<|zC _ _;intro u b;rw[Ri,zU]at b;rcases b with h|h;{exact B u om};exact Ug K u h};have x:=(N g rfl).block f;by_cases l:n+m<=r;{(have N:n*i.size+d.length<=s.size:=by rw[p,M,<-Zg];exact zZ _ l);have o:=run_append_room w t q e i D y g n r s f k m c d p A h1 l N;rw[o]at a;simp only[J1]at a;obtain⟨rfl,rfl⟩:=a;intro M l;simp[kaj]at l;subst l;apply zE<|setRow_heap w g s _ e _ f;grind};have f:=C.cells rfl;have o:=run_append_grow w t q e i z D y J ⟨g,0,O⟩ n r _ C.1 f k m c d p A om om<|growslice_fits om I;rw[o]at a;simp only[J1]at a;obtain⟨rfl,rfl⟩:=a;intro M l;simp[kaj]at l;subst l;apply zE<|zC _ _;intro u b;rw[Ri,Ri,zU,zU]at b;rcases b with (h|h)|h;{exact x u (ZY (by rw[R];omega))};{exact B u om};exact Ug K u h
theorem Nq {o:Oper}{a}{K}{Q}(s x)(t)
 (ho:o.op= .call { callee:= .builtin .append,args:=#[s,x],argTypes:=#[t,t] })
 (base) (e) (i) (z) (size bytes) (I:P.underlying t=E (.slice e)) (q:P.info? e=E i) (J:i.zero=E z)
 (C:i.size=size) (l:i.bytes=bytes) (M:z.cells.size=size) (D:0<size)
 (v) (n) (xs) (hs:a.eval s=v) (A:w.ownsRow base e size v n xs)
 (d) (m c) (b) (Z:a.eval x=V (E d) m c) (r:b.length=m*size) (y:∀j u,b[j]? =E u->w.cell? (d.add j)=E u) (h1:∀u∈b,u.oneCell'=true)
 (hm:0<m) (k:n+m<=maxLen) (p:(n+m)*bytes<=140737488355328) (W:base<=w.heap.size) (f) (U:w.heap.size=f)
 (a0:∀u∈z.cells.toList,ZM u) (X:∀u∈b,ZM u) (Y:∀g,v.ownBlock=E g->qK w g)
 (h:∀g cap w',w'.ownsRow base e size (V (E (Xd g 0 O)) (n+m) cap) (n+m) (xs++b)->w.grownBy w' v.ownBlock->(v.ownBlock=E g\/g=f)->g<w'.heap.size->qK w' g->K (a.put o.dst (V (E (Xd g 0 O)) (n+m) cap)) w'):o.wp P a w K Q:=by have⟨g,cap,w',B,N,R,S,T⟩:=run_append_lies w t o.type _ e i z _ _ I q J C l M D v n _ A d m c b r y h1 hm k p W f U;have f:=X8 w t _ _ e i z _ _ I q J C l M D v n _ A d m c b r y h1 hm k p a0 X Y B g rfl;unfold Oper.wp execOp;simp only[ho,resolve,invoke,builtin,Sem.run_bind,Sem.run_pure,Result.andThen_ok,List.map_toArray,Zk,MA,hs,Z,B];exact h g _ _ N R S T f
theorem JI {ops}{rest}{o}{a}{Q}(p:o.guard=O)(s x)(t)
 (ho:o.op= .call { callee:= .builtin .append,args:=#[s,x],argTypes:=#[t,t] })
 (base) (e) (i) (z) (size bytes) (M:P.underlying t=E (.slice e)) (A:P.info? e=E i) (S:i.zero=E z)
 (J:i.size=size) (r:i.bytes=bytes) (U:z.cells.size=size) (K:0<size)
 (v) (n) (xs) (hs:a.eval s=v) (I:w.ownsRow base e size v n xs)
 (f) (m c) (b) (R:a.eval x=V (E f) m c) (B:b.length=m*size) (C:∀j u,b[j]? =E u->w.cell? (f.add j)=E u) (h1:∀u∈b,u.oneCell'=true)
 (hm:0<m) (k:n+m<=maxLen) (y:(n+m)*bytes<=140737488355328) (q:base<=w.heap.size) (d) (l:w.heap.size=d)
 (T:∀u∈z.cells.toList,ZM u) (D:∀u∈b,ZM u) (N:∀g,v.ownBlock=E g->qK w g)
 (h:∀g cap w',w'.ownsRow base e size (V (E (Xd g 0 O)) (n+m) cap) (n+m) (xs++b)->w.grownBy w' v.ownBlock->(v.ownBlock=E g\/g=d)->g<w'.heap.size->qK w' g->wpList P ops Q rest (a.put o.dst (V (E (Xd g 0 O)) (n+m) cap)) w'):wpList P ops Q (o::rest) a w:=wpList_plain p λ_ p=>Nq w s x t ho base e i z size bytes M A S J r U K v n xs hs I f m c b R B C h1 hm k y q d l T D N λg cap w' b d f k l=>p _ _ (h g cap w' b d f k l)
theorem QM {ops}{o}{a}{K}{Q}{k}(A:o.guard=O)(s x)(t)
 (ho:o.op= .call { callee:= .builtin .append,args:=#[s,x],argTypes:=#[t,t] })
 (base) (e) (i) (z) (size bytes) (R:P.underlying t=E (.slice e)) (B:P.info? e=E i) (U:i.zero=E z)
 (M:i.size=size) (r:i.bytes=bytes) (X:z.cells.size=size) (N:0<size)
 (v) (n) (xs) (hs:a.eval s=v) (J:w.ownsRow base e size v n xs)
 (f) (m c) (b) (T:a.eval x=V (E f) m c) (C:b.length=m*size) (D:∀j u,b[j]? =E u->w.cell? (f.add j)=E u) (h1:∀u∈b,u.oneCell'=true)
 (hm:0<m) (l:n+m<=maxLen) (y:(n+m)*bytes<=140737488355328) (q:base<=w.heap.size) (d) (p:w.heap.size=d)
 (W:∀u∈z.cells.toList,ZM u) (I:∀u∈b,ZM u) (S:∀g,v.ownBlock=E g->qK w g)
 (h:∀g cap w',w'.ownsRow base e size (V (E (Xd g 0 O)) (n+m) cap) (n+m) (xs++b)->w.grownBy w' v.ownBlock->(v.ownBlock=E g\/g=d)->g<w'.heap.size->qK w' g->K (a.put o.dst (V (E (Xd g 0 O)) (n+m) cap)) w'):
 if kao o (yielded ops a.tmps)=true then Oper.wp P o a w K Q else k:=by
 have k:kao o (yielded ops a.tmps)=true:=by simp[kao,A]
 rw[zQ k];exact Nq w s x t ho _ e i z _ _ R B U M r X N v n _ hs J f m c b T C D h1 hm l y q d p W I S h
end
section
attribute [local go_sem] zD zW qJ
variable {k n:Nat}{x:Nat->Nat->Value}
def wX (b sz n:Nat):List (W_):=(kal n).map λi=>#[p_ b (i*sz)]
theorem LQ{b a}(h:k<n):(wX b a n)[k]? =E #[p_ b (k*a)]:=by simp[wX,h]
theorem ji(b a n):(wX b a n).length=n:=by simp[wX]
theorem qW{f:Nat}{a}{c}(h:Tryz.prog.funcs[f]? =E a)(b:(a.name == "runtime.NumGoroutine")=false)(hb:a.body=E c):∀args w,(callFunc f args).run pg w= .ok (.enter f args) w:=Go.Proofs.enters_of h b hb
def KC (x:Nat->Nat->Value)(n:Nat):List (W_):=(kal n).map λi=>#[Value.agg #[x i 0,x i 1,x i 2,x i 3,x i 4,x i 5]]
theorem Hf(h:k<n):(KC x n)[k]? =E #[Value.agg #[x k 0,x k 1,x k 2,x k 3,x k 4,x k 5]]:=by simp[KC,h]
theorem jJ(x)(n):(KC x n).length=n:=by simp[KC]
def uj (x:Nat->Nat->Value)(n:Nat):List (W_):=(kal n).map λi=>#[Value.agg #[x i 0,x i 1,x i 2,x i 3]]
theorem PU(h:k<n):(uj x n)[k]? =E #[Value.agg #[x k 0,x k 1,x k 2,x k 3]]:=by simp[uj,h]
theorem IB(x)(n):(uj x n).length=n:=by simp[uj]
def G9 (x:Nat->Nat->Value)(n:Nat):List (W_):=(kal n).map λi=>#[Value.agg #[x i 0,x i 1]]
theorem Nc(h:k<n):(G9 x n)[k]? =E #[Value.agg #[x k 0,x k 1]]:=by simp[G9,h]
theorem KP(x)(n):(G9 x n).length=n:=by simp[G9]
theorem lF:(∀(a:A_) b n cap c (e:n<=1000000) (d:0<n->a=E (Xd b 0 O)),oW pg 214 #[p_ c 0] (wX b 6 n) (λW=>W.cell? (Xd c 0 O)=E (V a n cap)))/\(∀(a:A_) b n cap c (e:n<=1000000) (d:0<n->a=E (Xd b 0 O)),oW pg 272 #[p_ c 0] (wX b 4 n) (λW=>W.cell? (Xd c 0 O)=E (V a n cap)))/\(∀(a:A_) b n cap c (e:n<=1000000) (d:0<n->a=E (Xd b 0 O)),oW pg 216 #[p_ c 0] (wX b 2 n) (λW=>W.cell? (Xd c 0 O)=E (V a n cap))):=by refine⟨?_,?_,?_⟩;all_goals intro a b n cap c e d;intro l J a c W a a a f e;have g:=(a 0 c W e).1;have g:=zf a;have j:=zf f;clear f a;(first |(refine sF func214 ntmps214 (h:=?_)) |(refine sF func272 ntmps272 (h:=?_)) |(refine sF func216 ntmps216 (h:=?_)));gi_wp2;gi_loopw [6] (λi wr=>∃(k:Nat) (M:Nat->Prop),i=i_ (k:Int)/\k<=n/\J k M wr) (λi _=>n-(intOf i).toNat);(case atStart=>grind);case round=>obtain⟨k,M,rfl,_,a⟩:=hrel;have c:=(g.out k M _ a).1;by_cases e:k<n;{obtain rfl:=d om;gi_wp2;refine jr (j.out k _ _ _ (LQ e) a) ?_ ?_;{rintro f ⟨_,d,c,_⟩;gi_wp2;go_roundw;(case rel=>grind);case measure=>simp[intOf];omega};intro f c;gi_wp2;refine zH (qI rfl _ _ _) rfl ?_;exact⟨⟨_,rfl⟩,.inr ⟨k,by rw[ji];omega,c.2⟩⟩};gi_wp2;go_end0;have c:k=n:=om;subst c;rw[ji];grind
abbrev Vl:=lF.1
abbrev zjW:=lF.2.1
abbrev VZ:=lF.2.2
theorem mh:(∀v (a:A_) l c (b:v=V a l c) w,C_ 156 #[v] w λe w'=>e=Xa (.func (.func 214) #[] #[p_ w.heap.size 0])/\w'=w.alloc (cl #[v] 59))/\(∀v (a:A_) l c (b:v=V a l c) w,C_ 238 #[v] w λe w'=>e=Xa (.func (.func 272) #[] #[p_ w.heap.size 0])/\w'=w.alloc (cl #[v] 60))/\(∀v (a:A_) l c (b:v=V a l c) w,C_ 158 #[v] w λe w'=>e=Xa (.func (.func 216) #[] #[p_ w.heap.size 0])/\w'=w.alloc (cl #[v] 82)):=by refine⟨?_,?_,?_⟩;all_goals intro v a l c b w;subst b;(first |(go_enter func156,ntmps156) |(go_enter func238,ntmps238) |(go_enter func158,ntmps158));have a:=jR;go_wp2;go_ret;simp
abbrev TE:=mh.1
abbrev Y3:=mh.2.1
abbrev Sa:=mh.2.2
theorem nx:(∀(x:Nat->Nat->Value) (ao:A_) (b n cap bt:Nat) (hn:n<=1000000) (Cp:0<n->ao=E (Xd b 0 O)),oW pg 160 #[p_ bt 0] (KC x n) (λW=>W.cell? (Xd bt 0 O)=E (V ao n cap)/\∀i j,i<n->j<6->W.cell? ⟨b,i*6+j,O⟩=E (x i j)))/\(∀(x:Nat->Nat->Value) (ao:A_) (b n cap bt:Nat) (hn:n<=1000000) (Cp:0<n->ao=E (Xd b 0 O)),oW pg 237 #[p_ bt 0] (uj x n) (λW=>W.cell? (Xd bt 0 O)=E (V ao n cap)/\∀i j,i<n->j<4->W.cell? ⟨b,i*4+j,O⟩=E (x i j)))/\(∀(x:Nat->Nat->Value) (ao:A_) (b n cap bt:Nat) (hn:n<=1000000) (Cp:0<n->ao=E (Xd b 0 O)),oW pg 273 #[p_ bt 0] (G9 x n) (λW=>W.cell? (Xd bt 0 O)=E (V ao n cap)/\∀i j,i<n->j<2->W.cell? ⟨b,i*2+j,O⟩=E (x i j))):=by refine⟨?_,?_,?_⟩;all_goals intro x ao b n cap bt hn Cp;intro l J Jx M0 W hJ hJx hC hY h0;have hc:=(hC 0 _ W h0).1.1;have HC:=zf hC;have HY:=zf hY;have hm:Tryz.prog.follows .mixedOrders=true:=kr;clear hY hC;(first |(refine Q0 func160 ntmps160 (h:=?_)) |(refine Q0 func237 ntmps237 (h:=?_)) |(refine Q0 func273 ntmps273 (h:=?_)));have hlt:bt<W.heap.size:=zw hc;gi_wp2;(first |(refine(zq.2<|TE _ _ _ _ rfl _).mono ?_) |(refine(zq.2<|Y3 _ _ _ _ rfl _).mono ?_) |(refine(zq.2<|Sa _ _ _ _ rfl _).mono ?_));rintro e w1 ⟨rfl,rfl⟩;gi_wp2;have hlt:bt<W.heap.size:=zw hc;(first |(refine Fs (Vl _ b n cap _ hn Cp) rfl (qW func214 kr rfl) (λv hv=>?_) (λk M A=>J k M A/\A.cell? (y_ W 0)=E (.func (.yield l) #[] #[])/\A.cell? (x_ W 0)=E (V ao n cap)/\¬M W.heap.size/\¬M (W.heap.size+1)) (λc k A=>c= .ret/\Jx k A) M0 ?hI ?hIx ?hC ?h0 ?round ?done ?stop) |(refine Fs (zjW _ b n cap _ hn Cp) rfl (qW func272 kr rfl) (λv hv=>?_) (λk M A=>J k M A/\A.cell? (y_ W 0)=E (.func (.yield l) #[] #[])/\A.cell? (x_ W 0)=E (V ao n cap)/\¬M W.heap.size/\¬M (W.heap.size+1)) (λc k A=>c= .ret/\Jx k A) M0 ?hI ?hIx ?hC ?h0 ?round ?done ?stop) |(refine Fs (VZ _ b n cap _ hn Cp) rfl (qW func216 kr rfl) (λv hv=>?_) (λk M A=>J k M A/\A.cell? (y_ W 0)=E (.func (.yield l) #[] #[])/\A.cell? (x_ W 0)=E (V ao n cap)/\¬M W.heap.size/\¬M (W.heap.size+1)) (λc k A=>c= .ret/\Jx k A) M0 ?hI ?hIx ?hC ?h0 ?round ?done ?stop));(case hI=>rintro k M A B ⟨h1,h2,h3,h4,h5⟩ hk;exact⟨hJ _ _ _ _ h1<|hk.mono so,hk.cell h2,hk.cell h3,h4,h5⟩);(case hIx=>rintro c k A B ⟨h1,h2⟩ hk;exact⟨h1,hJx _ _ _ h2<|hk.mono so⟩);(case hC=>rintro k M A ⟨h1,h2,h3,h4,h5⟩;exact⟨h3,(HC.out k M A h1).2⟩);(case h0=>refine⟨hJ _ _ _ _ h0<|(zn.alloc _ _ _).trans<|zn.alloc _ _ _,?_,?_,?_,?_⟩;{simp};(first |({simp}) |({simp}) |({simp}));{intro h;have:=(HC.out 0 _ W h0).2 _ h;omega};intro h;have:=(HC.out 0 _ W h0).2 _ h;omega);(case round=>rintro l2 k v M A hv ⟨h1,h2,h3,h4,h5⟩;(have hkn:k<n:=by have:=(zo.1 hv).1;rwa [ji]at this);rw[LQ hkn]at hv;injection hv with hv;subst hv;have HC2:=zf λi j=>((HC.out k M A h1).1.2 i j);unfold Zz;gi_wp2;refine⟨Xk _ _,λA2 hk2=>?_⟩;have g0:=hk2.cell h2;(first |(have hcs:=λj hj=>hk2.cell<|HC2.out k j hkn hj) |(have hcs:=λj hj=>hk2.cell<|HC2.out k j hkn hj) |(have hcs:=λj hj=>hk2.cell<|HC2.out k j hkn hj));(first |(have c0:A2.cell? ⟨b,k*6,O⟩=E _:=hcs 0 om) |(have c0:A2.cell? ⟨b,k*4,O⟩=E _:=hcs 0 om) |(have c0:A2.cell? ⟨b,k*2,O⟩=E _:=hcs 0 om));have c1:=hcs 1 om;(try have c2:=hcs 2 om);(try have c3:=hcs 3 om);(try have c4:=hcs 4 om);(try have c5:=hcs 5 om);have hj2:=hJ _ _ _ _ h1<|(hk2.trans<|zn.drew _ _).mono so;(first |(have hq_:=IA l2 0<|HY.out k _ M _ (Hf hkn) hj2;obtain⟨fn,tmps,assign,body,hy,hR⟩:=hq_) |(have hq_:=IA l2 0<|HY.out k _ M _ (PU hkn) hj2;obtain⟨fn,tmps,assign,body,hy,hR⟩:=hq_) |(have hq_:=IA l2 0<|HY.out k _ M _ (Nc hkn) hj2;obtain⟨fn,tmps,assign,body,hy,hR⟩:=hq_));gi_wp2;gi_region_with_o (refine hR.mono<|gP λW3 t hp=>?_);(all_goals clear hR hy);(all_goals gi_wp2);(all_goals (rename_i ht;cases t<;>simp at ht));all_goals first |exact⟨(Xp _ _).trans (hp.out.2 rfl).1,rfl,(hp.out.2 rfl).2⟩ |(obtain⟨hw,M',hj3,hM⟩:=hp.out.1 rfl;have Pt:W.heap.size+1<A2.heap.size:=zw<|hk2.cell h3;have hsa:=hk2.size;refine⟨(Xp _ _).trans hw,_,⟨hj3,hw.cell h4 g0,hw.cell h5<|hk2.cell h3,λh=>?_,λh=>?_⟩,λy hy=>?_⟩;{rcases hM _ h with h|h;{grind};have:A2.heap.size<=W.heap.size:=h;omega};{rcases hM _ h with h|h;{grind};have:A2.heap.size<=W.heap.size+1:=h;omega};rcases hM y hy with h|h;{grind};exact .inr<|zF hsa h));(first |(case done=>rintro D M A hD ⟨h1,h2,h3,h4,h5⟩ hd;gi_wp2;refine qh hd ?_;refine⟨_,qI rfl _ _ _,⟨_,rfl⟩,.inl ⟨M,?_⟩⟩;rw[jJ];rw[ji]at h1;exact hJ _ _ _ _ h1<|zn.putObj _ (by simp at hD;omega) hd rfl) |(case done=>rintro D M A hD ⟨h1,h2,h3,h4,h5⟩ hd;gi_wp2;refine qh hd ?_;refine⟨_,qI rfl _ _ _,⟨_,rfl⟩,.inl ⟨M,?_⟩⟩;rw[IB];rw[ji]at h1;exact hJ _ _ _ _ h1<|zn.putObj _ (by simp at hD;omega) hd rfl) |(case done=>rintro D M A hD ⟨h1,h2,h3,h4,h5⟩ hd;gi_wp2;refine qh hd ?_;refine⟨_,qI rfl _ _ _,⟨_,rfl⟩,.inl ⟨M,?_⟩⟩;rw[KP];rw[ji]at h1;exact hJ _ _ _ _ h1<|zn.putObj _ (by simp at hD;omega) hd rfl));(first |(case stop=>rintro D c k A hD hk ⟨rfl,h1⟩ hd;gi_wp2;refine qh hd ?_;refine⟨_,qI rfl _ _ _,⟨_,rfl⟩,.inr ⟨k,?_,hJx _ _ _ h1<|zn.putObj _ (by simp at hD;omega) hd rfl⟩⟩;rw[jJ];rwa [ji]at hk) |(case stop=>rintro D c k A hD hk ⟨rfl,h1⟩ hd;gi_wp2;refine qh hd ?_;refine⟨_,qI rfl _ _ _,⟨_,rfl⟩,.inr ⟨k,?_,hJx _ _ _ h1<|zn.putObj _ (by simp at hD;omega) hd rfl⟩⟩;rw[IB];rwa [ji]at hk) |(case stop=>rintro D c k A hD hk ⟨rfl,h1⟩ hd;gi_wp2;refine qh hd ?_;refine⟨_,qI rfl _ _ _,⟨_,rfl⟩,.inr ⟨k,?_,hJx _ _ _ h1<|zn.putObj _ (by simp at hD;omega) hd rfl⟩⟩;rw[KP];rwa [ji]at hk));obtain⟨i,hi,rfl⟩:=qP.1 hv;rfl
abbrev Px:=nx.1
abbrev zlC:=nx.2.1
abbrev zjX:=nx.2.2
end
section
variable {P:Program}{Q:Exit->Act->H->Prop}{a:Act}{l n:Nat}{ops:Array Oper}{w:H}
theorem zlD{row}{args:W_}{w}{R a}(h:Rows P row args w R)(b:∀v w,R v w->a v w):RowsIn (Fence.wide.inRound l) n P row args w a:=by intro c cs _;have⟨v,a,r,s⟩:=h c cs;exact⟨v,a,b v a r,stepsIn_wide.2 s⟩
theorem Tv{o:Oper}{a}{K K'}(hK:∀a w,K a w->K' a w){r}(h:o.upon P a K Q r):o.uponIn (Fence.wide.inRound l) n P a K' Q r:=by unfold Oper.upon at h;split at h;{exact hK _ _ h};{exact hK _ _ h};{exact hK _ _ h};{refine⟨(λh=>by cases h),Zq l<|zq.2<|h.mono ?_⟩;grind};{exact⟨(λh=>by cases h),zlD h λ_ _ h=>hK _ _ h⟩};{exact h};exact h.elim
theorem Wv{ops}{i}{K d}{a}{w}(f:∀o∈ops.toList,∀c,o.op≠ .defer c)(e:¬LetsOut Q)(b:∀a w,K a w->d a w)(h:wpOp P ops Q i K a w):wpOpIn (Fence.wide.inRound l) n P ops Q i d a w:=by unfold wpOp at h;unfold wpOpIn;cases ho:ops[i]? with |none=>rw[ho]at h;exact b _ _ h |some o=>rw[ho]at h;simp only at h⊢;have hm:o∈ops.toList:=g_;split;{rename_i d;rw[zQ d]at h;rcases h with h|h;{refine⟨λ_ _=>trivial,?_⟩;rw[Oper.semAt_eq _ _ _<|f o hm];exact Tv b h};exact absurd h.2 e};rename_i d;rw[zO d]at h;exact⟨λ_ _=>trivial,b _ _ h⟩
theorem MF{md:Region.Mode}{ops:Array Oper}(e:∀o∈ops.toList,∀c,o.op≠ .defer c)(d:¬LetsOut Q):∀(b:Nat) (f:Array Bool) (a:Act) (w:H),wpAny P md ops Q b f a w->wpAnyIn (Fence.wide.inRound l) n P md ops Q b f a w
 |0,_,_,_,h=>h |b+1,_,_,_,h=>⟨h.1,λi g=>Wv e d (λa w h=>MF e d b _ a w h) (h.2 i g)⟩
theorem jK{id}{S:H->Prop}(hm:P.follows .mixedOrders=true)(e:ops.toList.all (λo=>match o.op with|.defer _=>false|_=>true)=true)(b:¬LetsOut Q)(c:S w.drew)(h:S w.drew->wpAnyH P .any ops Q S ops.size (kat ops.size false) a w.drew):(Code.region id ops true).wpIn (Fence.wide.inRound l) n P Q a w:=by refine jX hm<|MF (λo f d d=>?_) b _ _ _ _<|Hr _ _ _ _<|h c;grind
theorem zn.fresh{B}{A X}(h:zn B A X){g}(hg:A.heap.size<=g)(i)(v):zn B A (X.setCell (Xd g i O) v):=⟨h.os,h.tape,h.output,by simpa using h.size,λk o a b=>by have c:=(zd.1 a).1;rw[qC _ _ _ _ so];exact h.block k o a b⟩
def Gu (md:Region.Mode)(ops:Array Oper)(L:Nat):Bool:=
 (L+1 == ops.size)&&((kal ops.size).all λi=>((ops[i]?).map λo=>o.after.all λe=>decide (e.on<i)).getD false) &&
  (kal L).all λj=>((ops[L]?).map λo=>o.after.any λe=>Region.binds md e&&e.on == j).getD false
def Hi (P:Program)(ops:Array Oper)(Q:Exit->Act->H->Prop)(L:Nat):Exit->Act->H->Prop
 |.normal,a,w=>wpOp P ops Q L (λa w=>Q .normal a w) a w
 |e,a,w=>Q e a w
section
variable {P:Program} {ops:Array Oper} {Q:Exit->Act->World->Prop} {md:Region.Mode} {L:Nat}
theorem IZ (h:Gu md ops L=true):L+1=ops.size/\(∀i (o:Oper),ops[i]? =E o->∀e∈o.after.toList,e.on<i)/\(∀o,ops[L]? =E o->∀j,j<L->∃e∈o.after.toList,Region.binds md e=true/\e.on=j):=by unfold Gu at h;rw[Qj,Qj]at h;have⟨⟨a,c⟩,d⟩:=h;refine⟨g_,λi o a e b=>?_,λo a j g=>?_⟩;{have f:=(zd.1 a).1;have:=Zi.1 c i<|Z8.2 f;rw[a]at this;simp only[qY,qB]at this;rw[<-NC]at this;grind};have:=Zi.1 d j<|Z8.2 g;grind
theorem Dg {a:Array _}{i j}(d)(h:i≠j):(a.setIfInBounds i true).getD j d=a.getD j d:=by simp only[Zw,Array.getElem?_setIfInBounds_ne h]
theorem zfM {a:Array _}{i}(b:i<a.size)(d):(a.setIfInBounds i true).getD i d=true:=by simp[Zw,Array.getElem?_setIfInBounds_self_of_lt b]
theorem mem_ready {a}{i}:i∈kan md ops a↔i<ops.size/\a.getD i true=false/\∃o,ops[i]? =E o/\∀e∈o.after.toList,Region.binds md e=true->a.getD e.on false=true:=by unfold kan;rw[ZF,Z8];constructor;{rintro⟨b,c⟩;rw[Qj]at c;refine⟨b,g_,_,qD b,λe f d=>?_⟩;have a:=c.2;rw[qD b]at a;simp only[qY,qB]at a;rw[<-NC]at a;grind};grind
theorem zgf {a:Array _}{j}(h:a.getD j true=false):a.getD j false=false:=by grind
theorem zhX {a:Array _}{j}(b:j<a.size)(h:¬a.getD j true=false):a.getD j false=true:=by rw[Zw,qD b]at *;simpa using h
theorem VO {a}(b:Gu md ops L=true)(hs:a.size=ops.size){j}(g:j<L)(p:a.getD j true=false):kan md ops (a.setIfInBounds L true)=kan md ops a:=by
 have⟨_,k,f⟩:=IZ b;have l:∀i,i∈kan md ops (a.setIfInBounds L true)↔i∈kan md ops a:=by intro i;rw[mem_ready,mem_ready];by_cases d:i=L;{subst d;constructor;{simp};grind};constructor;{rintro⟨g,f,o,a,h⟩;rw[Dg _<|Qr d]at f;refine⟨g,f,o,a,λe b c=>?_⟩;have:=h e b c;rwa [Dg _<|by grind]at this};rintro⟨g,f,o,a,h⟩;refine⟨g,by rw[Dg _<|Qr d];omega,o,a,λe b c=>?_⟩;rw[Dg _ g_];grind
 unfold kan at l⊢;refine List.filter_congr λi d=>?_;have:=l i;grind
theorem Ln {listed}(hc:Gu md ops L=true)(hs:listed.size=ops.size):∀j,j<ops.size->listed.getD j true=false->kan md ops listed≠ []:=by have⟨c1,c2,c3⟩:=IZ hc;intro j;induction j using Nat.strongRecOn with |ind j ih=>intro hj hu;by_cases hex:∃i,i<j/\listed.getD i true=false;{grind};refine P2<|mem_ready.2 ⟨hj,hu,_,qD hj,λe he _=>?_⟩;grind
theorem Gn {o:Oper}{a}{K K'}(hK:∀a w,K a w->K' a w){r}(h:o.upon P a K (Hi P ops Q L) r):o.upon P a K' Q r:=by unfold Oper.upon at h⊢;split at h;{exact hK _ _ h};{exact hK _ _ h};{exact hK _ _ h};{apply h.mono;rintro e w' he;cases e with |returned v=>exact hK _ _ he |panicked c=>exact he |outgrown=>exact he};{exact h.mono λ_ _ h=>hK _ _ h};{exact h};omega
theorem GK {i}{a}{w}{K c}(b:∀a w,K a w->c a w)(h:wpOp P ops (Hi P ops Q L) i K a w):wpOp P ops Q i c a w:=by unfold wpOp at h⊢;cases ho:ops[i]? with |none=>rw[ho]at h;exact b _ _ h |some o=>rw[ho]at h;simp only at h⊢;split;{rename_i c;rw[zQ c]at h;rcases h with h|⟨d,a,w,e⟩;{exact .inl<|Gn b h};exact .inr ⟨d,a,w,e⟩};rename_i c;rw[zO c]at h;exact b _ _ h
theorem R3 (f:Gu md ops L=true):∀l b a w,b.size=ops.size->b.getD L true=false->wpAny P md ops (Hi P ops Q L) l (b.setIfInBounds L true) a w->wpAny P md ops Q (l+1) b a w:=by have⟨_,_,_⟩:=IZ f;intro l;induction l with |zero=>intro b a w e p h;by_cases k:∃j,j<L/\b.getD j true=false;{have⟨j,s,o⟩:=k;exact absurd (by rw[<-VO f e s o];exact h.1)<|Ln f e j om o};have r:=h.1;have t:wpOp P _ Q L _ a w:=h.2;refine⟨λm=>absurd m<|Ln f e L om p,λi g=>?_⟩;have⟨u,d,A,y,v⟩:=mem_ready.1 g;have c:i=L:=Ze λx=>k ⟨i,om,d⟩;subst c;exact wpOp_mono (λa w q=>⟨r,q⟩) t |succ l z=>intro b a w e p h;by_cases k:∃j,j<L/\b.getD j true=false;{have⟨j,s,o⟩:=k;have l:=VO f e s o;refine⟨λm=>absurd m<|Ln f e j om o,λi g=>?_⟩;have j:i∈kan md ops (b.setIfInBounds L true):=g_;(have c:i≠L:=by rintro rfl;have:=(mem_ready.1 j).2.1;rw[zfM om]at this;cases this);refine GK (λa w q=>z _ a w g_ (by simp_all) ?_)<|h.2 i j;rw[Array.setIfInBounds_comm _ _ c];exact q};(have j:∀i,i∈kan md ops (b.setIfInBounds L true)->False:=by intro i g;have⟨u,d,_⟩:=mem_ready.1 g;by_cases c:i=L;{simp_all};rw[Dg _<|Qr c]at d;grind);have r:=Nx.2 j;have t:wpOp P _ Q L _ a w:=h.1 r;refine⟨λm=>absurd m<|Ln f e L om p,λi g=>?_⟩;have⟨u,d,A,y,v⟩:=mem_ready.1 g;have c:i=L:=Ze λx=>k ⟨i,om,d⟩;subst c;refine wpOp_mono (λa w q=>⟨λ_=>q,λk b=>?_⟩) t;rw[r]at b;cases b
theorem Eb {a}{w}{o}(ho:ops.toList[L]? =E o:=by rfl)(hg:kao o (yielded ops a.tmps)=true:=by rfl)(h:o.wp P a w (λa w=>Q .normal a w) Q):Hi P ops Q L .normal a w:=by show wpOp P _ Q L (λa w=>Q .normal a w) a w;unfold wpOp;rw[<-jz,ho];simp only;rw[zQ hg];grind
theorem EB {n l id}{S:World->Prop}{a}{w}(L)(hm:P.follows .mixedOrders=true)(Me:ops.toList.all (λo=>match o.op with|.defer _=>false|_=>true)=true)(hQ:¬LetsOut Q)
 (hS:S w.drew) (hcl:Gu .any ops L=true:=by kernel_rfl) (h:S w.drew->wpAnyH P .any ops (Hi P ops Q L) S L ((kat ops.size false).setIfInBounds L true) a w.drew):(Code.region id ops true).wpIn (Fence.wide.inRound l) n P Q a w:=by refine jX hm<|MF (λo ho c hc=>?_) hQ _ _ _ _ ?_;{grind};have e:=(IZ hcl).1;rw[<-e];apply R3 hcl L _ _ _ g_ sp;have:=Hr _ _ _ _<|h hS;rwa [<-e]at this
end
end
def Fe (md:Region.Mode)(ops:Array Oper)(L:Nat):Bool:=
 decide (L<ops.size)&&((kal ops.size).all λi=>((ops[i]?).map λo=>o.after.all λe=>decide (e.on<i)).getD false) &&
  ((kal L).all λj=>(kal (L+1)).any λc=>((ops[c]?).map λo=>o.after.any λe=>Region.binds md e&&e.on == j).getD false) &&
  (kal ops.size).all λi=>decide (i<=L)||((ops[i]?).map λo=>o.after.any λe=>Region.binds md e&&e.on+1 == i).getD false
def DU (F:Fence)(n:Nat)(P:Program)(ops:Array Oper)(Q:Exit->Act->H->Prop)(L:Nat):Exit->Act->H->Prop
 |.normal,a,w=>wpOpsIn F n P ops Q (List.range' L (ops.size-L)) a w
 |e,a,w=>Q e a w
section
variable {F:Fence} {n:Nat} {P:Program} {ops:Array Oper} {Q:Exit->Act->World->Prop} {md:Region.Mode} {L:Nat}
theorem Us {o:Oper}{p}(h:o.after.any p=true):∃e∈o.after.toList,p e=true:=by rw[<-Array.any_toList]at h;exact QR.1 h
theorem Il (h:Fe md ops L=true):L<ops.size/\(∀i (o:Oper),ops[i]? =E o->∀e∈o.after.toList,e.on<i)/\(∀j,j<L->∃c o,c<=L/\ops[c]? =E o/\∃e∈o.after.toList,Region.binds md e=true/\e.on=j)/\(∀i o,ops[i]? =E o->L<i->∃e∈o.after.toList,Region.binds md e=true/\e.on+1=i):=by unfold Fe at h;rw[Qj,Qj,Qj]at h;have⟨⟨⟨a,b⟩,k⟩,l⟩:=h;refine⟨g_,λi o a e f=>?_,λj p=>?_,λi o a g=>?_⟩;{have g:=(zd.1 a).1;have:=Zi.1 b i<|Z8.2 g;rw[a]at this;simp only[qY,qB]at this;rw[<-NC]at this;simpa using Zi.1 this e f};{have⟨c,m,d⟩:=QR.1<|Zi.1 k j<|Z8.2 p;cases a:ops[c]? with |none=>rw[a]at d;cases d |some o=>rw[a]at d;simp only[qY,qB]at d;have⟨e,f,b⟩:=Us d;rw[Qj]at b;exact⟨c,o,by have:=Z8.1 m;omega,a,e,f,b.1,by simpa using b.2⟩};have d:=(zd.1 a).1;have:=Zi.1 l i<|Z8.2 d;rw[Bool.or_eq_true,a]at this;rcases this with h|h;{exact absurd (by simpa using h)<|Nat.not_le.2 g};simp only[qY,qB]at h;have⟨e,f,b⟩:=Us h;rw[Qj]at b;exact⟨e,f,b.1,by simpa using b.2⟩
def Shut (md:Region.Mode)(ops:Array Oper)(listed:Array Bool):Prop:=∀i o,ops[i]? =E o->listed.getD i false=true->∀e∈o.after.toList,Region.binds md e=true->listed.getD e.on false=true
theorem zqj {b}(h:Shut md ops b){i}(a:i∈kan md ops b):Shut md ops (b.setIfInBounds i true):=by
 have⟨_,k,_,m,l⟩:=mem_ready.1 a;intro j o c g e f d;have a:b.getD e.on false=true:=by by_cases b:j=i;{grind};rw[Dg _<|Qr b]at g;exact h j o c g e f d
 by_cases b:e.on=i;{grind};rw[Dg _<|Qr b];omega
def vW (L:Nat)(listed:Array Bool):Array Bool:=listed.mapIdx λi b=>b||decide (L<=i)
theorem Kr {a}{i}(b:i<L)(d):(vW L a).getD i d=a.getD i d:=by unfold vW;simp only[Zw,VP];grind
theorem P9 {a}{i}(b:L<=i)(hs:i<a.size)(d):(vW L a).getD i d=true:=by unfold vW;simp only[Zw,VP,qD hs];simp[b]
theorem Ya {a}{i}(b:i<L):(vW L a).setIfInBounds i true=vW L (a.setIfInBounds i true):=by unfold vW;grind
theorem zor (hc:Fe md ops L=true){listed}(F1:Shut md ops listed){o}(ho:ops[L]? =E o)(hr:∀e∈o.after.toList,Region.binds md e=true->listed.getD e.on false=true):∀d j,L-j=d->j<L->listed.getD j false=true:=by have⟨c1,c2,c3,c4⟩:=Il hc;intro d;induction d using Nat.strongRecOn with |ind d ih=>intro j hd hj;have⟨c,oc,hcL,hoc,e,he,hb,hon⟩:=c3 j hj;have hlt:=c2 c _ hoc e he;by_cases hce:c=L;{grind};rw[<-hon];exact F1 c _ hoc (ih _ om c rfl om) e he hb
theorem Vy (b:Fe md ops L=true){a}(hs:a.size=ops.size)(l:Shut md ops a)(f:∀j,L<=j->j<ops.size->a.getD j true=false){j}(e:j<L)(p:a.getD j true=false):kan md ops (vW L a)=kan md ops a:=by
 have⟨_,k,_,d⟩:=Il b;have m:∀i,i∈kan md ops (vW L a)↔i∈kan md ops a:=by intro i;rw[mem_ready,mem_ready];by_cases g:L<=i;{constructor;{rintro⟨a,h,_⟩;rw[P9 g om]at h;grind};rintro⟨a,_,o,a,h⟩;by_cases c:i=L;{subst c;have:=zor b l a h _ j rfl e;grind};grind};have l:i<L:=om;constructor;{rintro⟨f,d,o,a,h⟩;rw[Kr l]at d;refine⟨f,d,o,a,λe b c=>?_⟩;have:=h e b c;rwa [Kr (by have:=k i o a e b;omega)]at this};rintro⟨f,d,o,a,h⟩;refine⟨f,by rw[Kr l];exact d,o,a,λe b c=>?_⟩;rw[Kr (by have:=k i o a e b;omega)];exact h e b c
 unfold kan at m⊢;refine List.filter_congr λi g=>?_;have:=m i;rw[ZF,ZF]at this;simp only[g,true_and]at this;exact Hy.2 this
theorem zqk {o:Oper}{a}{K K'}(hK:∀a w,K a w->K' a w){r}(h:o.uponIn F n P a K (DU F n P ops Q L) r):o.uponIn F n P a K' Q r:=by unfold Oper.uponIn at h⊢;split at h;{exact hK _ _ h};{exact hK _ _ h};{exact hK _ _ h};{refine⟨h.1,h.2.mono ?_⟩;rintro e w' he;cases e with |returned v=>exact hK _ _ he |panicked c=>exact he |outgrown=>exact he};{exact⟨h.1,h.2.mono λ_ _ h=>hK _ _ h⟩};{refine⟨h.1,h.2.mono ?_⟩;rintro e w' he;cases e with |returned v=>exact hK _ _ he |panicked c=>exact he |outgrown=>exact he};{exact h};omega
theorem Y0 {i}{a}{w}{K c}(b:∀a w,K a w->c a w)(h:wpOpIn F n P ops (DU F n P ops Q L) i K a w):wpOpIn F n P ops Q i c a w:=by unfold wpOpIn at h⊢;cases ho:ops[i]? with |none=>rw[ho]at h;exact b _ _ h |some o=>rw[ho]at h;simp only at h⊢;split;{rename_i c;rw[zQ c]at h;exact⟨h.1,zqk b h.2⟩};grind
theorem zqm (e:Fe md ops L=true):∀d m c b a w,ops.size-m=d->L<=m->m<=ops.size->b.size=ops.size->(∀j,j<m->b.getD j true=true)->(∀j,m<=j->j<ops.size->b.getD j true=false)->wpOpsIn F n P ops Q (List.range' m (ops.size-m)) a w->wpAnyIn F n P md ops Q (c+d) b a w:=by
 have⟨_,r,_,s⟩:=Il e;intro d;induction d with
 |zero=>
  intro m c b a w o p hm q f k h;have l:kan md ops b= []:=Nx.2 λi e=>by
   have⟨u,g,_⟩:=mem_ready.1 e;grind
  rw[o]at h;cases c with
  |zero=>exact⟨l,h⟩
  |succ c=>exact⟨λ_=>h,λi e=>g_⟩
 |succ d t=>
  intro m c b a w o p hm q f k h;have l:m<ops.size:=om;rw[o,List.range'_succ,wpOpsIn_cons]at h;refine⟨λp=>?_,λi e=>?_⟩
  ·have:m∈kan md _ b:=mem_ready.2 ⟨l,k m (zh _) l,_,qD l,λb o _=>?_⟩
   ·rw[p]at this;cases this
   grind
  ·obtain⟨u,g,v,r,u⟩:=mem_ready.1 e;have l:i=m:=g_
   subst l;have b:ops.size-(i+1)=d:=om;refine wpOpIn_mono (λa w g=>t _ c _ a w b om om g_ (λj c=>?_) (λj c e=>?_) ?_) h
   ·by_cases c:j=i
    ·simp_all
    ·rw[Dg _<|Qr c];grind
   ·rw[Dg _ om];grind
   ·rw[b];exact g
theorem Uj (hc:Fe md ops L=true):∀fuel listed a w,listed.size=ops.size->Shut md ops listed->(∀j,L<=j->j<ops.size->listed.getD j true=false)->wpAnyIn F n P md ops (DU F n P ops Q L) fuel (vW L listed) a w->wpAnyIn F n P md ops Q (fuel+(ops.size-L)) listed a w:=by
 have⟨c1,c2,c3,c4⟩:=Il hc;have hend:∀fuel (listed:Array Bool) (a:Act) (w:H),listed.size=ops.size->(∀j,L<=j->j<ops.size->listed.getD j true=false)->(¬∃j,j<L/\listed.getD j true=false)->wpAnyIn F n P md ops (DU F n P ops Q L) fuel (vW L listed) a w->wpAnyIn F n P md ops Q (fuel+(ops.size-L)) listed a w:=by intro fuel listed a w hs hL hu h;(have hr:kan md ops (vW L listed)= []:=Nx.2 λi hi=>by have⟨k1,k2,_⟩:=mem_ready.1 hi;by_cases hi2:L<=i;{rw[P9 hi2 om]at k2;grind};rw[Kr om]at k2;grind);(have hq:DU F n P ops Q L .normal a w:=by cases fuel with |zero=>exact h.2 |succ fuel=>exact h.1 hr);refine zqm hc _ L fuel listed a w rfl (zh _) om hs (λj hj=>?_) hL hq;cases hj2:listed.getD j true with |false=>grind |true=>rfl
 intro fuel;induction fuel with |zero=>intro listed a w hs F1 hL h;by_cases hu:∃j,j<L/\listed.getD j true=false;{have⟨j,hj,hju⟩:=hu;(have hr0:kan md ops listed= []:=by rw[<-Vy hc hs F1 hL hj hju];exact h.1);exfalso;(have hsome:∀j,j<ops.size->listed.getD j true=false->kan md ops listed≠ []:=by intro j;induction j using Nat.strongRecOn with |ind j ih=>intro hj hu;by_cases hex:∃i,i<j/\listed.getD i true=false;{grind};refine P2<|mem_ready.2 ⟨hj,hu,_,qD hj,λe he _=>?_⟩;grind);grind};exact hend 0 _ a w hs hL hu h |succ fuel ih=>intro listed a w hs F1 hL h;by_cases hu:∃j,j<L/\listed.getD j true=false;{have⟨j,hj,hju⟩:=hu;have hr:=Vy hc hs F1 hL hj hju;(have hsome:∀j,j<ops.size->listed.getD j true=false->kan md ops listed≠ []:=by intro j;induction j using Nat.strongRecOn with |ind j ih=>intro hj hu;by_cases hex:∃i,i<j/\listed.getD i true=false;{have⟨i,hi,hiu⟩:=hex;exact ih i hi om hiu};refine P2<|mem_ready.2 ⟨hj,hu,ops[j],qD hj,λe he _=>?_⟩;have hlt:=c2 j _ (qD hj) e he;exact zhX om λh=>hex ⟨e.on,hlt,h⟩);have e2:fuel+1+(ops.size-L)=fuel+(ops.size-L)+1:=om;rw[e2];refine⟨λh0=>absurd h0<|hsome j om hju,λi hi=>?_⟩;(have hi':i∈kan md ops (vW L listed):=by rw[hr];exact hi);(have hiL:i<L:=by refine Ze λhne=>?_;have:=(mem_ready.1 hi').2.1;rw[P9 om (by have:=(mem_ready.1 hi').1;omega)]at this;cases this);refine Y0 (λa w q=>ih _ a w (by rw[zaF];exact hs) (zqj F1 hi) (λj hj hjs=>by rw[Dg _ om];exact hL j hj hjs) ?_)<|h.2 i hi';rw[<-Ya hiL];exact q};exact hend (fuel+1) listed a w hs hL hu h
theorem Hv {n l id}{S:World->Prop}{a}{w}(L)(hm:P.follows .mixedOrders=true)(Me:ops.toList.all (λo=>match o.op with|.defer _=>false|_=>true)=true)(hQ:¬LetsOut Q)
 (hS:S w.drew) (hcl:Fe .any ops L=true:=by kernel_rfl) (h:S w.drew->wpAnyH P .any ops (DU (Fence.wide.inRound l) n P ops Q L) S L (vW L (kat ops.size false)) a w.drew):(Code.region id ops true).wpIn (Fence.wide.inRound l) n P Q a w:=by
 have e:=(Il hcl).1;have e2:L+(ops.size-L)=ops.size:=om;apply jX hm;rw[<-e2];have hall:∀j,L<=j->j<ops.size->(kat ops.size false).getD j true=false:=λj _ hj=>by simp_all
 have:=Uj hcl L _ a _ g_ (λi o ho hl=>?_) hall<|MF (λo ho c hc=>?_) ?_ _ _ _ _<|Hr _ _ _ _<|h hS;{rw[e2]at this⊢;exact this};{have hi:=(zd.1 ho).1;simp_all};{grind};rintro⟨a,w,h⟩;exact hQ ⟨a,w,h⟩
end
section
variable {P:Program}{Q:Exit->Act->H->Prop}{n:Nat}
theorem zmr{o:Oper}{a}{K K'}(hK:∀a w,K a w->K' a w){r}(h:o.upon P a K Q r):o.uponIn kak n P a K' Q r:=by unfold Oper.upon at h;split at h;{exact hK _ _ h};{exact hK _ _ h};{exact hK _ _ h};{refine⟨(λh=>by cases h),zq.2<|h.mono ?_⟩;grind};{refine⟨(λh=>by cases h),λc cs _=>?_⟩;have⟨v,w',r,s⟩:=h c cs;exact⟨v,_,hK _ _ r,stepsIn_wide.2 s⟩};{exact h};exact h.elim
theorem zms{ops}{i}{K c}{a}{w}(d:¬LetsOut Q)(b:∀a w,K a w->c a w)(h:wpOp P ops Q i K a w):wpOpIn kak n P ops Q i c a w:=by unfold wpOp at h;unfold wpOpIn;cases ho:ops[i]? with |none=>rw[ho]at h;exact b _ _ h |some o=>rw[ho]at h;simp only at h⊢;split;{rename_i c;rw[zQ c]at h;rcases h with h|h;{refine⟨λ_ _=>trivial,?_⟩;rw[show Fence.wide.round=O from rfl,Oper.semAt_none];exact zmr b h};exact absurd h.2 d};rename_i c;rw[zO c]at h;exact⟨λ_ _=>trivial,b _ _ h⟩
theorem LG{md:Region.Mode}{ops:Array Oper}(c:¬LetsOut Q):∀(b:Nat) (d:Array Bool) (a:Act) (w:H),wpAny P md ops Q b d a w->wpAnyIn kak n P md ops Q b d a w
 |0,_,_,_,h=>h |b+1,_,_,_,h=>⟨h.1,λi e=>zms c (λa w h=>LG c b _ a w h) (h.2 i e)⟩
section
variable {P:Program} {ops:Array Oper} {Q:Exit->Act->World->Prop}
theorem Fi:¬LetsOut (λe a w=>e=Exit.normal/\Q .normal a w):=by rintro⟨a,w,h,-⟩;cases h
theorem Jc {n id}{S}{a}{w}(hm:P.follows .mixedOrders=true)
 (b:S w.drew) (h:S w.drew->wpAnyH P .any ops (λe a w=>e= .normal/\Q .normal a w) S ops.size (kat ops.size false) a w.drew):(Code.region id ops true).wpIn kak n P Q a w:=by apply De<|jX hm<|LG Fi _ _ _ _<|Hr _ _ _ _<|h b;grind
theorem zlF {n id}{S}{a}{w}(L)(hm:P.follows .mixedOrders=true)
 (hS:S w.drew) (hcl:Gu .any ops L=true:=by kernel_rfl) (h:S w.drew->wpAnyH P .any ops (Hi P ops (λe a w=>e= .normal/\Q .normal a w) L) S L ((kat ops.size false).setIfInBounds L true) a w.drew):(Code.region id ops true).wpIn kak n P Q a w:=by refine De (jX (Q:=λe a w=>e= .normal/\Q .normal a w) hm<|LG Fi _ _ _ _ ?_) ?_;{have e:=(IZ hcl).1;rw[<-e];apply R3 hcl L _ _ _ g_ sp;have:=Hr _ _ _ _<|h hS;rwa [<-e]at this};grind
end
end
namespace T
theorem Tryz.D9:(Tryz.prog.info? 3).map (λi=>(i.zero,i.size,i.bytes))=E (E (i_ 0),1,8):=kr
end T
section
variable {ds:N_}
theorem XW(ds:N_)(i x):(ds.set i x).map gZ=(ds.map gZ).set i (gZ x):=by rw[List.map_set]
theorem znx{b:N_}{k c m}(d:k<b.length)(e:val (b.take k)+4294967296^k*c=val (ds.take k)*1000000000+m):
 val ((b.set k ((c+ds.getD k 0*1000000000)%4294967296)).take (k+1))+4294967296^(k+1)*((c+ds.getD k 0*1000000000)/4294967296)=val (ds.take (k+1))*1000000000+m:=by rw[mL b k _ d,gd ds k,Zs,Zg,Zt];omega
theorem AB(d:gT ds)(h:∀k,ds.length=k+1->4294967296^k<=val ds):nJ ds:=by intro k e c;have b:=h k e;have e:=J_ ds k om;rw[zP om]at e;rw[e,fU,c]at b;have c:=gg<|d.take k;rw[zX,Qw om]at c;simp[val]at b;omega
theorem YQ{c}(b:c≠0):nJ (ds ++ [c]):=by intro k d;grind
theorem zjY(w)(B g cap m)(ds)(f:w.ownsRow B 214 1 (V (E (Xd g 0 O)) ds.length cap) ds.length (ds.map gZ))(c:B<=w.heap.size)(d:ds.length<=1073741823)(hm:m<1000000000)(p:gT ds)(z:nJ ds):
 C_ 226 #[V (E (Xd g 0 O)) ds.length cap,it .u32 (m:Nat)] w λe w'=>
  ∃j i b,e=Xa (V (E (Xd j 0 O)) b.length i)/\w'.ownsRow B 214 1 (V (E (Xd j 0 O)) b.length i) b.length (b.map gZ)/\gT b/\val b=val ds*1000000000+m/\b.length<=ds.length+1/\Below B w w'/\nJ b:=by
 have v:=(LS f).1;have⟨I,y,A,C,D⟩:=Zn Xu;go_enter func226,ntmps226;go_wp2;go_loopw [5,11] (λh d wr=>∃(k c:Nat) (b:N_),k<=ds.length/\c<4294967296/\d=i_ k/\h=it .u64 c/\Hid (b.length=ds.length)/\gT b/\wr.ownsRow B 214 1 (V (E<|Xd g 0 O) ds.length cap) ds.length (b.map gZ)/\Below B w wr/\ Hid (b.drop k=ds.drop k)/\Hid (val (b.take k)+4294967296^k*c=val (ds.take k)*1000000000+m)) (λ_ d _=>ds.length-(intOf d).toNat);case atStart=>exact⟨0,m,_,qo _,om,rfl,rfl,rfl,p,f,qf _ _,rfl,by simp[Hid,val]⟩
 case round=>obtain⟨k,c,b,_,_,rfl,rfl,d,o,f,l,q,s⟩:=hrel;by_cases h:k<ds.length;{(have r:k<b.length:=by rw[d.out];exact h);have h:=ki f d.out k r;rw[H9 q.out,qt]at h;have h:=p.get k;have h:=f.frozenAt k;have h:=(f.stored k<|gZ<|(c+ds.getD k 0*1000000000)%4294967296).1;rw[<-XW]at h;have u:=zf<|znx r s.out;generalize ds.getD k 0=x at *;have r:gZ ((c+x*1000000000)%4294967296)=it .u32 ((c+x*1000000000)%4294967296):=rfl;rw[r]at h;go_wp2;go_roundw;(case rel=>exact⟨_,_,_,om,(zf<|by omega).out,g_,g_,g_,o.set _ _<|Z0 _ dc,h,l.setCell om _,by rw[Hid,QH];exact Di q.out,u.out⟩);case measure=>simp[intOf];omega};have h:k=ds.length:=om;have q:=s.out;rw[h,zP (by rw[d.out];omega),zP<|zh _]at q;by_cases s:c=0;{subst s;have h:=zf q;(have v:nJ b:=by refine AB o λu t=>?_;have r:=z.le u (by rw[<-d.out];omega);have t:=h.out;omega);go_wp2;go_ret;have t:=d.out;rw[<-t]at f;exact⟨g,_,b,Mk t.symm,f,o,om,om,l,(zf v).out⟩};have t:0<c:=om;have h:=zf q;have q:=l.size;go_wp2_with (at_builtin;refine MV _ rfl _ _ _ rfl B 214 I _ 1 4 underlying86 y A C D rfl dc (V _ _ _) _ _ rfl (f.alloc _) (y_ _ 0) 1 1 [gZ c] rfl rfl ?c1 ?c2 mo om so ?_);(case c1=>exact JC _ _ _);(case c2=>intro u f;simp at f;subst f;rfl);intro v x f t q;have u:v≠V_:=λe=>q e;have q:b.map gZ ++ [gZ c]=(b ++ [c]).map gZ:=sp;rw[q]at f;have⟨j,i,q,_,_,_,_,_⟩:=j_ f u;subst q;(have k:(b ++ [c]).length=ds.length+1:=by have:=d.out;simp;omega);go_wp2;go_ret;rw[<-k]at f;refine⟨j,i,_,Mk k.symm,f,o.append (by intro b p;grind),?_,om,(l.alloc om _).grown t so λk k=>by simp[kaj]at k;omega,YQ s⟩;rw[fU,d.out];simp[val];omega
def Iv:Value->Nat|gS s=>s.size|_=>0
theorem RN{l m}(h:Qm l=true)(hs:∀c∈m,c∈l):Qm m=true:=by unfold Qm at *;rw[Zi]at *;exact λc b=>h c (hs c b)
theorem Wm(l:U_):ZE (Lib.trimLeftB l 48)=ZE l:=by unfold Lib.trimLeftB;induction l with |nil=>rfl |cons c l d=>by_cases b:c=48;{subst b;have e:ZE (48::l)=ZE l:=rfl;simp_all};simp_all
theorem zk0(l:U_)(c):(Lib.trimLeftB l c).length<=l.length:=by unfold Lib.trimLeftB;exact(List.dropWhile_sublist _).length_le
theorem zlG{L:U_}{k n}(h:k=0\/n=9)(b:k+n<=L.length):ZE (L.take (k+n))=ZE (L.take k)*1000000000+ZE ((L.drop k).take n):=by rw[List.take_add,TN];rcases h with h|h;{subst h;simp[ZE]};grind
theorem iR(s)(m)(w)(hs:s.size<=1099511627776)(h:s.data.toList= []\/m<s.size\/Qm s.data.toList=false):
 C_ 167 #[gS s,i_ (m:Nat)] w λe w'=>e=Xa (tp #[V_,G false])/\w'=w:=by by_cases b:s.size=0;{have c:(s.size == 0)=true:=g_;go_enter func167,ntmps167;go_wp2;go_ret2;exact⟨rfl,rfl⟩};by_cases d:m<s.size;{go_enter func167,ntmps167;go_wp2;go_ret2;exact⟨rfl,rfl⟩};(have g:Qm s.data.toList=false:=by rcases h with h|h|h;{exact absurd (by rw[Lib.size_eq,h];rfl) b};{omega};omega);go_enter func167,ntmps167;go_wp2_with fail;refine(zlz s _ hs g).mono<|fB ?_;go_wp2;go_ret2;exact⟨rfl,rfl⟩
theorem gW(s)(m)(w)(c:s.size<=1000000000)(b:0<s.size)(hs:s.size<=m)(h:Qm s.data.toList=true):
 C_ 167 #[gS s,i_ (m:Nat)] w λe w'=>∃v,e=Xa (tp #[v,G true])/\fe w' v (ZE s.data.toList)/\b_ w w':=by
 have d:((s.size:Int) == 0)=false:=ZN.2 om;have f:¬(m)<(s.size:Int):=om;have b:(Lib.trimLeftB s.data.toList 48).length<=s.size:=by rw[Lib.size_eq s];exact zk0 _ _
 have y:Qm (Lib.trimLeftB _ 48)=true:=RN h λx p=>(List.dropWhile_sublist _).subset p;have N:=zf<|Wm s.data.toList;obtain⟨g,i,j,o,q⟩:=Zn Xu;go_enter func167,ntmps167;go_wp2_with fail;refine(zkY s _ om h).mono<|fB ?_;clear h;go_wp2_with fail;refine(Tryz.strings_TrimLeft_one s _ dc _).mono ?_;rintro e c ⟨rfl,rfl⟩;generalize Lib.trimLeftB s.data.toList 48=L at *;have b:(kab L.toArray).size=L.length:=rfl;clear d f;go_wp2_with (at_make;refine wpList_make_own _ rfl _ _ _ rfl _ 214 g _ 1 underlying86 i j o _ _ _ (L.length/9+1) rfl rfl ?c0 g_ mo (zh _) ?_);case c0=>omega
 intro k f g;have r:b_ c k:=(qf _ _).grown g (zh _) λk h=>g_;have l:=zf b;clear g i j o q b;go_wp2;go_loopw [0,6] (λi o wr=>∃(t:ByteArray) (k j g:Nat) (b:N_),i=gS t/\o=V (E<|Xd j 0 O) b.length g/\k<=L.length/\t.size<=1000000000/\Hid (t.data.toList=L.drop k)/\Hid (t.size=L.length-k)/\Hid (k=0\/(L.length-k)%9=0)/\ wr.ownsRow c.heap.size 214 1 (V (E<|Xd j 0 O) b.length g) b.length (b.map gZ)/\gT b/\nJ b/\Hid (val b=ZE (L.take k))/\b.length<=k/\b_ c wr) (λi _ _=>Iv i);case atStart=>refine⟨_,0,_,_,_,rfl,rfl,qo _,by rw[l.out];omega,rfl,om,kai rfl,f,?_,nJ.nil,rfl,zh _,r⟩;intro i l;grind
 case round=>obtain⟨t,k,j,g,b,rfl,rfl,_,_,A,i,B,f,l,C,D,_,q⟩:=hrel;by_cases o:0<t.size;{have o:(t.size-1)%9+1<=t.size:=om;(have o:(t.extract 0<|(t.size-1)%9+1).data.toList=(L.drop k).take ((t.size-1)%9+1):=by rw[WC,Q2,XL,A.out]);(have u:(t.extract 0<|(t.size-1)%9+1).size<=9:=by rw[Lib.size_eq,o,zX];omega);(have r:Qm (t.extract 0<|(t.size-1)%9+1).data.toList=true:=by rw[o];exact RN y λx p=>My<|ZY p);have T:=Ra r;(have z:ZE (t.extract 0<|(t.size-1)%9+1).data.toList<1000000000:=by (have d:(t.extract 0<|(t.size-1)%9+1).data.toList.length<=9:=by rw[<-Lib.size_eq];exact u);have p:10^(t.extract 0<|(t.size-1)%9+1).data.toList.length<=10^9:=ZD om d;omega);(have p:k+((t.size-1)%9+1)<=L.length:=by have:=i.out;omega);(have y:k=0\/(t.size-1)%9+1=9:=by have d:=i.out;rcases B.out with h|h;{omega};omega);have I:=zf<|zlG y p;have J:=zf o;(have x:(t.extract ((t.size-1)%9+1) t.size).data.toList=L.drop (k+((t.size-1)%9+1)):=by rw[Lib.extract_to_end,A.out,Jn]);have K:=zf x;(have A:(L.length-(k+((t.size-1)%9+1)))%9=0:=by have:=i.out;omega);have M:=zf A;(have B:(t.extract ((t.size-1)%9+1) t.size).size=L.length-(k+((t.size-1)%9+1)):=by rw[Lib.size_eq,x,Za]);have p:=zf B;have R:=q.size;clear o T x A B y;go_wp2_with fail;refine(Y9 _ _ u r).mono ?_;rintro e o ⟨rfl,rfl⟩;clear u r;have o:(t.extract 0<|(t.size-1)%9+1).data.toList=t.data.toList.take ((t.size-1)%9+1):=sp;rw[o]at z;have r:=zf<|qm ZE<|o.symm.trans J.out;clear o;go_wp2_with fail;refine(zjY _ _ j g _ b f R om z l C).mono ?_;rintro e c ⟨o,c,j,rfl,y,x,A,_,u,z⟩;go_wp2;go_roundw;(case rel=>exact⟨_,_,o,c,j,rfl,rfl,om,by rw[p.out];omega,K,p,kac M.out,y,x,z,by rw[Hid,A,r.out,I.out,D.out],om,q.trans u⟩);case measure=>show(t.extract _ _).size<t.size;rw[p.out];have:=i.out;omega};(have c:k=L.length:=by have:=i.out;omega);(have i:val b=ZE s.data.toList:=by rw[D.out,c,Zx,N.out]);have j:=zf i;have o:=(LS f).2;have r:=ki f rfl;(have k:b.length<=g:=by obtain⟨_,d|⟨_,_,_,g,_,_,p,_⟩⟩:=f;{omega};grind);clear c i;go_wp2;go_ret2;refine⟨_,rfl,?_,q⟩;rw[<-j.out];exact⟨b,kR.mk r o k,l,C,rfl⟩
open Go.RowKit Go.Sort Go.Lib
theorem WL(u)(CQ:u<18446744073709551616)(w)(pO:Lib.TabIs pg w "internal/strconv.uint64pow10" .u64 Lib.pow10Tab):
 C_ 246 #[it .u64 (u:Nat),i_ 10] w λe w'=>e=Xa (gS ⟨(kad u).toArray⟩)/\b_ w w':=by by_cases hs:u<100;{go_enter func246,ntmps246;go_wp2_with fail;apply(Tryz.internal_strconv_small u hs _).mono;rintro e w' ⟨rfl,rfl⟩;go_wp2;go_ret;exact⟨rfl,qf _ _⟩};have hu1:1<=u:=om;(have hnd20:Lib.nDigits u<=20:=by have:=Lib.numDigits_eq u hu1 CQ;split at this<;>omega);have hal:Tryz.prog.arrayLen 141=24:=rfl;(have hsl1:∀W,(Instr.sliceAt _ _ O (E<|i_ _) O).run pg W= .ok (V (E<|y_ w 0) (Lib.nDigits u) 24) W:=λW=>by rw[run_sliceAt_array_h W _ (y_ w 0) rfl _ (Lib.nDigits u:Int) om (by rw[hal];omega)];rfl);have hH0:=Lib.holds_zero0 w 141 (Lib.nDigits u) om;have hfmt:=Tryz.internal_strconv_formatBase10 _ 0 24 u _ _ hH0 (by rw[JB];exact Lib.lt_pow_nDigits u) CQ g_;rw[JB]at hfmt;go_enter func246,ntmps246;go_wp2_with fail;apply(Tryz.internal_strconv_numDigits u hu1 CQ _<|Lib.tabIs_alloc pO _).mono;rintro e w' ⟨rfl,rfl⟩;go_wp2_with fail;apply (zf hfmt).out.mono;rintro e w' ⟨rfl,k,v',dk,rfl,hF⟩;(have hcv:(convert 54 9<|V (E<|y_ w 0) (Lib.nDigits u) 24).run pg ((putRow (λ(b:UInt8)=>it .u8 b.toNat) (w.alloc<|cl Lib.zeros24 141) w.heap.size 0 dk).drewN k)= .ok (gS ⟨(kad u).toArray⟩) ((putRow (λ(b:UInt8)=>it .u8 b.toNat) (w.alloc<|cl Lib.zeros24 141) w.heap.size 0 dk).drewN k):=by have h:=run_convert_bytes_back ((putRow (λ(b:UInt8)=>it .u8 b.toNat) (w.alloc<|cl Lib.zeros24 141) w.heap.size 0 dk).drewN k) 54 9 5 (y_ w 0) 24 (kad u) underlying54 underlying5 underlying9 (λj hj=>by rw[Lib.row_is_numeral hF j hj,Lib.add_plain,World.cell?_drewN];exact cell?_putRow _ _ _ 0 _ _ (zf hH0).out (by rw[hF.size,JB]) j (by rw[hF.size];rw[Lib.decDigits_length]at hj;omega));rw[Lib.decDigits_length]at h;exact h);(have hbel:b_ w ((putRow (λ(b:UInt8)=>it .u8 b.toNat) (w.alloc<|cl Lib.zeros24 141) w.heap.size 0 dk).drewN k):=by have hb1:b_ w (w.alloc<|cl Lib.zeros24 141):=(qf _ _).alloc (zh _) _;refine Ld<|hb1.trans ⟨rfl,rfl,rfl,?_,?_⟩;{simp};intro i hi;simp only[putRow,mapBlock,Mv];grind);go_wp2;go_ret;simp_all
theorem YA(u)(c:u<18446744073709551616)(w)(b:Lib.TabIs pg w "internal/strconv.uint64pow10" .u64 Lib.pow10Tab):
 C_ 201 #[it .u64 (u:Nat),i_ 10] w λe w'=>e=Xa (gS ⟨(kad u).toArray⟩)/\b_ w w':=by go_enter func201,ntmps201;go_wp2_with fail;refine(WL u c _ b).mono<|eU λw' b=>?_;go_wp2;go_ret;simp_all
end
section
variable {A w w':H}{B b c d e f g j k n o off:Nat}{ds xs:N_}{pt:Nat->Addr}{wd:U_}
theorem Tryz.sizeBuilder:(Tryz.prog.info? 248).map (·.size)=E 2:=by kernel_rfl
theorem Tryz.EW:(Tryz.prog.info? 5).map (λi=>(i.zero,i.size,i.bytes))=E (E (it .u8 0),1,1):=by kernel_rfl
theorem Tryz.liesBuilder:Go.liesAt pg Tryz.prog.depth 248 (2/Tryz.prog.cellsOf 248) 0 248 1=true:=kr
theorem T_(b)(w)(c:w.cell? (Xd b 0 O)=E (p_ b 0)):
 C_ 204 #[p_ b 0] w λe w'=>e=Xa (tp #[])/\w'=w:=by have⟨_,c,_⟩:=Option.map_eq_some_iff.1 Tryz.sizeBuilder;go_enter func204,ntmps204;go_wp2;rw[Lib.run_neq_ptr_same w _ underlying246 c];go_wp2;go_end0;grind
theorem UM(b)(w)(c:w.cell? (Xd b 0 O)=E (pn O))(d:w.shape? b=E (248,2))(f:w.frozen? (Xd b 0 O)=false):
 C_ 204 #[p_ b 0] w λe w'=>e=Xa (tp #[])/\w'=w.setCell (Xd b 0 O) (p_ b 0):=by have⟨_,c,f⟩:=Option.map_eq_some_iff.1 Tryz.sizeBuilder;go_enter func204,ntmps204;go_wp2;rw[Lib.run_to_unsafe w ⟨b,0,O⟩ underlying246 underlying363 c om d<|Nat.zero_lt_succ 1];simp only[Result.andThen];rw[Oper.upon_value];go_wp2;rw[run_callFunc_extern func251 kr kr kr kr];rw[Lib.run_noEscape];simp only[Result.andThen];rw[Oper.upon_value];go_wp2;rw[Lib.run_from_unsafe w ⟨b,0,O⟩ underlying363 underlying246 c d Tryz.liesBuilder];simp only[Result.andThen];rw[Oper.upon_value];go_wp2;go_end0;grind
theorem zmv(B b)(c)(w)(h:Lib.IsBuilderF 248 5 B b c w):
 C_ 204 #[p_ b 0] w λe w'=>e=Xa (tp #[])/\(Lib.BuilderAtF 248 5 B b (p_ b 0) c w'/\Below B w w'/\Lib.OthersKept 5 (E b) w w'):=by rcases h with h|h;{apply(UM b w h.cell0 h.shape h.frozen0).mono;rintro e w' ⟨rfl,rfl⟩;exact⟨rfl,h.used _,(qf B w).setCell h.1 _,(Lib.OthersKept.refl _ _ w).setCell (Xd b 0 O) rfl _⟩};refine(T_ b w h.cell0).mono<|fB ?_;exact⟨rfl,h,qf B _,Lib.OthersKept.refl _ _ _⟩
theorem Pj(B b)(c)(s)(w)(h:Lib.IsBuilderF 248 5 B b c w)(f:c.length+s.size<=140737488355328)(d:B<=w.heap.size):
 C_ 144 #[p_ b 0,gS s] w λe w'=>e=Xa (tp #[i_ s.size,.nilIface])/\(Lib.BuilderAtF 248 5 B b (p_ b 0) (c++Lib.strCells s) w'/\Below B w w'/\Lib.OthersKept 5 (E b) w w'):=by
 have⟨u,j,m,o,t⟩:=Zn Tryz.EW;go_enter func144,ntmps144;go_wp2_with fail;refine(zmv B b c _ h).mono<|eU λd ⟨g,i,q⟩=>?_;have⟨l,v,f,k,r⟩:=g;have g:d.cell? (Xd b 0 O)=E (p_ b 0):=by rw[L4 f];rfl
 have g:d.cell? (Xd b 1 O)=E v:=by rw[L4 f];rfl
 go_wp2_with (at_builtin;refine Lib.wpList_append_own_stringF _ rfl _ _ _ 9 rfl B 5 u underlying54 underlying9 j m o t _ _ _ rfl k s rfl ?c3 ?c4 ?c5 ?_);case c3=>unfold maxLen;omega
 case c4=>omega
 case c5=>grind
 intro t g m j _;have o:b<d.heap.size:=g_;have d:g.heap[b]? =E (cl #[p_ b 0,v] 248 (0,0)):=by rw[j.block b o λe=>r e.symm];exact f
 have f:g.cell? (Xd b 0 O)=E (p_ b 0):=by rw[L4 d];rfl
 have f:g.cell? (Xd b 1 O)=E v:=by rw[L4 d];rfl
 have f:=Lib.frozen_of_heap d 1;obtain⟨g,o,f,rfl⟩:∃g o f,t=V g o f:=by rcases m.2 with ⟨g,_⟩|⟨_,f,_,_,g,_⟩;{grind};grind
 go_wp2;go_ret2;refine⟨rfl,?_,?_,(q.grown j<|Lib.ownsRowF_kind k).setCell _ rfl _⟩;{exact Lib.BuilderAtF.put l d (by simpa[Lib.strCells_length]using m) dc};exact(i.grown j om λd c=>(k.lt d c).1).setCell l _
def tY:N_->Nat
 |[]=>0
 |d::ds=>d+1000000000*tY ds
theorem zmw(a b):tY (a++b)=tY a+1000000000^a.length*tY b:=by induction a with |nil=>simp[tY] |cons d c d=>simp only[ZZ,tY,qi,d,Zv,Zs];grind
theorem zqp{L K}(h1:1000000000^L<=n)(h2:n<4294967296^K):L<K*2:=by rcases Qc L (K*2)with h|h;{omega};exfalso;have b:1000000000^(K*2)<=1000000000^L:=ZD om h;(have b:(1000000000:Nat)^(K*2)=(1000000000^2)^K:=by rw[Z5,HO]);have b:(4294967296)^K<=(1000000000^2)^K:=Nat.pow_le_pow_left dc K;omega
theorem zny(w)(v)(n K)(hv:fe w v n)(R:n≠0)(hn:n<4294967296^K)(hK:K<=100000000):
 C_ 200 #[v] w λe w'=>∃x b,e=Xa x/\kR w' x b/\(∀p∈b,p<1000000000)/\tY b=n/\(∀k,b.length=k+1->b.getD k 0≠0)/\b.length<=K*2/\b_ w w':=by
 have⟨o,A,hd,ht,af,_⟩:=J9 hv hn;have⟨i0,q,aP,aQ,aR⟩:=Zn Xu;go_enter func200,ntmps200;go_wp2_with fail;apply(L1 _ _ o A om).mono;rintro e u ⟨x,rfl,⟨_,I,rfl,_,hr⟩,a4⟩;obtain⟨g,rfl,hg,aw,aI,aq⟩:=hr (λe=>R (by rw[<-af,e];rfl));go_wp2;go_loopg [3,4] n (λk pv lv wr=>∃(c b:N_) (l:A_) (m:Nat),pv=V l b.length m/\lv=V (E<|Xd g 0 O) c.length I/\c.length<=o.length/\Row wr g 0 c/\t_ wr g 0 o.length/\gT c/\nJ c/\Hid (val c=k)/\g<wr.heap.size/\u.heap.size<=wr.heap.size/\wr.ownsRow u.heap.size 214 1 (V l b.length m) b.length (b.map gZ)/\ (∀p∈b,p<1000000000)/\Hid (tY b+1000000000^b.length*k=n)/\Hid (k=0->∀C,b.length=C+1->b.getD C 0≠0)/\b.length<=K*2/\Hid (b≠ []\/k=n)/\b_ w wr);case atStart=>exact⟨o,[],O,0,rfl,rfl,zh _,aI,aq,hd,ht,af,aw,zh _,Ih _ _ _ _,λp X=>g_,by simp[Hid,tY],λh=>absurd h R,qo _,kac rfl,a4⟩
 case round=>obtain⟨c,b,l,m,rfl,rfl,_,aJ,a7,ak,aM,ad,_,_,U,a8,Y,aC,aG,T,a5⟩:=hrel;by_cases s:gk=0;{have M:=aM.zero.1 (by rw[ad.out];omega);subst M;have D:=zf s;go_wp2;go_ret;have a9:=Y.out;rw[D.out,Ql,qV]at a9;(have aH:b≠ []:=by rcases T.out with h|h;{omega};omega);refine⟨_,b,rfl,?_,a8,a9,aC.out D.out,aG,a5⟩;have aO:V l b.length m≠V_:=g_;have⟨g2,_,B,aE,_,av,Z,_⟩:=j_ U aO;simp only[qp]at B;obtain⟨rfl,_,rfl⟩:=B;exact⟨_,_,rfl,aE,λ_=>⟨_,0,rfl,av,Z⟩⟩};have a0:=ad.out;have M:c≠ []:=λe=>s (by rw[<-a0,e];rfl);have aS:=ZC.2 M;(have aT:b.length<K*2:=by refine zqp ?_ hn;have h1:=Y.out;have J:1000000000^b.length*1<=1000000000^b.length*gk:=Zr _<|Z3 s;omega);go_wp2_with fail;apply(St _ g 0 I 1000000000 c om om om om aJ (λt q=>a7 t om) ak).mono;rintro e i ⟨d,r,rfl,aa,_,al,Z,f,ae⟩;(have W:i.ownsRow u.heap.size 214 1 (V l b.length m) b.length (b.map gZ):=by apply U.kept ⟨f.os,f.tape,f.output,jm f.size.symm,λk _ T=>f.block k λe=>T<|by rw[e]⟩;right;intro e;have:=U.lt g e;omega);have L:=a5.trans<|f.below hg;have a3:=zf<|f.size;go_wp2_with (at_builtin;refine MV _ rfl _ _ 85 rfl u.heap.size 214 i0 (it .u32 0) 1 4 underlying85 q aP aQ aR rfl dc (V l b.length m) b.length (b.map gZ) rfl (W.alloc _) (y_ i 0) 1 1 [gZ r] rfl rfl ?c1 ?c2 mo om (by have:=a3.out;simp;omega) ?_);(case c1=>exact JC _ _ _);(case c2=>intro aX A;simp at A;subst A;rfl);intro v3 j z N aF;have e2:b.map gZ ++ [gZ r]=(b ++ [r]).map gZ:=sp;rw[e2]at z;have⟨_,ai,B,_,_,_,_,_⟩:=j_ z λe=>aF e;subst B;have aU:=a3.out;(have ay:E g≠kaj (V l b.length m):=by intro e;have:=W.lt g e.symm;omega);(have a6:j.heap[g]? =i.heap[g]?:=by rw[N.block g so ay];exact qH _ _ _ om);have ab:Row j g 0 d:=λt q=>(Zj a6).trans<|Z t q;have au:t_ j g 0 _:=λt q=>(qw a6).trans<|(f.free a7) t q;have aK:=N.size;(have aV:i.heap.size<j.heap.size:=by simp at aK;omega);have y:(b ++ [r]).length=b.length+1:=sp;have aA:gk/1000000000=val d:=om;have aB:gk%1000000000=r:=om;have a1:=zf aB;go_wp2_with fail;refine(ij j g 0 I _ d om om om ab).mono<|fB ?_;have aW:=Rd d c.length;have aD:(d.take<|Jr d c.length).length=Jr d c.length:=g_;have a2:=zf aD;go_wp2;go_roundg (gk/1000000000);(case measure=>omega);case rel=>rw[<-y]at z;refine⟨_,_,_,_,g_,by rw[a2.out],by omega,ab.take _,au,al.take _,Pa _ _ om,?_,om,om,z,?_,?_,?_,om,kai sp,(L.alloc L.size _).grown N (by have:=L.size;simp;omega) λk h=>by have:=W.lt k h;omega⟩;{rw[Hid,nF _ _ om,zP om,(zf aA).out]};{intro p X;rcases zU.1 X with h|h;{exact a8 p h};simp at h;omega};{have J:=Jz gk 1000000000;rw[Hid,zmw,y,Zv];simp only[tY,Ql,qV];rw[Zt,<-a1.out,Gs,<-Zs,Nat.mod_add_div];exact Y.out};intro hz C hj;(have az:C=b.length:=by rw[y]at hj;omega);subst az;have J:=Jz gk 1000000000;rw[hz]at J;(have h3:r=gk:=by rw[<-a1.out];omega);simp;omega
theorem zos(K:Nat)(hK:K+K<=1073741822)(hO:Bh (K+K))(w:H)(x y:Value)(p r:Int)(q s:Nat)(h:Qa w x p q)(k:Qa w y r s)(o:r≠0)(c:p.natAbs<4294967296^K)(hr:r.natAbs<4294967296^K)(hq:q<4294967296^K)(hs:s<4294967296^K):
 C_ 209 #[x,y] w λe w'=>∃t,e=Xa t/\Qa w' t ((p*s*r.sign)/(R8 (p*s*r.sign).natAbs (q*r.natAbs):Int)) ((q*r.natAbs)/R8 (p*s*r.sign).natAbs (q*r.natAbs))/\b_ w w':=by
 obtain⟨I,C,W,N,D,X,R,rfl,u,f,d,l,hg⟩:=h.parts;obtain⟨M,J,Y,T,L,m',U,rfl,z,g,m,j,i⟩:=k.parts;have b:kS w I M C D J L W N X R Y T _ U p r q s (((w.alloc<|cl _ 194).alloc<|cl _ 194).alloc<|cl _ 194):=⟨((Xn _ _ _ _ _).alloc _).alloc _,(Xy _ _ _ _ _ _).alloc _,QQ.yV _ _ _ _ _ _ _,((h.alloc _).alloc _).alloc _,((k.alloc _).alloc _).alloc _,xe w _ _ _,sp⟩;clear u f d hg z g m i j h k;have hZ:(p*s*r.sign).natAbs<4294967296^(K+K):=by rw[sn,Int.natAbs_sign_of_ne_zero o,jM];exact KI c hs
 obtain⟨Z,hZe⟩:∃Z,p*s*r.sign=Z:=⟨_,rfl⟩;rw[hZe]at hZ⊢;have a4:=zf hZe;have hN:=R9 hq hr;have a8:q*r.natAbs≠0:=Nat.pos_iff_ne_zero.1<|QE l om;clear hZe;go_enter func209,ntmps209;go_wp2_with fail;generalize (((w.alloc<|cl #[G I,V C W N,V D X R] 194).alloc<|cl #[G M,V J Y T,V L m' U] 194).alloc<|cl #[G false,V_,V_] 194)=f at b⊢;refine(ND _ _ _ p r q s K K om b.2.2.2.1 b.2.2.2.2.1 c hs).mono<|eP λu _ l m=>?_;obtain⟨g,f,j,i,rfl,-,-⟩:=l.parts;have b:=b.ext<|Xg m;have c:=Xm u (G g) (V f j i) 88;have d:=l.alloc<|cl #[G g,V f j i] 88;have hg:=b.2.2.2.2.2.2;have b:=b.alloc<|cl #[G g,V f j i] 88;obtain⟨z,A,B,j3,j4,j5,j6⟩:=b.2.1;go_wp2_with fail;generalize World.alloc _ _=wB at *;clear l m z A B j3 j4 j5 j6;refine(R4 _ _ r s b.2.2.2.2.1).mono<|eU λm l=>?_;have b:=b.ext<|Xg l;have c:=c.below l;have d:=d.below l;generalize u.heap.size=gA at *;clear l;rcases Int.lt_or_gt_of_ne o with a0|a0;have l:=Qi a0;rw[l];have a7:=zf l;clear l;obtain⟨o,u,z,A,B⟩:=id c;go_wp2_with fail;refine(E7 _ _ _ d).mono<|eP λwT _ a5 a6=>?_;have c:=c.below a6;obtain⟨g,f,j,i,rfl,-,-⟩:=a5.parts;have b:=(b.ext<|Xg a6).stored c hg (b1:=g) (a1:=f) (l1:=j) (k1:=i);have d:=a5.stored c (b:=g) (a:=f) (l:=j) (k:=i);rw[show -(p*(s))=Z by rw[<-a4.out,a7.out,Int.mul_neg_one]]at d;clear o u z A B;obtain⟨o,u,z,A,B⟩:=id c;have c:=c.stored (b:=g) (a:=f) (l:=j) (k:=i);go_wp2;generalize kas _ _ _=m at *;clear o u z A B;rotate_left;have l:=Qs a0;rw[show p*(s)=Z by rw[<-a4.out,l,Nd]]at d;rw[l];clear l;obtain⟨o,u,z,A,B⟩:=id c;go_wp2;clear o u z A B;all_goals have l:=zf λu (o:Ext m u)=>Xc (lP (b.ext o).1 (b.ext o).2.1)<|Xc (c.below o).1 (c.below o).2.1;refine ZO (S:=λw'=>(w'.cell? (y_ w 0)=E _/\w'.cell? (y_ w 1)=E _/\w'.cell? (y_ w 2)=E _/\w'.cell? (x_ w 0)=E _/\w'.cell? (x_ w 1)=E _/\w'.cell? (x_ w 2)=E _)/\w'.cell? _=E _/\w'.cell? _=E _) hm (l.out _ (Xe m).drew) λc=>?_;have g:=(Xe m).drew;refine fO [0,1,3,4] ?_;refine fV 2 (Dh _ _ p q (b.ext g).2.2.2.1)<|eP λwB _ j i=>?_;have f:=g.trans<|Xg i;refine bk (l.out _ f) λc=>?_;refine fV 5 (MB _ _ r (b.ext f).2.2.2.2.1.kZ)<|eP λg _ m g=>?_;have i:=f.trans<|Xg g;refine bk (l.out _ i) λc=>?_;refine fV 6 (iK _ _ _ q _ K K (j.below g) m hq hr om)<|eP λf _ f j=>?_;have g:=i.trans<|Xg j;refine bk (l.out _ g) λc=>?_;refine fV 7 (K4 _ hK hO _ _ _ Z _ (d.ext g) f a8 hZ hN)<|eP λd _ o f=>?_;have i:=g.trans<|Xg f;refine bk (l.out _ i) λc=>?_;have d:=b.ext i;obtain⟨b,g,i,_,_,_,_⟩:=d.2.2.1;have f:=d.2.2.2.2.2.1;obtain⟨m,j,J,D,l,L,I,rfl,u,z,A,B,C⟩:=o.parts;refine fR 8 λK hK=>?_;go_simp;refine hK.out _ _ ⟨lP (d.1.oz om)<|d.2.1.oz om,by rw[h_,h_,h_]<;>first|grind|omega,by rw[h_,h_,h_]<;>first|grind|omega⟩ (h:=λ_=>?_);refine zV kr ?_ _;go_wp2;exact zH (by simp[results,results209,go_sem,b,g,i]) rfl ⟨_,rfl,Bu u z A B C b g i,((f.setCell so _).setCell so _).setCell so _⟩
def lZ (w:H):Prop:=Lib.TabIs pg w "internal/strconv.uint64pow10" .u64 Lib.pow10Tab
theorem lZ.below(h:lZ w)(hb:b_ w w'):lZ w':=by unfold lZ Lib.TabIs World.var? at *;cases hg:Tryz.prog.globalNamed "internal/strconv.uint64pow10" with |none=>grind |some g=>rw[hg]at h;simp only[Option.bind_some]at h⊢;have c:g<w.heap.size:=g_;rw[hb.block g c];omega
theorem Ub{o}(h:w.heap[g]? =E o):g<w.heap.size:=by grind
theorem SR{T:Nat}{p}{c}(h:Lib.BuilderAtF T e B b p c w)(hb:b_ w w'):Lib.BuilderAtF T e B b p c w':=by have⟨f,v,d,⟨g,c⟩,i⟩:=h;refine⟨f,v,(hb.block b<|Ub d).trans d,⟨g,?_⟩,i⟩;rcases c with c|⟨g,f,i,j,m,k,d,l⟩;{grind};exact kac ⟨g,f,i,j,m,k,(hb.block g<|Ub d).trans d,l⟩
theorem TC{T:Nat}{c}(h:Lib.IsBuilderF T e B b c w)(hb:b_ w w'):Lib.IsBuilderF T e B b c w':=by rcases h with h|h;{exact kai<|SR h hb};exact kac (SR h hb)
theorem Ia(l:U_):(kab l.toArray).size=l.length:=by simp[ByteArray.size]
theorem JW(a b:U_):(kab a.toArray)++(kab b.toArray)=kab (a++b).toArray:=by apply ByteArray.ext;simp
theorem DH(k):∀n,n<10^k->0<k->(kad n).length<=k:=by induction k with |zero=>omega |succ k e=>intro n c _;by_cases h:n<10;{rw[kad,dif_pos h];simp};have d:0<k:=g_;have b:=e (n/10) om d;rw[kad,dif_neg h];grind
theorem Pb(n):0<(kad n).length:=by rw[kad];split<;>simp
def tV:Nat->Nat->U_
 |0,_=> []
 |k+1,r=>tV k (r/10) ++ [UInt8.ofNat (48+r%10)]
theorem YW(q)(d:q≠0)(k):∀r,r<10^k->kad (q*10^k+r)=kad q++tV k r:=by induction k with |zero=>intro r b;have c:r=0:=om;subst c;simp[tV] |succ k c=>intro r b;have e:r/10<10^k:=om;have b:=c _ e;have c:0<10^k:=Dc om;have c:10^k<=q*10^k:=Jd _<|Z3 d;have e:q*10^(k+1)=q*10^k*10:=g_;rw[e];generalize q*10^k=X at *;generalize 10^k=Y at *;rw[kad,dif_neg om,show(X*10+r)/10=X+r/10 by omega,show(X*10+r)%10=r%10 by omega,b,tV,Zl]
theorem YK(k):tV k 0=kaf k 48:=by induction k with |zero=>rfl |succ k b=>rw[tV,Nat.zero_div,b,List.replicate_succ'];rfl
theorem zrJ(k):∀r,0<k->r<10^k->tV k r=kaf (k-(kad r).length) 48++kad r:=by induction k with |zero=>omega |succ k e=>intro r _ c;by_cases h:r<10;{rw[kad,dif_pos h,tV,show r/10=0 by omega,YK,show r%10=r by omega];simp};have d:0<k:=g_;have b:r/10<10^k:=om;rw[tV,e _ d b,Lib.decDigits.eq_1 r,dif_neg h,Zl,zM];grind
def JD (l:N_):U_:=if l= []then []else kad (tY l)
theorem XI(d):JD [d]=kad d:=by simp[JD,tY]
theorem WA(d)(l:N_)(b:d<1000000000)(e:l≠ [])(c:tY l≠0):JD (d::l)=JD l++(kaf (9-(kad d).length) 48++kad d):=by rw[JD,zO sp,JD,zO e,<-(zrJ 9 d om om),<-(YW _ c 9 d om),tY,Nat.add_comm,Z5]
theorem Ww:∀l k,l.length=k+1->l.getD k 0≠0->tY l≠0:=by intro l;induction l with |nil=>grind |cons c l d=>intro k b c;cases k with |zero=>simp at c;simp[tY];omega |succ k=>have:=d k g_ g_;simp only[tY];omega
theorem zov{b:N_}(c:∀k,b.length=k+1->b.getD k 0≠0)(k)(d:k<b.length):tY (b.drop k)≠0:=by obtain⟨m,hm⟩:∃m,b.length=m+1:=⟨b.length-1,om⟩;apply Ww _ (m-k) so;have:=c m hm;grind
theorem T2{b:N_}(c:k<b.length):b.drop k=b.getD k 0::b.drop (k+1):=by rw[jt c];simp[c]
theorem Tu{b:N_}(e:∀p∈b,p<1000000000)(d:∀k,b.length=k+1->b.getD k 0≠0)(k)(c:k+1<b.length):
 JD (b.drop k)=JD (b.drop (k+1))++(kaf (9-(kad (b.getD k 0)).length) 48++kad (b.getD k 0)):=by
 have hm:b.getD k 0<1000000000:=by rw[zk,zg om];exact e _ (zJ _)
 rw[T2 om];exact WA _ _ hm (by simp_all) (zov d _ c)
theorem Vm{b:N_}(k)(c:k+1=b.length):JD (b.drop k)=kad (b.getD k 0)/\JD (b.drop (k+1))= []:=by rw[T2 om,QP om];exact⟨XI _,rfl⟩
theorem VK{b:N_}(d:∀p∈b,p<1000000000)(k)(c:k<b.length):b.getD k 0<1000000000:=by rw[zk,zg c];exact d _ (zJ _)
theorem SW(c):Lib.repeatL [48] c=kaf c 48:=by induction c with |zero=>rfl |succ c b=>rw[Lib.repeatL,b,List.replicate_succ];rfl
theorem LC(a b:U_):kar a++Lib.strCells ⟨b.toArray⟩=kar (a++b):=by simp[kar,Lib.strCells]
theorem zow{b:N_}(c:∀p∈b,p<1000000000)(d:∀k,b.length=k+1->b.getD k 0≠0)(n):∀k,b.length=n+k->(JD (b.drop n)).length<=9*k:=by intro k;induction k generalizing n with |zero=>intro h;rw[QP om];simp[JD] |succ k e=>intro h;have b:=DH 9 _ (VK c n om) om;by_cases b:k=0;{subst b;rw[(Vm n om).1];omega};rw[Tu c d n om];grind
theorem WI(w)(v)(b:fe w v 0):
 C_ 141 #[v] w λe w'=>e=Xa (gS ⟨(kad 0).toArray⟩)/\b_ w w':=by go_enter func141,ntmps141;go_wp2_with fail;refine(JR _ _ b).mono<|fB ?_;go_wp2;go_ret;refine⟨?_,qf _ _⟩;rw[Lib.decDigits_one om];rfl
def jL (p:Int)(q:Nat):U_:=if q=1 then kae p else kae p++([47]++kad q)
theorem xJ(l:U_):(kab l.toArray).size=l.length:=by simp[ByteArray.size]
theorem gx(s)(m)(w)(l:(kag s.data.toList [45]).length<=1000000000)(k:0<(kag s.data.toList [45]).length)(h1:(kag s.data.toList [45]).length<=m)(h2:Qm (kag s.data.toList [45])=true):
 C_ 92 #[gS s,i_ (m)] w λe w'=>∃x,e=Xa (tp #[x,G true])/\zy w' x (sg (kam s.data.toList [45]) (ZE (kag s.data.toList [45])))/\b_ w w':=by have h:Zh (w.alloc<|cl _ 88) _ (G false) (V_):=Xm _ _ _ _;have g:b_ w (w.alloc<|cl #[G false,V_] 88):=(qf _ _).alloc (zh _) _;have c:=Tryz.strings_CutPrefix s ⟨#[45]⟩<|w.alloc<|cl #[G false,V_] 88;have f:(kab #[45]).data.toList= [45]:=rfl;rw[f]at c;generalize kag s.data.toList [45]=d at *;generalize kam s.data.toList [45]=neg at *;have j:=zf c;have i:=xJ d;have b:=zf i;clear c f i;go_enter func92,ntmps92;go_wp2_with fail;refine j.out.mono ?_;rintro e c ⟨rfl,rfl⟩;go_wp2_with fail;refine(gW ⟨_⟩ m _ am am am om).mono<|eP λj v i b=>?_;have k:fe j v (ZE d):=om;have f:=h.below b;have c:b_ w j:=g.trans<|b.mono g.size;clear i b;go_wp2_with fail;refine(Jh _ _ _ _ k).mono<|eP λr x d b=>?_;obtain⟨i,g,q,p,rfl,o,j⟩:=d.parts;have l:=f.below b;have k:b_ w r:=c.trans<|b.mono c.size;obtain⟨c,d,_,_,_⟩:=l;clear f b h;go_wp2;exact zH (by simp[results,results92,go_sem,c,d]) rfl ⟨_,rfl,QJ o j c d,(k.setCell sp _).setCell sp _⟩
theorem TI(s)(m)(w)(hm:m<=1000000000)(b:0<(kag s.data.toList [45]).length)(h1:(kag s.data.toList [45]).length<=m)(h2:Qm (kag s.data.toList [45])=true):
 C_ 92 #[gS s,i_ (m)] w λe w'=>∃x,e=Xa (tp #[x,G true])/\zy w' x (sg (kam s.data.toList [45]) (ZE (kag s.data.toList [45])))/\b_ w w':=gx s m w om b h1 h2
theorem zqr{x D S T}(b:B=S*T)(c:0<S)(e:0<T)(f:x<B):((x+B*(D%B))/S)%B+B*(D/S)=(x+B*D)/S:=by
 subst b;have b:∀h,(x+S*T*h)/S=x/S+T*h:=λh=>by rw[Zt,M4 _ _ c]
 have d:=(QC c).2 (by rw[Z5];exact f);rw[b,b,Z5 S T,Nat.mod_mul];have b:(x/S+T*(D%(T*S)))%T=x/S:=by rw[Js,Jk d]
 have c:(x/S+T*(D%(T*S)))/T=D%(T*S):=by rw[M4 _ _ e,jH d,qt]
 rw[b,c,Nat.mod_mod_of_dvd _<|Nat.dvd_mul_left S T];have c:T*(D%S)+T*S*(D/S)=T*D:=by rw[Zt,<-Zs,(Nat.mod_add_div D S)]
 omega
theorem V3{b:N_}{S T}(d:4294967296=S*T)(e:0<S)(f:0<T)(c:k<b.length)(i:k<ds.length)(g:gT ds)(h:val (b.drop (k+1))=val (ds.drop (k+1))/S):
 val ((b.set k (((ds.getD k 0+4294967296*(val (ds.drop (k+1))%4294967296))/S)%4294967296)).drop k)=val (ds.drop k)/S:=by rw[iq _ k g_,K9 _ _ _ c,QH,h,iq _ k i];exact zqr d e f (g.get k)
theorem zk1(w)(b off cap s)(ds)(hs:s<=31)(a1:ds.length<=cap)(a3:ds.length<=1073741824)(U:Row w b off ds)(M:t_ w b off ds.length)(l:gT ds):
 C_ 277 #[V (E (Xd b off O)) ds.length cap,i_ (s:Nat)] w λe w'=>
  e=Xa (V (E (Xd b off O)) ds.length cap)/\∃d,d.length=ds.length/\gT d/\Row w' b off d/\kV b off ds.length w w'/\val d=val ds/2^s:=by
 have t:0<2^s:=Dc dc;have u:0<2^(32-s):=Dc dc;have h:4294967296=2^s*2^(32-s):=by rw[<-Q6,show s+(32-s)=32 by omega]
 obtain⟨S,hS⟩:∃S,2^s=S:=⟨_,rfl⟩;obtain⟨T,hT⟩:∃T,2^(32-s)=T:=⟨_,rfl⟩;rw[hS]at t h;rw[hT]at u h;have q:=zf hS;have C:=zf h;go_enter func277,ntmps277;go_wp2;go_loopw [5,6] (λJ p wr=>∃(k a:Nat) (c:N_),k<=ds.length/\a<18446744073709551616/\p=i_ ((k:Int)-1)/\J=it .u64 (a:Nat)/\Hid (c.length=ds.length)/\gT c/\Row wr b off c/\kV b off ds.length w wr/\ Hid (c.take k=ds.take k)/\Hid (a%4294967296=val (ds.drop k)%4294967296)/\Hid (val (c.drop k)=val (ds.drop k)/S)) (λ_ p _=>(intOf p+1).toNat);case atStart=>exact⟨_,0,_,zh _,om,rfl,rfl,rfl,l,U,Xx _ _ _ _,rfl,by simp[Hid,val],by simp[Hid,val]⟩
 case round=>obtain⟨k,a,c,_,_,rfl,rfl,i,v,j,o,A,R,B⟩:=hrel;cases k with |zero=>have r:=zf B.out;simp only[Q2]at r;go_wp2;go_ret;exact⟨rfl,c,i.out,v,j,o,by rw[r.out,q.out]⟩ |succ k=>(have m:k<c.length:=by rw[i.out];omega);have X:=j k m;rw[Va A.out]at X;have Y:=l.get k;have a2:=o.free M k om;have x:=V3 C.out t u m (by omega) l B.out;have W:=iq ds k om;rw[<-R.out]at x;have f:=λz=>j.setCell k z m;have g:=λz=>o.setCell k (by omega) z;have N:a%4294967296<4294967296:=Z0 _ dc;(have D:Hid ((ds.getD k 0+4294967296*(a%4294967296))%4294967296=val (ds.drop k)%4294967296):=by rw[Hid,W,Js,Js]);have a4:=KA _ _ N Y;(have hw:IntKind.u64.wrap ((a:Int)*4294967296)=((a%4294967296:Nat):Int)*4294967296:=by (have e:∀n:Int,IntKind.u64.wrap n=n%18446744073709551616:=λn=>by rfl);rw[e];omega);have Z:ds.getD k 0+4294967296*(a%4294967296)<18446744073709551616:=om;generalize ds.getD k 0=a0 at *;generalize a%4294967296=L at *;generalize a0+4294967296*L=y at *;have f:=f<|y/S%4294967296;have g:=g<|it .u32<|(y/S%4294967296:Nat);(have K:((y/S%4294967296:Nat):Int)=(y:Int)/2^s%4294967296:=by rw[<-q.out];simp);rw[K]at f g;have I:=zf x;go_wp2;go_roundw;(case rel=>exact⟨k,y,_,om,Z,g_,rfl,g_,v.set _ _<|Z0 _ dc,f,g,by rw[Hid,UU];exact TR A.out,D,I.out⟩);case measure=>simp[intOf]
theorem PW(w)(x y)(z t)(K)(hK:K<=1073741823)(h:zy w x z)(k:zy w y t)(hz:z.natAbs<4294967296^K)(ht:t.natAbs<4294967296^K):
 C_ 45 #[x,y] w λe w'=>∃s,e=Xa s/\zy w' s (z-t)/\b_ w w':=by
 obtain⟨d,c,l,i,rfl,hv,hb⟩:=h.parts;obtain⟨g,f,m,j,rfl,a6,a3⟩:=k.parts;have a5:(-t).natAbs<4294967296^K:=om;have p:=xe w (cl #[G d,V c l i] 88) (cl #[G g,V f m j] 88)<|cl #[G false,V_] 88;have hX:=h.below p;have hY:=k.below p;have D:Zh (((w.alloc<|cl _ 88).alloc<|cl #[G g,V f m j] 88).alloc<|cl #[G false,V_] 88) _ (G d) (V c l i):=((Xm _ _ _ _).alloc _).alloc _;have L:Zh (((w.alloc<|cl #[G d,V c l i] 88).alloc<|cl _ 88).alloc<|cl #[G false,V_] 88) _ (G g) (V f m j):=(Zh.gE _ _ _ _ _).alloc _;have R:Zh (((w.alloc<|cl #[G d,V c l i] 88).alloc<|cl #[G g,V f m j] 88).alloc<|cl _ 88) _ (G false) (V_):=Zh.yV _ _ _ _ _ _;clear hv hb a6 a3;go_enter func45,ntmps45;go_wp2;go_region_held (λw'=>w'.cell? (y_ w 0)=E (G d)/\w'.cell? (y_ w 1)=E (V c l i)/\w'.cell? (x_ w 0)=E (G g)/\w'.cell? (x_ w 1)=E (V f m j)) (first|(refine⟨?_,?_,?_,?_⟩<;>(rw[h_,h_]<;>first|omega|omega))|go_keep) (first|(go_at_call 85;refine(FV _ _ _ z _ K hK a1 a0 hz a5).mono<|eP λwB _ A o=>?_;obtain⟨X,W,l2,k2,rfl,_,_⟩:=A.parts;have J:=q.below o;obtain⟨_,_,_,_,_⟩:=J;have N:=r.below o;obtain⟨_,_,_,_,_⟩:=N;have u:=T.below o;have U:=u;obtain⟨Y,Z,_,_,_⟩:=U;have a4:=B.trans<|o.mono B.size)|(go_at_call 86;refine(E7 _ _ t am).mono<|eP λC _ a0 b=>?_;have a1:=hX.drewN 1 |>.below b;have q:=D.drew.below b;have I:=q;obtain⟨_,_,_,_,_⟩:=I;have r:=L.drew.below b;have M:=r;obtain⟨_,_,_,_,_⟩:=M;have T:=R.drew.below b;have B:b_ w C:=p.trans ⟨b.os,b.tape,b.output,by have:=b.size;simp_all,λk hk=>b.block k so⟩));all_goals go_wp2
 all_goals exact zH (v:=ag #[G X,V W l2 k2]) (by simp[results,results45,go_sem,Y,Z]) rfl ⟨_,rfl,by rw[Int.sub_eq_add_neg];exact A.stored u,(a4.setCell so _).setCell so _⟩
def QY (q:Nat):Value:= .func (.func 212) #[] #[p_ q 0]
def ZA (q:Nat):Value:= .func (.func 215) #[] #[p_ q 0]
def jP (q:Nat):Value:= .func (.func 217) #[] #[p_ q 0]
def Lr (q:Nat):Value:= .func (.func 213) #[] #[p_ q 0]
theorem Pp:∀args w,(callFunc 212 args).run pg w= .ok (.enter 212 args) w:=qW func212 kr rfl
theorem P6:∀args w,(callFunc 215 args).run pg w= .ok (.enter 215 args) w:=qW func215 kr rfl
theorem zqs:∀args w,(callFunc 217 args).run pg w= .ok (.enter 217 args) w:=qW func217 kr rfl
theorem zqt:∀args w,(callFunc 213 args).run pg w= .ok (.enter 213 args) w:=qW func213 kr rfl
theorem Tryz.rY:(Tryz.prog.info? 262).map (λi=>(i.zero,i.size,i.bytes))=E (E (.nilFunc),1,8):=kr
structure lU (B:Nat)(w A:H)(Cg q0:Nat)(wd:U_)(qs:N_)(pt:Nat->Addr)(xs:N_)(ap:A_)(kp:Nat):Prop where
 own:A.ownsRow B 262 1 (V ap (qs.length+1) kp) (qs.length+1) (QY q0::qs.map ZA)
 box:A.cell? (Xd Cg 0 O)=E (V ap (qs.length+1) kp)
 E0:A.frozen? (Xd Cg 0 O)=false
 Hw:A.cell? (Xd q0 0 O)=E (gS ⟨wd.toArray⟩)
 Ik:∀j q,qs[j]? =E q->A.cell? (Xd q 0 O)=E (pn (E (pt j)))
 new:B<=Cg/\Cg≠q0/\B<=q0/\∀q∈qs,B<=q/\q≠Cg
 lt:∀x∈Cg::q0::(qs++xs),x<A.heap.size
 sep:∀g,(V ap (qs.length+1) kp).ownBlock=E g->∀x∈Cg::q0::(qs++xs),g≠x
 q8:Below B w A
 le:B<=w.heap.size
theorem zn.pX(c:zn B w w'){o}(ho:w.heap[g]? =E o)(b:o.isCells=true):w'.heap[g]? =w.heap[g]?:=(c.block g o ho<|.inr b).trans ho.symm
theorem UQ{B'}{size}{v}{xs}(h:w.ownsRow B e size v n xs)(o:zn B' w w'):w'.ownsRow B e size v n xs:=by obtain⟨b,i|⟨g,d,f,q,m,c,p,j,k,l⟩⟩:=h;{exact⟨b,kai i⟩};exact⟨b,kac ⟨g,d,f,q,m,(o.pX c rfl).trans c,p,j,k,l⟩⟩
theorem lU.eL{C}{A'}{g}{c}(h:lU B w A d f wd g pt xs c e)(b:zn C A A')(i:B<=C):lU B w A' d f wd g pt xs c e:=⟨UQ h.own b,b.cell h.box,(b.frozen h.box).trans h.E0,b.cell h.Hw,λj q c=>b.cell<|h.Ik j q c,h.new,λx c=>zK (h.lt x c) b.size,h.sep,b.below h.q8 i h.le,h.le⟩
theorem lU.alloc{f}{b}(h:lU B w A c e wd f pt xs b d)(o):lU B w (A.alloc o) c e wd f pt xs b d:=h.eL (zn.alloc B _ _) (zh _)
theorem lU.drew{f}{b}(h:lU B w A c e wd f pt xs b d):lU B w A.drew c e wd f pt xs b d:=h.eL (zn.drew B _) (zh _)
theorem lU.grow{A'}{q g cap}{b}{f}{i}(h:lU B w A c j wd b pt xs f i)(u:A.cell? (Xd q 0 O)=E (pn (E (pt b.length))))(a0:B<=q)(v:q≠c)(y:∀g,(V f (b.length+1) i).ownBlock=E g->g≠q)(Z:A'.ownsRow B 262 1 (V (E (Xd g 0 O)) (b.length+1+1) cap) (b.length+1+1) (QY j::b.map ZA ++ [ZA q]))(hg:A.grownBy A' (V f (b.length+1) i).ownBlock)(t:(V f (b.length+1) i).ownBlock=E g\/g=A.heap.size):
 lU B w (A'.setCell (Xd c 0 O) (V (E (Xd g 0 O)) (b.length+1+1) cap)) c j wd (b ++ [q]) pt xs (E (Xd g 0 O)) cap/\
  Wr (λx=>x=c\/(V f (b.length+1) i).ownBlock=E x) A (A'.setCell (Xd c 0 O) (V (E (Xd g 0 O)) (b.length+1+1) cap)):=by
 have d:q<A.heap.size:=zw u;have k:Wr _ A _:=⟨hg.os,hg.tape,hg.output,hg.size,λl s e=>hg.block l s λr=>e r.symm⟩;have o:∀{x:Nat},x∈c::j::(b++xs)->¬(V f _ i).ownBlock=E x:=λd e=>h.sep _ e _ d rfl;have R:=k.cell (o sp) h.box;have m:∀x∈c::j::(b++xs),g≠x:=by intro x d;rcases t with e|e;{grind};have:=h.lt x d;omega
 have W:g≠q:=g_;have U:=m c sp;have t:(b ++ [q]).length+1=b.length+1+1:=sp;have r:QY j::(b ++ [q]).map ZA=QY j::b.map ZA ++ [ZA q]:=sp;have M:Below B w _:=⟨hg.os.trans h.q8.os,hg.tape.trans h.q8.tape,hg.output.trans h.q8.output,zF h.q8.size hg.size,λl s=>(hg.block l om λe=>by have:=(h.own.lt l e.symm).1;omega).trans<|h.q8.block l s⟩;refine⟨⟨?_,?_,?_,?_,?_,?_,?_,?_,?_,h.le⟩,?_⟩;{rw[t,r];obtain⟨D,I|⟨C,s,z,r,N,X,Y,J,K,L⟩⟩:=Z;{exact absurd I.1 sp};refine⟨D,kac ⟨C,s,z,r,N,(qC _ _ _ _ ?_).trans X,Y,J,K,L⟩⟩;grind};{rw[t];exact zN _ _ _ R};{have:=(k.block c (h.lt c sp)<|o sp);have r:A'.frozen? _=A.frozen? (Xd c 0 O):=qw this;simpa using r.trans h.E0};{rw[qj _ _ _ _<|by simpa using h.new.2.1];exact k.cell (o sp) h.Hw};{intro s r j;by_cases t:s<b.length;{rw[zS t]at j;have hm:=zx j;rw[qj _ _ _ _<|by simpa using Qr (h.new.2.2.2 r hm).2];exact k.cell (o g_)<|h.Ik s r j};have o:s=b.length:=g_;subst o;rw[zG<|zh _,Qn]at j;simp at j;subst j;rw[qj _ _ _ _ g_];exact k.cell (λe=>y _ e rfl) u};{refine⟨h.new.1,h.new.2.1,h.new.2.2.1,λx d=>?_⟩;rcases zU.1 d with e|e;{exact h.new.2.2.2 x e};grind};{intro x d;have j:=hg.size;simp only[zI,zU,Zl]at d;(have:x<A.heap.size:=by rcases d with e|e|e|e|e;{exact h.lt x g_};{exact h.lt x g_};{exact h.lt x g_};{grind};exact h.lt x g_);simp;omega};{intro j o x d;(have:j=g:=by simpa[kaj]using o.symm);grind};{exact M.setCell h.new.1 _};exact Xs (T:=λx=>x=c\/(V f _ i).ownBlock=E x) (k.mono λl e=>kac e) (kai rfl) _
theorem lU.oe{f}{b}(h:lU B w A c e wd f pt xs b d)(o):lU B w (A.alloc o) c e wd f pt (A.heap.size::xs) b d:=by have b:=h.alloc o;refine⟨b.own,b.box,b.E0,b.Hw,b.Ik,b.new,λx d=>?_,λg c x d=>?_,b.q8,b.le⟩;{simp only[zI,zU]at d;rcases d with e|e|e|e|e;{exact b.lt x g_};{exact b.lt x g_};{exact b.lt x g_};{simp_all};exact b.lt x g_};simp only[zI,zU]at d;rcases d with e|e|e|e|e;{exact b.sep g c x g_};{exact b.sep g c x g_};{exact b.sep g c x g_};{have:=(h.own.lt g c).2;omega};exact b.sep g c x g_
theorem lU.Ft{d}{b}(h:lU B w A e f wd d pt xs b c)(y)(j:y<A.heap.size)(i:∀g,(V b (d.length+1) c).ownBlock=E g->g≠y):lU B w A e f wd d pt (y::xs) b c:=by refine⟨h.own,h.box,h.E0,h.Hw,h.Ik,h.new,λx c=>?_,λg b x c=>?_,h.q8,h.le⟩;{simp only[zI,zU]at c;rcases c with e|e|e|e|e;{exact h.lt x g_};{exact h.lt x g_};{exact h.lt x g_};{omega};exact h.lt x g_};simp only[zI,zU]at c;rcases c with e|e|e|e|e;{exact h.sep g b x g_};{exact h.sep g b x g_};{exact h.sep g b x g_};{grind};exact h.sep g b x g_
theorem lU.start(w W)(hb:b_ w W)(wd)(pt):
 lU w.heap.size w (((W.alloc (cl #[gS ⟨wd.toArray⟩] 9)).alloc (cl #[QY W.heap.size] 262)).alloc (cl #[V (E ⟨W.heap.size+1,0,O⟩) 1 1] 266))
  (W.heap.size+1+1) W.heap.size wd [] pt [] (E ⟨W.heap.size+1,0,O⟩) 1:=by have d:=hb.size;refine⟨⟨rfl,kac ⟨_,1,#[QY _],rfl,om,?_,zh _,mo,rfl,rfl⟩⟩,?_,?_,?_,λj q b=>g_,⟨om,om,d,λq b=>g_⟩,λx b=>?_,λg e x b=>?_,?_,zh _⟩;{have c:=qR (W.alloc<|cl #[gS ⟨wd.toArray⟩] 9)<|cl #[QY W.heap.size] 262;rw[zL]at c;exact(qH _ _ _ sp).trans c};{have:=(ZU ((W.alloc<|cl #[gS ⟨wd.toArray⟩] 9).alloc<|cl #[QY W.heap.size] 262) 266<|V (E<|x_ W 0) 1 1).cell;simp_all};{have:=(ZU ((W.alloc<|cl #[gS ⟨wd.toArray⟩] 9).alloc<|cl #[QY W.heap.size] 262) 266<|V (E<|x_ W 0) 1 1).frozen;simp_all};{exact(((ZU W 9 _).alloc _).alloc _).cell};{simp only[zI,ZR,zY,Zp]at b;simp;omega};{simp[kaj]at e;grind};exact(((hb.alloc d _).alloc so _).alloc so _)
theorem lU.row{c}{d}(h:lU B w A f e wd c pt xs d b):
 ∃g,d=E (Xd g 0 O)/\B<=g/\g<A.heap.size/\c.length+1<=b/\b<=9223372036854775807/\∀i fv,(QY e::c.map ZA)[i]? =E fv->A.cell? (Xd g i O)=E fv:=by obtain⟨_,c|⟨g,_,_,b,e,_,k,d,_,_⟩⟩:=h.own;{omega};simp only[qp]at b;obtain⟨rfl,_,rfl⟩:=b;refine⟨g,rfl,e,(h.own.lt g rfl).2,k,am,λi fv b=>?_⟩;have:=h.own.cells rfl i _ b;(have e:(⟨g,0,O⟩:Addr).add i=⟨g,i,O⟩:=by unfold Addr.add;split;{grind};simp);grind
theorem UX{F}{P}(w){ops}{o}{a}{K}{Q}{l}(p:o.guard=O)(s x)(t)(ho:o.op= .call { callee:= .builtin .append,args:=#[s,x],argTypes:=#[t,t] })(base)(e)(i)(z)(size bytes)(U:P.underlying t=E (.slice e))(I:P.info? e=E i)(X:i.zero=E z)(R:i.size=size)(C:i.bytes=bytes)(Y:z.cells.size=size)(T:0<size)(v)(m)(xs)(hs:a.eval s=v)(M:w.ownsRow base e size v m xs)(f)(k c)(b)(W:a.eval x=V (E f) k c)(J:b.length=k*size)(L:∀j u,b[j]? =E u->w.cell? (f.add j)=E u)(h1:∀u∈b,u.oneCell'=true)(hm:0<k)(y:m+k<=maxLen)(D:(m+k)*bytes<=140737488355328)(B:base<=w.heap.size)(d)(A:w.heap.size=d)(h:∀g cap w',w'.ownsRow base e size (V (E (Xd g 0 O)) (m+k) cap) (m+k) (xs++b)->w.grownBy w' v.ownBlock->(v.ownBlock=E g\/g=d)->g<w'.heap.size->K (a.put o.dst (V (E (Xd g 0 O)) (m+k) cap)) w'):
 if kao o (yielded ops a.tmps)=true then Oper.wpIn F n P o a w K Q else l:=by
 have l:kao o (yielded ops a.tmps)=true:=by simp[kao,p]
 rw[zQ l];have⟨g,cap,w',N,l,p,q,r⟩:=run_append_lies w t o.type _ e i z _ _ U I X R C Y T v m _ M f k c b J L h1 hm y D B d A;unfold Oper.wpIn;refine⟨?_,?_⟩;{simp[Oper.about,ho,resolve,Target.leads,Sem.run_pure]};rw[Oper.semAt_plain F _ _ g_];simp[execOp,ho,resolve,invoke,builtin,hs,W,N,Result.andThen];exact h g _ _ l p q r
theorem JT{F}(A){ops}{o}{a}{K}{Q}{k}(l:o.guard=O)(s x)(ho:o.op= .call { callee:= .builtin .append,args:=#[s,x],argTypes:=#[266,266] }){q}{d}{i}(e:lU B w A c f wd d pt xs i j)(p:d.length<=900)(hs:a.eval s=V i (d.length+1) j)(m:a.eval x=V (E (Xd b 0 O)) 1 1)(hb:A.cell? (Xd b 0 O)=E (ZA q))(r:A.cell? (Xd q 0 O)=E (pn (E (pt d.length))))(t:B<=q)(u:q≠c)(v:∀g,(V i (d.length+1) j).ownBlock=E g->g≠q)(h:∀g cap A',lU B w (A'.setCell (Xd c 0 O) (V (E (Xd g 0 O)) (d.length+1+1) cap)) c f wd (d ++ [q]) pt xs (E (Xd g 0 O)) cap->
  Wr (λx=>x=c\/(V i (d.length+1) j).ownBlock=E x) A (A'.setCell (Xd c 0 O) (V (E (Xd g 0 O)) (d.length+1+1) cap))->
  ((V i (d.length+1) j).ownBlock=E g\/A.heap.size<=g)->
  A'.cell? (Xd c 0 O)=E (V i (d.length+1) j)->A'.frozen? (Xd c 0 O)=false->K (a.put o.dst (V (E (Xd g 0 O)) (d.length+1+1) cap)) A'):
 if kao o (yielded ops a.tmps)=true then Oper.wpIn F n pg o a A K Q else k:=by obtain⟨z,f,k,p,y⟩:=Zn Tryz.rY;refine UX A l s x _ ho B 262 z .nilFunc 1 8 underlying266 f k p y rfl dc _ _ _ hs e.own ⟨b,0,O⟩ 1 1 [ZA q] m rfl ?_ (λl f=>by simp at f;subst f;rfl) om mo om (by have:=e.q8.size;have:=e.le;omega) _ rfl ?_;{intro k l f;match k,f with |0,f=>simp at f;subst f;simpa[Addr.add]using hb |k+1,f=>grind};intro g cap A' l f k m;obtain⟨m,p⟩:=e.grow r t u v l f k;have l:¬(V i _ j).ownBlock=E c:=λd=>e.sep _ d c sp rfl;refine h g _ _ m p (k.imp id λd=>om) ?_ ?_;{exact(f.cell_far ⟨c,0,O⟩ (e.lt c sp) λd=>l d.symm).trans e.box};exact(f.frozen_far ⟨c,0,O⟩ (e.lt c sp) λd=>l d.symm).trans e.E0
theorem X_(b:A_)(l c)(w):
 C_ 84 #[V b l c] w λe w'=>e=Xa (.func (.func 160) #[] #[p_ w.heap.size 0])/\w'=w.alloc (cl #[V b l c] 59):=by go_enter func84,ntmps84;go_wp2;go_ret;simp
theorem Ym(b:A_)(l c)(w):
 C_ 182 #[V b l c] w λe w'=>e=Xa (.func (.func 237) #[] #[p_ w.heap.size 0])/\w'=w.alloc (cl #[V b l c] 60):=by go_enter func182,ntmps182;go_wp2;go_ret;simp
theorem zk2(b:A_)(l c)(w):
 C_ 239 #[V b l c] w λe w'=>e=Xa (.func (.func 273) #[] #[p_ w.heap.size 0])/\w'=w.alloc (cl #[V b l c] 82):=by go_enter func239,ntmps239;go_wp2;go_ret;simp
theorem Oz(b:A_)(n cap)(c)(w):
 C_ 44 #[ag #[V b n cap,c]] w λe w'=>e=Xa (.func (.func 160) #[] #[p_ (w.heap.size+1) 0])/\w'=(w.alloc (cl #[V b n cap,c] 62)).alloc (cl #[V b n cap] 59):=by go_enter func44,ntmps44;go_wp2_with fail;refine(X_ b n _ _).mono<|fB ?_;go_wp2;go_ret;simp
theorem zrK(b:A_)(n cap)(c)(w):
 C_ 104 #[ag #[c,V b n cap]] w λe w'=>e=Xa (.func (.func 237) #[] #[p_ (w.heap.size+1) 0])/\w'=(w.alloc (cl #[c,V b n cap] 62)).alloc (cl #[V b n cap] 60):=by go_enter func104,ntmps104;go_wp2_with fail;refine(Ym b n _ _).mono<|fB ?_;go_wp2;go_ret;simp
theorem Tk(s)(x)(f:A_)(d c)(b:A_)(n cap)(w):
 C_ 184 #[ag #[gS s,G x,V f d c,V b n cap]] w λe w'=>e=Xa (.func (.func 273) #[] #[p_ (w.heap.size+1) 0])/\w'=(w.alloc (cl #[gS s,G x,V f d c,V b n cap] 208)).alloc (cl #[V b n cap] 82):=by go_enter func184,ntmps184;go_wp2_with fail;refine(zk2 b n _ _).mono<|fB ?_;go_wp2;go_ret;simp
theorem Nu(h:k<10):(UInt8.ofNat (48+k)).toNat=48+k:=by rw[UInt8.toNat_ofNat'];omega
theorem zk3(a b):Qm (a++b)=(Qm a&&Qm b):=by simp[Qm]
theorem H_(n):Qm (kad n)=true:=by induction n using Nat.strongRecOn with |_ n d=>(have b:∀k,k<10->Qm [UInt8.ofNat<|48+k]=true:=by intro k c;simp only[Qm,List.all_cons,List.all_nil,Bool.and_true,EL,Nu c];simp;omega);by_cases h:n<10;{rw[kad,dif_pos h];grind};rw[kad,dif_neg h,zk3,d _ om,b _<|Z0 _ om];rfl
theorem KZ(n):ZE (kad n)=n:=by induction n using Nat.strongRecOn with |_ n b=>by_cases h:n<10;{rw[kad,dif_pos h];show ZE ([] ++ [_])=n;rw[Ow,Nu h];simp[ZE]};rw[kad,dif_neg h,Ow,b _ om,Nu<|Z0 _ om];omega
theorem CJ(a b:U_)(h:∀c∈a,c≠47):kap (a++47::b) [47]=a.length:=by induction a with |nil=>rfl |cons c a d=>simp only[ZZ,kap,(d λe f=>h e<|qq _ f)];grind
theorem FP(a b:U_)(h:∀c∈a,c≠47):kaa (a++47::b) [47]=(a,b,true):=by unfold kaa;rw[CJ a b h,zQ om];simp
theorem BQ{l}(h:Qm l=true):∀c∈l,c≠47/\c≠45:=by intro c b;have:=Lv<|Zi.1 h c b;constructor;{rintro rfl;grind};rintro rfl;grind
theorem Tg(n):kam (kad n) [45]=false:=by cases hd:kad n with |nil=>rfl |cons c r=>have b:=((BQ<|H_ n) c g_).2;simp[kam,List.isPrefixOf,Qr b]
theorem Mi(z):kag (kae z) [45]=kad z.natAbs/\kam (kae z) [45]=decide (z<0):=by unfold kae;by_cases h:z<0;{rw[zQ h];constructor;{rfl};simp[kam,h]};rw[zO h];have e:z.toNat=z.natAbs:=om;rw[e];constructor;{rw[kag,Tg];rfl};rw[Tg];grind
theorem V7(z):sg (decide (z<0)) z.natAbs=z:=by unfold sg;grind
theorem iO(b:Nat):kae (b:Int)=kad b:=by rw[kae,zO om];simp
def Gl (w:H):Prop:=lZ w/\∃mx,w.cell? (Xd 3 0 O)=E (i_ mx)/\3<w.heap.size
theorem Gl.below(h:Gl w)(hb:b_ w w'):Gl w':=by have⟨c,e,d,b⟩:=h;exact⟨c.below hb,e,(hb.cell b).trans d,zK b hb.size⟩
theorem Row.eL(h:Row w b o ds)(d:kV b off n w w')(c:o+ds.length<=off\/off+n<=o):Row w' b o ds:=λi c=>(d.cell (o+i) om).trans (h i c)
theorem Row.splice{w w'}{L W}(h:Row w b off L)(hu:kV b (off+j) W.length w w')(hW:Row w' b (off+j) W)(hj:j+W.length<=L.length):Row w' b off (splice L W j):=by have hl:(L.take j).length=j:=g_;apply ((h.take j).eL hu<|kai om).append;rw[hl];apply hW.append;rw[show off+j+W.length=off+(j+W.length)by omega];exact (h.drop _).eL hu (kac om)
structure sM (b c:Nat)(w w':H):Prop where
 os:w'.os=w.os
 tape:w'.tape=w.tape
 output:w'.output=w.output
 size:w'.heap.size=w.heap.size
 block:∀k,k≠b->k≠c->w'.heap[k]? =w.heap[k]?
 frozen:∀k j,w'.frozen? (Xd k j O)=w.frozen? (Xd k j O)
theorem sM.refl(b c)(w):sM b c w w:=⟨rfl,rfl,rfl,rfl,λ_ _ _=>rfl,λ_ _=>rfl⟩
theorem sM.trans{u v}(h:sM b c u v)(k:sM b c v w):sM b c u w:=⟨k.os.trans h.os,k.tape.trans h.tape,k.output.trans h.output,k.size.trans h.size,λi d e=>(k.block i d e).trans<|h.block i d e,λi j=>(k.frozen i j).trans<|h.frozen i j⟩
theorem kV.kE(h:kV b off n w w')(k j):w'.frozen? (Xd k j O)=w.frozen? (Xd k j O):=by by_cases c:k=b;{subst c;exact h.frozen j};exact qw (h.block k c)
theorem kV.two(h:kV b off n w w')(c):sM b c w w':=⟨h.os,h.tape,h.output,h.size,λk d _=>h.block k d,h.kE⟩
theorem kV.I5(h:kV b off n w w')(c):sM c b w w':=⟨h.os,h.tape,h.output,h.size,λk _ d=>h.block k d,h.kE⟩
theorem sM.drewN{u}(h:sM b c u w)(n):sM b c u (w.drewN n):=⟨h.os,h.tape,h.output,h.size,h.block,h.frozen⟩
theorem sM.row(h:sM b c w w')(hb:k≠b)(d:k≠c)(f:Row w k o ds):Row w' k o ds:=λi e=>(Zj<|h.block k hb d).trans (f i e)
theorem sM.free(h:sM b c w w')(d:t_ w k o n):t_ w' k o n:=λi e=>(h.frozen _ _).trans (d i e)
theorem sM.below(h:sM b c w w')(hb:B<=b)(d:B<=c):Below B w w':=⟨h.os,h.tape,h.output,jm h.size.symm,λk d=>h.block k om om⟩
theorem Yv(K)(hK:K<=1073741800):CK K:=by
 intro w cJ cK b6 n hu hv hm bL cu bK;obtain⟨X,bX,hd,ht,b3,hl⟩:=J9 hu hm;obtain⟨l,r,a6,aY,b4,cp⟩:=J9 hv<|qu bL hm;have ct:1<l.length:=nJ.ge a6 om;obtain⟨t,hes⟩:∃t,l.length=t+2:=⟨l.length-2,om⟩;have ar:l.length<=X.length:=by rcases Qc X.length l.length with aA|aA;{have:=aY.kH hd aA;omega};omega
 have bA:X≠ []:=g_;have aJ:l≠ []:=g_;have c0:=aY _ hes;have cz:=a6.get<|t+1;obtain⟨B,hs,bT,bR,bS⟩:=znu (Z3 c0) cz;obtain⟨m,g⟩:=IX a6 hes bR bS;have br:0<2^B:=Dc dc;have ce:2^B<=2147483648:=ZD dc hs;rw[b4]at m g;have U:=r;have b2:=bX;obtain⟨_,_,rfl,cj,bO⟩:=r;obtain⟨_,_,rfl,ci,bQ⟩:=bO aJ;obtain⟨_,_,rfl,hc,hr⟩:=bX;have ck:=bQ (t+1) om;have aW:b6<4294967296^X.length:=by rw[<-b3];exact gg hd
 obtain⟨M,hM⟩:∃M,X.length=M:=⟨_,rfl⟩;rw[hes]at ar ct cp U cj⊢;rw[hM]at ar hl b2 hc aW⊢;generalize cA:l.getD (t+1) 0=cC at *;have aV:=λc7=>Tryz.bits_LeadingZeros32 (cC) c7 om om;rw[jT,bT]at aV;have ae:=zf m;have az:=zf g;have c4:=zf aW;clear hr bO m g c0 bR bS bT hm bL cu bK ht aY aW;go_enter func243,ntmps243;go_wp2_with fail;refine(aV _).mono<|fB ?_;go_wp2_with fail;refine(Tl _ _ X B hs b2 bA hd om).mono ?_;rintro e w1 ⟨c,L0,rfl,aD,ca,bo,aC,bp,m,bF,a7⟩;rw[hM]at aD aC;rw[hM];go_wp2_with fail;refine(Tl _ _ l B hs (U.below m) aJ a6 om).mono ?_;rintro e w2 ⟨gB,k,rfl,bg,be,aB,bf,bh,g,cm,bD⟩;rw[hes]at bg bf;rw[hes];go_wp2_with fail;refine(ij _ _ _ _ _ k om om om aB).mono ?_;rintro e w3 ⟨rfl,rfl⟩;have u:=be.take<|Jr k<|t+2+1;have aj:=Pa k (t+2+1) om;have J:=nF k (t+2+1) om;rw[zP<|show k.length<=t+2+1 by omega,bh,b4]at J;have ai:=aB.take<|Jr k<|t+2+1;obtain⟨v,ah⟩:=XZ u aj J ae.out az.out;have aZ:Jr k (t+2+1)=t+2:=g_;rw[aZ]at u aj J ai v ah;rw[aZ];obtain⟨F,hF⟩:∃F,k.take (t+2)=F:=⟨_,rfl⟩;rw[hF]at u aj J ai v ah;clear hF aZ be aB bf bh bg aj;have bJ:=znv aD om (b3▸bp) c4.out br ce ae.out;obtain⟨i0,N,c1,c2,c3⟩:=Zn Xu;obtain⟨f,hk0⟩:∃f,M-(t+2)+1=f:=⟨_,rfl⟩;have bl:=zf bJ;clear bJ;go_wp2_with (at_make;refine O6 _ rfl _ _ _ rfl _ _ underlying86 N c1 c2 c3 _ _ _ _ f rfl rfl om om om ?_;intro C bq aF a5 bV);have aL:gB≠w3.heap.size:=om;have a1:c≠w3.heap.size:=om;have ak:gB≠c:=om;have cb:=(bo.below g a7).below a5<|zK a7 g.size;have bi:=ai.below a5 bD;have bn:t_ C c 0 _:=λA N=>(a5.frozen<|zK a7 g.size).trans<|(g.frozen a7).trans<|aC A N;have ch:=m.trans<|(g.trans<|a5.mono g.size).mono m.size;have bG:=zF m.size g.size;have cn:gB<C.heap.size:=om;obtain⟨d,hgQ⟩:∃d,w3.heap.size=d:=⟨_,rfl⟩;rw[hgQ]at bq aF bV aL a1 bG;rw[hgQ];clear N c1 c2 c3 hv U ci bQ hu b2 ck bo ai aC m g a5 aV cA a6 hd hes bA aJ a7 cm bD;obtain⟨i,hV⟩:∃i,2^B*n=i:=⟨_,rfl⟩;have HV:=zf hV;rw[hV]at J ae az bl;clear hV;have bs:=az.out;have af:=zf J;clear J;have bb:=zf bs;clear bs;go_loopw [9] (λiv wr=>∃(W:Nat) (L Q:N_),W<=f/\iv=i_ ((W:Int)-1)/\Hid (L.length=M+1)/\gT L/\Row wr c 0 L/\Hid (Q.length=f)/\gT Q/\Row wr d 0 Q/\sM c d C wr/\ Hid (val L0=val L+i*(4294967296^W*val (Q.drop W)))/\Hid (val (L.drop W)<i)) (λiv _=>(intOf iv+1).toNat);case atStart=>exact⟨f,_,_,zh _,rfl,aD,ca,cb,by simp[Hid],(λcD hd=>g_),bq,sM.refl _ _ _,by rw[Hid,QP sp];rfl,g_⟩
 case round=>obtain⟨W,L,Q,_,rfl,R,a8,au,y,aX,av,o,a2,a9⟩:=hrel;cases W with |zero=>have bY:val L0=2^B*b6:=g_;obtain⟨x,bP⟩:=Yz br (by have:=a2.out;rw[bY,Q2,Nat.pow_zero,Jv,<-HV.out]at this;omega) (by have:=a9.out;rw[Q2,<-HV.out]at this;omega);have c5:=zf x;have c6:=zf bP;have bM:=o.free aF;have aU:=o.free bn;have bU:=zk1 _ c 0 (M+1) B L hs (by rw[R.out];omega) (by rw[R.out];omega) au (by rw[R.out];exact aU) a8;rw[R.out]at bU;(have co:d<wr.heap.size:=by rw[o.size];exact bV);clear x bP a2 a9 bY;go_wp2_with fail;refine(ij _ d 0 f f Q (zh _) om (by rw[y.out];omega) av).mono ?_;rintro e w5 ⟨rfl,rfl⟩;go_wp2_with fail;refine bU.mono<|eU λs ⟨L',aR,cq,aS,aT,cr⟩=>?_;go_wp2_with fail;refine(ij _ c 0 _ _ _ (zh _) om om aS).mono ?_;rintro e D ⟨rfl,rfl⟩;go_wp2_with fail;go_ret2;have ab:=aT.other (λe=>a1 e.symm) av;refine⟨_,_,rfl,?_,?_,?_⟩;{rw[<-c5.out];exact iu ab aX (by rw[aT.size];omega) y.out<|zh _};{rw[<-c6.out,<-cr];exact iu aS cq (tF aS (by intro e;simp_all)) aR<|zh _};exact ch.trans ((o.below bF bG).trans<|aT.below bF) |succ j=>(have aQ:j+(t+2)+1<=L.length:=by rw[R.out];omega);obtain⟨ax,bZ,b5⟩:=Wa a8 aQ a9.out bb.out;obtain⟨I,hWd0⟩:∃I,(L.drop j).take (t+2+1)=I:=⟨_,rfl⟩;have a0:I.length=t+3:=g_;(have bx:Row wr c j I:=by have:=(au.drop j).take<|t+2+1;rw[hWd0,qt]at this;exact this);(have ap:gT I:=by rw[<-hWd0];exact(a8.drop j).take _);rw[hWd0]at ax;have bj:=o.row ak aL bi;have hX:=F4 a0 v u ax af.out b5;have aU:=o.free bn;(have bw:t_ _ c j (t+3):=λA N=>by have:=aU (j+A) om;rwa [qt]at this);have bI:=zjR _ c j (M+1-j) _ 0 (t+2+1) t I F a0 v om om om bx bj ap u ah hX _ _ _ _ rfl rfl rfl rfl;(have bE:gB<wr.heap.size:=by rw[o.size];exact cn);have bM:=o.free aF;(have cE:wr.cell? (Xd d j O)=E (it .u32 ((Q.getD j 0:Nat):Int)):=by have:=av j (by rw[y.out];omega);rwa [qt]at this);(have cv:wr.frozen? (Xd d j O)=false:=by have:=bM j om;rwa [qt]at this);have aP:j<f:=om;have a4:=zf ax;have bu:=zf bZ;have cg:=zf b5;have bd:=zf hWd0;clear ax bZ b5 hX hWd0;go_wp2_with fail;rw[show j+(t+2)+1-j=t+3 by omega];refine bI.mono ?_;rintro e w5 ⟨h,rfl,aK,bB,bC,nq,rfl⟩;obtain⟨aM,bH⟩:=YX a0 v ap u a4.out af.out ah cg.out rfl rfl rfl rfl bB aK bC;have bW:=RT (wr.drewN nq) c j (M+1-j) h I F _ om om om aK bx (by rw[a0];exact bw) ap ⟨_,t+2+1,by rw[v],om,λ_=>⟨_,0,rfl,bE,ak,bj⟩⟩ u;rw[a0]at bW;clear bB bC bI;go_wp2_with fail;refine bW.mono ?_;rintro e s ⟨W1,cB,rfl,hr,Z,aH,bt,T,r⟩;rw[a4.out,af.out]at r;(have aG:0<i:=by have:=ae.out;have:=pow_pos<|t+1;generalize 4294967296^(t+1)=P at *;omega);have Y:=gg aH;rw[Z]at Y;(have ad:val (L.drop j)<4294967296^(t+3):=by have:=gg ap;rw[a4.out,a0]at this;exact this);have al:i<4294967296^(t+3):=zK bb.out<|gI om;have b0:=(o.drewN _).trans<|T.two d;have cc:=Row.splice (w:=wr.drewN _) au (by rw[qt,Z];exact T) (by rw[qt];exact bt) (by omega);have ab:=T.other (λe=>a1 e.symm) av;have c9:=b0.row ak aL bi;(have cF:s.cell? (Xd d j O)=E (it .u32 ((Q.getD j 0:Nat):Int)):=by have:=ab j (by rw[y.out];omega);rwa [qt]at this);have cw:=(T.kE d j).trans cv;(have aq:j<Q.length:=by rw[y.out];exact aP);by_cases aN:h<=val (L.drop j)/i;{obtain⟨rfl,x,aa⟩:=zop aG aM aN Y r ad;obtain⟨s1,s2⟩:=UT aQ om aq (by rw[bd.out];exact a4.out) bu.out x a2.out;have a3:=ab.setCell j h aq;have z:=(Xx d 0 f s).setCell j aP<|it .u32 (h:Int);simp only[qt]at a3 z;have aE:=z.other a1 cc;have b1:=b0.trans<|z.I5 c;have S1:=zf s1;(have S2:Hid (val ((splice L W1 j).drop j)<i):=by rw[Hid,s2];exact aa);clear s1 s2 x aa r ad al aM bH aN a2 a9 Y;go_wp2_with fail;go_roundw;(case rel=>exact⟨j,splice L W1 j,Q.set j h,om,by go_num,by rw[Hid,PO (by rw[Z];omega),R.out],UN a8 aH,aE,by rw[Hid,qX,y.out],aX.set _ _ aK,a3,b1,S1,S2⟩);case measure=>simp[intOf]};have aO:h=val (L.drop j)/i+1:=om;obtain⟨_,_,ay⟩:=UY (b:=0) (c:=0) aG aO Y r ad al;have cI:(0:Int)<(cB:Int):=om;have bz:=OH s c j (M+1-j) W1 F (V (E<|Xd gB 0 O) (t+2)<|t+2+1) om om om bt (by rw[Z];exact λA N=>(T.kE c<|j+A).trans<|bw A N) aH ⟨_,t+2+1,by rw[v],om,λ_=>⟨gB,0,rfl,by rw[T.size];exact bE,ak,c9⟩⟩ u;rw[Z]at bz;have b9:=zf r;have b7:=zf aO;have b8:=zf ad;have ba:=zf al;have bc:=zf Y;clear ay r aO ad al Y aM bH aN;go_wp2_with fail;refine bz.mono<|eU λD ⟨W2,c8,an,bv,cf,aw,U⟩=>?_;rw[af.out]at U;have aI:=gg bv;rw[an]at aI;obtain⟨_,_,ay⟩:=UY (b:=val W2) (c:=c8) aG b7.out bc.out b9.out b8.out ba.out;obtain⟨x,aa⟩:=ay aI U;have b1:=b0.trans<|aw.two d;have cy:=T.trans aw;have aE:=Row.splice (w:=wr.drewN nq) au (by rw[qt,an];exact cy) (by rw[qt];exact cf) (by rw[an];omega);have bN:=aw.other (λe=>a1 e.symm) ab;(have cG:D.cell? (Xd d j O)=E (it .u32 ((Q.getD j 0:Nat):Int)):=by have:=bN j (by rw[y.out];omega);rwa [qt]at this);have cH:=(aw.kE d j).trans cw;obtain⟨s1,s2⟩:=UT (q:=h-1) aQ om aq (by rw[bd.out];exact a4.out) bu.out x a2.out;have a3:=bN.setCell j (h-1) aq;have z:=(Xx d 0 f D).setCell j aP<|it .u32 ((h-1:Nat):Int);rw[show((h-1:Nat):Int)=(h:Int)-1 by omega]at a3 z;simp only[qt]at a3 z;have cd:=z.other a1 aE;have cx:=b1.trans<|z.I5 c;have S1:=zf s1;(have S2:Hid (val ((splice L W2 j).drop j)<i):=by rw[Hid,s2];exact aa);clear s1 s2 x aa U aI ay a2 a9 b9 b7 b8 ba bc;go_wp2_with fail;go_roundw;(case rel=>exact⟨j,splice L W2 j,Q.set j<|h-1,om,by go_num,by rw[Hid,PO (by rw[an];omega),R.out],UN a8 bv,cd,by rw[Hid,qX,y.out],aX.set _ _ om,a3,cx,S1,S2⟩);case measure=>simp[intOf]
theorem index_none(a:U_)(h:∀c∈a,c≠47):kap a [47]=-1:=by induction a with |nil=>rfl |cons c a b=>simp only[kap,(b λd e=>h d<|qq _ e)];grind
theorem uI(a:U_)(h:∀c∈a,c≠47):kaa a [47]=(a,[],false):=by unfold kaa;rw[index_none a h,zO om]
def wT (z:Int):ByteArray:=⟨(kae z).toArray⟩
theorem BJ(s:ByteArray):s.data.toList.length=s.size:=js
end
namespace T
variable {l:U_}{w:H}
theorem NP(i):10000^i=10^(4*i):=by rw[HO]
theorem Fc{s:ByteArray}(h:s.data.toList=l):s=⟨l.toArray⟩:=by subst h;rfl
theorem QQ.stored{g:Nat}{f b:Bool}{c a a1 a2:A_}{e d l k l1 k1 l2 k2:Nat}(h:QQ w g (G f) (V c e d) (V a1 l1 k1)):QQ (((w.setCell (Xd g 0 O) (G b)).setCell (Xd g 1 O) (V a l k)).setCell (Xd g 2 O) (V a2 l2 k2)) g (G b) (V a l k) (V a2 l2 k2):=by
 obtain⟨f,i,j,m,o,p,q⟩:=h;have r:(w.setCell (Xd g 0 O)<|G b).cell? (Xd g 1 O)=E (V c e d):=by rw[zA _ _ _ _ sp];exact i
 have c:((w.setCell (Xd g 0 O)<|G b).setCell (Xd g 1 O)<|V a l k).cell? (Xd g 2 O)=E (V a1 l1 k1):=by rw[zA _ _ _ _ sp,zA _ _ _ _ sp];exact j
 refine⟨?_,?_,zN _ _ _ c,by simp_all,by simp_all,by simp_all,by simp_all⟩;{rw[zA _ _ _ _ sp,zA _ _ _ _ sp];exact zN _ _ _ f};rw[zA _ _ _ _ sp];exact zN _ _ _ r
theorem mH{B:Nat}{w':H}(hb:Below B w w'){g:Nat}(hg:B<=g)(x y z:Value):Below B w (((w'.setCell (Xd g 0 O) x).setCell (Xd g 1 O) y).setCell (Xd g 2 O) z):=((hb.setCell (p:=(Xd g 0 O)) hg _).setCell (p:=(Xd g 1 O)) hg _).setCell (p:=(Xd g 2 O)) hg _
def lK (l:U_)(m:Nat):Bool:=decide (l≠ [])&&(decide (l.length<=m)&&Qm l)
def lu (T:U_)(m:Nat):Bool:=lK (kaa T [47]).1 m&&(!(kaa T [47]).2.2||(lK (kaa T [47]).2.1 m&&decide (ZE (kaa T [47]).2.1≠0)))
def pE (T:U_):Nat:=if (kaa T [47]).2.2 then ZE (kaa T [47]).2.1 else 1
theorem o9{T:U_}{k}(c:k<T.length)(b:T[k]=47)(d:∀i (h:i<k),T[i]' om≠47):kaa T [47]=(T.take k,T.drop (k+1),true):=by
 have e:T=T.take k++47::T.drop (k+1):=by
  conv=>lhs;rw[<-Fh k T,jt c,b]
 conv=>lhs;rw[e]
 refine FP _ _ ?_;intro c b;obtain⟨i,c,rfl⟩:=qM b;grind
theorem xy{T:U_}(d:∀i (h:i<T.length),T[i]≠47):kaa T [47]=(T,[],false):=by refine uI T ?_;intro c b;obtain⟨i,c,rfl⟩:=qM b;grind
def Nh (l:U_):Bool:=lu (kag l [45]) 40
def rA (l:U_):Nat:=ZE (kaa (kag l [45]) [47]).1
def rD (l:U_):Nat:=pE (kag l [45])
def rP (l:U_):Int:=sg (kam l [45]) (rA l)/(R8 (rA l) (rD l))
def rQ (l:U_):Nat:=rD l/R8 (rA l) (rD l)
theorem mO{A}{m}(h:lK A m=true):ZE A<10^m:=by unfold lK at h;simp only[Qj,Z9]at h;exact zK (Ra h.2.2) (ZD om h.2.1)
def Sv (w:H)(v:Value)(ls:List ByteArray):Prop:=
 (v=V_/\ls= [])\/∃g off cap,v=V (E (Xd g off O)) ls.length cap/\ls.length<=cap/\g<w.heap.size/\∀i,i<ls.length->w.cell? ⟨g,off+i,O⟩=E (gS (ls.getD i ⟨#[]⟩))
theorem Sv.below{w':H}{v:Value}{b:List ByteArray}(h:Sv w v b)(hb:b_ w w'):Sv w' v b:=by rcases h with h|⟨g,off,c,d,e,b,f⟩;{exact kai h};exact kac ⟨g,_,c,d,e,zK b hb.size,λi c=>(hb.cell b).trans<|f i c⟩
def KW (l:U_):Bool:=decide (∀c∈l,c≠47)&&Nh l
def wZ (l:U_):Int:=sg (kam l [45]) (ZE (kag l [45]))
theorem BH{c}(h:c∈kag l [45]):c∈l:=by unfold kag at h;grind
theorem Ev{l}(h:∀c∈l,c≠47):rP l=wZ l/\rQ l=1/\rA l=ZE (kag l [45])/\Nh l=lK (kag l [45]) 40:=by
 have b:=uI _ λc b=>h c<|BH b;have d:rA l=ZE (kag l [45]):=by unfold rA;rw[b]
 have e:rD l=1:=by unfold rD pE;rw[b];rfl
 refine⟨?_,?_,d,?_⟩;{unfold rP wZ;simp_all};{unfold rQ;simp_all};unfold Nh lu;grind
structure fK where
 b:Bool
 u:S_
 d:S_
def fK.up (t:fK):Value:=V t.u.1 t.u.2.1 t.u.2.2
def fK.down (t:fK):Value:=V t.d.1 t.d.2.1 t.d.2.2
def fK.val (t:fK):Value:=ag #[G t.b,t.up,t.down]
def fK.cells (t:fK):List Value:= [G t.b,t.up,t.down]
end T
section
variable {B a b c cap g k t:Nat}{l:List (Value×Nat×List Value)}{s:ByteArray}{v x:Value}{w w' w0:H}{xs:List Value}
theorem VR{e size n:Nat}(h:w.ownsRow B e size v n xs)(hs:w.heap.size<=w'.heap.size)(q:∀g,v.ownBlock=E g->w'.heap[g]? =w.heap[g]?):w'.ownsRow B e size v n xs:=by obtain⟨b,i|⟨g,d,f,c,m,o,p,j,k,l⟩⟩:=h;{exact⟨b,kai i⟩};exact⟨b,kac ⟨g,d,f,c,m,(q g (by rw[c];rfl)).trans o,p,j,k,l⟩⟩
theorem zj3{i j}{u}(h:w.cell? (Xd g j O)=E u)(b:i≠j):(w.setCell (Xd g i O) v).cell? (Xd g j O)=E u:=by rw[zA _ _ _ _ g_];omega
structure yJ (B:Nat)(w:H)(l:List (Value×Nat×List Value)):Prop where
 own:∀(k:Nat) (v:Value) (t:Nat) (xs:List Value),l[k]? =E (v,t,xs)->w.ownsRow B t 1 v xs.length xs
 apart:∀(j k:Nat) (r q:Value×Nat×List Value),l[j]? =E r->l[k]? =E q->j≠k->∀g,r.1.ownBlock=E g->q.1.ownBlock≠E g
theorem yJ.same(h:yJ B w l)(hs:w.heap.size<=w'.heap.size)(hb:∀g,B<=g->g<w.heap.size->w'.heap[g]? =w.heap[g]?):yJ B w' l:=⟨λk v t c b=>VR (h.own k v t c b) hs λg d=>by have:=(h.own k v t c b).lt g d;grind,h.apart⟩
theorem yJ.grow(h:yJ B w l)(r:l[k]? =E (v,t,xs))(hg:w.grownBy w' v.ownBlock)(ho:w'.ownsRow B t 1 (V (E (Xd g 0 O)) (xs.length+1) cap) (xs.length+1) (xs ++ [x]))(d:v.ownBlock=E g\/g=w.heap.size):yJ B w' (l.set k (V (E (Xd g 0 O)) (xs.length+1) cap,t,xs ++ [x])):=by
 have s:(l.set k (V (E<|Xd g 0 O) (xs.length+1) cap,t,xs ++ [x]))[k]? =E (V (E<|Xd g 0 O) (xs.length+1) cap,t,xs ++ [x]):=g_;have m:∀j,j≠k->(l.set k (V (E<|Xd g 0 O) (xs.length+1) cap,t,xs ++ [x]))[j]? =l[j]?:=λj b=>MQ<|Qr b;have y:∀j q,j≠k->l[j]? =E q->q.1.ownBlock≠E g:=by intro j q b c e;rcases d with i|i;{exact h.apart j k q _ c r b g e i};have:=((h.own j _ _ _ c).lt g e).2;omega
 refine⟨λj C A D b=>?_,λo j z q d b p f c=>?_⟩;{by_cases e:j=k;{subst e;rw[s]at b;simp only[qN,Prod.mk.injEq]at b;obtain⟨rfl,rfl,rfl⟩:=b;rw[zM,ZH];exact ho};rw[m j e]at b;have u:=h.own j C A D b;refine VR u hg.size λf c=>?_;exact hg.block f (u.lt f c).2 λi=>h.apart j k _ _ b r e f c i.symm};by_cases i:o=k;{subst i;rw[s]at d;simp only[qN]at d;subst d;rw[m j<|Qr p]at b;simp[kaj]at c;grind};rw[m o i]at d;by_cases r:j=k;{subst r;rw[s]at b;simp only[qN]at b;subst b;intro e;simp[kaj]at e;grind};rw[m j r]at b;exact h.apart o j z q d b p f c
theorem yJ.snoc(h:yJ B w l)(t):yJ B w (l ++ [(V_,t,[])]):=by have last:∀k q,l.length<=k->(l ++ [((V_:Value),t,([]:List Value))])[k]? =E q->q=(V_,t,[]):=g_;refine⟨λk v s o b=>?_,λi j r q d e m f c=>?_⟩;{by_cases g:k<l.length;{rw[zS g]at b;exact h.own k v s o b};have:=last k _ om b;simp only[Prod.mk.injEq]at this;obtain⟨rfl,rfl,rfl⟩:=this;exact Ih _ _ _ _};by_cases b:i<l.length;{rw[zS b]at d;by_cases b:j<l.length;{rw[zS b]at e;exact h.apart i j r q d e m f c};rw[last j _ om e];simp[kaj]};rw[last i _ om d]at c;simp[kaj]at c
structure Sm (B gf gp:Nat)(w0 w:H)(s:ByteArray)(a:Nat)(l tl:List (Value×Nat×List Value)):Prop where
 lt:w0.heap.size<=gf/\gf<B/\w0.heap.size<=gp/\gp<B/\gf≠gp
 le:B<=w.heap.size
 fd:Zh w gf (gS s) (i_ (a:Nat))
 sz:a<=s.size
 box:∀(k:Nat) (r:Value×Nat×List Value),l[k]? =E r->w.cell? (Xd gp k O)=E r.1/\w.frozen? (Xd gp k O)=false
 o7:yJ B w (l++tl)
 low:Below w0.heap.size w0 w
theorem Sm.ext{d}(h:Sm B c b w0 w s a l d)(hb:Ext w w'):Sm B c b w0 w' s a l d:=by
 have e:b<w.heap.size:=by have:=h.lt;have:=h.le;omega
 refine⟨h.lt,zF h.le hb.size,Zh.below h.fd hb,h.sz,λk r c=>?_,h.o7.same hb.size λg _ d=>hb.block g d,h.low.trans<|hb.mono h.low.size⟩;exact⟨hb.cell (h.box k r c).1,(qw<|hb.block b e).trans (h.box k r c).2⟩
theorem Sm.next{a'}{e}(h:Sm B c b w0 w s a l e)(g:Zh w' c (gS s) (i_ (a':Nat)))(f:a'<=s.size)(d:Wr (λk=>k=c) w w'):Sm B c b w0 w' s a' l e:=by
 have e:=h.lt;have i:b<w.heap.size:=by have:=h.le;omega
 refine⟨h.lt,zF h.le d.size,g,f,λk r c=>?_,h.o7.same d.size λg f f=>d.block g f om,h.low.trans<|d.below h.low.size λk c=>om⟩;have e:=d.block b i λc=>e.2.2.2.2 c.symm;exact⟨(Zj e).trans (h.box k r c).1,(qw e).trans (h.box k r c).2⟩
theorem Sm.grown{d}{f l2 e}{row}(h:Sm B c d w0 w s a l f)(hg:w.grownBy w' row)(i:∀b,row=E b->B<=b)(j:yJ B w' (l2++e))(g:∀k r,l2[k]? =E r->w.cell? (Xd d k O)=E r.1/\w.frozen? (Xd d k O)=false):Sm B c d w0 w' s a l2 e:=by have e:=h.lt;have e:=h.le;have CE:∀b,b<B->w'.heap[b]? =w.heap[b]?:=λb e=>hg.block b om λe=>g_;refine⟨h.lt,zF h.le hg.size,?_,h.sz,λk r f=>?_,j,?_⟩;{have⟨j,m,o,p,q⟩:=h.fd;have e:=CE c om;exact⟨(Zj e).trans j,(Zj e).trans m,(qw e).trans o,(qw e).trans p,zK q hg.size⟩};{have e:=CE d om;exact⟨(Zj e).trans (g k r f).1,(qw e).trans (g k r f).2⟩};refine h.low.trans ⟨hg.os,hg.tape,hg.output,hg.size,λk f=>hg.block k om λe=>g_⟩
theorem Sm.field{f}{b}(h:Sm B f c w0 w s a l b)(o:l[k]? =E (v,t,xs))(hg:w.grownBy w' v.ownBlock)(ho:w'.ownsRow B t 1 (V (E (Xd g 0 O)) (xs.length+1) cap) (xs.length+1) (xs ++ [x]))(e:v.ownBlock=E g\/g=w.heap.size):Sm B f c w0 (w'.setCell (Xd c k O) (V (E (Xd g 0 O)) (xs.length+1) cap)) s a (l.set k (V (E (Xd g 0 O)) (xs.length+1) cap,t,xs ++ [x])) b:=by have p:=(zo.1 o).1;have d:(l++b)[k]? =E (v,t,xs):=g_;have j:=λb i=>((h.o7.own k v t _ d).lt b i).1;have u:=h.o7.grow d hg ho e;rw[List.set_append_left _ _ p]at u;have d:=h.lt;have d:=h.le;have q:∀b,b≠c->(w'.setCell (Xd c k O)<|V (E<|Xd g 0 O) (xs.length+1) cap).heap[b]? =w'.heap[b]?:=λb i=>qC _ _ _ _ so;have d:(w'.setCell (Xd c k O)<|V (E<|Xd g 0 O) (xs.length+1) cap).heap.size=w'.heap.size:=sp;have CE:∀b,b<B->w'.heap[b]? =w.heap[b]?:=λb i=>hg.block b om λe=>g_;have d:=hg.size;have m:∀j r,l[j]? =E r->w'.cell? (Xd c j O)=E r.1/\w'.frozen? (Xd c j O)=false:=λj r d=>⟨(Zj<|CE c om).trans (h.box j r d).1,(qw<|CE c om).trans (h.box j r d).2⟩;refine⟨h.lt,om,?_,h.sz,λj r d=>?_,u.same om λb i _=>q b om,?_⟩;{obtain⟨c,u,y,z,_⟩:=h.fd;have e:=(q f om).trans<|CE f om;exact⟨(Zj e).trans c,(Zj e).trans u,(qw e).trans y,(qw e).trans z,om⟩};{by_cases e:j=k;{subst e;rw[jZ p]at d;simp only[qN]at d;subst d;exact⟨zN _ _ _ (m j _ o).1,by simpa using (m j _ o).2⟩};rw[MQ<|Qr e]at d;exact⟨zj3 (m j r d).1<|Qr e,by simpa using (m j r d).2⟩};refine h.low.trans ⟨hg.os,hg.tape,hg.output,om,λb i=>?_⟩;grind
theorem Sm.last{d}{b}(h:Sm B c d w0 w s a l (b ++ [(v,t,xs)]))(hg:w.grownBy w' v.ownBlock)(ho:w'.ownsRow B t 1 (V (E (Xd g 0 O)) (xs.length+1) cap) (xs.length+1) (xs ++ [x]))(e:v.ownBlock=E g\/g=w.heap.size):Sm B c d w0 w' s a l (b ++ [(V (E (Xd g 0 O)) (xs.length+1) cap,t,xs ++ [x])]):=by have c:(l++(b ++ [(v,t,xs)]))[(l++b).length]? =E (v,t,xs):=g_;have b:=h.o7.grow c hg ho e;rw[<-Zl,List.set_append_right _ _<|zh _,Qn,Zl]at b;exact h.grown hg (λb d=>((h.o7.own _ v t _ c).lt b d).1) b h.box
theorem Sm.start{d}(h:Sm B b c w0 w s a l d)(t):Sm B b c w0 w s a l (d ++ [(V_,t,[])]):=⟨h.lt,h.le,h.fd,h.sz,h.box,by rw[<-Zl];exact h.o7.snoc t,h.low⟩
theorem Sm.h_{e}{c}{j}{r}(h:Sm B e b w0 w s a l c)(f:(l++c)[k]? =E (v,t,xs))(hg:w.grownBy w' v.ownBlock)(d:l[j]? =E r):w'.cell? (Xd b j O)=E r.1/\w'.frozen? (Xd b j O)=false:=by have c:=h.lt;have c:=h.le;have c:=hg.block b om (λe=>by have:=((h.o7.own k v t _ f).lt b e.symm).1;omega);exact⟨(Zj c).trans (h.box j r d).1,(qw c).trans (h.box j r d).2⟩
def kN (zs:L_):List Value:=zs.map λz=>i_ z
section
variable {F:Fence} {n:Nat} {P:Program} {ops:Array Oper} {Q:Exit->Act->World->Prop} {md:Region.Mode} {fuel:Nat} {listed:Array Bool} {a:Act} {w:World}
theorem sA (i){o}(hr:kan md ops listed= [i]:=by kernel_rfl)(ho:ops[i]? =some o:=by rfl)
 (h:∀K',(∀a w,wpAnyIn F n P md ops Q fuel (listed.setIfInBounds i true) a w->K' a w)->if kao o (yielded ops a.tmps)=true then Oper.wpIn F n P o a w K' Q else(∀f,o.about P w a.eval=some f->F.fn f)/\K' (a.put o.dst undef) w):
 wpAnyIn F n P md ops Q (fuel+1) listed a w:=wpAnyIn_ready hr (by simp) (AllReadyIn.cons ho h AllReadyIn.nil)
theorem Cs (i j){o o1}(hr:kan md ops listed= [i,j]:=by kernel_rfl)(ho:ops[i]? =some o:=by rfl)(ho1:ops[j]? =some o1:=by rfl)
 (h:∀K',(∀a w,wpAnyIn F n P md ops Q fuel (listed.setIfInBounds i true) a w->K' a w)->if kao o (yielded ops a.tmps)=true then Oper.wpIn F n P o a w K' Q else(∀f,o.about P w a.eval=some f->F.fn f)/\K' (a.put o.dst undef) w)
 (h1:∀K',(∀a w,wpAnyIn F n P md ops Q fuel (listed.setIfInBounds j true) a w->K' a w)->if kao o1 (yielded ops a.tmps)=true then Oper.wpIn F n P o1 a w K' Q else(∀f,o1.about P w a.eval=some f->F.fn f)/\K' (a.put o1.dst undef) w):
 wpAnyIn F n P md ops Q (fuel+1) listed a w:=wpAnyIn_ready hr (by simp) (AllReadyIn.cons ho h<|AllReadyIn.cons ho1 h1 AllReadyIn.nil)
variable {S:World->Prop}
theorem rN (i j){o o1}(hr:kan md ops listed= [i,j]:=by kernel_rfl)(ho:ops.toList[i]? =some o:=by rfl)(ho1:ops.toList[j]? =some o1:=by rfl)
 (h:∀K',tP P ops Q md S fuel (listed.setIfInBounds i true) K'->if kao o (yielded ops a.tmps)=true then Oper.wp P o a w K' Q else K' (a.put o.dst undef) w)
 (h1:∀K',tP P ops Q md S fuel (listed.setIfInBounds j true) K'->if kao o1 (yielded ops a.tmps)=true then Oper.wp P o1 a w K' Q else K' (a.put o1.dst undef) w):wpAnyH P md ops Q S (fuel+1) listed a w:=wpAnyH_ready hr (by simp) (Is (ho:=ho) (h:=h) (hs:=Is (ho:=ho1) (h:=h1) (hs:=AllReadyH.nil)))
end
end
theorem YM (K):4294967296^K<=10^(10*K):=by rw[HO];exact Nat.pow_le_pow_left dc K
theorem GD {n K}(h:n<4294967296^K):(kad n).length<=10*K+1:=by refine DH _ n (zK (zK h<|YM K) ?_) om;grind
theorem Un {z}{K}(b:z.natAbs<4294967296^K):(kae z).length<=10*K+2:=by unfold kae;split;{have:=GD b;grind};have e:z.toNat=z.natAbs:=om;rw[e];have:=GD b;omega
theorem zj4 (K)(hK:K<=1000000)(w)(v)(n)(T:fe w v n)(t:n≠0)(hn:n<4294967296^K)(ak:lZ w):
 C_ 141 #[v] w λe w'=>e=Xa (gS ⟨(kad n).toArray⟩)/\b_ w w':=by
 go_enter func141,ntmps141;go_wp2_with fail;refine(jW _ _ _ T t).mono<|fB ?_;go_wp2_with fail;apply(zny _ _ n K T t hn om).mono;rintro e b ⟨_,c,rfl,hx,af,R,ae,_,r⟩;obtain⟨_,_,rfl,_,hr⟩:=hx;have u:c≠ []:=by rintro rfl;exact t R.symm
 obtain⟨D,off,rfl,hg,ah⟩:=hr u;have W:Hid (JD c=kad n):=by rw[Hid,JD,zO u,R]
 have o:=zf af;have A:=zf ae;have a7:Lib.IsBuilderF 248 5 b.heap.size b.heap.size (kar []) (b.alloc<|cl #[pn O,V_] 248):=by refine kai ⟨zh _,V_,zC _ _,?_,by simp[kaj]⟩;exact World.ownsRowF_of (Ih _ _ _ _)
 go_wp2;go_loopw [5] (λx wr=>∃k:Nat,k<=c.length/\x=i_ (k-1)/\Lib.IsBuilderF 248 5 b.heap.size b.heap.size (kar<|JD<|c.drop k) wr/\b_ b wr) (λx _=>(intOf x+1).toNat);case atStart=>exact⟨_,zh _,rfl,by rw[QP<|zh _];exact a7,(qf _ _).alloc (zh _) _⟩
 case round=>obtain⟨k,_,rfl,q,d⟩:=hrel;cases k with |zero=>rw[Q2,W.out]at q;go_wp2_with fail;refine(Tryz.Builder_String_any_k _ _ _ _ q d.size).mono<|eU λy ⟨_,i,_⟩=>?_;go_wp2;go_ret;exact⟨rfl,r.trans<|(d.trans i).mono r.size⟩ |succ k=>have ap:=(d.cell hg).trans<|ah k om;have an:=(ak.below r).below d;have ad:=VK o.out k om;have C:=zf<|zow o.out A.out (k+1) (c.length-(k+1)) om;(have B:Hid (if k+1=c.length then JD (c.drop k)=kad (c.getD k 0)/\JD (c.drop<|k+1)= []else JD (c.drop k)=JD (c.drop<|k+1)++(kaf (9-(kad<|c.getD k 0).length) 48++kad (c.getD k 0))):=by rw[Hid];split;{exact Vm k om};exact Tu o.out A.out k om);generalize c.getD k 0=g at *;have aq:=DH 9 g ad om;go_wp2_with fail;refine(YA g om _ an).mono<|eU λy i=>?_;have s:=TC q i;have j:=d.trans<|i.mono d.size;have ai:=Ia<|kad g;by_cases N:k+1=c.length;{have f:=B.out;rw[zQ N]at f;rw[f.2]at s;go_wp2_with fail;refine(Pj b.heap.size b.heap.size (kar []) _ _ s (by rw[(zf ai).out];simp[kar];omega) j.size).mono<|eU λz ⟨h,l,_⟩=>?_;(have a0:Lib.IsBuilderF 248 5 b.heap.size b.heap.size (kar<|JD<|c.drop k) z:=by right;rw[LC,Q7,<-(zf f.1).out]at h;exact h);go_wp2;go_roundw;(case rel=>exact⟨k,om,g_,a0,j.trans l⟩);case measure=>simp[intOf];omega};have f:=B.out;rw[zO N]at f;generalize hB:kab (kad g).toArray=sB at *;generalize hL:(kad g).length=L at *;go_wp2_with fail;have Z:(9)-L=((9-L:Nat):Int):=om;rw[Z];refine(Tryz.strings_Repeat ⟨_⟩ _ y om (by rw[show(kab _).size=1 from rfl];omega)).mono<|eU λz h=>?_;have l:=j.trans<|h.mono j.size;(have aj:(kab (Lib.repeatL (kab #[48]).data.toList<|9-L).toArray).size=9-L:=by rw[Ia,show(kab #[48]).data.toList= [48]from rfl,SW,Te]);go_wp2_with fail;refine(Pj b.heap.size b.heap.size (kar<|JD<|c.drop<|k+1) _ _ (TC s h) (by rw[(zf aj).out];have:=C.out;simp[kar];omega) l.size).mono<|eU λw4 ⟨I,a5,_⟩=>?_;rw[LC,SW]at I;have M:=l.trans a5;go_wp2_with fail;refine(Pj b.heap.size b.heap.size _ sB _ (kac I) (by have:=C.out;simp[kar];omega) M.size).mono<|eU λw5 ⟨J,a6,_⟩=>?_;(have a2:Lib.IsBuilderF 248 5 b.heap.size b.heap.size (kar<|JD<|c.drop k) w5:=by right;rw[<-(zf hB).out,LC,Zl,<-(zf f).out]at J;exact J);go_wp2;go_roundw;(case rel=>exact⟨k,om,g_,a2,M.trans a6⟩);case measure=>simp[intOf]
theorem MT (K)(d:K<=1000000)(w)(v)(n)(c:fe w v n)(f:n<4294967296^K)(g:lZ w):
 C_ 141 #[v] w λe w'=>e=Xa (gS ⟨(kad n).toArray⟩)/\b_ w w':=by by_cases b:n=0;{subst b;exact WI w v c};exact zj4 K d w v n c b f g
theorem Mm (K)(h:K<=1000000)(w)(x)(z)(b:zy w x z)(g:z.natAbs<4294967296^K)(j:lZ w):
 C_ 74 #[x] w λe w'=>e=Xa (gS ⟨(kae z).toArray⟩)/\b_ w w':=by obtain⟨c,d,l,f,rfl,k,i⟩:=b.parts;have b:b_ w (w.alloc<|cl #[G c,V d l f] 88):=(qf _ _).alloc (zh _) _;cases c with |true=>(have c:z<0:=by have:=i.out;simp at this;omega);have d:=GD g;(have d:Hid (kab #[45]++kab (kad z.natAbs).toArray=kab (kae z).toArray):=by rw[Hid,kae,zQ c];exact JW [45] _);go_enter func74,ntmps74;go_wp2_with fail;refine(MT K h _ _ _ (k.alloc _) g<|j.below b).mono<|eU λl f=>?_;generalize kad z.natAbs=m at *;go_wp2;go_ret;exact⟨by rw[<-d.out];rfl,b.trans<|f.mono b.size⟩ |false=>(have c:¬z<0:=by have:=i.out;simp at this;omega);(have d:Hid (kae z=kad z.natAbs):=by rw[Hid,kae,zO c];congr 1;omega);go_enter func74,ntmps74;go_wp2_with fail;refine(MT K h _ _ _ (k.alloc _) g<|j.below b).mono<|eU λl f=>?_;go_wp2;go_ret;exact⟨by rw[d.out];rfl,b.trans<|f.mono b.size⟩
theorem V6 (K)(u:K<=1000000)(w)(x)(p)(q)(b:Qa w x p q)(v:p.natAbs<4294967296^K)(A:q<4294967296^K)(B:lZ w):
 C_ 281 #[x] w λe w'=>e=Xa (gS ⟨(jL p q).toArray⟩)/\b_ w w':=by have z:=b;obtain⟨c,d,l,f,g,j,h,rfl,k,i,C,J,_⟩:=b.parts;have r:QQ (w.alloc<|cl _ 194) _ (G c) (V d l f) (V g j h):=Xn _ _ _ _ _;have o:b_ w (w.alloc<|cl #[G c,V d l f,V g j h] 194):=(qf _ _).alloc (zh _) _;have D:zy w _ p:=⟨c,_,rfl,k,i⟩;by_cases m:q=1;{subst m;have t:Hid (jL p 1=kae p):=rfl;go_enter func281,ntmps281;go_wp2_with fail;refine(Kl _ _ p<|z.alloc _).mono<|eU λs b=>?_;have y:=(D.alloc _).below b;have k:=r.below b;obtain⟨L,M,N,R,T,U,W⟩:=k;have i:=o.trans<|b.mono o.size;clear b r;go_wp2_with fail;refine(Mm K u _ _ p y v<|B.below i).mono<|eU λI I=>?_;go_wp2;go_ret;exact⟨rfl,i.trans<|I.mono i.size⟩};rw[(Dm J m).1]at C;have I:=Un v;have I:=GD A;(have t:Hid (kab (kae p).toArray++kab #[47]++kab (kad q).toArray=kab (jL p q).toArray):=by rw[Hid,jL,zO m];have I:kab (kae p).toArray++kab #[47]=kab (kae p ++ [47]).toArray:=JW _ [47];rw[I,JW,Zl]);go_enter func281,ntmps281;go_wp2_with fail;refine(Ku _ _ p q (z.alloc _) m).mono<|eU λs b=>?_;have y:=(D.alloc _).below b;have z:=(C.alloc _).below b;have k:=r.below b;have m:=k;obtain⟨L,M,N,R,T,U,W⟩:=m;have i:=o.trans<|b.mono o.size;have o:=B.below i;have m:lZ s.drew:=o;clear b r;go_wp2;go_region_held (λw'=>w'.cell? (y_ w 0)=E (G c)/\w'.cell? (y_ w 1)=E (V d l f)/\w'.cell? (y_ w 2)=E (V g j h)) (go_keep) (first|(go_at_call 141;refine(MT K u _ _ q ((z.drew).below b) A<|m.below b).mono<|eU λc d=>?_;have c:=(k.drew.below b).below d;obtain⟨_,_,_,_,_,_,_⟩:=c)|(go_at_call 74;refine(Mm K u _ _ p am v om).mono<|eU λf b=>?_;have c:=k.drew.below b;obtain⟨_,_,_,_,_,_,_⟩:=c));(all_goals go_wp2);(all_goals go_ret);all_goals have c:=i.trans<|(VF b).mono i.size;exact⟨by rw[<-t.out];rfl,c.trans<|d.mono c.size⟩
namespace T
theorem Sv.row {w:H}{c:A_}{l cap:Nat}{b:List ByteArray}(h:Sv w (V c l cap) b)(e:b≠ []):∃g off,c=E (Xd g off O)/\g<w.heap.size/\∀i,i<b.length->w.cell? ⟨g,off+i,O⟩=E (gS (b.getD i ⟨#[]⟩)):=by rcases h with ⟨h,rfl⟩|⟨g,off,_,b,_,c,d⟩;{grind};grind
theorem CL {b:Type}{f}{l:List b}(i)(d)(h:i<l.length):(l.take (i+1)).all f=((l.take i).all f&&f (l.getD i d)):=by rw[ZQ h,List.all_append,zk,zg h];simp
theorem all_false {b:Type}{f}{l:List b}(i)(d)(h:i<l.length)(c:f (l.getD i d)=false):l.all f=false:=by grind
def fT (l:U_):Bool:=lK (kaa l [58]).1 l.length&&lu (kag (kaa l [58]).2.1 [45]) l.length
def ko (l:U_):Nat:=ZE (kaa l [58]).1
def mK (l:U_):Int:=rP (kaa l [58]).2.1
def sE (l:U_):Nat:=rQ (kaa l [58]).2.1
end T
theorem kQ (c)(l:U_):Lib.indexByte l c=kap l [c]:=by induction l with |nil=>rfl |cons d r b=>simp only[Lib.indexByte,kap,b];grind
theorem Ex (c)(s)(w):
 C_ 211 #[gS s,gS ⟨#[c]⟩] w λe w'=>e=Xa (i_ (kap s.data.toList [c]))/\w'=w:=by by_cases h:s=⟨#[c]⟩;{subst h;go_enter func211,ntmps211;go_wp2;go_ret;exact⟨AH<|by simp[kap],rfl⟩};(have b:(([c]:U_) == s.toList)=false:=by rw[ZN,LI];intro e;exact h<|by simp_all);have b:=zf<|kQ c s.data.toList;go_enter func211,ntmps211;go_wp2_with fail;refine(Tryz.stringslite_IndexByte s c.toNat _).mono<|fB ?_;go_wp2;go_ret;exact⟨AH b.out,rfl⟩
theorem CG (c)(l:U_):-1<=kap l [c]/\kap l [c]<l.length\/kap l [c]=-1:=by by_cases h:kap l [c]=-1;{omega};left;refine⟨Lib.index_ge _ _,?_⟩;rw[<-kQ]at h⊢;have b:=Lib.indexByte_ge l c;obtain⟨o,ho⟩:∃o:Nat,Lib.indexByte l c=(o):=⟨(Lib.indexByte l c).toNat,om⟩;rw[ho];have b:=(Lib.indexByte_some ho).1;grind
theorem yL (c)(s)(w)(hs:s.size<=9223372036854775807):
 C_ 152 #[gS s,gS ⟨#[c]⟩] w λe w'=>e=Xa (tp #[gS ⟨(kaa s.data.toList [c]).1.toArray⟩,gS ⟨(kaa s.data.toList [c]).2.1.toArray⟩,G (kaa s.data.toList [c]).2.2])/\∃n,w'=w.drewN n:=by have i:=CG c s.data.toList;rw[BJ]at i;have b:=BJ s;have j:=zf<|Ex c s;have d:Hid (kaa s.data.toList [c]=if 0<=kap s.data.toList [c]then(s.data.toList.take (kap s.data.toList [c]).toNat,s.data.toList.drop<|(kap s.data.toList [c]).toNat+1,true)else(s.data.toList,[],false)):=rfl;generalize kap s.data.toList [c]=z at *;by_cases f:0<=z;{obtain⟨k,rfl⟩:∃k:Nat,z=(k):=⟨z.toNat,om⟩;have b:=d.out;rw[zQ f,jT]at b;have g:=zf b;have h:kab (s.data.toList.take k).toArray=s.extract 0 k:=(T.Fc<|by simp).symm;have l:kab _=s.extract (k+1) _:=(T.Fc<|by rw[Lib.extract_to_end]).symm;have m:=zf h;have o:=zf l;have p:k<s.size:=om;clear b d h l i f;go_enter func152,ntmps152;go_wp2_with fail;refine(j.out _).mono ?_;rintro e l ⟨rfl,rfl⟩;go_wp2;go_region;(all_goals go_wp2);all_goals exact zH (v:=tp #[gS<|s.extract 0 k,gS<|s.extract (k+1) s.size,G true]) (by simp[results,results152,go_sem]) rfl ⟨by rw[g.out,m.out,o.out],1,rfl⟩};obtain rfl:z=-1:=om;have b:=d.out;rw[zO f]at b;have g:=zf b;have h:kab s.data.toList.toArray=s:=rfl;clear b d i f;go_enter func152,ntmps152;go_wp2_with fail;refine(j.out _).mono<|fB ?_;go_wp2;exact zH (v:=tp #[gS s,gS ⟨#[]⟩,G false]) (by simp[results,results152,go_sem]) rfl ⟨by rw[g.out],0,rfl⟩
theorem xT (c)(s)(w)(hs:s.size<=9223372036854775807):
 C_ 79 #[gS s,gS ⟨#[c]⟩] w λe w'=>e=Xa (tp #[gS ⟨(kaa s.data.toList [c]).1.toArray⟩,gS ⟨(kaa s.data.toList [c]).2.1.toArray⟩,G (kaa s.data.toList [c]).2.2])/\∃n,w'=w.drewN n:=by have b:=zf λW=>yL c s W hs;generalize kaa s.data.toList [c]=d at *;go_enter func79,ntmps79;go_wp2_with fail;refine(b.out _).mono ?_;rintro e b ⟨rfl,q,rfl⟩;go_wp2;exact zH (by simp[results,results79,go_sem]) rfl ⟨rfl,q,rfl⟩
theorem sS (s)(w)(hs:s.size<=9223372036854775807):
 C_ 79 #[gS s,gS ⟨#[47]⟩] w λe w'=>e=Xa (tp #[gS ⟨(kaa s.data.toList [47]).1.toArray⟩,gS ⟨(kaa s.data.toList [47]).2.1.toArray⟩,G (kaa s.data.toList [47]).2.2])/\∃n,w'=w.drewN n:=xT 47 s w hs
section
variable {B b k o:Nat}{l:U_}{v:Value}{w w':H}{z:Int}
def fv (s:ByteArray)(a n:Nat):Nat:=if a<s.size then(s.data.toList.getD a 0).toNat%n else 0
def fa (s:ByteArray)(a:Nat):Nat:=if a<s.size then a+1 else a
theorem WH(s)(g a n)(w)(hb:Zh w g (gS s) (i_ (a:Nat)))(hs:s.size<=9223372036854775807)(b:a<=s.size)(c:0<n)(d:n<=1000):
 C_ 15 #[p_ g 0,i_ (n:Nat)] w λe w'=>e=Xa (i_ (fv s a n))/\Zh w' g (gS s) (i_ (fa s a))/\Wr (λk=>k=g) w w':=by have h:=hb;obtain⟨c,d,b,f,i⟩:=h;by_cases h:a<s.size;{have j:(a)<(s.size:Int):=om;have l:¬(n:Int)=0:=om;unfold fv fa;rw[zQ h,zQ h];(have m:s.data.toList.getD a 0=s[a]:=by rw[zk,zg<|by simp_all];rfl);have l:(s[a]).toNat<256:=(s[a]).toNat_lt;have l:((s[a]).toNat:Int).tmod (n:Int)=(((s[a]).toNat%n:Nat):Int):=g_;have l:Zh _ g _ (i_<|(a)+1):=⟨by rw[zA _ _ _ _ g_];omega,zN _ _ _ d,by simp_all,by simp_all,by simp_all⟩;have b:Wr _ w (w.setCell _<|i_<|(a)+1):=Xs (T:=λk=>k=g) (Xk _ w) (p:=(Xd g 1 O)) rfl _;have f:Zh (w.setCell _ _).drew.drew g _ (i_<|(a+1:Nat)):=l;rw[m];generalize i:(s[a]).toNat=i at *;go_enter func15,ntmps15;go_wp2;go_region_held3 (λw'=>w'.cell? (Xd g 0 O)=E (gS s)/\w'.cell? (Xd g 1 O)=E (i_ (a:Nat))) (first|simp_all|go_keep) (fail);(all_goals go_wp2);(all_goals go_region_held3 (λw'=>w'.cell? (Xd g 0 O)=E (gS s)/\w'.cell? (Xd g 1 O)=E (i_ (a:Nat))) (first|exact⟨c,d⟩|go_keep) (fail));(all_goals go_wp2);(all_goals go_ret);all_goals exact⟨AH sp,f,⟨b.os,b.tape,b.output,b.size,b.block⟩⟩};have j:¬(a)<(s.size:Int):=om;unfold fv fa;rw[zO h,zO h];go_enter func15,ntmps15;go_wp2;go_region_held3 (λw'=>w'.cell? (Xd g 0 O)=E (gS s)/\w'.cell? (Xd g 1 O)=E (i_ (a:Nat))) (first|simp_all|go_keep) (fail);(all_goals go_wp2);(all_goals go_ret);all_goals exact⟨rfl,hb,Xp _ _⟩
theorem Row.kept{off}{ds}(h:Row w b off ds)(c:zn B w w'):Row w' b off ds:=λi a=>c.cell (h i a)
theorem fe.eL{n}(h:fe w v n)(a:zn B w w'):fe w' v n:=by obtain⟨d,⟨b,c,i,f,g⟩,e⟩:=h;refine⟨d,⟨b,c,i,f,λf=>?_⟩,e⟩;obtain⟨b,off,c,d,e⟩:=g f;exact⟨b,_,c,zK d a.size,e.kept a⟩
theorem zy.eL{x}(h:zy w x z)(e:zn B w w'):zy w' x z:=by obtain⟨b,v,a,c,d⟩:=h;exact⟨b,v,a,c.eL e,d⟩
theorem qK.same(h:qK w k)(a:w'.heap[k]? =w.heap[k]?):qK w' k:=by obtain⟨⟨o,d,c⟩,b⟩:=h;exact⟨⟨o,a.trans d,c⟩,λp v c=>b p v<|(Zj a).symm.trans c⟩
theorem qK.eL(h:qK w k)(c:zn B w w'):qK w' k:=by obtain⟨o,a,b⟩:=h.1;exact h.same ((c.block k o a<|.inr b).trans a.symm)
theorem qK.wr{T}(h:qK w k)(c:Wr T w w')(b:¬T k):qK w' k:=by obtain⟨_,a,_⟩:=h.1;exact h.same (c.block k (zd.1 a).1 b)
theorem qK.setCell{p}{y}(h:qK w k)(g:w.cell? (Xd k p O)=E y)(f:∀n,v≠it .u32 n):qK (w.setCell (Xd k p O) v) k:=by obtain⟨⟨o,c,_⟩,d⟩:=h;refine⟨?_,λq u a n=>?_⟩;{obtain⟨e,b⟩:=zd.1 c;(have c:k<(w.setCell (Xd k p O) v).heap.size:=by simpa[kas]using e);refine⟨_,qD c,?_⟩;simp only[kas,Array.getElem_modify,yq,b];cases o<;>simp_all[Obj.isCells]};by_cases b:p=q;{subst b;rw[zN _ _ _ g]at a;grind};rw[zA _ _ _ _ g_]at a;grind
theorem fe.wr{T}{n}(h:fe w v n)(e:Wr T w w')(m:∀k,T k->qK w k):fe w' v n:=by
 obtain⟨a,⟨b,c,i,f,g⟩,d⟩:=h;refine⟨a,⟨b,c,i,f,λc=>?_⟩,d⟩;obtain⟨b,off,i,l,d⟩:=g c;have j:¬T b:=by intro f;have g:=ZC.2 c;exact(m b f).2 _ _ (d 0 g) _ rfl
 exact⟨b,_,i,zK l e.size,λi a=>e.cell j<|d i a⟩
theorem zy.wr{T}{x}(h:zy w x z)(f:Wr T w w')(e:∀k,T k->qK w k):zy w' x z:=by obtain⟨b,v,a,c,d⟩:=h;exact⟨b,v,a,c.wr f e,d⟩
def Q3 (w:H)(b o:Nat)(z:Int):Prop:=
 ∃x ao l c,w.cell? (Xd b o O)=E (G x)/\w.cell? ⟨b,o+1,O⟩=E (V ao l c)/\zy w (ag #[G x,V ao l c]) z/\w.frozen? (Xd b o O)=false/\w.frozen? ⟨b,o+1,O⟩=false
theorem Q3.eL(h:Q3 w b o z)(a:zn B w w'):Q3 w' b o z:=by obtain⟨x,e,l,f,c,d,g,i,j⟩:=h;exact⟨x,e,l,f,a.cell c,a.cell d,g.eL a,(a.frozen c).trans i,(a.frozen d).trans j⟩
theorem Q3.below(h:Q3 w b o z)(hb:b_ w w'):Q3 w' b o z:=h.eL (B:=0) (zn.eX hb)
theorem Q3.lt(h:Q3 w b o z):b<w.heap.size:=by obtain⟨_,_,_,_,a,_⟩:=h;exact zw a
theorem Q3.put{z'}{x}{a:A_}{l c}(h:Q3 w b o z)(m:qK w b)(q:zy w (ag #[G x,V a l c]) z'):
 Q3 ((w.setCell (Xd b o O) (G x)).setCell ⟨b,o+1,O⟩ (V a l c)) b o z':=by
 obtain⟨_,d,r,e,g,i,_,j,k⟩:=h;have f:(w.setCell (Xd b o O)<|G x).cell? ⟨b,o+1,O⟩=E (V d r e):=by rw[zA _ _ _ _<|by grind];exact i
 refine⟨x,a,l,c,?_,zN _ _ _ f,?_,by simp_all,by simp_all⟩;{rw[zA _ _ _ _ g_];exact zN _ _ _ g};exact q.wr (((Xk (λk=>k=b) w).setCell rfl _).setCell rfl _) (λk e=>e▸m)
theorem Q3.other{p}{x}(h:Q3 w b p z)(j:qK w b)(a:p+1<o\/o+1<p):
 Q3 ((w.setCell (Xd b o O) (G x)).setCell ⟨b,o+1,O⟩ v) b p z:=by obtain⟨y,a,k,c,d,f,g,e,i⟩:=h;refine⟨y,a,k,c,?_,?_,?_,by simp_all,by simp_all⟩;{rw[zA _ _ _ _ g_,zA _ _ _ _ g_];omega};{rw[zA _ _ _ _ g_,zA _ _ _ _ g_];omega};exact g.wr (((Xk (λk=>k=b) w).setCell rfl _).setCell rfl _) (λk e=>e▸j)
theorem zlJ(s)(m)(w)(hm:m<=1099511627776\/s.size<=1099511627776)(hs:s.size<=9223372036854775807)(h:s.data.toList= []\/m<s.size\/Qm s.data.toList=false):
 C_ 167 #[gS s,i_ (m:Nat)] w λe w'=>e=Xa (tp #[V_,G false])/\w'=w:=by by_cases a:m<s.size;{have a:(m)<(s.size:Int):=om;have a:((s.size:Int) == 0)=false:=ZN.2 om;clear h;go_enter func167,ntmps167;go_wp2;go_ret2;exact⟨rfl,rfl⟩};exact iR s m w om h
theorem Ns(s)(m)(w)(hm:m<=1000000000\/s.size<=1000000000)(hs:s.size<=9223372036854775807)(h:T.lK (kag s.data.toList [45]) m=false):
 C_ 92 #[gS s,i_ (m)] w λe w'=>∃b x l cap,e=Xa (tp #[ag #[G b,V x l cap],G false])/\b_ w w':=by
 have o:Zh (w.alloc<|cl _ 88) _ (G false) (V_):=Xm _ _ _ _;have k:b_ w (w.alloc<|cl #[G false,V_] 88):=(qf _ _).alloc (zh _) _;have c:=Tryz.strings_CutPrefix s ⟨#[45]⟩<|w.alloc<|cl #[G false,V_] 88;have i:(kab #[45]).data.toList= [45]:=rfl;rw[i]at c;have I:(kag s.data.toList [45]).length<=s.size:=by rw[<-BJ s,kag];split;{simp};omega
 generalize kag s.data.toList [45]=d at *;generalize kam s.data.toList [45]=neg at *;have p:(kab d.toArray).data.toList= []\/m<(kab d.toArray).size\/Qm (kab d.toArray).data.toList=false:=by have e:(kab d.toArray).data.toList=d:=sp;rw[e,xJ];unfold T.lK at h;by_cases j:d= [];{grind};grind
 have u:=zf (λW=>zlJ ⟨_⟩ m W (by rw[xJ];omega) (by rw[xJ];omega) p);have t:=zf c;clear c i p h;go_enter func92,ntmps92;go_wp2_with fail;refine t.out.mono<|fB ?_;go_wp2_with fail;refine(u.out _).mono<|fB ?_;go_wp2_with fail;refine(Jh _ _ _ _<|Xo _ _ _).mono<|eP λF _ D a=>?_;obtain⟨g,f,r,q,rfl,_,_⟩:=D.parts;have C:=o.below a;have B:=k.trans<|a.mono k.size;obtain⟨y,z,_,_,_⟩:=C;clear a o;go_wp2;exact zH (by simp[results,results92,go_sem,y,z]) rfl ⟨g,f,r,q,rfl,(B.setCell sp _).setCell sp _⟩
theorem uT{c}(b:c≠47)(r:U_):kaa (c::r) [47]=(c::(kaa r [47]).1,(kaa r [47]).2.1,(kaa r [47]).2.2):=by by_cases h:∃k,∃d:k<r.length,r[k]=47/\∀i (h:i<k),r[i]' om≠47;{obtain⟨k,d,a,e⟩:=h;rw[T.o9 d a e];rw[T.o9 (k:=k+1) so g_ g_];simp};(have d:∀i (h:i<r.length),r[i]≠47:=by intro i;induction i using Nat.strongRecOn with |_ i f=>grind);rw[T.xy d];rw[T.xy g_]
theorem vw(L:U_):kaa (kag L [45]) [47]=(kag (kaa L [47]).1 [45],(kaa L [47]).2.1,(kaa L [47]).2.2)/\kam L [45]=kam (kaa L [47]).1 [45]:=by cases L with |nil=>exact⟨rfl,rfl⟩ |cons c r=>by_cases a:c=45;{subst a;rw[uT dc];simp[kag,kam]};(have b:kam (c::r) [45]=false:=by simp[kam,List.isPrefixOf,Qr a]);(have d:kag (c::r) [45]=c::r:=by rw[kag,b];rfl);rw[d,b];(have d:kam (kaa (c::r) [47]).1 [45]=false:=by by_cases b:c=47;{rw[T.o9 (k:=0) sp g_ om];rfl};rw[uT b];simp[kam,List.isPrefixOf,Qr a]);refine⟨?_,d.symm⟩;rw[kag,d];rfl
theorem Gp{m}(h:T.lK l m=true):0<l.length/\l.length<=m/\Qm l=true:=by unfold T.lK at h;grind
theorem xH{m}(h:T.lK l m=false):(kab l.toArray).data.toList= []\/m<(kab l.toArray).size\/Qm (kab l.toArray).data.toList=false:=by have e:(kab l.toArray).data.toList=l:=sp;rw[e,xJ];unfold T.lK at h;grind
theorem oK(L:U_):(kaa L [47]).1.length<=L.length/\(kaa L [47]).2.1.length<=L.length:=by unfold kaa;grind
theorem QQ.same{g}(h:QQ w g (G false) (V_) (V_)):QQ (((w.setCell (Xd g 0 O) (G false)).setCell (Xd g 1 O) (V_)).setCell (Xd g 2 O) (V_)) g (G false) (V_) (V_):=T.QQ.stored h
theorem WZ(s)(w)(hs:s.size<=9223372036854775807):
 C_ 79 #[gS s,gS ⟨#[10]⟩] w λe w'=>e=Xa (tp #[gS ⟨(kaa s.data.toList [10]).1.toArray⟩,gS ⟨(kaa s.data.toList [10]).2.1.toArray⟩,G (kaa s.data.toList [10]).2.2])/\∃n,w'=w.drewN n:=xT 10 s w hs
theorem T0(s)(w)(hs:s.size<=9223372036854775807):
 C_ 79 #[gS s,gS ⟨#[32]⟩] w λe w'=>e=Xa (tp #[gS ⟨(kaa s.data.toList [32]).1.toArray⟩,gS ⟨(kaa s.data.toList [32]).2.1.toArray⟩,G (kaa s.data.toList [32]).2.2])/\∃n,w'=w.drewN n:=xT 32 s w hs
attribute [local go_sem] zD
def sI (k:Nat)(x:U_×Bool)(last:Bool):W_:=#[ag #[i_ ((k+1:Nat)),gS ⟨x.1.toArray⟩,G x.2,G last]]
def uq:Nat->List (U_×Bool)->List (W_)
 |_,[]=> []
 |k,x::r=>sI k x r.isEmpty::uq (k+1) r
theorem VE{f}(h:l.length<=f):(JA f l).isEmpty=l.isEmpty:=by by_cases a:l= [];{subst a;rw[L2];simp};obtain⟨f,rfl⟩:∃b,f=b+1:=⟨f-1,by have:=ZC.2 a;omega⟩;rw[JA,zO a];grind
theorem M6(k)(l):(uq k l).length=l.length:=by induction l generalizing k with |nil=>rfl |cons x r a=>simp[uq,a]
theorem wV(s)(hs:s.length<=1000000000)(a):
 oW pg 78 #[p_ a 0] (uq 0 (QW s)) (λW=>W.cell? (Xd a 0 O)=E (gS ⟨s.toArray⟩)):=by
 obtain⟨b,hvs⟩:∃b,uq 0 (QW s)=b:=⟨_,rfl⟩;rw[hvs];have e:=zf hvs;intro m J a c W t a a f d;have g:=(a 0 c W d).1;have o:=zf f;refine sF func78 ntmps78 (h:=?_);gi_wp2;gi_loopw [3,4] (λr n wr=>∃(f k:Nat) (M:Nat->Prop) (a:U_),r=gS ⟨a.toArray⟩/\n=i_ ((k+1:Nat):Int)/\a.length<=f/\a.length<=1000000000/\k<=b.length/\b.length<=1000000000/\Hid (b.drop k=uq k (JA f a))/\J k M wr) (λr _ _=>Iv r);case atStart=>exact⟨_,0,c,s,rfl,rfl,zh _,hs,qo _,by rw[<-e.out,M6];exact zF (K_ _ s).1 hs,e.out.symm,d⟩
 case round=>obtain⟨f,k,M,a,rfl,rfl,_,_,_,u,g,j⟩:=hrel;by_cases e:a= [];{subst e;gi_wp2;go_end0;have d:=g.out;rw[L2]at d;have l:=List.drop_eq_nil_iff.1 d;grind};have c:a.isEmpty=false:=g_;obtain⟨f,rfl⟩:∃c,f=c+1:=⟨f-1,by have:=ZC.2 e;omega⟩;obtain⟨c,hcut⟩:∃c,kaa a [10]=c:=⟨_,rfl⟩;have i:=zf hcut;gi_wp2;refine⟨trivial,rfl,(zq.2<|WZ _ _ (by simp[ByteArray.size];omega)).mono ?_⟩;simp only[];rw[i.out];rintro q q ⟨rfl,q,rfl⟩;gi_wp2;have r:b_ _ (((((wr.alloc<|cl #[i_<|(k)+1,gS ⟨#[]⟩,G false,G false] 115).drewN q).setCell _<|gS ⟨c.1.toArray⟩).setCell _<|G c.2.2).setCell _<|G c.2.1.isEmpty):=(((Below.drawn ((qf _ _).alloc (zh _) _) q).setCell (p:=(y_ _ 1)) (zh _) _).setCell (p:=(y_ _ 2)) (zh _) _).setCell (p:=(y_ _ 3)) (zh _) _;have d:=g.out;have g:=i.out;rw[JA,zO e,g,uq]at d;(have i:b[k]? =E (sI k (c.1,c.2.2) (JA f c.2.1).isEmpty):=by have:=qm (λm=>m[0]?) d;simpa using this);(have q:b.drop (k+1)=uq (k+1) (JA f c.2.1):=by have:=qm List.tail d;simpa using this);have l:=(zo.1 i).1;have m:=zf q;have d:=Ef 10 a;rw[g]at d;(have b:c.2.1.length<a.length:=by by_cases b:c.2.2=true;{grind};have:=Lw (by rw[g];simpa using b);rw[g]at this;rw[this];exact ZC.2 e);rw[VE om]at i;refine jr (o.out k _ _ _ i<|t _ _ _ _ j<|zn.eX r) ?_ ?_;{rintro d ⟨_,b,a,_⟩;gi_wp2;go_roundw;(case rel=>exact⟨f,_,b,_,rfl,sp,om,om,om,u,m,a⟩);case measure=>simp[Iv,ByteArray.size];omega};intro d a;gi_wp2;refine zH (qI rfl _ _ _) rfl ?_;grind
def GR:Value->Nat|G true=>1|_=>0
theorem zqw(l:U_):(kab l.toArray).size=l.length:=by simp[ByteArray.size]
def EK (x:U_):W_:=#[gS ⟨x.toArray⟩]
theorem Uy(s)(hs:s.length<=1000000000)(t):
 oW pg 229 #[p_ t 0] ((Zb s).map EK) (λW=>W.cell? (Xd t 0 O)=E (gS ⟨s.toArray⟩)):=by
 obtain⟨b,hvs⟩:∃b,(Zb s).map EK=b:=⟨_,rfl⟩;rw[hvs];have a2:=zf hvs;intro A J Jx l W v a4 T U u;have hc:=(T 0 l W u).1;have F:=zf U;have C:Hid (∃c,kaa s [32]=c):=⟨_,rfl⟩;obtain⟨L,X⟩:=C.out;have o:=zf X;refine sF func229 ntmps229 (h:=?_);gi_wp2;refine⟨trivial,rfl,(zq.2<|T0 _ _ (by simp[ByteArray.size];omega)).mono ?_⟩;simp only[];rw[o.out];rintro N w1 ⟨rfl,q,rfl⟩;gi_wp2;have a0:=v _ _ _ _ u<|zn.drewN _ _ q;gi_loopw [3,4,5] (λK m c wr=>∃(f k:Nat) (M:Nat->Prop) (e:U_) (d:U_×U_×Bool),K=gS ⟨d.1.toArray⟩/\m=gS ⟨d.2.1.toArray⟩/\c=G d.2.2/\Hid (kaa e [32]=d)/\e.length<=f/\e.length<=1000000000/\Hid (b.drop k=(ri (f+1) e).map EK)/\J k M wr) (λ_ m c _=>Iv m+GR c);case atStart=>exact⟨_,0,l,s,L,rfl,rfl,rfl,o,zh _,hs,a2.out.symm,a0⟩
 case round=>obtain⟨f,k,M,e,d,rfl,rfl,rfl,g,_,_,D,hj⟩:=hrel;have a:=D.out;have x:=g.out;rw[ri,x,Zk]at a;(have z:b[k]? =E (EK d.1):=by have:=qm (λA=>A[0]?) a;simpa using this);(have Y:b.drop (k+1)=(if d.2.2=true then ri f d.2.1 else []).map EK:=by have:=qm List.tail a;simpa using this);have a1:=(zo.1 z).1;have p:=zf Y;have y:=Ef 32 e;rw[x]at y;gi_wp2;refine jr (F.out k _ _ _ z hj) ?_ ?_;{rintro I ⟨_,r,j,_⟩;by_cases i:d.2.2=true;{rw[zQ i]at y;obtain⟨f,rfl⟩:∃S,f=S+1:=⟨f-1,om⟩;have a:=p.out;rw[zQ i]at a;have B:=zf a;obtain⟨c,hcut⟩:∃c,kaa d.2.1 [32]=c:=⟨_,rfl⟩;have g:=zf hcut;gi_wp2;refine⟨trivial,rfl,(zq.2<|T0 _ _ (by simp[ByteArray.size];omega)).mono ?_⟩;simp only[];rw[g.out];rintro N w1 ⟨rfl,q,rfl⟩;gi_wp2;go_roundw;(case rel=>exact⟨f,_,r,_,c,rfl,rfl,rfl,g,om,om,B,v _ _ _ _ j<|zn.drewN _ _ q⟩);case measure=>have:=Ef 32 d.2.1;rw[g.out]at this;(have Q:GR (G c.2.2)=if c.2.2=true then 1 else 0:=by cases c.2.2<;>rfl);(have R:GR (G d.2.2)=1:=by rw[i];rfl);simp[Iv,Q,R,zqw];omega};(have a3:d.2.2=false:=by simpa using i);gi_wp2;go_end0;have a:=p.out;rw[zO i]at a;have hl:=List.drop_eq_nil_iff.1 am;grind};intro I j;gi_wp2;go_end0;grind
theorem Bx(s)(w):
 C_ 41 #[gS s] w λe w'=>e=Xa (.func (.func 78) #[] #[p_ w.heap.size 0])/\w'=w.alloc (cl #[gS s] 9):=by go_enter func41,ntmps41;go_wp2;go_ret;simp
theorem UR(s)(w):
 C_ 171 #[gS s] w λe w'=>e=Xa (.func (.func 229) #[] #[p_ w.heap.size 0])/\w'=w.alloc (cl #[gS s] 9):=by go_enter func171,ntmps171;go_wp2;go_ret;simp
end
section
theorem XO {z}{n:Nat}(h:0<=z):(z%(n:Int)).toNat=z.natAbs%n:=by grind
theorem zqz {z}{n:Nat}(a:n≠0)(h:z<0):(z%(n:Int)).toNat=if z.natAbs%n=0 then 0 else n-z.natAbs%n:=by have hm:=Jz z.natAbs n;have a:=Z0 z.natAbs (show 0<n by omega);generalize z.natAbs/n=q at hm;generalize a:z.natAbs%n=r at *;have b:z=-((n:Int)*q+r):=om;by_cases a:r=0;{simp_all};rw[zO a,b];have:-((n)*q+r)=((n)-r)+(n:Int)*(-q-1):=g_;rw[this,Int.add_mul_emod_self_left,Int.emod_eq_of_lt om om];omega
theorem TY (K)(a:K<=1073741822)(d:Bh K)(w)(x v)(z)(n)(h:zy w x z)(k:fe w v n)(o:n≠0)(q:z.natAbs<4294967296^K)(g:n<4294967296^K):
 C_ 128 #[x,v] w λe w'=>∃s,e=Xa s/\fe w' s (z%(n)).toNat/\b_ w w':=by obtain⟨a,b,l,c,rfl,p,f⟩:=h.parts;have m:=Xm w (G a) (V b l c) 88;have i:b_ w (w.alloc<|cl #[G a,V b l c] 88):=(qf _ _).alloc (zh _) _;have j:z.natAbs%n<n:=Z0 _ om;go_enter func128,ntmps128;go_wp2_with fail;refine(d _ _ _ _ n (p.alloc _) (k.alloc _) q g).mono ?_;rintro e l ⟨s,r,rfl,_,b,d⟩;obtain⟨_,_,_,_,_⟩:=m.below d;have c:=i.trans<|d.mono i.size;clear d;cases a with |false=>(have d:0<=z:=by have:=f.out;simp at this;omega);have a:=zf<|XO (n:=n) d;go_wp2;exact zH (by simp[results,results128,go_sem]) rfl ⟨r,rfl,g_,c⟩ |true=>(have d:z<0:=by have:=f.out;simp at this;omega);have a:=zqz o d;by_cases d:z.natAbs%n=0;{rw[zQ d]at a;have f:=zf a;clear a;rw[d]at b;go_wp2_with fail;refine(JR _ _ b).mono ?_;rintro e i ⟨rfl,rfl⟩;go_wp2;exact zH (by simp[results,results128,go_sem]) rfl ⟨r,rfl,by rw[f.out];exact b,c⟩};rw[zO d]at a;have f:=zf a;clear a;go_wp2_with fail;refine(jW _ _ _ b d).mono<|fB ?_;go_wp2_with fail;refine(OW _ _ _ n _ K (k.below c) b g (EZ j g) om).mono<|eP λa y b a=>?_;go_wp2;exact zH (by simp[results,results128,go_sem]) rfl ⟨y,rfl,by rw[f.out];simpa[Nat.sub_eq_zero_of_le<|vK j]using b,c.trans<|a.mono c.size⟩
section
variable {P:Program} (w:World)
theorem zoB (base)(t u ty e)(i)(ht:P.underlying t=some (.slice e))(hu:P.underlying u=some .string)(hi:P.info? e=some i)(hz:i.zero=some (.int .u8 0))
 (hsize:i.size=1) (hby:i.bytes=1) (v) (n) (xs) (hown:w.ownsRowF base e 1 v n xs) (s)
 (h63:n+s.size<=maxLen) (hbytes:n+s.size<=140737488355328) (hn4:v= .slice none 0 0->s.size=0->∀v' w',(Builtin.append_ #[t,u] ty #[v,.string s]).run P w= .ok v' w'->v'= .slice none 0 0) {v'} {w'}
 (hr:(Builtin.append_ #[t,u] ty #[v,.string s]).run P w= .ok v' w'):∀g,v'.ownBlock=some g->v.ownBlock=some g\/g=w.heap.size:=by intro g' hg';have hsmall:n+s.size<=9223372036854775807:=om;rcases hown.2 with ⟨rfl,rfl⟩|⟨g,cap,cur,fz,rfl,Ey,hg,hfz,hnc,hcm,hcs,htake⟩;{by_cases h0:s.size=0;{grind};have hr2:=run_append_nil_string w t u ty e i (.int .u8 0) ht hu hi hz s om om g_;rw[hr2]at hr;simp only[J1]at hr;obtain⟨rfl,rfl⟩:=hr;simp[kaj]at hg';omega};have hxl:xs.length=n:=g_;by_cases hroom:n+s.size<=cap;{have hcs':cur.size=cap:=om;have hr2:=Lib.run_append_room_stringF w t u ty e i ht hu hi hsize g n _ _ _ hg om s hroom om;rw[hr2]at hr;simp only[J1]at hr;obtain⟨rfl,rfl⟩:=hr;exact kai hg'};have holds:=hown.cells (g:=g) rfl;have hr2:=Lib.run_append_grow_string w t u ty e i (.int .u8 0) ht hu hi hz ⟨g,0,_⟩ n cap _ g_ holds s om om (by rw[hby];exact growslice_fits om om);rw[hr2]at hr;simp only[J1]at hr;obtain⟨rfl,rfl⟩:=hr;simp[kaj]at hg';omega
theorem zfC {ops}{rest}{o}{a}{Q}(La:o.guard=none)(sl x)(t u)
 (ho:o.op= .call { callee:= .builtin .append,args:=#[sl,x],argTypes:=#[t,u] })
 (base) (e) (i) (ht:P.underlying t=some (.slice e)) (hu:P.underlying u=some .string) (hi:P.info? e=some i) (hz:i.zero=some (.int .u8 0))
 (hsize:i.size=1) (hby:i.bytes=1)
 (v) (n) (xs) (hs:a.eval sl=v) (hown:w.ownsRowF base e 1 v n xs) (s) (hx:a.eval x= .string s)
 (h63:n+s.size<=maxLen) (hbytes:n+s.size<=140737488355328) (hbase:base<=w.heap.size)
 (h:∀v' w',w'.ownsRowF base e 1 v' (n+s.size) (xs++Lib.strCells s)->w.grownBy w' v.ownBlock->(∀g,v'.ownBlock=some g->v.ownBlock=some g\/g=w.heap.size)->wpList P ops Q rest (a.put o.dst v') w'):wpList P ops Q (o::rest) a w:=by refine wpList_plain La λK hK=>?_;obtain⟨v',w',hr,h2,h3,h4⟩:=Lib.run_append_own_stringF w _ t u o.type e i ht hu hi hz hsize hby v n _ hown s h63 hbytes hbase;have h5:=zoB w _ t u _ e i ht hu hi hz hsize hby v n _ hown s h63 hbytes (λe1 e2 v2 w2 hr2=>g_) hr;unfold Oper.wp execOp;simp only[ho,resolve,invoke,builtin,Sem.run_bind,Sem.run_pure,Result.andThen_ok,List.map_toArray,Zk,MA,hs,hx,hr];exact hK _ _ (h _ _ h2 h3 h5)
end
variable {A:H}{B a:Nat}{nu:U_}{v:Value}
def Bd (B tb:Nat)(nu:U_)(v:Value)(A:H):Prop:=
 B<=tb/\(∃p,(p=pn O\/p=p_ tb 0)/\A.heap[tb]? =E (cl #[p,v] 248 (0,0)))/\A.ownsRowF B 5 1 v (kar nu).length (kar nu)/\v.ownBlock≠E tb
theorem Bd.eL{C}{A'}(h:Bd B a nu v A)(d:zn C A A'):Bd B a nu v A':=by obtain⟨a,⟨p,c,b⟩,j,e⟩:=h;refine⟨a,⟨p,c,(d.pX b rfl).trans b⟩,?_,e⟩;obtain⟨b,a|⟨i,e,f,g,m,k,c,l⟩⟩:=j;{exact⟨b,kai a⟩};exact⟨b,kac ⟨i,e,f,g,m,k,(d.pX c rfl).trans c,l⟩⟩
theorem Bd.below{A'}(h:Bd B a nu v A)(hb:b_ A A'):Bd B a nu v A':=h.eL (zn.eX (B:=0) hb)
theorem Bd.lt(h:Bd B a nu v A):a<A.heap.size/\∀g,v.ownBlock=E g->B<=g/\g<A.heap.size:=by obtain⟨_,⟨_,_,a⟩,b,_⟩:=h;exact⟨Jw a,λg a=>b.lt g a⟩
theorem Bd.is(h:Bd B a nu v A):Lib.IsBuilderF 248 5 B a (kar nu) A:=by obtain⟨a,⟨_,e,b⟩,c,d⟩:=h;rcases e with rfl|rfl;{exact kai ⟨a,v,b,c,d⟩};exact kac ⟨a,v,b,c,d⟩
theorem U7(B a)(nu)(v)(s)(w)(h:Bd B a nu v w)(h1:nu.length+s.length<=140737488355328)(a7:B<=w.heap.size):
 C_ 144 #[p_ a 0,gS ⟨s.toArray⟩] w λe w'=>(∃k,e=Xa (tp #[i_ k,.nilIface]))/\∃x,Bd B a (nu++s) x w'/\Below B w w'/\Wr (λk=>k=a\/v.ownBlock=E k) w w'/\∀g,x.ownBlock=E g->v.ownBlock=E g\/w.heap.size<=g:=by
 obtain⟨i0,hi,a4,a5,a6⟩:=Zn Tryz.EW;have a8:=h.lt.1;obtain⟨y,⟨Q,M,i⟩,I,F⟩:=h;have J:(kar nu).length=nu.length:=by simp[kar]
 have N:=Ia s;have S:=zf<|LC nu s;obtain⟨b,hw1,hbk1,hwr1⟩:∃b,(Q=p_ a 0/\b=w\/Q=pn O/\b=w.setCell (Xd a 0 O) (p_ a 0))/\b.heap[a]? =E (cl #[p_ a 0,v] 248 (0,0))/\Wr (λk=>k=a\/v.ownBlock=E k) w b:=by rcases M with rfl|rfl;{refine⟨_,kac ⟨rfl,rfl⟩,?_,Xs (Xk _ _) (kai rfl) _⟩;simp only[kas,Mv,yq,i,qY];rfl};exact⟨w,kai ⟨rfl,rfl⟩,i,Xk _ _⟩
 have L:b.ownsRowF B 5 1 v (kar nu).length (kar nu):=by rcases hw1 with ⟨_,rfl⟩|⟨_,rfl⟩;{exact I};obtain⟨l,h1|⟨g,f,p,q,c,m,A,D⟩⟩:=I;{exact⟨l,kai h1⟩};refine⟨l,kac ⟨g,f,p,q,c,m,(qC _ _ _ _ λe=>F g_).trans A,D⟩⟩
 have a9:b.heap.size=w.heap.size:=by rcases hw1 with ⟨_,rfl⟩|⟨_,rfl⟩<;>simp
 have a0:Below B w b:=by rcases hw1 with ⟨_,rfl⟩|⟨_,rfl⟩;{exact qf _ _};exact(qf _ _).setCell y _
 have U:Hid (C_ 204 #[p_ a 0] w λe w'=>e=Xa (tp #[])/\w'=b):=by rcases hw1 with ⟨rfl,rfl⟩|⟨rfl,rfl⟩;{exact T_ a b<|ze _ _ _ _ _ _ i};exact UM a w (ze _ _ _ _ _ _ i) (by simp[World.shape?,i]) (ZK _ _ _ _ _ i)
 clear hw1 i I M;have c0:b.cell? (Xd a 0 O)=E (p_ a 0):=ze _ _ _ _ _ _ hbk1;have c1:b.cell? (Xd a 1 O)=E v:=ze _ _ _ _ _ _ hbk1;go_enter func144,ntmps144;go_wp2_with fail;refine U.out.mono ?_;rintro e R ⟨rfl,rfl⟩;go_wp2_with (at_builtin;refine zfC _ rfl _ _ _ 9 rfl B 5 _ underlying54 underlying9 hi a4 a5 a6 _ _ _ rfl L ⟨_⟩ rfl ?c3 ?c4 ?c5 ?_);case c3=>rw[J,N];unfold maxLen;omega
 case c4=>omega
 case c5=>omega
 intro x j t d z;have a3:a<R.heap.size:=om;have r:j.heap[a]? =E (cl #[p_ a 0,v] 248 (0,0)):=by rw[d.block a a3 λe=>F e.symm];exact hbk1
 have d0:j.cell? (Xd a 0 O)=E (p_ a 0):=ze _ _ _ _ _ _ r;have d1:j.cell? (Xd a 1 O)=E v:=ze _ _ _ _ _ _ r;have f1:j.frozen? (Xd a 1 O)=false:=ZK _ _ _ _ _ r;obtain⟨o,u,f,rfl⟩:∃o u f,x=V o u f:=by rcases t.2 with ⟨c,_⟩|⟨g,f,p,q,c,_⟩;{grind};grind
 have a1:Wr (λk=>k=a\/v.ownBlock=E k) R j:=⟨d.os,d.tape,d.output,d.size,λk C e=>d.block k C λX=>e<|kac X.symm⟩;have Y:∀g,(V o u f).ownBlock=E g->v.ownBlock=E g\/w.heap.size<=g:=λg m=>(z g m).imp id λe=>om;have K:(V o u f).ownBlock≠E a:=λe=>g_;have Z:=a0.grown d om λk C=>(L.lt k C).1;rw[S.out]at t;have a2:nu.length+s.length=(kar<|nu++s).length:=by simp[kar]
 rw[a2]at t;clear z d;go_wp2;go_ret2;refine⟨⟨_,rfl⟩,_,⟨y,⟨_,kac rfl,?_⟩,?_,K⟩,Z.setCell y _,Xs (hwr1.trans a1) (kai rfl) _,Y⟩;{simp only[kas,Mv,yq,r,qY];rfl};obtain⟨l,h1|⟨g,W,p,q,c,m,A,D⟩⟩:=t;{exact⟨l,kai h1⟩};exact⟨l,kac ⟨g,W,p,q,c,m,(qC _ _ _ _ λe=>K g_).trans A,D⟩⟩
end
namespace T
theorem Vs {n K}(h:n<10000^K):(kad n).length<=4*K+1:=DH (4*K+1) _ (by rw[NP]at h;exact zK h<|ZD om om) om
theorem WE {p}{q K}(a:p.natAbs<10000^K)(b:q<10000^K):(jL p q).length<=8*K+4:=by
 have c:=Vs a;have a:=Vs b;have a:(kae p).length<=4*K+2:=by unfold kae;split;{grind};grind
 unfold jL;grind
def D0 (c:UInt8):Nat:=if 49<=c.toNat/\c.toNat<=52 then c.toNat-48 else 0
def iB (ls:List (U_)):Nat:=if ls.length=2/\ls.getD 0 []= [118,97,114,115]/\(ls.getD 1 []).length=1 then D0 ((ls.getD 1 []).getD 0 0)else 0
theorem Et (c):D0 c<=4:=by unfold D0;split<;>omega
end T
structure qF where
 n:Nat
 mx:L_
 rg:List (Int×Int)
 rows:List (L_×U_×Int)
def qF.none:qF:=⟨0,[],[],[]⟩
def vi:U_:= [109,97,120]
def Je:U_:= [114,97,110,103,101]
def JX:U_:= [114,111,119]
def vo:U_:= [118,97,114,115]
def kU (l:U_):Bool:=T.lK (kag l [45]) 40
def jD (i:Nat)(p:qF)(ws:List (U_)):Option qF:=
 if i=0 then(if T.iB ws=0 then .none else E ⟨T.iB ws,[],[],[]⟩)
 else if i=1 then(if ws.length=p.n+1/\ws.getD 0 []=vi/\(ws.drop 1).all kU=true then E { p with mx:=(ws.drop 1).map T.wZ } else .none)
 else if i<=1+p.n then(if ws.length=3/\ws.getD 0 []=Je/\(ws.drop 1).all kU=true then E { p with rg:=p.rg ++ [(T.wZ (ws.getD 1 []),T.wZ (ws.getD 2 []))] } else .none)
 else(if p.rows.length<6/\ws.length=p.n+3/\ws.getD 0 []=JX/\((ws.drop 1).take p.n).all kU=true/\jO (ws.getD (p.n+1) [])=true/\kU (ws.getD (p.n+2) [])=true
  then E { p with rows:=p.rows ++ [(((ws.drop 1).take p.n).map T.wZ,ws.getD (p.n+1) [],T.wZ (ws.getD (p.n+2) []))] } else .none)
def ju:Nat->qF->List (U_×Bool)->Except Nat qF
 |_,p,[]=> .ok p
 |i,p,l::r=>if l.2=false then .error (i+1)else match jD i p (Zb l.1)with
  |.none=> .error (i+1)
  |some q=>ju (i+1) q r
def tI:Nat->List (Int×Int)->Option Nat
 |_,[]=> .none
 |i,r::rs=>if 7<r.2-r.1 then E i else tI (i+1) rs
def QF (zs:L_):U_:=zs.flatMap λz=>32::kae z
def yI (r:Int×Int):U_:=Je++QF [r.1,r.2] ++ [10]
def tR (r:L_×U_×Int):U_:=JX++QF r.1++32::r.2.1++QF [r.2.2] ++ [10]
def CP (p:qF):U_:=
 vo++32::kae (p.n) ++ [10]++(vi++QF p.mx ++ [10])++p.rg.flatMap yI++p.rows.flatMap tR
namespace T
variable {a:List (List Value)}{size:Nat}{v:Value}{w:H}
theorem Ak{w':H}{B e n:Nat}{xs}(h:w.ownsRow B e size v n xs)(hs:w.heap.size<=w'.heap.size)(p:∀g,v.ownBlock=E g->w'.heap[g]? =w.heap[g]?):w'.ownsRow B e size v n xs:=by obtain⟨a,f|⟨g,c,d,b,l,m,o,i,j,k⟩⟩:=h;{exact⟨a,kai f⟩};exact⟨a,kac ⟨g,c,d,b,l,(p g (by rw[b];rfl)).trans m,o,i,j,k⟩⟩
def kB (w:H)(v:Value)(size:Nat)(gz:List (List Value)):Prop:=
 (v=V_/\gz= [])\/∃g off cap,v=V (E (Xd g off O)) gz.length cap/\gz.length<=cap/\g<w.heap.size/\∀i cs,gz[i]? =E cs->∀j u,cs[j]? =E u->w.cell? ⟨g,off+i*size+j,O⟩=E u
theorem kB.shape(h:kB w v size a):∃b cap,v=V b a.length cap:=by rcases h with ⟨rfl,rfl⟩|⟨_,off,cap,rfl,_⟩;{simp};grind
theorem kB.at{b:A_}{l cap}(h:kB w (V b l cap) size a)(d:a≠ []):∃g off,b=E (Xd g off O)/\g<w.heap.size/\∀i cs,a[i]? =E cs->∀j u,cs[j]? =E u->w.cell? ⟨g,off+i*size+j,O⟩=E u:=by rcases h with ⟨_,rfl⟩|⟨g,off,_,a,_,b,c⟩;{grind};grind
theorem iP:∀(b:List (List Value)),(∀cs∈b,cs.length=size)->∀(i j:Nat) (cs:List Value) (u:Value),b[i]? =E cs->cs[j]? =E u->b.flatten[i*size+j]? =E u
 |[],_,i,j,cs,u,a,_=>by simp at a |c::b,h,i,j,cs,u,a,d=>by have e:=h c qA;have f:=(zo.1 d).1;rw[Kf];cases i with |zero=>simp only[LX,qN]at a;subst a;rw[Nat.zero_mul,qt,zS f];exact d |succ i=>simp only[jg]at a;rw[zG (by rw[e,Zg];omega),e,show(i+1)*size+j-size=i*size+j by rw[Zg];omega];exact iP b (λx b=>h x<|qq _ b) i j cs u a d
theorem zkw:∀(a:List (List Value)),(∀cs∈a,cs.length=size)->a.flatten.length=a.length*size
 |[],_=>sp |c::a,h=>by rw[Kf,zM,h c qA,zkw a (λx b=>h x (qq _ b)),qi,Zg];omega
theorem sU{B t:Nat}{a}(h:w.ownsRow B t size v a.length a.flatten)(hs:∀cs∈a,cs.length=size):kB w v size a:=by obtain⟨_,b|⟨g,d,e,j,_,c,i,_,_,f⟩⟩:=h;{exact kai ⟨b.1,QZ b.2⟩};refine kac ⟨g,0,d,j,i,(zd.1 c).1,λi cs d j u g=>?_⟩;have b:=iP a hs i j _ u d g;have d:i*size+j<a.length*size:=g_;have a:e.toList[i*size+j]? =E u:=g_;rw[qt];refine(ze _ _ _ _ _ _ c).trans ?_;grind
theorem Aa(a)(cs:List Value):a.flatten++cs=(a ++ [cs]).flatten:=sp
def iM (l:U_):Nat×Int×Nat:=(min (ko l) 1125899906842624,mK l,sE l)
end T
section
attribute [local go_sem] zD zW qJ
structure WT where
 b:Bool
 s:S_
def WT.sv (t:WT):Value:=V t.s.1 t.s.2.1 t.s.2.2
def WT.val (t:WT):Value:=ag #[G t.b,t.sv]
def WT.cells (t:WT):List Value:= [G t.b,t.sv]
structure DP where
 r:S_
 f:T.fK
def DP.rv (t:DP):Value:=V t.r.1 t.r.2.1 t.r.2.2
def DP.val (t:DP):Value:=ag #[t.rv,G t.f.b,t.f.up,t.f.down]
def DP.cells (t:DP):List Value:= [t.rv,G t.f.b,t.f.up,t.f.down]
theorem zqB {l}(n){P}{v:W_}{W}{f g:H->Prop}
 (h:YieldAt kak 0 P l v W λe a=>(e=Xa (G true)/\f a)\/(e=Xa (G false)/\g a)):
 ∃d tmps b c,(Instr.yield l v).run P W= .ok (.round l d tmps b c) W/\
  RoundIn kak n P l d tmps b c W λe a=>∃t,e=Xa (G t)/\Hid ((t=true->f a)/\(t=false->g a)):=by obtain⟨d,tmps,b,c,g,f⟩:=XB n h;refine⟨d,_,b,c,g,f.mono ?_⟩;rintro e a (⟨rfl,a⟩|⟨rfl,a⟩);{exact⟨_,rfl,λ_=>a,λh=>g_⟩};exact⟨_,rfl,(λh=>g_),λ_=>a⟩
theorem nG:(∀(ts:List WT) (a:A_) (cap b:Nat) (r:ts.length<=1000000),Ja pg 142 #[p_ b 0] ts.length (λk v _=>∃t,ts[k]? =E t/\v=#[t.val]) (λW=>W.cell? (Xd b 0 O)=E (V a ts.length cap)/\T.kB W (V a ts.length cap) 2 (ts.map WT.cells)))/\(∀(ts:List T.fK) (a:A_) (cap b:Nat) (r:ts.length<=1000000),Ja pg 236 #[p_ b 0] ts.length (λk v _=>∃t,ts[k]? =E t/\v=#[t.val]) (λW=>W.cell? (Xd b 0 O)=E (V a ts.length cap)/\T.kB W (V a ts.length cap) 3 (ts.map T.fK.cells)))/\(∀(ts:List DP) (a:A_) (cap b:Nat) (r:ts.length<=1000000),Ja pg 268 #[p_ b 0] ts.length (λk v _=>∃t,ts[k]? =E t/\v=#[t.val]) (λW=>W.cell? (Xd b 0 O)=E (V a ts.length cap)/\T.kB W (V a ts.length cap) 4 (ts.map DP.cells))):=by refine⟨?_,?_,?_⟩;all_goals intro ts a cap b r;intro a1 K Jx u W Q a0 o A z;have R:=(o 0 u W z).1.1;have J:=zf o;have l:=zf A;(try clear A o);(first |(refine sF func236 ntmps236 (h:=?_)) |(refine sF func268 ntmps268 (h:=?_)) |(refine sF func142 ntmps142 (h:=?_)));gi_wp2;gi_loopw [7] (λs wr=>∃(k:Nat) (M:Nat->Prop),s=i_ (k:Int)/\k<=ts.length/\K k M wr/\W.heap.size<=wr.heap.size) (λs _=>ts.length-(intOf s).toNat);(case atStart=>grind);case round=>obtain⟨k,M,rfl,_,p,_⟩:=hrel;by_cases c:k<ts.length;{have i:=zg c;obtain⟨_,off,rfl,_,B⟩:=(J.out k M _ p).1.2.at (by intro y;rw[QB]at y;grind);have f:=B k _ (by rw[zR,i];rfl);(first |(have d:=zf λe g=>l.out k _ M e c ⟨_,i,rfl⟩ g) |(have d:=zf λe g=>l.out k _ M e c ⟨_,i,rfl⟩ g) |(have d:=zf λe g=>l.out k #[(DP.val ts[k])] M e c ⟨_,i,rfl⟩ g));(try clear B i);generalize ts[k]=t at *;(first |(have w:List DP:=ts;obtain⟨⟨_,_,_⟩,⟨D,⟨C,I,F⟩,⟨X,Z,Y⟩⟩⟩:=t) |(have w:List T.fK:=ts;obtain⟨D,⟨C,I,F⟩,⟨X,Z,Y⟩⟩:=t) |(have w:List WT:=ts;obtain⟨D,C,I,F⟩:=t));have j:=f 0 _ rfl;have m:=f 1 _ rfl;(try have x:=f 2 _ rfl);(try have P:=f 3 _ rfl);rw[qV]at j;(first |(simp only[DP.cells,DP.rv,T.fK.up,T.fK.down]at j m x P) |(simp only[T.fK.cells,T.fK.up,T.fK.down]at j m x) |(simp only[WT.cells,WT.sv]at j m));(first |(simp only[DP.val,DP.rv,T.fK.up,T.fK.down]at d) |(simp only[T.fK.val,T.fK.up,T.fK.down]at d) |(simp only[WT.val,WT.sv]at d));(try clear f R);gi_wp2;refine jr (d.out _<|Q _ _ _ _ p<|zn.alloc _ _ _) ?_ ?_;{rintro N ⟨U,L,q,_⟩;gi_wp2;go_roundw;(case rel=>exact⟨k+1,L,sp,c,q,by have:=U.size;simp at this;omega⟩);case measure=>simp[intOf];omega};intro N q;gi_wp2;refine zH (qI rfl _ _ _) rfl ?_;exact⟨⟨_,rfl⟩,.inr ⟨k,c,q.2⟩⟩};gi_wp2;go_end0;have S:k=ts.length:=om;subst S;exact⟨⟨_,rfl⟩,.inl ⟨M,p⟩⟩
abbrev JO:=nG.1
abbrev oJ:=nG.2.1
abbrev ow:=nG.2.2
theorem oX:(∀(a:A_) l c w,C_ 75 #[V a l c] w λe w'=>e=Xa (.func (.func 142) #[] #[p_ w.heap.size 0])/\w'=w.alloc (cl #[V a l c] 82))/\(∀(a:A_) l c w,C_ 180 #[V a l c] w λe w'=>e=Xa (.func (.func 236) #[] #[p_ w.heap.size 0])/\w'=w.alloc (cl #[V a l c] 195))/\(∀(a:A_) l c w,C_ 232 #[V a l c] w λe w'=>e=Xa (.func (.func 268) #[] #[p_ w.heap.size 0])/\w'=w.alloc (cl #[V a l c] 130)):=by refine⟨?_,?_,?_⟩;all_goals intro a l c w;(first |(go_enter func180,ntmps180) |(go_enter func232,ntmps232) |(go_enter func75,ntmps75));have a:=jR;go_wp2;go_ret;simp
abbrev OP:=oX.1
abbrev qv:=oX.2.1
abbrev pF:=oX.2.2
theorem p8:(∀(ts:List WT) (a:List WT) (p:ts.length=a.length) (c d:A_) (cap g e f:Nat) (P:ts.length<=1000000),Ja pg 198 #[p_ e 0,p_ f 0] ts.length (λk v _=>∃t s,ts[k]? =E t/\a[k]? =E s/\v=#[t.val,s.val]) (λW=>W.cell? (Xd e 0 O)=E (V c ts.length cap)/\W.cell? (Xd f 0 O)=E (V d ts.length g)/\T.kB W (V c ts.length cap) 2 (ts.map WT.cells)/\T.kB W (V d ts.length g) 2 (a.map WT.cells)))/\(∀(ts:List T.fK) (a:List WT) (p:ts.length=a.length) (c d:A_) (cap g e f:Nat) (P:ts.length<=1000000),Ja pg 271 #[p_ e 0,p_ f 0] ts.length (λk v _=>∃t s,ts[k]? =E t/\a[k]? =E s/\v=#[t.val,s.val]) (λW=>W.cell? (Xd e 0 O)=E (V c ts.length cap)/\W.cell? (Xd f 0 O)=E (V d ts.length g)/\T.kB W (V c ts.length cap) 3 (ts.map T.fK.cells)/\T.kB W (V d ts.length g) 2 (a.map WT.cells))):=by refine⟨?_,?_⟩;all_goals intro ts a p c d cap g e f P;intro a4 Y Jx C W hJ a3 u K I;obtain⟨hc,a0,-,-⟩:=(u 0 C W I).1;have U:=zf u;have B:=zf K;have X:=zf p;have hm:Tryz.prog.follows .mixedOrders=true:=kr;(try clear K u p);(first |(refine sF func271 ntmps271 (h:=?_)) |(refine sF func198 ntmps198 (h:=?_)));gi_wp2;gi_loopw [10] (λA wr=>∃(k:Nat) (M:Nat->Prop),A=i_ (k:Int)/\k<=ts.length/\Y k M wr/\W.heap.size<=wr.heap.size) (λA _=>ts.length-(intOf A).toNat);(case atStart=>grind);case round=>obtain⟨k,M,rfl,_,x,_⟩:=hrel;by_cases b:k<ts.length;{have o:=zg b;(have z:k<a.length:=by have:=X.out;omega);have m:=zg z;obtain⟨_,_,R,S⟩:=(U.out k M _ x).1;obtain⟨_,off,rfl,_,L⟩:=R.at (by intro i;rw[QB]at i;rw[i]at b;simp at b);obtain⟨_,_,rfl,_,N⟩:=S.at (by intro i;rw[QB]at i;rw[i]at z;simp at z);have l:=L k _ (by rw[zR,o];rfl);have w:=N k _ (by rw[zR,m];rfl);(first |(have j:=zf λq y=>B.out k #[(T.fK.val ts[k]),(WT.val a[k])] M q b ⟨_,_,o,m,rfl⟩ y) |(have j:=zf λq y=>B.out k #[(WT.val ts[k]),(WT.val a[k])] M q b ⟨_,_,o,m,rfl⟩ y));(try clear L o N m R S);generalize ts[k]=t at *;generalize a[k]=s at *;(first |(have _f:List T.fK:=ts;obtain⟨tb,⟨ta,tl,tc⟩,⟨_,_,_⟩⟩:=t) |(have _f:=ts;obtain⟨tb,ta,tl,tc⟩:=t));obtain⟨_,_,_,_⟩:=s;have r:=l 0 _ rfl;have D:=l 1 _ rfl;(try have c2:=l 2 _ rfl);rw[qV]at r;(first |(simp only[T.fK.cells,T.fK.up,T.fK.down]at r D c2) |(simp only[WT.cells,WT.sv]at r D));have F:=w 0 _ rfl;have d1:=w 1 _ rfl;rw[qV]at F;simp only[WT.cells,WT.sv]at F d1;(first |(simp only[T.fK.val,T.fK.up,T.fK.down,WT.val,WT.sv]at j) |(simp only[WT.val,WT.sv]at j));(try clear l w hc a0);obtain⟨_,_,_,_,hy,J⟩:=zqB 0<|j.out _<|hJ _ _ _ _ x<|zn.drew _ _;(try clear j);gi_wp2;gi_region_with_o (refine J.mono<|gP λW3 t Q=>?_);(all_goals clear J hy);(all_goals gi_wp2);(all_goals (rename_i ht;cases t<;>simp at ht));all_goals first |exact zH (qI rfl _ _ _) rfl ⟨⟨_,rfl⟩,.inr ⟨k,b,(Q.out.2 rfl).2⟩⟩ |(obtain⟨a2,Z,a1,_⟩:=Q.out.1 rfl;go_roundw;(case rel=>exact⟨_,Z,sp,b,a1,by have:=a2.size;simp at this;omega⟩);case measure=>simp[intOf];omega)};gi_wp2;go_end0;grind
abbrev Ic:=p8.1
abbrev sY:=p8.2
theorem sJ:(∀(a b:A_) l c d c' w,C_ 135 #[V a l c,V b d c'] w λe w'=>e=Xa (.func (.func 198) #[] #[p_ w.heap.size 0,p_ (w.heap.size+1) 0])/\w'=(w.alloc (cl #[V a l c] 82)).alloc (cl #[V b d c'] 82))/\(∀(a b:A_) l c d c' w,C_ 235 #[V a l c,V b d c'] w λe w'=>e=Xa (.func (.func 271) #[] #[p_ w.heap.size 0,p_ (w.heap.size+1) 0])/\w'=(w.alloc (cl #[V a l c] 195)).alloc (cl #[V b d c'] 82)):=by refine⟨?_,?_⟩;all_goals intro a b l c d c' w;(first |(go_enter func235,ntmps235) |(go_enter func135,ntmps135));have a:=jR;go_wp2;go_ret;simp
abbrev Kz:=sJ.1
abbrev uY:=sJ.2
end
namespace T
theorem xb {l}{k}(h:lK l k=true):∀c∈l,c≠47:=by intro c b e;subst e;unfold lK at h;simp only[Qj,Z9]at h;have a:=h.2.2;unfold Qm at a;rw[Zi]at a;have:=a _ b;revert this;decide
theorem BP {l:U_}{c}(a:c∈l)(d:c≠45):c∈kag l [45]:=by unfold kag;split;{rename_i b;cases l with |nil=>grind |cons x r=>(have e:x=45:=by simp[kam,List.isPrefixOf]at b;first|grind|exact b);grind};omega
theorem D4 (l):KW l=kU l:=by unfold kU;by_cases h:∀c∈l,c≠47;{unfold KW;rw[(Ev h).2.2.2,wz h,Ca]};(have a:KW l=false:=by unfold KW;rw[J2 h,Bool.false_and]);rw[a];cases hd:lK (kag l [45]) 40 with |false=>rfl |true=>exfalso;apply h;intro c a e;exact xb hd c (BP a g_) e
theorem all_map (a:List ByteArray):(a.map λl=>l.data.toList).all kU=a.all λl=>KW l.data.toList:=by induction a with |nil=>rfl |cons x r a=>simp only[Zk,List.all_cons,a,D4]
end T
section
variable {D M R c n:Nat}{a:Int×Nat}{rows:R_}
def fQ (z:Int)(n:Nat):Int×Nat:=(z/(R8 z.natAbs n),n/R8 z.natAbs n)
def iH (a b:Int×Nat):Int×Nat:=fQ (a.1*b.2+b.1*a.2) (a.2*b.2)
def gN (a b:Int×Nat):Int×Nat:=fQ (a.1*b.1) (a.2*b.2)
structure Sz (M D:Nat)(a:Int×Nat):Prop where
 pos:0<a.2
 up:a.1.natAbs<=M*a.2
 down:a.2<=D
theorem Sz.num(h:Sz M D a):a.1.natAbs<=M*D:=zF h.up (Zr _ h.down)
theorem Sz.mono{b}(h:Sz M D a)(e:M<=c)(d:D<=b):Sz c b a:=⟨h.pos,zF h.up<|zZ _ e,zF h.down d⟩
theorem xO{z}(b:0<n)(h:z.natAbs<=M*n)(c:n<=D):Sz M D (fQ z n):=by
 have f:0<R8 z.natAbs n:=Nat.gcd_pos_of_pos_right _ b;have a:R8 z.natAbs n ∣ n:=wv _ _;have g:R8 _ n ∣ z.natAbs:=vq _ _;have e:(z/(R8 z.natAbs n:Int)).natAbs=z.natAbs/R8 z.natAbs n:=by have d:=BV.2 g;rw[Int.natAbs_ediv_of_dvd d,Q9]
 refine⟨Nat.div_pos (Bl b a) f,?_,zF (xR _ _) c⟩;show(z/(R8 _ n)).natAbs<=M*(n/R8 _ n);rw[e,<-Nat.mul_div_assoc _ a];exact Nat.div_le_div_right h
theorem DK{e}{b}(d:Sz M D a)(hb:Sz c e b):Sz (M+c) (D*e) (iH a b):=by
 refine xO (QE d.pos hb.pos) ?_<|Z7 d.down hb.down;have e:(a.1*(b.2:Int)).natAbs<=M*a.2*b.2:=by rw[sn,Q9];exact zZ _ d.up
 have d:(b.1*(a.2:Int)).natAbs<=c*b.2*a.2:=by rw[sn,Q9];exact zZ _ hb.up
 grind
theorem Dy{e}{b}(d:Sz M D a)(hb:Sz c e b):Sz (M*c) (D*e) (gN a b):=by refine xO (QE d.pos hb.pos) ?_<|Z7 d.down hb.down;rw[sn];have:=Z7 d.up hb.up;grind
theorem B6{z}(h:z.natAbs<=R):Sz R 1 (z,1):=⟨Nat.one_pos,by simpa using h,zh _⟩
def ff (rows:R_):List (Nat×Int×Nat)->List (Int×Nat)×(Int×Nat)->Except Nat (List (Int×Nat)×(Int×Nat))
 |[],acc=> .ok acc
 |x::r,acc=>
  if x.1<1\/rows.length<x.1 then .error 9
  else if x.2.1<=0 then .error 10
  else ff rows r (kaq (λa g=>iH a (gN (g,1) x.2)) acc.1 (rows.getD (x.1-1) ([],0)).1,iH acc.2 (gN ((rows.getD (x.1-1) ([],0)).2,1) x.2))
def nU (M D:Nat)(acc:List (Int×Nat)×(Int×Nat)):Prop:=(∀a∈acc.1,Sz M D a)/\Sz M D acc.2
def iA (n R:Nat)(rows:R_):Prop:=∀r∈rows,r.1.length=n/\(∀z∈r.1,z.natAbs<=R)/\r.2.natAbs<=R
theorem iA.get{rows}(h:iA n R rows){k}(a:¬(k<1\/rows.length<k)):(rows.getD (k-1) ([],0)).1.length=n/\(∀z∈(rows.getD (k-1) ([],0)).1,z.natAbs<=R)/\(rows.getD (k-1) ([],0)).2.natAbs<=R:=by have a:k-1<rows.length:=om;rw[zk,zg a];exact h _ (zJ a)
theorem iA.mono{a}(h:iA n R rows)(b:R<=a):iA n a rows:=λr a=>⟨(h r a).1,λz c=>zF ((h r a).2.1 z c) b,zF (h r a).2.2 b⟩
theorem uV{d e i:Type}{f}{P:i->Prop}{xs}{ys}{A:d->Prop}{B:e->Prop}(g:∀a∈xs,A a)(hb:∀b∈ys,B b)(h:∀a b,A a->B b->P (f a b)):∀c∈kaq f xs ys,P c:=by induction xs generalizing ys with |nil=>simp |cons a xs e=>cases ys with |nil=>simp |cons b ys=>intro c d;rw[List.zipWith_cons_cons,zI]at d;rcases d with rfl|d;{exact h a b (g a qA)<|hb b qA};exact e (λx e=>g x<|qq _ e) (λx e=>hb x<|qq _ e) c d
theorem CY{F d}(j:iA n R rows){x:Nat×Int×Nat}(k:Sz F d x.2)(h:¬(x.1<1\/rows.length<x.1)){b}(c:nU M D b)(i:b.1.length=n):
 nU (M+R*F) (D*d) (kaq (λa g=>iH a (gN (g,1) x.2)) b.1 (rows.getD (x.1-1) ([],0)).1,iH b.2 (gN ((rows.getD (x.1-1) ([],0)).2,1) x.2))/\(kaq (λa g=>iH a (gN (g,1) x.2)) b.1 (rows.getD (x.1-1) ([],0)).1).length=n:=by
 obtain⟨b,e,f⟩:=j.get h;have step:∀(a:Int×Nat) (g:Int),Sz M D a->g.natAbs<=R->Sz (M+R*F) (D*d) (iH a<|gN (g,1) x.2):=by intro a g c d;have:=DK c<|Dy (B6 d) k;rw[Jv]at this;exact this
 refine⟨⟨uV c.1 e step,step _ _ c.2 f⟩,?_⟩;grind
def fC (acc:List (Int×Nat)×(Int×Nat)):Option (L_×Int):=
 if acc.1.all (λa=>decide (a.2=1))=true then E (acc.1.map Prod.fst,acc.2.1/(acc.2.2))else O
