import Derived.Test.YthnopjedhcapmaaGreatDoorMvr1Z1
open Option renaming none->O,some->E
open Go.Value renaming slice->V,bool->G,pointer->pn,int->it,agg->ag
open Go.Obj renaming cells->cl
open Go renaming World->H
open Go.Proofs.Tryz renaming prog->pg
open Go.Proofs.Tryz
open Go.Ending renaming returned->Xa
open Go.IntKind renaming i64->Xb
open Go.Addr renaming mk->Xd
set_option linter.unusedSimpArgs false
set_option linter.unusedVariables false
set_option maxHeartbeats 40000000
set_option maxRecDepth 100000
namespace Go.Proofs.YthnopjedhcapmaaGreatDoor
open Go.RowKit
variable {B cap e g h i j k l m n o q s t:Nat}{a d:A_}{b c f:Bool}{p r z:Int}{u w w':H}{v x y:Value}
theorem zmZ(K:Nat)(hK:K<=1073741823)(B:zfj K)(w:H)(u v:Value)(m n:Nat)(W:NatV w u m)(X:NatV w v n)(hm:m<4294967296^K)(Q:n<4294967296^K):
 C_ 73 #[u,v] w fun e w'=>∃x,e=Xa x/\NatV w' x (Nat.gcd m n)/\b_ w w':=by
 go_enter func73,ntmps73
 go_wp2;go_loopg [0,1] n (fun y Y Z wr=>∃a,NatV wr Y a/\NatV wr Z y/\a<4294967296^K/\y<4294967296^K/\Hid (Nat.gcd a y=Nat.gcd m n)/\b_ w wr)
 case atStart=>exact⟨m,W,X,hm,Q,rfl,qf _ _⟩
 case round=>
  have⟨a,g,h,p,d,j,b⟩:=hrel;have⟨k,S,L,_,I,_⟩:=J9 g p;have⟨i,T,M,U,r,_⟩:=J9 h d;have F:=h;obtain⟨_,_,rfl,_,_⟩:=S;obtain⟨_,_,rfl,_,_⟩:=T;by_cases D:gk=0
  ·have N:=U.zero.1 om;subst N;subst D;go_wp2;go_ret;refine⟨_,rfl,?_,b⟩;rw[<-j.out,Nat.gcd_zero_right];exact g
  ·have a1:0<i.length:=ZC.2 (fun e=>D (by rw[<-r,e];rfl));by_cases J:k.length<=2/\i.length<=2
   ·have⟨A,l⟩:=J;have C:a<18446744073709551616:=by
     have f:=val_lt L;rw[I]at f;exact zK f (pow_mono A)
    have q:gk<18446744073709551616:=by
     have f:=val_lt M;rw[r]at f;exact zK f (pow_mono l)
    go_wp2_with fail
    apply(zfE _ _ a g C).mono;rintro e w1 ⟨rfl,rfl⟩;go_wp2_with fail
    apply(zfE _ _ gk h q).mono;rintro e w1 ⟨rfl,rfl⟩;go_wp2_with fail
    apply(zg7 _ a gk C q).mono;rintro e z ⟨rfl,_,rfl⟩;go_wp2_with fail
    apply(ziX _ _ (qu (Nat.gcd_le_right _ om) q)).mono;rintro e z ⟨x,rfl,s,c⟩;go_wp2;go_ret;refine⟨_,rfl,?_,b.trans ((JJ c).mono b.size)⟩;rw[<-j.out];exact s
   ·by_cases A:k.length<=2
    ·go_wp2_with fail
     apply(B _ _ _ a gk g h p d).mono;rintro e z ⟨x,a0,rfl,s,t,c⟩;go_wp2;go_roundg (a%gk)
     case measure=>exact Z0 _ om
     case rel=>exact⟨gk,F.below c,t,d,zbr (Z0 _ om) d,by rw[Hid,<-j.out,zcv gk,<-Nat.gcd_rec,zcv],b.trans (c.mono b.size)⟩
    ·go_wp2_with fail
     apply(B _ _ _ a gk g h p d).mono;rintro e z ⟨x,a0,rfl,s,t,c⟩;go_wp2;go_roundg (a%gk)
     case measure=>exact Z0 _ om
     case rel=>exact⟨gk,F.below c,t,d,zbr (Z0 _ om) d,by rw[Hid,<-j.out,zcv gk,<-Nat.gcd_rec,zcv],b.trans (c.mono b.size)⟩
theorem NatV.slice(h:NatV w v n):∃a l cap,v=V a l cap:=by
 have⟨_,⟨a,cap,b,_⟩,_⟩:=h;exact⟨a,_,cap,b⟩
theorem NatV.setCell(h:NatV w v n){a:Addr}(l:w.cell? a=E y)(g:∀k,y≠it .u32 k)(x:Value):NatV (w.setCell a x) v n:=by
 have⟨d,⟨b,c,j,f,i⟩,e⟩:=h;refine⟨d,⟨b,c,j,f,fun f=>?_⟩,e⟩;have⟨b,off,d,e,c⟩:=i f;refine⟨b,off,d,by simpa using e,fun i b=>?_⟩;rw[zA _ _ _ _ (by
  intro d;have:=c i b;rw[<-d,l,qN]at this;exact g _ this)]
 exact c i b
def zy (w:H)(x:Value)(z:Int):Prop:=∃b v,x=ag #[G b,v]/\NatV w v z.natAbs/\Hid (b=decide (z<0))
theorem zy.below(h:zy w x z)(hb:b_ w w'):zy w' x z:=by
 have⟨b,v,a,c,d⟩:=h;exact⟨b,v,a,c.below hb,d⟩
def sg (b:Bool)(n:Nat):Int:=if b then -(n:Int)else n
theorem sg_abs(b:Bool)(n:Nat):(sg b n).natAbs=n:=by cases b<;>simp[sg]
theorem sg_neg(b:Bool)(n:Nat):decide (sg b n<0)=(b && !(n == 0)):=by
 cases b;·simp[sg]
 ·by_cases h:n=0
  ·subst h;simp[sg]
  ·simp[sg,Z3 h,(ZN.2 h)]
theorem zhe(h:NatV w v n)(a:c=(b && !(n == 0))):zy w (ag #[G c,v]) (sg b n):=
 ⟨c,v,rfl,by rw[sg_abs];exact h,by rw[Hid,sg_neg];exact a⟩
theorem QJ{e:Bool}{d c:Nat}(h:NatV w v z.natAbs)(hb:Hid (b=decide (z<0)))(f:w.cell? (Xd g 0 O)=E (G e))(h1:w.cell? (Xd g 1 O)=E (V a d c)):
 zy ((w.setCell (Xd g 0 O) (G b)).setCell (Xd g 1 O) v) (ag #[G b,v]) z:=by
 refine⟨b,v,rfl,?_,hb⟩;refine(h.setCell f sp _).setCell (y:=V a d c) ?_ sp _;rw[zA _ _ _ _ sp];exact h1
theorem zy.setCell(h:zy w x z){a:Addr}(g:w.cell? a=E y)(f:∀k,y≠it .u32 k)(u:Value):zy (w.setCell a u) x z:=by
 have⟨b,v,c,d,e⟩:=h;exact⟨b,v,c,d.setCell g f u,e⟩
theorem zy.drewN(h:zy w x z)(q:Nat):zy (w.drewN q) x z:=h
theorem zy.alloc(h:zy w x z)(o:Obj):zy (w.alloc o) x z:=h.below ((qf _ _).alloc (zh _) o)
theorem zy.parts(h:zy w x z):∃b a l cap,x=ag #[G b,V a l cap]/\NatV w (V a l cap) z.natAbs/\Hid (b=decide (z<0)):=by
 have⟨b,_,d,c,e⟩:=h;obtain⟨a,l,cap,rfl⟩:=c.slice;exact⟨b,a,l,cap,d,c,e⟩
theorem Jh(w:H)(b:Bool)(v:Value)(n:Nat)(h:NatV w v n):
 C_ 66 #[G b,v] w fun e w'=>∃x,e=Xa x/\zy w' x (sg b n)/\b_ w w':=by
 obtain⟨a,l,c,rfl⟩:=h.slice;cases b with
 |false=>
  go_enter func66,ntmps66
  go_wp2;exact zH (by simp[results,results66,go_sem]) rfl ⟨_,rfl,zhe (h.alloc _) rfl,(qf _ _).alloc (zh _) _⟩
 |true=>
  by_cases d:n=0
  ·subst d;go_enter func66,ntmps66
   go_wp2_with fail
   apply(JR _ _ (h.alloc _)).mono;rintro e w' ⟨rfl,rfl⟩;go_wp2;exact zH (by simp[results,results66,go_sem]) rfl ⟨_,rfl,zhe (h.alloc _) rfl,(qf _ _).alloc (zh _) _⟩
  ·go_enter func66,ntmps66
   go_wp2_with fail
   apply(jW _ _ n (h.alloc _) d).mono;rintro e w' ⟨rfl,rfl⟩;go_wp2;exact zH (v:=ag #[G true,V a l c]) (by simp[results,results66,go_sem]) rfl ⟨_,rfl,zhe (h.alloc _) (by simp[d]),(qf _ _).alloc (zh _) _⟩
theorem zaR(w:H)(v:Value)(n:Nat)(h:NatV w v n):
 C_ 116 #[v] w fun e w'=>∃x,e=Xa x/\zy w' x (n:Int)/\b_ w w':=by
 go_enter func116,ntmps116
 go_wp2_with fail
 apply(Jh _ _ _ n (h.alloc _)).mono;rintro e w' ⟨x,rfl,b,a⟩;have c:=b;rw[show sg false n=n from rfl]at b;obtain⟨i,g,m,j,rfl,l,k⟩:=b.parts;have⟨b,c⟩:=znh a;have d:=a.size;have d:w'.cell? (y_ w 0)=E (G false):=by rw[b _ _ sp];simp
 have f:w'.cell? (y_ w 1)=E (V_):=by rw[b _ _ sp];simp
 have o:w'.frozen? (y_ w 0)=false:=by rw[c _ _ sp];simp
 simp
 go_wp2;exact zH (by simp[results,results116,go_sem,d,f]) rfl ⟨_,rfl,QJ l k d f,
  ((((qf _ _).alloc (zh _) _).trans (a.mono sp)).setCell (zh _) _).setCell (zh _) _⟩
theorem zhf(h:Hid (b=decide (z<0))):z=sg b z.natAbs:=by
 have a:=h.out;subst a;by_cases a:z<0
 ·simp[sg,a];omega
 ·simp[sg,a];omega
theorem zaA(w:H)(A B:Obj):b_ w ((w.alloc A).alloc B):=((qf _ _).alloc (zh _) _).alloc sp _
theorem zbt(w:H)(A B C:Obj):b_ w (((w.alloc A).alloc B).alloc C):=(zaA w A B).alloc so _
theorem far{p:Nat}(a:g≠h):(w.setCell (Xd g o O) x).cell? (Xd h p O)=w.cell? (Xd h p O):=
 zA _ _ _ _ (fun e=>a (by injection e))
def Zh (w:H)(g:Nat)(x y:Value):Prop:=
 w.cell? (Xd g 0 O)=E x/\w.cell? (Xd g 1 O)=E y/\w.frozen? (Xd g 0 O)=false/\w.frozen? (Xd g 1 O)=false/\g<w.heap.size
theorem Zh.below(h:Zh w g x y)(hb:b_ w w'):Zh w' g x y:=by
 have⟨b,c,d,e,a⟩:=h;exact⟨(hb.cell a).trans b,(hb.cell a).trans c,(hb.frozen a).trans d,(hb.frozen a).trans e,zK a hb.size⟩
theorem Zh.new(w:H)(x y:Value)(t:TypeId):Zh (w.alloc (cl #[x,y] t)) w.heap.size x y:=by
 refine⟨?_,?_,?_,?_,?_⟩<;>simp
abbrev Xm:=@Zh.new
theorem Zh.alloc(h:Zh w g x y)(o:Obj):Zh (w.alloc o) g x y:=h.below ((qf _ _).alloc (zh _) o)
theorem Zh.drew(h:Zh w g x y):Zh w.drew g x y:=h
theorem Zh.drewN(h:Zh w g x y)(q:Nat):Zh (w.drewN q) g x y:=h
theorem zfk(w:H)(x:Value)(z:Int)(h:zy w x z):
 C_ 72 #[x] w fun e w'=>∃v,e=Xa v/\NatV w' v z.natAbs/\b_ w w':=by
 obtain⟨_,_,_,_,rfl,a,_⟩:=h.parts;go_enter func72,ntmps72
 go_wp2;go_ret;exact⟨_,rfl,a.alloc _,(qf _ _).alloc (zh _) _⟩
theorem sign_any(w:H)(x:Value)(z:Int)(h:zy w x z):
 C_ 149 #[x] w fun e w'=>e=Xa (i_ z.sign)/\b_ w w':=by
 obtain⟨d,_,_,_,rfl,b,a⟩:=h.parts;cases d with
 |true=>
  have c:z<0:=by have:=a.out;simpa using this
  go_enter func149,ntmps149
  go_wp2;go_ret;exact⟨zaQ (by rw[Qi c]),(qf _ _).alloc (zh _) _⟩
 |false=>
  have c:¬z<0:=by have:=a.out;simpa using this
  by_cases f:z.natAbs=0
  ·have g:z=0:=om;subst g;go_enter func149,ntmps149
   go_wp2_with fail
   apply(JR _ _ (b.alloc _)).mono;rintro e w' ⟨rfl,rfl⟩;go_wp2;go_ret;exact⟨rfl,(qf _ _).alloc (zh _) _⟩
  ·go_enter func149,ntmps149
   go_wp2_with fail
   apply(jW _ _ _ (b.alloc _) f).mono;rintro e w' ⟨rfl,rfl⟩;go_wp2;go_ret;exact⟨zaQ (by rw[Qs om]),(qf _ _).alloc (zh _) _⟩
theorem zau(w:H)(x:Value)(z:Int)(h:zy w x z):
 C_ 119 #[x] w fun e w'=>∃y,e=Xa y/\zy w' y (-z)/\b_ w w':=by
 obtain⟨b,_,_,_,rfl,c,a⟩:=h.parts;have f:sg (!b) z.natAbs=-z:=by
  rw[zhf a];cases b<;>simp[sg]
 go_enter func119,ntmps119
 go_wp2_with fail
 apply(Jh _ _ _ z.natAbs ((c.alloc _).alloc _)).mono;rintro e w' ⟨y,rfl,a,c⟩;rw[f]at a;obtain⟨i,g,m,j,rfl,l,k⟩:=a.parts;have⟨d,_⟩:=znh c;have a:w'.cell? (x_ w 0)=E (G false):=by rw[d _ _ sp];simp
 have b:w'.cell? (x_ w 1)=E (V_):=by rw[d _ _ sp];simp
 go_wp2;exact zH (by simp[results,results119,go_sem,a,b]) rfl ⟨_,rfl,QJ l k a b,
  (((zaA w _ _).trans (c.mono (zaA w _ _).size)).setCell sp _).setCell sp _⟩
theorem zeF(w:H)(x y:Value)(z t:Int)(K:Nat)(X:K<=1073741823)(h:zy w x z)(k:zy w y t)(R:z.natAbs<4294967296^K)(M:t.natAbs<4294967296^K):
 C_ 113 #[x,y] w fun e w'=>∃s,e=Xa s/\zy w' s (z+t)/\b_ w w':=by
 obtain⟨b,c,l,f,rfl,N,a⟩:=h.parts;obtain⟨o,d,i,g,rfl,P,j⟩:=k.parts;have m:=zhf a;have a:=zhf j;by_cases a0:b=o
 ·subst a0;have j:sg b (z.natAbs+t.natAbs)=z+t:=by
   cases b<;>simp[sg]at *<;>omega
  have B:=zf j;have a:(b == b)=true:=sp;go_enter func113,ntmps113
  go_wp2;have W:Zh (((w.alloc (cl #[G b,V c l f] 64)).alloc (cl #[G b,V d i g] 64)).alloc (cl #[G false,V_] 64)) (w.heap.size+1+1) (G false) (V_):=by
   have:=Xm ((w.alloc (cl #[G b,V c l f] 64)).alloc (cl #[G b,V d i g] 64)) (G false) (V_) 64;simpa using this
  have q:Zh (((w.alloc (cl #[G b,V c l f] 64)).alloc (cl #[G b,V d i g] 64)).alloc (cl #[G false,V_] 64)) (w.heap.size+1) (G b) (V d i g):=by
   have:=(Xm (w.alloc (cl #[G b,V c l f] 64)) (G b) (V d i g) 64).alloc (cl #[G false,V_] 64);simpa using this
  have p:Zh (((w.alloc (cl #[G b,V c l f] 64)).alloc (cl #[G b,V d i g] 64)).alloc (cl #[G false,V_] 64)) w.heap.size (G b) (V c l f):=((Xm w _ _ _).alloc _).alloc _;have A:=zbt w (cl #[G b,V c l f] 64) (cl #[G b,V d i g] 64) (cl #[G false,V_] 64);go_region_held (fun w'=>w'.cell? (y_ w 0)=E (G b)/\w'.cell? (y_ w 1)=E (V c l f)/\w'.cell? (x_ w 1)=E (V d i g)) (first|(refine⟨?_,?_,?_⟩<;>(rw[far,far]<;>first|assumption|omega))|go_keep) (first|(go_at_call 131;refine(plus_any _ _ _ z.natAbs t.natAbs K (by exact NatV.drew (((N.alloc _).alloc _).alloc _)) (by exact NatV.drew (((P.alloc _).alloc _).alloc _)) R M X).mono ?_;rintro e T ⟨s,rfl,j,a⟩;have m:=p.drew.below a;obtain⟨_,_,_,_,_⟩:=m;have m:=q.drew.below a;obtain⟨_,_,_,_,_⟩:=m)|(go_at_call 66;refine(Jh _ _ _ _ j).mono ?_;rintro e U ⟨a1,rfl,u,m⟩;rw[B.out]at u;obtain⟨D,C,S,F,rfl,Q,I⟩:=u.parts;have r:=(p.drew.below a).below m;obtain⟨_,_,_,_,_⟩:=r;have p:=(q.drew.below a).below m;obtain⟨_,_,_,_,_⟩:=p;have L:=(W.drew.below a).below m;obtain⟨p,q,Y,Z,g0⟩:=L))
  have r:=A.trans (Below.mono (w:=((w.alloc (cl #[G b,V c l f] 64)).alloc (cl #[G b,V d i g] 64)).alloc (cl #[G false,V_] 64)) ⟨a.os,a.tape,a.output,a.size,a.block⟩ A.size);have J:=r.trans (m.mono r.size);go_wp2;exact zH (v:=ag #[G D,V C S F]) (by simp[results,results113,go_sem,p,q]) rfl ⟨_,rfl,QJ Q I p q,
   (J.setCell so _).setCell so _⟩
 ·have a2:(b == o)=false:=by simpa using a0
  have W:Zh (((w.alloc (cl #[G b,V c l f] 64)).alloc (cl #[G o,V d i g] 64)).alloc (cl #[G false,V_] 64)) (w.heap.size+1+1) (G false) (V_):=by
   have:=Xm ((w.alloc (cl #[G b,V c l f] 64)).alloc (cl #[G o,V d i g] 64)) (G false) (V_) 64;simpa using this
  have A:=zbt w (cl #[G b,V c l f] 64) (cl #[G o,V d i g] 64) (cl #[G false,V_] 64);by_cases d:z.natAbs<t.natAbs
  ·have j:sg o ((z.natAbs-t.natAbs)+(t.natAbs-z.natAbs))=z+t:=by
    cases b<;>cases o<;>simp[sg]at *<;>omega
   have B:=zf j;go_enter func113,ntmps113
   go_wp2_with fail
   refine(compare_any _ _ _ z.natAbs t.natAbs K (((N.alloc _).alloc _).alloc _) (((P.alloc _).alloc _).alloc _) R M om).mono ?_;rintro e f ⟨rfl,c,rfl⟩;rw[zcc d];go_wp2_with fail
   refine(zhd _ _ _ z.natAbs t.natAbs K (by exact NatV.drewN (((N.alloc _).alloc _).alloc _) c) (by exact NatV.drewN (((P.alloc _).alloc _).alloc _) c) R M X).mono ?_;rintro e T ⟨s,rfl,j,a⟩;go_wp2_with fail
   refine(Jh _ _ _ _ j).mono ?_;rintro e U ⟨a1,rfl,u,m⟩;rw[B.out]at u;obtain⟨D,C,S,F,rfl,Q,I⟩:=u.parts;have L:=((W.drewN c).below a).below m;have r:=A.trans ((JJ a).mono A.size);have J:=r.trans (m.mono r.size);obtain⟨p,q,Y,Z,g0⟩:=L;go_wp2;exact zH (v:=ag #[G D,V C S F]) (by simp[results,results113,go_sem,p,q]) rfl ⟨_,rfl,QJ Q I p q,
    (J.setCell so _).setCell so _⟩
  ·have j:sg b ((z.natAbs-t.natAbs)+(t.natAbs-z.natAbs))=z+t:=by
    cases b<;>cases o<;>simp[sg]at *<;>omega
   have B:=zf j;have b:0<=Jy z.natAbs t.natAbs:=by
    rcases Qc t.natAbs z.natAbs with h|h
    ·rw[zcd h];omega
    ·rw[zec om];omega
   go_enter func113,ntmps113
   go_wp2_with fail
   refine(compare_any _ _ _ z.natAbs t.natAbs K (((N.alloc _).alloc _).alloc _) (((P.alloc _).alloc _).alloc _) R M om).mono ?_;rintro e f ⟨rfl,c,rfl⟩;generalize Jy z.natAbs t.natAbs=b at *;go_wp2_with fail
   refine(zhd _ _ _ z.natAbs t.natAbs K (by exact NatV.drewN (((N.alloc _).alloc _).alloc _) c) (by exact NatV.drewN (((P.alloc _).alloc _).alloc _) c) R M X).mono ?_;rintro e T ⟨s,rfl,j,a⟩;go_wp2_with fail
   refine(Jh _ _ _ _ j).mono ?_;rintro e U ⟨a1,rfl,u,m⟩;rw[B.out]at u;obtain⟨D,C,S,F,rfl,Q,I⟩:=u.parts;have L:=((W.drewN c).below a).below m;have r:=A.trans ((JJ a).mono A.size);have J:=r.trans (m.mono r.size);obtain⟨p,q,Y,Z,g0⟩:=L;go_wp2;exact zH (v:=ag #[G D,V C S F]) (by simp[results,results113,go_sem,p,q]) rfl ⟨_,rfl,QJ Q I p q,
    (J.setCell so _).setCell so _⟩
theorem sg_mul{t:Int}(hb:Hid (b=decide (z<0)))(e:Hid (c=decide (t<0))):sg (!(b == c)) (z.natAbs*t.natAbs)=z*t:=by
 rw[(zhf hb),(zhf e)];generalize z.natAbs=m;generalize t.natAbs=n;cases b<;>cases c<;>simp[sg,Int.neg_mul,zbc]
theorem zam(w:H)(x y:Value)(z t:Int)(J K:Nat)(a:J+K<=1073741823)(h:zy w x z)(k:zy w y t)(C:z.natAbs<4294967296^J)(r:t.natAbs<4294967296^K):
 C_ 115 #[x,y] w fun e w'=>∃s,e=Xa s/\zy w' s (z*t)/\b_ w w':=by
 obtain⟨d,b,l,g,rfl,A,a⟩:=h.parts;obtain⟨f,c,j,i,rfl,B,m⟩:=k.parts;have u:=zf (sg_mul a m);have D:Zh (((w.alloc (cl #[G d,V b l g] 64)).alloc (cl #[G f,V c j i] 64)).alloc (cl #[G false,V_] 64)) (w.heap.size+1+1) (G false) (V_):=by
  have:=Xm ((w.alloc (cl #[G d,V b l g] 64)).alloc (cl #[G f,V c j i] 64)) (G false) (V_) 64;simpa using this
 have p:Zh (((w.alloc (cl #[G d,V b l g] 64)).alloc (cl #[G f,V c j i] 64)).alloc (cl #[G false,V_] 64)) (w.heap.size+1) (G f) (V c j i):=by
  have:=(Xm (w.alloc (cl #[G d,V b l g] 64)) (G f) (V c j i) 64).alloc (cl #[G false,V_] 64);simpa using this
 have o:Zh (((w.alloc (cl #[G d,V b l g] 64)).alloc (cl #[G f,V c j i] 64)).alloc (cl #[G false,V_] 64)) w.heap.size (G d) (V b l g):=((Xm w _ _ _).alloc _).alloc _;have q:=zbt w (cl #[G d,V b l g] 64) (cl #[G f,V c j i] 64) (cl #[G false,V_] 64);go_enter func115,ntmps115
 go_wp2;go_region_held (fun w'=>w'.cell? (y_ w 0)=E (G d)/\w'.cell? (y_ w 1)=E (V b l g)/\w'.cell? (x_ w 0)=E (G f)/\w'.cell? (x_ w 1)=E (V c j i)) (first|(refine⟨?_,?_,?_,?_⟩<;>(rw[far,far]<;>first|assumption|omega))|go_keep) (first|(go_at_call 114;refine(times_any _ _ _ z.natAbs t.natAbs J K (by exact NatV.drew (((A.alloc _).alloc _).alloc _)) (by exact NatV.drew (((B.alloc _).alloc _).alloc _)) C r om).mono ?_;rintro e L ⟨s,rfl,r,a⟩;have m:=o.drew.below a;obtain⟨_,_,_,_,_⟩:=m;have m:=p.drew.below a;obtain⟨_,_,_,_,_⟩:=m)|(go_at_call 66;refine(Jh _ _ _ _ r).mono ?_;rintro e M ⟨_,rfl,r,m⟩;rw[u.out]at r;obtain⟨A,u,I,B,rfl,F,C⟩:=r.parts;have r:=(o.drew.below a).below m;obtain⟨_,_,_,_,_⟩:=r;have o:=(p.drew.below a).below m;obtain⟨_,_,_,_,_⟩:=o;have r:=(D.drew.below a).below m;obtain⟨o,p,_,_,_⟩:=r))
 have r:=q.trans (Below.mono (w:=((w.alloc (cl #[G d,V b l g] 64)).alloc (cl #[G f,V c j i] 64)).alloc (cl #[G false,V_] 64)) ⟨a.os,a.tape,a.output,a.size,a.block⟩ q.size);have a:=r.trans (m.mono r.size);go_wp2;exact zH (v:=ag #[G A,V u I B]) (by simp[results,results115,go_sem,o,p]) rfl ⟨_,rfl,QJ F C o p,
  (a.setCell so _).setCell so _⟩
theorem zjP(w:H)(n:Nat)(a:n<9223372036854775808):
 C_ 88 #[i_ (n:Nat)] w fun e w'=>∃s,e=Xa s/\zy w' s (n:Int)/\b_ w w':=by
 have d:b_ w (w.alloc (cl #[G false,V_] 64)):=(qf _ _).alloc (zh _) _;go_enter func88,ntmps88
 go_wp2_with fail
 apply(zgb _ _ n sp om).mono;rintro e f ⟨s,rfl,h,c⟩;go_wp2_with fail
 apply(Jh _ _ _ _ h).mono;rintro e r ⟨_,rfl,a,b⟩;rw[show sg false n=n from rfl]at a;obtain⟨j,i,q,k,rfl,p,l⟩:=a.parts;have o:=((Xm _ _ _ _).below c).below b;have a:=d.trans (c.mono d.size);have⟨d,f,_,_,_⟩:=o;go_wp2;exact zH (by simp[results,results88,go_sem,d,f]) rfl ⟨_,rfl,QJ p l d f,
  ((a.trans (b.mono a.size)).setCell sp _).setCell sp _⟩
theorem zoi(h:0<=z):sg false (z.natAbs/n)=z/(n:Int):=by
 obtain⟨_,rfl⟩:=Int.eq_ofNat_of_zero_le h;simp[sg]
theorem floor_neg0(b:n≠0)(h:z<0)(c:z.natAbs%n=0):sg true (z.natAbs/n)=z/(n:Int):=by
 obtain⟨m,hm⟩:∃m:Nat,z=-m:=⟨z.natAbs,om⟩;subst hm;rw[Int.natAbs_neg,Q9]at *;have a:=Jz m n;rw[c,qV]at a;simp only[sg,zbu];rw[<-a,Nat.mul_div_cancel_left _ (Z3 b)];rw[J0,<-zbc,jI _ om]
theorem floor_neg1(b:n≠0)(h:z<0)(a:z.natAbs%n≠0):sg true (z.natAbs/n+1)=z/(n:Int):=by
 obtain⟨m,hm⟩:∃m:Nat,z=-m:=⟨z.natAbs,om⟩;subst hm;rw[Int.natAbs_neg,Q9]at *;have a:=Jz m n;have c:=Z0 m (Z3 b);generalize m/n=q at *;generalize m%n=r at *;simp only[sg,zbu];have c:(-m)=n*(-((q+1:Nat):Int))+((n-r:Nat):Int):=by
  rw[<-a,zbc];have a:(n*((q+1:Nat):Int))=n*q+n:=by rw[Int.natCast_add,zbd];simp
  have b:(((n*q+r:Nat)):Int)=n*q+r:=sp;rw[a,b];omega
 rw[c,Int.mul_add_ediv_left _ _ om];rw[Int.ediv_eq_zero_of_lt om om,Int.add_zero]
theorem zdb(K:Nat)(a:K<=1073741822)(J:zfj K)(w:H)(x v:Value)(z:Int)(n:Nat)(h:zy w x z)(N:NatV w v n)(W:n≠0)(F:z.natAbs<4294967296^K)(M:n<4294967296^K):
 C_ 74 #[x,v] w fun e w'=>∃s,e=Xa s/\zy w' s (z/(n:Int))/\b_ w w':=by
 obtain⟨b,a,l,c,rfl,P,D⟩:=h.parts;have L:Zh ((w.alloc (cl #[G b,V a l c] 64)).alloc (cl #[G false,V_] 64)) (w.heap.size+1) (G false) (V_):=by
  have:=Xm (w.alloc (cl #[G b,V a l c] 64)) (G false) (V_) 64;simpa using this
 have C:Zh ((w.alloc (cl #[G b,V a l c] 64)).alloc (cl #[G false,V_] 64)) w.heap.size (G b) (V a l c):=(Xm w _ _ _).alloc _;have i:=zaA w (cl #[G b,V a l c] 64) (cl #[G false,V_] 64);have a2:z.natAbs/n<4294967296^K:=qu (zdE _ _) F;cases b with
 |false=>
  have I:0<=z:=by have:=D.out;simp at this;omega
  go_enter func74,ntmps74
  go_wp2_with fail
  apply(J _ _ _ z.natAbs n ((P.alloc _).alloc _) ((N.alloc _).alloc _) F M).mono;rintro e R ⟨s,a0,rfl,u,t,a⟩;have⟨X,Y,Z,p3,p4⟩:=C.below a;go_wp2_with fail
  apply(Jh _ _ _ _ u).mono;rintro e B ⟨a1,rfl,g,f⟩;rw[(zf (zoi (n:=n) I)).out]at g;obtain⟨l,k,A,m,rfl,y,o⟩:=g.parts;have d:=i.trans (a.mono i.size);have⟨b,c,S,T,U⟩:=(L.below a).below f;go_wp2;exact zH (by simp[results,results74,go_sem,b,c]) rfl ⟨_,rfl,QJ y o b c,
   ((d.trans (f.mono d.size)).setCell sp _).setCell sp _⟩
 |true=>
  have I:z<0:=by have:=D.out;simp at this;omega
  by_cases D:z.natAbs%n=0
  ·go_enter func74,ntmps74
   go_wp2_with fail
   apply(J _ _ _ z.natAbs n ((P.alloc _).alloc _) ((N.alloc _).alloc _) F M).mono;rintro e R ⟨s,a0,rfl,u,t,a⟩;rw[D]at t;have⟨X,Y,Z,p3,p4⟩:=C.below a;go_wp2_with fail
   apply(JR _ _ t).mono;rintro e Q ⟨rfl,rfl⟩;go_wp2_with fail
   apply(Jh _ _ _ _ u).mono;rintro e B ⟨a1,rfl,g,f⟩;rw[(zf (floor_neg0 W I D)).out]at g;obtain⟨l,k,A,m,rfl,y,o⟩:=g.parts;have d:=i.trans (a.mono i.size);have p:=d.trans (f.mono d.size);have⟨b,c,S,T,U⟩:=(L.below a).below f;go_wp2;exact zH (by simp[results,results74,go_sem,b,c]) rfl ⟨_,rfl,QJ y o b c,
    (p.setCell sp _).setCell sp _⟩
  ·have j:=zf (floor_neg1 W I D);go_enter func74,ntmps74
   go_wp2_with fail
   apply(J _ _ _ z.natAbs n ((P.alloc _).alloc _) ((N.alloc _).alloc _) F M).mono;rintro e R ⟨s,a0,rfl,u,t,a⟩;have r:=C.below a;have⟨X,Y,Z,p3,p4⟩:=r;go_wp2_with fail
   apply(jW _ _ _ t D).mono;rintro e Q ⟨rfl,rfl⟩;go_wp2_with fail
   apply(zgb _ _ 1 sp om).mono;rintro e F ⟨_,rfl,t,r⟩;go_wp2_with fail
   apply(plus_any _ _ _ _ 1 (K+1) (u.below r) t (zK a2 (pow_mono om)) (zK dc (pow_mono (show 1<=K+1 by omega))) om).mono;rintro e I ⟨_,rfl,D,t⟩;have u:=((C.below a).below r).below t;have⟨_,_,_,_,_⟩:=u;go_wp2_with fail
   apply(Jh _ _ _ _ D).mono;rintro e B ⟨a1,rfl,g,f⟩;rw[j.out]at g;obtain⟨l,k,A,m,rfl,y,o⟩:=g.parts;have q:=(((L.below a).below r).below t).below f;have d:=i.trans (a.mono i.size);have a:=d.trans (r.mono d.size);have d:=a.trans (t.mono a.size);have p:=d.trans (f.mono d.size);have⟨b,c,S,T,U⟩:=q;go_wp2;exact zH (by simp[results,results74,go_sem,b,c]) rfl ⟨_,rfl,QJ y o b c,
    (p.setCell sp _).setCell sp _⟩
theorem zls(a b:Nat):(Jy a b<0↔a<b)/\(Jy a b=0↔a=b):=by
 rcases zbl a b with h|h|h
 ·rw[zcc h];omega
 ·rw[zec h];omega
 ·rw[zcd h];omega
theorem zlt(w:H)(x y:Value)(z t:Int)(K:Nat)(a:K<=1073741823)(h:zy w x z)(k:zy w y t)(F:z.natAbs<4294967296^K)(B:t.natAbs<4294967296^K):
 C_ 87 #[x,y] w fun e w'=>∃c:Int,e=Xa (i_ c)/\(c<0↔z<t)/\(c=0↔z=t)/\-2<=c/\c<=2/\b_ w w':=by
 have I:=h;have L:=k;obtain⟨b,f,l,i,rfl,C,u⟩:=h.parts;obtain⟨c,g,m,j,rfl,D,v⟩:=k.parts;have r:=zaA w (cl #[G b,V f l i] 64) (cl #[G c,V g m j] 64);have A:∀a b,-2<=Jy a b/\Jy a b<=2:=by
  intro a b;unfold Jy;split;·omega
  ·split<;>omega
 by_cases s:b=c
 ·subst s;have J:(b == b)=true:=sp;cases b with
  |true=>
   have q:z<0:=by have:=u.out;simp at this;omega
   have p:t<0:=by have:=v.out;simp at this;omega
   have o:=zls t.natAbs z.natAbs;have d:Hid ((Jy t.natAbs z.natAbs<0↔z<t)/\(Jy t.natAbs z.natAbs=0↔z=t)):=by
    rw[Hid,o.1,o.2];omega
   have a:=zf (A t.natAbs z.natAbs);go_enter func87,ntmps87
   go_wp2_with fail
   refine(compare_any _ _ _ t.natAbs z.natAbs K ((D.alloc _).alloc _) ((C.alloc _).alloc _) B F om).mono ?_;rintro e N ⟨rfl,M,rfl⟩;go_wp2;go_ret;exact⟨_,rfl,d.out.1,d.out.2,a.out.1,a.out.2,zda r⟩
  |false=>
   have q:0<=z:=by have:=u.out;simp at this;omega
   have p:0<=t:=by have:=v.out;simp at this;omega
   have o:=zls z.natAbs t.natAbs;have d:Hid ((Jy z.natAbs t.natAbs<0↔z<t)/\(Jy z.natAbs t.natAbs=0↔z=t)):=by
    rw[Hid,o.1,o.2];omega
   have a:=zf (A z.natAbs t.natAbs);go_enter func87,ntmps87
   go_wp2_with fail
   refine(compare_any _ _ _ z.natAbs t.natAbs K ((C.alloc _).alloc _) ((D.alloc _).alloc _) F B om).mono ?_;rintro e N ⟨rfl,M,rfl⟩;go_wp2;go_ret;exact⟨_,rfl,d.out.1,d.out.2,a.out.1,a.out.2,zda r⟩
 ·have J:(b == c)=false:=by simpa using s
  have B:Zh ((w.alloc (cl #[G b,V f l i] 64)).alloc (cl #[G c,V g m j] 64)) (w.heap.size+1) (G c) (V g m j):=by
   have:=Xm (w.alloc (cl #[G b,V f l i] 64)) (G c) (V g m j) 64;simpa using this
  have A:Zh ((w.alloc (cl #[G b,V f l i] 64)).alloc (cl #[G c,V g m j] 64)) w.heap.size (G b) (V f l i):=(Xm w _ _ _).alloc _;have C:-1<=z.sign/\z.sign<=1/\-1<=t.sign/\t.sign<=1:=by
   rcases zad z 0 with h|h|h<;>rcases zad t 0 with k|k|k<;>simp[Qi,Qs,h,k]
  have d:Hid ((z.sign-t.sign<0↔z<t)/\(z.sign-t.sign=0↔z=t)):=by
   have a:=u.out;have o:=v.out;rw[Hid];by_cases q:z<0
   ·have p:0<=t:=by
     rcases Int.lt_or_le t 0 with h|h
     ·exact absurd (by rw[a,o];simp[q,h]) s
     ·exact h
    rw[Qi q];rcases jd p with h|h
    ·rw[Qs h];omega
    ·rw[<-h];simp;omega
   ·have p:t<0:=by
     rcases Int.lt_or_le t 0 with h|h
     ·exact h
     ·exact absurd (by rw[a,o];simp[q];omega) s
    rw[Qi p];rcases jd (show 0<=z by omega)with h|h
    ·rw[Qs h];omega
    ·rw[<-h];simp;omega
  obtain⟨_,_,_,_⟩:=C;have q:Hid (IntKind.i64.wrap (z.sign-t.sign)=z.sign-t.sign):=by
   rw[Hid];have a:-2<=z.sign-t.sign/\z.sign-t.sign<=2:=om;generalize z.sign-t.sign=o at a;simp[IntKind.wrap,IntKind.signed,IntKind.bits];omega
  go_enter func87,ntmps87
  go_wp2;go_region_held (fun w'=>w'.cell? (y_ w 0)=E (G b)/\w'.cell? (y_ w 1)=E (V f l i)/\w'.cell? (x_ w 0)=E (G c)/\w'.cell? (x_ w 1)=E (V g m j)) (go_keep) (first|(go_at_call_of 149 (G b);refine(sign_any _ _ z (by exact zy.drewN ((I.alloc _).alloc _) 1)).mono ?_;rintro e s ⟨rfl,a⟩;have o:=A.drew.below a;obtain⟨_,_,_,_,_⟩:=o;have o:=B.drew.below a;obtain⟨_,_,_,_,_⟩:=o)|(go_at_call_of 149 (G c);refine(sign_any _ _ t (by exact(zy.drewN ((L.alloc _).alloc _) 1).below a)).mono ?_;rintro e u ⟨rfl,o⟩;have p:=(A.drew.below a).below o;obtain⟨_,_,_,_,_⟩:=p;have p:=(B.drew.below a).below o;obtain⟨_,_,_,_,_⟩:=p))
  have p:=r.trans (Below.mono (w:=(w.alloc (cl #[G b,V f l i] 64)).alloc (cl #[G c,V g m j] 64)) ⟨a.os,a.tape,a.output,a.size,a.block⟩ r.size);have a:=p.trans (o.mono p.size);go_wp2;go_ret;exact⟨z.sign-t.sign,zaQ (by rw[q.out]),d.out.1,d.out.2,om,om,a⟩
def lowN (q:Nat):Nat:=if q=1 then 0 else q
def Qa (w:H)(x:Value)(p:Int)(q:Nat):Prop:=
 ∃b v u,x=ag #[G b,v,u]/\NatV w v p.natAbs/\Hid (b=decide (p<0))/\NatV w u (lowN q)/\0<q/\Hid (Nat.gcd p.natAbs q=1)
theorem Qa.below(h:Qa w x p q)(hb:b_ w w'):Qa w' x p q:=by
 have⟨b,v,u,a,c,d,e,f⟩:=h;exact⟨b,v,u,a,c.below hb,d,e.below hb,f⟩
theorem Qa.alloc(h:Qa w x p q)(o:Obj):Qa (w.alloc o) x p q:=h.below ((qf _ _).alloc (zh _) o)
theorem Qa.drewN(h:Qa w x p q)(k:Nat):Qa (w.drewN k) x p q:=h
theorem Qa.drew(h:Qa w x p q):Qa w.drew x p q:=h
theorem Qa.parts(h:Qa w x p q):∃b a l cap c e d,x=ag #[G b,V a l cap,V c e d]/\NatV w (V a l cap) p.natAbs/\Hid (b=decide (p<0))/\NatV w (V c e d) (lowN q)/\0<q/\Hid (Nat.gcd p.natAbs q=1):=by
 have⟨b,_,_,i,f,j,g,k⟩:=h;obtain⟨a,l,cap,rfl⟩:=f.slice;obtain⟨c,e,d,rfl⟩:=g.slice;exact⟨b,a,l,cap,c,e,d,i,f,j,g,k⟩
def QQ (w:H)(g:Nat)(x y z:Value):Prop:=
 w.cell? (Xd g 0 O)=E x/\w.cell? (Xd g 1 O)=E y/\w.cell? (Xd g 2 O)=E z/\w.frozen? (Xd g 0 O)=false/\w.frozen? (Xd g 1 O)=false/\w.frozen? (Xd g 2 O)=false/\g<w.heap.size
theorem QQ.below{z:Value}(h:QQ w g x y z)(hb:b_ w w'):QQ w' g x y z:=by
 have⟨b,c,d,e,f,i,a⟩:=h;exact⟨(hb.cell a).trans b,(hb.cell a).trans c,(hb.cell a).trans d,(hb.frozen a).trans e,(hb.frozen a).trans f,(hb.frozen a).trans i,zK a hb.size⟩
theorem QQ.new(w:H)(x y z:Value)(t:TypeId):QQ (w.alloc (cl #[x,y,z] t)) w.heap.size x y z:=by
 refine⟨?_,?_,?_,?_,?_,?_,?_⟩<;>simp
abbrev Xn:=@QQ.new
theorem QQ.alloc{z:Value}(h:QQ w g x y z)(o:Obj):QQ (w.alloc o) g x y z:=h.below ((qf _ _).alloc (zh _) o)
theorem QQ.drew{z:Value}(h:QQ w g x y z):QQ w.drew g x y z:=h
theorem QQ.drewN{z:Value}(h:QQ w g x y z)(q:Nat):QQ (w.drewN q) g x y z:=h
theorem QQ.new1(w:H)(A:Obj)(x y z:Value)(t:TypeId):QQ ((w.alloc A).alloc (cl #[x,y,z] t)) (w.heap.size+1) x y z:=by
 have:=Xn (w.alloc A) x y z t;simpa using this
abbrev Xv:=@QQ.new1
theorem QQ.new2(w:H)(A B:Obj)(x y z:Value)(t:TypeId):QQ (((w.alloc A).alloc B).alloc (cl #[x,y,z] t)) (w.heap.size+1+1) x y z:=by
 have:=Xn ((w.alloc A).alloc B) x y z t;simpa using this
theorem Zh.new1(w:H)(A:Obj)(x y:Value)(t:TypeId):Zh ((w.alloc A).alloc (cl #[x,y] t)) (w.heap.size+1) x y:=by
 have:=Xm (w.alloc A) x y t;simpa using this
theorem zbe{c:A_}{d:Nat}{u:Value}(m:NatV w v p.natAbs)(hb:Hid (b=decide (p<0)))(l:NatV w u (lowN q))(k:0<q)(hg:Hid (Nat.gcd p.natAbs q=1))(h:w.cell? (Xd g 0 O)=E (G f))(h1:w.cell? (Xd g 1 O)=E (V a i d))(h2:w.cell? (Xd g 2 O)=E (V c j e)):
 Qa (((w.setCell (Xd g 0 O) (G b)).setCell (Xd g 1 O) v).setCell (Xd g 2 O) u) (ag #[G b,v,u]) p q:=by
 have f:(w.setCell (Xd g 0 O) (G b)).cell? (Xd g 1 O)=E (V a i d):=by rw[zA _ _ _ _ sp];exact h1
 have a:((w.setCell (Xd g 0 O) (G b)).setCell (Xd g 1 O) v).cell? (Xd g 2 O)=E (V c j e):=by
  rw[zA _ _ _ _ sp,zA _ _ _ _ sp];exact h2
 exact⟨b,v,u,rfl,((m.setCell h sp _).setCell f sp _).setCell a sp _,hb,((l.setCell h sp _).setCell f sp _).setCell a sp _,k,hg⟩
theorem zjQ(w:H)(x:Value)(z:Int)(h:zy w x z):
 C_ 36 #[x] w fun e w'=>∃s,e=Xa s/\Qa w' s z 1/\b_ w w':=by
 obtain⟨b,a,l,c,rfl,f,d⟩:=h.parts;go_enter func36,ntmps36
 go_wp2;exact zH (v:=ag #[G b,V a l c,V_]) (by simp[results,results36,go_sem]) rfl ⟨_,rfl,⟨b,_,_,rfl,(f.alloc _).alloc _,d,Xo _ _ _,om,Nat.gcd_one_right _⟩,zaA w _ _⟩
theorem zf2(w:H)(x:Value)(p:Int)(h:Qa w x p 1):
 C_ 40 #[x] w fun e w'=>e=Xa (G true)/\b_ w w':=by
 obtain⟨_,_,_,_,_,_,_,rfl,_,_,a,_,_⟩:=h.parts;rw[show lowN 1=0 from rfl]at a;go_enter func40,ntmps40
 go_wp2_with fail
 apply(JR _ _ (a.alloc _)).mono;rintro e w' ⟨rfl,rfl⟩;go_wp2;go_ret;exact⟨rfl,(qf _ _).alloc (zh _) _⟩
theorem zgc(a:0<q)(h1:q≠1):lowN q=q/\lowN q≠0:=by
 unfold lowN;rw[zO h1];omega
theorem zgv(w:H)(x:Value)(p:Int)(q:Nat)(h:Qa w x p q)(h1:q≠1):
 C_ 40 #[x] w fun e w'=>e=Xa (G false)/\b_ w w':=by
 obtain⟨_,_,_,_,_,_,_,rfl,_,_,b,a,_⟩:=h.parts;go_enter func40,ntmps40
 go_wp2_with fail
 apply(jW _ _ _ (b.alloc _) (zgc a h1).2).mono;rintro e w' ⟨rfl,rfl⟩;go_wp2;go_ret;exact⟨rfl,(qf _ _).alloc (zh _) _⟩
theorem zoj(w:H)(x:Value)(p:Int)(q:Nat)(h:Qa w x p q):
 C_ 118 #[x] w fun e w'=>e=Xa (i_ p.sign)/\b_ w w':=by
 obtain⟨b,c,l,f,d,k,g,rfl,j,i,_,_,_⟩:=h.parts;have a:b_ w (w.alloc (cl #[G b,V c l f,V d k g] 66)):=(qf _ _).alloc (zh _) _;go_enter func118,ntmps118
 go_wp2_with fail
 apply(sign_any _ _ p ⟨b,_,rfl,j.alloc _,i⟩).mono;rintro e w' ⟨rfl,b⟩;go_wp2;go_ret;exact⟨rfl,a.trans (b.mono a.size)⟩
theorem zic(w:H)(x:Value)(p:Int)(q:Nat)(h:Qa w x p q):
 C_ 111 #[x] w fun e w'=>∃v,e=Xa v/\NatV w' v q/\b_ w w':=by
 have j:=h;obtain⟨d,a,l,f,c,i,g,rfl,_,_,k,o,_⟩:=h.parts;have b:b_ w (w.alloc (cl #[G d,V a l f,V c i g] 66)):=(qf _ _).alloc (zh _) _;by_cases c:q=1
 ·subst c;go_enter func111,ntmps111
  go_wp2_with fail
  apply(zf2 _ _ p (j.alloc _)).mono;rintro e w' ⟨rfl,a⟩;go_wp2_with fail
  apply(zgb _ _ 1 sp om).mono;rintro e d ⟨v,rfl,g,f⟩;go_wp2;go_ret;have d:=b.trans (a.mono b.size);exact⟨_,rfl,g,d.trans (f.mono d.size)⟩
 ·rw[(zgc o c).1]at k;go_enter func111,ntmps111
  go_wp2_with fail
  apply(zgv _ _ p q (j.alloc _) c).mono;rintro e w' ⟨rfl,a⟩;have c:=(Xn _ _ _ _ _).below a;have⟨_,_,_,_,_,_,_⟩:=c;go_wp2;go_ret;exact⟨_,rfl,(k.alloc _).below a,b.trans (a.mono b.size)⟩
theorem QQ.far{z u:Value}(b:QQ w g x y z)(a:h≠g):QQ (w.setCell (Xd h o O) u) g x y z:=by
 obtain⟨c,d,e,f,i,j,k⟩:=b;exact⟨by rw[Go.Proofs.YthnopjedhcapmaaGreatDoor.far a];exact c,by rw[Go.Proofs.YthnopjedhcapmaaGreatDoor.far a];exact d,by rw[Go.Proofs.YthnopjedhcapmaaGreatDoor.far a];exact e,by simpa using f,by simpa using i,by simpa using j,by simpa using k⟩
theorem zrE(b:n≠0):0<Nat.gcd z.natAbs n/\0<n/Nat.gcd z.natAbs n/\Nat.gcd (z/(Nat.gcd z.natAbs n:Int)).natAbs (n/Nat.gcd z.natAbs n)=1:=by
 have a:0<Nat.gcd z.natAbs n:=Nat.gcd_pos_of_pos_right _ (Z3 b);refine⟨a,Nat.div_pos (zeS (Z3 b) (zcV _ _)) a,?_⟩;have b:(z/(Nat.gcd z.natAbs n:Int)).natAbs=z.natAbs/Nat.gcd z.natAbs n:=by
  rw[Int.natAbs_ediv_of_dvd];·simp
  ·exact zeG.2 (zdi _ _)
 rw[b];rw[Nat.gcd_div (zdi _ _) (zcV _ _),Nat.div_self a]
theorem zid(w:H)(x v:Value)(z:Int)(n:Nat)(h:zy w x z)(p:NatV w v n)(r:0<n)(hg:Hid (Nat.gcd z.natAbs n=1)):
 C_ 76 #[x,v] w fun e w'=>∃s,e=Xa s/\Qa w' s z n/\b_ w w':=by
 have d:=h;obtain⟨b,a,l,c,rfl,S,J⟩:=h.parts;obtain⟨y,W,B,rfl⟩:=p.slice;have m:Zh ((w.alloc (cl #[G b,V a l c] 64)).alloc (cl #[G false,V_,V_] 66)) w.heap.size (G b) (V a l c):=(Xm _ _ _ _).alloc _;have j:QQ ((w.alloc (cl #[G b,V a l c] 64)).alloc (cl #[G false,V_,V_] 66)) (w.heap.size+1) (G false) (V_) (V_):=Xv _ _ _ _ _ _;have i:=zaA w (cl #[G b,V a l c] 64) (cl #[G false,V_,V_] 66);by_cases k:n=1
 ·subst k;go_enter func76,ntmps76
  go_wp2_with fail
  refine(zha _ _ ((p.alloc _).alloc _)).mono ?_;rintro e w' ⟨rfl,rfl⟩;go_wp2_with fail
  refine(zjQ _ _ z ((d.alloc _).alloc _)).mono ?_;rintro e d ⟨s,rfl,q,o⟩;obtain⟨A,t,X,T,u,Y,U,rfl,M,N,P,Q,R⟩:=q.parts;have L:=j.below o;have K:=i.trans (o.mono i.size);obtain⟨d,f,g,C,D,F,I⟩:=L;clear o q m j;go_wp2;exact zH (v:=ag #[G A,V t X T,V u Y U]) (by simp[results,results76,go_sem,d,f,g]) rfl ⟨_,rfl,zbe M N P Q R d f g,
   ((K.setCell sp _).setCell sp _).setCell sp _⟩
 ·have q:=(zgc r k).1;have o:=(p.alloc (cl #[G b,V a l c] 64)).alloc (cl #[G false,V_,V_] 66);have p:=(S.alloc (cl #[G b,V a l c] 64)).alloc (cl #[G false,V_,V_] 66);have t:=zf q;clear q;go_enter func76,ntmps76
  go_wp2_with fail
  refine(ziv _ _ _ o k).mono ?_;rintro e w' ⟨rfl,k⟩;rw[<-k]at o p m j i;clear k;obtain⟨_,_,_,_,_⟩:=m;obtain⟨d,f,g,C,D,F,I⟩:=j;go_wp2;exact zH (v:=ag #[G b,V a l c,V y W B]) (by simp[results,results76,go_sem,d,f,g]) rfl ⟨_,rfl,zbe p J (by rw[t.out];exact o) r hg d f g,
   ((i.setCell sp _).setCell sp _).setCell sp _⟩
theorem zie(K:Nat)(hK:K<=1073741822)(X:zfj K)(w:H)(x v:Value)(z:Int)(n:Nat)(h:zy w x z)(I:NatV w v n)(hn:n≠0)(hz:z.natAbs<4294967296^K)(Z:n<4294967296^K):
 C_ 39 #[x,v] w fun e w'=>∃s,e=Xa s/\Qa w' s (z/(Nat.gcd z.natAbs n:Int)) (n/Nat.gcd z.natAbs n)/\b_ w w':=by
 have W:=h;obtain⟨o,m,r,q,rfl,hx,hb⟩:=h.parts;obtain⟨_,_,_,rfl⟩:=I.slice;have aw:Zh ((w.alloc (cl #[G o,V m r q] 64)).alloc (cl #[G false,V_,V_] 66)) w.heap.size (G o) (V m r q):=(Xm _ _ _ _).alloc _;have ai:QQ ((w.alloc (cl #[G o,V m r q] 64)).alloc (cl #[G false,V_,V_] 66)) (w.heap.size+1) (G false) (V_) (V_):=Xv _ _ _ _ _ _;have Q:=zaA w (cl #[G o,V m r q] 64) (cl #[G false,V_,V_] 66);by_cases h1:n=1
 ·subst h1;have u:Nat.gcd z.natAbs 1=1:=Nat.gcd_one_right _;rw[u,Nat.div_self om,zdF,Int.ediv_one];go_enter func39,ntmps39
  go_wp2_with fail
  refine(zha _ _ ((I.alloc _).alloc _)).mono ?_;rintro e w' ⟨rfl,rfl⟩;go_wp2_with fail
  refine(zjQ _ _ z ((W.alloc _).alloc _)).mono ?_;rintro e w2 ⟨s,rfl,t,c⟩;obtain⟨a,b,f,d,a3,l3,k3,rfl,a0,a1,aI,aJ,aK⟩:=t.parts;have D:=ai.below c;have au:=Q.trans (c.mono Q.size);obtain⟨i,j,k,J,L,M,N⟩:=D;go_wp2;exact zH (v:=ag #[G a,V b f d,V a3 l3 k3]) (by simp[results,results39,go_sem,i,j,k]) rfl ⟨_,rfl,zbe a0 a1 aI aJ aK i j k,
   ((au.setCell sp _).setCell sp _).setCell sp _⟩
 ·obtain⟨_,ak,aB⟩:=zrE (z:=z) hn;have aE:Nat.gcd z.natAbs n<=n:=zeS (Z3 hn) (zcV _ _);have an:=qu aE Z;have aH:lowN (n/Nat.gcd z.natAbs n)=if n/Nat.gcd z.natAbs n=1 then 0 else n/Nat.gcd z.natAbs n:=rfl
  generalize aC:Nat.gcd z.natAbs n=y at *;have HG:=zf aC;have ad:=zf aB;have aQ:=zf aH;go_enter func39,ntmps39
  go_wp2_with fail
  refine(ziv _ _ _ ((I.alloc _).alloc _) h1).mono ?_;rintro e w' ⟨rfl,rfl⟩;go_wp2_with fail
  refine(zfk _ _ z ((W.alloc _).alloc _)).mono ?_;rintro e w2 ⟨sv,rfl,t,c⟩;go_wp2_with fail
  refine(zmZ K om X _ _ _ z.natAbs n t (((I.alloc _).alloc _).below c) hz Z).mono ?_;rintro e w3 ⟨gv,rfl,F,av⟩;rw[HG.out]at F;have A:Below ((w.alloc (cl #[G o,V m r q] 64)).alloc (cl #[G false,V_,V_] 66)).heap.size ((w.alloc (cl #[G o,V m r q] 64)).alloc (cl #[G false,V_,V_] 66)) w3:=c.trans (av.mono c.size);have ap:=((I.alloc _).alloc _).below A;have aP:=((hx.alloc _).alloc _).below A;have aq:=((W.alloc _).alloc _).below A;have ah:=aw.below A;have aj:=ai.below A;have P:=Q.trans (A.mono Q.size);by_cases al:y=1
  ·subst al;rw[Nat.div_one,zdF,Int.ediv_one]at *;obtain⟨p0,p1,p2,p3,B⟩:=ah;obtain⟨i,j,k,J,L,M,N⟩:=aj;go_wp2_with fail
   refine(zha _ _ F).mono ?_;rintro e w4 ⟨rfl,rfl⟩;go_wp2_with fail
   refine(zid _ _ _ z n ⟨o,_,rfl,aP,hb⟩ ap ak ad).mono ?_;rintro e w9 ⟨s,rfl,t,c⟩;obtain⟨U,S,l5,k5,T,l6,k6,rfl,a7,a8,a9,aa,ab⟩:=t.parts;have Y:=P.trans (c.mono P.size);have D:=QQ.below ⟨i,j,k,J,L,M,N⟩ c;obtain⟨i,j,k,J,L,M,N⟩:=D;go_wp2;exact zH (v:=ag #[G U,V S l5 k5,V T l6 k6]) (by simp[results,results39,go_sem,i,j,k]) rfl ⟨_,rfl,by rw[zdF,Int.ediv_one,Nat.div_one];exact zbe a7 a8 a9 aa ab i j k,
    ((Y.setCell sp _).setCell sp _).setCell sp _⟩
  ·have aD:y≠0:=om;obtain⟨p0,p1,p2,p3,B⟩:=ah;go_wp2_with fail
   refine(ziv _ _ _ F al).mono ?_;rintro e w4 ⟨rfl,rfl⟩;go_wp2_with fail
   refine(zdb K hK X _ _ _ z y aq F aD hz an).mono ?_;rintro e g ⟨fv,rfl,aA,l⟩;have ar:=P.trans (l.mono P.size);have ax:=aj.below l;have aN:=ap.below l;have aF:=F.below l;have R:=(l.cell (p:=(y_ w 0)) B).trans p0;have q1:=(l.cell (p:=(y_ w 1)) B).trans p1;have q2:=(l.frozen (p:=(y_ w 0)) B).trans p2;have q3:=(l.frozen (p:=(y_ w 1)) B).trans p3;have q4:=zK B l.size;obtain⟨a,b,f,d,rfl,a0,a1⟩:=aA.parts;have u:(g.setCell (y_ w 0) (G a)).cell? (y_ w 1)=E (V m r q):=by rw[zA _ _ _ _ sp];exact q1
   have aL:=(a0.setCell R sp (G a)).setCell u sp (V b f d);have aO:=(aN.setCell R sp (G a)).setCell u sp (V b f d);have aG:=(aF.setCell R sp (G a)).setCell u sp (V b f d);have ay:QQ ((g.setCell (y_ w 0) (G a)).setCell (y_ w 1) (V b f d)) (w.heap.size+1) (G false) (V_) (V_):=(ax.far om).far om;have ae:b_ w ((g.setCell (y_ w 0) (G a)).setCell (y_ w 1) (V b f d)):=(ar.setCell sp _).setCell sp _;have r0:((g.setCell (y_ w 0) (G a)).setCell (y_ w 1) (V b f d)).cell? (y_ w 0)=E (G a):=by
    rw[zA _ _ _ _ sp];exact zN _ _ _ R
   have r1:((g.setCell (y_ w 0) (G a)).setCell (y_ w 1) (V b f d)).cell? (y_ w 1)=E (V b f d):=zN _ _ _ u;have r4:w.heap.size<((g.setCell (y_ w 0) (G a)).setCell (y_ w 1) (V b f d)).heap.size:=by simpa using q4
   go_wp2_with fail
   refine(X _ _ _ n y aO aG Z an).mono ?_;rintro e w7 ⟨_,rv,rfl,hq,_,C⟩;have az:=ay.below C;have aM:=aL.below C;have af:=ae.trans (C.mono ae.size);have s0:=(C.cell (p:=(y_ w 0)) r4).trans r0;have s1:=(C.cell (p:=(y_ w 1)) r4).trans r1;obtain⟨_,_,_,rfl⟩:=hq.slice;go_wp2_with fail
   refine(zid _ _ _ (z/(y:Int)) (n/y) ⟨a,_,rfl,aM,a1⟩ hq ak ad).mono ?_;rintro e w9 ⟨s,rfl,t,c⟩;obtain⟨U,S,l5,k5,T,l6,k6,rfl,a7,a8,a9,aa,ab⟩:=t.parts;have D:=az.below c;have Y:b_ w w9:=af.trans (c.mono af.size);obtain⟨i,j,k,J,L,M,N⟩:=D;go_wp2;exact zH (v:=ag #[G U,V S l5 k5,V T l6 k6]) (by simp[results,results39,go_sem,i,j,k]) rfl ⟨_,rfl,zbe a7 a8 a9 aa ab i j k,
    ((Y.setCell sp _).setCell sp _).setCell sp _⟩
theorem Zh.new2(w:H)(A B:Obj)(x y:Value)(t:TypeId):Zh (((w.alloc A).alloc B).alloc (cl #[x,y] t)) (w.heap.size+1+1) x y:=by
 have:=Xm ((w.alloc A).alloc B) x y t;simpa using this
theorem ze1(h:Below B w.drew w'):Below B w w':=⟨h.os,h.tape,h.output,h.size,h.block⟩
theorem znk(w:H)(x y:Value)(p r:Int)(q s J K:Nat)(a0:J+K<=1073741823)(h:Qa w x p q)(k:Qa w y r s)(hp:p.natAbs<4294967296^J)(hs:s<4294967296^K):
 C_ 112 #[x,y] w fun e w'=>∃t,e=Xa t/\zy w' t (p*(s:Int))/\b_ w w':=by
 have h0:=h;have k0:=k;obtain⟨b,c,l,d,m,F,B,rfl,Z,T,_,_,_⟩:=h.parts;obtain⟨u,o,I,C,g,j,i,rfl,_,_,Y,ad,_⟩:=k.parts;have W:QQ (((w.alloc (cl #[G b,V c l d,V m F B] 66)).alloc (cl #[G u,V o I C,V g j i] 66)).alloc (cl #[G false,V_] 64)) w.heap.size (G b) (V c l d) (V m F B):=((Xn _ _ _ _ _).alloc _).alloc _;have a7:QQ (((w.alloc (cl #[G b,V c l d,V m F B] 66)).alloc (cl #[G u,V o I C,V g j i] 66)).alloc (cl #[G false,V_] 64)) (w.heap.size+1) (G u) (V o I C) (V g j i):=(Xv _ _ _ _ _ _).alloc _;have X:Zh (((w.alloc (cl #[G b,V c l d,V m F B] 66)).alloc (cl #[G u,V o I C,V g j i] 66)).alloc (cl #[G false,V_] 64)) (w.heap.size+1+1) (G false) (V_):=Zh.new2 _ _ _ _ _ _;have M:=zbt w (cl #[G b,V c l d,V m F B] 66) (cl #[G u,V o I C,V g j i] 66) (cl #[G false,V_] 64);by_cases Q:s=1
 ·subst Q;rw[zdF,zet];go_enter func112,ntmps112
  go_wp2_with fail
  refine(zf2 _ _ r (((k0.alloc _).alloc _).alloc _)).mono ?_;rintro e P ⟨rfl,a⟩;have af:=(((Z.alloc _).alloc _).alloc _).below a;have D:=W.below a;have S:=X.below a;obtain⟨p0,p1,p2,p3,p4,p5,p6⟩:=D;obtain⟨z,A,f0,f1,g0⟩:=S;have L:=M.trans (a.mono M.size);go_wp2;exact zH (v:=ag #[G b,V c l d]) (by simp[results,results112,go_sem,z,A]) rfl ⟨_,rfl,QJ af T z A,
   (L.setCell so _).setCell so _⟩
 ·go_enter func112,ntmps112
  go_wp2_with fail
  refine(zgv _ _ r s (((k0.alloc _).alloc _).alloc _) Q).mono ?_;rintro e P ⟨rfl,a⟩;rw[(zgc ad Q).1]at Y;have ai:zy P (ag #[G b,V c l d]) p:=⟨b,_,rfl,(((Z.alloc _).alloc _).alloc _).below a,T⟩;have ae:=(((Y.alloc _).alloc _).alloc _).below a;have D:=W.below a;have R:=a7.below a;have S:=X.below a;have L:=M.trans (a.mono M.size);have a4:=D;obtain⟨p0,p1,p2,p3,p4,p5,p6⟩:=a4;have a8:=R;obtain⟨_,_,_,_,_,_,_⟩:=a8;go_wp2;go_region_held (fun w'=>w'.cell? (y_ w 0)=E (G b)/\w'.cell? (y_ w 1)=E (V c l d)/\w'.cell? (x_ w 2)=E (V g j i)) (first|(refine⟨?_,?_,?_⟩<;>(rw[far,far]<;>first|assumption|omega))|go_keep) (first|(go_at_call 116;refine(zaR _ _ s (by exact NatV.drew ae)).mono ?_;rintro e wA ⟨ov,rfl,ho,f⟩;have a5:=D.drew.below f;obtain⟨_,_,_,_,_,_,_⟩:=a5;have a9:=R.drew.below f;obtain⟨_,_,_,_,_,_,_⟩:=a9)|(go_at_call 115;refine(zam _ _ _ p (s:Int) J K a0 (by exact(ai.drewN 1).below f) ho hp (by simpa using hs)).mono ?_;rintro e wB ⟨_,rfl,hy,N⟩;obtain⟨b2,a2,l2,k2,rfl,ah,a1⟩:=hy.parts;have a6:=(D.drew.below f).below N;obtain⟨_,_,_,_,_,_,_⟩:=a6;have aa:=(R.drew.below f).below N;obtain⟨_,_,_,_,_,_,_⟩:=aa;have ab:=(S.drew.below f).below N;obtain⟨z,A,f0,f1,g0⟩:=ab))
  have U:=L.trans ((ze1 f).mono L.size);have a3:=U.trans (N.mono U.size);go_wp2;exact zH (v:=ag #[G b2,V a2 l2 k2]) (by simp[results,results112,go_sem,z,A]) rfl ⟨_,rfl,QJ ah a1 z A,
   (a3.setCell so _).setCell so _⟩
theorem low_unique{Z a:Int}{N b:Nat}(hb:0<b)(h:a*(N:Int)=Z*(b:Int))(hg:Nat.gcd a.natAbs b=1)(e:0<N):Z/(Nat.gcd Z.natAbs N:Int)=a/\N/Nat.gcd Z.natAbs N=b:=by
 have c:a.natAbs*N=Z.natAbs*b:=by
  have:=qm Int.natAbs h;simpa[zbv]using this
 have d:b ∣ N:=by
  have:b ∣ a.natAbs*N:=⟨Z.natAbs,by rw[c,Z5]⟩;exact Nat.Coprime.dvd_of_dvd_mul_left (Nat.Coprime.symm hg) this
 obtain⟨k,rfl⟩:=d;have f:0<k:=Z3 (by rintro rfl;simp at e);have c:Z=a*k:=by
  have:(Z-a*k)*b=0:=by
   rw[Int.sub_mul,<-h,J0];grind
  rcases Int.mul_eq_zero.1 this with h|h
  ·omega
  ·omega
 have d:Z.natAbs=a.natAbs*k:=by rw[c,zbv];simp
 have e:Nat.gcd Z.natAbs (b*k)=k:=by rw[d,Nat.gcd_mul_right,hg,Jv]
 rw[e];refine⟨?_,Nat.mul_div_cancel _ f⟩;rw[c];exact Int.mul_ediv_cancel _ om
theorem cop_add(h:Nat.gcd p.natAbs q=1)(hs:Nat.gcd s q=1):Nat.gcd (p*(s:Int)+r*(q:Int)).natAbs q=1:=by
 have a:Int.gcd (p*s+r*q) q=Int.gcd (p*s) q:=Int.gcd_add_mul_right_left _ _ _;have b:Nat.gcd (p*s).natAbs q=1:=by
  rw[zbv,Q9];exact Nat.Coprime.mul_left h hs
 simpa[Int.gcd]using a.trans b
theorem cop_sum{a b:Nat}(h:Nat.gcd p.natAbs q=1)(k:Nat.gcd r.natAbs s=1)(e:q=g*a)(hs:s=g*b)(c:Nat.gcd a b=1):Nat.gcd (p*(b:Int)+r*(a:Int)).natAbs (a*b)=1:=by
 have d:Nat.gcd p.natAbs a=1:=Nat.Coprime.coprime_dvd_right ⟨g,by rw[e,Z5]⟩ h;have a:=cop_add (r:=p) (Nat.Coprime.coprime_dvd_right ⟨g,by rw[hs,Z5]⟩ k) c;rw[Int.add_comm]at a;exact Nat.Coprime.mul_right (cop_add (r:=r) d ((zcv _ _).trans c)) a
theorem plus_low1(h:Nat.gcd p.natAbs q=1)(k:Nat.gcd r.natAbs s=1)(a:Nat.gcd q s=1):Nat.gcd (p*(s:Int)+r*(q:Int)).natAbs (q*s)=1:=
 cop_sum h k (Jv _).symm (Jv _).symm a
theorem gcd_parts(b:0<q):q=Nat.gcd q s*(q/Nat.gcd q s)/\s=Nat.gcd q s*(s/Nat.gcd q s)/\Nat.gcd (q/Nat.gcd q s) (s/Nat.gcd q s)=1/\0<Nat.gcd q s/\0<q/Nat.gcd q s:=by
 have a:0<Nat.gcd q s:=Nat.gcd_pos_of_pos_left _ b;refine⟨(Nat.mul_div_cancel' (zdi _ _)).symm,(Nat.mul_div_cancel' (zcV _ _)).symm,?_,a,Nat.div_pos (zeS b (zdi _ _)) a⟩;rw[Nat.gcd_div (zdi _ _) (zcV _ _),Nat.div_self a]
theorem gcd_low0(b:n≠0):0<Nat.gcd z.natAbs n/\0<n/Nat.gcd z.natAbs n/\Nat.gcd (z/(Nat.gcd z.natAbs n:Int)).natAbs (n/Nat.gcd z.natAbs n)=1:=by
 have a:0<Nat.gcd z.natAbs n:=Nat.gcd_pos_of_pos_right _ (Z3 b);refine⟨a,Nat.div_pos (zeS (Z3 b) (zcV _ _)) a,?_⟩;have b:(z/(Nat.gcd z.natAbs n:Int)).natAbs=z.natAbs/Nat.gcd z.natAbs n:=by
  rw[Int.natAbs_ediv_of_dvd];·simp
  ·exact zeG.2 (zdi _ _)
 rw[b];rw[Nat.gcd_div (zdi _ _) (zcV _ _),Nat.div_self a]
theorem zdiv_abs_dvd:(z/(Nat.gcd z.natAbs n:Int)).natAbs ∣ z.natAbs:=by
 have a:(z/(Nat.gcd z.natAbs n:Int)).natAbs=z.natAbs/Nat.gcd z.natAbs n:=by
  rw[Int.natAbs_ediv_of_dvd];·simp
  ·exact zeG.2 (zdi _ _)
 rw[a];exact Nat.div_dvd_of_dvd (zdi _ _)
theorem zdiv_mul:(z/(Nat.gcd z.natAbs n:Int))*(Nat.gcd z.natAbs n:Int)=z:=
 Int.ediv_mul_cancel (zeG.2 (zdi _ _))
theorem plus_low2{a b d:Nat}{U:Int}(h:Nat.gcd p.natAbs q=1)(k:Nat.gcd r.natAbs s=1)(o:q=g*a)(hs:s=g*b)(v:Nat.gcd a b=1)(hg:0<g)(l:U=p*(b:Int)+r*(a:Int))(w:d=Nat.gcd U.natAbs g):
 Nat.gcd (U/(d:Int)).natAbs (g/d*a*b)=1/\(U/(d:Int))*((q*s:Nat):Int)=(p*(s:Int)+r*(q:Int))*((g/d*a*b:Nat):Int):=by
 have m:=cop_sum h k o hs v;rw[<-l]at m;obtain⟨t,u,e⟩:=gcd_low0 (n:=g) om;have f:(U/(Nat.gcd U.natAbs g:Int))*(Nat.gcd U.natAbs g:Int)=U:=zdiv_mul;have i:(U/(Nat.gcd U.natAbs g:Int)).natAbs ∣ U.natAbs:=zdiv_abs_dvd;have j:g/Nat.gcd U.natAbs g*Nat.gcd U.natAbs g=g:=Nat.div_mul_cancel (zcV _ _);rw[<-w]at t u e f i j;refine⟨?_,?_⟩
 ·rw[Zt];exact Nat.Coprime.mul_right e (Nat.Coprime.coprime_dvd_left i m)
 ·generalize U/d=x at *;generalize g/d=c at *;subst o hs j;have:p*((c*d*b:Nat):Int)+r*((c*d*a:Nat):Int)=c*d*U:=by rw[l];push_cast;grind
  rw[this,<-f];push_cast;grind
theorem times_low{a b:Nat}(h:Nat.gcd p.natAbs q=1)(k:Nat.gcd r.natAbs s=1)(c:0<q)(hs:0<s)(v:a=Nat.gcd p.natAbs s)(w:b=Nat.gcd r.natAbs q):
 Nat.gcd (p/(a:Int)*(r/(b:Int))).natAbs (s/a*(q/b))=1/\(p/(a:Int)*(r/(b:Int)))*((q*s:Nat):Int)=(p*r)*((s/a*(q/b):Nat):Int):=by
 obtain⟨m,o,e⟩:=gcd_low0 (n:=s) om;obtain⟨t,u,i⟩:=gcd_low0 (n:=q) om;have f:(p/(Nat.gcd p.natAbs s:Int))*(Nat.gcd p.natAbs s:Int)=p:=zdiv_mul;have j:(r/(Nat.gcd r.natAbs q:Int))*(Nat.gcd r.natAbs q:Int)=r:=zdiv_mul;have g:(p/(Nat.gcd p.natAbs s:Int)).natAbs ∣ p.natAbs:=zdiv_abs_dvd;have l:(r/(Nat.gcd r.natAbs q:Int)).natAbs ∣ r.natAbs:=zdiv_abs_dvd;have c:s/Nat.gcd p.natAbs s*Nat.gcd p.natAbs s=s:=Nat.div_mul_cancel (zcV _ _);have d:q/Nat.gcd r.natAbs q*Nat.gcd r.natAbs q=q:=Nat.div_mul_cancel (zcV _ _);rw[<-v]at m o e f g c;rw[<-w]at t u i j l d;refine⟨?_,?_⟩
 ·rw[zbv];exact Nat.Coprime.mul_left (Nat.Coprime.mul_right e (Nat.Coprime.coprime_dvd_left g (Nat.Coprime.coprime_dvd_right ⟨b,d.symm⟩ h))) (Nat.Coprime.mul_right (Nat.Coprime.coprime_dvd_left l (Nat.Coprime.coprime_dvd_right ⟨a,c.symm⟩ k)) i)
 ·generalize p/a=e at *;generalize r/b=e at *;generalize s/a=a at *;generalize q/b=e at *;rw[<-f,<-j,<-c,<-d];push_cast;grind
theorem Qa.setCell(h:Qa w x p q){a:Addr}(c:w.cell? a=E y)(b:∀k,y≠it .u32 k)(t:Value):Qa (w.setCell a t) x p q:=by
 have⟨d,v,u,e,f,g,i,j⟩:=h;exact⟨d,v,u,e,f.setCell c b t,g,i.setCell c b t,j⟩
theorem ziZ{a b K:Nat}(c:a<4294967296^K)(hb:b<4294967296^K):a*b<4294967296^(K+K):=by
 rw[Q6];exact Nat.mul_lt_mul'' c hb
theorem znl{b K:Nat}(a:z.natAbs<4294967296^K)(hb:b<4294967296^K):(z*(b:Int)).natAbs<4294967296^(K+K):=by
 rw[zbv,Q9];exact ziZ a hb
def Held (w:H)(b c:Bool)(ao ao' bo bo':A_)(l cap l' cap' m dap m' dap':Nat)(p r:Int)(q s:Nat)(wc:H):Prop:=
 QQ wc w.heap.size (G b) (V ao l cap) (V ao' l' cap')/\QQ wc (w.heap.size+1) (G c) (V bo m dap) (V bo' m' dap')/\QQ wc (w.heap.size+1+1) (G false) (V_) (V_)/\Qa wc (ag #[G b,V ao l cap,V ao' l' cap']) p q/\Qa wc (ag #[G c,V bo m dap,V bo' m' dap']) r s/\b_ w wc/\w.heap.size+1+1<wc.heap.size
theorem Held.below{e f:A_}{v:H}(h:Held w b c a d e f l cap k g m i o j p r q s u)(hb:b_ u v):Held w b c a d e f l cap k g m i o j p r q s v:=by
 obtain⟨d,e,f,g,i,a,j⟩:=h;exact⟨d.below hb,e.below hb,f.below hb,g.below hb,i.below hb,a.trans (hb.mono a.size),zK j hb.size⟩
theorem Held.drew{e f:A_}(h:Held w b c a d e f l cap k g m i o j p r q s u):Held w b c a d e f l cap k g m i o j p r q s u.drew:=by
 obtain⟨d,e,f,g,i,a,j⟩:=h;exact⟨d,e,f,g,i,⟨a.os,a.tape,a.output,a.size,a.block⟩,j⟩
theorem Held.alloc{e f:A_}(h:Held w b c a d e f l cap k g m i t j p r q s u)(o:Obj):Held w b c a d e f l cap k g m i t j p r q s (u.alloc o):=
 h.below ((qf _ _).alloc (zh _) o)
theorem Held.setCell{e f:A_}{A:Nat}(h:Held w b c a d e f l cap A i m j B t p r q s u)(hg:w.heap.size+1+1<g)(z:u.cell? (Xd g o O)=E y)(v:∀k,y≠it .u32 k)(x:Value):
 Held w b c a d e f l cap A i m j B t p r q s (u.setCell (Xd g o O) x):=by
 obtain⟨a,d,e,f,i,j,t⟩:=h;exact⟨a.far om,d.far om,e.far om,f.setCell z v x,i.setCell z v x,j.setCell so x,by simpa using t⟩
theorem Zh.stored{c:A_}{d:Nat}(h:Zh w g (G f) (V c e d)):Zh ((w.setCell (Xd g 0 O) (G b)).setCell (Xd g 1 O) (V a l k)) g (G b) (V a l k):=by
 obtain⟨f,i,j,m,o⟩:=h;have p:(w.setCell (Xd g 0 O) (G b)).cell? (Xd g 1 O)=E (V c e d):=by rw[zA _ _ _ _ sp];exact i
 refine⟨?_,zN _ _ _ p,by simpa using j,by simpa using m,by simpa using o⟩;rw[zA _ _ _ _ sp];exact zN _ _ _ f
theorem zy.stored(m:zy w x z){c:A_}{d:Nat}(h:Zh w g (G f) (V c e d)):zy ((w.setCell (Xd g 0 O) (G b)).setCell (Xd g 1 O) (V a l k)) x z:=by
 have⟨f,i,_,_,_⟩:=h;have j:(w.setCell (Xd g 0 O) (G b)).cell? (Xd g 1 O)=E (V c e d):=by rw[zA _ _ _ _ sp];exact i
 exact(m.setCell f sp _).setCell j sp _
theorem Held.stored{e i j:A_}{x z:Nat}(C:Held w b c d e i j l cap x k m o z t p r q s u){B:Bool}{A:A_}{y v F D:Nat}(h:Zh u g (G B) (V a y v))(hg:w.heap.size+1+1<g):
 Held w b c d e i j l cap x k m o z t p r q s ((u.setCell (Xd g 0 O) (G f)).setCell (Xd g 1 O) (V A F D)):=by
 obtain⟨d,e,_,_,_⟩:=h;have i:(u.setCell (Xd g 0 O) (G f)).cell? (Xd g 1 O)=E (V a y v):=by rw[zA _ _ _ _ sp];exact e
 exact(C.setCell hg d sp _).setCell hg i sp _
theorem Zh.new3(w:H)(A B C:Obj)(x y:Value)(t:TypeId):Zh ((((w.alloc A).alloc B).alloc C).alloc (cl #[x,y] t)) (w.heap.size+1+1+1) x y:=by
 have:=Xm (((w.alloc A).alloc B).alloc C) x y t;simpa using this
def FracBox (w:H)(g:Nat)(p:Int)(q:Nat):Prop:=
 ∃b a l k a' l' k',QQ w g (G b) (V a l k) (V a' l' k')/\Qa w (ag #[G b,V a l k,V a' l' k']) p q
abbrev set3 (w:H)(g:Nat)(x y z:Value):H:=((w.setCell (Xd g 0 O) x).setCell (Xd g 1 O) y).setCell (Xd g 2 O) z
abbrev ZBox (w:H)(g:Nat):Prop:=QQ w g (G false) (V_) (V_)
theorem QQ.written{i:Bool}{b:A_}{c f d:Nat}(h:QQ w g (G i) (V a e c) (V b f d))(x y z:Value):QQ (set3 w g x y z) g x y z:=by
 obtain⟨i,j,k,m,o,p,q⟩:=h;have l:(w.setCell (Xd g 0 O) x).cell? (Xd g 1 O)=E (V a e c):=by rw[zA _ _ _ _ sp];exact j
 have a:((w.setCell (Xd g 0 O) x).setCell (Xd g 1 O) y).cell? (Xd g 2 O)=E (V b f d):=by
  rw[zA _ _ _ _ sp,zA _ _ _ _ sp];exact k
 refine⟨?_,?_,zN _ _ _ a,by simpa using m,by simpa using o,by simpa using p,by simpa using q⟩;·rw[zA _ _ _ _ sp,zA _ _ _ _ sp];exact zN _ _ _ i
 ·rw[zA _ _ _ _ sp];exact zN _ _ _ l
theorem NatV.set3(h:NatV w v n){i:Bool}{b:A_}{c f d:Nat}(hb:QQ w g (G i) (V a e c) (V b f d))(x y z:Value):NatV (Go.Proofs.YthnopjedhcapmaaGreatDoor.set3 w g x y z) v n:=by
 obtain⟨i,j,k,_,_,_,_⟩:=hb;have l:(w.setCell (Xd g 0 O) x).cell? (Xd g 1 O)=E (V a e c):=by rw[zA _ _ _ _ sp];exact j
 have a:((w.setCell (Xd g 0 O) x).setCell (Xd g 1 O) y).cell? (Xd g 2 O)=E (V b f d):=by
  rw[zA _ _ _ _ sp,zA _ _ _ _ sp];exact k
 exact((h.setCell i sp _).setCell l sp _).setCell a sp _
theorem Qa.set3(h:Qa w v p q){b:A_}{f d:Nat}(hb:QQ w g (G c) (V a f d) (V b i e))(x y z:Value):Qa (Go.Proofs.YthnopjedhcapmaaGreatDoor.set3 w g x y z) v p q:=by
 obtain⟨b,v,u,a,c,d,e,f⟩:=h;exact⟨b,v,u,a,c.set3 hb x y z,d,e.set3 hb x y z,f⟩
theorem QQ.far3{z u t:Value}(b:QQ w g x y z)(a:h≠g):QQ (set3 w h u v t) g x y z:=((b.far a).far a).far a
theorem below_set3(h:Below B w w')(hg:B<=g)(x y z:Value):Below B w (set3 w' g x y z):=
 ((h.setCell hg x).setCell hg y).setCell hg z
theorem Held.set3{e f:A_}(h:Held w b c a d e f l cap o i m j t k p r q s u){B:Bool}{v A:A_}{F C I D:Nat}(hb:QQ u g (G B) (V v F C) (V A I D))(hg:w.heap.size+1+1<g)(x y z:Value):
 Held w b c a d e f l cap o i m j t k p r q s (Go.Proofs.YthnopjedhcapmaaGreatDoor.set3 u g x y z):=by
 obtain⟨a,d,e,f,i,j,k⟩:=h;exact⟨a.far3 om,d.far3 om,e.far3 om,f.set3 hb x y z,i.set3 hb x y z,below_set3 j om x y z,by simpa using k⟩
theorem zee{o:Obj}{p:Addr}(h:w.cell? p=E v):(w.alloc o).cell? p=E v:=
 (((qf _ w).alloc (zh _) o).cell (zw h)).trans h
theorem ZBox.new1a(w:H)(A:Obj)(t:TypeId):ZBox ((w.alloc A).alloc (cl #[G false,V_,V_] t)) (w.heap.size+1):=Xv w A _ _ _ t
theorem Qa.whole'{u:Value}(h:Qa w (ag #[G b,v,u]) p q):zy w (ag #[G b,v]) p:=by
 have⟨_,_,_,a,c,d,_⟩:=h;simp only[zdU,Array.mk.injEq,za5,Value.bool.injEq,zel]at a;obtain⟨rfl,rfl,rfl⟩:=a;exact⟨_,_,rfl,c,d⟩
def Ext (w w':H):Prop:=b_ w w'
theorem Ext.refl(w:H):Ext w w:=qf _ _
abbrev Xe:=@Ext.refl
theorem Ext.alloc(h:Ext w w')(o:Obj):Ext w (w'.alloc o):=Below.alloc h h.size o
abbrev Xy:=@Ext.alloc
theorem new1(w:H)(o:Obj):(w.alloc o).heap[w.heap.size]? =E o/\Ext w (w.alloc o):=⟨by show(w.heap.push o)[w.heap.size]? =E o;simp,(Xe w).alloc o⟩
theorem Ext.drew(h:Ext w w'):Ext w w'.drew:=⟨h.os,h.tape,h.output,h.size,h.block⟩
abbrev Xz:=@Ext.drew
theorem Ext.trans{v:H}(h:Ext u v)(k:Ext v w):Ext u w:=Qg h (k.mono h.size)
abbrev Xi:=@Ext.trans
theorem Ext.of{v:H}(h:b_ u v):Ext u v:=h
abbrev Xf:=@Ext.of
theorem Ext.size(h:Ext w w'):w.heap.size<=w'.heap.size:=Below.size h
abbrev set2 (w:H)(g:Nat)(x y:Value):H:=(w.setCell (Xd g 0 O) x).setCell (Xd g 1 O) y
theorem Ext.set2(h:Ext w w')(hg:w.heap.size<=g)(x y:Value):Ext w (Go.Proofs.YthnopjedhcapmaaGreatDoor.set2 w' g x y):=
 (Below.setCell h hg x).setCell hg y
theorem Ext.set3(h:Ext w w')(hg:w.heap.size<=g)(x y z:Value):Ext w (Go.Proofs.YthnopjedhcapmaaGreatDoor.set3 w' g x y z):=below_set3 h hg x y z
theorem Ext.cell(h:Ext w w'){p:Addr}(a:w.cell? p=E v):w'.cell? p=E v:=
 (Below.cell h (zw a)).trans a
abbrev ZObj:Obj:=cl #[G false,V_,V_] 66
theorem ZBox.one(w:H):ZBox (w.alloc ZObj) w.heap.size:=Xn w _ _ _ _
theorem ZBox.one'(w:H)(o:Obj):ZBox ((w.alloc ZObj).alloc o) w.heap.size:=QQ.alloc (Xn w _ _ _ _) o
theorem ZBox.two(w:H)(o:Obj):ZBox ((w.alloc o).alloc ZObj) (w.heap.size+1):=Xv w o _ _ _ _
theorem ZBox.oneD(w:H):ZBox (w.alloc ZObj).drew w.heap.size:=ZBox.one w
theorem ZBox.oneD'(w:H)(o:Obj):ZBox ((w.alloc ZObj).alloc o).drew w.heap.size:=ZBox.one' w o
theorem ZBox.twoD(w:H)(o:Obj):ZBox ((w.alloc o).alloc ZObj).drew (w.heap.size+1):=ZBox.two w o
abbrev ZBox2 (w:H)(g:Nat):Prop:=Zh w g (G false) (V_)
theorem ZBox2.one(w:H):ZBox2 (w.alloc (cl #[G false,V_] 64)) w.heap.size:=Xm w _ _ _
theorem ZBox2.oneD(w:H):ZBox2 (w.alloc (cl #[G false,V_] 64)).drew w.heap.size:=Xm w _ _ _
theorem ZBox2.ext{v:H}(hb:Ext u v)(h:ZBox2 u g):ZBox2 v g:=Zh.below h hb
theorem ZBox.ext{v:H}(hb:Ext u v)(h:ZBox u g):ZBox v g:=QQ.below h hb
abbrev Xx:=@ZBox.ext
theorem QQ.ext{v:H}{z:Value}(h:QQ u g x y z)(hb:Ext u v):QQ v g x y z:=QQ.below h hb
theorem NatV.ext{v:H}(h:NatV u x n)(hb:Ext u v):NatV v x n:=h.below hb
theorem zy.ext{v:H}{n:Int}(h:zy u x n)(hb:Ext u v):zy v x n:=h.below hb
theorem Qa.ext{v:H}(h:Qa u x p q)(hb:Ext u v):Qa v x p q:=h.below hb
theorem Held.ext{e f:A_}{v:H}(h:Held w b c a d e f l cap k g m i o j p r q s u)(hb:Ext u v):Held w b c a d e f l cap k g m i o j p r q s v:=h.below hb
def Cut2 (w:H)(p r:Int)(q s:Nat)(s5 s6:Value)(wc:H):Prop:=
 ∃g5 g6:Nat,s5=p_ g5 0/\s6=p_ g6 0/\FracBox wc g5 p q/\FracBox wc g6 r s/\ZBox wc (w.heap.size+1+1)/\b_ w wc/\w.heap.size+1+1<g5/\w.heap.size+1+1<g6
theorem cut2_old{g5 a:Nat}{d k:Bool}{b c i j:A_}{f x:Nat}(B:Qa u (ag #[G d,V b g e,V c h f]) p q)(C:Qa u (ag #[G k,V i o l,V j x m]) r s)(D:ZBox u (w.heap.size+1+1))(hb:b_ w u)(y:ZBox u g5)(J:ZBox u a)(A:g5≠a)(F:w.heap.size+1+1<g5)(I:w.heap.size+1+1<a):
 Cut2 w p r q s (p_ g5 0) (p_ a 0) (set3 (set3 u g5 (G d) (V b g e) (V c h f)) a (G k) (V i o l) (V j x m)):=by
 have z:=J.far3 (u:=G d) (v:=V b g e) (t:=V c h f) A;refine⟨g5,a,rfl,rfl,⟨d,b,g,e,c,h,f,(y.written _ _ _).far3 (fun e=>A e.symm),(B.set3 y _ _ _).set3 z _ _ _⟩,⟨k,i,o,l,j,x,m,z.written _ _ _,(C.set3 y _ _ _).set3 z _ _ _⟩,(D.far3 om).far3 om,below_set3 (below_set3 hb om _ _ _) om _ _ _,F,I⟩
theorem cut2_new6{g5:Nat}{j:Bool}{b h i:A_}{f d:Nat}{t:TypeId}(B:Qa u (ag #[G c,V a f d,V b g e]) p q)(C:Qa u (ag #[G j,V h m k,V i o l]) r s)(z:ZBox u (w.heap.size+1+1))(hb:b_ w u)(v:ZBox u g5)(D:w.heap.size+1+1<g5):
 Cut2 w p r q s (p_ g5 0) (p_ u.heap.size 0) ((set3 u g5 (G c) (V a f d) (V b g e)).alloc (cl #[G j,V h m k,V i o l] t)):=by
 have x:=below_set3 hb (show w.heap.size<=g5 by omega) (G c) (V a f d) (V b g e);have y:=Xn (set3 u g5 (G c) (V a f d) (V b g e)) (G j) (V h m k) (V i o l) t;have A:(set3 u g5 (G c) (V a f d) (V b g e)).heap.size=u.heap.size:=sp;rw[A]at y;exact⟨g5,u.heap.size,rfl,rfl,⟨c,a,f,d,b,g,e,(v.written _ _ _).alloc _,(B.set3 v _ _ _).alloc _⟩,⟨j,h,m,k,i,o,l,y,(C.set3 v _ _ _).alloc _⟩,(z.far3 om).alloc _,x.alloc x.size _,D,z.2.2.2.2.2.2⟩
theorem cut2_new5{a:Nat}{g:Bool}{b c e:A_}{v:Nat}{t:TypeId}(x:Qa u (ag #[G f,V b l h,V c m i]) p q)(y:Qa u (ag #[G g,V d o j,V e v k]) r s)(z:ZBox u (w.heap.size+1+1))(hb:b_ w u)(B:ZBox u a)(A:w.heap.size+1+1<a):
 Cut2 w p r q s (p_ u.heap.size 0) (p_ a 0) ((set3 u a (G g) (V d o j) (V e v k)).alloc (cl #[G f,V b l h,V c m i] t)):=by
 obtain⟨g,c,a,b,d,e,f,h,i,j⟩:=cut2_new6 (w:=w) (t:=t) y x z hb B A;exact⟨c,g,b,a,e,d,f,h,j,i⟩
theorem cut2_both{e:Bool}{b c:A_}{v:Nat}{t:TypeId}(x:Qa u (ag #[G e,V a l h,V b m i]) p q)(y:Qa u (ag #[G f,V c o j,V d v k]) r s)(g:ZBox u (w.heap.size+1+1))(hb:b_ w u):
 Cut2 w p r q s (p_ u.heap.size 0) (p_ (u.heap.size+1) 0) ((u.alloc (cl #[G e,V a l h,V b m i] t)).alloc (cl #[G f,V c o j,V d v k] t)):=
 ⟨u.heap.size,u.heap.size+1,rfl,rfl,⟨e,a,l,h,b,m,i,(Xn _ _ _ _ _).alloc _,(x.alloc _).alloc _⟩,⟨f,c,o,j,d,v,k,Xv _ _ _ _ _ _,(y.alloc _).alloc _⟩,(g.alloc _).alloc _,(hb.alloc hb.size _).alloc (zF hb.size sp) _,g.2.2.2.2.2.2,Nat.lt_succ_of_lt g.2.2.2.2.2.2⟩
theorem cut2_both'{e:Bool}{b c:A_}{t:TypeId}(v:Qa u (ag #[G e,V a k g,V b l h]) p q)(x:Qa u (ag #[G f,V c m i,V d o j]) r s)(y:ZBox u (w.heap.size+1+1))(hb:b_ w u):
 Cut2 w p r q s (p_ (u.heap.size+1) 0) (p_ u.heap.size 0) ((u.alloc (cl #[G f,V c m i,V d o j] t)).alloc (cl #[G e,V a k g,V b l h] t)):=by
 obtain⟨g,c,a,b,d,e,f,h,i,j⟩:=cut2_both x v y hb;exact⟨c,g,b,a,e,d,f,h,j,i⟩
theorem ftimes_any(K:Nat)(hK:K+K<=1073741822)(hO:zfj (K+K))(w:H)(x y:Value)(p r:Int)(q s:Nat)(h:Qa w x p q)(k:Qa w y r s)(hp:p.natAbs<4294967296^K)(hr:r.natAbs<4294967296^K)(hq:q<4294967296^K)(hs:s<4294967296^K):
 C_ 59 #[x,y] w fun e w'=>∃t,e=Xa t/\Qa w' t ((p*r)/(Nat.gcd (p*r).natAbs (q*s):Int)) ((q*s)/Nat.gcd (p*r).natAbs (q*s))/\b_ w w':=by
 obtain⟨W,T,a8,a0,U,l',a1,rfl,hv,hb,hu,an,hg⟩:=h.parts;obtain⟨Z,X,a9,a4,Y,m',a7,rfl,aT,ax,aS,al,aj⟩:=k.parts;have i:Held w W Z T U X Y a8 a0 l' a1 a9 a4 m' a7 p r q s (((w.alloc (cl #[G W,V T a8 a0,V U l' a1] 66)).alloc (cl #[G Z,V X a9 a4,V Y m' a7] 66)).alloc (cl #[G false,V_,V_] 66)):=
  ⟨((Xn _ _ _ _ _).alloc _).alloc _,(Xv _ _ _ _ _ _).alloc _,QQ.new2 _ _ _ _ _ _ _,((h.alloc _).alloc _).alloc _,((k.alloc _).alloc _).alloc _,zbt w _ _ _,sp⟩
 clear hv hb hu aT ax aS h k;obtain⟨c,hd1⟩:∃c,c=Nat.gcd p.natAbs s:=⟨_,rfl⟩;obtain⟨d,hd2⟩:∃d,d=Nat.gcd r.natAbs q:=⟨_,rfl⟩;have S:=zf (times_low hg.out aj.out an al hd1 hd2);have ad:=zf hd1;have ae:=zf hd2;have N:4294967296^K<=4294967296^(K+K):=ZD om om;have aI:=zK hp N;have aO:=zK hr N;have aK:=zK hq N;have aR:=zK hs N;obtain⟨w1,ab,wx⟩:=zrE (z:=p) (n:=s) om;obtain⟨w2,aa,wy⟩:=zrE (z:=r) (n:=q) om;rw[<-hd1]at w1 ab;rw[<-hd2]at w2 aa;have aw:=QE an al;have aQ:s/c<4294967296^K:=qu (zdE _ _) hs;have aJ:q/d<4294967296^K:=qu (zdE _ _) hq;have aC:(p/(c:Int)).natAbs<4294967296^K:=by
  refine qu ?_ hp;by_cases aB:p=0
  ·subst aB;simp
  ·rw[hd1];exact zeS om zdiv_abs_dvd
 have aM:(r/(d:Int)).natAbs<4294967296^K:=by
  refine qu ?_ hr;by_cases aL:r=0
  ·subst aL;simp
  ·rw[hd2];exact zeS om zdiv_abs_dvd
 clear hd1 hd2 hg aj N w1 w2 wx wy;go_enter func59,ntmps59
 go_wp2;generalize (((w.alloc (cl #[G W,V T a8 a0,V U l' a1] 66)).alloc (cl #[G Z,V X a9 a4,V Y m' a7] 66)).alloc (cl #[G false,V_,V_] 66))=f at i⊢;have i0:=i.1;obtain⟨aU,aV,aW,aX,aY,aZ,b0⟩:=i0;have j0:=i.2.1;obtain⟨b1,b3,b4,b7,b8,b9,ba⟩:=j0;have aP:=i.2.2.2.2.2.2;have l0:f.heap.size<=f.heap.size:=zh _;have r0:f.heap.size<=f.heap.size+1:=Nat.le_succ _;go_cut [5,6] (fun s5 s6 wc=>Cut2 w (p/(c:Int)) (r/(d:Int)) (s/c) (q/d) s5 s6 wc)
 case first=>
  rename_i aN J1 K1 bx bz
  clear aN;go_region_held3 (fun w'=>w'.cell? (y_ w 0)=E (G W)/\w'.cell? (y_ w 1)=E (V T a8 a0)/\w'.cell? (y_ w 2)=E (V U l' a1)/\w'.cell? (x_ w 0)=E (G Z)/\w'.cell? (x_ w 1)=E (V X a9 a4)/\w'.cell? (x_ w 2)=E (V Y m' a7)) (first|(refine⟨?_,?_,?_,?_,?_,?_⟩<;>first|(rw[far,far,far]<;>first|with_reducible assumption|omega)|exact Ext.cell (w:=f) (by repeat(first|with_reducible exact Xe _|with_reducible assumption|with_reducible refine Xz ?_|with_reducible refine Xy ?_ _|with_reducible refine Ext.set3 ?_ (by first|with_reducible assumption|omega) _ _ _)) (by with_reducible assumption))|go_keep) (first|(go_at_call 39;have A:=M;refine(zie (K+K) hK hO _ _ _ r q (i.ext ee).2.2.2.2.1.whole' (M.ext ee) om aO aK).mono ?_;rintro e b ⟨tD,rfl,j,J⟩;have a:Ext o b:=Xi ee (Xf J);have nD:=J.size;(try simp only[zL,World.size_drew]at nD);have mD:=a.size;have R:=Xi zC a;have lD:=R.size;have rD:f.heap.size<=b.heap.size+1:=Nat.le_succ_of_le lD;rw[<-ae.out]at j;have C:=B.ext (g.trans a);obtain⟨b5,a5,l5,k5,af,ar,ap,rfl,_,_,_,_,_⟩:=C.parts;obtain⟨b6,a6,l6,k6,ah,au,aq,rfl,_,_,_,_,_⟩:=j.parts;(try(have bb:ZBox b f.heap.size:=(by refine Xx ((Xf D).trans (u.trans (g.trans a))) ?_;first|with_reducible exact ZBox.oneD _|with_reducible exact ZBox.oneD' _ _);have bj:=bb;obtain⟨_,_,_,_,_,_,_⟩:=bj));(try(have bc:ZBox b (f.heap.size+1):=(by refine Xx ((Xf D).trans (u.trans (g.trans a))) ?_;first|with_reducible exact ZBox.twoD _ _);have bl:=bc;obtain⟨_,_,_,_,_,_,_⟩:=bl));(try(have bd:ZBox b l.heap.size:=(by refine Xx ((Xf F).trans (g.trans a)) ?_;first|with_reducible exact ZBox.one _|with_reducible exact ZBox.one' _ _);have bn:=bd;obtain⟨_,_,_,_,_,_,_⟩:=bn));(try(have be:ZBox b (l.heap.size+1):=(by refine Xx ((Xf F).trans (g.trans a)) ?_;first|with_reducible exact ZBox.two _ _);have bp:=be;obtain⟨_,_,_,_,_,_,_⟩:=bp));(try(have bf:ZBox b m.heap.size:=(by refine Xx ((Xf I).trans a) ?_;first|with_reducible exact ZBox.one _|with_reducible exact ZBox.one' _ _);have bq:=bf;obtain⟨_,_,_,_,_,_,_⟩:=bq));(try(have bg:ZBox b (m.heap.size+1):=(by refine Xx ((Xf I).trans a) ?_;first|with_reducible exact ZBox.two _ _);have br:=bg;obtain⟨_,_,_,_,_,_,_⟩:=br));(try(have bh:ZBox b o.heap.size:=(by refine Xx ((Xf J).trans (Xe _)) ?_;first|with_reducible exact ZBox.one _|with_reducible exact ZBox.one' _ _);have bs:=bh;obtain⟨_,_,_,_,_,_,_⟩:=bs));(try(have bi:ZBox b (o.heap.size+1):=(by refine Xx ((Xf J).trans (Xe _)) ?_;first|with_reducible exact ZBox.two _ _);have bt:=bi;obtain⟨_,_,_,_,_,_,_⟩:=bt));skip)|(go_at_call 111;have A:=B;refine(zic _ _ p q (i.ext ee).2.2.2.1).mono ?_;rintro e o ⟨tC,rfl,M,I⟩;have g:Ext m o:=Xi ee (Xf I);have nC:=I.size;(try simp only[zL,World.size_drew]at nC);have mC:=g.size;have zC:=Xi zB g;have lC:=zC.size;have rC:f.heap.size<=o.heap.size+1:=Nat.le_succ_of_le lC;skip)|(go_at_call 39;have A:=L;refine(zie (K+K) hK hO _ _ _ p s (i.ext ee).2.2.2.1.whole' (L.ext ee) om aI aR).mono ?_;rintro e m ⟨tB,rfl,B,F⟩;have u:Ext l m:=Xi ee (Xf F);have nB:=F.size;(try simp only[zL,World.size_drew]at nB);have mB:=u.size;have zB:=Xi zA u;have lB:=zB.size;have rB:f.heap.size<=m.heap.size+1:=Nat.le_succ_of_le lB;rw[<-ad.out]at B)|(go_at_call 111;refine(zic _ _ r s (i.ext ee).2.2.2.2.1).mono ?_;rintro e l ⟨tA,rfl,L,D⟩;have eA:Ext f l:=Xi ee (Xf D);have nA:=D.size;(try simp only[zL,World.size_drew]at nA);have mA:=eA.size;have zA:=eA;have lA:=zA.size;have rA:f.heap.size<=l.heap.size+1:=Nat.le_succ_of_le lA;skip))
  all_goals go_wp2_with fail
  all_goals go_meet
  all_goals have Q:=(i.ext R).2.2.1
  all_goals have P:=(i.ext R).2.2.2.2.2.1
  all_goals first|(with_reducible refine cut2_both C j Q P)|(with_reducible refine cut2_both' C j Q P)|(with_reducible refine cut2_new6 C j Q P ?_ ?_)|(with_reducible refine cut2_new5 C j Q P ?_ ?_)|(with_reducible refine cut2_old C j Q P ?_ ?_ ?_ ?_ ?_)
  all_goals first|with_reducible assumption|omega
 case rest=>
  obtain⟨g5,g6,rfl,rfl,⟨b5,a5,l5,k5,af,ar,ap,x5,y5⟩,⟨b6,a6,l6,k6,ah,au,aq,x6,y6⟩,hz,ai,_,_⟩:=hcut;clear i aU aV aW aX aY aZ b0 b1 b3 b4 b7 b8 b9 ba aP l0 r0;have t5:=x5;have t6:=x6;obtain⟨_,_,_,_,_,_,_⟩:=t5;obtain⟨_,_,_,_,_,_,_⟩:=t6;have ak:=low_unique (QE ab aa) S.out.2 S.out.1 aw;have HW:=zf ak;have HG:=zf S.out.1;have aA:=QE ab aa;clear ak S ad ae;go_wp2;go_region_held3 (fun w'=>w'.cell? (Xd g5 0 O)=E (G b5)/\w'.cell? (Xd g5 1 O)=E (V a5 l5 k5)/\w'.cell? (Xd g5 2 O)=E (V af ar ap)/\w'.cell? (Xd g6 0 O)=E (G b6)/\w'.cell? (Xd g6 1 O)=E (V a6 l6 k6)/\w'.cell? (Xd g6 2 O)=E (V ah au aq)) (first|(refine⟨?_,?_,?_,?_,?_,?_⟩<;>first|(rw[far,far,far]<;>first|with_reducible assumption|omega)|exact Ext.cell (w:=wc) (by repeat(first|with_reducible exact Xe _|with_reducible assumption|with_reducible refine Xz ?_|with_reducible refine Xy ?_ _|with_reducible refine Ext.set3 ?_ (by first|with_reducible assumption|omega) _ _ _)) (by with_reducible assumption))|go_keep) (first|(go_at_call 76;have A:=j;refine(zid _ _ _ (p/(c:Int)*(r/(d:Int))) (s/c*(q/d)) (L.ext ee) (j.ext ee) aA HG).mono ?_;rintro e wE ⟨_,rfl,av,az⟩;have eE:Ext b wE:=Xi ee (Xf az);have zE:=Xi R eE;have bA:=Xi bv eE;have bB:=Xi bw eE;have bC:=Xi a eE;have uE:=x5.ext zE;obtain⟨_,_,_,_,_,_,_⟩:=uE;have vE:=x6.ext zE;obtain⟨_,_,_,_,_,_,_⟩:=vE;have cE:=QQ.ext hz zE;obtain⟨c0,c1,c2,_,_,_,_⟩:=cE;obtain⟨b2,a2,l2,k2,a3,l3,k3,rfl,aD,aE,aF,aG,aH⟩:=av.parts)|(go_at_call 114;have A:=M;refine(times_any _ _ _ (s/c) (q/d) K K (B.ext ee) (M.ext ee) aQ aJ om).mono ?_;rintro e b ⟨tD,rfl,j,J⟩;have a:Ext o b:=Xi ee (Xf J);have R:=Xi zC a;have bv:=Xi bu a;have bw:=Xi g a)|(go_at_call 111;have A:=B;refine(zic _ _ (r/(d:Int)) (q/d) (y6.ext ee)).mono ?_;rintro e o ⟨tC,rfl,M,I⟩;have g:Ext m o:=Xi ee (Xf I);have zC:=Xi zB g;have bu:=Xi u g)|(go_at_call 111;have A:=L;refine(zic _ _ (p/(c:Int)) (s/c) (y5.ext ee)).mono ?_;rintro e m ⟨tB,rfl,B,F⟩;have u:Ext l m:=Xi ee (Xf F);have zB:=Xi zA u)|(go_at_call 115;refine(zam _ _ _ (p/(c:Int)) (r/(d:Int)) K K om (y5.ext ee).whole' (y6.ext ee).whole' aC aM).mono ?_;rintro e l ⟨tA,rfl,L,D⟩;have eA:Ext wc l:=Xi ee (Xf D);have zA:=eA))
  have ay:=ai.trans (zE.mono ai.size);go_wp2;rw[HW.out.1,HW.out.2];exact zH (v:=ag #[G b2,V a2 l2 k2,V a3 l3 k3]) (by simp[results,results59,go_sem,c0,c1,c2]) rfl ⟨_,rfl,zbe aD aE aF aG aH c0 c1 c2,
   ((ay.setCell so _).setCell so _).setCell so _⟩
theorem fplus_any(K M:Nat)(hK:K+K+1<=1073741822)(hM:M<=1073741822)(hO:zfj M)(w:H)(x y:Value)(p r:Int)(q s:Nat)(h:Qa w x p q)(k:Qa w y r s)(hp:p.natAbs<4294967296^K)(hr:r.natAbs<4294967296^K)(hq:q<4294967296^K)(hs:s<4294967296^K)(hZ:(p*s+r*q).natAbs<4294967296^M)(hN:q*s<4294967296^M):
 C_ 57 #[x,y] w fun e w'=>∃t,e=Xa t/\Qa w' t ((p*s+r*q)/(Nat.gcd (p*s+r*q).natAbs (q*s):Int)) ((q*s)/Nat.gcd (p*s+r*q).natAbs (q*s))/\b_ w w':=by
 obtain⟨ab,ao,aq,ah,aa,l',ai,rfl,hv,hb,hu,a4,hg⟩:=h.parts;obtain⟨af,bo,av,aj,ae,m',ak,rfl,cc,bY,bL,aS,bC⟩:=k.parts;have X:Held w ab af ao aa bo ae aq ah l' ai av aj m' ak p r q s (((w.alloc (cl #[G ab,V ao aq ah,V aa l' ai] 66)).alloc (cl #[G af,V bo av aj,V ae m' ak] 66)).alloc (cl #[G false,V_,V_] 66)):=
  ⟨((Xn _ _ _ _ _).alloc _).alloc _,(Xv _ _ _ _ _ _).alloc _,QQ.new2 _ _ _ _ _ _ _,((h.alloc _).alloc _).alloc _,((k.alloc _).alloc _).alloc _,zbt w _ _ _,sp⟩
 clear hv hb cc bY h k;have c8:=znl hp hs;have c9:=znl hr hq;have bx:=QE a4 aS;have be:=qu (JM q aS) hN;have bK:=qu (Jd s a4) hN;go_enter func57,ntmps57
 go_wp2;generalize (((w.alloc (cl #[G ab,V ao aq ah,V aa l' ai] 66)).alloc (cl #[G af,V bo av aj,V ae m' ak] 66)).alloc (cl #[G false,V_,V_] 66))=w0 at X⊢;have i0:=X.1;obtain⟨aA,aB,aC,aD,aE,aF,aG⟩:=i0;have j0:=X.2.1;obtain⟨aH,aI,aJ,aK,aL,aM,aN⟩:=j0;have bf:=X.2.2.2.2.2.2;go_cut [5] (fun s5 wc=>NatV wc s5 (Nat.gcd q s)/\Ext w0 wc)
 case first=>
  go_region_held3 (fun w'=>w'.cell? (y_ w 0)=E (G ab)/\w'.cell? (y_ w 1)=E (V ao aq ah)/\w'.cell? (y_ w 2)=E (V aa l' ai)/\w'.cell? (x_ w 0)=E (G af)/\w'.cell? (x_ w 1)=E (V bo av aj)/\w'.cell? (x_ w 2)=E (V ae m' ak)) (first|(refine⟨?_,?_,?_,?_,?_,?_⟩<;>first|(rw[far,far,far]<;>first|with_reducible assumption|omega)|exact Ext.cell (w:=w0) (by repeat(first|with_reducible exact Xe _|with_reducible assumption|with_reducible refine Xz ?_|with_reducible refine Xy ?_ _|with_reducible refine Ext.set2 ?_ (by first|with_reducible assumption|omega) _ _|with_reducible refine Ext.set3 ?_ (by first|with_reducible assumption|omega) _ _ _)) (by with_reducible assumption))|go_keep) (first|(go_at_call 73;have f:=A;refine(zmZ M om hO _ _ _ q s (b.ext ee) (A.ext ee) be bK).mono ?_;rintro e o ⟨tC,rfl,J,Z⟩;have i:Ext l o:=Xi ee (Xf Z);have D:=Xi C i;have ay:=Xi u i;have lC:=D.size)|(go_at_call 111;have f:=b;refine(zic _ _ r s (X.ext ee).2.2.2.2.1).mono ?_;rintro e l ⟨tB,rfl,A,Y⟩;have u:Ext a l:=Xi ee (Xf Y);have C:=Xi B u;have lB:=C.size)|(go_at_call 111;refine(zic _ _ p q (X.ext ee).2.2.2.1).mono ?_;rintro e a ⟨tA,rfl,b,m⟩;have eA:Ext w0 a:=Xi ee (Xf m);have B:=eA;have lA:=B.size))
  go_wp2_with fail
  go_meet
  exact⟨J,D⟩
 case rest=>
  obtain⟨W,bO⟩:=hcut;obtain⟨_,_,_,rfl⟩:=W.slice;have c:=X.ext bO;clear X aA aB aC aD aE aF aG aH aI aJ aK aL aM aN bf;have i0:=c.1;obtain⟨aA,aB,aC,aD,aE,aF,aG⟩:=i0;have j0:=c.2.1;obtain⟨aH,aI,aJ,aK,aL,aM,aN⟩:=j0;have bf:=c.2.2.2.2.2.2;clear bO;by_cases b7:Nat.gcd q s=1
  ·rw[b7]at W;have HG:Hid (Nat.gcd (p*s+r*q).natAbs (q*s)=1):=plus_low1 hg.out bC.out b7;go_wp2_with fail
   refine(zha _ _ W).mono ?_;rintro e w1 ⟨rfl,rfl⟩;go_wp2;go_region_held3 (fun w'=>w'.cell? (y_ w 0)=E (G ab)/\w'.cell? (y_ w 1)=E (V ao aq ah)/\w'.cell? (y_ w 2)=E (V aa l' ai)/\w'.cell? (x_ w 0)=E (G af)/\w'.cell? (x_ w 1)=E (V bo av aj)/\w'.cell? (x_ w 2)=E (V ae m' ak)) (first|(refine⟨?_,?_,?_,?_,?_,?_⟩<;>first|(rw[far,far,far]<;>first|with_reducible assumption|omega)|exact Ext.cell (w:=w1) (by repeat(first|with_reducible exact Xe _|with_reducible assumption|with_reducible refine Xz ?_|with_reducible refine Xy ?_ _|with_reducible refine Ext.set2 ?_ (by first|with_reducible assumption|omega) _ _|with_reducible refine Ext.set3 ?_ (by first|with_reducible assumption|omega) _ _ _)) (by with_reducible assumption))|go_keep) (first|(go_at_call 76;have f:=bw;refine(zid _ _ _ (p*s+r*q) (q*s) (J.ext ee) (bw.ext ee) bx HG).mono ?_;rintro e wG ⟨_,rfl,bW,c5⟩;have eG:Ext wF wG:=Xi ee (Xf c5);have zG:=Xi zF eG;have cK:=Xi cE eG;have cL:=Xi cF eG;have cM:=Xi cH eG;have cN:=Xi cI eG;have cO:=Xi eF eG;have lG:=zG.size;have aP:=c.ext zG;have uG:=aP.1;obtain⟨_,_,_,_,_,_,_⟩:=uG;have vG:=aP.2.1;obtain⟨_,_,_,_,_,_,_⟩:=vG;have cG:=aP.2.2.1;obtain⟨c0,c1,c2,f0,f1,f2,g0⟩:=cG;obtain⟨b2,a2,l2,k2,a3,l3,k3,rfl,b8,b9,ba,bb,bc⟩:=bW.parts)|(go_at_call 114;have f:=L;refine(times_any _ _ _ q s K K (a0.ext ee) (L.ext ee) hq hs om).mono ?_;rintro e wF ⟨_,rfl,bw,c3⟩;have eF:Ext Q wF:=Xi ee (Xf c3);have zF:=Xi S eF;have cE:=Xi bj eF;have cF:=Xi bl eF;have cH:=Xi bn eF;have cI:=Xi z eF;have lF:=zF.size)|(go_at_call 111;have f:=a0;refine(zic _ _ r s (c.ext ee).2.2.2.2.1).mono ?_;rintro e Q ⟨tE,rfl,L,aQ⟩;have z:Ext T Q:=Xi ee (Xf aQ);have S:=Xi R z;have bj:=Xi aX z;have bl:=Xi aY z;have bn:=Xi j z;have lE:=S.size)|(go_at_call 111;have f:=J;refine(zic _ _ p q (c.ext ee).2.2.2.1).mono ?_;rintro e T ⟨tD,rfl,a0,al⟩;have j:Ext o T:=Xi ee (Xf al);have R:=Xi D j;have aX:=Xi ay j;have aY:=Xi i j;have lD:=R.size)|(go_at_call 113;have f:=A;refine(zeF _ _ _ (p*s) (r*q) (K+K) om (b.ext ee) (A.ext ee) c8 c9).mono ?_;rintro e o ⟨tC,rfl,J,Z⟩;have i:Ext l o:=Xi ee (Xf Z);have D:=Xi C i;have ay:=Xi u i;have lC:=D.size)|(go_at_call 112;have f:=b;refine(znk _ _ _ r p s q K K om (c.ext ee).2.2.2.2.1 (c.ext ee).2.2.2.1 hr hq).mono ?_;rintro e l ⟨tB,rfl,A,Y⟩;have u:Ext a l:=Xi ee (Xf Y);have C:=Xi B u;have lB:=C.size)|(go_at_call 112;refine(znk _ _ _ p r q s K K om (c.ext ee).2.2.2.1 (c.ext ee).2.2.2.2.1 hp hs).mono ?_;rintro e a ⟨tA,rfl,b,m⟩;have eA:Ext w1 a:=Xi ee (Xf m);have B:=eA;have lA:=B.size))
   have c4:=aP.2.2.2.2.2.1;go_wp2;rw[HG.out,Nat.div_one,zdF,Int.ediv_one];exact zH (v:=ag #[G b2,V a2 l2 k2,V a3 l3 k3]) (by simp[results,results57,go_sem,c0,c1,c2]) rfl ⟨_,rfl,zbe b8 b9 ba bb bc c0 c1 c2,
    ((c4.setCell so _).setCell so _).setCell so _⟩
  ·obtain⟨aw,n2,bQ,aT,n5⟩:=gcd_parts (s:=s) a4;generalize b5:Nat.gcd q s=g at *;have bH:q≠1:=by intro e;rw[e,Nat.gcd_one_left]at b5;omega
   have bI:s≠1:=by intro e;rw[e,Nat.gcd_one_right]at b5;omega
   rw[(zgc a4 bH).1]at hu;rw[(zgc aS bI).1]at bL;go_wp2_with fail
   refine(ziv _ _ _ W b7).mono ?_;rintro e w1 ⟨rfl,rfl⟩;have bM:NatV w1 (V aa l' ai) q:=by
    have h1:=c.2.2.2.1.parts;obtain⟨_,_,_,_,_,_,_,e,_,_,h2,_,_⟩:=h1;simp only[zdU,Array.mk.injEq,za5,qp,Value.bool.injEq,zel]at e;obtain⟨rfl,⟨rfl,rfl,rfl⟩,rfl,rfl,rfl⟩:=e;rwa [(zgc a4 bH).1]at h2
   have bN:NatV w1 (V ae m' ak) s:=by
    have h1:=c.2.2.2.2.1.parts;obtain⟨_,_,_,_,_,_,_,e,_,_,h2,_,_⟩:=h1;simp only[zdU,Array.mk.injEq,za5,qp,Value.bool.injEq,zel]at e;obtain⟨rfl,⟨rfl,rfl,rfl⟩,rfl,rfl,rfl⟩:=e;rwa [(zgc aS bI).1]at h2
   clear hu bL;have b4:=qu (zeS a4 ⟨_,aw⟩) be;go_wp2_with fail
   refine(hO _ _ _ q g bM W be b4).mono ?_;rintro e w2 ⟨_,_,rfl,h6,h7,bz⟩;have ax:Ext w1 w2:=bz;obtain⟨_,_,_,rfl⟩:=h6.slice;have i1:=(c.ext ax).1;obtain⟨ce,cf,cg,ch,ci,cj,ck⟩:=i1;have j1:=(c.ext ax).2.1;obtain⟨cm,cn,co,cp,cq,cr,ct⟩:=j1;go_wp2_with fail
   refine(hO _ _ _ s g (bN.ext ax) (W.ext ax) bK b4).mono ?_;rintro e w3 ⟨_,_,rfl,h8,h9,bA⟩;have bi:Ext w2 w3:=bA;have bh:=ax.trans bi;obtain⟨_,_,_,rfl⟩:=h8.slice;have b0:=h6.ext bi;have a1:=c.ext bh;have bq:=W.ext bh;have cd:=a1.2.2.2.2.2.2;clear bz bA h7 h9 ax bi bh h6 c W bM bN aA aB aC aD aE aF aG aH aI aJ aK aL aM aN bf ce cf cg ch ci cj ck cm cn co cp cq cr ct;have i0:=a1.1;obtain⟨aA,aB,aC,aD,aE,aF,aG⟩:=i0;have j0:=a1.2.1;obtain⟨aH,aI,aJ,aK,aL,aM,aN⟩:=j0;go_wp2;obtain⟨U,hUd⟩:∃U:Int,U=p*((s/g:Nat):Int)+r*((q/g:Nat):Int):=⟨_,rfl⟩;obtain⟨d,hdd⟩:∃d,d=Nat.gcd U.natAbs g:=⟨_,rfl⟩;have bF:=bQ;have aR:=plus_low2 hg.out bC.out aw n2 bF aT hUd hdd;have bg:s/g<4294967296^K:=qu (zdE _ _) hs;have bd:q/g<4294967296^K:=qu (zdE _ _) hq;have ca:=znl hp bg;have cb:=znl hr bd;have bX:U.natAbs<4294967296^M:=by
    refine qu ?_ hZ;have e1:p*(s:Int)+r*(q:Int)=U*(g:Int):=by
     rw[hUd];conv=>lhs;rw[aw,n2]
     push_cast
     grind
    rw[e1,zbv,Q9];exact JM _ aT
   have bB:0<d:=by rw[hdd];exact Nat.gcd_pos_of_pos_right _ aT
   have bD:=Nat.div_pos (by rw[hdd];exact zeS aT (zcV _ _)) bB;have b6:g/d<=g:=zdE _ _;have bE:g/d*(q/g)<=q:=by
    conv=>rhs;rw[aw]
    exact zZ _ b6
   have c6:=qu (zF b6 (zeS a4 ⟨_,aw⟩)) hq;have c7:=qu bE hq;have bJ:0<s/g:=Z3 (by intro e;rw[e,Ql]at n2;omega);have bG:=QE (QE bD n5) bJ;have HW:=zf (low_unique bG aR.2 aR.1 bx);have bT:=zf aR.1;have bS:=zf hdd;have bV:=zf hUd;clear aR hdd hUd aw n2 bQ bF bE b6 bB bD bJ b5 hZ;have l0:w3.heap.size<=w3.heap.size:=zh _;go_cut [10] (fun cv w4=>∃(aZ:Nat) (I:Bool) (F:A_) (P N:Nat),cv=p_ aZ 0/\Zh w4 aZ (G I) (V F P N)/\zy w4 (ag #[G I,V F P N]) U/\Ext w3 w4)
   case first=>
    go_region_held3 (fun w'=>w'.cell? (y_ w 0)=E (G ab)/\w'.cell? (y_ w 1)=E (V ao aq ah)/\w'.cell? (x_ w 0)=E (G af)/\w'.cell? (x_ w 1)=E (V bo av aj)) (first|(refine⟨?_,?_,?_,?_⟩<;>first|(rw[far,far,far]<;>first|with_reducible assumption|omega)|exact Ext.cell (w:=w3) (by repeat(first|with_reducible exact Xe _|with_reducible assumption|with_reducible refine Xz ?_|with_reducible refine Xy ?_ _|with_reducible refine Ext.set2 ?_ (by first|with_reducible assumption|omega) _ _|with_reducible refine Ext.set3 ?_ (by first|with_reducible assumption|omega) _ _ _)) (by with_reducible assumption))|go_keep) (first|(go_at_call 113;have f:=a0;refine(zeF _ _ _ (p*((s/g:Nat):Int)) (r*((q/g:Nat):Int)) (K+K) om (A.ext ee) (a0.ext ee) ca cb).mono ?_;rintro e Q ⟨tE,rfl,L,aQ⟩;have z:Ext T Q:=Xi ee (Xf aQ);have S:=Xi R z;have bj:=Xi aX z;have bl:=Xi aY z;have bn:=Xi j z;have lE:=S.size;obtain⟨I,F,P,N,rfl,_,_⟩:=L.parts;(try(have o0:ZBox2 Q w3.heap.size:=(by refine ZBox2.ext ((Xf m).trans bj) ?_;with_reducible exact ZBox2.oneD _);have q0:=o0;obtain⟨_,_,_,_,_⟩:=q0));(try(have oA:ZBox2 Q a.heap.size:=(by refine ZBox2.ext ((Xf Y).trans bl) ?_;with_reducible exact ZBox2.one _);have qA:=oA;obtain⟨_,_,_,_,_⟩:=qA));(try(have oB:ZBox2 Q l.heap.size:=(by refine ZBox2.ext ((Xf Z).trans bn) ?_;with_reducible exact ZBox2.one _);have qB:=oB;obtain⟨_,_,_,_,_⟩:=qB));(try(have oC:ZBox2 Q o.heap.size:=(by refine ZBox2.ext ((Xf al).trans z) ?_;with_reducible exact ZBox2.one _);have qC:=oC;obtain⟨_,_,_,_,_⟩:=qC));(try(have oD:ZBox2 Q T.heap.size:=(by refine ZBox2.ext ((Xf aQ).trans (Xe _)) ?_;with_reducible exact ZBox2.one _);have qD:=oD;obtain⟨_,_,_,_,_⟩:=qD)))|(go_at_call 115;have f:=J;refine(zam _ _ _ r ((q/g:Nat):Int) K K om (a1.ext ee).2.2.2.2.1.whole' (J.ext ee) hr (by rw[Q9];exact bd)).mono ?_;rintro e T ⟨tD,rfl,a0,al⟩;have j:Ext o T:=Xi ee (Xf al);have R:=Xi D j;have aX:=Xi ay j;have aY:=Xi i j;have lD:=R.size)|(go_at_call 116;have f:=A;refine(zaR _ _ (q/g) (b0.ext ee)).mono ?_;rintro e o ⟨tC,rfl,J,Z⟩;have i:Ext l o:=Xi ee (Xf Z);have D:=Xi C i;have ay:=Xi u i;have lC:=D.size)|(go_at_call 115;have f:=b;refine(zam _ _ _ p ((s/g:Nat):Int) K K om (a1.ext ee).2.2.2.1.whole' (b.ext ee) hp (by rw[Q9];exact bg)).mono ?_;rintro e l ⟨tB,rfl,A,Y⟩;have u:Ext a l:=Xi ee (Xf Y);have C:=Xi B u;have lB:=C.size)|(go_at_call 116;refine(zaR _ _ (s/g) (h8.ext ee)).mono ?_;rintro e a ⟨tA,rfl,b,m⟩;have eA:Ext w3 a:=Xi ee (Xf m);have B:=eA;have lA:=B.size))
    all_goals go_wp2_with fail
    all_goals go_meet
    all_goals rw[bV.out]
    all_goals first|exact⟨Q.heap.size,I,F,P,N,rfl,Xm _ _ _ _,L.alloc _,S.alloc _⟩|exact⟨T.heap.size,I,F,P,N,rfl,oD.stored,L.stored oD,S.set2 lD _ _⟩|exact⟨o.heap.size,I,F,P,N,rfl,oC.stored,L.stored oC,S.set2 lC _ _⟩|exact⟨l.heap.size,I,F,P,N,rfl,oB.stored,L.stored oB,S.set2 lB _ _⟩|exact⟨a.heap.size,I,F,P,N,rfl,oA.stored,L.stored oA,S.set2 lA _ _⟩|exact⟨w3.heap.size,I,F,P,N,rfl,o0.stored,L.stored o0,S.set2 l0 _ _⟩
   case rest=>
    obtain⟨aZ,I,F,P,N,rfl,bR,hU,aO⟩:=hcut;have br:=bq.ext aO;have bs:=b0.ext aO;have bu:=h8.ext aO;have b1:=a1.ext aO;clear bq b0 h8 a1 aO l0 aA aB aC aD aE aF aG aH aI aJ aK aL aM aN cd;have cw:=bR;obtain⟨cx,cy,cz,cA,cB⟩:=cw;go_wp2_with fail
    refine(zie M hM hO _ _ _ U g hU br om bX b4).mono ?_;rintro e a ⟨tA,rfl,b,m⟩;rw[<-bS.out]at b;obtain⟨ad,a7,ar,an,a9,au,ap,rfl,_,_,_,_,_⟩:=b.parts;have cJ:=b1.2.2.2.2.2.2;have aW:Ext wc (a.alloc (cl #[G ad,V a7 ar an,V a9 au ap] 66)):=Xy (Xf m) _;have cu:=m.size;have bt:=bs.ext aW;have bv:=bu.ext aW;have b3:=b1.ext aW;have bP:=b3.2.2.1;have aV:QQ (a.alloc (cl #[G ad,V a7 ar an,V a9 au ap] 66)) a.heap.size (G ad) (V a7 ar an) (V a9 au ap):=Xn _ _ _ _ _;have bp:=b.alloc (cl #[G ad,V a7 ar an,V a9 au ap] 66);obtain⟨az,hg11⟩:∃az,a.heap.size=az:=⟨_,rfl⟩;go_wp2;rw[hg11]at aV cu;clear m b br bs bu bR cx cy cz cA cB hU b1;generalize a.alloc (cl #[G ad,V a7 ar an,V a9 au ap] 66)=w5 at aW bt bv b3 bP aV bp⊢;clear hg11;have cC:=aV;obtain⟨_,_,_,_,_,_,_⟩:=cC;go_region_held3 (fun w'=>w'.cell? (Xd az 0 O)=E (G ad)/\w'.cell? (Xd az 1 O)=E (V a7 ar an)/\w'.cell? (Xd az 2 O)=E (V a9 au ap)) (first|(refine⟨?_,?_,?_⟩<;>first|(rw[far,far,far]<;>first|with_reducible assumption|omega)|exact Ext.cell (w:=w5) (by repeat(first|with_reducible exact Xe _|with_reducible assumption|with_reducible refine Xz ?_|with_reducible refine Xy ?_ _|with_reducible refine Ext.set2 ?_ (by first|with_reducible assumption|omega) _ _|with_reducible refine Ext.set3 ?_ (by first|with_reducible assumption|omega) _ _ _)) (by with_reducible assumption))|go_keep) (first|(go_at_call 76;have f:=J;refine(zid _ _ _ (U/(d:Int)) (g/d*(q/g)*(s/g)) (bp.ext ee).whole' (J.ext ee) bG bT).mono ?_;rintro e T ⟨tD,rfl,a0,al⟩;have j:Ext o T:=Xi ee (Xf al);have R:=Xi D j;have aX:=Xi ay j;have aY:=Xi i j;have lD:=R.size;have uD:=aV.ext R;obtain⟨_,_,_,_,_,_,_⟩:=uD;have cD:=QQ.ext bP R;obtain⟨c0,c1,c2,f0,f1,f2,g0⟩:=cD;obtain⟨b2,a2,l2,k2,a3,l3,k3,rfl,b8,b9,ba,bb,bc⟩:=a0.parts)|(go_at_call 114;have f:=A;refine(times_any _ _ _ (g/d*(q/g)) (s/g) K K (A.ext ee) (bv.ext ee) c7 bg om).mono ?_;rintro e o ⟨tC,rfl,J,Z⟩;have i:Ext l o:=Xi ee (Xf Z);have D:=Xi C i;have ay:=Xi u i;have lC:=D.size)|(go_at_call 114;have f:=b;refine(times_any _ _ _ (g/d) (q/g) K K (b.ext ee) (bt.ext ee) c6 bd om).mono ?_;rintro e l ⟨tB,rfl,A,Y⟩;have u:Ext a l:=Xi ee (Xf Y);have C:=Xi B u;have lB:=C.size)|(go_at_call 111;refine(zic _ _ (U/(d:Int)) (g/d) (bp.ext ee)).mono ?_;rintro e a ⟨tA,rfl,b,m⟩;have eA:Ext w5 a:=Xi ee (Xf m);have B:=eA;have lA:=B.size))
    have bZ:=(b3.ext R).2.2.2.2.2.1;go_wp2;rw[HW.out.1,HW.out.2];exact zH (v:=ag #[G b2,V a2 l2 k2,V a3 l3 k3]) (by simp[results,results57,go_sem,c0,c1,c2]) rfl ⟨_,rfl,zbe b8 b9 ba bb bc c0 c1 c2,
     ((bZ.setCell so _).setCell so _).setCell so _⟩
