import Derived.Test.YtfimidopoilmnaaGreatDoorFir5Z1
open Option renaming none->O,some->E
open Go.Value renaming slice->V,bool->G,int->it,agg->ag
open Go.Obj renaming cells->cl
open Go renaming World->H
open Go.Proofs.Tryz renaming prog->pg
open Go.Proofs.Tryz
open Go.Ending renaming returned->Xa
open Go.IntKind renaming i64->Xb
open Go.Addr renaming mk->Xd
set_option linter.unusedSimpArgs false
set_option linter.unusedVariables false
set_option maxHeartbeats 1000000
set_option maxRecDepth 100000
namespace Go.Proofs.YtfimidopoilmnaaGreatDoor
open Go.RowKit
variable {a:Addr}{b:Bool}{d g n q:Nat}{p z:Int}{v x y:Value}{w w':H}
theorem zmZ(K:Nat)(hK:K<=1073741823)(B:zfj K)(w:H)(u v:Value)(m n:Nat)(W:NatV w u m)(X:NatV w v n)(hm:m<4294967296^K)(Q:n<4294967296^K):
 Calls pg 117 #[u,v] w fun e w'=>∃x,e=Xa x/\NatV w' x (Nat.gcd m n)/\Below w.heap.size w w':=by
 go_enter func117,ntmps117
 go_wp2;go_loopg [0,1] n (fun y Y Z wr=>∃a,NatV wr Y a/\NatV wr Z y/\a<4294967296^K/\y<4294967296^K/\Hid (Nat.gcd a y=Nat.gcd m n)/\Below w.heap.size w wr)
 case atStart=>exact⟨m,W,X,hm,Q,rfl,qf _ _⟩
 case round=>
  obtain⟨a,g,h,p,d,j,b⟩:=hrel;obtain⟨k,S,L,_,I,_⟩:=J9 g p;obtain⟨i,T,M,U,r,_⟩:=J9 h d;have R:=g;have F:=h;obtain⟨_,_,rfl,_,_⟩:=S;obtain⟨_,_,rfl,_,_⟩:=T;by_cases D:gk=0
  ·have N:=U.zero.1 om;subst N;subst D;go_wp2;go_ret;refine⟨_,rfl,?_,b⟩;rw[<-j.out,Nat.gcd_zero_right];exact R
  ·have a1:0<i.length:=ZC.2 (fun e=>D (by rw[<-r,e];rfl));by_cases J:k.length<=2/\i.length<=2
   ·obtain⟨A,l⟩:=J;have C:a<18446744073709551616:=by
     have f:=val_lt L;have o:=pow_mono A;rw[I]at f;exact zK f o
    have q:gk<18446744073709551616:=by
     have f:=val_lt M;have o:=pow_mono l;rw[r]at f;exact zK f o
    have P:Nat.gcd a gk<18446744073709551616:=qu (Nat.gcd_le_right _ om) q;go_wp2_with fail
    refine(zfE _ _ a g C).mono ?_;rintro e w1 ⟨rfl,rfl⟩;go_wp2_with fail
    refine(zfE _ _ gk h q).mono ?_;rintro e w1 ⟨rfl,rfl⟩;go_wp2_with fail
    refine(zg7 _ a gk C q).mono ?_;rintro e z ⟨rfl,_,rfl⟩;go_wp2_with fail
    refine(ziX _ _ P).mono ?_;rintro e z ⟨x,rfl,s,c⟩;go_wp2;go_ret;refine⟨_,rfl,?_,b.trans ((JJ c).mono b.size)⟩;rw[<-j.out];exact s
   ·clear I r;by_cases A:k.length<=2
    ·have l:(2:Int)<i.length:=om;go_wp2_with fail
     refine(B _ _ _ a gk g h p d).mono ?_;rintro e z ⟨x,a0,rfl,s,t,c⟩;go_wp2;go_roundg (a%gk)
     case measure=>exact Z0 _ om
     case rel=>exact⟨gk,F.below c,t,d,zbr (Z0 _ om) d,by rw[Hid,<-j.out,zcv gk,<-Nat.gcd_rec,zcv],b.trans (c.mono b.size)⟩
    ·have l:(2:Int)<k.length:=om;go_wp2_with fail
     refine(B _ _ _ a gk g h p d).mono ?_;rintro e z ⟨x,a0,rfl,s,t,c⟩;go_wp2;go_roundg (a%gk)
     case measure=>exact Z0 _ om
     case rel=>exact⟨gk,F.below c,t,d,zbr (Z0 _ om) d,by rw[Hid,<-j.out,zcv gk,<-Nat.gcd_rec,zcv],b.trans (c.mono b.size)⟩
theorem NatV.slice(h:NatV w v n):∃a l cap,v=V a l cap:=by
 obtain⟨_,⟨a,cap,b,_⟩,_⟩:=h;exact⟨a,_,cap,b⟩
theorem NatV.setCell(h:NatV w v n)(l:w.cell? a=E y)(g:∀k,y≠it .u32 k)(x:Value):NatV (w.setCell a x) v n:=by
 obtain⟨d,⟨b,c,j,f,i⟩,e⟩:=h;refine⟨d,⟨b,c,j,f,fun f=>?_⟩,e⟩;obtain⟨b,off,d,e,c⟩:=i f;refine⟨b,off,d,by simpa using e,fun i b=>?_⟩;rw[zA _ _ _ _ (by
  intro d;have:=c i b;rw[<-d,l,qN]at this;exact g _ this)]
 exact c i b
def zy (w:H)(x:Value)(z:Int):Prop:=∃b v,x=ag #[G b,v]/\NatV w v z.natAbs/\Hid (b=decide (z<0))
theorem zy.below(h:zy w x z)(hb:Below w.heap.size w w'):zy w' x z:=by
 obtain⟨b,v,a,c,d⟩:=h;exact⟨b,v,a,c.below hb,d⟩
def sg (b:Bool)(n:Nat):Int:=if b then -(n:Int)else n
theorem sg_abs(b:Bool)(n:Nat):(sg b n).natAbs=n:=by cases b<;>simp[sg]
theorem sg_neg(b:Bool)(n:Nat):decide (sg b n<0)=(b && !(n == 0)):=by
 cases b;·simp[sg]
 ·by_cases h:n=0
  ·subst h;simp[sg]
  ·have a:=Z3 h;have c:=ZN.2 h;simp[sg,a,c]
theorem zhe{c:Bool}(h:NatV w v n)(a:c=(b && !(n == 0))):zy w (ag #[G c,v]) (sg b n):=
 ⟨c,v,rfl,by rw[sg_abs];exact h,by rw[Hid,sg_neg];exact a⟩
theorem QJ{e:Bool}{a:Option Addr}{c:Nat}(h:NatV w v z.natAbs)(hb:Hid (b=decide (z<0)))(f:w.cell? (Xd g 0 O)=E (G e))(h1:w.cell? (Xd g 1 O)=E (V a d c)):
 zy ((w.setCell (Xd g 0 O) (G b)).setCell (Xd g 1 O) v) (ag #[G b,v]) z:=by
 refine⟨b,v,rfl,?_,hb⟩;refine(h.setCell f sp _).setCell (y:=V a d c) ?_ sp _;rw[zA _ _ _ _ sp];exact h1
theorem zy.setCell(h:zy w x z)(g:w.cell? a=E y)(f:∀k,y≠it .u32 k)(u:Value):zy (w.setCell a u) x z:=by
 obtain⟨b,v,c,d,e⟩:=h;exact⟨b,v,c,d.setCell g f u,e⟩
theorem zy.drewN(h:zy w x z)(q:Nat):zy (w.drewN q) x z:=h
theorem zy.alloc(h:zy w x z)(o:Obj):zy (w.alloc o) x z:=h.below ((qf _ _).alloc (zh _) o)
theorem zy.parts(h:zy w x z):∃b a l cap,x=ag #[G b,V a l cap]/\NatV w (V a l cap) z.natAbs/\Hid (b=decide (z<0)):=by
 obtain⟨b,_,d,c,e⟩:=h;obtain⟨a,l,cap,rfl⟩:=c.slice;exact⟨b,a,l,cap,d,c,e⟩
theorem Jh(w:H)(b:Bool)(v:Value)(n:Nat)(h:NatV w v n):
 Calls pg 110 #[G b,v] w fun e w'=>∃x,e=Xa x/\zy w' x (sg b n)/\Below w.heap.size w w':=by
 obtain⟨a,l,c,rfl⟩:=h.slice;cases b with
 |false=>
  go_enter func110,ntmps110
  go_wp2;exact zH (v:=ag #[G false,V a l c]) (by simp[results,results110,go_sem]) rfl ⟨_,rfl,zhe (h.alloc _) rfl,(qf _ _).alloc (zh _) _⟩
 |true=>
  by_cases d:n=0
  ·subst d;go_enter func110,ntmps110
   go_wp2_with fail
   refine(JR _ _ (h.alloc _)).mono ?_;rintro e w' ⟨rfl,rfl⟩;go_wp2;exact zH (v:=ag #[G false,V a l c]) (by simp[results,results110,go_sem]) rfl ⟨_,rfl,zhe (h.alloc _) rfl,(qf _ _).alloc (zh _) _⟩
  ·go_enter func110,ntmps110
   go_wp2_with fail
   refine(jW _ _ n (h.alloc _) d).mono ?_;rintro e w' ⟨rfl,rfl⟩;go_wp2;exact zH (v:=ag #[G true,V a l c]) (by simp[results,results110,go_sem]) rfl ⟨_,rfl,zhe (h.alloc _) (by simp[d]),(qf _ _).alloc (zh _) _⟩
theorem zaR(w:H)(v:Value)(n:Nat)(h:NatV w v n):
 Calls pg 157 #[v] w fun e w'=>∃x,e=Xa x/\zy w' x (n:Int)/\Below w.heap.size w w':=by
 go_enter func157,ntmps157
 go_wp2_with fail
 refine(Jh _ _ _ n (h.alloc _)).mono ?_;rintro e w' ⟨x,rfl,b,a⟩;have c:=b;rw[show sg false n=(n:Int)from rfl]at b;obtain⟨i,g,m,j,rfl,l,k⟩:=b.parts;obtain⟨b,c⟩:=znh a;have d:=a.size;have d:w'.cell? (Xd w.heap.size 0 O)=E (G false):=by rw[b _ _ sp];simp
 have f:w'.cell? (Xd w.heap.size 1 O)=E (V O 0 0):=by rw[b _ _ sp];simp
 have o:w'.frozen? (Xd w.heap.size 0 O)=false:=by rw[c _ _ sp];simp
 have o:w'.frozen? (Xd w.heap.size 1 O)=false:=by rw[c _ _ sp];simp
 clear b c;go_wp2;exact zH (v:=ag #[G i,V g m j]) (by simp[results,results157,go_sem,d,f]) rfl ⟨_,rfl,QJ l k d f,
  ((((qf _ _).alloc (zh _) _).trans (a.mono sp)).setCell (zh _) _).setCell (zh _) _⟩
theorem zhf(h:Hid (b=decide (z<0))):z=sg b z.natAbs:=by
 have a:=h.out;subst a;by_cases a:z<0
 ·simp[sg,a];omega
 ·simp[sg,a];omega
theorem zaA(w:H)(A B:Obj):Below w.heap.size w ((w.alloc A).alloc B):=((qf _ _).alloc (zh _) _).alloc sp _
theorem zbt(w:H)(A B C:Obj):Below w.heap.size w (((w.alloc A).alloc B).alloc C):=(zaA w A B).alloc so _
theorem far{o h p:Nat}(a:g≠h):(w.setCell (Xd g o O) x).cell? (Xd h p O)=w.cell? (Xd h p O):=
 zA _ _ _ _ (fun e=>a (by injection e))
def Zh (w:H)(g:Nat)(x y:Value):Prop:=
 w.cell? (Xd g 0 O)=E x/\w.cell? (Xd g 1 O)=E y/\w.frozen? (Xd g 0 O)=false/\w.frozen? (Xd g 1 O)=false/\g<w.heap.size
theorem Zh.below(h:Zh w g x y)(hb:Below w.heap.size w w'):Zh w' g x y:=by
 obtain⟨b,c,d,e,a⟩:=h;exact⟨(hb.cell (p:=(Xd g 0 O)) a).trans b,(hb.cell (p:=(Xd g 1 O)) a).trans c,(hb.frozen (p:=(Xd g 0 O)) a).trans d,(hb.frozen (p:=(Xd g 1 O)) a).trans e,zK a hb.size⟩
theorem Zh.new(w:H)(x y:Value)(t:TypeId):Zh (w.alloc (cl #[x,y] t)) w.heap.size x y:=by
 refine⟨?_,?_,?_,?_,?_⟩<;>simp
abbrev Xl:=@Zh.new
theorem Zh.alloc(h:Zh w g x y)(o:Obj):Zh (w.alloc o) g x y:=h.below ((qf _ _).alloc (zh _) o)
theorem Zh.drew(h:Zh w g x y):Zh w.drew g x y:=h
theorem Zh.drewN(h:Zh w g x y)(q:Nat):Zh (w.drewN q) g x y:=h
theorem zfk(w:H)(x:Value)(z:Int)(h:zy w x z):
 Calls pg 116 #[x] w fun e w'=>∃v,e=Xa v/\NatV w' v z.natAbs/\Below w.heap.size w w':=by
 obtain⟨_,_,_,_,rfl,a,_⟩:=h.parts;go_enter func116,ntmps116
 go_wp2;go_ret;exact⟨_,rfl,a.alloc _,(qf _ _).alloc (zh _) _⟩
theorem sign_any(w:H)(x:Value)(z:Int)(h:zy w x z):
 Calls pg 132 #[x] w fun e w'=>e=Xa (it Xb z.sign)/\Below w.heap.size w w':=by
 obtain⟨d,_,_,_,rfl,b,a⟩:=h.parts;cases d with
 |true=>
  have c:z<0:=by have:=a.out;simpa using this
  go_enter func132,ntmps132
  go_wp2;go_ret;exact⟨zaQ (by rw[Qi c]),(qf _ _).alloc (zh _) _⟩
 |false=>
  have c:¬z<0:=by have:=a.out;simpa using this
  by_cases f:z.natAbs=0
  ·have g:z=0:=om;subst g;go_enter func132,ntmps132
   go_wp2_with fail
   refine(JR _ _ (b.alloc _)).mono ?_;rintro e w' ⟨rfl,rfl⟩;go_wp2;go_ret;exact⟨rfl,(qf _ _).alloc (zh _) _⟩
  ·have i:0<z:=om;go_enter func132,ntmps132
   go_wp2_with fail
   refine(jW _ _ _ (b.alloc _) f).mono ?_;rintro e w' ⟨rfl,rfl⟩;go_wp2;go_ret;exact⟨zaQ (by rw[Qs i]),(qf _ _).alloc (zh _) _⟩
theorem zau(w:H)(x:Value)(z:Int)(h:zy w x z):
 Calls pg 131 #[x] w fun e w'=>∃y,e=Xa y/\zy w' y (-z)/\Below w.heap.size w w':=by
 obtain⟨b,_,_,_,rfl,c,a⟩:=h.parts;have f:sg (!b) z.natAbs=-z:=by
  rw[zhf a];cases b<;>simp[sg]
 go_enter func131,ntmps131
 go_wp2_with fail
 refine(Jh _ _ _ z.natAbs ((c.alloc _).alloc _)).mono ?_;rintro e w' ⟨y,rfl,a,c⟩;rw[f]at a;obtain⟨i,g,m,j,rfl,l,k⟩:=a.parts;obtain⟨d,_⟩:=znh c;have a:w'.cell? ⟨w.heap.size+1,0,O⟩=E (G false):=by rw[d _ _ sp];simp
 have b:w'.cell? ⟨w.heap.size+1,1,O⟩=E (V O 0 0):=by rw[d _ _ sp];simp
 clear f;go_wp2;exact zH (v:=ag #[G i,V g m j]) (by simp[results,results131,go_sem,a,b]) rfl ⟨_,rfl,QJ l k a b,
  (((zaA w _ _).trans (c.mono (zaA w _ _).size)).setCell sp _).setCell sp _⟩
theorem zeF(w:H)(x y:Value)(z t:Int)(K:Nat)(X:K<=1073741823)(h:zy w x z)(k:zy w y t)(R:z.natAbs<4294967296^K)(M:t.natAbs<4294967296^K):
 Calls pg 130 #[x,y] w fun e w'=>∃s,e=Xa s/\zy w' s (z+t)/\Below w.heap.size w w':=by
 obtain⟨b,c,l,f,rfl,N,a⟩:=h.parts;obtain⟨o,d,i,g,rfl,P,j⟩:=k.parts;have m:=zhf a;have a:=zhf j;by_cases a0:b=o
 ·subst a0;have j:sg b (z.natAbs+t.natAbs)=z+t:=by
   cases b<;>simp[sg]at *<;>omega
  have B:=zf j;have a:(b == b)=true:=sp;go_enter func130,ntmps130
  go_wp2;have W:Zh (((w.alloc (cl #[G b,V c l f] 75)).alloc (cl #[G b,V d i g] 75)).alloc (cl #[G false,V O 0 0] 75)) (w.heap.size+1+1) (G false) (V O 0 0):=by
   have:=Xl ((w.alloc (cl #[G b,V c l f] 75)).alloc (cl #[G b,V d i g] 75)) (G false) (V O 0 0) 75;simpa using this
  have q:Zh (((w.alloc (cl #[G b,V c l f] 75)).alloc (cl #[G b,V d i g] 75)).alloc (cl #[G false,V O 0 0] 75)) (w.heap.size+1) (G b) (V d i g):=by
   have:=(Xl (w.alloc (cl #[G b,V c l f] 75)) (G b) (V d i g) 75).alloc (cl #[G false,V O 0 0] 75);simpa using this
  have p:Zh (((w.alloc (cl #[G b,V c l f] 75)).alloc (cl #[G b,V d i g] 75)).alloc (cl #[G false,V O 0 0] 75)) w.heap.size (G b) (V c l f):=((Xl w _ _ _).alloc _).alloc _;have A:=zbt w (cl #[G b,V c l f] 75) (cl #[G b,V d i g] 75) (cl #[G false,V O 0 0] 75);go_region_held (fun w'=>w'.cell? (Xd w.heap.size 0 O)=E (G b)/\w'.cell? (Xd w.heap.size 1 O)=E (V c l f)/\w'.cell? ⟨w.heap.size+1,1,O⟩=E (V d i g)) (first|(refine⟨?_,?_,?_⟩<;>(rw[far,far]<;>first|assumption|omega))|go_keep) (first|(go_at_call 203;refine(plus_any _ _ _ z.natAbs t.natAbs K (by exact NatV.drew (((N.alloc _).alloc _).alloc _)) (by exact NatV.drew (((P.alloc _).alloc _).alloc _)) R M X).mono ?_;rintro e T ⟨s,rfl,j,a⟩;have m:=p.drew.below a;obtain⟨_,_,_,_,_⟩:=m;have m:=q.drew.below a;obtain⟨_,_,_,_,_⟩:=m)|(go_at_call 110;refine(Jh _ _ _ _ j).mono ?_;rintro e U ⟨a1,rfl,u,m⟩;rw[B.out]at u;obtain⟨D,C,S,F,rfl,Q,I⟩:=u.parts;have r:=(p.drew.below a).below m;obtain⟨_,_,_,_,_⟩:=r;have p:=(q.drew.below a).below m;obtain⟨_,_,_,_,_⟩:=p;have L:=(W.drew.below a).below m;obtain⟨p,q,Y,Z,g0⟩:=L))
  have r:=A.trans (Below.mono (w:=((w.alloc (cl #[G b,V c l f] 75)).alloc (cl #[G b,V d i g] 75)).alloc (cl #[G false,V O 0 0] 75)) ⟨a.os,a.tape,a.output,a.size,a.block⟩ A.size);have J:=r.trans (m.mono r.size);go_wp2;exact zH (v:=ag #[G D,V C S F]) (by simp[results,results130,go_sem,p,q]) rfl ⟨_,rfl,QJ Q I p q,
   (J.setCell so _).setCell so _⟩
 ·have a2:(b == o)=false:=by simpa using a0
  have W:Zh (((w.alloc (cl #[G b,V c l f] 75)).alloc (cl #[G o,V d i g] 75)).alloc (cl #[G false,V O 0 0] 75)) (w.heap.size+1+1) (G false) (V O 0 0):=by
   have:=Xl ((w.alloc (cl #[G b,V c l f] 75)).alloc (cl #[G o,V d i g] 75)) (G false) (V O 0 0) 75;simpa using this
  have A:=zbt w (cl #[G b,V c l f] 75) (cl #[G o,V d i g] 75) (cl #[G false,V O 0 0] 75);by_cases d:z.natAbs<t.natAbs
  ·have j:sg o ((z.natAbs-t.natAbs)+(t.natAbs-z.natAbs))=z+t:=by
    cases b<;>cases o<;>simp[sg]at *<;>omega
   have B:=zf j;go_enter func130,ntmps130
   go_wp2_with fail
   refine(compare_any _ _ _ z.natAbs t.natAbs K (((N.alloc _).alloc _).alloc _) (((P.alloc _).alloc _).alloc _) R M om).mono ?_;rintro e f ⟨rfl,c,rfl⟩;rw[zcc d];go_wp2_with fail
   refine(zhd _ _ _ z.natAbs t.natAbs K (by exact NatV.drewN (((N.alloc _).alloc _).alloc _) c) (by exact NatV.drewN (((P.alloc _).alloc _).alloc _) c) R M X).mono ?_;rintro e T ⟨s,rfl,j,a⟩;go_wp2_with fail
   refine(Jh _ _ _ _ j).mono ?_;rintro e U ⟨a1,rfl,u,m⟩;rw[B.out]at u;obtain⟨D,C,S,F,rfl,Q,I⟩:=u.parts;have L:=((W.drewN c).below a).below m;have r:=A.trans ((JJ a).mono A.size);have J:=r.trans (m.mono r.size);obtain⟨p,q,Y,Z,g0⟩:=L;go_wp2;exact zH (v:=ag #[G D,V C S F]) (by simp[results,results130,go_sem,p,q]) rfl ⟨_,rfl,QJ Q I p q,
    (J.setCell so _).setCell so _⟩
  ·have j:sg b ((z.natAbs-t.natAbs)+(t.natAbs-z.natAbs))=z+t:=by
    cases b<;>cases o<;>simp[sg]at *<;>omega
   have B:=zf j;have b:0<=Jy z.natAbs t.natAbs:=by
    rcases Qc t.natAbs z.natAbs with h|h
    ·rw[zcd h];omega
    ·rw[zec om];omega
   go_enter func130,ntmps130
   go_wp2_with fail
   refine(compare_any _ _ _ z.natAbs t.natAbs K (((N.alloc _).alloc _).alloc _) (((P.alloc _).alloc _).alloc _) R M om).mono ?_;rintro e f ⟨rfl,c,rfl⟩;generalize Jy z.natAbs t.natAbs=b at *;go_wp2_with fail
   refine(zhd _ _ _ z.natAbs t.natAbs K (by exact NatV.drewN (((N.alloc _).alloc _).alloc _) c) (by exact NatV.drewN (((P.alloc _).alloc _).alloc _) c) R M X).mono ?_;rintro e T ⟨s,rfl,j,a⟩;go_wp2_with fail
   refine(Jh _ _ _ _ j).mono ?_;rintro e U ⟨a1,rfl,u,m⟩;rw[B.out]at u;obtain⟨D,C,S,F,rfl,Q,I⟩:=u.parts;have L:=((W.drewN c).below a).below m;have r:=A.trans ((JJ a).mono A.size);have J:=r.trans (m.mono r.size);obtain⟨p,q,Y,Z,g0⟩:=L;go_wp2;exact zH (v:=ag #[G D,V C S F]) (by simp[results,results130,go_sem,p,q]) rfl ⟨_,rfl,QJ Q I p q,
    (J.setCell so _).setCell so _⟩
theorem sg_mul{t:Int}{c:Bool}(hb:Hid (b=decide (z<0)))(e:Hid (c=decide (t<0))):sg (!(b == c)) (z.natAbs*t.natAbs)=z*t:=by
 have a:=zhf hb;have d:=zhf e;rw[a,d];generalize z.natAbs=m;generalize t.natAbs=n;cases b<;>cases c<;>simp[sg,Int.neg_mul,zbc]
theorem zam(w:H)(x y:Value)(z t:Int)(J K:Nat)(a:J+K<=1073741823)(h:zy w x z)(k:zy w y t)(C:z.natAbs<4294967296^J)(r:t.natAbs<4294967296^K):
 Calls pg 167 #[x,y] w fun e w'=>∃s,e=Xa s/\zy w' s (z*t)/\Below w.heap.size w w':=by
 obtain⟨d,b,l,g,rfl,A,a⟩:=h.parts;obtain⟨f,c,j,i,rfl,B,m⟩:=k.parts;have u:=zf (sg_mul a m);have D:Zh (((w.alloc (cl #[G d,V b l g] 75)).alloc (cl #[G f,V c j i] 75)).alloc (cl #[G false,V O 0 0] 75)) (w.heap.size+1+1) (G false) (V O 0 0):=by
  have:=Xl ((w.alloc (cl #[G d,V b l g] 75)).alloc (cl #[G f,V c j i] 75)) (G false) (V O 0 0) 75;simpa using this
 have p:Zh (((w.alloc (cl #[G d,V b l g] 75)).alloc (cl #[G f,V c j i] 75)).alloc (cl #[G false,V O 0 0] 75)) (w.heap.size+1) (G f) (V c j i):=by
  have:=(Xl (w.alloc (cl #[G d,V b l g] 75)) (G f) (V c j i) 75).alloc (cl #[G false,V O 0 0] 75);simpa using this
 have o:Zh (((w.alloc (cl #[G d,V b l g] 75)).alloc (cl #[G f,V c j i] 75)).alloc (cl #[G false,V O 0 0] 75)) w.heap.size (G d) (V b l g):=((Xl w _ _ _).alloc _).alloc _;have q:=zbt w (cl #[G d,V b l g] 75) (cl #[G f,V c j i] 75) (cl #[G false,V O 0 0] 75);go_enter func167,ntmps167
 go_wp2;go_region_held (fun w'=>w'.cell? (Xd w.heap.size 0 O)=E (G d)/\w'.cell? (Xd w.heap.size 1 O)=E (V b l g)/\w'.cell? ⟨w.heap.size+1,0,O⟩=E (G f)/\w'.cell? ⟨w.heap.size+1,1,O⟩=E (V c j i)) (first|(refine⟨?_,?_,?_,?_⟩<;>(rw[far,far]<;>first|assumption|omega))|go_keep) (first|(go_at_call 165;refine(times_any _ _ _ z.natAbs t.natAbs J K (by exact NatV.drew (((A.alloc _).alloc _).alloc _)) (by exact NatV.drew (((B.alloc _).alloc _).alloc _)) C r om).mono ?_;rintro e L ⟨s,rfl,r,a⟩;have m:=o.drew.below a;obtain⟨_,_,_,_,_⟩:=m;have m:=p.drew.below a;obtain⟨_,_,_,_,_⟩:=m)|(go_at_call 110;refine(Jh _ _ _ _ r).mono ?_;rintro e M ⟨_,rfl,r,m⟩;rw[u.out]at r;obtain⟨A,u,I,B,rfl,F,C⟩:=r.parts;have r:=(o.drew.below a).below m;obtain⟨_,_,_,_,_⟩:=r;have o:=(p.drew.below a).below m;obtain⟨_,_,_,_,_⟩:=o;have r:=(D.drew.below a).below m;obtain⟨o,p,_,_,_⟩:=r))
 have r:=q.trans (Below.mono (w:=((w.alloc (cl #[G d,V b l g] 75)).alloc (cl #[G f,V c j i] 75)).alloc (cl #[G false,V O 0 0] 75)) ⟨a.os,a.tape,a.output,a.size,a.block⟩ q.size);have a:=r.trans (m.mono r.size);go_wp2;exact zH (v:=ag #[G A,V u I B]) (by simp[results,results167,go_sem,o,p]) rfl ⟨_,rfl,QJ F C o p,
  (a.setCell so _).setCell so _⟩
theorem zjP(w:H)(n:Nat)(a:n<9223372036854775808):
 Calls pg 70 #[it Xb (n:Nat)] w fun e w'=>∃s,e=Xa s/\zy w' s (n:Int)/\Below w.heap.size w w':=by
 have g:Zh (w.alloc (cl #[G false,V O 0 0] 75)) w.heap.size (G false) (V O 0 0):=Xl _ _ _ _;have d:Below w.heap.size w (w.alloc (cl #[G false,V O 0 0] 75)):=(qf _ _).alloc (zh _) _;go_enter func70,ntmps70
 go_wp2_with fail
 refine(zgb _ _ n sp om).mono ?_;rintro e f ⟨s,rfl,h,c⟩;go_wp2_with fail
 refine(Jh _ _ _ _ h).mono ?_;rintro e r ⟨_,rfl,a,b⟩;rw[show sg false n=(n:Int)from rfl]at a;obtain⟨j,i,q,k,rfl,p,l⟩:=a.parts;have o:=(g.below c).below b;have a:=d.trans (c.mono d.size);have m:=a.trans (b.mono a.size);obtain⟨d,f,_,_,_⟩:=o;clear c b a h g;go_wp2;exact zH (v:=ag #[G j,V i q k]) (by simp[results,results70,go_sem,d,f]) rfl ⟨_,rfl,QJ p l d f,
  (m.setCell sp _).setCell sp _⟩
theorem zoi(h:0<=z):sg false (z.natAbs/n)=z/(n:Int):=by
 obtain⟨_,rfl⟩:=Int.eq_ofNat_of_zero_le h;simp[sg]
theorem floor_neg0(b:n≠0)(h:z<0)(c:z.natAbs%n=0):sg true (z.natAbs/n)=z/(n:Int):=by
 obtain⟨m,hm⟩:∃m:Nat,z=-(m:Int):=⟨z.natAbs,om⟩;subst hm;rw[Int.natAbs_neg,Q9]at *;have a:=Jz m n;rw[c,qV]at a;simp only[sg,zbu];rw[<-a,Nat.mul_div_cancel_left _ (Z3 b)];rw[J0,<-zbc,jI _ om]
theorem floor_neg1(b:n≠0)(h:z<0)(a:z.natAbs%n≠0):sg true (z.natAbs/n+1)=z/(n:Int):=by
 obtain⟨m,hm⟩:∃m:Nat,z=-(m:Int):=⟨z.natAbs,om⟩;subst hm;rw[Int.natAbs_neg,Q9]at *;have a:=Jz m n;have c:=Z0 m (Z3 b);generalize m/n=q at *;generalize m%n=r at *;simp only[sg,zbu];have c:(-(m:Int))=(n:Int)*(-((q+1:Nat):Int))+((n-r:Nat):Int):=by
  rw[<-a,zbc];have a:((n:Int)*((q+1:Nat):Int))=(n:Int)*q+n:=by rw[Int.natCast_add,zbd];simp
  have b:(((n*q+r:Nat)):Int)=(n:Int)*q+r:=sp;rw[a,b];omega
 rw[c,Int.mul_add_ediv_left _ _ om];rw[Int.ediv_eq_zero_of_lt om om,Int.add_zero]
theorem zdb(K:Nat)(a:K<=1073741822)(J:zfj K)(w:H)(x v:Value)(z:Int)(n:Nat)(h:zy w x z)(N:NatV w v n)(W:n≠0)(F:z.natAbs<4294967296^K)(M:n<4294967296^K):
 Calls pg 118 #[x,v] w fun e w'=>∃s,e=Xa s/\zy w' s (z/(n:Int))/\Below w.heap.size w w':=by
 obtain⟨b,a,l,c,rfl,P,D⟩:=h.parts;have L:Zh ((w.alloc (cl #[G b,V a l c] 75)).alloc (cl #[G false,V O 0 0] 75)) (w.heap.size+1) (G false) (V O 0 0):=by
  have:=Xl (w.alloc (cl #[G b,V a l c] 75)) (G false) (V O 0 0) 75;simpa using this
 have C:Zh ((w.alloc (cl #[G b,V a l c] 75)).alloc (cl #[G false,V O 0 0] 75)) w.heap.size (G b) (V a l c):=(Xl w _ _ _).alloc _;have i:=zaA w (cl #[G b,V a l c] 75) (cl #[G false,V O 0 0] 75);have a2:z.natAbs/n<4294967296^K:=qu (zdE _ _) F;cases b with
 |false=>
  have I:0<=z:=by have:=D.out;simp at this;omega
  have j:=zf (zoi (n:=n) I);go_enter func118,ntmps118
  go_wp2_with fail
  refine(J _ _ _ z.natAbs n ((P.alloc _).alloc _) ((N.alloc _).alloc _) F M).mono ?_;rintro e R ⟨s,a0,rfl,u,t,a⟩;have r:=C.below a;obtain⟨X,Y,Z,p3,p4⟩:=r;go_wp2_with fail
  refine(Jh _ _ _ _ u).mono ?_;rintro e B ⟨a1,rfl,g,f⟩;rw[j.out]at g;obtain⟨l,k,A,m,rfl,y,o⟩:=g.parts;have q:=(L.below a).below f;have d:=i.trans (a.mono i.size);have p:=d.trans (f.mono d.size);obtain⟨b,c,S,T,U⟩:=q;go_wp2;exact zH (v:=ag #[G l,V k A m]) (by simp[results,results118,go_sem,b,c]) rfl ⟨_,rfl,QJ y o b c,
   (p.setCell sp _).setCell sp _⟩
 |true=>
  have I:z<0:=by have:=D.out;simp at this;omega
  by_cases D:z.natAbs%n=0
  ·have j:=zf (floor_neg0 W I D);go_enter func118,ntmps118
   go_wp2_with fail
   refine(J _ _ _ z.natAbs n ((P.alloc _).alloc _) ((N.alloc _).alloc _) F M).mono ?_;rintro e R ⟨s,a0,rfl,u,t,a⟩;rw[D]at t;have r:=C.below a;obtain⟨X,Y,Z,p3,p4⟩:=r;go_wp2_with fail
   refine(JR _ _ t).mono ?_;rintro e Q ⟨rfl,rfl⟩;go_wp2_with fail
   refine(Jh _ _ _ _ u).mono ?_;rintro e B ⟨a1,rfl,g,f⟩;rw[j.out]at g;obtain⟨l,k,A,m,rfl,y,o⟩:=g.parts;have q:=(L.below a).below f;have d:=i.trans (a.mono i.size);have p:=d.trans (f.mono d.size);obtain⟨b,c,S,T,U⟩:=q;go_wp2;exact zH (v:=ag #[G l,V k A m]) (by simp[results,results118,go_sem,b,c]) rfl ⟨_,rfl,QJ y o b c,
    (p.setCell sp _).setCell sp _⟩
  ·have j:=zf (floor_neg1 W I D);go_enter func118,ntmps118
   go_wp2_with fail
   refine(J _ _ _ z.natAbs n ((P.alloc _).alloc _) ((N.alloc _).alloc _) F M).mono ?_;rintro e R ⟨s,a0,rfl,u,t,a⟩;have r:=C.below a;obtain⟨X,Y,Z,p3,p4⟩:=r;go_wp2_with fail
   refine(jW _ _ _ t D).mono ?_;rintro e Q ⟨rfl,rfl⟩;go_wp2_with fail
   refine(zgb _ _ 1 sp om).mono ?_;rintro e F ⟨_,rfl,t,r⟩;go_wp2_with fail
   refine(plus_any _ _ _ _ 1 (K+1) (u.below r) t (zK a2 (pow_mono om)) (zK dc (pow_mono (show 1<=K+1 by omega))) om).mono ?_;rintro e I ⟨_,rfl,D,t⟩;have u:=((C.below a).below r).below t;obtain⟨_,_,_,_,_⟩:=u;go_wp2_with fail
   refine(Jh _ _ _ _ D).mono ?_;rintro e B ⟨a1,rfl,g,f⟩;rw[j.out]at g;obtain⟨l,k,A,m,rfl,y,o⟩:=g.parts;have q:=(((L.below a).below r).below t).below f;have d:=i.trans (a.mono i.size);have a:=d.trans (r.mono d.size);have d:=a.trans (t.mono a.size);have p:=d.trans (f.mono d.size);obtain⟨b,c,S,T,U⟩:=q;go_wp2;exact zH (v:=ag #[G l,V k A m]) (by simp[results,results118,go_sem,b,c]) rfl ⟨_,rfl,QJ y o b c,
    (p.setCell sp _).setCell sp _⟩
theorem zls(a b:Nat):(Jy a b<0↔a<b)/\(Jy a b=0↔a=b):=by
 rcases zbl a b with h|h|h
 ·rw[zcc h];omega
 ·rw[zec h];omega
 ·rw[zcd h];omega
theorem zlt(w:H)(x y:Value)(z t:Int)(K:Nat)(a:K<=1073741823)(h:zy w x z)(k:zy w y t)(F:z.natAbs<4294967296^K)(B:t.natAbs<4294967296^K):
 Calls pg 69 #[x,y] w fun e w'=>∃c:Int,e=Xa (it Xb c)/\(c<0↔z<t)/\(c=0↔z=t)/\-2<=c/\c<=2/\Below w.heap.size w w':=by
 have I:=h;have L:=k;obtain⟨b,f,l,i,rfl,C,u⟩:=h.parts;obtain⟨c,g,m,j,rfl,D,v⟩:=k.parts;have r:=zaA w (cl #[G b,V f l i] 75) (cl #[G c,V g m j] 75);have A:∀a b,-2<=Jy a b/\Jy a b<=2:=by
  intro a b;unfold Jy;split;·omega
  ·split<;>omega
 by_cases s:b=c
 ·subst s;have J:(b == b)=true:=sp;cases b with
  |true=>
   have q:z<0:=by have:=u.out;simp at this;omega
   have p:t<0:=by have:=v.out;simp at this;omega
   have o:=zls t.natAbs z.natAbs;have d:Hid ((Jy t.natAbs z.natAbs<0↔z<t)/\(Jy t.natAbs z.natAbs=0↔z=t)):=by
    rw[Hid,o.1,o.2];omega
   have a:=zf (A t.natAbs z.natAbs);go_enter func69,ntmps69
   go_wp2_with fail
   refine(compare_any _ _ _ t.natAbs z.natAbs K ((D.alloc _).alloc _) ((C.alloc _).alloc _) B F om).mono ?_;rintro e N ⟨rfl,M,rfl⟩;go_wp2;go_ret;exact⟨_,rfl,d.out.1,d.out.2,a.out.1,a.out.2,zda r⟩
  |false=>
   have q:0<=z:=by have:=u.out;simp at this;omega
   have p:0<=t:=by have:=v.out;simp at this;omega
   have o:=zls z.natAbs t.natAbs;have d:Hid ((Jy z.natAbs t.natAbs<0↔z<t)/\(Jy z.natAbs t.natAbs=0↔z=t)):=by
    rw[Hid,o.1,o.2];omega
   have a:=zf (A z.natAbs t.natAbs);go_enter func69,ntmps69
   go_wp2_with fail
   refine(compare_any _ _ _ z.natAbs t.natAbs K ((C.alloc _).alloc _) ((D.alloc _).alloc _) F B om).mono ?_;rintro e N ⟨rfl,M,rfl⟩;go_wp2;go_ret;exact⟨_,rfl,d.out.1,d.out.2,a.out.1,a.out.2,zda r⟩
 ·have J:(b == c)=false:=by simpa using s
  have B:Zh ((w.alloc (cl #[G b,V f l i] 75)).alloc (cl #[G c,V g m j] 75)) (w.heap.size+1) (G c) (V g m j):=by
   have:=Xl (w.alloc (cl #[G b,V f l i] 75)) (G c) (V g m j) 75;simpa using this
  have A:Zh ((w.alloc (cl #[G b,V f l i] 75)).alloc (cl #[G c,V g m j] 75)) w.heap.size (G b) (V f l i):=(Xl w _ _ _).alloc _;have C:-1<=z.sign/\z.sign<=1/\-1<=t.sign/\t.sign<=1:=by
   rcases zad z 0 with h|h|h<;>rcases zad t 0 with k|k|k<;>simp[Qi,Qs,h,k]
  have d:Hid ((z.sign-t.sign<0↔z<t)/\(z.sign-t.sign=0↔z=t)):=by
   have a:=u.out;have o:=v.out;rw[Hid];by_cases q:z<0
   ·have p:0<=t:=by
     rcases Int.lt_or_le t 0 with h|h
     ·exact absurd (by rw[a,o];simp[q,h]) s
     ·exact h
    rw[Qi q];rcases jd p with h|h
    ·rw[Qs h];omega
    ·rw[<-h];simp;omega
   ·have p:t<0:=by
     rcases Int.lt_or_le t 0 with h|h
     ·exact h
     ·exact absurd (by rw[a,o];simp[q];omega) s
    rw[Qi p];rcases jd (show 0<=z by omega)with h|h
    ·rw[Qs h];omega
    ·rw[<-h];simp;omega
  obtain⟨_,_,_,_⟩:=C;have q:Hid (IntKind.i64.wrap (z.sign-t.sign)=z.sign-t.sign):=by
   rw[Hid];have a:-2<=z.sign-t.sign/\z.sign-t.sign<=2:=om;generalize z.sign-t.sign=o at a;simp[IntKind.wrap,IntKind.signed,IntKind.bits];omega
  go_enter func69,ntmps69
  go_wp2;go_region_held (fun w'=>w'.cell? (Xd w.heap.size 0 O)=E (G b)/\w'.cell? (Xd w.heap.size 1 O)=E (V f l i)/\w'.cell? ⟨w.heap.size+1,0,O⟩=E (G c)/\w'.cell? ⟨w.heap.size+1,1,O⟩=E (V g m j)) (go_keep) (first|(go_at_call_of 132 (G b);refine(sign_any _ _ z (by exact zy.drewN ((I.alloc _).alloc _) 1)).mono ?_;rintro e s ⟨rfl,a⟩;have o:=A.drew.below a;obtain⟨_,_,_,_,_⟩:=o;have o:=B.drew.below a;obtain⟨_,_,_,_,_⟩:=o)|(go_at_call_of 132 (G c);refine(sign_any _ _ t (by exact(zy.drewN ((L.alloc _).alloc _) 1).below a)).mono ?_;rintro e u ⟨rfl,o⟩;have p:=(A.drew.below a).below o;obtain⟨_,_,_,_,_⟩:=p;have p:=(B.drew.below a).below o;obtain⟨_,_,_,_,_⟩:=p))
  have p:=r.trans (Below.mono (w:=(w.alloc (cl #[G b,V f l i] 75)).alloc (cl #[G c,V g m j] 75)) ⟨a.os,a.tape,a.output,a.size,a.block⟩ r.size);have a:=p.trans (o.mono p.size);go_wp2;go_ret;exact⟨z.sign-t.sign,zaQ (by rw[q.out]),d.out.1,d.out.2,om,om,a⟩
def lowN (q:Nat):Nat:=if q=1 then 0 else q
def Qa (w:H)(x:Value)(p:Int)(q:Nat):Prop:=
 ∃b v u,x=ag #[G b,v,u]/\NatV w v p.natAbs/\Hid (b=decide (p<0))/\NatV w u (lowN q)/\0<q/\Hid (Nat.gcd p.natAbs q=1)
theorem Qa.below(h:Qa w x p q)(hb:Below w.heap.size w w'):Qa w' x p q:=by
 obtain⟨b,v,u,a,c,d,e,f⟩:=h;exact⟨b,v,u,a,c.below hb,d,e.below hb,f⟩
theorem Qa.alloc(h:Qa w x p q)(o:Obj):Qa (w.alloc o) x p q:=h.below ((qf _ _).alloc (zh _) o)
theorem Qa.drew(h:Qa w x p q):Qa w.drew x p q:=h
theorem Qa.parts(h:Qa w x p q):∃b a l cap c e d,x=ag #[G b,V a l cap,V c e d]/\NatV w (V a l cap) p.natAbs/\Hid (b=decide (p<0))/\NatV w (V c e d) (lowN q)/\0<q/\Hid (Nat.gcd p.natAbs q=1):=by
 obtain⟨b,_,_,i,f,j,g,k⟩:=h;obtain⟨a,l,cap,rfl⟩:=f.slice;obtain⟨c,e,d,rfl⟩:=g.slice;exact⟨b,a,l,cap,c,e,d,i,f,j,g,k⟩
def QQ (w:H)(g:Nat)(x y z:Value):Prop:=
 w.cell? (Xd g 0 O)=E x/\w.cell? (Xd g 1 O)=E y/\w.cell? (Xd g 2 O)=E z/\w.frozen? (Xd g 0 O)=false/\w.frozen? (Xd g 1 O)=false/\w.frozen? (Xd g 2 O)=false/\g<w.heap.size
theorem QQ.below{z:Value}(h:QQ w g x y z)(hb:Below w.heap.size w w'):QQ w' g x y z:=by
 obtain⟨b,c,d,e,f,i,a⟩:=h;exact⟨(hb.cell (p:=(Xd g 0 O)) a).trans b,(hb.cell (p:=(Xd g 1 O)) a).trans c,(hb.cell (p:=(Xd g 2 O)) a).trans d,(hb.frozen (p:=(Xd g 0 O)) a).trans e,(hb.frozen (p:=(Xd g 1 O)) a).trans f,(hb.frozen (p:=(Xd g 2 O)) a).trans i,zK a hb.size⟩
theorem QQ.new(w:H)(x y z:Value)(t:TypeId):QQ (w.alloc (cl #[x,y,z] t)) w.heap.size x y z:=by
 refine⟨?_,?_,?_,?_,?_,?_,?_⟩<;>simp
theorem QQ.alloc{z:Value}(h:QQ w g x y z)(o:Obj):QQ (w.alloc o) g x y z:=h.below ((qf _ _).alloc (zh _) o)
theorem QQ.drew{z:Value}(h:QQ w g x y z):QQ w.drew g x y z:=h
theorem QQ.drewN{z:Value}(h:QQ w g x y z)(q:Nat):QQ (w.drewN q) g x y z:=h
theorem QQ.new1(w:H)(A:Obj)(x y z:Value)(t:TypeId):QQ ((w.alloc A).alloc (cl #[x,y,z] t)) (w.heap.size+1) x y z:=by
 have:=QQ.new (w.alloc A) x y z t;simpa using this
theorem QQ.new2(w:H)(A B:Obj)(x y z:Value)(t:TypeId):QQ (((w.alloc A).alloc B).alloc (cl #[x,y,z] t)) (w.heap.size+1+1) x y z:=by
 have:=QQ.new ((w.alloc A).alloc B) x y z t;simpa using this
theorem Zh.new1(w:H)(A:Obj)(x y:Value)(t:TypeId):Zh ((w.alloc A).alloc (cl #[x,y] t)) (w.heap.size+1) x y:=by
 have:=Xl (w.alloc A) x y t;simpa using this
theorem zbe{f:Bool}{a c:Option Addr}{i j e:Nat}{u:Value}(m:NatV w v p.natAbs)(hb:Hid (b=decide (p<0)))(l:NatV w u (lowN q))(k:0<q)(hg:Hid (Nat.gcd p.natAbs q=1))(h:w.cell? (Xd g 0 O)=E (G f))(h1:w.cell? (Xd g 1 O)=E (V a i d))(h2:w.cell? (Xd g 2 O)=E (V c j e)):
 Qa (((w.setCell (Xd g 0 O) (G b)).setCell (Xd g 1 O) v).setCell (Xd g 2 O) u) (ag #[G b,v,u]) p q:=by
 have f:(w.setCell (Xd g 0 O) (G b)).cell? (Xd g 1 O)=E (V a i d):=by rw[zA _ _ _ _ sp];exact h1
 have a:((w.setCell (Xd g 0 O) (G b)).setCell (Xd g 1 O) v).cell? (Xd g 2 O)=E (V c j e):=by
  rw[zA _ _ _ _ sp,zA _ _ _ _ sp];exact h2
 exact⟨b,v,u,rfl,((m.setCell h sp _).setCell f sp _).setCell a sp _,hb,((l.setCell h sp _).setCell f sp _).setCell a sp _,k,hg⟩
theorem zjQ(w:H)(x:Value)(z:Int)(h:zy w x z):
 Calls pg 58 #[x] w fun e w'=>∃s,e=Xa s/\Qa w' s z 1/\Below w.heap.size w w':=by
 obtain⟨b,a,l,c,rfl,f,d⟩:=h.parts;go_enter func58,ntmps58
 go_wp2;exact zH (v:=ag #[G b,V a l c,V O 0 0]) (by simp[results,results58,go_sem]) rfl ⟨_,rfl,⟨b,_,_,rfl,(f.alloc _).alloc _,d,Xm _ _ _,om,Nat.gcd_one_right _⟩,zaA w _ _⟩
theorem zf2(w:H)(x:Value)(p:Int)(h:Qa w x p 1):
 Calls pg 62 #[x] w fun e w'=>e=Xa (G true)/\Below w.heap.size w w':=by
 obtain⟨_,_,_,_,_,_,_,rfl,_,_,a,_,_⟩:=h.parts;rw[show lowN 1=0 from rfl]at a;go_enter func62,ntmps62
 go_wp2_with fail
 refine(JR _ _ (a.alloc _)).mono ?_;rintro e w' ⟨rfl,rfl⟩;go_wp2;go_ret;exact⟨rfl,(qf _ _).alloc (zh _) _⟩
theorem zgc(a:0<q)(h1:q≠1):lowN q=q/\lowN q≠0:=by
 unfold lowN;rw[zO h1];omega
theorem zgv(w:H)(x:Value)(p:Int)(q:Nat)(h:Qa w x p q)(h1:q≠1):
 Calls pg 62 #[x] w fun e w'=>e=Xa (G false)/\Below w.heap.size w w':=by
 obtain⟨_,_,_,_,_,_,_,rfl,_,_,b,a,_⟩:=h.parts;go_enter func62,ntmps62
 go_wp2_with fail
 refine(jW _ _ _ (b.alloc _) (zgc a h1).2).mono ?_;rintro e w' ⟨rfl,rfl⟩;go_wp2;go_ret;exact⟨rfl,(qf _ _).alloc (zh _) _⟩
theorem zoj(w:H)(x:Value)(p:Int)(q:Nat)(h:Qa w x p q):
 Calls pg 192 #[x] w fun e w'=>e=Xa (it Xb p.sign)/\Below w.heap.size w w':=by
 obtain⟨b,c,l,f,d,k,g,rfl,j,i,_,_,_⟩:=h.parts;have a:Below w.heap.size w (w.alloc (cl #[G b,V c l f,V d k g] 77)):=(qf _ _).alloc (zh _) _;go_enter func192,ntmps192
 go_wp2_with fail
 refine(sign_any _ _ p ⟨b,_,rfl,j.alloc _,i⟩).mono ?_;rintro e w' ⟨rfl,b⟩;go_wp2;go_ret;exact⟨rfl,a.trans (b.mono a.size)⟩
theorem zic(w:H)(x:Value)(p:Int)(q:Nat)(h:Qa w x p q):
 Calls pg 189 #[x] w fun e w'=>∃v,e=Xa v/\NatV w' v q/\Below w.heap.size w w':=by
 have j:=h;obtain⟨d,a,l,f,c,i,g,rfl,_,_,k,o,_⟩:=h.parts;have b:Below w.heap.size w (w.alloc (cl #[G d,V a l f,V c i g] 77)):=(qf _ _).alloc (zh _) _;have m:QQ (w.alloc (cl #[G d,V a l f,V c i g] 77)) w.heap.size (G d) (V a l f) (V c i g):=QQ.new _ _ _ _ _;by_cases c:q=1
 ·subst c;go_enter func189,ntmps189
  go_wp2_with fail
  refine(zf2 _ _ p (j.alloc _)).mono ?_;rintro e w' ⟨rfl,a⟩;go_wp2_with fail
  refine(zgb _ _ 1 sp om).mono ?_;rintro e d ⟨v,rfl,g,f⟩;go_wp2;go_ret;have d:=b.trans (a.mono b.size);exact⟨_,rfl,g,d.trans (f.mono d.size)⟩
 ·rw[(zgc o c).1]at k;go_enter func189,ntmps189
  go_wp2_with fail
  refine(zgv _ _ p q (j.alloc _) c).mono ?_;rintro e w' ⟨rfl,a⟩;have c:=m.below a;obtain⟨_,_,_,_,_,_,_⟩:=c;go_wp2;go_ret;exact⟨_,rfl,(k.alloc _).below a,b.trans (a.mono b.size)⟩
theorem QQ.far{h o:Nat}{z u:Value}(b:QQ w g x y z)(a:h≠g):QQ (w.setCell (Xd h o O) u) g x y z:=by
 obtain⟨c,d,e,f,i,j,k⟩:=b;exact⟨by rw[Go.Proofs.YtfimidopoilmnaaGreatDoor.far a];exact c,by rw[Go.Proofs.YtfimidopoilmnaaGreatDoor.far a];exact d,by rw[Go.Proofs.YtfimidopoilmnaaGreatDoor.far a];exact e,by simpa using f,by simpa using i,by simpa using j,by simpa using k⟩
theorem zrE(b:n≠0):0<Nat.gcd z.natAbs n/\0<n/Nat.gcd z.natAbs n/\Nat.gcd (z/(Nat.gcd z.natAbs n:Int)).natAbs (n/Nat.gcd z.natAbs n)=1:=by
 have a:0<Nat.gcd z.natAbs n:=Nat.gcd_pos_of_pos_right _ (Z3 b);refine⟨a,Nat.div_pos (zeS (Z3 b) (zcV _ _)) a,?_⟩;have b:(z/(Nat.gcd z.natAbs n:Int)).natAbs=z.natAbs/Nat.gcd z.natAbs n:=by
  rw[Int.natAbs_ediv_of_dvd];·simp
  ·exact zeG.2 (zdi _ _)
 rw[b];rw[Nat.gcd_div (zdi _ _) (zcV _ _),Nat.div_self a]
theorem zid(w:H)(x v:Value)(z:Int)(n:Nat)(h:zy w x z)(p:NatV w v n)(r:0<n)(hg:Hid (Nat.gcd z.natAbs n=1)):
 Calls pg 120 #[x,v] w fun e w'=>∃s,e=Xa s/\Qa w' s z n/\Below w.heap.size w w':=by
 have d:=h;obtain⟨b,a,l,c,rfl,S,J⟩:=h.parts;obtain⟨y,W,B,rfl⟩:=p.slice;have m:Zh ((w.alloc (cl #[G b,V a l c] 75)).alloc (cl #[G false,V O 0 0,V O 0 0] 77)) w.heap.size (G b) (V a l c):=(Xl _ _ _ _).alloc _;have j:QQ ((w.alloc (cl #[G b,V a l c] 75)).alloc (cl #[G false,V O 0 0,V O 0 0] 77)) (w.heap.size+1) (G false) (V O 0 0) (V O 0 0):=QQ.new1 _ _ _ _ _ _;have i:=zaA w (cl #[G b,V a l c] 75) (cl #[G false,V O 0 0,V O 0 0] 77);by_cases k:n=1
 ·subst k;go_enter func120,ntmps120
  go_wp2_with fail
  refine(zha _ _ ((p.alloc _).alloc _)).mono ?_;rintro e w' ⟨rfl,rfl⟩;go_wp2_with fail
  refine(zjQ _ _ z ((d.alloc _).alloc _)).mono ?_;rintro e d ⟨s,rfl,q,o⟩;obtain⟨A,t,X,T,u,Y,U,rfl,M,N,P,Q,R⟩:=q.parts;have L:=j.below o;have K:=i.trans (o.mono i.size);obtain⟨d,f,g,C,D,F,I⟩:=L;clear o q m j;go_wp2;exact zH (v:=ag #[G A,V t X T,V u Y U]) (by simp[results,results120,go_sem,d,f,g]) rfl ⟨_,rfl,zbe M N P Q R d f g,
   ((K.setCell sp _).setCell sp _).setCell sp _⟩
 ·have q:=(zgc r k).1;have o:=(p.alloc (cl #[G b,V a l c] 75)).alloc (cl #[G false,V O 0 0,V O 0 0] 77);have p:=(S.alloc (cl #[G b,V a l c] 75)).alloc (cl #[G false,V O 0 0,V O 0 0] 77);have t:=zf q;clear q;go_enter func120,ntmps120
  go_wp2_with fail
  refine(ziv _ _ _ o k).mono ?_;rintro e w' ⟨rfl,k⟩;rw[<-k]at o p m j i;clear k;obtain⟨_,_,_,_,_⟩:=m;obtain⟨d,f,g,C,D,F,I⟩:=j;go_wp2;exact zH (v:=ag #[G b,V a l c,V y W B]) (by simp[results,results120,go_sem,d,f,g]) rfl ⟨_,rfl,zbe p J (by rw[t.out];exact o) r hg d f g,
   ((i.setCell sp _).setCell sp _).setCell sp _⟩
theorem zie(K:Nat)(hK:K<=1073741822)(X:zfj K)(w:H)(x v:Value)(z:Int)(n:Nat)(h:zy w x z)(I:NatV w v n)(hn:n≠0)(hz:z.natAbs<4294967296^K)(Z:n<4294967296^K):
 Calls pg 61 #[x,v] w fun e w'=>∃s,e=Xa s/\Qa w' s (z/(Nat.gcd z.natAbs n:Int)) (n/Nat.gcd z.natAbs n)/\Below w.heap.size w w':=by
 have W:=h;obtain⟨o,m,r,q,rfl,hx,hb⟩:=h.parts;obtain⟨_,_,_,rfl⟩:=I.slice;have aw:Zh ((w.alloc (cl #[G o,V m r q] 75)).alloc (cl #[G false,V O 0 0,V O 0 0] 77)) w.heap.size (G o) (V m r q):=(Xl _ _ _ _).alloc _;have ai:QQ ((w.alloc (cl #[G o,V m r q] 75)).alloc (cl #[G false,V O 0 0,V O 0 0] 77)) (w.heap.size+1) (G false) (V O 0 0) (V O 0 0):=QQ.new1 _ _ _ _ _ _;have Q:=zaA w (cl #[G o,V m r q] 75) (cl #[G false,V O 0 0,V O 0 0] 77);by_cases h1:n=1
 ·subst h1;have u:Nat.gcd z.natAbs 1=1:=Nat.gcd_one_right _;rw[u,Nat.div_self om,zdF,Int.ediv_one];go_enter func61,ntmps61
  go_wp2_with fail
  refine(zha _ _ ((I.alloc _).alloc _)).mono ?_;rintro e w' ⟨rfl,rfl⟩;go_wp2_with fail
  refine(zjQ _ _ z ((W.alloc _).alloc _)).mono ?_;rintro e w2 ⟨s,rfl,t,c⟩;obtain⟨a,b,f,d,a3,l3,k3,rfl,a0,a1,aI,aJ,aK⟩:=t.parts;have D:=ai.below c;have au:=Q.trans (c.mono Q.size);obtain⟨i,j,k,J,L,M,N⟩:=D;go_wp2;exact zH (v:=ag #[G a,V b f d,V a3 l3 k3]) (by simp[results,results61,go_sem,i,j,k]) rfl ⟨_,rfl,zbe a0 a1 aI aJ aK i j k,
   ((au.setCell sp _).setCell sp _).setCell sp _⟩
 ·obtain⟨_,ak,aB⟩:=zrE (z:=z) hn;have aE:Nat.gcd z.natAbs n<=n:=zeS (Z3 hn) (zcV _ _);have an:=qu aE Z;have aH:lowN (n/Nat.gcd z.natAbs n)=if n/Nat.gcd z.natAbs n=1 then 0 else n/Nat.gcd z.natAbs n:=rfl
  generalize aC:Nat.gcd z.natAbs n=y at *;have HG:=zf aC;have ad:=zf aB;have aQ:=zf aH;go_enter func61,ntmps61
  go_wp2_with fail
  refine(ziv _ _ _ ((I.alloc _).alloc _) h1).mono ?_;rintro e w' ⟨rfl,rfl⟩;go_wp2_with fail
  refine(zfk _ _ z ((W.alloc _).alloc _)).mono ?_;rintro e w2 ⟨sv,rfl,t,c⟩;go_wp2_with fail
  refine(zmZ K om X _ _ _ z.natAbs n t (((I.alloc _).alloc _).below c) hz Z).mono ?_;rintro e w3 ⟨gv,rfl,F,av⟩;rw[HG.out]at F;have A:Below ((w.alloc (cl #[G o,V m r q] 75)).alloc (cl #[G false,V O 0 0,V O 0 0] 77)).heap.size ((w.alloc (cl #[G o,V m r q] 75)).alloc (cl #[G false,V O 0 0,V O 0 0] 77)) w3:=c.trans (av.mono c.size);have ap:=((I.alloc _).alloc _).below A;have aP:=((hx.alloc _).alloc _).below A;have aq:=((W.alloc _).alloc _).below A;have ah:=aw.below A;have aj:=ai.below A;have P:=Q.trans (A.mono Q.size);by_cases al:y=1
  ·subst al;rw[Nat.div_one,zdF,Int.ediv_one]at *;obtain⟨p0,p1,p2,p3,B⟩:=ah;obtain⟨i,j,k,J,L,M,N⟩:=aj;go_wp2_with fail
   refine(zha _ _ F).mono ?_;rintro e w4 ⟨rfl,rfl⟩;go_wp2_with fail
   refine(zid _ _ _ z n ⟨o,_,rfl,aP,hb⟩ ap ak ad).mono ?_;rintro e w9 ⟨s,rfl,t,c⟩;obtain⟨U,S,l5,k5,T,l6,k6,rfl,a7,a8,a9,aa,ab⟩:=t.parts;have Y:=P.trans (c.mono P.size);have D:=QQ.below ⟨i,j,k,J,L,M,N⟩ c;obtain⟨i,j,k,J,L,M,N⟩:=D;go_wp2;exact zH (v:=ag #[G U,V S l5 k5,V T l6 k6]) (by simp[results,results61,go_sem,i,j,k]) rfl ⟨_,rfl,by rw[zdF,Int.ediv_one,Nat.div_one];exact zbe a7 a8 a9 aa ab i j k,
    ((Y.setCell sp _).setCell sp _).setCell sp _⟩
  ·have aD:y≠0:=om;obtain⟨p0,p1,p2,p3,B⟩:=ah;go_wp2_with fail
   refine(ziv _ _ _ F al).mono ?_;rintro e w4 ⟨rfl,rfl⟩;go_wp2_with fail
   refine(zdb K hK X _ _ _ z y aq F aD hz an).mono ?_;rintro e g ⟨fv,rfl,aA,l⟩;have ar:=P.trans (l.mono P.size);have ax:=aj.below l;have aN:=ap.below l;have aF:=F.below l;have R:=(l.cell (p:=(Xd w.heap.size 0 O)) B).trans p0;have q1:=(l.cell (p:=(Xd w.heap.size 1 O)) B).trans p1;have q2:=(l.frozen (p:=(Xd w.heap.size 0 O)) B).trans p2;have q3:=(l.frozen (p:=(Xd w.heap.size 1 O)) B).trans p3;have q4:=zK B l.size;obtain⟨a,b,f,d,rfl,a0,a1⟩:=aA.parts;have u:(g.setCell (Xd w.heap.size 0 O) (G a)).cell? (Xd w.heap.size 1 O)=E (V m r q):=by rw[zA _ _ _ _ sp];exact q1
   have aL:=(a0.setCell R sp (G a)).setCell u sp (V b f d);have aO:=(aN.setCell R sp (G a)).setCell u sp (V b f d);have aG:=(aF.setCell R sp (G a)).setCell u sp (V b f d);have ay:QQ ((g.setCell (Xd w.heap.size 0 O) (G a)).setCell (Xd w.heap.size 1 O) (V b f d)) (w.heap.size+1) (G false) (V O 0 0) (V O 0 0):=(ax.far om).far om;have ae:Below w.heap.size w ((g.setCell (Xd w.heap.size 0 O) (G a)).setCell (Xd w.heap.size 1 O) (V b f d)):=(ar.setCell sp _).setCell sp _;have r0:((g.setCell (Xd w.heap.size 0 O) (G a)).setCell (Xd w.heap.size 1 O) (V b f d)).cell? (Xd w.heap.size 0 O)=E (G a):=by
    rw[zA _ _ _ _ sp];exact zN _ _ _ R
   have r1:((g.setCell (Xd w.heap.size 0 O) (G a)).setCell (Xd w.heap.size 1 O) (V b f d)).cell? (Xd w.heap.size 1 O)=E (V b f d):=zN _ _ _ u;have r4:w.heap.size<((g.setCell (Xd w.heap.size 0 O) (G a)).setCell (Xd w.heap.size 1 O) (V b f d)).heap.size:=by simpa using q4
   go_wp2_with fail
   refine(X _ _ _ n y aO aG Z an).mono ?_;rintro e w7 ⟨_,rv,rfl,hq,_,C⟩;have az:=ay.below C;have aM:=aL.below C;have af:=ae.trans (C.mono ae.size);have s0:=(C.cell (p:=(Xd w.heap.size 0 O)) r4).trans r0;have s1:=(C.cell (p:=(Xd w.heap.size 1 O)) r4).trans r1;obtain⟨_,_,_,rfl⟩:=hq.slice;go_wp2_with fail
   refine(zid _ _ _ (z/(y:Int)) (n/y) ⟨a,_,rfl,aM,a1⟩ hq ak ad).mono ?_;rintro e w9 ⟨s,rfl,t,c⟩;obtain⟨U,S,l5,k5,T,l6,k6,rfl,a7,a8,a9,aa,ab⟩:=t.parts;have D:=az.below c;have Y:Below w.heap.size w w9:=af.trans (c.mono af.size);obtain⟨i,j,k,J,L,M,N⟩:=D;go_wp2;exact zH (v:=ag #[G U,V S l5 k5,V T l6 k6]) (by simp[results,results61,go_sem,i,j,k]) rfl ⟨_,rfl,zbe a7 a8 a9 aa ab i j k,
    ((Y.setCell sp _).setCell sp _).setCell sp _⟩
theorem Zh.new2(w:H)(A B:Obj)(x y:Value)(t:TypeId):Zh (((w.alloc A).alloc B).alloc (cl #[x,y] t)) (w.heap.size+1+1) x y:=by
 have:=Xl ((w.alloc A).alloc B) x y t;simpa using this
theorem ze1{B:Nat}(h:Below B w.drew w'):Below B w w':=⟨h.os,h.tape,h.output,h.size,h.block⟩
theorem znk(w:H)(x y:Value)(p r:Int)(q s J K:Nat)(a0:J+K<=1073741823)(h:Qa w x p q)(k:Qa w y r s)(hp:p.natAbs<4294967296^J)(hs:s<4294967296^K):
 Calls pg 190 #[x,y] w fun e w'=>∃t,e=Xa t/\zy w' t (p*(s:Int))/\Below w.heap.size w w':=by
 have h0:=h;have k0:=k;obtain⟨b,c,l,d,m,F,B,rfl,Z,T,_,_,_⟩:=h.parts;obtain⟨u,o,I,C,g,j,i,rfl,_,_,Y,ad,_⟩:=k.parts;have W:QQ (((w.alloc (cl #[G b,V c l d,V m F B] 77)).alloc (cl #[G u,V o I C,V g j i] 77)).alloc (cl #[G false,V O 0 0] 75)) w.heap.size (G b) (V c l d) (V m F B):=((QQ.new _ _ _ _ _).alloc _).alloc _;have a7:QQ (((w.alloc (cl #[G b,V c l d,V m F B] 77)).alloc (cl #[G u,V o I C,V g j i] 77)).alloc (cl #[G false,V O 0 0] 75)) (w.heap.size+1) (G u) (V o I C) (V g j i):=(QQ.new1 _ _ _ _ _ _).alloc _;have X:Zh (((w.alloc (cl #[G b,V c l d,V m F B] 77)).alloc (cl #[G u,V o I C,V g j i] 77)).alloc (cl #[G false,V O 0 0] 75)) (w.heap.size+1+1) (G false) (V O 0 0):=Zh.new2 _ _ _ _ _ _;have M:=zbt w (cl #[G b,V c l d,V m F B] 77) (cl #[G u,V o I C,V g j i] 77) (cl #[G false,V O 0 0] 75);by_cases Q:s=1
 ·subst Q;rw[zdF,zet];go_enter func190,ntmps190
  go_wp2_with fail
  refine(zf2 _ _ r (((k0.alloc _).alloc _).alloc _)).mono ?_;rintro e P ⟨rfl,a⟩;have af:=(((Z.alloc _).alloc _).alloc _).below a;have D:=W.below a;have S:=X.below a;obtain⟨p0,p1,p2,p3,p4,p5,p6⟩:=D;obtain⟨z,A,f0,f1,g0⟩:=S;have L:=M.trans (a.mono M.size);go_wp2;exact zH (v:=ag #[G b,V c l d]) (by simp[results,results190,go_sem,z,A]) rfl ⟨_,rfl,QJ af T z A,
   (L.setCell so _).setCell so _⟩
 ·go_enter func190,ntmps190
  go_wp2_with fail
  refine(zgv _ _ r s (((k0.alloc _).alloc _).alloc _) Q).mono ?_;rintro e P ⟨rfl,a⟩;rw[(zgc ad Q).1]at Y;have ai:zy P (ag #[G b,V c l d]) p:=⟨b,_,rfl,(((Z.alloc _).alloc _).alloc _).below a,T⟩;have ae:=(((Y.alloc _).alloc _).alloc _).below a;have D:=W.below a;have R:=a7.below a;have S:=X.below a;have L:=M.trans (a.mono M.size);have a4:=D;obtain⟨p0,p1,p2,p3,p4,p5,p6⟩:=a4;have a8:=R;obtain⟨_,_,_,_,_,_,_⟩:=a8;go_wp2;go_region_held (fun w'=>w'.cell? (Xd w.heap.size 0 O)=E (G b)/\w'.cell? (Xd w.heap.size 1 O)=E (V c l d)/\w'.cell? ⟨w.heap.size+1,2,O⟩=E (V g j i)) (first|(refine⟨?_,?_,?_⟩<;>(rw[far,far]<;>first|assumption|omega))|go_keep) (first|(go_at_call 157;refine(zaR _ _ s (by exact NatV.drew ae)).mono ?_;rintro e wA ⟨ov,rfl,ho,f⟩;have a5:=D.drew.below f;obtain⟨_,_,_,_,_,_,_⟩:=a5;have a9:=R.drew.below f;obtain⟨_,_,_,_,_,_,_⟩:=a9)|(go_at_call 167;refine(zam _ _ _ p (s:Int) J K a0 (by exact(ai.drewN 1).below f) ho hp (by simpa using hs)).mono ?_;rintro e wB ⟨_,rfl,hy,N⟩;obtain⟨b2,a2,l2,k2,rfl,ah,a1⟩:=hy.parts;have a6:=(D.drew.below f).below N;obtain⟨_,_,_,_,_,_,_⟩:=a6;have aa:=(R.drew.below f).below N;obtain⟨_,_,_,_,_,_,_⟩:=aa;have ab:=(S.drew.below f).below N;obtain⟨z,A,f0,f1,g0⟩:=ab))
  have U:=L.trans ((ze1 f).mono L.size);have a3:=U.trans (N.mono U.size);go_wp2;exact zH (v:=ag #[G b2,V a2 l2 k2]) (by simp[results,results190,go_sem,z,A]) rfl ⟨_,rfl,QJ ah a1 z A,
   (a3.setCell so _).setCell so _⟩
theorem Qa.setCell(h:Qa w x p q)(c:w.cell? a=E y)(b:∀k,y≠it .u32 k)(t:Value):Qa (w.setCell a t) x p q:=by
 obtain⟨d,v,u,e,f,g,i,j⟩:=h;exact⟨d,v,u,e,f.setCell c b t,g,i.setCell c b t,j⟩
theorem ziZ{a b K:Nat}(c:a<4294967296^K)(hb:b<4294967296^K):a*b<4294967296^(K+K):=by
 rw[Q6];exact Nat.mul_lt_mul'' c hb
theorem znl{b K:Nat}(a:z.natAbs<4294967296^K)(hb:b<4294967296^K):(z*(b:Int)).natAbs<4294967296^(K+K):=by
 rw[zbv,Q9];exact ziZ a hb
theorem zy.stored(m:zy w x z){f:Bool}{c a:Option Addr}{e l k:Nat}(h:Zh w g (G f) (V c e d)):zy ((w.setCell (Xd g 0 O) (G b)).setCell (Xd g 1 O) (V a l k)) x z:=by
 obtain⟨f,i,_,_,_⟩:=h;have j:(w.setCell (Xd g 0 O) (G b)).cell? (Xd g 1 O)=E (V c e d):=by rw[zA _ _ _ _ sp];exact i
 exact(m.setCell f sp _).setCell j sp _
theorem zee{o:Obj}{p:Addr}(h:w.cell? p=E v):(w.alloc o).cell? p=E v:=
 (((qf _ w).alloc (zh _) o).cell (zw h)).trans h
def Ext (w w':H):Prop:=Below w.heap.size w w'
theorem Ext.refl(w:H):Ext w w:=qf _ _
abbrev Xe:=@Ext.refl
theorem Ext.alloc(h:Ext w w')(o:Obj):Ext w (w'.alloc o):=Below.alloc h h.size o
theorem new1(w:H)(o:Obj):(w.alloc o).heap[w.heap.size]? =E o/\Ext w (w.alloc o):=⟨by show(w.heap.push o)[w.heap.size]? =E o;simp,(Xe w).alloc o⟩
theorem Ext.drew(h:Ext w w'):Ext w w'.drew:=⟨h.os,h.tape,h.output,h.size,h.block⟩
theorem Ext.trans{u v:H}(h:Ext u v)(k:Ext v w):Ext u w:=Qg h (k.mono h.size)
theorem Ext.of{u v:H}(h:Below u.heap.size u v):Ext u v:=h
abbrev Xh:=@Ext.of
theorem Ext.size(h:Ext w w'):w.heap.size<=w'.heap.size:=Below.size h
theorem Ext.cell(h:Ext w w'){p:Addr}(a:w.cell? p=E v):w'.cell? p=E v:=
 (Below.cell h (zw a)).trans a
